/- What stays in law AtomAdds while an item and by how much are put behind those that were: two appends, two stores and three calls in one statement. -/
import Derived.Test.YtfgppkmhjjnnnaaDoorAtoX
import Derived.Test.YtfgppkmhjjnnnaaDoorRegionInv
import Derived.Test.YtfgppkmhjjnnnaaDoorAtoR
import Derived.Test.YtfgppkmhjjnnnaaDoorAddA
import Derived.Test.YtfgppkmhjjnnnaaDoorAtoC
import Derived.Test.YtfgppkmhjjnnnaaDoorOpenAt
import Derived.Test.YtfgppkmhjjnnnaaDoorAtoAl
import Derived.Lib.LaidTab
import Derived.Lib.LaidU8
import Derived.Stop.LaidErr
import Derived.LaidLaws
import Derived.MakeChecks

namespace Go.Proofs.YtfgppkmhjjnnnaaDoor
open Go.RowKit Go.Shelf
set_option linter.unusedVariables false
theorem own_same {A B : World} {base e s n : Nat} {v : Value} {xs : List Value} (h : A.ownsRow base e s v n xs) (hk : ∀ g, v.ownBlock = some g → B.heap[g]? = A.heap[g]?) : B.ownsRow base e s v n xs := by
  obtain ⟨h1, h2⟩ := h
  refine ⟨h1, ?_⟩
  rcases h2 with h2 | ⟨g, cap, cur, hv, hg0, hh, r⟩
  · exact .inl h2
  · exact .inr ⟨g, cap, cur, hv, hg0, (hk g (by rw [hv]; rfl)).trans hh, r⟩
theorem no_type {W : World} {m e e' : Nat} {cs : Array Value} {fr : Nat × Nat} (h : W.heap[m]? = some (.cells cs e fr)) (hne : e ≠ e') : ∀ cs fr, W.heap[m]? ≠ some (.cells cs e' fr) := fun cs' fr' e2 => by
  rw [h] at e2
  cases e2
  exact hne rfl
/-- The one cell of a block, as the laws on append ask for it. -/
theorem one_cell {W : World} {b : Nat} {x : Value} {t : TypeId} (h : W.heap[b]? = some (.cells #[x] t (0, 0))) : ∀ j u, [x][j]? = some u → W.cell? ((⟨b, 0, none⟩ : Addr).add j) = some u := by
  intro j u hj
  match j, hj with
  | 0, hj =>
    simp at hj
    subst hj
    have h1 := Boxed.cell (show Boxed W b t x from h)
    simpa [Addr.add] using h1
end Go.Proofs.YtfgppkmhjjnnnaaDoor

namespace Go.Proofs.YtfgppkmhjjnnnaaDoor.R16
open Go.RowKit Go.Shelf Go.Proofs.YtfgppkmhjjnnnaaDoor
set_option linter.unusedVariables false
theorem grown_of_belowC {A B : World} (h : Below A.heap.size A B) : A.grownBy B none := ⟨h.os, h.tape, h.output, h.size, fun k hk _ => h.block k hk⟩
theorem own_grown {A B : World} {base e s n : Nat} {v : Value} {xs : List Value} {row : Option Nat} (h : A.ownsRow base e s v n xs) (hg : A.grownBy B row) (hn : ∀ g, v.ownBlock = some g → row ≠ some g) : B.ownsRow base e s v n xs := by
  obtain ⟨h1, h2⟩ := h
  refine ⟨h1, ?_⟩
  rcases h2 with h2 | ⟨g, cap, cur, hv, hg0, hh, r⟩
  · exact .inl h2
  · exact .inr ⟨g, cap, cur, hv, hg0, (hg.block g (Array.getElem?_eq_some_iff.1 hh).1 (fun e => hn g (by rw [hv]; rfl) e.symm)).trans hh, r⟩
theorem own_below {A B : World} {K base e s n : Nat} {v : Value} {xs : List Value} (h : A.ownsRow base e s v n xs) (hb : Below K A B) (hK : A.heap.size ≤ K) : B.ownsRow base e s v n xs := by
  obtain ⟨h1, h2⟩ := h
  refine ⟨h1, ?_⟩
  rcases h2 with h2 | ⟨g, cap, cur, hv, hg, hh, r⟩
  · exact .inl h2
  · exact .inr ⟨g, cap, cur, hv, hg, (hb.block g (Nat.lt_of_lt_of_le (Array.getElem?_eq_some_iff.1 hh).1 hK)).trans hh, r⟩
theorem own_at {A : World} {base e s n g : Nat} {v : Value} {xs : List Value} (h : A.ownsRow base e s v n xs) (hv : v.ownBlock = some g) : base ≤ g ∧ ∃ cur, A.heap[g]? = some (.cells cur e (0, 0)) := by
  rcases h.2 with ⟨e0, _⟩ | ⟨g', cap, cur, e0, hg, hh, _⟩
  · rw [e0] at hv; cases hv
  · rw [e0] at hv
    cases hv
    exact ⟨hg, cur, hh⟩
/-- Rows of unlike elements lie apart. -/
theorem own_ne {A : World} {b1 e1 s1 n1 b2 e2 s2 n2 : Nat} {v1 v2 : Value} {xs1 xs2 : List Value} (h1 : A.ownsRow b1 e1 s1 v1 n1 xs1) (h2 : A.ownsRow b2 e2 s2 v2 n2 xs2) (hne : e1 ≠ e2) : ∀ g, v1.ownBlock = some g → v2.ownBlock ≠ some g := by
  intro g hg hg2
  obtain ⟨_, c1, e3⟩ := own_at h1 hg
  obtain ⟨_, c2, e4⟩ := own_at h2 hg2
  rw [e3] at e4
  cases e4
  exact hne rfl
theorem own_box {A : World} {b1 e1 s1 n1 B : Nat} {t : TypeId} {v1 u : Value} {xs1 : List Value} (h1 : A.ownsRow b1 e1 s1 v1 n1 xs1) (h2 : Boxed A B t u) (hne : e1 ≠ t) : v1.ownBlock ≠ some B := by
  intro hg
  obtain ⟨_, c1, e3⟩ := own_at h1 hg
  rw [show A.heap[B]? = _ from h2] at e3
  cases e3
  exact hne rfl
theorem boxed_grown {A B : World} {b : Nat} {t : TypeId} {u : Value} {row : Option Nat} (h : Boxed A b t u) (hg : A.grownBy B row) (hn : row ≠ some b) : Boxed B b t u := h.kept hg (fun e => hn e.symm)
theorem boxed_below {A B : World} {K b : Nat} {t : TypeId} {u : Value} (h : Boxed A b t u) (hb : Below K A B) (hK : b < K) : Boxed B b t u := (hb.block b hK).trans h
theorem own_set {A : World} {base e s n b : Nat} {v u w : Value} {t : TypeId} {xs : List Value} (h : A.ownsRow base e s v n xs) (hb : Boxed A b t u) (hne : e ≠ t) : (A.setCell ⟨b, 0, none⟩ w).ownsRow base e s v n xs :=
  own_grown h (grownBy_setCell' A b w) (fun g hg e => by cases e; exact own_box h hb hne hg)

theorem own_base {A : World} {base base' e s n : Nat} {v : Value} {xs : List Value} (h : A.ownsRow base e s v n xs) (hb : base' ≤ base) : A.ownsRow base' e s v n xs := by
  obtain ⟨h1, h2⟩ := h
  refine ⟨h1, ?_⟩
  rcases h2 with h2 | ⟨g, cap, cur, hv, hg, r⟩
  · exact .inl h2
  · exact .inr ⟨g, cap, cur, hv, Nat.le_trans hb hg, r⟩
theorem below_grown2 {B : Nat} {W0 wr w1 : World} {e s : Nat} {v : Value} {n : Nat} {xs : List Value} (hown : wr.ownsRow B e s v n xs) (hB : B ≤ wr.heap.size) (hnx : Below B W0 wr) (hgrow : wr.grownBy w1 v.ownBlock) : Below B W0 w1 :=
  hnx.grown hgrow hB (fun j hj => (own_at hown hj).1)
/-- The world in the midst of region 16: which operations have come up is L. -/
structure RG (w Wb : World) (b7 b8 : Nat) (av : List Nat) (v1 v2 : Value) (k : Nat) (xs1 xs2 : List Value) (i1 i2 : Value) (L : Nat → Bool) (W : World) : Prop where
  sz : Wb.heap.size ≤ W.heap.size
  bel : Below w.heap.size w W
  ko : KeepsOthers Wb W
  kp : ∀ j, j < Wb.heap.size → j ≠ b7 → j ≠ b8 → v1.ownBlock ≠ some j → v2.ownBlock ≠ some j → W.heap[j]? = Wb.heap[j]?
  o1 : L 3 = false → W.ownsRow w.heap.size 3 1 v1 k xs1
  o2 : L 16 = false → W.ownsRow w.heap.size 2 1 v2 k xs2
  x1 : L 17 = false → Boxed W b7 25 v1
  x2 : L 18 = false → Boxed W b8 26 v2
  y1 : L 17 = true → L 3 = true ∧ ∃ v', Boxed W b7 25 v' ∧ W.ownsRow w.heap.size 3 1 v' (k + 1) (xs1 ++ [i1]) ∧ ∀ g, v'.ownBlock = some g → g ∉ av
  y2 : L 18 = true → L 16 = true ∧ ∃ v', Boxed W b8 26 v' ∧ W.ownsRow w.heap.size 2 1 v' (k + 1) (xs2 ++ [i2]) ∧ ∀ g, v'.ownBlock = some g → g ∉ av
  z1 : L 17 = true → L 0 = true
  z2 : L 18 = true → L 4 = true
section
variable {w Wb : World} {b7 b8 : Nat} {av : List Nat} {v1 v2 : Value} {k : Nat} {xs1 xs2 : List Value} {i1 i2 : Value} {L : Nat → Bool} {W W' : World}
theorem updL_true {L : Nat → Bool} {i j : Nat} (h : L j = true) : updL L i j = true := by unfold updL; split; rfl; exact h
theorem RG.upd (h : RG w Wb b7 b8 av v1 v2 k xs1 xs2 i1 i2 L W) {i : Nat} (h3 : 3 ≠ i) (h7 : 16 ≠ i) (h8 : 17 ≠ i) (h9 : 18 ≠ i) : RG w Wb b7 b8 av v1 v2 k xs1 xs2 i1 i2 (updL L i) W :=
  ⟨h.sz, h.bel, h.ko, h.kp, by rw [updL_ne _ h3]; exact h.o1, by rw [updL_ne _ h7]; exact h.o2, by rw [updL_ne _ h8]; exact h.x1, by rw [updL_ne _ h9]; exact h.x2, by rw [updL_ne _ h8, updL_ne _ h3]; exact h.y1, by rw [updL_ne _ h9, updL_ne _ h7]; exact h.y2, by rw [updL_ne _ h8]; exact fun e => updL_true (h.z1 e), by rw [updL_ne _ h9]; exact fun e => updL_true (h.z2 e)⟩
theorem RG.alloc (h : RG w Wb b7 b8 av v1 v2 k xs1 xs2 i1 i2 L W) (o : Obj) : RG w Wb b7 b8 av v1 v2 k xs1 xs2 i1 i2 L (W.alloc o) := by
  have hg := World.grownBy_alloc W o none
  have hn : ∀ {v : Value}, ∀ g, v.ownBlock = some g → (none : Option Nat) ≠ some g := fun _ _ e => by cases e
  refine ⟨Nat.le_trans h.sz hg.size, h.bel.alloc h.bel.size _, h.ko.trans (KeepsOthers.alloc W o), fun j h1 h2 h3 h4 h5 => (Below.heap_alloc W o j (Nat.lt_of_lt_of_le h1 h.sz)).trans (h.kp j h1 h2 h3 h4 h5), fun e => own_grown (h.o1 e) hg hn, fun e => own_grown (h.o2 e) hg hn, fun e => (h.x1 e).alloc o, fun e => (h.x2 e).alloc o, fun e => ?_, fun e => ?_, h.z1, h.z2⟩
  · obtain ⟨h1, v', h2, h3, h4⟩ := h.y1 e
    exact ⟨h1, v', h2.alloc o, own_grown h3 hg hn, h4⟩
  · obtain ⟨h1, v', h2, h3, h4⟩ := h.y2 e
    exact ⟨h1, v', h2.alloc o, own_grown h3 hg hn, h4⟩
theorem RG.below (h : RG w Wb b7 b8 av v1 v2 k xs1 xs2 i1 i2 L W) (hb : Below W.heap.size W W') : RG w Wb b7 b8 av v1 v2 k xs1 xs2 i1 i2 L W' := by
  have hg := grown_of_belowC hb
  have hn : ∀ {v : Value}, ∀ g, v.ownBlock = some g → (none : Option Nat) ≠ some g := fun _ _ e => by cases e
  refine ⟨Nat.le_trans h.sz hg.size, h.bel.trans (hb.mono h.bel.size), h.ko.trans ⟨hb.size, fun k o h1 h2 => (hb.block k (Array.getElem?_eq_some_iff.1 h1).1).trans h1⟩, fun j h1 h2 h3 h4 h5 => (hb.block j (Nat.lt_of_lt_of_le h1 h.sz)).trans (h.kp j h1 h2 h3 h4 h5), fun e => own_grown (h.o1 e) hg hn, fun e => own_grown (h.o2 e) hg hn, fun e => boxed_below (h.x1 e) hb (h.x1 e).lt, fun e => boxed_below (h.x2 e) hb (h.x2 e).lt, fun e => ?_, fun e => ?_, h.z1, h.z2⟩
  · obtain ⟨h1, v', h2, h3, h4⟩ := h.y1 e
    exact ⟨h1, v', boxed_below h2 hb h2.lt, own_grown h3 hg hn, h4⟩
  · obtain ⟨h1, v', h2, h3, h4⟩ := h.y2 e
    exact ⟨h1, v', boxed_below h2 hb h2.lt, own_grown h3 hg hn, h4⟩
theorem RG.drew (h : RG w Wb b7 b8 av v1 v2 k xs1 xs2 i1 i2 L W) : RG w Wb b7 b8 av v1 v2 k xs1 xs2 i1 i2 L W.drew :=
  ⟨h.sz, h.bel.drew, ⟨h.ko.size, h.ko.same⟩, h.kp, h.o1, h.o2, h.x1, h.x2, h.y1, h.y2, h.z1, h.z2⟩
theorem ko_grown {A B : World} {e : TypeId} {n s : Nat} {base : Nat} {v : Value} {xs : List Value} (h : A.ownsRow base e s v n xs) (hg : A.grownBy B v.ownBlock) : KeepsOthers A B :=
  KeepsOthers.of_grownBy hg fun j o ej hj => by
    obtain ⟨_, cur, hcur⟩ := own_at h ej
    rw [hcur] at hj
    cases hj
    rfl
theorem RG.app1 (h : RG w Wb b7 b8 av v1 v2 k xs1 xs2 i1 i2 L W) (hL : L 3 = false) (hg : W.grownBy W' v1.ownBlock) : RG w Wb b7 b8 av v1 v2 k xs1 xs2 i1 i2 (updL L 3) W' := by
  have ho := h.o1 hL
  have h8 : L 17 = false := by
    cases e : L 17 with
    | false => rfl
    | true => have := (h.y1 e).1; rw [hL] at this; cases this
  refine ⟨Nat.le_trans h.sz hg.size, below_grown2 ho h.bel.size h.bel hg, h.ko.trans (ko_grown ho hg), fun j h1 h2 h3 h4 h5 => (hg.block j (Nat.lt_of_lt_of_le h1 h.sz) (fun e => h4 e.symm)).trans (h.kp j h1 h2 h3 h4 h5), (fun e => by rw [updL_self] at e; cases e), ?_, ?_, ?_, ?_, ?_, (fun e => by rw [updL_ne _ (by decide)] at e; exact updL_true (h.z1 e)), (fun e => by rw [updL_ne _ (by decide)] at e; exact updL_true (h.z2 e))⟩
  · rw [updL_ne _ (by decide)]
    exact fun e => own_grown (h.o2 e) hg (fun g hg2 e2 => own_ne ho (h.o2 e) (by decide) g e2 hg2)
  · intro _
    exact boxed_grown (h.x1 h8) hg (own_box ho (h.x1 h8) (by decide))
  · rw [updL_ne _ (by decide)]
    exact fun e => boxed_grown (h.x2 e) hg (own_box ho (h.x2 e) (by decide))
  · rw [updL_ne _ (by decide), h8]
    intro e; cases e
  · rw [updL_ne _ (by decide), updL_ne _ (by decide)]
    intro e
    obtain ⟨h1, v', h2, h3, h4⟩ := h.y2 e
    exact ⟨h1, v', boxed_grown h2 hg (own_box ho h2 (by decide)), own_grown h3 hg (fun g hg2 e2 => own_ne ho h3 (by decide) g e2 hg2), h4⟩
theorem RG.app2 (h : RG w Wb b7 b8 av v1 v2 k xs1 xs2 i1 i2 L W) (hL : L 16 = false) (hg : W.grownBy W' v2.ownBlock) : RG w Wb b7 b8 av v1 v2 k xs1 xs2 i1 i2 (updL L 16) W' := by
  have ho := h.o2 hL
  have h9 : L 18 = false := by
    cases e : L 18 with
    | false => rfl
    | true => have := (h.y2 e).1; rw [hL] at this; cases this
  refine ⟨Nat.le_trans h.sz hg.size, below_grown2 ho h.bel.size h.bel hg, h.ko.trans (ko_grown ho hg), fun j h1 h2 h3 h4 h5 => (hg.block j (Nat.lt_of_lt_of_le h1 h.sz) (fun e => h5 e.symm)).trans (h.kp j h1 h2 h3 h4 h5), ?_, (fun e => by rw [updL_self] at e; cases e), ?_, ?_, ?_, ?_, (fun e => by rw [updL_ne _ (by decide)] at e; exact updL_true (h.z1 e)), (fun e => by rw [updL_ne _ (by decide)] at e; exact updL_true (h.z2 e))⟩
  · rw [updL_ne _ (by decide)]
    exact fun e => own_grown (h.o1 e) hg (fun g hg2 e2 => own_ne ho (h.o1 e) (by decide) g e2 hg2)
  · rw [updL_ne _ (by decide)]
    exact fun e => boxed_grown (h.x1 e) hg (own_box ho (h.x1 e) (by decide))
  · intro _
    exact boxed_grown (h.x2 h9) hg (own_box ho (h.x2 h9) (by decide))
  · rw [updL_ne _ (by decide), updL_ne _ (by decide)]
    intro e
    obtain ⟨h1, v', h2, h3, h4⟩ := h.y1 e
    exact ⟨h1, v', boxed_grown h2 hg (own_box ho h2 (by decide)), own_grown h3 hg (fun g hg2 e2 => own_ne ho h3 (by decide) g e2 hg2), h4⟩
  · rw [updL_ne _ (by decide), h9]
    intro e; cases e
theorem RG.st1 (h : RG w Wb b7 b8 av v1 v2 k xs1 xs2 i1 i2 L W) (hL : L 17 = false) (h3 : L 3 = true) (h0 : L 0 = true) (hne : b7 ≠ b8) (hb7 : w.heap.size ≤ b7) {u : Value} (hu : W.ownsRow w.heap.size 3 1 u (k + 1) (xs1 ++ [i1])) (hav : ∀ g, u.ownBlock = some g → g ∉ av) : RG w Wb b7 b8 av v1 v2 k xs1 xs2 i1 i2 (updL L 17) (W.setCell ⟨b7, 0, none⟩ u) := by
  have hx := h.x1 hL
  refine ⟨by simpa [World.setCell] using h.sz, h.bel.setCell (p := ⟨b7, 0, none⟩) hb7 _, h.ko.trans (KeepsOthers.setCell _ _ _), fun j h1 h2 h3 h4 h5 => (Below.heap_setCell W ⟨b7, 0, none⟩ u j h2).trans (h.kp j h1 h2 h3 h4 h5), ?_, ?_, (fun e => by rw [updL_self] at e; cases e), ?_, fun _ => ⟨by rw [updL_ne _ (by decide)]; exact h3, u, hx.set u, own_set hu hx (by decide), hav⟩, ?_, (fun _ => updL_true h0), (fun e => by rw [updL_ne _ (by decide)] at e; exact updL_true (h.z2 e))⟩
  · rw [updL_ne _ (by decide)]
    exact fun e => own_set (h.o1 e) hx (by decide)
  · rw [updL_ne _ (by decide)]
    exact fun e => own_set (h.o2 e) hx (by decide)
  · rw [updL_ne _ (by decide)]
    exact fun e => (h.x2 e).other (Ne.symm hne) _
  · rw [updL_ne _ (by decide), updL_ne _ (by decide)]
    intro e
    obtain ⟨h1, v', h2, h3, h4⟩ := h.y2 e
    exact ⟨h1, v', h2.other (Ne.symm hne) _, own_set h3 hx (by decide), h4⟩
theorem RG.st2 (h : RG w Wb b7 b8 av v1 v2 k xs1 xs2 i1 i2 L W) (hL : L 18 = false) (h7 : L 16 = true) (h4 : L 4 = true) (hne : b7 ≠ b8) (hb8 : w.heap.size ≤ b8) {u : Value} (hu : W.ownsRow w.heap.size 2 1 u (k + 1) (xs2 ++ [i2])) (hav : ∀ g, u.ownBlock = some g → g ∉ av) : RG w Wb b7 b8 av v1 v2 k xs1 xs2 i1 i2 (updL L 18) (W.setCell ⟨b8, 0, none⟩ u) := by
  have hx := h.x2 hL
  refine ⟨by simpa [World.setCell] using h.sz, h.bel.setCell (p := ⟨b8, 0, none⟩) hb8 _, h.ko.trans (KeepsOthers.setCell _ _ _), fun j h1 h2 h3 h4 h5 => (Below.heap_setCell W ⟨b8, 0, none⟩ u j h3).trans (h.kp j h1 h2 h3 h4 h5), ?_, ?_, ?_, (fun e => by rw [updL_self] at e; cases e), ?_, fun _ => ⟨by rw [updL_ne _ (by decide)]; exact h7, u, hx.set u, own_set hu hx (by decide), hav⟩, (fun e => by rw [updL_ne _ (by decide)] at e; exact updL_true (h.z1 e)), (fun _ => updL_true h4)⟩
  · rw [updL_ne _ (by decide)]
    exact fun e => own_set (h.o1 e) hx (by decide)
  · rw [updL_ne _ (by decide)]
    exact fun e => own_set (h.o2 e) hx (by decide)
  · rw [updL_ne _ (by decide)]
    exact fun e => (h.x1 e).other hne _
  · rw [updL_ne _ (by decide), updL_ne _ (by decide)]
    intro e
    obtain ⟨h1, v', h2, h3, h4⟩ := h.y1 e
    exact ⟨h1, v', h2.other hne _, own_set h3 hx (by decide), h4⟩
end

/-- Which blocks the operations of region 16 leave. -/
def RK (Wb : World) (j m : Nat) (W : World) : Prop :=
  (j = 3 → Wb.heap.size ≤ m ∨ ∀ cs fr, W.heap[m]? ≠ some (.cells cs 3 fr)) ∧ (j = 16 → Wb.heap.size ≤ m ∨ ∀ cs fr, W.heap[m]? ≠ some (.cells cs 2 fr)) ∧
  (j = 17 → ∀ cs fr, W.heap[m]? ≠ some (.cells cs 25 fr)) ∧ (j = 18 → ∀ cs fr, W.heap[m]? ≠ some (.cells cs 26 fr))
def RE (Wb : World) (j : Nat) (W W' : World) : Prop := W.heap.size ≤ W'.heap.size ∧ ∀ m, m < W.heap.size → RK Wb j m W → W'.heap[m]? = W.heap[m]?
/-- What is said of the values. -/
def RV (w Wb : World) (av : List Nat) (v1 v2 : Value) (k : Nat) (xs1 xs2 : List Value) (i1 i2 : Value) (f : Nat → Value) (i : Nat) (u : Value) (W : World) : Prop :=
  match i with
  | 0 => u = v1
  | 1 => u = i1
  | 2 => ∃ b, u = .slice (some ⟨b, 0, none⟩) 1 1 ∧ Wb.heap.size ≤ b ∧ W.heap[b]? = some (.cells #[i1] 3 (0, 0))
  | 3 => W.ownsRow w.heap.size 3 1 u (k + 1) (xs1 ++ [i1]) ∧ ∀ g, u.ownBlock = some g → g ∉ av
  | 4 => u = v2
  | 5 => u = f 5
  | 6 => u = f 6
  | 7 => u = f 7
  | 8 => u = f 8
  | 9 => u = f 9
  | 10 => u = f 10
  | 11 => u = f 11
  | 12 => u = f 12
  | 13 => u = f 13
  | 14 => u = i2
  | 15 => ∃ b, u = .slice (some ⟨b, 0, none⟩) 1 1 ∧ Wb.heap.size ≤ b ∧ W.heap[b]? = some (.cells #[i2] 2 (0, 0))
  | 16 => W.ownsRow w.heap.size 2 1 u (k + 1) (xs2 ++ [i2]) ∧ ∀ g, u.ownBlock = some g → g ∉ av
  | _ => True
theorem RV.keep {w Wb : World} {av : List Nat} {v1 v2 : Value} {k : Nat} {xs1 xs2 : List Value} {i1 i2 : Value} {f : Nat → Value} : ∀ (i j : Nat) (u : Value) (W W' : World), i ≠ j → RV w Wb av v1 v2 k xs1 xs2 i1 i2 f i u W → RE Wb j W W' → RV w Wb av v1 v2 k xs1 xs2 i1 i2 f i u W' := by
  intro i j u W W' hij h hx
  match i, h with
  | 0, h => exact h
  | 1, h => exact h
  | 2, ⟨b, e, hb, hc⟩ =>
    exact ⟨b, e, hb, (hx.2 b (Array.getElem?_eq_some_iff.1 hc).1 ⟨fun _ => .inl hb, fun _ => .inl hb, fun _ => no_type hc (by decide), fun _ => no_type hc (by decide)⟩).trans hc⟩
  | 3, ⟨h1, h2⟩ =>
    refine ⟨own_same h1 fun g hg => ?_, h2⟩
    obtain ⟨_, cur, hcur⟩ := own_at h1 hg
    exact hx.2 g (Array.getElem?_eq_some_iff.1 hcur).1 ⟨fun e => absurd e.symm hij, fun _ => .inr (no_type hcur (by decide)), fun _ => no_type hcur (by decide), fun _ => no_type hcur (by decide)⟩
  | 4, h => exact h
  | 5, h => exact h
  | 6, h => exact h
  | 7, h => exact h
  | 8, h => exact h
  | 9, h => exact h
  | 10, h => exact h
  | 11, h => exact h
  | 12, h => exact h
  | 13, h => exact h
  | 14, h => exact h
  | 15, ⟨b, e, hb, hc⟩ =>
    exact ⟨b, e, hb, (hx.2 b (Array.getElem?_eq_some_iff.1 hc).1 ⟨fun _ => .inl hb, fun _ => .inl hb, fun _ => no_type hc (by decide), fun _ => no_type hc (by decide)⟩).trans hc⟩
  | 16, ⟨h1, h2⟩ =>
    refine ⟨own_same h1 fun g hg => ?_, h2⟩
    obtain ⟨_, cur, hcur⟩ := own_at h1 hg
    exact hx.2 g (Array.getElem?_eq_some_iff.1 hcur).1 ⟨fun _ => .inr (no_type hcur (by decide)), fun e => absurd e.symm hij, fun _ => no_type hcur (by decide), fun _ => no_type hcur (by decide)⟩
  | n + 17, h => trivial
theorem RE.refl (Wb : World) (j : Nat) (W : World) : RE Wb j W W := ⟨Nat.le_refl _, fun _ _ _ => rfl⟩
theorem RE.below (Wb : World) (j : Nat) {W W' : World} (hb : Below W.heap.size W W') : RE Wb j W W' := ⟨hb.size, fun m hm _ => hb.block m hm⟩
theorem RE.alloc (Wb : World) (j : Nat) (W : World) (o : Obj) : RE Wb j W (W.alloc o) := ⟨by simp, fun m hm _ => Below.heap_alloc W o m hm⟩
theorem RE.app1 {Wb W W' : World} {v : Value} {n : Nat} {base : Nat} {xs : List Value} (ho : W.ownsRow base 3 1 v n xs) (hl : ∀ g, v.ownBlock = some g → g < Wb.heap.size) (hg : W.grownBy W' v.ownBlock) : RE Wb 3 W W' := ⟨hg.size, fun m hm hk => hg.block m hm fun e => by
  obtain ⟨_, cur, hcur⟩ := own_at ho e.symm
  rcases hk.1 rfl with h | h
  · have := hl m e.symm; omega
  · exact h _ _ hcur⟩
theorem RE.app2 {Wb W W' : World} {v : Value} {n : Nat} {base : Nat} {xs : List Value} (ho : W.ownsRow base 2 1 v n xs) (hl : ∀ g, v.ownBlock = some g → g < Wb.heap.size) (hg : W.grownBy W' v.ownBlock) : RE Wb 16 W W' := ⟨hg.size, fun m hm hk => hg.block m hm fun e => by
  obtain ⟨_, cur, hcur⟩ := own_at ho e.symm
  rcases hk.2.1 rfl with h | h
  · have := hl m e.symm; omega
  · exact h _ _ hcur⟩
theorem RE.st1 {Wb W : World} {b : Nat} {v u : Value} (hb : Boxed W b 25 v) : RE Wb 17 W (W.setCell ⟨b, 0, none⟩ u) := ⟨by simp [World.setCell], fun m hm hk => Below.heap_setCell W ⟨b, 0, none⟩ u m fun e => hk.2.2.1 rfl #[v] (0, 0) (by rw [e]; exact hb)⟩
theorem RE.st2 {Wb W : World} {b : Nat} {v u : Value} (hb : Boxed W b 26 v) : RE Wb 18 W (W.setCell ⟨b, 0, none⟩ u) := ⟨by simp [World.setCell], fun m hm hk => Below.heap_setCell W ⟨b, 0, none⟩ u m fun e => hk.2.2.2 rfl #[v] (0, 0) (by rw [e]; exact hb)⟩
end Go.Proofs.YtfgppkmhjjnnnaaDoor.R16

/- law AtomAdds: the list of what adding each item gains, what stays while the law goes over it. -/
namespace Go.Proofs.YtfgppkmhjjnnnaaDoor
open Go.RowKit Go.Shelf
open Go.Proofs.YtfgppkmhjjnnnaaDoor.R16 (own_grown own_below own_base own_at own_ne own_box boxed_grown boxed_below own_set)
set_option linter.unusedVariables false

theorem env_of {W : World} (h : laidMetH Tryd.prog Rows.atomAddsRow.laid W) : Env W := by
  rw [Go.MakeChecks.laidMetH_plain Tryd.prog Rows.atomAddsRow.laid W (by kernel_rfl)] at h
  have ht := Go.Lib.tabIs_of_head (k := .u8) (zs := Lib.deBruijn64tab.map Int.ofNat) (show Tryd.prog.globalNamed "math/bits.deBruijn64tab" = some 0 by kernel_rfl) (show (Tryd.prog.globals[0]?).map (·.type) = some 70 by kernel_rfl) Tryd.underlying70 Tryd.underlying5 (by kernel_rfl) (by kernel_rfl) h
  have hc : TabAt 0 Lib.deBruijn64tab W := by
    intro j hj
    rw [ht.cell (show Tryd.prog.globalNamed "math/bits.deBruijn64tab" = some 0 by kernel_rfl) j (by simpa using hj)]
    simp [List.getD, hj]
  refine ⟨hc, ?_⟩
  have h0 := hc 0 (by decide)
  rcases Nat.lt_or_ge 0 W.heap.size with h' | h'
  · exact h'
  · simp [World.cell?, Array.getElem?_eq_none h'] at h0
theorem bool_res6 (tmps : Array Value) (w : World) (b : Nat) (v : Value) (hp : tmps.getD 6 undef = .pointer (some ⟨b, 0, none⟩)) (c : w.cell? ⟨b, 0, none⟩ = some v) : (results Tryd.f3 tmps).run Tryd.prog w = .ok v w := by
  have hp' : tmps[6]?.getD undef = .pointer (some ⟨b, 0, none⟩) := by simpa using hp
  have k1 : (loadVar 4 ⟨b, 0, none⟩).run Tryd.prog w = .ok v w := by simp [go_sem, c]
  simp [results, hp', asAddr, k1]

/-! The math. -/
def inR (zs : List Ent) (i : Nat) : Bool := zs.any (fun x => rightA 1099511627776 x && x.1.testBit i)
theorem inR_next {zs : List Ent} {m i : Nat} {x : Ent} (hx : zs[m]? = some x) : inR (zs.take (m + 1)) i = (inR (zs.take m) i || (rightA 1099511627776 x && x.1.testBit i)) := by
  unfold inR
  rw [List.take_add_one, hx]
  simp
theorem inA_full {x : Ent} (h : okS x.1) : inA 18446744073709551615 x = rightA 1099511627776 x := by
  have : withinB x.1 18446744073709551615 = true := withinB_iff.2 (fun i hi _ => by
    rw [show 18446744073709551615 = 2 ^ 64 - 1 from rfl, Nat.testBit_two_pow_sub_one]
    simp; exact hi)
  unfold inA
  rw [this, Bool.and_true]
theorem inR_umax : ∀ (zs : List Ent) (i : Nat), (∀ x ∈ zs, okS x.1) → inR zs i = (umax (zs.filter (inA 18446744073709551615))).testBit i
  | [], i, _ => by simp [inR, umax]
  | x :: r, i, h => by
    have ih := inR_umax r i (fun y hy => h y (List.mem_cons_of_mem _ hy))
    have e : inR (x :: r) i = ((rightA 1099511627776 x && x.1.testBit i) || inR r i) := rfl
    rw [e, ih, List.filter_cons, inA_full (h x List.mem_cons_self)]
    cases hr : rightA 1099511627776 x with
    | false => simp
    | true => simp [umax_cons]
/-- What adding an item gains, of the items below k. -/
def addL (F : List Ent) (U s k : Nat) : List (Nat × Int) := ((List.range k).filter (fun i => U.testBit i && !s.testBit i)).map (fun i => (i, growV F s i))
theorem addL_zero (F : List Ent) (U s : Nat) : addL F U s 0 = [] := rfl
theorem addL_succ (F : List Ent) (U s k : Nat) : addL F U s (k + 1) = addL F U s k ++ (if (U.testBit k && !s.testBit k) = true then [(k, growV F s k)] else []) := by
  unfold addL
  rw [List.range_succ, List.filter_append, List.map_append]
  congr 1
  rw [List.filter_cons]
  split <;> simp
theorem addL_len (F : List Ent) (U s k : Nat) : (addL F U s k).length ≤ k := by
  unfold addL
  rw [List.length_map]
  simpa using List.length_filter_le (fun i => U.testBit i && !s.testBit i) (List.range k)
theorem not_bit {s i : Nat} (hs : okS s) (hi : i < 64) : (18446744073709551615 - s).testBit i = !s.testBit i := by
  have := Nat.testBit_two_pow_sub_succ (n := 64) (x := s) (by unfold okS at hs; omega) i
  rw [show 18446744073709551615 - s = 2 ^ 64 - (s + 1) from by unfold okS at hs; omega, this]
  simp [hi]
theorem addL_all (F : List Ent) (U s : Nat) (hs : okS s) : (items (U &&& (18446744073709551615 - s))).map (fun i => (i, growV F s i)) = addL F U s 64 := by
  unfold addL items
  congr 1
  apply List.filter_congr
  intro i hi
  rw [Nat.testBit_and, not_bit hs (List.mem_range.1 hi)]
theorem grow_bd (zs : List Ent) (s i : Nat) : 0 ≤ growV (zs.filter (rightA 1099511627776)) s i ∧ growV (zs.filter (rightA 1099511627776)) s i ≤ 1099511627776 := by
  have h1 := askL_nonneg (wi := withinB) (zs.filter (rightA 1099511627776)) s
  have h2 := ask_most zs (s ||| 2 ^ i)
  have h3 : askL withinB (zs.filter (rightA 1099511627776)) s ≤ askL withinB (zs.filter (rightA 1099511627776)) (s ||| 2 ^ i) := by
    refine askL_le (askL_nonneg _ _) (fun x hx hw => askL_ge hx (withinB_iff.2 fun j hj hb => ?_))
    rw [Nat.testBit_or, withinB_iff.1 hw j hj hb]; rfl
  unfold growV
  omega
theorem addL_pos {zs : List Ent} {U s k : Nat} {x : Nat × Int} (h : x ∈ addL (zs.filter (rightA 1099511627776)) U s k) : 0 ≤ x.2 ∧ x.1 < k := by
  unfold addL at h
  obtain ⟨i, hi, rfl⟩ := List.mem_map.1 h
  exact ⟨(grow_bd zs s i).1, List.mem_range.1 (List.mem_filter.1 hi).1⟩

/-! The two lists. -/
def itV (x : Nat × Int) : Value := .int .i64 (x.1 : Nat)
def vaV (x : Nat × Int) : Value := .int .i64 x.2
/-- The two lists, each in a box. -/
structure TwoA (w4 : World) (b7 b8 : Nat) (xs : List (Nat × Int)) (W : World) : Prop where
  it : ∃ v, Boxed W b7 25 v ∧ W.ownsRow w4.heap.size 3 1 v xs.length (xs.map itV)
  va : ∃ v, Boxed W b8 26 v ∧ W.ownsRow w4.heap.size 2 1 v xs.length (xs.map vaV)
  b : Below w4.heap.size w4 W
theorem TwoA.below {w4 A C : World} {b7 b8 : Nat} {xs : List (Nat × Int)} (h : TwoA w4 b7 b8 xs A) (hb : Below A.heap.size A C) : TwoA w4 b7 b8 xs C := by
  obtain ⟨v1, h1, h2⟩ := h.it
  obtain ⟨v2, h3, h4⟩ := h.va
  exact ⟨⟨v1, boxed_below h1 hb h1.lt, own_below h2 hb (Nat.le_refl _)⟩, ⟨v2, boxed_below h3 hb h3.lt, own_below h4 hb (Nat.le_refl _)⟩, h.b.trans (hb.mono h.b.size)⟩
theorem TwoA.start (w4 : World) : TwoA w4 (w4.heap.size + 1 + 1) (w4.heap.size + 1 + 1 + 1) [] ((((w4.alloc (.cells #[] 3)).alloc (.cells #[] 2)).alloc (.cells #[.slice (some ⟨w4.heap.size, 0, none⟩) 0 0] 25)).alloc (.cells #[.slice (some ⟨w4.heap.size + 1, 0, none⟩) 0 0] 26)) := by
  obtain ⟨A1, e1⟩ : ∃ A1, w4.alloc (.cells #[] 3) = A1 := ⟨_, rfl⟩
  have z1 : A1.heap.size = w4.heap.size + 1 := by rw [← e1]; simp
  have r1 : A1.ownsRow w4.heap.size 3 1 (.slice (some ⟨w4.heap.size, 0, none⟩) 0 0) 0 [] := by rw [← e1]; exact ownsRow_empty w4 3
  have b1 : Below w4.heap.size w4 A1 := by rw [← e1]; exact (Below.refl _ _).alloc (Nat.le_refl _) _
  rw [e1]
  obtain ⟨A2, e2⟩ : ∃ A2, A1.alloc (.cells #[] 2) = A2 := ⟨_, rfl⟩
  have z2 : A2.heap.size = w4.heap.size + 1 + 1 := by rw [← e2]; simp; omega
  have r2 : A2.ownsRow w4.heap.size 2 1 (.slice (some ⟨w4.heap.size + 1, 0, none⟩) 0 0) 0 [] := by rw [← e2, ← z1]; exact own_base (ownsRow_empty A1 2) (by omega)
  have r1' : A2.ownsRow w4.heap.size 3 1 (.slice (some ⟨w4.heap.size, 0, none⟩) 0 0) 0 [] := by rw [← e2]; exact own_grown r1 (World.grownBy_alloc A1 _ none) (fun _ _ h => by cases h)
  have b2 : Below w4.heap.size w4 A2 := by rw [← e2]; exact b1.alloc b1.size _
  rw [e2]
  obtain ⟨A3, e3⟩ : ∃ A3, A2.alloc (.cells #[.slice (some ⟨w4.heap.size, 0, none⟩) 0 0] 25) = A3 := ⟨_, rfl⟩
  have z3 : A3.heap.size = w4.heap.size + 1 + 1 + 1 := by rw [← e3]; simp; omega
  have x3 : Boxed A3 (w4.heap.size + 1 + 1) 25 (.slice (some ⟨w4.heap.size, 0, none⟩) 0 0) := by rw [← e3, ← z2]; exact Boxed.new A2 _ _
  have r13 : A3.ownsRow w4.heap.size 3 1 (.slice (some ⟨w4.heap.size, 0, none⟩) 0 0) 0 [] := by rw [← e3]; exact own_grown r1' (World.grownBy_alloc A2 _ none) (fun _ _ h => by cases h)
  have r23 : A3.ownsRow w4.heap.size 2 1 (.slice (some ⟨w4.heap.size + 1, 0, none⟩) 0 0) 0 [] := by rw [← e3]; exact own_grown r2 (World.grownBy_alloc A2 _ none) (fun _ _ h => by cases h)
  have b3 : Below w4.heap.size w4 A3 := by rw [← e3]; exact b2.alloc b2.size _
  rw [e3]
  have x4 : Boxed (A3.alloc (.cells #[.slice (some ⟨w4.heap.size + 1, 0, none⟩) 0 0] 26)) (w4.heap.size + 1 + 1 + 1) 26 (.slice (some ⟨w4.heap.size + 1, 0, none⟩) 0 0) := by rw [← z3]; exact Boxed.new A3 _ _
  exact ⟨⟨_, x3.alloc _, own_grown r13 (World.grownBy_alloc A3 _ none) (fun _ _ h => by cases h)⟩, ⟨_, x4, own_grown r23 (World.grownBy_alloc A3 _ none) (fun _ _ h => by cases h)⟩, b3.alloc b3.size _⟩
/-- What stands when the law begins to go over what atom.Adds tells. -/
structure AdK (w w8 : World) (b7 b8 b13 B1 B2 q s : Nat) (sv : Value) (zs : List Ent) (all : List (Nat × Int)) : Prop where
  most : Boxed w8 w.heap.size 3 (.int .i64 (q : Nat))
  res : ∃ u, Boxed w8 (w.heap.size + 1) 4 u
  it : ∃ v, Boxed w8 b7 25 v ∧ w8.ownsRow w.heap.size 3 1 v all.length (all.map itV) ∧ ∀ g, v.ownBlock = some g → g ≠ b13
  va : ∃ v, Boxed w8 b8 26 v ∧ w8.ownsRow w.heap.size 2 1 v all.length (all.map vaV) ∧ ∀ g, v.ownBlock = some g → g ≠ b13
  x1 : Boxed w8 B1 22 sv
  x2 : Boxed w8 B2 23 (.int .u64 (s : Nat))
  row : EnsP w8.heap.size w8 sv zs
  off : OffE [b13] sv
  env : Env w8
  i : Boxed w8 b13 3 (.int .i64 0)
  ne : w.heap.size + 1 < b13
  g : 0 < w.heap.size
  bel : Below w.heap.size w w8
/-- What stays while the law goes over what is told: the world at which it was last set, what is to come. -/
def AJ (w8 : World) (b13 q : Nat) (all : List (Nat × Int)) (st : World × List (Nat × Int)) (W : World) : Prop :=
  But [b13, w8.heap.size, w8.heap.size + 1] st.1 W ∧ w8.heap.size + 2 ≤ W.heap.size ∧ But [b13] w8 W ∧ ∃ k, all.drop k = st.2 ∧ k ≤ all.length ∧ Boxed W b13 3 (.int .i64 (k : Nat)) ∧ k < q
def AJm (w8 : World) (b13 q : Nat) (all : List (Nat × Int)) (st : World × List (Nat × Int)) (x : Nat × Int) (W : World) : Prop := AJ w8 b13 q all st W ∧ ∃ r, st.2 = x :: r
def AJx (w8 : World) (b13 q : Nat) (all : List (Nat × Int)) (cx : Code) (st : World × List (Nat × Int)) (c : Code) (W : World) : Prop :=
  But [b13, w8.heap.size, w8.heap.size + 1] st.1 W ∧ w8.heap.size + 2 ≤ W.heap.size ∧ But [b13] w8 W ∧ c = cx ∧ Boxed W b13 3 (.int .i64 (q : Nat)) ∧ q ≤ all.length
def AJf (st st' : World × List (Nat × Int)) : Prop := st'.2 = st.2.tail ∧ st'.1 = st.1
theorem AJ.noRec {w8 : World} {b13 q : Nat} {all : List (Nat × Int)} (h13 : b13 < w8.heap.size) (st : World × List (Nat × Int)) : NoRec w8.heap.size (AJ w8 b13 q all st) := fun W o k hk ⟨h1, h2, h3, j, h4, h5, h6, h7⟩ => by
  have hb := But.putObj W k o
  refine ⟨h1.trans hb (fun i hi => .inl ?_), Nat.le_trans h2 hb.size, h3.trans hb (fun i hi => .inr ?_), j, h4, h5, (hb.block _ h6.lt (fun e => ?_)).trans h6, h7⟩
  · simp at hi; subst hi; rcases hk with rfl | rfl <;> simp
  · simp at hi; omega
  · simp at e; omega
theorem AJx.noRec {w8 : World} {b13 q : Nat} {all : List (Nat × Int)} {cx : Code} (h13 : b13 < w8.heap.size) (st : World × List (Nat × Int)) (c : Code) : NoRec w8.heap.size (AJx w8 b13 q all cx st c) := fun W o k hk ⟨h1, h2, h3, h4, h6, h7⟩ => by
  have hb := But.putObj W k o
  refine ⟨h1.trans hb (fun i hi => .inl ?_), Nat.le_trans h2 hb.size, h3.trans hb (fun i hi => .inr ?_), h4, (hb.block _ h6.lt (fun e => ?_)).trans h6, h7⟩
  · simp at hi; subst hi; rcases hk with rfl | rfl <;> simp
  · simp at hi; omega
  · simp at e; omega
theorem AdK.addC {w w8 : World} {b7 b8 b13 B1 B2 q s : Nat} {sv : Value} {zs : List Ent} {all : List (Nat × Int)} (h : AdK w w8 b7 b8 b13 B1 B2 q s sv zs all) (hne : B1 ≠ b13 ∧ B2 ≠ b13) (cx : Code) :
    AddC B1 B2 sv zs s [b13, w8.heap.size, w8.heap.size + 1] (w8.heap.size + 2) (fun st : World × List (Nat × Int) => st.2) (fun st => st.1) (AJ w8 b13 q all) (AJm w8 b13 q all) (AJx w8 b13 q all cx) AJf where
  lt := fun k hk => by have := h.i.lt; simp at hk; omega
  at_ := fun st W hj => hj.1
  turn := fun st W W' own' ⟨h1, h2, h3, k, h4, h5, h6, h7⟩ hb ho => ⟨(W', st.2), rfl, rfl, But.refl _ _, Nat.le_trans h2 hb.size, h3.trans hb (fun i hi => .inr (by have := ho i hi; omega)), k, h4, h5, (hb.block _ h6.lt (fun e => by have := ho _ e; have := h.i.lt; omega)).trans h6, h7⟩
  atX := fun st c W hj => hj.1
  turnX := fun st c W W' own' ⟨h1, h2, h3, h4, h6, h7⟩ hb ho => ⟨(W', st.2), But.refl _ _, Nat.le_trans h2 hb.size, h3.trans hb (fun i hi => .inr (by have := ho i hi; omega)), h4, (hb.block _ h6.lt (fun e => by have := ho _ e; have := h.i.lt; omega)).trans h6, h7⟩
  yield := fun st W x r hj hr => ⟨hj, r, hr⟩
  next := fun st st' ⟨h1, h2⟩ => ⟨h1, by rw [h2]; exact But.refl _ _⟩
  row := fun st W ⟨h1, h2, h3, _⟩ => ⟨(h3.block _ h.x1.lt (by simp; exact hne.1)).trans h.x1, (h3.block _ h.x2.lt (by simp; exact hne.2)).trans h.x2, (h.row.but h3 h.off (Nat.le_refl _)).mono (by omega), h.env.but h3 (by simp; have := h.g; have := h.ne; omega), h2⟩
/-- What the moves and calls of region 16 hand on. -/
def addF (av : Value) (s k pw sp : Nat) (V1 V0 : Int) : Nat → Value
  | 5 => av
  | 6 => .int .u64 (s : Nat)
  | 7 => .int .i64 (k : Nat)
  | 8 => .int .u64 (pw : Nat)
  | 9 => .int .u64 (sp : Nat)
  | 10 => .int .i64 V1
  | 11 => av
  | 12 => .int .u64 (s : Nat)
  | 13 => .int .i64 V0
  | _ => undef
theorem own_cellA {A : World} {base e s n i : Nat} {a : Option Addr} {c : Nat} {xs : List Value} {u : Value} (h : A.ownsRow base e s (.slice a n c) n xs) (hu : xs[i]? = some u) : ∃ g, a = some ⟨g, 0, none⟩ ∧ A.cell? ⟨g, i, none⟩ = some u := by
  rcases h.2 with ⟨e0, h0⟩ | ⟨g, cap, cur, e0, _, hgb, hn, _, hs, ht⟩
  · have := h.1
    subst h0
    simp at this
    rw [this] at hu; simp at hu
  · cases e0
    refine ⟨g, rfl, ?_⟩
    rw [← ht, List.getElem?_take] at hu
    split at hu
    · simp only [World.cell?, hgb]
      simpa using hu
    · cases hu
/-- The two lists, read while the law goes over what is told. -/
theorem AdK.lists {w w8 : World} {b7 b8 b13 B1 B2 q s : Nat} {sv : Value} {zs : List Ent} {all : List (Nat × Int)} (h : AdK w w8 b7 b8 b13 B1 B2 q s sv zs all) (h7 : b7 ≠ b13) (h8 : b8 ≠ b13) :
    ∃ ra rc ta tc, ∀ V, But [b13] w8 V → V.cell? ⟨b7, 0, none⟩ = some (.slice ra all.length rc) ∧ V.cell? ⟨b8, 0, none⟩ = some (.slice ta all.length tc) ∧
      ∀ (j : Nat) (x : Nat × Int), all[j]? = some x → ∃ g g', ra = some ⟨g, 0, none⟩ ∧ V.cell? ⟨g, j, none⟩ = some (.int .i64 (x.1 : Nat)) ∧ ta = some ⟨g', 0, none⟩ ∧ V.cell? ⟨g', j, none⟩ = some (.int .i64 x.2) := by
  obtain ⟨v1, hx1, ho1, hn1⟩ := h.it
  obtain ⟨v2, hx2, ho2, hn2⟩ := h.va
  obtain ⟨ra, rc, rfl⟩ := own_form ho1
  obtain ⟨ta, tc, rfl⟩ := own_form ho2
  refine ⟨ra, rc, ta, tc, fun V hb => ?_⟩
  have k1 : Boxed V b7 25 (.slice ra all.length rc) := (hb.block _ hx1.lt (by simp; exact h7)).trans hx1
  have k2 : Boxed V b8 26 (.slice ta all.length tc) := (hb.block _ hx2.lt (by simp; exact h8)).trans hx2
  have r1 := own_same (B := V) ho1 (fun g hg => hb.block g (World.ownsRow.lt ho1 g hg).2 (by simp; exact hn1 g hg))
  have r2 := own_same (B := V) ho2 (fun g hg => hb.block g (World.ownsRow.lt ho2 g hg).2 (by simp; exact hn2 g hg))
  refine ⟨k1.cell, k2.cell, fun j x hx => ?_⟩
  obtain ⟨g, e1, c1⟩ := own_cellA r1 (show (all.map itV)[j]? = some (itV x) by rw [List.getElem?_map, hx]; rfl)
  obtain ⟨g', e2, c2⟩ := own_cellA r2 (show (all.map vaV)[j]? = some (vaV x) by rw [List.getElem?_map, hx]; rfl)
  exact ⟨g, g', e1, c1, e2, c2⟩
end Go.Proofs.YtfgppkmhjjnnnaaDoor
