/- What stays in law JournalLooks while a place and its words are put behind those that were: two appends and two stores in one statement. -/
import Derived.Test.YtocmfdahnekboaaDoorFrameJ
import Derived.Test.YtocmfdahnekboaaDoorRegionInvV
import Derived.Test.YtocmfdahnekboaaDoorLookA
namespace Go.Proofs.YtocmfdahnekboaaDoor
open Go.RowKit Go.Shelf
set_option linter.unusedVariables false
theorem own_same {A B : World} {base e s n : Nat} {v : Value} {xs : List Value} (h : A.ownsRow base e s v n xs) (hk : ∀ g, v.ownBlock = some g → B.heap[g]? = A.heap[g]?) : B.ownsRow base e s v n xs := by
  obtain ⟨h1, h2⟩ := h
  refine ⟨h1, ?_⟩
  rcases h2 with h2 | ⟨g, cap, cur, hv, hg0, hh, r⟩
  · exact .inl h2
  · exact .inr ⟨g, cap, cur, hv, hg0, (hk g (by rw [hv]; rfl)).trans hh, r⟩
theorem no_type {W : World} {m e e' : Nat} {cs : Array Value} {fr : Nat × Nat} (h : W.heap[m]? = some (.cells cs e fr)) (hne : e ≠ e') : ∀ cs fr, W.heap[m]? ≠ some (.cells cs e' fr) := fun cs' fr' e2 => by
  rw [h] at e2
  cases e2
  exact hne rfl
/-- The one cell of a block, as the laws on append ask for it. -/
theorem one_cell {W : World} {b : Nat} {x : Value} {t : TypeId} (h : W.heap[b]? = some (.cells #[x] t (0, 0))) : ∀ j u, [x][j]? = some u → W.cell? ((⟨b, 0, none⟩ : Addr).add j) = some u := by
  intro j u hj
  match j, hj with
  | 0, hj =>
    simp at hj
    subst hj
    have h1 := Boxed.cell (show Boxed W b t x from h)
    simpa [Addr.add] using h1
end Go.Proofs.YtocmfdahnekboaaDoor

namespace Go.Proofs.YtocmfdahnekboaaDoor.R17
open Go.RowKit Go.Shelf Go.Proofs.YtocmfdahnekboaaDoor
set_option linter.unusedVariables false
/-- The world in the midst of region 17: which operations have come up is L. -/
structure RG (w Wb : World) (b7 b8 : Nat) (av : List Nat) (v1 v2 : Value) (k : Nat) (xs1 xs2 : List Value) (i1 i2 : Value) (L : Nat → Bool) (W : World) : Prop where
  sz : Wb.heap.size ≤ W.heap.size
  bel : Below w.heap.size w W
  ko : KeepsOthers Wb W
  kp : ∀ j, j < Wb.heap.size → j ≠ b7 → j ≠ b8 → v1.ownBlock ≠ some j → v2.ownBlock ≠ some j → W.heap[j]? = Wb.heap[j]?
  o1 : L 4 = false → W.ownsRow w.heap.size 3 1 v1 k xs1
  o2 : L 14 = false → W.ownsRow w.heap.size 9 1 v2 k xs2
  x1 : L 15 = false → Boxed W b7 30 v1
  x2 : L 16 = false → Boxed W b8 31 v2
  y1 : L 15 = true → L 4 = true ∧ ∃ v', Boxed W b7 30 v' ∧ W.ownsRow w.heap.size 3 1 v' (k + 1) (xs1 ++ [i1]) ∧ ∀ g, v'.ownBlock = some g → g ∉ av
  y2 : L 16 = true → L 14 = true ∧ ∃ v', Boxed W b8 31 v' ∧ W.ownsRow w.heap.size 9 1 v' (k + 1) (xs2 ++ [i2]) ∧ ∀ g, v'.ownBlock = some g → g ∉ av
  z1 : L 15 = true → L 0 = true
  z2 : L 16 = true → L 5 = true
section
variable {w Wb : World} {b7 b8 : Nat} {av : List Nat} {v1 v2 : Value} {k : Nat} {xs1 xs2 : List Value} {i1 i2 : Value} {L : Nat → Bool} {W W' : World}
theorem updL_true {L : Nat → Bool} {i j : Nat} (h : L j = true) : updL L i j = true := by unfold updL; split; rfl; exact h
theorem RG.upd (h : RG w Wb b7 b8 av v1 v2 k xs1 xs2 i1 i2 L W) {i : Nat} (h3 : 4 ≠ i) (h7 : 14 ≠ i) (h8 : 15 ≠ i) (h9 : 16 ≠ i) : RG w Wb b7 b8 av v1 v2 k xs1 xs2 i1 i2 (updL L i) W :=
  ⟨h.sz, h.bel, h.ko, h.kp, by rw [updL_ne _ h3]; exact h.o1, by rw [updL_ne _ h7]; exact h.o2, by rw [updL_ne _ h8]; exact h.x1, by rw [updL_ne _ h9]; exact h.x2, by rw [updL_ne _ h8, updL_ne _ h3]; exact h.y1, by rw [updL_ne _ h9, updL_ne _ h7]; exact h.y2, by rw [updL_ne _ h8]; exact fun e => updL_true (h.z1 e), by rw [updL_ne _ h9]; exact fun e => updL_true (h.z2 e)⟩
theorem RG.alloc (h : RG w Wb b7 b8 av v1 v2 k xs1 xs2 i1 i2 L W) (o : Obj) : RG w Wb b7 b8 av v1 v2 k xs1 xs2 i1 i2 L (W.alloc o) := by
  have hg := World.grownBy_alloc W o none
  have hn : ∀ {v : Value}, ∀ g, v.ownBlock = some g → (none : Option Nat) ≠ some g := fun _ _ e => by cases e
  refine ⟨Nat.le_trans h.sz hg.size, h.bel.alloc h.bel.size _, h.ko.trans (KeepsOthers.alloc W o), fun j h1 h2 h3 h4 h5 => (Below.heap_alloc W o j (Nat.lt_of_lt_of_le h1 h.sz)).trans (h.kp j h1 h2 h3 h4 h5), fun e => own_grown (h.o1 e) hg hn, fun e => own_grown (h.o2 e) hg hn, fun e => (h.x1 e).alloc o, fun e => (h.x2 e).alloc o, fun e => ?_, fun e => ?_, h.z1, h.z2⟩
  · obtain ⟨h1, v', h2, h3, h4⟩ := h.y1 e
    exact ⟨h1, v', h2.alloc o, own_grown h3 hg hn, h4⟩
  · obtain ⟨h1, v', h2, h3, h4⟩ := h.y2 e
    exact ⟨h1, v', h2.alloc o, own_grown h3 hg hn, h4⟩
theorem RG.below (h : RG w Wb b7 b8 av v1 v2 k xs1 xs2 i1 i2 L W) (hb : Below W.heap.size W W') : RG w Wb b7 b8 av v1 v2 k xs1 xs2 i1 i2 L W' := by
  have hg := grown_of_below hb
  have hn : ∀ {v : Value}, ∀ g, v.ownBlock = some g → (none : Option Nat) ≠ some g := fun _ _ e => by cases e
  refine ⟨Nat.le_trans h.sz hg.size, h.bel.trans (hb.mono h.bel.size), h.ko.trans ⟨hb.size, fun k o h1 h2 => (hb.block k (Array.getElem?_eq_some_iff.1 h1).1).trans h1⟩, fun j h1 h2 h3 h4 h5 => (hb.block j (Nat.lt_of_lt_of_le h1 h.sz)).trans (h.kp j h1 h2 h3 h4 h5), fun e => own_grown (h.o1 e) hg hn, fun e => own_grown (h.o2 e) hg hn, fun e => boxed_below (h.x1 e) hb (h.x1 e).lt, fun e => boxed_below (h.x2 e) hb (h.x2 e).lt, fun e => ?_, fun e => ?_, h.z1, h.z2⟩
  · obtain ⟨h1, v', h2, h3, h4⟩ := h.y1 e
    exact ⟨h1, v', boxed_below h2 hb h2.lt, own_grown h3 hg hn, h4⟩
  · obtain ⟨h1, v', h2, h3, h4⟩ := h.y2 e
    exact ⟨h1, v', boxed_below h2 hb h2.lt, own_grown h3 hg hn, h4⟩
theorem RG.drew (h : RG w Wb b7 b8 av v1 v2 k xs1 xs2 i1 i2 L W) : RG w Wb b7 b8 av v1 v2 k xs1 xs2 i1 i2 L W.drew :=
  ⟨h.sz, h.bel.drew, ⟨h.ko.size, h.ko.same⟩, h.kp, h.o1, h.o2, h.x1, h.x2, h.y1, h.y2, h.z1, h.z2⟩
theorem ko_grown {A B : World} {e : TypeId} {n s : Nat} {base : Nat} {v : Value} {xs : List Value} (h : A.ownsRow base e s v n xs) (hg : A.grownBy B v.ownBlock) : KeepsOthers A B :=
  KeepsOthers.of_grownBy hg fun j o ej hj => by
    obtain ⟨_, cur, hcur⟩ := own_at h ej
    rw [hcur] at hj
    cases hj
    rfl
theorem RG.app1 (h : RG w Wb b7 b8 av v1 v2 k xs1 xs2 i1 i2 L W) (hL : L 4 = false) (hg : W.grownBy W' v1.ownBlock) : RG w Wb b7 b8 av v1 v2 k xs1 xs2 i1 i2 (updL L 4) W' := by
  have ho := h.o1 hL
  have h8 : L 15 = false := by
    cases e : L 15 with
    | false => rfl
    | true => have := (h.y1 e).1; rw [hL] at this; cases this
  refine ⟨Nat.le_trans h.sz hg.size, below_grown2 ho h.bel.size h.bel hg, h.ko.trans (ko_grown ho hg), fun j h1 h2 h3 h4 h5 => (hg.block j (Nat.lt_of_lt_of_le h1 h.sz) (fun e => h4 e.symm)).trans (h.kp j h1 h2 h3 h4 h5), (fun e => by rw [updL_self] at e; cases e), ?_, ?_, ?_, ?_, ?_, (fun e => by rw [updL_ne _ (by decide)] at e; exact updL_true (h.z1 e)), (fun e => by rw [updL_ne _ (by decide)] at e; exact updL_true (h.z2 e))⟩
  · rw [updL_ne _ (by decide)]
    exact fun e => own_grown (h.o2 e) hg (fun g hg2 e2 => own_ne ho (h.o2 e) (by decide) g e2 hg2)
  · intro _
    exact boxed_grown (h.x1 h8) hg (own_box ho (h.x1 h8) (by decide))
  · rw [updL_ne _ (by decide)]
    exact fun e => boxed_grown (h.x2 e) hg (own_box ho (h.x2 e) (by decide))
  · rw [updL_ne _ (by decide), h8]
    intro e; cases e
  · rw [updL_ne _ (by decide), updL_ne _ (by decide)]
    intro e
    obtain ⟨h1, v', h2, h3, h4⟩ := h.y2 e
    exact ⟨h1, v', boxed_grown h2 hg (own_box ho h2 (by decide)), own_grown h3 hg (fun g hg2 e2 => own_ne ho h3 (by decide) g e2 hg2), h4⟩
theorem RG.app2 (h : RG w Wb b7 b8 av v1 v2 k xs1 xs2 i1 i2 L W) (hL : L 14 = false) (hg : W.grownBy W' v2.ownBlock) : RG w Wb b7 b8 av v1 v2 k xs1 xs2 i1 i2 (updL L 14) W' := by
  have ho := h.o2 hL
  have h9 : L 16 = false := by
    cases e : L 16 with
    | false => rfl
    | true => have := (h.y2 e).1; rw [hL] at this; cases this
  refine ⟨Nat.le_trans h.sz hg.size, below_grown2 ho h.bel.size h.bel hg, h.ko.trans (ko_grown ho hg), fun j h1 h2 h3 h4 h5 => (hg.block j (Nat.lt_of_lt_of_le h1 h.sz) (fun e => h5 e.symm)).trans (h.kp j h1 h2 h3 h4 h5), ?_, (fun e => by rw [updL_self] at e; cases e), ?_, ?_, ?_, ?_, (fun e => by rw [updL_ne _ (by decide)] at e; exact updL_true (h.z1 e)), (fun e => by rw [updL_ne _ (by decide)] at e; exact updL_true (h.z2 e))⟩
  · rw [updL_ne _ (by decide)]
    exact fun e => own_grown (h.o1 e) hg (fun g hg2 e2 => own_ne ho (h.o1 e) (by decide) g e2 hg2)
  · rw [updL_ne _ (by decide)]
    exact fun e => boxed_grown (h.x1 e) hg (own_box ho (h.x1 e) (by decide))
  · intro _
    exact boxed_grown (h.x2 h9) hg (own_box ho (h.x2 h9) (by decide))
  · rw [updL_ne _ (by decide), updL_ne _ (by decide)]
    intro e
    obtain ⟨h1, v', h2, h3, h4⟩ := h.y1 e
    exact ⟨h1, v', boxed_grown h2 hg (own_box ho h2 (by decide)), own_grown h3 hg (fun g hg2 e2 => own_ne ho h3 (by decide) g e2 hg2), h4⟩
  · rw [updL_ne _ (by decide), h9]
    intro e; cases e
theorem RG.st1 (h : RG w Wb b7 b8 av v1 v2 k xs1 xs2 i1 i2 L W) (hL : L 15 = false) (h3 : L 4 = true) (h0 : L 0 = true) (hne : b7 ≠ b8) (hb7 : w.heap.size ≤ b7) {u : Value} (hu : W.ownsRow w.heap.size 3 1 u (k + 1) (xs1 ++ [i1])) (hav : ∀ g, u.ownBlock = some g → g ∉ av) : RG w Wb b7 b8 av v1 v2 k xs1 xs2 i1 i2 (updL L 15) (W.setCell ⟨b7, 0, none⟩ u) := by
  have hx := h.x1 hL
  refine ⟨by simpa [World.setCell] using h.sz, h.bel.setCell (p := ⟨b7, 0, none⟩) hb7 _, h.ko.trans (KeepsOthers.setCell _ _ _), fun j h1 h2 h3 h4 h5 => (Below.heap_setCell W ⟨b7, 0, none⟩ u j h2).trans (h.kp j h1 h2 h3 h4 h5), ?_, ?_, (fun e => by rw [updL_self] at e; cases e), ?_, fun _ => ⟨by rw [updL_ne _ (by decide)]; exact h3, u, hx.set u, own_set hu hx (by decide), hav⟩, ?_, (fun _ => updL_true h0), (fun e => by rw [updL_ne _ (by decide)] at e; exact updL_true (h.z2 e))⟩
  · rw [updL_ne _ (by decide)]
    exact fun e => own_set (h.o1 e) hx (by decide)
  · rw [updL_ne _ (by decide)]
    exact fun e => own_set (h.o2 e) hx (by decide)
  · rw [updL_ne _ (by decide)]
    exact fun e => (h.x2 e).other (Ne.symm hne) _
  · rw [updL_ne _ (by decide), updL_ne _ (by decide)]
    intro e
    obtain ⟨h1, v', h2, h3, h4⟩ := h.y2 e
    exact ⟨h1, v', h2.other (Ne.symm hne) _, own_set h3 hx (by decide), h4⟩
theorem RG.st2 (h : RG w Wb b7 b8 av v1 v2 k xs1 xs2 i1 i2 L W) (hL : L 16 = false) (h7 : L 14 = true) (h4 : L 5 = true) (hne : b7 ≠ b8) (hb8 : w.heap.size ≤ b8) {u : Value} (hu : W.ownsRow w.heap.size 9 1 u (k + 1) (xs2 ++ [i2])) (hav : ∀ g, u.ownBlock = some g → g ∉ av) : RG w Wb b7 b8 av v1 v2 k xs1 xs2 i1 i2 (updL L 16) (W.setCell ⟨b8, 0, none⟩ u) := by
  have hx := h.x2 hL
  refine ⟨by simpa [World.setCell] using h.sz, h.bel.setCell (p := ⟨b8, 0, none⟩) hb8 _, h.ko.trans (KeepsOthers.setCell _ _ _), fun j h1 h2 h3 h4 h5 => (Below.heap_setCell W ⟨b8, 0, none⟩ u j h3).trans (h.kp j h1 h2 h3 h4 h5), ?_, ?_, ?_, (fun e => by rw [updL_self] at e; cases e), ?_, fun _ => ⟨by rw [updL_ne _ (by decide)]; exact h7, u, hx.set u, own_set hu hx (by decide), hav⟩, (fun e => by rw [updL_ne _ (by decide)] at e; exact updL_true (h.z1 e)), (fun _ => updL_true h4)⟩
  · rw [updL_ne _ (by decide)]
    exact fun e => own_set (h.o1 e) hx (by decide)
  · rw [updL_ne _ (by decide)]
    exact fun e => own_set (h.o2 e) hx (by decide)
  · rw [updL_ne _ (by decide)]
    exact fun e => (h.x1 e).other hne _
  · rw [updL_ne _ (by decide), updL_ne _ (by decide)]
    intro e
    obtain ⟨h1, v', h2, h3, h4⟩ := h.y1 e
    exact ⟨h1, v', h2.other hne _, own_set h3 hx (by decide), h4⟩
end

/-- Which blocks the operations of region 17 leave. -/
def RK (Wb : World) (j m : Nat) (W : World) : Prop :=
  (j = 4 → Wb.heap.size ≤ m ∨ ∀ cs fr, W.heap[m]? ≠ some (.cells cs 3 fr)) ∧ (j = 14 → Wb.heap.size ≤ m ∨ ∀ cs fr, W.heap[m]? ≠ some (.cells cs 9 fr)) ∧
  (j = 15 → ∀ cs fr, W.heap[m]? ≠ some (.cells cs 30 fr)) ∧ (j = 16 → ∀ cs fr, W.heap[m]? ≠ some (.cells cs 31 fr))
def RE (Wb : World) (j : Nat) (W W' : World) : Prop := W.heap.size ≤ W'.heap.size ∧ ∀ m, m < W.heap.size → RK Wb j m W → W'.heap[m]? = W.heap[m]?
/-- What is said of the values. -/
def RV (w Wb : World) (av : List Nat) (v1 v2 : Value) (k : Nat) (xs1 xs2 : List Value) (i1 i2 : Value) (bx : Nat) (nm : ByteArray) (fa : Option Addr) (fn fc : Nat) (i : Nat) (u : Value) (W : World) : Prop :=
  match i with
  | 0 => u = v1
  | 1 => u = .pointer (some ⟨bx, 0, none⟩)
  | 2 => u = i1
  | 3 => ∃ b, u = .slice (some ⟨b, 0, none⟩) 1 1 ∧ Wb.heap.size ≤ b ∧ W.heap[b]? = some (.cells #[i1] 3 (0, 0))
  | 4 => W.ownsRow w.heap.size 3 1 u (k + 1) (xs1 ++ [i1]) ∧ ∀ g, u.ownBlock = some g → g ∉ av
  | 5 => u = v2
  | 6 => u = .string nm
  | 7 => u = .string (nm ++ ⟨#[32]⟩)
  | 8 => u = .pointer (some ⟨bx, 2, none⟩)
  | 9 => u = .slice fa fn fc
  | 10 => u = .int .i64 (fn : Nat)
  | 11 => u = .string (numB fn)
  | 12 => u = i2
  | 13 => ∃ b, u = .slice (some ⟨b, 0, none⟩) 1 1 ∧ Wb.heap.size ≤ b ∧ W.heap[b]? = some (.cells #[i2] 9 (0, 0))
  | 14 => W.ownsRow w.heap.size 9 1 u (k + 1) (xs2 ++ [i2]) ∧ ∀ g, u.ownBlock = some g → g ∉ av
  | _ => True
theorem RV.keep {w Wb : World} {av : List Nat} {v1 v2 : Value} {k : Nat} {xs1 xs2 : List Value} {i1 i2 : Value} {bx : Nat} {nm : ByteArray} {fa : Option Addr} {fn fc : Nat} : ∀ (i j : Nat) (u : Value) (W W' : World), i ≠ j → RV w Wb av v1 v2 k xs1 xs2 i1 i2 bx nm fa fn fc i u W → RE Wb j W W' → RV w Wb av v1 v2 k xs1 xs2 i1 i2 bx nm fa fn fc i u W' := by
  intro i j u W W' hij h hx
  match i, h with
  | 0, h => exact h
  | 1, h => exact h
  | 2, h => exact h
  | 3, ⟨b, e, hb, hc⟩ =>
    exact ⟨b, e, hb, (hx.2 b (Array.getElem?_eq_some_iff.1 hc).1 ⟨fun _ => .inl hb, fun _ => .inl hb, fun _ => no_type hc (by decide), fun _ => no_type hc (by decide)⟩).trans hc⟩
  | 4, ⟨h1, h2⟩ =>
    refine ⟨own_same h1 fun g hg => ?_, h2⟩
    obtain ⟨_, cur, hcur⟩ := own_at h1 hg
    exact hx.2 g (Array.getElem?_eq_some_iff.1 hcur).1 ⟨fun e => absurd e.symm hij, fun _ => .inr (no_type hcur (by decide)), fun _ => no_type hcur (by decide), fun _ => no_type hcur (by decide)⟩
  | 5, h => exact h
  | 6, h => exact h
  | 7, h => exact h
  | 8, h => exact h
  | 9, h => exact h
  | 10, h => exact h
  | 11, h => exact h
  | 12, h => exact h
  | 13, ⟨b, e, hb, hc⟩ =>
    exact ⟨b, e, hb, (hx.2 b (Array.getElem?_eq_some_iff.1 hc).1 ⟨fun _ => .inl hb, fun _ => .inl hb, fun _ => no_type hc (by decide), fun _ => no_type hc (by decide)⟩).trans hc⟩
  | 14, ⟨h1, h2⟩ =>
    refine ⟨own_same h1 fun g hg => ?_, h2⟩
    obtain ⟨_, cur, hcur⟩ := own_at h1 hg
    exact hx.2 g (Array.getElem?_eq_some_iff.1 hcur).1 ⟨fun _ => .inr (no_type hcur (by decide)), fun e => absurd e.symm hij, fun _ => no_type hcur (by decide), fun _ => no_type hcur (by decide)⟩
  | n + 15, h => trivial
theorem RE.refl (Wb : World) (j : Nat) (W : World) : RE Wb j W W := ⟨Nat.le_refl _, fun _ _ _ => rfl⟩
theorem RE.below (Wb : World) (j : Nat) {W W' : World} (hb : Below W.heap.size W W') : RE Wb j W W' := ⟨hb.size, fun m hm _ => hb.block m hm⟩
theorem RE.alloc (Wb : World) (j : Nat) (W : World) (o : Obj) : RE Wb j W (W.alloc o) := ⟨by simp, fun m hm _ => Below.heap_alloc W o m hm⟩
theorem RE.app1 {Wb W W' : World} {v : Value} {n : Nat} {base : Nat} {xs : List Value} (ho : W.ownsRow base 3 1 v n xs) (hl : ∀ g, v.ownBlock = some g → g < Wb.heap.size) (hg : W.grownBy W' v.ownBlock) : RE Wb 4 W W' := ⟨hg.size, fun m hm hk => hg.block m hm fun e => by
  obtain ⟨_, cur, hcur⟩ := own_at ho e.symm
  rcases hk.1 rfl with h | h
  · have := hl m e.symm; omega
  · exact h _ _ hcur⟩
theorem RE.app2 {Wb W W' : World} {v : Value} {n : Nat} {base : Nat} {xs : List Value} (ho : W.ownsRow base 9 1 v n xs) (hl : ∀ g, v.ownBlock = some g → g < Wb.heap.size) (hg : W.grownBy W' v.ownBlock) : RE Wb 14 W W' := ⟨hg.size, fun m hm hk => hg.block m hm fun e => by
  obtain ⟨_, cur, hcur⟩ := own_at ho e.symm
  rcases hk.2.1 rfl with h | h
  · have := hl m e.symm; omega
  · exact h _ _ hcur⟩
theorem RE.st1 {Wb W : World} {b : Nat} {v u : Value} (hb : Boxed W b 30 v) : RE Wb 15 W (W.setCell ⟨b, 0, none⟩ u) := ⟨by simp [World.setCell], fun m hm hk => Below.heap_setCell W ⟨b, 0, none⟩ u m fun e => hk.2.2.1 rfl #[v] (0, 0) (by rw [e]; exact hb)⟩
theorem RE.st2 {Wb W : World} {b : Nat} {v u : Value} (hb : Boxed W b 31 v) : RE Wb 16 W (W.setCell ⟨b, 0, none⟩ u) := ⟨by simp [World.setCell], fun m hm hk => Below.heap_setCell W ⟨b, 0, none⟩ u m fun e => hk.2.2.2 rfl #[v] (0, 0) (by rw [e]; exact hb)⟩
end Go.Proofs.YtocmfdahnekboaaDoor.R17

namespace Go.Proofs.YtocmfdahnekboaaDoor.R20
open Go.RowKit Go.Shelf Go.Proofs.YtocmfdahnekboaaDoor
set_option linter.unusedVariables false
/-- The world in the midst of region 20: which operations have come up is L. -/
structure RG (w Wb : World) (b7 b8 : Nat) (av : List Nat) (v1 v2 : Value) (k : Nat) (xs1 xs2 : List Value) (i1 i2 : Value) (L : Nat → Bool) (W : World) : Prop where
  sz : Wb.heap.size ≤ W.heap.size
  bel : Below w.heap.size w W
  ko : KeepsOthers Wb W
  kp : ∀ j, j < Wb.heap.size → j ≠ b7 → j ≠ b8 → v1.ownBlock ≠ some j → v2.ownBlock ≠ some j → W.heap[j]? = Wb.heap[j]?
  o1 : L 3 = false → W.ownsRow w.heap.size 3 1 v1 k xs1
  o2 : L 12 = false → W.ownsRow w.heap.size 9 1 v2 k xs2
  x1 : L 13 = false → Boxed W b7 30 v1
  x2 : L 14 = false → Boxed W b8 31 v2
  y1 : L 13 = true → L 3 = true ∧ ∃ v', Boxed W b7 30 v' ∧ W.ownsRow w.heap.size 3 1 v' (k + 1) (xs1 ++ [i1]) ∧ ∀ g, v'.ownBlock = some g → g ∉ av
  y2 : L 14 = true → L 12 = true ∧ ∃ v', Boxed W b8 31 v' ∧ W.ownsRow w.heap.size 9 1 v' (k + 1) (xs2 ++ [i2]) ∧ ∀ g, v'.ownBlock = some g → g ∉ av
  z1 : L 13 = true → L 0 = true
  z2 : L 14 = true → L 4 = true
section
variable {w Wb : World} {b7 b8 : Nat} {av : List Nat} {v1 v2 : Value} {k : Nat} {xs1 xs2 : List Value} {i1 i2 : Value} {L : Nat → Bool} {W W' : World}
theorem updL_true {L : Nat → Bool} {i j : Nat} (h : L j = true) : updL L i j = true := by unfold updL; split; rfl; exact h
theorem RG.upd (h : RG w Wb b7 b8 av v1 v2 k xs1 xs2 i1 i2 L W) {i : Nat} (h3 : 3 ≠ i) (h7 : 12 ≠ i) (h8 : 13 ≠ i) (h9 : 14 ≠ i) : RG w Wb b7 b8 av v1 v2 k xs1 xs2 i1 i2 (updL L i) W :=
  ⟨h.sz, h.bel, h.ko, h.kp, by rw [updL_ne _ h3]; exact h.o1, by rw [updL_ne _ h7]; exact h.o2, by rw [updL_ne _ h8]; exact h.x1, by rw [updL_ne _ h9]; exact h.x2, by rw [updL_ne _ h8, updL_ne _ h3]; exact h.y1, by rw [updL_ne _ h9, updL_ne _ h7]; exact h.y2, by rw [updL_ne _ h8]; exact fun e => updL_true (h.z1 e), by rw [updL_ne _ h9]; exact fun e => updL_true (h.z2 e)⟩
theorem RG.alloc (h : RG w Wb b7 b8 av v1 v2 k xs1 xs2 i1 i2 L W) (o : Obj) : RG w Wb b7 b8 av v1 v2 k xs1 xs2 i1 i2 L (W.alloc o) := by
  have hg := World.grownBy_alloc W o none
  have hn : ∀ {v : Value}, ∀ g, v.ownBlock = some g → (none : Option Nat) ≠ some g := fun _ _ e => by cases e
  refine ⟨Nat.le_trans h.sz hg.size, h.bel.alloc h.bel.size _, h.ko.trans (KeepsOthers.alloc W o), fun j h1 h2 h3 h4 h5 => (Below.heap_alloc W o j (Nat.lt_of_lt_of_le h1 h.sz)).trans (h.kp j h1 h2 h3 h4 h5), fun e => own_grown (h.o1 e) hg hn, fun e => own_grown (h.o2 e) hg hn, fun e => (h.x1 e).alloc o, fun e => (h.x2 e).alloc o, fun e => ?_, fun e => ?_, h.z1, h.z2⟩
  · obtain ⟨h1, v', h2, h3, h4⟩ := h.y1 e
    exact ⟨h1, v', h2.alloc o, own_grown h3 hg hn, h4⟩
  · obtain ⟨h1, v', h2, h3, h4⟩ := h.y2 e
    exact ⟨h1, v', h2.alloc o, own_grown h3 hg hn, h4⟩
theorem RG.below (h : RG w Wb b7 b8 av v1 v2 k xs1 xs2 i1 i2 L W) (hb : Below W.heap.size W W') : RG w Wb b7 b8 av v1 v2 k xs1 xs2 i1 i2 L W' := by
  have hg := grown_of_below hb
  have hn : ∀ {v : Value}, ∀ g, v.ownBlock = some g → (none : Option Nat) ≠ some g := fun _ _ e => by cases e
  refine ⟨Nat.le_trans h.sz hg.size, h.bel.trans (hb.mono h.bel.size), h.ko.trans ⟨hb.size, fun k o h1 h2 => (hb.block k (Array.getElem?_eq_some_iff.1 h1).1).trans h1⟩, fun j h1 h2 h3 h4 h5 => (hb.block j (Nat.lt_of_lt_of_le h1 h.sz)).trans (h.kp j h1 h2 h3 h4 h5), fun e => own_grown (h.o1 e) hg hn, fun e => own_grown (h.o2 e) hg hn, fun e => boxed_below (h.x1 e) hb (h.x1 e).lt, fun e => boxed_below (h.x2 e) hb (h.x2 e).lt, fun e => ?_, fun e => ?_, h.z1, h.z2⟩
  · obtain ⟨h1, v', h2, h3, h4⟩ := h.y1 e
    exact ⟨h1, v', boxed_below h2 hb h2.lt, own_grown h3 hg hn, h4⟩
  · obtain ⟨h1, v', h2, h3, h4⟩ := h.y2 e
    exact ⟨h1, v', boxed_below h2 hb h2.lt, own_grown h3 hg hn, h4⟩
theorem RG.drew (h : RG w Wb b7 b8 av v1 v2 k xs1 xs2 i1 i2 L W) : RG w Wb b7 b8 av v1 v2 k xs1 xs2 i1 i2 L W.drew :=
  ⟨h.sz, h.bel.drew, ⟨h.ko.size, h.ko.same⟩, h.kp, h.o1, h.o2, h.x1, h.x2, h.y1, h.y2, h.z1, h.z2⟩
theorem ko_grown {A B : World} {e : TypeId} {n s : Nat} {base : Nat} {v : Value} {xs : List Value} (h : A.ownsRow base e s v n xs) (hg : A.grownBy B v.ownBlock) : KeepsOthers A B :=
  KeepsOthers.of_grownBy hg fun j o ej hj => by
    obtain ⟨_, cur, hcur⟩ := own_at h ej
    rw [hcur] at hj
    cases hj
    rfl
theorem RG.app1 (h : RG w Wb b7 b8 av v1 v2 k xs1 xs2 i1 i2 L W) (hL : L 3 = false) (hg : W.grownBy W' v1.ownBlock) : RG w Wb b7 b8 av v1 v2 k xs1 xs2 i1 i2 (updL L 3) W' := by
  have ho := h.o1 hL
  have h8 : L 13 = false := by
    cases e : L 13 with
    | false => rfl
    | true => have := (h.y1 e).1; rw [hL] at this; cases this
  refine ⟨Nat.le_trans h.sz hg.size, below_grown2 ho h.bel.size h.bel hg, h.ko.trans (ko_grown ho hg), fun j h1 h2 h3 h4 h5 => (hg.block j (Nat.lt_of_lt_of_le h1 h.sz) (fun e => h4 e.symm)).trans (h.kp j h1 h2 h3 h4 h5), (fun e => by rw [updL_self] at e; cases e), ?_, ?_, ?_, ?_, ?_, (fun e => by rw [updL_ne _ (by decide)] at e; exact updL_true (h.z1 e)), (fun e => by rw [updL_ne _ (by decide)] at e; exact updL_true (h.z2 e))⟩
  · rw [updL_ne _ (by decide)]
    exact fun e => own_grown (h.o2 e) hg (fun g hg2 e2 => own_ne ho (h.o2 e) (by decide) g e2 hg2)
  · intro _
    exact boxed_grown (h.x1 h8) hg (own_box ho (h.x1 h8) (by decide))
  · rw [updL_ne _ (by decide)]
    exact fun e => boxed_grown (h.x2 e) hg (own_box ho (h.x2 e) (by decide))
  · rw [updL_ne _ (by decide), h8]
    intro e; cases e
  · rw [updL_ne _ (by decide), updL_ne _ (by decide)]
    intro e
    obtain ⟨h1, v', h2, h3, h4⟩ := h.y2 e
    exact ⟨h1, v', boxed_grown h2 hg (own_box ho h2 (by decide)), own_grown h3 hg (fun g hg2 e2 => own_ne ho h3 (by decide) g e2 hg2), h4⟩
theorem RG.app2 (h : RG w Wb b7 b8 av v1 v2 k xs1 xs2 i1 i2 L W) (hL : L 12 = false) (hg : W.grownBy W' v2.ownBlock) : RG w Wb b7 b8 av v1 v2 k xs1 xs2 i1 i2 (updL L 12) W' := by
  have ho := h.o2 hL
  have h9 : L 14 = false := by
    cases e : L 14 with
    | false => rfl
    | true => have := (h.y2 e).1; rw [hL] at this; cases this
  refine ⟨Nat.le_trans h.sz hg.size, below_grown2 ho h.bel.size h.bel hg, h.ko.trans (ko_grown ho hg), fun j h1 h2 h3 h4 h5 => (hg.block j (Nat.lt_of_lt_of_le h1 h.sz) (fun e => h5 e.symm)).trans (h.kp j h1 h2 h3 h4 h5), ?_, (fun e => by rw [updL_self] at e; cases e), ?_, ?_, ?_, ?_, (fun e => by rw [updL_ne _ (by decide)] at e; exact updL_true (h.z1 e)), (fun e => by rw [updL_ne _ (by decide)] at e; exact updL_true (h.z2 e))⟩
  · rw [updL_ne _ (by decide)]
    exact fun e => own_grown (h.o1 e) hg (fun g hg2 e2 => own_ne ho (h.o1 e) (by decide) g e2 hg2)
  · rw [updL_ne _ (by decide)]
    exact fun e => boxed_grown (h.x1 e) hg (own_box ho (h.x1 e) (by decide))
  · intro _
    exact boxed_grown (h.x2 h9) hg (own_box ho (h.x2 h9) (by decide))
  · rw [updL_ne _ (by decide), updL_ne _ (by decide)]
    intro e
    obtain ⟨h1, v', h2, h3, h4⟩ := h.y1 e
    exact ⟨h1, v', boxed_grown h2 hg (own_box ho h2 (by decide)), own_grown h3 hg (fun g hg2 e2 => own_ne ho h3 (by decide) g e2 hg2), h4⟩
  · rw [updL_ne _ (by decide), h9]
    intro e; cases e
theorem RG.st1 (h : RG w Wb b7 b8 av v1 v2 k xs1 xs2 i1 i2 L W) (hL : L 13 = false) (h3 : L 3 = true) (h0 : L 0 = true) (hne : b7 ≠ b8) (hb7 : w.heap.size ≤ b7) {u : Value} (hu : W.ownsRow w.heap.size 3 1 u (k + 1) (xs1 ++ [i1])) (hav : ∀ g, u.ownBlock = some g → g ∉ av) : RG w Wb b7 b8 av v1 v2 k xs1 xs2 i1 i2 (updL L 13) (W.setCell ⟨b7, 0, none⟩ u) := by
  have hx := h.x1 hL
  refine ⟨by simpa [World.setCell] using h.sz, h.bel.setCell (p := ⟨b7, 0, none⟩) hb7 _, h.ko.trans (KeepsOthers.setCell _ _ _), fun j h1 h2 h3 h4 h5 => (Below.heap_setCell W ⟨b7, 0, none⟩ u j h2).trans (h.kp j h1 h2 h3 h4 h5), ?_, ?_, (fun e => by rw [updL_self] at e; cases e), ?_, fun _ => ⟨by rw [updL_ne _ (by decide)]; exact h3, u, hx.set u, own_set hu hx (by decide), hav⟩, ?_, (fun _ => updL_true h0), (fun e => by rw [updL_ne _ (by decide)] at e; exact updL_true (h.z2 e))⟩
  · rw [updL_ne _ (by decide)]
    exact fun e => own_set (h.o1 e) hx (by decide)
  · rw [updL_ne _ (by decide)]
    exact fun e => own_set (h.o2 e) hx (by decide)
  · rw [updL_ne _ (by decide)]
    exact fun e => (h.x2 e).other (Ne.symm hne) _
  · rw [updL_ne _ (by decide), updL_ne _ (by decide)]
    intro e
    obtain ⟨h1, v', h2, h3, h4⟩ := h.y2 e
    exact ⟨h1, v', h2.other (Ne.symm hne) _, own_set h3 hx (by decide), h4⟩
theorem RG.st2 (h : RG w Wb b7 b8 av v1 v2 k xs1 xs2 i1 i2 L W) (hL : L 14 = false) (h7 : L 12 = true) (h4 : L 4 = true) (hne : b7 ≠ b8) (hb8 : w.heap.size ≤ b8) {u : Value} (hu : W.ownsRow w.heap.size 9 1 u (k + 1) (xs2 ++ [i2])) (hav : ∀ g, u.ownBlock = some g → g ∉ av) : RG w Wb b7 b8 av v1 v2 k xs1 xs2 i1 i2 (updL L 14) (W.setCell ⟨b8, 0, none⟩ u) := by
  have hx := h.x2 hL
  refine ⟨by simpa [World.setCell] using h.sz, h.bel.setCell (p := ⟨b8, 0, none⟩) hb8 _, h.ko.trans (KeepsOthers.setCell _ _ _), fun j h1 h2 h3 h4 h5 => (Below.heap_setCell W ⟨b8, 0, none⟩ u j h3).trans (h.kp j h1 h2 h3 h4 h5), ?_, ?_, ?_, (fun e => by rw [updL_self] at e; cases e), ?_, fun _ => ⟨by rw [updL_ne _ (by decide)]; exact h7, u, hx.set u, own_set hu hx (by decide), hav⟩, (fun e => by rw [updL_ne _ (by decide)] at e; exact updL_true (h.z1 e)), (fun _ => updL_true h4)⟩
  · rw [updL_ne _ (by decide)]
    exact fun e => own_set (h.o1 e) hx (by decide)
  · rw [updL_ne _ (by decide)]
    exact fun e => own_set (h.o2 e) hx (by decide)
  · rw [updL_ne _ (by decide)]
    exact fun e => (h.x1 e).other hne _
  · rw [updL_ne _ (by decide), updL_ne _ (by decide)]
    intro e
    obtain ⟨h1, v', h2, h3, h4⟩ := h.y1 e
    exact ⟨h1, v', h2.other hne _, own_set h3 hx (by decide), h4⟩
end

/-- Which blocks the operations of region 20 leave. -/
def RK (Wb : World) (j m : Nat) (W : World) : Prop :=
  (j = 3 → Wb.heap.size ≤ m ∨ ∀ cs fr, W.heap[m]? ≠ some (.cells cs 3 fr)) ∧ (j = 12 → Wb.heap.size ≤ m ∨ ∀ cs fr, W.heap[m]? ≠ some (.cells cs 9 fr)) ∧
  (j = 13 → ∀ cs fr, W.heap[m]? ≠ some (.cells cs 30 fr)) ∧ (j = 14 → ∀ cs fr, W.heap[m]? ≠ some (.cells cs 31 fr))
def RE (Wb : World) (j : Nat) (W W' : World) : Prop := W.heap.size ≤ W'.heap.size ∧ ∀ m, m < W.heap.size → RK Wb j m W → W'.heap[m]? = W.heap[m]?
/-- What is said of the values. -/
def RV (w Wb : World) (av : List Nat) (v1 v2 : Value) (k : Nat) (xs1 xs2 : List Value) (i1 i2 : Value) (bx : Nat) (nm : ByteArray) (fa : Option Addr) (fn fc : Nat) (i : Nat) (u : Value) (W : World) : Prop :=
  match i with
  | 0 => u = v1
  | 1 => u = i1
  | 2 => ∃ b, u = .slice (some ⟨b, 0, none⟩) 1 1 ∧ Wb.heap.size ≤ b ∧ W.heap[b]? = some (.cells #[i1] 3 (0, 0))
  | 3 => W.ownsRow w.heap.size 3 1 u (k + 1) (xs1 ++ [i1]) ∧ ∀ g, u.ownBlock = some g → g ∉ av
  | 4 => u = v2
  | 5 => u = .slice fa fn fc
  | 6 => u = .int .i64 (fn : Nat)
  | 7 => u = i1
  | 8 => u = .int .i64 (bx : Nat)
  | 9 => u = .string (numB bx)
  | 10 => u = i2
  | 11 => ∃ b, u = .slice (some ⟨b, 0, none⟩) 1 1 ∧ Wb.heap.size ≤ b ∧ W.heap[b]? = some (.cells #[i2] 9 (0, 0))
  | 12 => W.ownsRow w.heap.size 9 1 u (k + 1) (xs2 ++ [i2]) ∧ ∀ g, u.ownBlock = some g → g ∉ av
  | _ => True
theorem RV.keep {w Wb : World} {av : List Nat} {v1 v2 : Value} {k : Nat} {xs1 xs2 : List Value} {i1 i2 : Value} {bx : Nat} {nm : ByteArray} {fa : Option Addr} {fn fc : Nat} : ∀ (i j : Nat) (u : Value) (W W' : World), i ≠ j → RV w Wb av v1 v2 k xs1 xs2 i1 i2 bx nm fa fn fc i u W → RE Wb j W W' → RV w Wb av v1 v2 k xs1 xs2 i1 i2 bx nm fa fn fc i u W' := by
  intro i j u W W' hij h hx
  match i, h with
  | 0, h => exact h
  | 1, h => exact h
  | 2, ⟨b, e, hb, hc⟩ =>
    exact ⟨b, e, hb, (hx.2 b (Array.getElem?_eq_some_iff.1 hc).1 ⟨fun _ => .inl hb, fun _ => .inl hb, fun _ => no_type hc (by decide), fun _ => no_type hc (by decide)⟩).trans hc⟩
  | 3, ⟨h1, h2⟩ =>
    refine ⟨own_same h1 fun g hg => ?_, h2⟩
    obtain ⟨_, cur, hcur⟩ := own_at h1 hg
    exact hx.2 g (Array.getElem?_eq_some_iff.1 hcur).1 ⟨fun e => absurd e.symm hij, fun _ => .inr (no_type hcur (by decide)), fun _ => no_type hcur (by decide), fun _ => no_type hcur (by decide)⟩
  | 4, h => exact h
  | 5, h => exact h
  | 6, h => exact h
  | 7, h => exact h
  | 8, h => exact h
  | 9, h => exact h
  | 10, h => exact h
  | 11, ⟨b, e, hb, hc⟩ =>
    exact ⟨b, e, hb, (hx.2 b (Array.getElem?_eq_some_iff.1 hc).1 ⟨fun _ => .inl hb, fun _ => .inl hb, fun _ => no_type hc (by decide), fun _ => no_type hc (by decide)⟩).trans hc⟩
  | 12, ⟨h1, h2⟩ =>
    refine ⟨own_same h1 fun g hg => ?_, h2⟩
    obtain ⟨_, cur, hcur⟩ := own_at h1 hg
    exact hx.2 g (Array.getElem?_eq_some_iff.1 hcur).1 ⟨fun _ => .inr (no_type hcur (by decide)), fun e => absurd e.symm hij, fun _ => no_type hcur (by decide), fun _ => no_type hcur (by decide)⟩
  | n + 13, h => trivial
theorem RE.refl (Wb : World) (j : Nat) (W : World) : RE Wb j W W := ⟨Nat.le_refl _, fun _ _ _ => rfl⟩
theorem RE.below (Wb : World) (j : Nat) {W W' : World} (hb : Below W.heap.size W W') : RE Wb j W W' := ⟨hb.size, fun m hm _ => hb.block m hm⟩
theorem RE.alloc (Wb : World) (j : Nat) (W : World) (o : Obj) : RE Wb j W (W.alloc o) := ⟨by simp, fun m hm _ => Below.heap_alloc W o m hm⟩
theorem RE.app1 {Wb W W' : World} {v : Value} {n : Nat} {base : Nat} {xs : List Value} (ho : W.ownsRow base 3 1 v n xs) (hl : ∀ g, v.ownBlock = some g → g < Wb.heap.size) (hg : W.grownBy W' v.ownBlock) : RE Wb 3 W W' := ⟨hg.size, fun m hm hk => hg.block m hm fun e => by
  obtain ⟨_, cur, hcur⟩ := own_at ho e.symm
  rcases hk.1 rfl with h | h
  · have := hl m e.symm; omega
  · exact h _ _ hcur⟩
theorem RE.app2 {Wb W W' : World} {v : Value} {n : Nat} {base : Nat} {xs : List Value} (ho : W.ownsRow base 9 1 v n xs) (hl : ∀ g, v.ownBlock = some g → g < Wb.heap.size) (hg : W.grownBy W' v.ownBlock) : RE Wb 12 W W' := ⟨hg.size, fun m hm hk => hg.block m hm fun e => by
  obtain ⟨_, cur, hcur⟩ := own_at ho e.symm
  rcases hk.2.1 rfl with h | h
  · have := hl m e.symm; omega
  · exact h _ _ hcur⟩
theorem RE.st1 {Wb W : World} {b : Nat} {v u : Value} (hb : Boxed W b 30 v) : RE Wb 13 W (W.setCell ⟨b, 0, none⟩ u) := ⟨by simp [World.setCell], fun m hm hk => Below.heap_setCell W ⟨b, 0, none⟩ u m fun e => hk.2.2.1 rfl #[v] (0, 0) (by rw [e]; exact hb)⟩
theorem RE.st2 {Wb W : World} {b : Nat} {v u : Value} (hb : Boxed W b 31 v) : RE Wb 14 W (W.setCell ⟨b, 0, none⟩ u) := ⟨by simp [World.setCell], fun m hm hk => Below.heap_setCell W ⟨b, 0, none⟩ u m fun e => hk.2.2.2 rfl #[v] (0, 0) (by rw [e]; exact hb)⟩
end Go.Proofs.YtocmfdahnekboaaDoor.R20
