/- law SetPairs: what stays while it goes over what set.Pairs tells. -/
import Derived.Test.YtndbpmhdpjlncaaDoorSetPr
import Derived.Test.YtndbpmhdpjlncaaDoorRegionInv
import Derived.Test.YtndbpmhdpjlncaaDoorRoundQ
namespace Go.Proofs.YtndbpmhdpjlncaaDoor.setPairs
open Go.RowKit Go.Shelf Go.Proofs.YtndbpmhdpjlncaaDoor
set_option linter.unusedVariables false
/-- What stays while law SetPairs goes over what set.Pairs tells: the most, the items, the numbers; their rows lie off the blocks av. -/
structure PI (w : World) (b7 b8 q : Nat) (av : List Nat) (pre : List (Nat × Int)) (W : World) : Prop where
  most : Boxed W w.heap.size 3 (.int .i64 (q : Nat))
  it : ∃ v, Boxed W b7 27 v ∧ W.ownsRow (w.heap.size + 1) 3 1 v pre.length (pre.map fun x => encI x.1) ∧ ∀ g, v.ownBlock = some g → g ∉ av
  va : ∃ v, Boxed W b8 49 v ∧ W.ownsRow (w.heap.size + 1) 2 1 v pre.length (pre.map fun x => Value.int .i64 x.2) ∧ ∀ g, v.ownBlock = some g → g ∉ av
  b : Below w.heap.size w W
theorem PI.own {w : World} {b7 b8 q B : Nat} {av : List Nat} (hB : w.heap.size ≤ B) : OwnFrom B (PI w b7 b8 q av) := fun pre A C row h hg hr => by
  have e1 := (Own.from (boxed_own w.heap.size 3 (fun _ : List (Nat × Int) => Value.int .i64 (q : Nat))) B) pre A C row h.most hg hr
  obtain ⟨v1, h1, h2, h3⟩ := h.it
  obtain ⟨v2, h4, h5, h6⟩ := h.va
  obtain ⟨u1, k1, k2, k3⟩ := (Own.from (holdsRow_own (w.heap.size + 1) b7 27 3 1 (fun pre : List (Nat × Int) => pre.length) (fun pre => pre.map fun x => encI x.1) (fun _ v => ∀ g, v.ownBlock = some g → g ∉ av)) B) pre A C row ⟨v1, h1, h2, h3⟩ hg hr
  obtain ⟨u2, k4, k5, k6⟩ := (Own.from (holdsRow_own (w.heap.size + 1) b8 49 2 1 (fun pre : List (Nat × Int) => pre.length) (fun pre => pre.map fun x => Value.int .i64 x.2) (fun _ v => ∀ g, v.ownBlock = some g → g ∉ av)) B) pre A C row ⟨v2, h4, h5, h6⟩ hg hr
  exact ⟨e1, ⟨u1, k1, k2, k3⟩, ⟨u2, k4, k5, k6⟩, ownFrom_below (β := Unit) (Nat.le_refl _) hB () A C row h.b hg hr⟩
theorem PI.below {w A C : World} {b7 b8 q : Nat} {av : List Nat} {pre : List (Nat × Int)} (h : PI w b7 b8 q av pre A) (hb : Below A.heap.size A C) : PI w b7 b8 q av pre C := by
  obtain ⟨v1, h1, h2, h3⟩ := h.it
  obtain ⟨v2, h4, h5, h6⟩ := h.va
  exact ⟨boxed_below h.most hb h.most.lt, ⟨v1, boxed_below h1 hb h1.lt, own_below h2 hb (Nat.le_refl _), h3⟩, ⟨v2, boxed_below h4 hb h4.lt, own_below h5 hb (Nat.le_refl _), h6⟩, h.b.trans (hb.mono h.b.size)⟩
theorem PI.abides {w : World} {b7 b8 q : Nat} {av bs : List Nat} (hs : ∀ k ∈ bs, k ∈ av ∧ w.heap.size < k ∧ k ≠ b7 ∧ k ≠ b8) : AbidesCells bs (PI w b7 b8 q av) := fun pre W r v hr h => by
  obtain ⟨ha, h0, hb7, hb8⟩ := hs r hr
  obtain ⟨v1, h1, h2, h3⟩ := h.it
  obtain ⟨v2, h4, h5, h6⟩ := h.va
  exact ⟨h.most.other (by omega) v, ⟨v1, h1.other (Ne.symm hb7) v, own_grown h2 (grownBy_setCell' W r v) (fun g hg e => by cases e; exact h3 _ hg ha), h3⟩, ⟨v2, h4.other (Ne.symm hb8) v, own_grown h5 (grownBy_setCell' W r v) (fun g hg e => by cases e; exact h6 _ hg ha), h6⟩, h.b.setCell (p := ⟨r, 0, none⟩) (by show w.heap.size ≤ r; omega) v⟩
theorem PI.start {w A0 : World} {q : Nat} (av : List Nat) (hm : Boxed A0 w.heap.size 3 (.int .i64 (q : Nat))) (hb : Below w.heap.size w A0) (hav : A0.heap.size ∉ av ∧ A0.heap.size + 1 ∉ av) :
    PI w (A0.heap.size + 1 + 1) (A0.heap.size + 1 + 1 + 1) q av [] ((((A0.alloc (.cells #[] 3)).alloc (.cells #[] 2)).alloc (.cells #[.slice (some ⟨A0.heap.size, 0, none⟩) 0 0] 27)).alloc (.cells #[.slice (some ⟨A0.heap.size + 1, 0, none⟩) 0 0] 49)) := by
  have hlt := hm.lt
  obtain ⟨A1, e1⟩ : ∃ A1, A0.alloc (.cells #[] 3) = A1 := ⟨_, rfl⟩
  have z1 : A1.heap.size = A0.heap.size + 1 := by rw [← e1]; simp
  have r1 : A1.ownsRow (w.heap.size + 1) 3 1 (.slice (some ⟨A0.heap.size, 0, none⟩) 0 0) 0 [] := by rw [← e1]; exact own_base (ownsRow_empty A0 3) hlt
  have m1 : Boxed A1 w.heap.size 3 (.int .i64 (q : Nat)) := by rw [← e1]; exact hm.alloc _
  have b1 : Below w.heap.size w A1 := by rw [← e1]; exact hb.alloc hb.size _
  rw [e1]
  obtain ⟨A2, e2⟩ : ∃ A2, A1.alloc (.cells #[] 2) = A2 := ⟨_, rfl⟩
  have z2 : A2.heap.size = A0.heap.size + 1 + 1 := by rw [← e2]; simp; omega
  have r2 : A2.ownsRow (w.heap.size + 1) 2 1 (.slice (some ⟨A0.heap.size + 1, 0, none⟩) 0 0) 0 [] := by rw [← e2, ← z1]; exact own_base (ownsRow_empty A1 2) (by omega)
  have r1' : A2.ownsRow (w.heap.size + 1) 3 1 (.slice (some ⟨A0.heap.size, 0, none⟩) 0 0) 0 [] := by rw [← e2]; exact own_grown r1 (World.grownBy_alloc A1 _ none) (fun _ _ h => by cases h)
  have m2 : Boxed A2 w.heap.size 3 (.int .i64 (q : Nat)) := by rw [← e2]; exact m1.alloc _
  have b2 : Below w.heap.size w A2 := by rw [← e2]; exact b1.alloc b1.size _
  rw [e2]
  obtain ⟨A3, e3⟩ : ∃ A3, A2.alloc (.cells #[.slice (some ⟨A0.heap.size, 0, none⟩) 0 0] 27) = A3 := ⟨_, rfl⟩
  have z3 : A3.heap.size = A0.heap.size + 1 + 1 + 1 := by rw [← e3]; simp; omega
  have x3 : Boxed A3 (A0.heap.size + 1 + 1) 27 (.slice (some ⟨A0.heap.size, 0, none⟩) 0 0) := by rw [← e3, ← z2]; exact Boxed.new A2 _ _
  have r13 : A3.ownsRow (w.heap.size + 1) 3 1 (.slice (some ⟨A0.heap.size, 0, none⟩) 0 0) 0 [] := by rw [← e3]; exact own_grown r1' (World.grownBy_alloc A2 _ none) (fun _ _ h => by cases h)
  have r23 : A3.ownsRow (w.heap.size + 1) 2 1 (.slice (some ⟨A0.heap.size + 1, 0, none⟩) 0 0) 0 [] := by rw [← e3]; exact own_grown r2 (World.grownBy_alloc A2 _ none) (fun _ _ h => by cases h)
  have m3 : Boxed A3 w.heap.size 3 (.int .i64 (q : Nat)) := by rw [← e3]; exact m2.alloc _
  have b3 : Below w.heap.size w A3 := by rw [← e3]; exact b2.alloc b2.size _
  rw [e3]
  have x4 : Boxed (A3.alloc (.cells #[.slice (some ⟨A0.heap.size + 1, 0, none⟩) 0 0] 49)) (A0.heap.size + 1 + 1 + 1) 49 (.slice (some ⟨A0.heap.size + 1, 0, none⟩) 0 0) := by rw [← z3]; exact Boxed.new A3 _ _
  exact ⟨m3.alloc _,
    ⟨_, x3.alloc _, own_grown r13 (World.grownBy_alloc A3 _ none) (fun _ _ h => by cases h), fun g hg => by cases hg; exact hav.1⟩,
    ⟨_, x4, own_grown r23 (World.grownBy_alloc A3 _ none) (fun _ _ h => by cases h), fun g hg => by cases hg; exact hav.2⟩,
    b3.alloc b3.size _⟩
theorem PI.off {w A : World} {b7 b8 q : Nat} {av av' : List Nat} {pre : List (Nat × Int)} (h : PI w b7 b8 q av pre A) (ha : ∀ k ∈ av', A.heap.size ≤ k) : PI w b7 b8 q av' pre A := by
  obtain ⟨v1, h1, h2, _⟩ := h.it
  obtain ⟨v2, h4, h5, _⟩ := h.va
  exact ⟨h.most, ⟨v1, h1, h2, fun g hg hm => by have := (World.ownsRow.lt h2 g hg).2; have := ha g hm; omega⟩, ⟨v2, h4, h5, fun g hg hm => by have := (World.ownsRow.lt h5 g hg).2; have := ha g hm; omega⟩, h.b⟩

/-- The world in the midst of region 10: which operations have come up is L. -/
structure RG (w Wb : World) (b7 b8 : Nat) (av : List Nat) (v1 v2 : Value) (k : Nat) (xs1 xs2 : List Value) (i1 i2 : Value) (L : Nat → Bool) (W : World) : Prop where
  sz : Wb.heap.size ≤ W.heap.size
  bel : Below w.heap.size w W
  ko : KeepsOthers Wb W
  kp : ∀ j, j < Wb.heap.size → j ≠ b7 → j ≠ b8 → v1.ownBlock ≠ some j → v2.ownBlock ≠ some j → W.heap[j]? = Wb.heap[j]?
  o1 : L 3 = false → W.ownsRow (w.heap.size + 1) 3 1 v1 k xs1
  o2 : L 7 = false → W.ownsRow (w.heap.size + 1) 2 1 v2 k xs2
  x1 : L 8 = false → Boxed W b7 27 v1
  x2 : L 9 = false → Boxed W b8 49 v2
  y1 : L 8 = true → L 3 = true ∧ ∃ v', Boxed W b7 27 v' ∧ W.ownsRow (w.heap.size + 1) 3 1 v' (k + 1) (xs1 ++ [i1]) ∧ ∀ g, v'.ownBlock = some g → g ∉ av
  y2 : L 9 = true → L 7 = true ∧ ∃ v', Boxed W b8 49 v' ∧ W.ownsRow (w.heap.size + 1) 2 1 v' (k + 1) (xs2 ++ [i2]) ∧ ∀ g, v'.ownBlock = some g → g ∉ av
  z1 : L 8 = true → L 0 = true
  z2 : L 9 = true → L 4 = true
section
variable {w Wb : World} {b7 b8 : Nat} {av : List Nat} {v1 v2 : Value} {k : Nat} {xs1 xs2 : List Value} {i1 i2 : Value} {L : Nat → Bool} {W W' : World}
theorem updL_true {L : Nat → Bool} {i j : Nat} (h : L j = true) : updL L i j = true := by unfold updL; split; rfl; exact h
theorem RG.upd (h : RG w Wb b7 b8 av v1 v2 k xs1 xs2 i1 i2 L W) {i : Nat} (h3 : 3 ≠ i) (h7 : 7 ≠ i) (h8 : 8 ≠ i) (h9 : 9 ≠ i) : RG w Wb b7 b8 av v1 v2 k xs1 xs2 i1 i2 (updL L i) W :=
  ⟨h.sz, h.bel, h.ko, h.kp, by rw [updL_ne _ h3]; exact h.o1, by rw [updL_ne _ h7]; exact h.o2, by rw [updL_ne _ h8]; exact h.x1, by rw [updL_ne _ h9]; exact h.x2, by rw [updL_ne _ h8, updL_ne _ h3]; exact h.y1, by rw [updL_ne _ h9, updL_ne _ h7]; exact h.y2, by rw [updL_ne _ h8]; exact fun e => updL_true (h.z1 e), by rw [updL_ne _ h9]; exact fun e => updL_true (h.z2 e)⟩
theorem RG.alloc (h : RG w Wb b7 b8 av v1 v2 k xs1 xs2 i1 i2 L W) (o : Obj) : RG w Wb b7 b8 av v1 v2 k xs1 xs2 i1 i2 L (W.alloc o) := by
  have hg := World.grownBy_alloc W o none
  have hn : ∀ {v : Value}, ∀ g, v.ownBlock = some g → (none : Option Nat) ≠ some g := fun _ _ e => by cases e
  refine ⟨Nat.le_trans h.sz hg.size, h.bel.alloc h.bel.size _, h.ko.trans (KeepsOthers.alloc W o), fun j h1 h2 h3 h4 h5 => (Below.heap_alloc W o j (Nat.lt_of_lt_of_le h1 h.sz)).trans (h.kp j h1 h2 h3 h4 h5), fun e => own_grown (h.o1 e) hg hn, fun e => own_grown (h.o2 e) hg hn, fun e => (h.x1 e).alloc o, fun e => (h.x2 e).alloc o, fun e => ?_, fun e => ?_, h.z1, h.z2⟩
  · obtain ⟨h1, v', h2, h3, h4⟩ := h.y1 e
    exact ⟨h1, v', h2.alloc o, own_grown h3 hg hn, h4⟩
  · obtain ⟨h1, v', h2, h3, h4⟩ := h.y2 e
    exact ⟨h1, v', h2.alloc o, own_grown h3 hg hn, h4⟩
theorem RG.drew (h : RG w Wb b7 b8 av v1 v2 k xs1 xs2 i1 i2 L W) : RG w Wb b7 b8 av v1 v2 k xs1 xs2 i1 i2 L W.drew :=
  ⟨h.sz, h.bel.drew, ⟨h.ko.size, h.ko.same⟩, h.kp, h.o1, h.o2, h.x1, h.x2, h.y1, h.y2, h.z1, h.z2⟩
theorem ko_grown {A B : World} {e : TypeId} {n s : Nat} {base : Nat} {v : Value} {xs : List Value} (h : A.ownsRow base e s v n xs) (hg : A.grownBy B v.ownBlock) : KeepsOthers A B :=
  KeepsOthers.of_grownBy hg fun j o ej hj => by
    obtain ⟨_, cur, hcur⟩ := own_at h ej
    rw [hcur] at hj
    cases hj
    rfl
theorem RG.app1 (h : RG w Wb b7 b8 av v1 v2 k xs1 xs2 i1 i2 L W) (hL : L 3 = false) (hg : W.grownBy W' v1.ownBlock) : RG w Wb b7 b8 av v1 v2 k xs1 xs2 i1 i2 (updL L 3) W' := by
  have ho := h.o1 hL
  have h8 : L 8 = false := by
    cases e : L 8 with
    | false => rfl
    | true => have := (h.y1 e).1; rw [hL] at this; cases this
  refine ⟨Nat.le_trans h.sz hg.size, below_grown2 (own_base ho (Nat.le_succ _)) h.bel.size h.bel hg, h.ko.trans (ko_grown ho hg), fun j h1 h2 h3 h4 h5 => (hg.block j (Nat.lt_of_lt_of_le h1 h.sz) (fun e => h4 e.symm)).trans (h.kp j h1 h2 h3 h4 h5), (fun e => by rw [updL_self] at e; cases e), ?_, ?_, ?_, ?_, ?_, (fun e => by rw [updL_ne _ (by decide)] at e; exact updL_true (h.z1 e)), (fun e => by rw [updL_ne _ (by decide)] at e; exact updL_true (h.z2 e))⟩
  · rw [updL_ne _ (by decide)]
    exact fun e => own_grown (h.o2 e) hg (fun g hg2 e2 => own_ne ho (h.o2 e) (by decide) g e2 hg2)
  · intro _
    exact boxed_grown (h.x1 h8) hg (own_box ho (h.x1 h8) (by decide))
  · rw [updL_ne _ (by decide)]
    exact fun e => boxed_grown (h.x2 e) hg (own_box ho (h.x2 e) (by decide))
  · rw [updL_ne _ (by decide), h8]
    intro e; cases e
  · rw [updL_ne _ (by decide), updL_ne _ (by decide)]
    intro e
    obtain ⟨h1, v', h2, h3, h4⟩ := h.y2 e
    exact ⟨h1, v', boxed_grown h2 hg (own_box ho h2 (by decide)), own_grown h3 hg (fun g hg2 e2 => own_ne ho h3 (by decide) g e2 hg2), h4⟩
theorem RG.app2 (h : RG w Wb b7 b8 av v1 v2 k xs1 xs2 i1 i2 L W) (hL : L 7 = false) (hg : W.grownBy W' v2.ownBlock) : RG w Wb b7 b8 av v1 v2 k xs1 xs2 i1 i2 (updL L 7) W' := by
  have ho := h.o2 hL
  have h9 : L 9 = false := by
    cases e : L 9 with
    | false => rfl
    | true => have := (h.y2 e).1; rw [hL] at this; cases this
  refine ⟨Nat.le_trans h.sz hg.size, below_grown2 (own_base ho (Nat.le_succ _)) h.bel.size h.bel hg, h.ko.trans (ko_grown ho hg), fun j h1 h2 h3 h4 h5 => (hg.block j (Nat.lt_of_lt_of_le h1 h.sz) (fun e => h5 e.symm)).trans (h.kp j h1 h2 h3 h4 h5), ?_, (fun e => by rw [updL_self] at e; cases e), ?_, ?_, ?_, ?_, (fun e => by rw [updL_ne _ (by decide)] at e; exact updL_true (h.z1 e)), (fun e => by rw [updL_ne _ (by decide)] at e; exact updL_true (h.z2 e))⟩
  · rw [updL_ne _ (by decide)]
    exact fun e => own_grown (h.o1 e) hg (fun g hg2 e2 => own_ne ho (h.o1 e) (by decide) g e2 hg2)
  · rw [updL_ne _ (by decide)]
    exact fun e => boxed_grown (h.x1 e) hg (own_box ho (h.x1 e) (by decide))
  · intro _
    exact boxed_grown (h.x2 h9) hg (own_box ho (h.x2 h9) (by decide))
  · rw [updL_ne _ (by decide), updL_ne _ (by decide)]
    intro e
    obtain ⟨h1, v', h2, h3, h4⟩ := h.y1 e
    exact ⟨h1, v', boxed_grown h2 hg (own_box ho h2 (by decide)), own_grown h3 hg (fun g hg2 e2 => own_ne ho h3 (by decide) g e2 hg2), h4⟩
  · rw [updL_ne _ (by decide), h9]
    intro e; cases e
theorem RG.st1 (h : RG w Wb b7 b8 av v1 v2 k xs1 xs2 i1 i2 L W) (hL : L 8 = false) (h3 : L 3 = true) (h0 : L 0 = true) (hne : b7 ≠ b8) (hb7 : w.heap.size ≤ b7) {u : Value} (hu : W.ownsRow (w.heap.size + 1) 3 1 u (k + 1) (xs1 ++ [i1])) (hav : ∀ g, u.ownBlock = some g → g ∉ av) : RG w Wb b7 b8 av v1 v2 k xs1 xs2 i1 i2 (updL L 8) (W.setCell ⟨b7, 0, none⟩ u) := by
  have hx := h.x1 hL
  refine ⟨by simpa [World.setCell] using h.sz, h.bel.setCell (p := ⟨b7, 0, none⟩) hb7 _, h.ko.trans (KeepsOthers.setCell _ _ _), fun j h1 h2 h3 h4 h5 => (Below.heap_setCell W ⟨b7, 0, none⟩ u j h2).trans (h.kp j h1 h2 h3 h4 h5), ?_, ?_, (fun e => by rw [updL_self] at e; cases e), ?_, fun _ => ⟨by rw [updL_ne _ (by decide)]; exact h3, u, hx.set u, own_set hu hx (by decide), hav⟩, ?_, (fun _ => updL_true h0), (fun e => by rw [updL_ne _ (by decide)] at e; exact updL_true (h.z2 e))⟩
  · rw [updL_ne _ (by decide)]
    exact fun e => own_set (h.o1 e) hx (by decide)
  · rw [updL_ne _ (by decide)]
    exact fun e => own_set (h.o2 e) hx (by decide)
  · rw [updL_ne _ (by decide)]
    exact fun e => (h.x2 e).other (Ne.symm hne) _
  · rw [updL_ne _ (by decide), updL_ne _ (by decide)]
    intro e
    obtain ⟨h1, v', h2, h3, h4⟩ := h.y2 e
    exact ⟨h1, v', h2.other (Ne.symm hne) _, own_set h3 hx (by decide), h4⟩
theorem RG.st2 (h : RG w Wb b7 b8 av v1 v2 k xs1 xs2 i1 i2 L W) (hL : L 9 = false) (h7 : L 7 = true) (h4 : L 4 = true) (hne : b7 ≠ b8) (hb8 : w.heap.size ≤ b8) {u : Value} (hu : W.ownsRow (w.heap.size + 1) 2 1 u (k + 1) (xs2 ++ [i2])) (hav : ∀ g, u.ownBlock = some g → g ∉ av) : RG w Wb b7 b8 av v1 v2 k xs1 xs2 i1 i2 (updL L 9) (W.setCell ⟨b8, 0, none⟩ u) := by
  have hx := h.x2 hL
  refine ⟨by simpa [World.setCell] using h.sz, h.bel.setCell (p := ⟨b8, 0, none⟩) hb8 _, h.ko.trans (KeepsOthers.setCell _ _ _), fun j h1 h2 h3 h4 h5 => (Below.heap_setCell W ⟨b8, 0, none⟩ u j h3).trans (h.kp j h1 h2 h3 h4 h5), ?_, ?_, ?_, (fun e => by rw [updL_self] at e; cases e), ?_, fun _ => ⟨by rw [updL_ne _ (by decide)]; exact h7, u, hx.set u, own_set hu hx (by decide), hav⟩, (fun e => by rw [updL_ne _ (by decide)] at e; exact updL_true (h.z1 e)), (fun _ => updL_true h4)⟩
  · rw [updL_ne _ (by decide)]
    exact fun e => own_set (h.o1 e) hx (by decide)
  · rw [updL_ne _ (by decide)]
    exact fun e => own_set (h.o2 e) hx (by decide)
  · rw [updL_ne _ (by decide)]
    exact fun e => (h.x1 e).other hne _
  · rw [updL_ne _ (by decide), updL_ne _ (by decide)]
    intro e
    obtain ⟨h1, v', h2, h3, h4⟩ := h.y1 e
    exact ⟨h1, v', h2.other hne _, own_set h3 hx (by decide), h4⟩
end

/-- The rule of RegionInv, inside a round of a range over a function. -/
theorem region_inv_round {P : Program} {id r n : Nat} {Q : Exit → Act → World → Prop} {w : World} {l : List Oper} (hm : P.follows .mixedOrders = true) (hb : backB l = true) (hnd : l.toArray.all (fun o => match o.op with | .defer _ => false | _ => true) = true) (hLO : LetsOut Q → False) (fill : (Nat → Value) → Act) (G : (Nat → Bool) → World → Prop) (V : Nat → Value → World → Prop) (Ext : Nat → World → World → Prop)
    (hV : ∀ i j u w w', i ≠ j → V i u w → Ext j w w' → V i u w') (v0 : Nat → Value) (h0 : G (fun _ => false) w.drew)
    (hop : AllDoI P l.toArray fill G V Ext 0 l)
    (hend : ∀ L v w, G L w → (∀ i, i < l.length → L i = true ∧ V i (v i) w) → Q .normal (fill v) w) : (Code.region id l.toArray true).wpIn (Fence.wide.inRound r) n P Q (fill v0) w :=
  any_round hm (noDefer_of hnd) hLO (any_inv hb fill G V Ext hV v0 h0 hop hend)
/-- Which blocks the operations of region 10 leave. -/
def RK (Wb : World) (j m : Nat) (W : World) : Prop :=
  (j = 3 → Wb.heap.size ≤ m ∨ ∀ cs fr, W.heap[m]? ≠ some (.cells cs 3 fr)) ∧ (j = 7 → Wb.heap.size ≤ m ∨ ∀ cs fr, W.heap[m]? ≠ some (.cells cs 2 fr)) ∧
  (j = 8 → ∀ cs fr, W.heap[m]? ≠ some (.cells cs 27 fr)) ∧ (j = 9 → ∀ cs fr, W.heap[m]? ≠ some (.cells cs 49 fr))
def RE (Wb : World) (j : Nat) (W W' : World) : Prop := W.heap.size ≤ W'.heap.size ∧ ∀ m, m < W.heap.size → RK Wb j m W → W'.heap[m]? = W.heap[m]?
/-- What is said of the values. -/
def RV (w Wb : World) (av : List Nat) (v1 v2 : Value) (k : Nat) (xs1 xs2 : List Value) (i1 i2 : Value) (i : Nat) (u : Value) (W : World) : Prop :=
  match i with
  | 0 => u = v1
  | 1 => u = i1
  | 2 => ∃ b, u = .slice (some ⟨b, 0, none⟩) 1 1 ∧ Wb.heap.size ≤ b ∧ W.heap[b]? = some (.cells #[i1] 3 (0, 0))
  | 3 => W.ownsRow (w.heap.size + 1) 3 1 u (k + 1) (xs1 ++ [i1]) ∧ ∀ g, u.ownBlock = some g → g ∉ av
  | 4 => u = v2
  | 5 => u = i2
  | 6 => ∃ b, u = .slice (some ⟨b, 0, none⟩) 1 1 ∧ Wb.heap.size ≤ b ∧ W.heap[b]? = some (.cells #[i2] 2 (0, 0))
  | 7 => W.ownsRow (w.heap.size + 1) 2 1 u (k + 1) (xs2 ++ [i2]) ∧ ∀ g, u.ownBlock = some g → g ∉ av
  | _ => True
theorem own_same {A B : World} {base e s n : Nat} {v : Value} {xs : List Value} (h : A.ownsRow base e s v n xs) (hk : ∀ g, v.ownBlock = some g → B.heap[g]? = A.heap[g]?) : B.ownsRow base e s v n xs := by
  obtain ⟨h1, h2⟩ := h
  refine ⟨h1, ?_⟩
  rcases h2 with h2 | ⟨g, cap, cur, hv, hg0, hh, r⟩
  · exact .inl h2
  · exact .inr ⟨g, cap, cur, hv, hg0, (hk g (by rw [hv]; rfl)).trans hh, r⟩
theorem no_type {W : World} {m e e' : Nat} {cs : Array Value} {fr : Nat × Nat} (h : W.heap[m]? = some (.cells cs e fr)) (hne : e ≠ e') : ∀ cs fr, W.heap[m]? ≠ some (.cells cs e' fr) := fun cs' fr' e2 => by
  rw [h] at e2
  cases e2
  exact hne rfl
theorem RV.keep {w Wb : World} {av : List Nat} {v1 v2 : Value} {k : Nat} {xs1 xs2 : List Value} {i1 i2 : Value} : ∀ (i j : Nat) (u : Value) (W W' : World), i ≠ j → RV w Wb av v1 v2 k xs1 xs2 i1 i2 i u W → RE Wb j W W' → RV w Wb av v1 v2 k xs1 xs2 i1 i2 i u W' := by
  intro i j u W W' hij h hx
  match i, h with
  | 0, h => exact h
  | 1, h => exact h
  | 2, ⟨b, e, hb, hc⟩ =>
    exact ⟨b, e, hb, (hx.2 b (Array.getElem?_eq_some_iff.1 hc).1 ⟨fun _ => .inl hb, fun _ => .inl hb, fun _ => no_type hc (by decide), fun _ => no_type hc (by decide)⟩).trans hc⟩
  | 3, ⟨h1, h2⟩ =>
    refine ⟨own_same h1 fun g hg => ?_, h2⟩
    obtain ⟨_, cur, hcur⟩ := own_at h1 hg
    exact hx.2 g (Array.getElem?_eq_some_iff.1 hcur).1 ⟨fun e => absurd e.symm hij, fun _ => .inr (no_type hcur (by decide)), fun _ => no_type hcur (by decide), fun _ => no_type hcur (by decide)⟩
  | 4, h => exact h
  | 5, h => exact h
  | 6, ⟨b, e, hb, hc⟩ =>
    exact ⟨b, e, hb, (hx.2 b (Array.getElem?_eq_some_iff.1 hc).1 ⟨fun _ => .inl hb, fun _ => .inl hb, fun _ => no_type hc (by decide), fun _ => no_type hc (by decide)⟩).trans hc⟩
  | 7, ⟨h1, h2⟩ =>
    refine ⟨own_same h1 fun g hg => ?_, h2⟩
    obtain ⟨_, cur, hcur⟩ := own_at h1 hg
    exact hx.2 g (Array.getElem?_eq_some_iff.1 hcur).1 ⟨fun _ => .inr (no_type hcur (by decide)), fun e => absurd e.symm hij, fun _ => no_type hcur (by decide), fun _ => no_type hcur (by decide)⟩
  | n + 8, h => trivial
/-- The one cell of a block, as the laws on append ask for it. -/
theorem one_cell {W : World} {b : Nat} {x : Value} {t : TypeId} (h : W.heap[b]? = some (.cells #[x] t (0, 0))) : ∀ j u, [x][j]? = some u → W.cell? ((⟨b, 0, none⟩ : Addr).add j) = some u := by
  intro j u hj
  match j, hj with
  | 0, hj =>
    simp at hj
    subst hj
    have h1 := Boxed.cell (show Boxed W b t x from h)
    simpa [Addr.add] using h1
theorem RE.refl (Wb : World) (j : Nat) (W : World) : RE Wb j W W := ⟨Nat.le_refl _, fun _ _ _ => rfl⟩
theorem RE.alloc (Wb : World) (j : Nat) (W : World) (o : Obj) : RE Wb j W (W.alloc o) := ⟨by simp, fun m hm _ => Below.heap_alloc W o m hm⟩
theorem RE.app1 {Wb W W' : World} {v : Value} {n : Nat} {base : Nat} {xs : List Value} (ho : W.ownsRow base 3 1 v n xs) (hl : ∀ g, v.ownBlock = some g → g < Wb.heap.size) (hg : W.grownBy W' v.ownBlock) : RE Wb 3 W W' := ⟨hg.size, fun m hm hk => hg.block m hm fun e => by
  obtain ⟨_, cur, hcur⟩ := own_at ho e.symm
  rcases hk.1 rfl with h | h
  · have := hl m e.symm; omega
  · exact h _ _ hcur⟩
theorem RE.app2 {Wb W W' : World} {v : Value} {n : Nat} {base : Nat} {xs : List Value} (ho : W.ownsRow base 2 1 v n xs) (hl : ∀ g, v.ownBlock = some g → g < Wb.heap.size) (hg : W.grownBy W' v.ownBlock) : RE Wb 7 W W' := ⟨hg.size, fun m hm hk => hg.block m hm fun e => by
  obtain ⟨_, cur, hcur⟩ := own_at ho e.symm
  rcases hk.2.1 rfl with h | h
  · have := hl m e.symm; omega
  · exact h _ _ hcur⟩
theorem RE.st1 {Wb W : World} {b : Nat} {v u : Value} (hb : Boxed W b 27 v) : RE Wb 8 W (W.setCell ⟨b, 0, none⟩ u) := ⟨by simp [World.setCell], fun m hm hk => Below.heap_setCell W ⟨b, 0, none⟩ u m fun e => hk.2.2.1 rfl #[v] (0, 0) (by rw [e]; exact hb)⟩
theorem RE.st2 {Wb W : World} {b : Nat} {v u : Value} (hb : Boxed W b 49 v) : RE Wb 9 W (W.setCell ⟨b, 0, none⟩ u) := ⟨by simp [World.setCell], fun m hm hk => Below.heap_setCell W ⟨b, 0, none⟩ u m fun e => hk.2.2.2 rfl #[v] (0, 0) (by rw [e]; exact hb)⟩
end Go.Proofs.YtndbpmhdpjlncaaDoor.setPairs
