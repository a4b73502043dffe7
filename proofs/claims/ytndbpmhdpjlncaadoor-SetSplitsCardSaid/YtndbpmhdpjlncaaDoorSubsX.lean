/- What stays while a law goes over sets and puts them into a list. -/
import Derived.Test.YtndbpmhdpjlncaaDoorSubsB
import Derived.Test.YtndbpmhdpjlncaaDoorCollect
import Derived.Test.YtndbpmhdpjlncaaDoorSetFirst
import Derived.Maps.OwnIn
namespace Go.Proofs.YtndbpmhdpjlncaaDoor
open Go.RowKit Go.Shelf
set_option linter.unusedVariables false

/-- What stays while a law puts what it goes over into a list: the box b6, the row (which lies off the blocks av), and all that was. -/
structure PS (V : World) (b6 : Nat) (av : List Nat) (pre : List Nat) (W : World) : Prop where
  it : ∃ v, Boxed W b6 42 v ∧ W.ownsRow V.heap.size 22 1 v pre.length (pre.map encU) ∧ ∀ g, v.ownBlock = some g → g ∉ av
  b : Below V.heap.size V W
theorem PS.own {V : World} {b6 B : Nat} {av : List Nat} (hB : V.heap.size ≤ B) : OwnFrom B (PS V b6 av) := fun pre A C row h hg hr => by
  obtain ⟨v1, h1, h2, h3⟩ := h.it
  obtain ⟨u1, k1, k2, k3⟩ := (Own.from (holdsRow_own V.heap.size b6 42 22 1 (fun pre : List Nat => pre.length) (fun pre => pre.map encU) (fun _ v => ∀ g, v.ownBlock = some g → g ∉ av)) B) pre A C row ⟨v1, h1, h2, h3⟩ hg hr
  exact ⟨⟨u1, k1, k2, k3⟩, ownFrom_below (β := Unit) (Nat.le_refl _) hB () A C row h.b hg hr⟩
theorem PS.below {V A C : World} {b6 : Nat} {av : List Nat} {pre : List Nat} (h : PS V b6 av pre A) (hb : Below A.heap.size A C) : PS V b6 av pre C := by
  obtain ⟨v1, h1, h2, h3⟩ := h.it
  exact ⟨⟨v1, boxed_below h1 hb h1.lt, own_below h2 hb (Nat.le_refl _), h3⟩, h.b.trans (hb.mono h.b.size)⟩
theorem PS.abides {V : World} {b6 : Nat} {av bs : List Nat} (hs : ∀ k ∈ bs, k ∈ av ∧ V.heap.size ≤ k ∧ k ≠ b6) : AbidesCells bs (PS V b6 av) := fun pre W r v hr h => by
  obtain ⟨ha, h0, hb6⟩ := hs r hr
  obtain ⟨v1, h1, h2, h3⟩ := h.it
  exact ⟨⟨v1, h1.other (Ne.symm hb6) v, own_grown h2 (grownBy_setCell' W r v) (fun g hg e => by cases e; exact h3 _ hg ha), h3⟩, h.b.setCell (p := ⟨r, 0, none⟩) h0 v⟩
theorem PS.start {V : World} (av : List Nat) (hav : V.heap.size ∉ av) : PS V (V.heap.size + 1) av [] ((V.alloc (.cells #[] 22)).alloc (.cells #[.slice (some ⟨V.heap.size, 0, none⟩) 0 0] 42)) := by
  obtain ⟨A1, e1⟩ : ∃ A1, V.alloc (.cells #[] 22) = A1 := ⟨_, rfl⟩
  have z1 : A1.heap.size = V.heap.size + 1 := by rw [← e1]; simp
  have r1 : A1.ownsRow V.heap.size 22 1 (.slice (some ⟨V.heap.size, 0, none⟩) 0 0) 0 [] := by rw [← e1]; exact ownsRow_empty V 22
  have b1 : Below V.heap.size V A1 := by rw [← e1]; exact (Below.refl _ _).alloc (Nat.le_refl _) _
  rw [e1]
  have x1 : Boxed (A1.alloc (.cells #[.slice (some ⟨V.heap.size, 0, none⟩) 0 0] 42)) (V.heap.size + 1) 42 (.slice (some ⟨V.heap.size, 0, none⟩) 0 0) := by rw [← z1]; exact Boxed.new A1 _ _
  exact ⟨⟨_, x1, own_grown r1 (World.grownBy_alloc A1 _ none) (fun _ _ h => by cases h), fun g hg => by cases hg; exact hav⟩, b1.alloc (by omega) _⟩
theorem PS.off {V A : World} {b6 : Nat} {av av' : List Nat} {pre : List Nat} (h : PS V b6 av pre A) (ha : ∀ k ∈ av', A.heap.size ≤ k) : PS V b6 av' pre A := by
  obtain ⟨v1, h1, h2, _⟩ := h.it
  exact ⟨⟨v1, h1, h2, fun g hg hm => by have := (World.ownsRow.lt h2 g hg).2; have := ha g hm; omega⟩, h.b⟩
theorem i64_and1023 (n : Int) : bits .and .i64 n 1023 = n % 1024 := by
  have h127 : (BitVec.ofInt 64 1023).toNat = 2 ^ 10 - 1 := by decide
  have key : (BitVec.ofInt 64 n &&& BitVec.ofInt 64 1023).toNat = (n % ((2 ^ 64 : Nat) : Int)).toNat % 2 ^ 10 := by
    rw [BitVec.toNat_and, BitVec.toNat_ofInt, h127, Nat.and_two_pow_sub_one_eq_mod]
  show IntKind.i64.wrap ((BitVec.ofInt 64 n &&& BitVec.ofInt 64 1023).toNat : Nat) = n % 1024
  rw [key, IntKind.wrap_i64]
  omega
theorem and1023 (a : Int) : ∃ t : Nat, bits .and .i64 a 1023 = (t : Int) ∧ t < 1024 := ⟨(a % 1024).toNat, by rw [i64_and1023]; omega, by omega⟩
theorem Sl.takeX {α : Type} {enc : α → Value} {n m b off c : Nat} {W : World} {xs : List α} (h : Sl enc n W (.slice (some ⟨b, off, none⟩) xs.length c) xs) (hm : m ≤ xs.length) : Sl enc n W (.slice (some ⟨b, off, none⟩) m c) (xs.take m) := by
  rcases h with ⟨e, _⟩ | ⟨b', off', cap, e, hb, hcap, hc⟩
  · cases e
  · cases e
    refine .inr ⟨b, off, c, by rw [List.length_take, Nat.min_eq_left hm], hb, by rw [List.length_take, Nat.min_eq_left hm]; omega, fun j x hj => ?_⟩
    rw [List.getElem?_take] at hj
    split at hj
    · exact hc j x hj
    · cases hj
/-- A set less its least item. -/
theorem rest_less {s : Nat} (hs : s < 18446744073709551616) (h0 : 0 < s) : bits .and .u64 (s : Int) ((s : Int) - 1) = ((s &&& (s - 1) : Nat) : Int) := by
  have h := rest_walk hs
  have e : IntKind.u64.wrap ((s : Int) - 1) = (s : Int) - 1 := by rw [IntKind.wrap_u64]; omega
  rw [e] at h
  exact h
/-- One more is put into the list. -/
theorem PS.push {V W w1 : World} {b6 x : Nat} {av pre : List Nat} {v v' : Value} (hv : Boxed W b6 42 v) (hrow : W.ownsRow V.heap.size 22 1 v pre.length (pre.map encU)) (hav : ∀ g, v.ownBlock = some g → g ∉ av) (hb : Below V.heap.size V W)
    (hown' : w1.ownsRow V.heap.size 22 1 v' (pre.length + 1) (pre.map encU ++ [.int .u64 (x : Nat)])) (hgrow : (W.alloc (.cells #[.int .u64 (x : Nat)] 22)).grownBy w1 v.ownBlock) (h5 : v'.ownBlock = v.ownBlock ∨ v'.ownBlock = some (W.alloc (.cells #[.int .u64 (x : Nat)] 22)).heap.size)
    (hB : V.heap.size ≤ b6) (hlt : ∀ k ∈ av, k < W.heap.size ∧ k ≠ b6) :
    Boxed w1 b6 42 v ∧ Boxed (w1.setCell ⟨b6, 0, none⟩ v') b6 42 v' ∧ PS V b6 av (pre ++ [x]) (w1.setCell ⟨b6, 0, none⟩ v') ∧ KeepsOthers W (w1.setCell ⟨b6, 0, none⟩ v') ∧ Below V.heap.size W (w1.setCell ⟨b6, 0, none⟩ v') ∧ ∀ k ∈ av, (w1.setCell ⟨b6, 0, none⟩ v').heap[k]? = W.heap[k]? := by
  obtain ⟨h1, h2, h3, h4, h6⟩ := hv.appended (by decide) hrow hb.size hB hown' hgrow
  refine ⟨h1, h2, ⟨⟨v', h2, by rw [List.length_append, List.map_append]; exact h3, fun g hg hm => ?_⟩, hb.trans h6⟩, h4, h6, fun k hk => ?_⟩
  · rcases h5 with h5 | h5
    · exact hav g (by rw [← h5]; exact hg) hm
    · rw [h5] at hg
      cases hg
      have := (hlt _ hm).1
      simp at this
      omega
  · obtain ⟨k1, k2⟩ := hlt k hk
    rw [setCell_heap k2, hgrow.block k (by simp; omega) (fun e => hav k e.symm hk)]
    exact Below.heap_alloc W _ k k1
end Go.Proofs.YtndbpmhdpjlncaaDoor
