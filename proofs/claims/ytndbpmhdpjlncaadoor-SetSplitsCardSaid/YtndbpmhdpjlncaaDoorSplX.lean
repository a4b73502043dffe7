/- What stays while law SetSplits makes two lists of the subsets; lists that are filled up to a length (plain). -/
import Derived.Test.YtndbpmhdpjlncaaDoorSubsX
import Derived.Test.YtndbpmhdpjlncaaDoorSplO
import Derived.Test.YtndbpmhdpjlncaaDoorSetOrd
namespace Go.Proofs.YtndbpmhdpjlncaaDoor
open Go.RowKit Go.Shelf
set_option linter.unusedVariables false

/-- Those among the first k that are wanted, at most q of them. -/
def accL (P : Nat → Bool) (l : List Nat) (q k : Nat) : List Nat := ((l.take k).filter P).take q
theorem accL_zero (P : Nat → Bool) (l : List Nat) (q : Nat) : accL P l q 0 = [] := by simp [accL]
theorem take_snoc {l : List Nat} {k x : Nat} (h : l[k]? = some x) : l.take (k + 1) = l.take k ++ [x] := by
  rw [List.take_add_one, h]; rfl
theorem accL_hit {P : Nat → Bool} {l : List Nat} {q k x : Nat} (h : l[k]? = some x) (hp : P x = true) (hq : (accL P l q k).length < q) : accL P l q (k + 1) = accL P l q k ++ [x] := by
  unfold accL at hq ⊢
  rw [take_snoc h, List.filter_append]
  have h1 : ((l.take k).filter P).length < q := by
    rw [List.length_take] at hq; omega
  have h2 : [x].filter P = [x] := by simp [hp]
  rw [h2, List.take_of_length_le (l := (l.take k).filter P ++ [x]) (by rw [List.length_append]; show _ + 1 ≤ q; omega), List.take_of_length_le (l := (l.take k).filter P) (by omega)]
theorem accL_miss {P : Nat → Bool} {l : List Nat} {q k x : Nat} (h : l[k]? = some x) (hp : P x = false) : accL P l q (k + 1) = accL P l q k := by
  unfold accL
  rw [take_snoc h, List.filter_append]
  have h2 : [x].filter P = [] := by simp [hp]
  rw [h2, List.append_nil]
theorem accL_full {P : Nat → Bool} {l : List Nat} {q k x : Nat} (h : l[k]? = some x) (hq : ¬ (accL P l q k).length < q) : accL P l q (k + 1) = accL P l q k := by
  unfold accL at hq ⊢
  rw [take_snoc h, List.filter_append, List.take_append_of_le_length]
  rw [List.length_take] at hq; omega
theorem accL_all {P : Nat → Bool} {l : List Nat} {q k : Nat} (h : l.length ≤ k) : accL P l q k = (l.filter P).take q := by
  unfold accL; rw [List.take_of_length_le h]
theorem accL_len {P : Nat → Bool} {l : List Nat} {q k : Nat} : (accL P l q k).length ≤ k ∧ (accL P l q k).length ≤ q := by
  unfold accL
  refine ⟨?_, by rw [List.length_take]; omega⟩
  rw [List.length_take]
  have h1 := List.length_filter_le P (l.take k)
  rw [List.length_take] at h1; omega

/-- Two own rows of sets; some blocks and all below B stay. -/
structure TR (V : World) (B : Nat) (av : List Nat) (v1 v2 : Value) (xs ys : List Nat) (W : World) : Prop where
  o1 : W.ownsRow B 22 1 v1 xs.length (xs.map encU)
  o2 : W.ownsRow B 22 1 v2 ys.length (ys.map encU)
  ne : ∀ g, v1.ownBlock = some g → v2.ownBlock ≠ some g
  n1 : ∀ g, v1.ownBlock = some g → g ∉ av
  n2 : ∀ g, v2.ownBlock = some g → g ∉ av
  bel : Below B V W
  keep : ∀ k ∈ av, k < W.heap.size ∧ W.heap[k]? = V.heap[k]?
section
variable {V W W' w1 : World} {B : Nat} {av : List Nat} {v1 v2 v' : Value} {xs ys : List Nat} {x : Nat}
theorem TR.below (h : TR V B av v1 v2 xs ys W) (hb : Below W.heap.size W W') (hB : B ≤ W.heap.size) : TR V B av v1 v2 xs ys W' :=
  ⟨own_below h.o1 hb (Nat.le_refl _), own_below h.o2 hb (Nat.le_refl _), h.ne, h.n1, h.n2, h.bel.trans (hb.mono hB), fun k hk => ⟨Nat.lt_of_lt_of_le (h.keep k hk).1 hb.size, (hb.block k (h.keep k hk).1).trans (h.keep k hk).2⟩⟩
theorem TR.swap (h : TR V B av v1 v2 xs ys W) : TR V B av v2 v1 ys xs W := ⟨h.o2, h.o1, fun g e1 e2 => h.ne g e2 e1, h.n2, h.n1, h.bel, h.keep⟩
theorem TR.app1 (h : TR V B av v1 v2 xs ys W) (hB : B ≤ W.heap.size) (hown' : w1.ownsRow B 22 1 v' (xs.length + 1) (xs.map encU ++ [.int .u64 (x : Nat)])) (hgrow : (W.alloc (.cells #[.int .u64 (x : Nat)] 22)).grownBy w1 v1.ownBlock)
    (h5 : v'.ownBlock = v1.ownBlock ∨ v'.ownBlock = some (W.alloc (.cells #[.int .u64 (x : Nat)] 22)).heap.size) : TR V B av v' v2 (xs ++ [x]) ys w1 := by
  have ha := h.below ((Below.refl _ W).alloc (Nat.le_refl _) (.cells #[.int .u64 (x : Nat)] 22)) hB
  obtain ⟨A, hA⟩ : ∃ A, W.alloc (.cells #[.int .u64 (x : Nat)] 22) = A := ⟨_, rfl⟩
  have hz : A.heap.size = W.heap.size + 1 := by rw [← hA]; simp
  rw [hA] at ha hgrow h5
  refine ⟨by rw [List.length_append, List.map_append]; exact hown', own_grown ha.o2 hgrow (fun g hg e => ha.ne g e hg), ?_, ?_, h.n2, below_grown2 ha.o1 (by omega) ha.bel hgrow, fun k hk => ?_⟩
  · intro g hg hg2
    rcases h5 with h5 | h5
    · exact h.ne g (by rw [← h5]; exact hg) hg2
    · rw [h5] at hg; cases hg
      have := (World.ownsRow.lt h.o2 _ hg2).2; omega
  · intro g hg hm
    rcases h5 with h5 | h5
    · exact h.n1 g (by rw [← h5]; exact hg) hm
    · rw [h5] at hg; cases hg
      have := (h.keep _ hm).1; omega
  · obtain ⟨k1, k2⟩ := ha.keep k hk
    exact ⟨Nat.lt_of_lt_of_le k1 hgrow.size, (hgrow.block k k1 (fun e => h.n1 k e.symm hk)).trans k2⟩
end
theorem neg_low {s : Nat} (hs : s < 18446744073709551616) : bits .and .u64 (s : Int) (IntKind.u64.wrap (-(s : Int))) = ((sub s 1 : Nat) : Int) := by
  rw [show IntKind.u64.wrap (-(s : Int)) = (((18446744073709551616 - s) % 18446744073709551616 : Nat) : Int) from by rw [IntKind.wrap_u64]; omega]
  rw [u64_and_nat _ _ hs (Nat.mod_lt _ (by decide)), low_sub hs]
end Go.Proofs.YtndbpmhdpjlncaaDoor
