/- Facts for SumLinear. -/
import Derived.Test.YtdimjeppcfacdaaSumLaws
import Derived.Test.YtdimjeppcfacdaaSumAlive
import Derived.Test.YtdimjeppcfacdaaOpenP
import Derived.Test.YtdimjeppcfacdaaDevA
import Derived.Test.YtdimjeppcfacdaaRegionRel
namespace Go.Proofs.Ytdimjeppcfacdaa
open Go.RowKit SumM
set_option linter.unusedVariables false

/-- The row so far: k of the bytes that two rows have held against each other, then 0. -/
def linX (la lb : List Nat) (n k : Nat) : List Nat := (xorL la lb).take k ++ List.replicate (n - k) 0
theorem linX_len {la lb : List Nat} {n k : Nat} (ha : la.length = n) (hb : lb.length = n) (hk : k ≤ n) : (linX la lb n k).length = n := by
  unfold linX xorL
  rw [List.length_append, List.length_take, List.length_zipWith, List.length_replicate]; omega
theorem linX_set {la lb : List Nat} {n k x y : Nat} (ha : la.length = n) (hb : lb.length = n) (hk : k < n) (hx : la[k]? = some x) (hy : lb[k]? = some y) : (linX la lb n k).set k (x ^^^ y) = linX la lb n (k + 1) := by
  unfold linX
  have hl : ((xorL la lb).take k).length = k := by unfold xorL; rw [List.length_take, List.length_zipWith]; omega
  have hz : (xorL la lb)[k]? = some (x ^^^ y) := by unfold xorL; rw [List.getElem?_zipWith, hx, hy]
  rw [List.set_append_right _ _ (by omega), hl, Nat.sub_self, take_one _ _ _ hz, List.append_assoc]
  congr 1
  rw [show n - k = (n - (k + 1)) + 1 from by omega, List.replicate_succ]
  rfl
theorem linX_end {la lb : List Nat} {n : Nat} (ha : la.length = n) (hb : lb.length = n) : linX la lb n n = xorL la lb := by
  unfold linX
  rw [Nat.sub_self, List.replicate_zero, List.append_nil, List.take_of_length_le (by unfold xorL; rw [List.length_zipWith]; omega)]
theorem xor8 (x y : Nat) (hx : x < 256) (hy : y < 256) : bits .xor .u8 (x : Int) (y : Int) = ((x ^^^ y : Nat) : Int) := by
  have h : ∀ a b : Fin 256, bits .xor .u8 ((a.val : Nat) : Int) ((b.val : Nat) : Int) = ((a.val ^^^ b.val : Nat) : Int) := by decide +kernel
  exact h ⟨x, hx⟩ ⟨y, hy⟩
theorem of_part (B : Nat) (l : List Nat) (hl : Bytes l) (W : World) (h : Parts W.heap.size W (.slice (some ⟨B, 0, none⟩) 1 1) [l]) :
    Calls Try.prog 16 #[.slice (some ⟨B, 0, none⟩) 1 1] W fun e w' => e = .returned (.int .u32 (sumL l : Nat)) ∧ Below W.heap.size W w' := by
  refine (of_any _ 1 1 [l] (by simp) (fun x hx => by simp at hx; subst hx; exact hl) W h).mono ?_
  rintro e w' ⟨rfl, hb⟩
  exact ⟨by simp, hb⟩
theorem sum_linear {la lb : List Nat} {n : Nat} (ha : la.length = n) (hb : lb.length = n) (h1 : ∀ x ∈ la, x < 256) (h2 : ∀ x ∈ lb, x < 256) : sumL la ^^^ sumL lb ^^^ sumL (List.replicate n 0) = sumL (xorL la lb) := by
  have h := ext_linear la lb (by omega) h1 h2
  rw [ha] at h
  exact h.symm
theorem xorL_bytes {la lb : List Nat} {n : Nat} (hn : n ≤ 1000) (ha : la.length = n) (hb : lb.length = n) (h1 : ∀ x ∈ la, x < 256) (h2 : ∀ x ∈ lb, x < 256) : Bytes (xorL la lb) := by
  refine ⟨by unfold xorL; rw [List.length_zipWith]; omega, fun z hz => ?_⟩
  unfold xorL at hz
  rw [List.zipWith_eq_zipWith_take_min] at hz
  obtain ⟨i, hi, rfl⟩ := List.getElem_of_mem hz
  rw [List.getElem_zipWith]
  exact Nat.xor_lt_two_pow (n := 8) (h1 _ (List.mem_of_mem_take (List.getElem_mem _))) (h2 _ (List.mem_of_mem_take (List.getElem_mem _)))
end Go.Proofs.Ytdimjeppcfacdaa
