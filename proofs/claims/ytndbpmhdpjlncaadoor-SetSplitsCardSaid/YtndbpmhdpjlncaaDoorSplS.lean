/- What set.Splits and set.Choose hand back. -/
import Derived.Test.YtndbpmhdpjlncaaDoorSplC
namespace Go.Proofs.YtndbpmhdpjlncaaDoor
open Go.RowKit Go.Shelf
set_option linter.unusedVariables false
attribute [local go_sem] Oper.semAt_some

set_option maxHeartbeats 1000000 in
theorem splits_in (F : Fence) (n : Nat) (hF : ∀ k, F.fn k) (hro : F.round = none) (s : Nat) (w : World) :
    CallsIn F n Tryd.prog 39 #[.int .u64 s] w fun e w' => e = .returned (.func (.func 61) #[] #[.pointer (some ⟨w.heap.size, 0, none⟩)]) ∧ w' = w.alloc (.cells #[.int .u64 s] 22) := by
  refine callsIn_of_wp Tryd.func39 rfl (hF _) ?_ hro
  simp only [Tryd.ntmps39, List.size_toArray, List.length_cons, List.length_nil, Nat.reduceAdd, Nat.reduceSub, Array.replicate_succ, Array.replicate_zero, List.push_toArray, List.append_toArray, List.nil_append, List.cons_append]
  gi_wp2
  go_ret
  exact ⟨rfl, rfl⟩
set_option maxHeartbeats 1000000 in
theorem choose_in (F : Fence) (n : Nat) (hF : ∀ k, F.fn k) (hro : F.round = none) (s : Nat) (m : Int) (w : World) :
    CallsIn F n Tryd.prog 40 #[.int .u64 s, .int .i64 m] w fun e w' => e = .returned (.func (.func 63) #[] #[.pointer (some ⟨w.heap.size + 1, 0, none⟩), .pointer (some ⟨w.heap.size, 0, none⟩)]) ∧ w' = (w.alloc (.cells #[.int .u64 s] 22)).alloc (.cells #[.int .i64 m] 3) := by
  refine callsIn_of_wp Tryd.func40 rfl (hF _) ?_ hro
  simp only [Tryd.ntmps40, List.size_toArray, List.length_cons, List.length_nil, Nat.reduceAdd, Nat.reduceSub, Array.replicate_succ, Array.replicate_zero, List.push_toArray, List.append_toArray, List.nil_append, List.cons_append]
  gi_wp2
  go_ret
  exact ⟨rfl, rfl⟩
theorem res_splits (tmps : Array Value) (w : World) (b : Nat) (v : Value) (hp : tmps.getD 6 undef = .pointer (some ⟨b, 0, none⟩)) (hc : w.cell? ⟨b, 0, none⟩ = some v) : (results Tryd.f9 tmps).run Tryd.prog w = .ok v w := by
  have hp' : tmps[6]?.getD undef = .pointer (some ⟨b, 0, none⟩) := by simpa using hp
  have k1 : (loadVar 4 ⟨b, 0, none⟩).run Tryd.prog w = .ok v w := by simp [go_sem, hc]
  simp [results, hp', asAddr, k1]
/-- What is said of a pair that set.Splits tells. -/
theorem split_pair {s : Nat} {pre : List (Nat × Nat)} {x : Nat × Nat} (hs : s < 18446744073709551616) (h : pre ++ [x] <+: splitsL s) : x.1 < 18446744073709551616 ∧ x.2 < 18446744073709551616 ∧ x.1 &&& x.2 = 0 ∧ x.1 ||| x.2 = s := by
  have hm : x ∈ splitsL s := h.subset (by simp)
  unfold splitsL at hm
  split at hm
  · cases hm
  · rename_i h0
    obtain ⟨y, hy, rfl⟩ := List.mem_map.1 hm
    obtain ⟨j, _, rfl⟩ := List.mem_map.1 hy
    have hin := splP_in (j := j) hs (by omega)
    obtain ⟨h1, h2⟩ := splP_apart hs hin
    refine ⟨?_, Nat.lt_of_le_of_lt Nat.and_le_left hs, h1, h2⟩
    show sub (restS s) j ||| sub s 1 < _
    rw [← hin]
    exact Nat.lt_of_le_of_lt Nat.and_le_right hs
/-- What is wanted of the pairs. -/
theorem want_splits {s : Nat} (hs : s < 18446744073709551616) : (subs s).filter (fun x => decide (x &&& sub s 1 ≠ 0)) = (splitsL s).map Prod.fst := by
  rcases Nat.eq_zero_or_pos s with rfl | h
  · have h1 : sub 0 1 = 0 := Nat.le_zero.1 (dep_le 64 0 1)
    rw [h1]
    unfold splitsL
    rw [if_pos rfl]
    rw [List.filter_eq_nil_iff.2 (by intro x _; simp)]
    rfl
  · exact splits_fst hs h
end Go.Proofs.YtndbpmhdpjlncaaDoor
