/- Contracts of the calls of package money, and of the document's own answers for it, that only reckon with numbers. -/
import Derived.Test.YtndbpmhdpjlncaaRows
import Derived.WalkKit
import Derived.WalkSpells
import Derived.WalkLawsBesides
import Derived.Lib.Hide
namespace Go.Proofs.Ytndbpmhdpjlncaa
open Go.RowKit

theorem ret_pair {x a : Int} {y b : Bool} (h1 : x = a) (h2 : y = b) : Ending.returned (.tuple #[.int .i64 x, .bool y]) = .returned (.tuple #[.int .i64 a, .bool b]) := by rw [h1, h2]
theorem ret_int {x a : Int} (h1 : x = a) : Ending.returned (.int .i64 x) = .returned (.int .i64 a) := by rw [h1]
theorem wrap_least : wrap64 9223372036854775808 = -9223372036854775808 := by decide +kernel

/-- Is a number a sum? -/
def sumB (n : Int) : Bool := decide (-140737488355328 ≤ n ∧ n ≤ 140737488355328)
theorem sumB_t {n : Int} (h : sumB n = true) : -140737488355328 ≤ n ∧ n ≤ 140737488355328 := of_decide_eq_true h
theorem sumB_f {n : Int} (h : sumB n = false) : n < -140737488355328 ∨ 140737488355328 < n := by
  have := of_decide_eq_false h; omega
theorem sumB_mk {n : Int} (h : -140737488355328 ≤ n ∧ n ≤ 140737488355328) : sumB n = true := decide_eq_true h
theorem sumB_mkf {n : Int} (h : n < -140737488355328 ∨ 140737488355328 < n) : sumB n = false := decide_eq_false (by omega)

set_option maxHeartbeats 400000 in
theorem isSum_any (n : Int) (w : World) :
    Calls Try.prog 22 #[.int .i64 n] w fun e w' => e = .returned (.bool (sumB n)) ∧ w = w' := by
  by_cases h1 : -140737488355328 ≤ n
  · by_cases h2 : n ≤ 140737488355328
    · rw [sumB_mk ⟨h1, h2⟩]
      go_enter Try.func22, Try.ntmps22
      go_wp2
      go_ret
      exact ⟨rfl, rfl⟩
    · rw [sumB_mkf (by omega)]
      go_enter Try.func22, Try.ntmps22
      go_wp2
      go_ret
      exact ⟨rfl, rfl⟩
  · rw [sumB_mkf (by omega)]
    go_enter Try.func22, Try.ntmps22
    go_wp2
    go_ret
    exact ⟨rfl, rfl⟩


set_option maxHeartbeats 400000 in
theorem refIsSum_any (n : Int) (w : World) :
    Calls Try.prog 23 #[.int .i64 n] w fun e w' => e = .returned (.bool (sumB n)) ∧ w = w' := by
  by_cases h1 : -140737488355328 ≤ n
  · by_cases h2 : n ≤ 140737488355328
    · rw [sumB_mk ⟨h1, h2⟩]
      go_enter Try.func23, Try.ntmps23
      go_wp2
      go_ret
      exact ⟨rfl, rfl⟩
    · rw [sumB_mkf (by omega)]
      go_enter Try.func23, Try.ntmps23
      go_wp2
      go_ret
      exact ⟨rfl, rfl⟩
  · rw [sumB_mkf (by omega)]
    go_enter Try.func23, Try.ntmps23
    go_wp2
    go_ret
    exact ⟨rfl, rfl⟩

/-- Can the sum of two numbers be told? What is told. -/
def addB (a b : Int) : Bool := sumB a && (sumB b && sumB (a + b))
def addV (a b : Int) : Int := if addB a b = true then a + b else 0
theorem addB_eq {a b : Int} (h : addB a b = true) : addV a b = a + b := if_pos h
theorem addB_no {a b : Int} (h : addB a b = false) : addV a b = 0 := if_neg (by rw [h]; decide)

set_option maxHeartbeats 400000 in
theorem add_any (a b : Int) (w : World) :
    Calls Try.prog 7 #[.int .i64 a, .int .i64 b] w fun e w' => e = .returned (.tuple #[.int .i64 (addV a b), .bool (addB a b)]) ∧ w = w' := by
  cases hA : sumB a with
  | false =>
    have hb : addB a b = false := by simp [addB, hA]
    rw [addB_no hb, hb]
    clear hb
    go_enter Try.func7, Try.ntmps7
    go_wp2_with (go_at_call 22; refine (isSum_any _ _).mono ?_; rintro e w' ⟨rfl, rfl⟩)
    go_ret2
    exact ⟨rfl, rfl⟩
  | true =>
    cases hB : sumB b with
    | false =>
      have hb : addB a b = false := by simp [addB, hA, hB]
      rw [addB_no hb, hb]
      clear hb
      go_enter Try.func7, Try.ntmps7
      go_wp2_with (go_at_call 22; refine (isSum_any _ _).mono ?_; rintro e w' ⟨rfl, rfl⟩)
      go_ret2
      exact ⟨rfl, rfl⟩
    | true =>
      obtain ⟨a1, a2⟩ := sumB_t hA
      obtain ⟨b1, b2⟩ := sumB_t hB
      cases hC : sumB (a + b) with
      | false =>
        have hb : addB a b = false := by simp [addB, hA, hB, hC]
        rw [addB_no hb, hb]
        clear hb
        go_enter Try.func7, Try.ntmps7
        go_wp2_with (go_at_call 22; refine (isSum_any _ _).mono ?_; rintro e w' ⟨rfl, rfl⟩)
        go_ret2
        exact ⟨rfl, rfl⟩
      | true =>
        have hb : addB a b = true := by simp [addB, hA, hB, hC]
        rw [addB_eq hb, hb]
        clear hb
        go_enter Try.func7, Try.ntmps7
        go_wp2_with (go_at_call 22; refine (isSum_any _ _).mono ?_; rintro e w' ⟨rfl, rfl⟩)
        go_ret2
        exact ⟨rfl, rfl⟩

set_option maxHeartbeats 400000 in
theorem refAdd_any (a b : Int) (w : World) :
    Calls Try.prog 8 #[.int .i64 a, .int .i64 b] w fun e w' => e = .returned (.tuple #[.int .i64 (addV a b), .bool (addB a b)]) ∧ w = w' := by
  cases hA : sumB a with
  | false =>
    have hb : addB a b = false := by simp [addB, hA]
    rw [addB_no hb, hb]
    clear hb
    go_enter Try.func8, Try.ntmps8
    go_wp2_with (go_at_call 23; refine (refIsSum_any _ _).mono ?_; rintro e w' ⟨rfl, rfl⟩)
    go_ret2
    exact ⟨rfl, rfl⟩
  | true =>
    cases hB : sumB b with
    | false =>
      have hb : addB a b = false := by simp [addB, hA, hB]
      rw [addB_no hb, hb]
      clear hb
      go_enter Try.func8, Try.ntmps8
      go_wp2_with (go_at_call 23; refine (refIsSum_any _ _).mono ?_; rintro e w' ⟨rfl, rfl⟩)
      go_ret2
      exact ⟨rfl, rfl⟩
    | true =>
      obtain ⟨a1, a2⟩ := sumB_t hA
      obtain ⟨b1, b2⟩ := sumB_t hB
      cases hC : sumB (a + b) with
      | false =>
        have hb : addB a b = false := by simp [addB, hA, hB, hC]
        rw [addB_no hb, hb]
        clear hb
        go_enter Try.func8, Try.ntmps8
        go_wp2_with (go_at_call 23; refine (refIsSum_any _ _).mono ?_; rintro e w' ⟨rfl, rfl⟩)
        go_ret2
        exact ⟨rfl, rfl⟩
      | true =>
        have hb : addB a b = true := by simp [addB, hA, hB, hC]
        rw [addB_eq hb, hb]
        clear hb
        go_enter Try.func8, Try.ntmps8
        go_wp2_with (go_at_call 23; refine (refIsSum_any _ _).mono ?_; rintro e w' ⟨rfl, rfl⟩)
        go_ret2
        exact ⟨rfl, rfl⟩


/-- Can the difference be told? What is told. -/
def subB (a b : Int) : Bool := sumB a && (sumB b && sumB (a - b))
def subV (a b : Int) : Int := if subB a b = true then a - b else 0
theorem subB_eq {a b : Int} (h : subB a b = true) : subV a b = a - b := if_pos h
theorem subB_no {a b : Int} (h : subB a b = false) : subV a b = 0 := if_neg (by rw [h]; decide)
theorem sumB_neg (b : Int) : sumB (-b) = sumB b := by
  unfold sumB; exact decide_eq_decide.2 (by omega)
theorem add_neg_B (a b : Int) : addB a (-b) = subB a b := by unfold addB subB; rw [sumB_neg, show a + -b = a - b from by omega]
theorem add_neg_V (a b : Int) : addV a (-b) = subV a b := by unfold addV subV; rw [add_neg_B, show a + -b = a - b from by omega]

set_option maxHeartbeats 400000 in
theorem refSub_any (a b : Int) (w : World) :
    Calls Try.prog 10 #[.int .i64 a, .int .i64 b] w fun e w' => e = .returned (.tuple #[.int .i64 (subV a b), .bool (subB a b)]) ∧ w = w' := by
  cases hA : sumB a with
  | false =>
    have hb : subB a b = false := by simp [subB, hA]
    rw [subB_no hb, hb]
    clear hb
    go_enter Try.func10, Try.ntmps10
    go_wp2_with (go_at_call 23; refine (refIsSum_any _ _).mono ?_; rintro e w' ⟨rfl, rfl⟩)
    go_ret2
    exact ⟨rfl, rfl⟩
  | true =>
    cases hB : sumB b with
    | false =>
      have hb : subB a b = false := by simp [subB, hA, hB]
      rw [subB_no hb, hb]
      clear hb
      go_enter Try.func10, Try.ntmps10
      go_wp2_with (go_at_call 23; refine (refIsSum_any _ _).mono ?_; rintro e w' ⟨rfl, rfl⟩)
      go_ret2
      exact ⟨rfl, rfl⟩
    | true =>
      obtain ⟨a1, a2⟩ := sumB_t hA
      obtain ⟨b1, b2⟩ := sumB_t hB
      cases hC : sumB (a - b) with
      | false =>
        have hb : subB a b = false := by simp [subB, hA, hB, hC]
        rw [subB_no hb, hb]
        clear hb
        go_enter Try.func10, Try.ntmps10
        go_wp2_with (go_at_call 23; refine (refIsSum_any _ _).mono ?_; rintro e w' ⟨rfl, rfl⟩)
        go_ret2
        exact ⟨rfl, rfl⟩
      | true =>
        have hb : subB a b = true := by simp [subB, hA, hB, hC]
        rw [subB_eq hb, hb]
        clear hb
        go_enter Try.func10, Try.ntmps10
        go_wp2_with (go_at_call 23; refine (refIsSum_any _ _).mono ?_; rintro e w' ⟨rfl, rfl⟩)
        go_ret2
        exact ⟨rfl, rfl⟩


set_option maxHeartbeats 400000 in
theorem sub_any (a b : Int) (w : World) (hb1 : -9223372036854775808 ≤ b) (hb2 : b ≤ 9223372036854775807) :
    Calls Try.prog 9 #[.int .i64 a, .int .i64 b] w fun e w' => e = .returned (.tuple #[.int .i64 (subV a b), .bool (subB a b)]) ∧ w = w' := by
  by_cases hlo : b = -9223372036854775808
  · subst hlo
    have e1 : subB a (-9223372036854775808) = false := by
      have : sumB (-9223372036854775808) = false := sumB_mkf (by omega)
      simp [subB, this]
    have e2 : addB a (-9223372036854775808) = false := by
      have : sumB (-9223372036854775808) = false := sumB_mkf (by omega)
      simp [addB, this]
    rw [subB_no e1, e1]
    have e3 := addB_no e2
    have E2 := Lib.hid e2; have E3 := Lib.hid e3; clear e1 e2 e3
    go_enter Try.func9, Try.ntmps9
    go_wp2_with (go_at_call 7; refine (add_any _ _ _).mono ?_; rintro e w' ⟨rfl, rfl⟩)
    go_ret2
    exact ⟨ret_pair (by rw [wrap_least]; exact E3.out) (by rw [wrap_least]; exact E2.out), rfl⟩
  · have hb3 : -9223372036854775807 ≤ b := by omega
    have e1 := add_neg_B a b
    have e2 := add_neg_V a b
    have E1 := Lib.hid e1; have E2 := Lib.hid e2; clear e1 e2 hlo
    go_enter Try.func9, Try.ntmps9
    go_wp2_with (go_at_call 7; refine (add_any _ _ _).mono ?_; rintro e w' ⟨rfl, rfl⟩)
    go_ret2
    exact ⟨ret_pair E2.out E1.out, rfl⟩

end Go.Proofs.Ytndbpmhdpjlncaa
