/- Contracts of money.Mul and of the document's own answer for it. -/
import Derived.Test.YtndbpmhdpjlncaaMoneyC
import Derived.Test.YtndbpmhdpjlncaaShelf
import Derived.IntWalk
namespace Go.Proofs.Ytndbpmhdpjlncaa
open Go.RowKit

/-- Can the product be told? What is told. -/
def mulB (a n : Int) : Bool := sumB a && sumB (a * n)
def mulV (a n : Int) : Int := if mulB a n = true then a * n else 0
theorem mulB_eq {a b : Int} (h : mulB a b = true) : mulV a b = a * b := if_pos h
theorem mulB_no {a b : Int} (h : mulB a b = false) : mulV a b = 0 := if_neg (by rw [h]; decide)

theorem wrap_size {n : Int} (h1 : -9223372036854775808 ≤ n) (h0 : n < 0) : IntKind.u64.wrap (-IntKind.u64.wrap n) = -n := by
  have e : ∀ m : Int, IntKind.u64.wrap m = m % 18446744073709551616 := fun m => by
    simp [IntKind.wrap, IntKind.signed, IntKind.bits]
  rw [e, e]
  omega
theorem ret_u64 {x a : Int} (h1 : x = a) : Ending.returned (.int .u64 x) = .returned (.int .u64 a) := by rw [h1]

set_option maxHeartbeats 400000 in
theorem size_any (n : Int) (w : World) (h1 : -9223372036854775808 ≤ n) (h2 : n ≤ 9223372036854775807) :
    Calls Try.prog 25 #[.int .i64 n] w fun e w' => e = .returned (.int .u64 (n.natAbs : Int)) ∧ w = w' := by
  by_cases h0 : n < 0
  · have e1 : (n.natAbs : Int) = -n := by omega
    rw [e1]; clear e1
    go_enter Try.func25, Try.ntmps25
    go_wp2
    go_ret
    exact ⟨ret_u64 (wrap_size h1 h0), rfl⟩
  · have e1 : (n.natAbs : Int) = n := by omega
    rw [e1]; clear e1
    have h0' : 0 ≤ n := by omega
    go_enter Try.func25, Try.ntmps25
    go_wp2
    go_ret
    exact ⟨rfl, rfl⟩

theorem mul64_v (x y : Nat) (hi lo : Int) (hx : x < 18446744073709551616) (hy : y < 18446744073709551616) (w : World)
    (H : Hid (((x * y / 18446744073709551616 : Nat) : Int) = hi ∧ ((x * y % 18446744073709551616 : Nat) : Int) = lo)) :
    Calls Try.prog 24 #[.int .u64 x, .int .u64 y] w fun e w' => e = .returned (.tuple #[.int .u64 hi, .int .u64 lo]) ∧ w = w' := by
  refine (Try.bits_Mul64 x y hx hy w).mono ?_
  rintro e w' ⟨rfl, rfl⟩
  rw [H.out.1, H.out.2]
  exact ⟨rfl, rfl⟩

set_option maxHeartbeats 400000 in
theorem mul_any (a n : Int) (w : World) (ha1 : -9223372036854775808 ≤ a) (ha2 : a ≤ 9223372036854775807) (hn1 : -9223372036854775808 ≤ n) (hn2 : n ≤ 9223372036854775807) :
    Calls Try.prog 11 #[.int .i64 a, .int .i64 n] w fun e w' => e = .returned (.tuple #[.int .i64 (mulV a n), .bool (mulB a n)]) ∧ w = w' := by
  have hx : a.natAbs < 18446744073709551616 := by omega
  have hy : n.natAbs < 18446744073709551616 := by omega
  cases hA : sumB a with
  | false =>
    have hb : mulB a n = false := by simp [mulB, hA]
    rw [mulB_no hb, hb]
    clear hb
    obtain ⟨hi, lo, H⟩ : ∃ hi lo : Int, Hid (((a.natAbs * n.natAbs / 18446744073709551616 : Nat) : Int) = hi ∧ ((a.natAbs * n.natAbs % 18446744073709551616 : Nat) : Int) = lo) := ⟨_, _, Lib.hid ⟨rfl, rfl⟩⟩
    go_enter Try.func11, Try.ntmps11
    go_wp2_with (first | (go_at_call 25; refine (size_any _ _ (by assumption) (by assumption)).mono ?_; rintro e w' ⟨rfl, rfl⟩) | (go_at_call 22; refine (isSum_any _ _).mono ?_; rintro e w' ⟨rfl, rfl⟩) | (go_at_call 24; refine (mul64_v _ _ hi lo hx hy _ H).mono ?_; rintro e w' ⟨rfl, rfl⟩))
    go_ret2
    exact ⟨rfl, rfl⟩
  | true =>
    obtain ⟨a1, a2⟩ := sumB_t hA
    cases hC : sumB (a * n) with
    | true =>
      have hb : mulB a n = true := by simp [mulB, hA, hC]
      rw [mulB_eq hb, hb]
      clear hb
      obtain ⟨c1, c2⟩ := sumB_t hC
      have hP : a.natAbs * n.natAbs = (a * n).natAbs := (Int.natAbs_mul a n).symm
      obtain ⟨lo, H, hlo⟩ : ∃ lo : Int, Hid (((a.natAbs * n.natAbs / 18446744073709551616 : Nat) : Int) = 0 ∧ ((a.natAbs * n.natAbs % 18446744073709551616 : Nat) : Int) = lo) ∧ lo ≤ 140737488355328 :=
        ⟨_, Lib.hid ⟨by rw [hP]; omega, rfl⟩, by rw [hP]; omega⟩
      clear hP hC
      go_enter Try.func11, Try.ntmps11
      go_wp2_with (first | (go_at_call 25; refine (size_any _ _ (by assumption) (by assumption)).mono ?_; rintro e w' ⟨rfl, rfl⟩) | (go_at_call 22; refine (isSum_any _ _).mono ?_; rintro e w' ⟨rfl, rfl⟩) | (go_at_call 24; refine (mul64_v _ _ 0 lo hx hy _ H).mono ?_; rintro e w' ⟨rfl, rfl⟩))
      go_ret2
      exact ⟨rfl, rfl⟩
    | false =>
      have hb : mulB a n = false := by simp [mulB, hA, hC]
      rw [mulB_no hb, hb]
      clear hb
      have c1 := sumB_f hC
      have hP : a.natAbs * n.natAbs = (a * n).natAbs := (Int.natAbs_mul a n).symm
      by_cases hz : (a * n).natAbs / 18446744073709551616 = 0
      · obtain ⟨lo, H, hlo⟩ : ∃ lo : Int, Hid (((a.natAbs * n.natAbs / 18446744073709551616 : Nat) : Int) = 0 ∧ ((a.natAbs * n.natAbs % 18446744073709551616 : Nat) : Int) = lo) ∧ 140737488355328 < lo :=
          ⟨_, Lib.hid ⟨by rw [hP]; omega, rfl⟩, by rw [hP]; omega⟩
        clear hP hC hz c1
        go_enter Try.func11, Try.ntmps11
        go_wp2_with (first | (go_at_call 25; refine (size_any _ _ (by assumption) (by assumption)).mono ?_; rintro e w' ⟨rfl, rfl⟩) | (go_at_call 22; refine (isSum_any _ _).mono ?_; rintro e w' ⟨rfl, rfl⟩) | (go_at_call 24; refine (mul64_v _ _ 0 lo hx hy _ H).mono ?_; rintro e w' ⟨rfl, rfl⟩))
        go_ret2
        exact ⟨rfl, rfl⟩
      · obtain ⟨hi, lo, H, hhi⟩ : ∃ hi lo : Int, Hid (((a.natAbs * n.natAbs / 18446744073709551616 : Nat) : Int) = hi ∧ ((a.natAbs * n.natAbs % 18446744073709551616 : Nat) : Int) = lo) ∧ (hi != 0) = true :=
          ⟨_, _, Lib.hid ⟨rfl, rfl⟩, by rw [hP, bne_iff_ne]; omega⟩
        clear hP hC hz c1
        go_enter Try.func11, Try.ntmps11
        go_wp2_with (first | (go_at_call 25; refine (size_any _ _ (by assumption) (by assumption)).mono ?_; rintro e w' ⟨rfl, rfl⟩) | (go_at_call 22; refine (isSum_any _ _).mono ?_; rintro e w' ⟨rfl, rfl⟩) | (go_at_call 24; refine (mul64_v _ _ hi lo hx hy _ H).mono ?_; rintro e w' ⟨rfl, rfl⟩))
        go_ret2
        exact ⟨rfl, rfl⟩

end Go.Proofs.Ytndbpmhdpjlncaa
