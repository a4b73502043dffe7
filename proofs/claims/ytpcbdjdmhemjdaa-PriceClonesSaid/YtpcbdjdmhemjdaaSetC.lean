/- Contracts of set.Within, set.Apart, set.Full and of the document's own answers for the first two. -/
import Derived.Test.YtpcbdjdmhemjdaaSetB
namespace Go.Proofs.Ytpcbdjdmhemjdaa
open Go.RowKit

def withinB (a b : Nat) : Bool := (List.range 64).all fun i => !a.testBit i || b.testBit i
def apartB (a b : Nat) : Bool := (List.range 64).all fun i => !(a.testBit i && b.testBit i)
theorem withinB_iff {a b : Nat} : withinB a b = true ↔ ∀ i, i < 64 → a.testBit i = true → b.testBit i = true := by
  simp only [withinB, List.all_eq_true, List.mem_range]
  constructor
  · intro h i hi ha
    have := h i hi
    rw [ha] at this
    simpa using this
  · intro h i hi
    cases ha : a.testBit i with
    | false => rfl
    | true => rw [h i hi ha]; rfl
theorem apartB_iff {a b : Nat} : apartB a b = true ↔ ∀ i, i < 64 → ¬ (a.testBit i = true ∧ b.testBit i = true) := by
  simp only [apartB, List.all_eq_true, List.mem_range]
  constructor
  · intro h i hi hab
    have := h i hi
    rw [hab.1, hab.2] at this
    cases this
  · intro h i hi
    have := h i hi
    cases ha : a.testBit i <;> cases hb : b.testBit i <;> simp_all
theorem testBit_big {a : Nat} (ha : a < 18446744073709551616) {i : Nat} (hi : 64 ≤ i) : a.testBit i = false :=
  Nat.testBit_lt_two_pow (Nat.lt_of_lt_of_le (show a < 2 ^ 64 from ha) (Nat.pow_le_pow_right (by decide) hi))
theorem within_eq (a b : Nat) (ha : a < 18446744073709551616) (hb : b < 18446744073709551616) : (bits .andNot .u64 (a : Int) (b : Int) == 0) = withinB a b := by
  have e : (18446744073709551615 - b : Nat) = 2 ^ 64 - (b + 1) := by omega
  rw [u64_andNot_nat a b ha hb, e, Bool.eq_iff_iff]
  rw [withinB_iff, beq_iff_eq]
  constructor
  · intro h i hi hai
    have h0 : a &&& (2 ^ 64 - (b + 1)) = 0 := by omega
    have h1 : (a &&& (2 ^ 64 - (b + 1))).testBit i = false := by rw [h0]; simp
    rw [Nat.testBit_and, Nat.testBit_two_pow_sub_succ hb] at h1
    cases hbi : b.testBit i with
    | true => rfl
    | false => simp [hai, hbi, hi] at h1
  · intro h
    have : a &&& (2 ^ 64 - (b + 1)) = 0 := by
      apply Nat.eq_of_testBit_eq
      intro i
      rw [Nat.testBit_and, Nat.testBit_two_pow_sub_succ hb, Nat.zero_testBit]
      cases hai : a.testBit i with
      | false => rfl
      | true =>
        by_cases hi : i < 64
        · simp [hi, h i hi hai]
        · simp [hi]
    rw [this]; rfl
theorem apart_eq (a b : Nat) (ha : a < 18446744073709551616) (hb : b < 18446744073709551616) : (bits .and .u64 (a : Int) (b : Int) == 0) = apartB a b := by
  rw [u64_and_nat a b ha hb, Bool.eq_iff_iff]
  rw [apartB_iff, beq_iff_eq]
  constructor
  · intro h i _ hi
    have h0 : a &&& b = 0 := by omega
    have h1 : (a &&& b).testBit i = false := by rw [h0]; simp
    rw [Nat.testBit_and, hi.1, hi.2] at h1
    cases h1
  · intro h
    have : a &&& b = 0 := by
      apply Nat.eq_of_testBit_eq
      intro i
      rw [Nat.testBit_and, Nat.zero_testBit]
      by_cases hi : i < 64
      · have := h i hi
        cases hai : a.testBit i <;> cases hbi : b.testBit i <;> simp_all
      · rw [testBit_big ha (by omega)]; rfl
    rw [this]; rfl

set_option maxHeartbeats 400000 in
theorem within_any (a b : Nat) (w : World) (ha : a < 18446744073709551616) (hb : b < 18446744073709551616) :
    Calls Try.prog 44 #[.int .u64 a, .int .u64 b] w fun e w' => e = .returned (.bool (withinB a b)) ∧ w = w' := by
  go_enter Try.func44, Try.ntmps44
  go_wp2
  go_ret
  exact ⟨ret_bool (within_eq a b ha hb), rfl⟩

theorem hasB_nat (s k : Nat) (hk : k < 64) : hasB s (k : Int) = s.testBit k := by
  unfold hasB; rw [itemB_mk (by omega)]; simp
theorem refHas_nat (s k : Nat) (w : World) (hs : s < 18446744073709551616) (hk : k < 64) :
    Calls Try.prog 38 #[.int .u64 s, .int .i64 k] w fun e w' => e = .returned (.bool (s.testBit k)) ∧ w = w' := by
  have := refHas_any s k w hs (by omega) (by omega)
  rw [hasB_nat s k hk] at this
  exact this

set_option maxHeartbeats 400000 in
theorem refWithin_any (a b : Nat) (w : World) (ha : a < 18446744073709551616) (hb : b < 18446744073709551616) :
    Calls Try.prog 29 #[.int .u64 a, .int .u64 b] w fun e w' => e = .returned (.bool (withinB a b)) ∧ w = w' := by
  go_enter Try.func29, Try.ntmps29
  go_wp2
  go_loop [5] (fun i => ∃ k : Nat, k ≤ 64 ∧ i = .int .i64 k ∧ ∀ j, j < k → a.testBit j = true → b.testBit j = true) (fun i => 64 - (intOf i).toNat)
  case atStart => exact ⟨0, by omega, rfl, fun j hj => by omega⟩
  case round =>
    obtain ⟨k, hk, rfl, hall⟩ := hrel
    have HA := Lib.hid hall; clear hall
    by_cases hlt : k < 64
    · cases hA : a.testBit k with
      | false =>
        go_wp2_with (go_at_call 38; refine (refHas_nat _ _ _ (by assumption) (by omega)).mono ?_; rintro e w' ⟨rfl, rfl⟩)
        go_round
        case rel => exact ⟨k + 1, by omega, by go_num, fun j hj h => by
          rcases Nat.lt_succ_iff_lt_or_eq.1 hj with h1 | rfl
          · exact HA.out j h1 h
          · rw [hA] at h; cases h⟩
        case measure => simp [intOf]; omega
      | true =>
        cases hB : b.testBit k with
        | true =>
          go_wp2_with (go_at_call 38; refine (refHas_nat _ _ _ (by assumption) (by omega)).mono ?_; rintro e w' ⟨rfl, rfl⟩)
          go_round
          case rel => exact ⟨k + 1, by omega, by go_num, fun j hj h => by
            rcases Nat.lt_succ_iff_lt_or_eq.1 hj with h1 | rfl
            · exact HA.out j h1 h
            · exact hB⟩
          case measure => simp [intOf]; omega
        | false =>
          have HW : Hid (withinB a b = false) := Lib.hid (Bool.eq_false_iff.2 fun h => by rw [withinB_iff.1 h k hlt hA] at hB; cases hB)
          go_wp2_with (go_at_call 38; refine (refHas_nat _ _ _ (by assumption) (by omega)).mono ?_; rintro e w' ⟨rfl, rfl⟩)
          go_ret
          exact ⟨ret_bool HW.out.symm, rfl⟩
    · obtain rfl : k = 64 := by omega
      have HW : Hid (withinB a b = true) := Lib.hid (withinB_iff.2 HA.out)
      go_wp2
      go_ret
      exact ⟨ret_bool HW.out.symm, rfl⟩

end Go.Proofs.Ytpcbdjdmhemjdaa