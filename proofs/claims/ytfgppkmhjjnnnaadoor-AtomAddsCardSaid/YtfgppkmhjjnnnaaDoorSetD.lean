/- Contracts of set.Full and of the document's set of one item. -/
import Derived.Test.YtfgppkmhjjnnnaaDoorSetC
namespace Go.Proofs.YtfgppkmhjjnnnaaDoor
open Go.RowKit

def fullN (n : Int) : Nat := 2 ^ (min n.toNat 64) - 1

theorem pow_lt64 {k : Nat} (hk : k < 64) : 1 ≤ 2 ^ k ∧ 2 ^ k ≤ 9223372036854775808 := by
  refine ⟨Nat.one_le_two_pow, ?_⟩
  have := Nat.pow_le_pow_right (n := 2) (by decide) (show k ≤ 63 by omega)
  exact this
theorem full_wrap {k : Nat} (hk : k ≤ 64) : IntKind.u64.wrap (IntKind.u64.wrap (2 ^ k) - 1) = ((2 ^ k - 1 : Nat) : Int) := by
  have e : ((2 : Int) ^ k) = ((2 ^ k : Nat) : Int) := by norm_cast
  rw [e, IntKind.wrap_u64, IntKind.wrap_u64]
  by_cases h : k = 64
  · subst h; decide +kernel
  · obtain ⟨h1, h2⟩ := pow_lt64 (show k < 64 by omega)
    omega

set_option maxHeartbeats 400000 in
theorem full_any (n : Int) (w : World) (hn1 : -9223372036854775808 ≤ n) (hn2 : n ≤ 9223372036854775807) :
    Calls Tryd.prog 29 #[.int .i64 n] w fun e w' => e = .returned (.int .u64 (fullN n)) ∧ w = w' := by
  by_cases h1 : n < 0
  · have e1 : fullN n = 0 := by unfold fullN; rw [show n.toNat = 0 from by omega]; rfl
    rw [e1]
    have h0 : n ≤ 0 := by omega
    go_enter Tryd.func29, Tryd.ntmps29
    go_wp2
    all_goals (go_ret; exact ⟨ret_u64 (by first | rfl | (exfalso; omega)), rfl⟩)
  · by_cases h2 : n < 64
    · obtain ⟨m, rfl⟩ := Int.eq_ofNat_of_zero_le (show 0 ≤ n by omega)
      have e1 : fullN (m : Int) = 2 ^ m - 1 := by unfold fullN; rw [Int.toNat_natCast, show min m 64 = m from by omega]
      rw [e1]
      have h0 : (0 : Int) ≤ m := by omega
      go_enter Tryd.func29, Tryd.ntmps29
      go_wp2
      go_ret
      exact ⟨ret_u64 (full_wrap (by omega)), rfl⟩
    · by_cases h4 : n = 64
      · subst h4
        go_enter Tryd.func29, Tryd.ntmps29
        go_wp2
        go_ret
        exact ⟨ret_u64 (by decide +kernel), rfl⟩
      · have e1 : fullN n = 18446744073709551615 := by unfold fullN; rw [show min n.toNat 64 = 64 from by omega]
        rw [e1]
        have h3 : 64 < n := by omega
        have h0 : 0 ≤ n := by omega
        clear h4
        go_enter Tryd.func29, Tryd.ntmps29
        go_wp2
        all_goals (go_ret; exact ⟨ret_u64 (by first | decide +kernel | (exfalso; omega)), rfl⟩)

theorem pow_step {k : Nat} (hk : k < 63) : IntKind.u64.wrap (((2 ^ k : Nat) : Int) * 2) = ((2 ^ (k + 1) : Nat) : Int) := by
  obtain ⟨h1, h2⟩ := pow_lt64 (show k + 1 < 64 by omega)
  rw [IntKind.wrap_u64, Nat.pow_succ] at *
  omega

set_option maxHeartbeats 400000 in
theorem one_any (m : Nat) (w : World) (hm : m < 64) :
    Calls Tryd.prog 8 #[.int .i64 m] w fun e w' => e = .returned (.int .u64 ((2 ^ m : Nat) : Int)) ∧ w = w' := by
  go_enter Tryd.func8, Tryd.ntmps8
  go_wp2
  go_loop [3, 4] (fun x i => ∃ k : Nat, k ≤ m ∧ i = .int .i64 k ∧ x = .int .u64 ((2 ^ k : Nat) : Int)) (fun _ i => m - (intOf i).toNat)
  case atStart => exact ⟨0, Nat.zero_le _, rfl, rfl⟩
  case round =>
    obtain ⟨k, hk, rfl, rfl⟩ := hrel
    by_cases hlt : k < m
    · have HS := Lib.hid (pow_step (k := k) (by omega))
      obtain ⟨q, hq⟩ : ∃ q, 2 ^ k = q := ⟨_, rfl⟩
      rw [hq] at HS ⊢
      clear hq
      go_wp2
      go_round
      case rel => exact ⟨k + 1, by omega, by go_num, by rw [← HS.out]⟩
      case measure => simp [intOf]; omega
    · obtain rfl : k = m := by omega
      obtain ⟨q, hq⟩ : ∃ q, 2 ^ k = q := ⟨_, rfl⟩
      rw [hq]
      have HQ := Lib.hid hq; clear hq
      go_wp2
      go_ret
      exact ⟨ret_u64 (by rw [← HQ.out]; norm_cast), rfl⟩

end Go.Proofs.YtfgppkmhjjnnnaaDoor
