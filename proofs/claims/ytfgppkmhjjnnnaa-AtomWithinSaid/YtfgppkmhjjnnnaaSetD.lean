/- Contracts of set.Full and of the document's set of one item. -/
import Derived.Test.YtfgppkmhjjnnnaaSetC
namespace Go.Proofs.Ytfgppkmhjjnnnaa
open Go.RowKit

def fullN (n : Int) : Nat := 2 ^ (min n.toNat 64) - 1

theorem pow_lt64 {k : Nat} (hk : k < 64) : 1 ≤ 2 ^ k ∧ 2 ^ k ≤ 9223372036854775808 := by
  refine ⟨Nat.one_le_two_pow, ?_⟩
  have := Nat.pow_le_pow_right (n := 2) (by decide) (show k ≤ 63 by omega)
  exact this
theorem full_wrap {k : Nat} (hk : k ≤ 64) : IntKind.u64.wrap (IntKind.u64.wrap (2 ^ k) - 1) = ((2 ^ k - 1 : Nat) : Int) := by
  have e : ((2 : Int) ^ k) = ((2 ^ k : Nat) : Int) := by norm_cast
  rw [e, IntKind.wrap_u64, IntKind.wrap_u64]
  by_cases h : k = 64
  · subst h; decide +kernel
  · obtain ⟨h1, h2⟩ := pow_lt64 (show k < 64 by omega)
    omega

set_option maxHeartbeats 400000 in
theorem full_any (n : Int) (w : World) (hn1 : -9223372036854775808 ≤ n) (hn2 : n ≤ 9223372036854775807) :
    Calls Try.prog 30 #[.int .i64 n] w fun e w' => e = .returned (.int .u64 (fullN n)) ∧ w = w' := by
  by_cases h1 : n < 0
  · have e1 : fullN n = 0 := by unfold fullN; rw [show n.toNat = 0 from by omega]; rfl
    rw [e1]
    have h0 : n ≤ 0 := by omega
    go_enter Try.func30, Try.ntmps30
    go_wp2
    all_goals (go_ret; exact ⟨ret_u64 (by first | rfl | (exfalso; omega)), rfl⟩)
  · by_cases h2 : n < 64
    · obtain ⟨m, rfl⟩ := Int.eq_ofNat_of_zero_le (show 0 ≤ n by omega)
      have e1 : fullN (m : Int) = 2 ^ m - 1 := by unfold fullN; rw [Int.toNat_natCast, show min m 64 = m from by omega]
      rw [e1]
      have h0 : (0 : Int) ≤ m := by omega
      go_enter Try.func30, Try.ntmps30
      go_wp2
      go_ret
      exact ⟨ret_u64 (full_wrap (by omega)), rfl⟩
    · by_cases h4 : n = 64
      · subst h4
        go_enter Try.func30, Try.ntmps30
        go_wp2
        go_ret
        exact ⟨ret_u64 (by decide +kernel), rfl⟩
      · have e1 : fullN n = 18446744073709551615 := by unfold fullN; rw [show min n.toNat 64 = 64 from by omega]
        rw [e1]
        have h3 : 64 < n := by omega
        have h0 : 0 ≤ n := by omega
        clear h4
        go_enter Try.func30, Try.ntmps30
        go_wp2
        all_goals (go_ret; exact ⟨ret_u64 (by first | decide +kernel | (exfalso; omega)), rfl⟩)

theorem pow_step {k : Nat} (hk : k < 63) : IntKind.u64.wrap (((2 ^ k : Nat) : Int) * 2) = ((2 ^ (k + 1) : Nat) : Int) := by
  obtain ⟨h1, h2⟩ := pow_lt64 (show k + 1 < 64 by omega)
  rw [IntKind.wrap_u64, Nat.pow_succ] at *
  omega

end Go.Proofs.Ytfgppkmhjjnnnaa