/- Contracts of set.Full and of the document's set of one item. -/
import Derived.Test.YtpcbdjdmhemjdaaSetC
namespace Go.Proofs.Ytpcbdjdmhemjdaa
open Go.RowKit

def fullN (n : Int) : Nat := 2 ^ (min n.toNat 64) - 1

theorem pow_lt64 {k : Nat} (hk : k < 64) : 1 ≤ 2 ^ k ∧ 2 ^ k ≤ 9223372036854775808 := by
  refine ⟨Nat.one_le_two_pow, ?_⟩
  have := Nat.pow_le_pow_right (n := 2) (by decide) (show k ≤ 63 by omega)
  exact this
theorem full_wrap {k : Nat} (hk : k ≤ 64) : IntKind.u64.wrap (IntKind.u64.wrap (2 ^ k) - 1) = ((2 ^ k - 1 : Nat) : Int) := by
  have e : ((2 : Int) ^ k) = ((2 ^ k : Nat) : Int) := by norm_cast
  rw [e, IntKind.wrap_u64, IntKind.wrap_u64]
  by_cases h : k = 64
  · subst h; decide +kernel
  · obtain ⟨h1, h2⟩ := pow_lt64 (show k < 64 by omega)
    omega

theorem pow_step {k : Nat} (hk : k < 63) : IntKind.u64.wrap (((2 ^ k : Nat) : Int) * 2) = ((2 ^ (k + 1) : Nat) : Int) := by
  obtain ⟨h1, h2⟩ := pow_lt64 (show k + 1 < 64 by omega)
  rw [IntKind.wrap_u64, Nat.pow_succ] at *
  omega

end Go.Proofs.Ytpcbdjdmhemjdaa