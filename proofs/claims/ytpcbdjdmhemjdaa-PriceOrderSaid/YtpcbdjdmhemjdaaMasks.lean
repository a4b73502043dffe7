/- A number's lowest bits. -/
import Derived.Test.YtpcbdjdmhemjdaaSlices
import Derived.Laws.BitsLemmas
namespace Go.Proofs.Ytpcbdjdmhemjdaa
open Go.RowKit

theorem i64_and8191 (n : Int) : bits .and .i64 n 8191 = n % 8192 := by
  have h127 : (BitVec.ofInt 64 8191).toNat = 2 ^ 13 - 1 := by decide
  have key : (BitVec.ofInt 64 n &&& BitVec.ofInt 64 8191).toNat = (n % ((2 ^ 64 : Nat) : Int)).toNat % 2 ^ 13 := by
    rw [BitVec.toNat_and, BitVec.toNat_ofInt, h127, Nat.and_two_pow_sub_one_eq_mod]
  show IntKind.i64.wrap ((BitVec.ofInt 64 n &&& BitVec.ofInt 64 8191).toNat : Nat) = n % 8192
  rw [key, IntKind.wrap_i64]
  omega
theorem i64_and1023 (n : Int) : bits .and .i64 n 1023 = n % 1024 := by
  have h127 : (BitVec.ofInt 64 1023).toNat = 2 ^ 10 - 1 := by decide
  have key : (BitVec.ofInt 64 n &&& BitVec.ofInt 64 1023).toNat = (n % ((2 ^ 64 : Nat) : Int)).toNat % 2 ^ 10 := by
    rw [BitVec.toNat_and, BitVec.toNat_ofInt, h127, Nat.and_two_pow_sub_one_eq_mod]
  show IntKind.i64.wrap ((BitVec.ofInt 64 n &&& BitVec.ofInt 64 1023).toNat : Nat) = n % 1024
  rw [key, IntKind.wrap_i64]
  omega
theorem and8191 (a : Int) : ∃ t : Nat, bits .and .i64 a 8191 = (t : Int) ∧ t < 8192 := ⟨(a % 8192).toNat, by rw [i64_and8191]; omega, by omega⟩
theorem and1023 (a : Int) : ∃ t : Nat, bits .and .i64 a 1023 = (t : Int) ∧ t < 1024 := ⟨(a % 1024).toNat, by rw [i64_and1023]; omega, by omega⟩
end Go.Proofs.Ytpcbdjdmhemjdaa
