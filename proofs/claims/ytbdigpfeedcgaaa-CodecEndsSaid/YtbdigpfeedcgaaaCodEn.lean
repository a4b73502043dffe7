/- A proper beginning of what was written cannot be read to its end: plain mathematics. -/
import Derived.Test.YtbdigpfeedcgaaaCodRd
import Derived.Test.YtbdigpfeedcgaaaMasks
namespace Go.Proofs.Ytbdigpfeedcgaaa
open Go.RowKit
set_option linter.unusedVariables false

theorem i64_and4095 (n : Int) : bits .and .i64 n 4095 = n % 4096 := by
  have h127 : (BitVec.ofInt 64 4095).toNat = 2 ^ 12 - 1 := by decide
  have key : (BitVec.ofInt 64 n &&& BitVec.ofInt 64 4095).toNat = (n % ((2 ^ 64 : Nat) : Int)).toNat % 2 ^ 12 := by
    rw [BitVec.toNat_and, BitVec.toNat_ofInt, h127, Nat.and_two_pow_sub_one_eq_mod]
  show IntKind.i64.wrap ((BitVec.ofInt 64 n &&& BitVec.ofInt 64 4095).toNat : Nat) = n % 4096
  rw [key, IntKind.wrap_i64]
  omega
theorem and4095 (a : Int) : ∃ t : Nat, bits .and .i64 a 4095 = (t : Int) ∧ t < 4096 := ⟨(a % 4096).toNat, by rw [i64_and4095]; omega, by omega⟩
theorem ends {l : List Nat} {xs : List Int} (hx : ∀ m ∈ xs, In64 m) (hl : l.length ≤ 200) (hn : xs.length ≤ 50) {K : Nat} (hK : K < ((uv l.length ++ l) ++ listL xs).length) :
    (takeN (takeB (((uv l.length ++ l) ++ listL xs).take K) 0 200).2.1 (takeB (((uv l.length ++ l) ++ listL xs).take K) 0 200).2.2 50).2 = ([], 21) := by
  rw [List.append_assoc] at hK ⊢
  rw [List.length_append, List.length_append] at hK
  by_cases h1 : K < (uv l.length).length
  · rw [List.take_append_of_le_length (by omega)]
    have hb : takeB ((uv l.length).take K) 0 200 = ([], [], 21) := by
      unfold takeB
      rw [countR_take h1]
      rfl
    rw [hb, takeN_bad 50 (by decide)]
  · obtain ⟨i, rfl⟩ : ∃ i, K = (uv l.length).length + i := ⟨K - (uv l.length).length, by omega⟩
    rw [List.take_length_add_append]
    by_cases h2 : i < l.length
    · rw [List.take_append_of_le_length (by omega)]
      have hb : takeB (uv l.length ++ l.take i) 0 200 = ([], [], 21) := by
        unfold takeB
        rw [countR_uv hl (by decide), if_pos (by rw [List.length_take]; omega)]
        rfl
      rw [hb, takeN_bad 50 (by decide)]
    · obtain ⟨j, rfl⟩ : ∃ j, i = l.length + j := ⟨i - l.length, by omega⟩
      rw [List.take_length_add_append, takeB_ok hl (by decide)]
      show (takeN ((listL xs).take j) 0 50).2 = ([], 21)
      have hll : (listL xs).length = (uv xs.length).length + (uvs xs).length := by unfold listL; rw [List.length_append]
      unfold listL
      by_cases h3 : j < (uv xs.length).length
      · rw [List.take_append_of_le_length (by omega)]
        unfold takeN
        rw [countR_take h3]
        rfl
      · obtain ⟨q, rfl⟩ : ∃ q, j = (uv xs.length).length + q := ⟨j - (uv xs.length).length, by omega⟩
        rw [List.take_length_add_append]
        unfold takeN
        rw [countR_uv hn (by decide)]
        exact intsR_take xs hx q (by omega)
end Go.Proofs.Ytbdigpfeedcgaaa
