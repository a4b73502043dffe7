/- Plain numbers: the least item of a set, and the set without it. No program is spoken of. -/
import Derived.Test.YtfgppkmhjjnnnaaDoorSetBits
import Derived.Lib.TrailingZeros
namespace Go.Proofs.YtfgppkmhjjnnnaaDoor

/-- A set that isn't empty, told by its least item. -/
theorem low_split {s : Nat} (h0 : s ≠ 0) (hs : s < 18446744073709551616) : ∃ m, s = 2 ^ Lib.ctz 64 s * (2 * m + 1) ∧ Lib.ctz 64 s < 64 := by
  have := Lib.ctzFrom_spec 64 s (by omega) hs
  rw [show Lib.ctz 64 s = Lib.ctzFrom 64 s from by simp [Lib.ctz, h0]]
  exact this

theorem bit_mul (t a i : Nat) : (2 ^ t * a).testBit i = (decide (t ≤ i) && a.testBit (i - t)) := by
  rw [Nat.mul_comm, Nat.testBit_mul_two_pow]
theorem odd_bit (m j : Nat) : (2 * m + 1).testBit j = (decide (j = 0) || (2 * m).testBit j) := by
  cases j with
  | zero => simp [Nat.testBit_zero]
  | succ j => rw [Nat.testBit_succ, Nat.testBit_succ, show (2 * m + 1) / 2 = m from by omega, show 2 * m / 2 = m from by omega]; simp
theorem even_bit (m : Nat) : (2 * m).testBit 0 = false := by simp [Nat.testBit_zero]

theorem and_pred (t m : Nat) : (2 ^ t * (2 * m + 1)) &&& (2 ^ t * (2 * m + 1) - 1) = 2 ^ t * (2 * m) := by
  have hp : 1 ≤ 2 ^ t := Nat.one_le_two_pow
  have e : 2 ^ t * (2 * m + 1) - 1 = 2 ^ t * (2 * m) + (2 ^ t - 1) := by rw [Nat.mul_add]; omega
  apply Nat.eq_of_testBit_eq
  intro i
  rw [e, Nat.testBit_and, Nat.testBit_two_pow_mul_add _ (by omega), bit_mul, bit_mul, odd_bit]
  by_cases h : i < t
  · have h3 : ¬ t ≤ i := by omega
    simp [h3]
  · rw [if_neg h]
    by_cases h2 : i - t = 0
    · rw [h2, even_bit]; simp
    · simp [h2]

theorem items_step {s : Nat} (h0 : s ≠ 0) (hs : s < 18446744073709551616) : items s = Lib.ctz 64 s :: items (s &&& (s - 1)) := by
  obtain ⟨m, hm, ht⟩ := low_split h0 hs
  generalize Lib.ctz 64 s = t at *
  rw [hm, and_pred]
  obtain ⟨d, hd⟩ : ∃ d, 64 = t + (1 + d) := ⟨63 - t, by omega⟩
  have e1 : ∀ i, (2 ^ t * (2 * m + 1)).testBit i = (decide (t ≤ i) && (2 * m + 1).testBit (i - t)) := bit_mul t _
  have e2 : ∀ i, (2 ^ t * (2 * m)).testBit i = (decide (t ≤ i) && (2 * m).testBit (i - t)) := bit_mul t _
  unfold items
  rw [hd, List.range_add, List.filter_append, List.filter_append, List.range_add]
  have z1 : (List.range t).filter (fun i => (2 ^ t * (2 * m + 1)).testBit i) = [] := by
    rw [List.filter_eq_nil_iff]; intro i hi; rw [e1]; have := List.mem_range.1 hi; simp; omega
  have z2 : (List.range t).filter (fun i => (2 ^ t * (2 * m)).testBit i) = [] := by
    rw [List.filter_eq_nil_iff]; intro i hi; rw [e2]; have := List.mem_range.1 hi; simp; omega
  rw [z1, z2]
  simp only [List.nil_append, List.range_one, List.map_cons, Nat.add_zero, List.cons_append, List.filter_cons]
  rw [e1, e2]
  simp only [Nat.le_refl, decide_true, Nat.sub_self, Bool.true_and, even_bit]
  rw [odd_bit]
  simp only [decide_true, Bool.true_or, if_true, Bool.false_eq_true, if_false]
  congr 1
  apply List.filter_congr
  intro i hi
  rw [e1, e2, odd_bit]
  obtain ⟨j, hj, rfl⟩ := List.mem_map.1 hi
  obtain ⟨k, hk, rfl⟩ := List.mem_map.1 hj
  simp

theorem and_pred_lt {s : Nat} (hs : s < 18446744073709551616) : s &&& (s - 1) < 18446744073709551616 := Nat.lt_of_le_of_lt Nat.and_le_left hs
theorem items_zero : items 0 = [] := by
  unfold items; rw [List.filter_eq_nil_iff]; intro i _; simp
theorem cnt_le (s : Nat) : cnt s ≤ 64 := by
  have := List.length_filter_le (fun i => s.testBit i) (List.range 64)
  simpa [cnt, items] using this
theorem items_lt {s i : Nat} (h : i ∈ items s) : i < 64 := by
  have := (List.mem_filter.1 h).1
  exact List.mem_range.1 this
theorem items_mem {s i : Nat} : i ∈ items s ↔ i < 64 ∧ s.testBit i = true := by
  unfold items; rw [List.mem_filter, List.mem_range]

end Go.Proofs.YtfgppkmhjjnnnaaDoor
