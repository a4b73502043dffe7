/- The document's Turn: bits turned from a place on. -/
import Derived.Test.YtdimjeppcfacdaaSumLaws
import Derived.RegionTactic
namespace Go.Proofs.Ytdimjeppcfacdaa
open Go.RowKit SumM

/-- The j-th byte of a number. -/
def byteAt (D j : Nat) : Nat := D / 256 ^ j % 256
def digits (D n : Nat) : List Nat := (List.range n).map (byteAt D)
theorem byteAt_eq (D j : Nat) : byteAt D j = (D >>> (8 * j)) % 2 ^ 8 := by
  unfold byteAt
  rw [Nat.shiftRight_eq_div_pow, Nat.pow_mul]
theorem byteAt_xor (D E j : Nat) : byteAt (D ^^^ E) j = byteAt D j ^^^ byteAt E j := by
  rw [byteAt_eq, byteAt_eq, byteAt_eq, Nat.shiftRight_xor_distrib, Nat.xor_mod_two_pow]
theorem byteAt_pow (i j : Nat) : byteAt (2 ^ i) j = if i / 8 = j then 2 ^ (i % 8) else 0 := by
  rw [byteAt_eq, Nat.shiftRight_eq_div_pow]
  by_cases h : 8 * j ≤ i
  · rw [Nat.pow_div h (by decide)]
    by_cases h2 : i / 8 = j
    · rw [if_pos h2, show i - 8 * j = i % 8 from by omega, Nat.mod_eq_of_lt]
      exact Nat.pow_lt_pow_right (by decide) (by omega)
    · rw [if_neg h2]
      obtain ⟨t, ht⟩ : ∃ t, i - 8 * j = 8 + t := ⟨i - 8 * j - 8, by omega⟩
      rw [ht, Nat.pow_add, Nat.mul_mod_right]
  · rw [if_neg (by omega), Nat.div_eq_of_lt (Nat.pow_lt_pow_right (by decide) (by omega))]
theorem digits_len (D n : Nat) : (digits D n).length = n := by simp [digits]
theorem digits_lt (D n : Nat) : ∀ x ∈ digits D n, x < 256 := by
  intro x hx
  obtain ⟨j, _, rfl⟩ := List.mem_map.1 hx
  exact Nat.mod_lt _ (by decide)
theorem digits_get (D n j : Nat) (h : j < n) : (digits D n)[j]? = some (byteAt D j) := by simp [digits, h]
theorem num_digits (D n : Nat) : num (digits D n) = D % 256 ^ n := by
  induction n generalizing D with
  | zero => show 0 = _; rw [Nat.pow_zero, Nat.mod_one]
  | succ n ih =>
    have e : digits D (n + 1) = D % 256 :: digits (D / 256) n := by
      unfold digits
      rw [List.range_succ_eq_map, List.map_cons, List.map_map]
      congr 1
      · unfold byteAt; rw [Nat.pow_zero, Nat.div_one]
      · apply List.map_congr_left
        intro j _
        show byteAt D (j + 1) = byteAt (D / 256) j
        unfold byteAt
        rw [Nat.pow_succ, Nat.mul_comm, Nat.div_div_eq_div_mul]
    rw [e]
    show D % 256 + 256 * num (digits (D / 256) n) = _
    rw [ih, Nat.pow_succ, Nat.mul_comm (256 ^ n), Nat.mod_mul]

/-- What bits are turned, of the mask's first k. -/
def turnD (at' m k : Nat) : Nat := m % 2 ^ k * 2 ^ at'
theorem turnD_zero (at' m : Nat) : turnD at' m 0 = 0 := by unfold turnD; rw [Nat.pow_zero, Nat.mod_one, Nat.zero_mul]
theorem mod_succ (m k : Nat) : m % 2 ^ (k + 1) = m % 2 ^ k + 2 ^ k * (m / 2 ^ k % 2) := by rw [Nat.pow_succ, Nat.mod_mul]
theorem turnD_no (at' m k : Nat) (h : m / 2 ^ k % 2 = 0) : turnD at' m (k + 1) = turnD at' m k := by unfold turnD; rw [mod_succ, h, Nat.mul_zero, Nat.add_zero]
theorem turnD_yes (at' m k : Nat) (h : m / 2 ^ k % 2 = 1) : turnD at' m (k + 1) = turnD at' m k ^^^ 2 ^ (at' + k) := by
  have hlt : turnD at' m k < 2 ^ (at' + k) := by
    unfold turnD
    rw [Nat.pow_add, Nat.mul_comm]
    exact Nat.mul_lt_mul_of_pos_left (Nat.mod_lt _ (Nat.two_pow_pos k)) (Nat.two_pow_pos at')
  have e : turnD at' m (k + 1) = 2 ^ (at' + k) * 1 + turnD at' m k := by
    unfold turnD
    rw [mod_succ, h, Nat.mul_one, Nat.mul_one, Nat.add_mul, Nat.pow_add, Nat.mul_comm (2 ^ k) (2 ^ at'), Nat.add_comm]
  rw [e]
  have h2 := Nat.two_pow_add_eq_or_of_lt hlt 1
  rw [h2, Nat.mul_one]
  apply Nat.eq_of_testBit_eq
  intro i
  rw [Nat.testBit_or, Nat.testBit_xor, Nat.testBit_two_pow]
  by_cases hi : at' + k = i
  · subst hi
    rw [Nat.testBit_lt_two_pow hlt]; simp
  · simp [hi]

/-- The bytes with those bits turned. -/
def turnL (l : List Nat) (D : Nat) : List Nat := xorL l (digits D l.length)
theorem turnL_len (l : List Nat) (D : Nat) : (turnL l D).length = l.length := by simp [turnL, xorL, digits]
theorem turnL_get (l : List Nat) (D j : Nat) (x : Nat) (h : l[j]? = some x) : (turnL l D)[j]? = some (x ^^^ byteAt D j) := by
  have hj := (List.getElem?_eq_some_iff.1 h).1
  unfold turnL xorL
  rw [List.getElem?_zipWith, h, digits_get _ _ _ hj]
theorem turnL_lt (l : List Nat) (D : Nat) (hl : ∀ x ∈ l, x < 256) : ∀ x ∈ turnL l D, x < 256 := by
  intro x hx
  obtain ⟨j, hj⟩ := List.getElem?_of_mem hx
  have hlt : j < l.length := by have := (List.getElem?_eq_some_iff.1 hj).1; rw [turnL_len] at this; exact this
  rw [turnL_get l D j l[j] (List.getElem?_eq_getElem hlt)] at hj
  cases hj
  exact Nat.xor_lt_two_pow (n := 8) (hl _ (List.getElem_mem _)) (Nat.mod_lt _ (by decide))
theorem turnL_zero (l : List Nat) : turnL l 0 = l := by
  apply List.ext_getElem?
  intro j
  cases h : l[j]? with
  | none => rw [List.getElem?_eq_none_iff, turnL_len]; exact List.getElem?_eq_none_iff.1 h
  | some x => rw [turnL_get l 0 j x h]; unfold byteAt; simp
theorem turnL_set (l : List Nat) (D i x : Nat) (hi : i / 8 < l.length) (h : (turnL l D)[i / 8]? = some x) : (turnL l D).set (i / 8) (x ^^^ 2 ^ (i % 8)) = turnL l (D ^^^ 2 ^ i) := by
  apply List.ext_getElem?
  intro j
  rw [List.getElem?_set]
  by_cases hj : j < l.length
  · have hg := List.getElem?_eq_getElem hj
    rw [turnL_get l (D ^^^ 2 ^ i) j _ hg, byteAt_xor, byteAt_pow]
    by_cases e : i / 8 = j
    · subst e
      rw [turnL_get l D _ _ hg] at h
      cases h
      simp [turnL_len, hi, Nat.xor_assoc]
    · rw [if_neg e, if_neg e, Nat.xor_zero]; exact turnL_get l D j _ hg
  · rw [if_neg (by omega)]
    rw [List.getElem?_eq_none (by rw [turnL_len]; omega), List.getElem?_eq_none (by rw [turnL_len]; omega)]
theorem turnL_out (l : List Nat) (D i : Nat) (hi : l.length ≤ i / 8) : turnL l (D ^^^ 2 ^ i) = turnL l D := by
  apply List.ext_getElem?
  intro j
  cases h : l[j]? with
  | none => rw [List.getElem?_eq_none (by rw [turnL_len]; exact List.getElem?_eq_none_iff.1 h), List.getElem?_eq_none (by rw [turnL_len]; exact List.getElem?_eq_none_iff.1 h)]
  | some x =>
    have := (List.getElem?_eq_some_iff.1 h).1
    rw [turnL_get l _ j x h, turnL_get l _ j x h, byteAt_xor, byteAt_pow, if_neg (by omega), Nat.xor_zero]

/-- Turned bytes have the same sum just if they are the same. -/
theorem turn_sum (l : List Nat) (hl : ∀ x ∈ l, x < 256) (at' m : Nat) (hat : at' < 8 * l.length) (hm : m < 4294967296) : (sumL (turnL l (m * 2 ^ at')) = sumL l) ↔ turnL l (m * 2 ^ at') = l := by
  constructor
  · intro h
    have hnum := num_digits (m * 2 ^ at') l.length
    have e256 : (256 : Nat) ^ l.length = 2 ^ at' * 2 ^ (8 * l.length - at') := by
      rw [show (256 : Nat) = 2 ^ 8 from rfl, ← Nat.pow_mul, ← Nat.pow_add]; congr 1; omega
    rw [e256, Nat.mul_comm m, Nat.mul_mod_mul_left] at hnum
    by_cases h0 : m % 2 ^ (8 * l.length - at') = 0
    · have hz : ∀ n D, num (digits D n) = 0 → ∀ x ∈ digits D n, x = 0 := by
        intro n D hn
        have key : ∀ (k : List Nat), num k = 0 → ∀ x ∈ k, x = 0 := by
          intro k
          induction k with
          | nil => intro _ x hx; cases hx
          | cons b k ih =>
            intro h x hx
            have h' : b + 256 * num k = 0 := h
            rcases List.mem_cons.1 hx with rfl | hx
            · omega
            · exact ih (by omega) x hx
        exact key _ hn
      rw [h0, Nat.mul_zero] at hnum
      have hall := hz _ _ hnum
      rw [Nat.mul_comm (2 ^ at')] at hall
      have hd : digits (m * 2 ^ at') l.length = List.replicate l.length 0 := by
        apply List.eq_replicate_iff.2
        exact ⟨digits_len _ _, hall⟩
      unfold turnL
      rw [hd]; exact xor_zeros l
    · have hlt : m % 2 ^ (8 * l.length - at') < 4294967296 := Nat.lt_of_le_of_lt (Nat.mod_le _ _) hm
      rw [Nat.mul_comm (2 ^ at')] at hnum
      exact absurd h (turns_differ l (digits (m * 2 ^ at') l.length) hl (digits_lt _ _) (digits_len _ _).symm at' _ hlt h0 hnum (by omega))
  · intro h; rw [h]
end Go.Proofs.Ytdimjeppcfacdaa
