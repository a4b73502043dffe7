/- Plain numbers: the subsets of a set, by rising numbers. No program is spoken of. -/
import Derived.Test.YtndbpmhdpjlncaaDoorSetItems
namespace Go.Proofs.YtndbpmhdpjlncaaDoor

theorem two_and (a b x y : Nat) (hx : x < 2) (hy : y < 2) : (2 * a + x) &&& (2 * b + y) = 2 * (a &&& b) + (x &&& y) := by
  have hxy : x &&& y < 2 ^ 1 := Nat.lt_of_le_of_lt Nat.and_le_left hx
  rw [show (2 : Nat) = 2 ^ 1 from rfl]
  apply Nat.eq_of_testBit_eq
  intro i
  rw [Nat.testBit_and, Nat.testBit_two_pow_mul_add _ hx, Nat.testBit_two_pow_mul_add _ hy, Nat.testBit_two_pow_mul_add _ hxy]
  by_cases h : i < 1 <;> simp [h]

/-- The subset of s number k, by rising numbers, of the first n bits. -/
def dep : Nat → Nat → Nat → Nat
  | 0, _, _ => 0
  | n + 1, s, k => if s % 2 = 1 then k % 2 + 2 * dep n (s / 2) (k / 2) else 2 * dep n (s / 2) k

theorem dep_le (n s k : Nat) : dep n s k ≤ s := by
  induction n generalizing s k with
  | zero => simp [dep]
  | succ n ih =>
    simp only [dep]
    split
    · have := ih (s / 2) (k / 2); omega
    · have := ih (s / 2) k; omega

theorem dep_fill (n s k : Nat) (h : s < 2 ^ n) : (dep n s k + (2 ^ n - 1 - s)) &&& s = dep n s k := by
  induction n generalizing s k with
  | zero => obtain rfl : s = 0 := by simpa using h
            simp [dep]
  | succ n ih =>
    rw [Nat.pow_succ] at h ⊢
    obtain ⟨P, hP⟩ : ∃ P, 2 ^ n = P := ⟨_, rfl⟩
    rw [hP] at h ih ⊢
    obtain ⟨t, b, hb, rfl⟩ : ∃ t b, b < 2 ∧ s = 2 * t + b := ⟨s / 2, s % 2, by omega, by omega⟩
    have ht : t < P := by omega
    have e1 : (2 * t + b) / 2 = t := by omega
    have e2 : (2 * t + b) % 2 = b := by omega
    simp only [dep, e1, e2]
    rcases (show b = 0 ∨ b = 1 by omega) with rfl | rfl
    · rw [if_neg (by decide)]
      have := ih t k ht
      have hl := dep_le n t k
      generalize dep n t k = d at *
      rw [show 2 * d + (P * 2 - 1 - (2 * t + 0)) = 2 * (d + (P - 1 - t)) + 1 from by omega, two_and _ _ _ _ (by decide) (by decide), this]
      simp
    · rw [if_pos rfl]
      have := ih t (k / 2) ht
      have hl := dep_le n t (k / 2)
      generalize dep n t (k / 2) = d at *
      rw [show k % 2 + 2 * d + (P * 2 - 1 - (2 * t + 1)) = 2 * (d + (P - 1 - t)) + k % 2 from by omega, two_and _ _ _ _ (by omega) (by decide), this, nat_mask_one]
      omega
where
  nat_mask_one {x : Nat} : x % 2 &&& 1 = x % 2 := by
    rw [Nat.and_one_is_mod]; omega

theorem dep_next (n s k : Nat) (h : s < 2 ^ n) : (dep n s k + (2 ^ n - s)) % 2 ^ n &&& s = dep n s (k + 1) := by
  induction n generalizing s k with
  | zero => obtain rfl : s = 0 := by simpa using h
            simp [dep]
  | succ n ih =>
    have hfill := dep_fill n
    rw [Nat.pow_succ] at h ⊢
    obtain ⟨P, hP⟩ : ∃ P, 2 ^ n = P := ⟨_, rfl⟩
    rw [hP] at h ih hfill ⊢
    obtain ⟨t, b, hb, rfl⟩ : ∃ t b, b < 2 ∧ s = 2 * t + b := ⟨s / 2, s % 2, by omega, by omega⟩
    have ht : t < P := by omega
    have e1 : (2 * t + b) / 2 = t := by omega
    have e2 : (2 * t + b) % 2 = b := by omega
    simp only [dep, e1, e2]
    have hm : ∀ y, 2 * y % (P * 2) = 2 * (y % P) := fun y => by rw [Nat.mul_comm P 2, Nat.mul_mod_mul_left]
    rcases (show b = 0 ∨ b = 1 by omega) with rfl | rfl
    · rw [if_neg (by decide), if_neg (by decide)]
      have := ih t k ht
      have hl := dep_le n t k
      generalize dep n t k = d at *
      rw [show 2 * d + (P * 2 - (2 * t + 0)) = 2 * (d + (P - t)) from by omega, hm, show 2 * ((d + (P - t)) % P) = 2 * ((d + (P - t)) % P) + 0 from rfl, two_and _ _ _ _ (by decide) (by decide), this]
      simp
    · rw [if_pos rfl, if_pos rfl]
      obtain ⟨j, c, hc, rfl⟩ : ∃ j c, c < 2 ∧ k = 2 * j + c := ⟨k / 2, k % 2, by omega, by omega⟩
      have f1 : (2 * j + c) / 2 = j := by omega
      have f2 : (2 * j + c) % 2 = c := by omega
      rw [f1, f2]
      rcases (show c = 0 ∨ c = 1 by omega) with rfl | rfl
      · have := hfill t j ht
        have hl := dep_le n t j
        rw [show (2 * j + 0 + 1) / 2 = j from by omega, show (2 * j + 0 + 1) % 2 = 1 from by omega]
        generalize dep n t j = d at *
        rw [show 0 + 2 * d + (P * 2 - (2 * t + 1)) = 2 * (d + (P - 1 - t)) + 1 from by omega, Nat.mod_eq_of_lt (by omega), two_and _ _ _ _ (by decide) (by decide), this]
        simp; omega
      · have := ih t j ht
        have hl := dep_le n t j
        rw [show (2 * j + 1 + 1) / 2 = j + 1 from by omega, show (2 * j + 1 + 1) % 2 = 0 from by omega]
        generalize dep n t j = d at *
        rw [show 1 + 2 * d + (P * 2 - (2 * t + 1)) = 2 * (d + (P - t)) from by omega, hm, show 2 * ((d + (P - t)) % P) = 2 * ((d + (P - t)) % P) + 0 from rfl, two_and _ _ _ _ (by decide) (by decide), this]
        simp

theorem dep_zero (n s : Nat) : dep n s 0 = 0 := by
  induction n generalizing s with
  | zero => rfl
  | succ n ih => simp only [dep]; split <;> simp [ih]

theorem dep_last (n s k : Nat) (h : s < 2 ^ n) (hk : k < 2 ^ pc n s) : dep n s k = s ↔ k + 1 = 2 ^ pc n s := by
  induction n generalizing s k with
  | zero =>
    obtain rfl : s = 0 := by simpa using h
    simp only [pc, Nat.pow_zero] at hk ⊢
    simp [dep]; omega
  | succ n ih =>
    rw [Nat.pow_succ] at h
    obtain ⟨t, b, hb, rfl⟩ : ∃ t b, b < 2 ∧ s = 2 * t + b := ⟨s / 2, s % 2, by omega, by omega⟩
    have e1 : (2 * t + b) / 2 = t := by omega
    have e2 : (2 * t + b) % 2 = b := by omega
    simp only [dep, pc, e1, e2] at hk ⊢
    rcases (show b = 0 ∨ b = 1 by omega) with rfl | rfl
    · rw [if_neg (by decide)]
      rw [Nat.zero_add] at hk ⊢
      have := ih t k (by omega) hk
      omega
    · rw [if_pos rfl]
      rw [Nat.add_comm 1, Nat.pow_succ] at hk ⊢
      have := ih t (k / 2) (by omega) (by omega)
      omega

theorem dep_mono (n s j k : Nat) (h : s < 2 ^ n) (hjk : j < k) (hk : k < 2 ^ pc n s) : dep n s j < dep n s k := by
  induction n generalizing s j k with
  | zero => simp only [pc, Nat.pow_zero] at hk; omega
  | succ n ih =>
    rw [Nat.pow_succ] at h
    obtain ⟨t, b, hb, rfl⟩ : ∃ t b, b < 2 ∧ s = 2 * t + b := ⟨s / 2, s % 2, by omega, by omega⟩
    have e1 : (2 * t + b) / 2 = t := by omega
    have e2 : (2 * t + b) % 2 = b := by omega
    simp only [dep, pc, e1, e2] at hk ⊢
    rcases (show b = 0 ∨ b = 1 by omega) with rfl | rfl
    · rw [if_neg (by decide), if_neg (by decide)]
      rw [Nat.zero_add] at hk
      have := ih t j k (by omega) hjk hk
      omega
    · rw [if_pos rfl, if_pos rfl]
      rw [Nat.add_comm 1, Nat.pow_succ] at hk
      rcases Nat.lt_or_ge (j / 2) (k / 2) with hq | hq
      · have := ih t (j / 2) (k / 2) (by omega) hq (by omega)
        omega
      · have : j / 2 = k / 2 := by omega
        rw [this]; omega

/-- The subsets of s, by rising numbers. -/
def sub (s k : Nat) : Nat := dep 64 s k
def subsN (s : Nat) : Nat := 2 ^ cnt s
def subs (s : Nat) : List Nat := (List.range (subsN s)).map (sub s)
theorem sub_zero (s : Nat) : sub s 0 = 0 := dep_zero 64 s
theorem sub_lt {s k : Nat} (hs : s < 18446744073709551616) : sub s k < 18446744073709551616 := Nat.lt_of_le_of_lt (dep_le 64 s k) hs
theorem sub_next {s k : Nat} (hs : s < 18446744073709551616) : (sub s k + (18446744073709551616 - s)) % 18446744073709551616 &&& s = sub s (k + 1) := dep_next 64 s k hs
theorem sub_last {s k : Nat} (hs : s < 18446744073709551616) (hk : k < subsN s) : sub s k = s ↔ k + 1 = subsN s := by
  unfold subsN at *; rw [cnt_pc] at *; exact dep_last 64 s k hs hk
theorem sub_mono {s j k : Nat} (hs : s < 18446744073709551616) (hjk : j < k) (hk : k < subsN s) : sub s j < sub s k := by
  unfold subsN at hk; rw [cnt_pc] at hk; exact dep_mono 64 s j k hs hjk hk
theorem subsN_pos (s : Nat) : 1 ≤ subsN s := Nat.one_le_two_pow

end Go.Proofs.YtndbpmhdpjlncaaDoor
