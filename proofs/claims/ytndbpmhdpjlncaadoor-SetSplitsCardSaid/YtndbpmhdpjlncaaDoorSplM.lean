/- Plain numbers: subsets of so many items by rising numbers, and pairs of sets: what set.Choose and set.Splits reckon. No program is spoken of. -/
import Derived.Test.YtndbpmhdpjlncaaDoorSetFirst
import Derived.Test.YtndbpmhdpjlncaaDoorSetDep
namespace Go.Proofs.YtndbpmhdpjlncaaDoor
set_option linter.unusedVariables false

theorem two_or (a b x y : Nat) (hx : x < 2) (hy : y < 2) : (2 * a + x) ||| (2 * b + y) = 2 * (a ||| b) + (x ||| y) := by
  have hxy : x ||| y < 2 ^ 1 := Nat.or_lt_two_pow hx hy
  rw [show (2 : Nat) = 2 ^ 1 from rfl]
  apply Nat.eq_of_testBit_eq
  intro i
  rw [Nat.testBit_or, Nat.testBit_two_pow_mul_add _ hx, Nat.testBit_two_pow_mul_add _ hy, Nat.testBit_two_pow_mul_add _ hxy]
  by_cases h : i < 1 <;> simp [h]
theorem dep_odd (n s k : Nat) (h : s % 2 = 1) : dep (n + 1) s k = 2 * dep n (s / 2) (k / 2) + k % 2 := by simp only [dep, if_pos h]; omega
theorem dep_even (n s k : Nat) (h : ¬ s % 2 = 1) : dep (n + 1) s k = 2 * dep n (s / 2) k + 0 := by simp only [dep, if_neg h]; omega
theorem pc_odd (n s : Nat) (h : s % 2 = 1) : pc (n + 1) s = pc n (s / 2) + 1 := by simp only [pc]; omega
theorem pc_even (n s : Nat) (h : ¬ s % 2 = 1) : pc (n + 1) s = pc n (s / 2) := by simp only [pc]; omega
/-- What lies low is added by itself. -/
theorem dep_low : ∀ (n s a t d : Nat), d < 2 ^ t → dep n s (a * 2 ^ t + d) = dep n s (a * 2 ^ t) + dep n s d
  | 0, _, _, _, _, _ => rfl
  | n + 1, s, a, t, d, h => by
    by_cases hs : s % 2 = 1
    · cases t with
      | zero =>
        obtain rfl : d = 0 := by simpa using h
        rw [dep_zero]; simp
      | succ t =>
        have e : a * 2 ^ (t + 1) = 2 * (a * 2 ^ t) := by rw [Nat.pow_succ]; simp [Nat.mul_comm, Nat.mul_left_comm]
        have h2 : 2 ^ (t + 1) = 2 ^ t * 2 := Nat.pow_succ 2 t
        have ih := dep_low n (s / 2) a t (d / 2) (by omega)
        rw [dep_odd _ _ _ hs, dep_odd _ _ _ hs, dep_odd _ _ _ hs, e]
        obtain ⟨A, hA⟩ : ∃ A, a * 2 ^ t = A := ⟨_, rfl⟩
        rw [hA] at ih ⊢
        rw [show (2 * A + d) / 2 = A + d / 2 from by omega, ih, show 2 * A / 2 = A from by omega]
        omega
    · rw [dep_even _ _ _ hs, dep_even _ _ _ hs, dep_even _ _ _ hs, dep_low n (s / 2) a t d h]
      omega
theorem dep_orlow : ∀ (n s a t d : Nat), d < 2 ^ t → dep n s (a * 2 ^ t) ||| dep n s d = dep n s (a * 2 ^ t + d)
  | 0, _, _, _, _, _ => by simp [dep]
  | n + 1, s, a, t, d, h => by
    by_cases hs : s % 2 = 1
    · cases t with
      | zero =>
        obtain rfl : d = 0 := by simpa using h
        rw [dep_zero]; simp
      | succ t =>
        have e : a * 2 ^ (t + 1) = 2 * (a * 2 ^ t) := by rw [Nat.pow_succ]; simp [Nat.mul_comm, Nat.mul_left_comm]
        have h2 : 2 ^ (t + 1) = 2 ^ t * 2 := Nat.pow_succ 2 t
        have ih := dep_orlow n (s / 2) a t (d / 2) (by omega)
        rw [dep_odd _ _ _ hs, dep_odd _ _ _ hs, dep_odd _ _ _ hs, e]
        obtain ⟨A, hA⟩ : ∃ A, a * 2 ^ t = A := ⟨_, rfl⟩
        rw [hA] at ih ⊢
        rw [show (2 * A + d) / 2 = A + d / 2 from by omega, show 2 * A / 2 = A from by omega, two_or _ _ _ _ (by omega) (by omega), ih, show 2 * A % 2 = 0 from by omega, Nat.zero_or]
        omega
    · rw [dep_even _ _ _ hs, dep_even _ _ _ hs, dep_even _ _ _ hs, two_or _ _ _ _ (by omega) (by omega), dep_orlow n (s / 2) a t d h]
      rfl
theorem dep_pos : ∀ (n s k : Nat), 0 < k → k < 2 ^ pc n s → 0 < dep n s k
  | 0, _, k, h, hk => by simp only [pc, Nat.pow_zero] at hk; omega
  | n + 1, s, k, h, hk => by
    by_cases hs : s % 2 = 1
    · rw [pc_odd _ _ hs, Nat.pow_succ] at hk
      rw [dep_odd _ _ _ hs]
      by_cases h2 : k % 2 = 1
      · omega
      · have := dep_pos n (s / 2) (k / 2) (by omega) (by omega); omega
    · rw [pc_even _ _ hs] at hk
      rw [dep_even _ _ _ hs]
      have := dep_pos n (s / 2) k h hk; omega
/-- The least item is taken away. -/
theorem dep_clear : ∀ (n s a i : Nat), (2 * a + 1) * 2 ^ i < 2 ^ pc n s → dep n s ((2 * a + 1) * 2 ^ i) &&& (dep n s ((2 * a + 1) * 2 ^ i) - 1) = dep n s (2 * a * 2 ^ i)
  | 0, s, a, i, h => by simp [dep]
  | n + 1, s, a, i, h => by
    have hp : 0 < (2 * a + 1) * 2 ^ i := Nat.mul_pos (by omega) (Nat.two_pow_pos i)
    by_cases hs : s % 2 = 1
    · rw [pc_odd _ _ hs, Nat.pow_succ] at h
      cases i with
      | zero =>
        simp only [Nat.pow_zero, Nat.mul_one] at h ⊢
        rw [dep_odd _ _ _ hs, dep_odd _ _ _ hs, show (2 * a + 1) / 2 = a from by omega, show 2 * a / 2 = a from by omega, show (2 * a + 1) % 2 = 1 from by omega, show 2 * a % 2 = 0 from by omega]
        rw [show 2 * dep n (s / 2) a + 1 - 1 = 2 * dep n (s / 2) a + 0 from by omega, two_and _ _ _ _ (by decide) (by decide), Nat.and_self]
        rfl
      | succ i =>
        have e : ∀ b : Nat, b * 2 ^ (i + 1) = 2 * (b * 2 ^ i) := fun b => by rw [Nat.pow_succ]; simp [Nat.mul_comm, Nat.mul_left_comm]
        rw [e] at h hp ⊢
        rw [e]
        have hk : (2 * a + 1) * 2 ^ i < 2 ^ pc n (s / 2) := by omega
        have ih := dep_clear n (s / 2) a i hk
        have hpos := dep_pos n (s / 2) ((2 * a + 1) * 2 ^ i) (by omega) hk
        rw [dep_odd _ _ _ hs, dep_odd _ _ _ hs]
        generalize (2 * a + 1) * 2 ^ i = K at *
        generalize 2 * a * 2 ^ i = J at *
        rw [show 2 * K / 2 = K from by omega, show 2 * J / 2 = J from by omega, show 2 * K % 2 = 0 from by omega, show 2 * J % 2 = 0 from by omega]
        rw [show 2 * dep n (s / 2) K + 0 - 1 = 2 * (dep n (s / 2) K - 1) + 1 from by omega, two_and _ _ _ _ (by decide) (by decide), ih]
        rfl
    · rw [pc_even _ _ hs] at h
      have ih := dep_clear n (s / 2) a i h
      have hpos := dep_pos n (s / 2) ((2 * a + 1) * 2 ^ i) hp h
      rw [dep_even _ _ _ hs, dep_even _ _ _ hs]
      generalize (2 * a + 1) * 2 ^ i = K at *
      generalize 2 * a * 2 ^ i = J at *
      rw [show 2 * dep n (s / 2) K + 0 - 1 = 2 * (dep n (s / 2) K - 1) + 1 from by omega, two_and _ _ _ _ (by decide) (by decide), ih]
      rfl
theorem andnot_sub : ∀ (n x y : Nat), x < 2 ^ n → x &&& y = y → x &&& (2 ^ n - 1 - y) = x - y
  | 0, x, y, h, hy => by
    obtain rfl : x = 0 := by simpa using h
    simp
  | n + 1, x, y, h, hy => by
    have hle : y ≤ x := by rw [← hy]; exact Nat.and_le_left
    rw [Nat.pow_succ] at h ⊢
    obtain ⟨a, p, hp, rfl⟩ : ∃ a p, p < 2 ∧ x = 2 * a + p := ⟨x / 2, x % 2, by omega, by omega⟩
    obtain ⟨b, r, hr, rfl⟩ : ∃ b r, r < 2 ∧ y = 2 * b + r := ⟨y / 2, y % 2, by omega, by omega⟩
    rw [two_and _ _ _ _ hp hr] at hy
    have hpr : p &&& r < 2 := Nat.lt_of_le_of_lt Nat.and_le_left hp
    have h1 : a &&& b = b := by omega
    have h2 : p &&& r = r := by omega
    have h3 : r ≤ p := by rw [← h2]; exact Nat.and_le_left
    have hba : b ≤ a := by rw [← h1]; exact Nat.and_le_left
    have ih := andnot_sub n a b (by omega) h1
    rw [show 2 ^ n * 2 - 1 - (2 * b + r) = 2 * (2 ^ n - 1 - b) + (1 - r) from by omega, two_and _ _ _ _ hp (by omega), ih]
    rcases (show p = 0 ∨ p = 1 by omega) with rfl | rfl <;> rcases (show r = 0 ∨ r = 1 by omega) with rfl | rfl
    · simp; omega
    · omega
    · simp; omega
    · simp; omega
/-- A sum of subsets, with what is no item filled up: the carry runs to the next item. -/
theorem dep_sum : ∀ (n s k m c : Nat), s < 2 ^ n → c < 2 → (dep n s k + (2 ^ n - 1 - s) + dep n s m + c) % 2 ^ n &&& s = dep n s (k + m + c)
  | 0, s, k, m, c, h, hc => by
    obtain rfl : s = 0 := by simpa using h
    simp [dep]
  | n + 1, s, k, m, c, h, hc => by
    rw [Nat.pow_succ] at h ⊢
    obtain ⟨P, hP⟩ : ∃ P, 2 ^ n = P := ⟨_, rfl⟩
    have ih := dep_sum n (s / 2)
    rw [hP] at h ih ⊢
    have hm : ∀ y b, b < 2 → (2 * y + b) % (P * 2) = 2 * (y % P) + b := fun y b hb => by
      have h1 : (2 * y + b) / 2 = y := by omega
      have h2 : (2 * y + b) % 2 = b := by omega
      rw [Nat.mul_comm P 2, Nat.mod_mul, h1, h2]; omega
    by_cases hs : s % 2 = 1
    · rw [dep_odd _ _ _ hs, dep_odd _ _ _ hs, dep_odd _ _ _ hs]
      have he : s = 2 * (s / 2) + 1 := by omega
      generalize s / 2 = t at *
      subst he
      have i0 := fun c (hc : c < 2) => ih (k / 2) (m / 2) c (by omega) hc
      generalize dep n t (k / 2) = A at *
      generalize dep n t (m / 2) = B at *
      by_cases hcar : k % 2 + m % 2 + c < 2
      · rw [show 2 * A + k % 2 + (P * 2 - 1 - (2 * t + 1)) + (2 * B + m % 2) + c = 2 * (A + (P - 1 - t) + B + 0) + (k % 2 + m % 2 + c) from by omega, hm _ _ hcar, two_and _ _ _ _ hcar (by decide), i0 0 (by decide), show (k + m + c) / 2 = k / 2 + m / 2 + 0 from by omega, show (k + m + c) % 2 = k % 2 + m % 2 + c from by omega, Nat.and_one_is_mod, Nat.mod_eq_of_lt hcar]
      · have hb : k % 2 + m % 2 + c - 2 < 2 := by omega
        rw [show 2 * A + k % 2 + (P * 2 - 1 - (2 * t + 1)) + (2 * B + m % 2) + c = 2 * (A + (P - 1 - t) + B + 1) + (k % 2 + m % 2 + c - 2) from by omega, hm _ _ hb, two_and _ _ _ _ hb (by decide), i0 1 (by decide), show (k + m + c) / 2 = k / 2 + m / 2 + 1 from by omega, show (k + m + c) % 2 = k % 2 + m % 2 + c - 2 from by omega, Nat.and_one_is_mod, Nat.mod_eq_of_lt hb]
    · rw [dep_even _ _ _ hs, dep_even _ _ _ hs, dep_even _ _ _ hs]
      have he : s = 2 * (s / 2) + 0 := by omega
      generalize s / 2 = t at *
      subst he
      have i0 := ih k m c (by omega) hc
      generalize dep n t k = A at *
      generalize dep n t m = B at *
      have hb : 1 + c - 2 * c < 2 := by omega
      rw [show 2 * A + 0 + (P * 2 - 1 - (2 * t + 0)) + (2 * B + 0) + c = 2 * (A + (P - 1 - t) + B + c) + (1 + c - 2 * c) from by omega, hm _ _ hb, two_and _ _ _ _ hb (by decide), i0]
      simp
theorem dep_top : ∀ (n s : Nat), dep n s (2 ^ pc n s) = 0
  | 0, _ => rfl
  | n + 1, s => by
    by_cases hs : s % 2 = 1
    · rw [dep_odd _ _ _ hs, pc_odd _ _ hs, Nat.pow_succ, show 2 ^ pc n (s / 2) * 2 / 2 = 2 ^ pc n (s / 2) from by omega, dep_top n (s / 2)]
      omega
    · rw [dep_even _ _ _ hs, pc_even _ _ hs, dep_top n (s / 2)]
theorem dep_sub : ∀ (n s k : Nat), s &&& dep n s k = dep n s k
  | 0, _, _ => by simp [dep]
  | n + 1, s, k => by
    by_cases hs : s % 2 = 1
    · rw [dep_odd _ _ _ hs]
      have he : s = 2 * (s / 2) + 1 := by omega
      generalize hq : s / 2 = t at *
      rw [he, two_and _ _ _ _ (by decide) (by omega), dep_sub n t (k / 2), Nat.one_and_eq_mod_two, Nat.mod_mod]
    · rw [dep_even _ _ _ hs]
      have he : s = 2 * (s / 2) + 0 := by omega
      generalize hq : s / 2 = t at *
      rw [he, two_and _ _ _ _ (by decide) (by decide), dep_sub n t k, Nat.zero_and]
/-- The least item. -/
theorem low_bit : ∀ (n s : Nat), s < 2 ^ n → s &&& (2 ^ n - s) = dep n s 1
  | 0, s, h => by
    obtain rfl : s = 0 := by simpa using h
    simp [dep]
  | n + 1, s, h => by
    rw [Nat.pow_succ] at h ⊢
    by_cases hs : s % 2 = 1
    · rw [dep_odd _ _ _ hs]
      have he : s = 2 * (s / 2) + 1 := by omega
      generalize hq : s / 2 = t at *
      rw [he, show 2 ^ n * 2 - (2 * t + 1) = 2 * (2 ^ n - 1 - t) + 1 from by omega, two_and _ _ _ _ (by decide) (by decide), andnot_sub n t t (by omega) (Nat.and_self _), Nat.sub_self, show 1 / 2 = 0 from rfl, dep_zero]
      rfl
    · rw [dep_even _ _ _ hs]
      have he : s = 2 * (s / 2) + 0 := by omega
      generalize hq : s / 2 = t at *
      rw [he, show 2 ^ n * 2 - (2 * t + 0) = 2 * (2 ^ n - t) + 0 from by omega, two_and _ _ _ _ (by decide) (by decide), low_bit n t (by omega)]
      rfl
/-- The subsets of a set less its least item. -/
theorem dep_rest : ∀ (n s j : Nat), 0 < s → s < 2 ^ n → dep n (s &&& (s - 1)) j = dep n s (2 * j) ∧ pc n (s &&& (s - 1)) + 1 = pc n s
  | 0, s, j, h0, h => by simp at h; omega
  | n + 1, s, j, h0, h => by
    rw [Nat.pow_succ] at h
    by_cases hs : s % 2 = 1
    · have he : s = 2 * (s / 2) + 1 := by omega
      generalize hq : s / 2 = t at *
      have e : s &&& (s - 1) = 2 * t + 0 := by
        rw [he, show 2 * t + 1 - 1 = 2 * t + 0 from by omega, two_and _ _ _ _ (by decide) (by decide), Nat.and_self]; rfl
      rw [e, dep_odd _ _ _ hs, dep_even _ _ _ (by omega), pc_odd _ _ hs, pc_even _ _ (by omega), hq, show (2 * t + 0) / 2 = t from by omega, show 2 * j / 2 = j from by omega]
      exact ⟨by omega, rfl⟩
    · have he : s = 2 * (s / 2) + 0 := by omega
      generalize hq : s / 2 = t at *
      have e : s &&& (s - 1) = 2 * (t &&& (t - 1)) + 0 := by
        rw [he, show 2 * t + 0 - 1 = 2 * (t - 1) + 1 from by omega, two_and _ _ _ _ (by decide) (by decide)]; rfl
      obtain ⟨i1, i2⟩ := dep_rest n t j (by omega) (by omega)
      rw [e, dep_even _ _ _ hs, dep_even _ _ _ (by omega), pc_even _ _ hs, pc_even _ _ (by omega), hq, show (2 * (t &&& (t - 1)) + 0) / 2 = t &&& (t - 1) from by omega, i1]
      exact ⟨rfl, i2⟩
/-- Has a subset the least item? -/
theorem dep_has : ∀ (n s k : Nat), 0 < pc n s → dep n s k &&& dep n s 1 = dep n s (k % 2)
  | 0, s, k, h => by simp [pc] at h
  | n + 1, s, k, h => by
    by_cases hs : s % 2 = 1
    · rw [dep_odd _ _ _ hs, dep_odd _ _ _ hs, dep_odd _ _ _ hs, two_and _ _ _ _ (by omega) (by decide), show 1 / 2 = 0 from rfl, dep_zero, Nat.and_zero, show k % 2 / 2 = 0 from by omega, dep_zero, Nat.and_one_is_mod]
    · rw [pc_even _ _ hs] at h
      rw [dep_even _ _ _ hs, dep_even _ _ _ hs, dep_even _ _ _ hs, two_and _ _ _ _ (by decide) (by decide), dep_has n (s / 2) k h]
      rfl
end Go.Proofs.YtndbpmhdpjlncaaDoor
