/- Plain numbers: which subsets have so many items, by rising numbers: the next one. No program is spoken of. -/
import Derived.Test.YtndbpmhdpjlncaaDoorSplM
namespace Go.Proofs.YtndbpmhdpjlncaaDoor
set_option linter.unusedVariables false

/-- How many bits. -/
def pop (k : Nat) : Nat := if h : k = 0 then 0 else k % 2 + pop (k / 2)
termination_by k
decreasing_by exact Nat.div_lt_self (Nat.pos_of_ne_zero h) (by decide)
theorem pop_zero : pop 0 = 0 := by unfold pop; simp
theorem pop_step (k : Nat) : pop k = k % 2 + pop (k / 2) := by
  by_cases h : k = 0
  · subst h; simp [pop_zero]
  · rw [pop, dif_neg h]
theorem pop_two (a b : Nat) (hb : b < 2) : pop (2 * a + b) = b + pop a := by
  rw [pop_step, show (2 * a + b) % 2 = b from by omega, show (2 * a + b) / 2 = a from by omega]
theorem pop_low : ∀ (t a d : Nat), d < 2 ^ t → pop (a * 2 ^ t + d) = pop a + pop d
  | 0, a, d, h => by
    obtain rfl : d = 0 := by simpa using h
    simp [pop_zero]
  | t + 1, a, d, h => by
    have h2 : 2 ^ (t + 1) = 2 ^ t * 2 := Nat.pow_succ 2 t
    have e : a * 2 ^ (t + 1) = 2 * (a * 2 ^ t) := by rw [Nat.pow_succ]; simp [Nat.mul_comm, Nat.mul_left_comm]
    have ih := pop_low t a (d / 2) (by omega)
    rw [e, show 2 * (a * 2 ^ t) + d = 2 * (a * 2 ^ t + d / 2) + d % 2 from by omega, pop_two _ _ (by omega), ih, pop_step d]
    omega
theorem pop_mask : ∀ r, pop (2 ^ r - 1) = r
  | 0 => by simp [pop_zero]
  | r + 1 => by
    have h2 : 2 ^ (r + 1) = 2 ^ r * 2 := Nat.pow_succ 2 r
    have hp := Nat.two_pow_pos r
    rw [show 2 ^ (r + 1) - 1 = 2 * (2 ^ r - 1) + 1 from by omega, pop_two _ _ (by decide), pop_mask r]
    omega
theorem pop_le : ∀ r d, d < 2 ^ r → pop d ≤ r
  | 0, d, h => by
    obtain rfl : d = 0 := by simpa using h
    simp [pop_zero]
  | r + 1, d, h => by
    have h2 : 2 ^ (r + 1) = 2 ^ r * 2 := Nat.pow_succ 2 r
    have := pop_le r (d / 2) (by omega)
    rw [pop_step]; omega
theorem pop_lt : ∀ r d, d < 2 ^ r - 1 → pop d < r
  | 0, d, h => by simp at h
  | r + 1, d, h => by
    have h2 : 2 ^ (r + 1) = 2 ^ r * 2 := Nat.pow_succ 2 r
    rw [pop_step]
    by_cases hd : d % 2 = 1
    · have := pop_lt r (d / 2) (by omega); omega
    · have := pop_le r (d / 2) (by omega); omega
theorem pop_pos : ∀ d, 0 < d → 0 < pop d := by
  intro d
  induction d using Nat.strongRecOn with
  | _ d ih =>
    intro h
    rw [pop_step]
    by_cases hd : d % 2 = 1
    · omega
    · have := ih (d / 2) (by omega) (by omega); omega
theorem odd_part : ∀ k, 0 < k → ∃ a i, k = (2 * a + 1) * 2 ^ i := by
  intro k
  induction k using Nat.strongRecOn with
  | _ k ih =>
    intro h
    by_cases hk : k % 2 = 1
    · exact ⟨k / 2, 0, by omega⟩
    · obtain ⟨a, i, e⟩ := ih (k / 2) (by omega) (by omega)
      exact ⟨a, i + 1, by rw [Nat.pow_succ, ← Nat.mul_assoc, ← e]; omega⟩
theorem pop_odd (a i : Nat) : pop ((2 * a + 1) * 2 ^ i) = 1 + pop a := by
  have h := pop_low i (2 * a + 1) 0 (Nat.two_pow_pos i)
  rw [Nat.add_zero] at h
  rw [h, pop_zero, pop_two _ _ (by decide), Nat.add_zero]
/-- The number behind, as its low end is carried. -/
theorem gos_carry (a i : Nat) : ∃ b e, (2 * a + 1) * 2 ^ i + 2 ^ i = (2 * b + 1) * 2 ^ (i + 1 + e) ∧ pop ((2 * a + 1) * 2 ^ i) = pop ((2 * b + 1) * 2 ^ (i + 1 + e)) + e := by
  obtain ⟨b, e, h⟩ := odd_part (a + 1) (by omega)
  refine ⟨b, e, ?_, ?_⟩
  · rw [Nat.pow_add, Nat.pow_succ, show (2 * b + 1) * (2 ^ i * 2 * 2 ^ e) = (2 * b + 1) * 2 ^ e * (2 ^ i * 2) from by simp [Nat.mul_comm, Nat.mul_left_comm], ← h]
    rw [show (a + 1) * (2 ^ i * 2) = (2 * a + 2) * 2 ^ i from by rw [Nat.mul_comm (2 ^ i) 2, ← Nat.mul_assoc]; congr 1; omega, show 2 * a + 2 = 2 * a + 1 + 1 from rfl, Nat.add_mul (2 * a + 1) 1, Nat.one_mul]
  · rw [pop_odd, pop_odd]
    have hp := Nat.two_pow_pos e
    have ha : a = 2 * b * 2 ^ e + (2 ^ e - 1) := by
      rw [Nat.add_mul, Nat.one_mul] at h
      omega
    have h2 := pop_low e (2 * b) (2 ^ e - 1) (by omega)
    rw [← ha, pop_mask] at h2
    have h3 := pop_two b 0 (by decide)
    rw [Nat.add_zero] at h3
    omega
theorem gos_gap1 {a i j : Nat} (h1 : (2 * a + 1) * 2 ^ i < j) (h2 : j < (2 * a + 1) * 2 ^ i + 2 ^ i) : pop j ≠ pop ((2 * a + 1) * 2 ^ i) := by
  obtain ⟨d, rfl⟩ : ∃ d, j = (2 * a + 1) * 2 ^ i + d := ⟨j - (2 * a + 1) * 2 ^ i, by omega⟩
  have h := pop_low i (2 * a + 1) d (by omega)
  have h0 := pop_low i (2 * a + 1) 0 (by omega)
  rw [Nat.add_zero, pop_zero] at h0
  have := pop_pos d (by omega)
  omega
theorem gos_gap2 {b t e j : Nat} (he : e ≤ t) (h1 : (2 * b + 1) * 2 ^ t ≤ j) (h2 : j < (2 * b + 1) * 2 ^ t + (2 ^ e - 1)) : pop j < pop ((2 * b + 1) * 2 ^ t) + e := by
  have hp := Nat.pow_le_pow_right (show 0 < 2 by decide) he
  obtain ⟨d, rfl⟩ : ∃ d, j = (2 * b + 1) * 2 ^ t + d := ⟨j - (2 * b + 1) * 2 ^ t, by omega⟩
  have h := pop_low t (2 * b + 1) d (by omega)
  have h0 := pop_low t (2 * b + 1) 0 (by omega)
  rw [Nat.add_zero, pop_zero] at h0
  have := pop_lt e d (by omega)
  omega
theorem gos_next {b t e : Nat} (he : e ≤ t) : pop ((2 * b + 1) * 2 ^ t + (2 ^ e - 1)) = pop ((2 * b + 1) * 2 ^ t) + e := by
  have hp := Nat.pow_le_pow_right (show 0 < 2 by decide) he
  have hp1 := Nat.two_pow_pos e
  have h := pop_low t (2 * b + 1) (2 ^ e - 1) (by omega)
  have h0 := pop_low t (2 * b + 1) 0 (Nat.two_pow_pos t)
  rw [Nat.add_zero, pop_zero] at h0
  rw [pop_mask] at h
  omega
theorem pop_dep : ∀ (n s k : Nat), k < 2 ^ pc n s → pc n (dep n s k) = pop k
  | 0, s, k, h => by
    obtain rfl : k = 0 := by simpa [pc] using h
    simp [pc, pop_zero]
  | n + 1, s, k, h => by
    by_cases hs : s % 2 = 1
    · rw [pc_odd _ _ hs, Nat.pow_succ] at h
      rw [dep_odd _ _ _ hs, pop_step k, ← pop_dep n (s / 2) (k / 2) (by omega)]
      simp only [pc]
      rw [show (2 * dep n (s / 2) (k / 2) + k % 2) % 2 = k % 2 from by omega, show (2 * dep n (s / 2) (k / 2) + k % 2) / 2 = dep n (s / 2) (k / 2) from by omega]
    · rw [pc_even _ _ hs] at h
      rw [dep_even _ _ _ hs, ← pop_dep n (s / 2) k h]
      simp only [pc]
      rw [show (2 * dep n (s / 2) k + 0) % 2 = 0 from by omega, show (2 * dep n (s / 2) k + 0) / 2 = dep n (s / 2) k from by omega]
      omega
theorem or_fill : ∀ (n s k : Nat), s < 2 ^ n → dep n s k ||| (2 ^ n - 1 - s) = dep n s k + (2 ^ n - 1 - s)
  | 0, s, k, h => by simp [dep]
  | n + 1, s, k, h => by
    rw [Nat.pow_succ] at h ⊢
    by_cases hs : s % 2 = 1
    · rw [dep_odd _ _ _ hs]
      have ih := or_fill n (s / 2) (k / 2) (by omega)
      have he : s = 2 * (s / 2) + 1 := by omega
      generalize hq : s / 2 = t at *
      rw [he, show 2 ^ n * 2 - 1 - (2 * t + 1) = 2 * (2 ^ n - 1 - t) + 0 from by omega, two_or _ _ _ _ (by omega) (by decide), ih, Nat.or_zero]
      omega
    · rw [dep_even _ _ _ hs]
      have ih := or_fill n (s / 2) k (by omega)
      have he : s = 2 * (s / 2) + 0 := by omega
      generalize hq : s / 2 = t at *
      rw [he, show 2 ^ n * 2 - 1 - (2 * t + 0) = 2 * (2 ^ n - 1 - t) + 1 from by omega, two_or _ _ _ _ (by decide) (by decide), ih, Nat.zero_or]
      omega

/-- The subsets of n items among the first k. -/
def chs (s n k : Nat) : List Nat := ((List.range k).filter fun j => decide (pop j = n)).map (sub s)
theorem chs_hit {s n k : Nat} (h : pop k = n) : chs s n (k + 1) = chs s n k ++ [sub s k] := by
  unfold chs
  rw [List.range_succ, List.filter_append, List.map_append]
  simp [h]
theorem chs_skip {s n k : Nat} : ∀ (d : Nat), (∀ j, k ≤ j → j < k + d → pop j ≠ n) → chs s n (k + d) = chs s n k
  | 0, _ => rfl
  | d + 1, h => by
    have ih := chs_skip (s := s) d (fun j h1 h2 => h j h1 (by omega))
    rw [← ih]
    unfold chs
    rw [show k + (d + 1) = k + d + 1 from rfl, List.range_succ, List.filter_append, List.map_append]
    simp [h (k + d) (by omega) (by omega)]
theorem chs_start (s n : Nat) : chs s n (2 ^ n - 1) = [] := by
  have h := chs_skip (s := s) (n := n) (k := 0) (2 ^ n - 1) (fun j _ h2 => by have := pop_lt n j (by omega); omega)
  rw [Nat.zero_add] at h
  rw [h]; rfl
/-- All subsets of n items. -/
def chooseL (s n : Nat) : List Nat := chs s n (subsN s)
theorem chs_prefix (s n k m : Nat) (h : k ≤ m) : chs s n k <+: chs s n m := by
  obtain ⟨d, rfl⟩ : ∃ d, m = k + d := ⟨m - k, by omega⟩
  unfold chs
  rw [List.range_add, List.filter_append, List.map_append]
  exact List.prefix_append _ _

/-- What set.first tells of subsets. -/
theorem sub_top (s : Nat) : sub s (subsN s) = 0 := by
  unfold sub subsN
  rw [cnt_pc]
  exact dep_top 64 s
theorem first_sub {s a i : Nat} (hs : s < 18446744073709551616) (h : (2 * a + 1) * 2 ^ i < subsN s) : firstN (sub s ((2 * a + 1) * 2 ^ i)) 1 = sub s (2 ^ i) := by
  have hc : (2 * a + 1) * 2 ^ i < 2 ^ pc 64 s := by unfold subsN at h; rwa [cnt_pc] at h
  have h1 := dep_clear 64 s a i hc
  have hx := sub_lt (k := (2 * a + 1) * 2 ^ i) hs
  have h2 : sub s ((2 * a + 1) * 2 ^ i) = sub s (2 * a * 2 ^ i) + sub s (2 ^ i) := by
    have h3 := dep_low 64 s a (i + 1) (2 ^ i) (by rw [Nat.pow_succ]; have := Nat.two_pow_pos i; omega)
    have e : a * 2 ^ (i + 1) = 2 * a * 2 ^ i := by rw [Nat.pow_succ, Nat.mul_comm (2 ^ i) 2, ← Nat.mul_assoc, Nat.mul_comm a 2]
    rw [e] at h3
    unfold sub
    rw [← h3, Nat.add_mul, Nat.one_mul]
  unfold firstN
  show sub s ((2 * a + 1) * 2 ^ i) &&& (18446744073709551615 - (sub s ((2 * a + 1) * 2 ^ i) &&& (sub s ((2 * a + 1) * 2 ^ i) - 1))) = _
  have h4 : sub s ((2 * a + 1) * 2 ^ i) &&& (sub s ((2 * a + 1) * 2 ^ i) - 1) = sub s (2 * a * 2 ^ i) := h1
  have h5 := andnot_sub 64 (sub s ((2 * a + 1) * 2 ^ i)) (sub s (2 * a * 2 ^ i)) hx (by rw [← h4, ← Nat.and_assoc, Nat.and_self])
  rw [h4]
  exact h5.trans (by omega)
theorem first_none : firstN 0 1 = 0 := by decide
theorem rest_sub {s : Nat} (hs : s < 18446744073709551616) : ∀ r, r ≤ cnt s → restN s r = sub s ((2 ^ (cnt s - r) - 1) * 2 ^ r)
  | 0, _ => by
    have hp := subsN_pos s
    have h := (sub_last (k := subsN s - 1) hs (by omega)).2 (by omega)
    show s = _
    rw [Nat.sub_zero, Nat.pow_zero, Nat.mul_one]
    exact h.symm
  | r + 1, h => by
    have ih := rest_sub hs r (by omega)
    obtain ⟨m, hm⟩ : ∃ m, cnt s - (r + 1) = m := ⟨_, rfl⟩
    have hm1 : cnt s - r = m + 1 := by omega
    have hp := Nat.two_pow_pos m
    have e1 : 2 ^ (m + 1) - 1 = 2 * (2 ^ m - 1) + 1 := by rw [Nat.pow_succ]; omega
    have hlt : (2 * (2 ^ m - 1) + 1) * 2 ^ r < 2 ^ pc 64 s := by
      rw [← cnt_pc, ← e1, show cnt s = m + 1 + r from by omega, Nat.pow_add 2 (m + 1) r]
      exact Nat.mul_lt_mul_of_pos_right (by rw [Nat.pow_succ]; omega) (Nat.two_pow_pos r)
    show restN s r &&& (restN s r - 1) = _
    rw [ih, hm1, hm, e1]
    refine (dep_clear 64 s (2 ^ m - 1) r hlt).trans ?_
    show sub s (2 * (2 ^ m - 1) * 2 ^ r) = _
    congr 1
    rw [Nat.pow_succ, Nat.mul_comm (2 ^ r) 2, ← Nat.mul_assoc, Nat.mul_comm (2 ^ m - 1) 2]
theorem first_mask {s r : Nat} (hs : s < 18446744073709551616) (hr : r ≤ cnt s) : firstN s r = sub s (2 ^ r - 1) := by
  have h1 := rest_sub hs r hr
  have hp := subsN_pos s
  have hall := (sub_last (k := subsN s - 1) hs (by omega)).2 (by omega)
  have hpr := Nat.two_pow_pos r
  have h3 := dep_low 64 s (2 ^ (cnt s - r) - 1) r (2 ^ r - 1) (by omega)
  have e : (2 ^ (cnt s - r) - 1) * 2 ^ r + (2 ^ r - 1) = subsN s - 1 := by
    unfold subsN
    have e2 : 2 ^ cnt s = 2 ^ (cnt s - r) * 2 ^ r := by rw [← Nat.pow_add]; congr 1; omega
    have hp2 := Nat.two_pow_pos (cnt s - r)
    rw [e2, Nat.sub_mul, Nat.one_mul]
    have : 2 ^ r ≤ 2 ^ (cnt s - r) * 2 ^ r := Nat.le_mul_of_pos_left _ hp2
    omega
  rw [e] at h3
  have h4 : s = sub s ((2 ^ (cnt s - r) - 1) * 2 ^ r) + sub s (2 ^ r - 1) := hall.symm.trans h3
  unfold firstN
  have h5 := andnot_sub 64 s (restN s r) hs (by rw [h1]; exact dep_sub 64 s _)
  rw [show (18446744073709551615 : Nat) = 2 ^ 64 - 1 from rfl, h5, h1]
  omega
/-- The carry runs to the next item. -/
theorem carry_sub {s k m : Nat} (hs : s < 18446744073709551616) : (((sub s k ||| (18446744073709551615 - s)) + sub s m) % 18446744073709551616) &&& s = sub s (k + m) := by
  have h1 := or_fill 64 s k hs
  have h2 := dep_sum 64 s k m 0 hs (by decide)
  rw [show (18446744073709551615 : Nat) = 2 ^ 64 - 1 from rfl]
  unfold sub
  rw [h1]
  exact h2
theorem or_sub {s a t d : Nat} (h : d < 2 ^ t) : sub s (a * 2 ^ t) ||| sub s d = sub s (a * 2 ^ t + d) := dep_orlow 64 s a t d h
theorem cnt_sub {s k : Nat} (h : k < subsN s) : cnt (sub s k) = pop k := by
  rw [cnt_pc]
  exact pop_dep 64 s k (by unfold subsN at h; rwa [cnt_pc] at h)
end Go.Proofs.YtndbpmhdpjlncaaDoor
