/- Plain numbers: one step of set.Choose; the pairs of sets and the subsets of so many items as they are among all subsets. No program is spoken of. -/
import Derived.Test.YtndbpmhdpjlncaaDoorSplN
namespace Go.Proofs.YtndbpmhdpjlncaaDoor
set_option linter.unusedVariables false

theorem mul_pow_le {x t c : Nat} (h0 : 0 < x) (h : x * 2 ^ t < 2 ^ c) : x * 2 ^ t + 2 ^ t ≤ 2 ^ c := by
  have h1 : 2 ^ t ≤ x * 2 ^ t := Nat.le_mul_of_pos_left _ h0
  have ht : t < c := (Nat.pow_lt_pow_iff_right (by decide : 1 < 2)).1 (Nat.lt_of_le_of_lt h1 h)
  obtain ⟨d, rfl⟩ : ∃ d, c = d + t := ⟨c - t, by omega⟩
  rw [Nat.pow_add] at h ⊢
  have hx : x < 2 ^ d := Nat.lt_of_mul_lt_mul_right h
  have h2 : (x + 1) * 2 ^ t ≤ 2 ^ d * 2 ^ t := Nat.mul_le_mul_right _ hx
  rw [Nat.add_mul, Nat.one_mul] at h2
  exact h2
theorem chs_skip2 {s n j k : Nat} (h : j ≤ k) (hg : ∀ i, j ≤ i → i < k → pop i ≠ n) : chs s n k = chs s n j := by
  obtain ⟨d, rfl⟩ : ∃ d, k = j + d := ⟨k - j, by omega⟩
  exact chs_skip d hg
/-- What is carried behind a subset. -/
def carN (s x : Nat) : Nat := (((x ||| (18446744073709551615 - s)) + firstN x 1) % 18446744073709551616) &&& s
theorem choose_step {s n k : Nat} (hs : s < 18446744073709551616) (hk : k < subsN s) (hp : pop k = n) (hn : n ≤ cnt s) :
    (carN s (sub s k) = 0 ∧ chooseL s n = chs s n (k + 1)) ∨
    (0 < carN s (sub s k) ∧ ∃ e k', e ≤ n ∧ cnt (carN s (sub s k)) + e = n ∧ carN s (sub s k) ||| firstN s e = sub s k' ∧ k < k' ∧ k' < subsN s ∧ pop k' = n ∧ chs s n k' = chs s n (k + 1)) := by
  have hc64 : subsN s = 2 ^ pc 64 s := by unfold subsN; rw [cnt_pc]
  rcases Nat.eq_zero_or_pos k with rfl | hk0
  · left
    rw [pop_zero] at hp
    subst hp
    have h1 : firstN (sub s 0) 1 = sub s 0 := by rw [sub_zero]; decide
    have h2 := carry_sub (k := 0) (m := 0) hs
    refine ⟨?_, ?_⟩
    · unfold carN; rw [h1]; exact h2.trans (sub_zero s)
    · unfold chooseL
      exact chs_skip2 (by omega) (fun i h1 _ => by have := pop_pos i (by omega); omega)
  · obtain ⟨a, i, hk1⟩ := odd_part k hk0
    obtain ⟨b, e, hK, hpp⟩ := gos_carry a i
    obtain ⟨t, ht⟩ : ∃ t, i + 1 + e = t := ⟨_, rfl⟩
    rw [ht] at hK hpp
    have h1 : firstN (sub s k) 1 = sub s (2 ^ i) := by rw [hk1]; exact first_sub hs (by rw [← hk1]; exact hk)
    have h2 := carry_sub (k := k) (m := 2 ^ i) hs
    have hcar : carN s (sub s k) = sub s ((2 * b + 1) * 2 ^ t) := by
      unfold carN; rw [h1, h2]; congr 1; rw [hk1]; exact hK
    have hle : (2 * b + 1) * 2 ^ t ≤ subsN s := by
      rw [← hK]; unfold subsN at hk ⊢; rw [hk1] at hk; exact mul_pow_le (by omega) hk
    have hpi := Nat.two_pow_pos i
    have gap1 : ∀ j, k + 1 ≤ j → j < (2 * b + 1) * 2 ^ t → pop j ≠ n := fun j j1 j2 => by
      rw [← hp, hk1]; exact gos_gap1 (by omega) (by omega)
    rcases Nat.lt_or_ge ((2 * b + 1) * 2 ^ t) (subsN s) with hlt | hge
    · right
      have hpe := Nat.two_pow_pos e
      have het : e ≤ t := by omega
      have hpet := Nat.pow_le_pow_right (show 0 < 2 by decide) het
      have hpK : pop ((2 * b + 1) * 2 ^ t) + e = n := by rw [← hp, hk1]; exact hpp.symm
      have hin : (2 * b + 1) * 2 ^ t + 2 ^ t ≤ subsN s := by
        unfold subsN at hlt ⊢; exact mul_pow_le (by omega) hlt
      have hpos : 0 < (2 * b + 1) * 2 ^ t := by rw [← hK]; omega
      refine ⟨by rw [hcar]; exact dep_pos 64 s _ hpos (by rw [← hc64]; exact hlt), e, (2 * b + 1) * 2 ^ t + (2 ^ e - 1), by omega, ?_, ?_, by omega, by omega, by rw [gos_next het]; exact hpK, ?_⟩
      · rw [hcar, cnt_sub hlt]; exact hpK
      · rw [hcar, first_mask hs (by omega)]; exact or_sub (by omega)
      · exact chs_skip2 (by omega) (fun j j1 j2 => by
          rcases Nat.lt_or_ge j ((2 * b + 1) * 2 ^ t) with h | h
          · exact gap1 j j1 h
          · have := gos_gap2 het h j2; omega)
    · left
      have he : (2 * b + 1) * 2 ^ t = subsN s := by omega
      refine ⟨by rw [hcar, he]; exact sub_top s, ?_⟩
      unfold chooseL
      rw [← he]
      exact chs_skip2 (by omega) gap1
theorem chs_first {s n : Nat} (hn : n ≤ cnt s) : 2 ^ n - 1 < subsN s ∧ pop (2 ^ n - 1) = n := by
  have h := Nat.pow_le_pow_right (show 0 < 2 by decide) hn
  have := Nat.two_pow_pos n
  exact ⟨by unfold subsN; omega, pop_mask n⟩
/-- Subsets of so many items, for whatever count. -/
def chooseI (s : Nat) (n : Int) : List Nat := (subs s).filter fun x => decide ((cnt x : Int) = n)
theorem chooseI_eq {s n : Nat} : chooseI s n = chooseL s n := by
  unfold chooseI chooseL chs subs
  rw [List.filter_map]
  congr 1
  apply List.filter_congr
  intro k hk
  have hk := List.mem_range.1 hk
  show decide ((cnt (sub s k) : Int) = n) = decide (pop k = n)
  rw [cnt_sub hk]
  exact decide_eq_decide.2 (by omega)
theorem pc_le : ∀ (n s t : Nat), s &&& t = t → pc n t ≤ pc n s
  | 0, _, _, _ => Nat.le_refl _
  | n + 1, s, t, h => by
    have e1 : s = 2 * (s / 2) + s % 2 := by omega
    have e2 : t = 2 * (t / 2) + t % 2 := by omega
    rw [e1, e2, two_and _ _ _ _ (by omega) (by omega)] at h
    have h3 : s % 2 &&& t % 2 < 2 := Nat.lt_of_le_of_lt Nat.and_le_left (by omega)
    have ih := pc_le n (s / 2) (t / 2) (by omega)
    have h4 : t % 2 ≤ s % 2 := by
      have : s % 2 &&& t % 2 = t % 2 := by omega
      rw [← this]; exact Nat.and_le_left
    simp only [pc]
    omega
theorem chooseI_none {s : Nat} {n : Int} (h : n < 0 ∨ (cnt s : Int) < n) : chooseI s n = [] := by
  unfold chooseI
  rw [List.filter_eq_nil_iff]
  intro x hx
  obtain ⟨k, hk, rfl⟩ := List.mem_map.1 hx
  have h1 : cnt (sub s k) ≤ cnt s := by
    rw [cnt_pc, cnt_pc]; exact pc_le 64 s _ (dep_sub 64 s k)
  simp
  omega

/-- A set less its least item. -/
def restS (s : Nat) : Nat := s &&& (s - 1)
def splP (s y : Nat) : Nat × Nat := (y ||| sub s 1, s &&& (18446744073709551615 - (y ||| sub s 1)))
/-- All pairs of sets that are a set together, the first one with the least item. -/
def splitsL (s : Nat) : List (Nat × Nat) := if s = 0 then [] else (subs (restS s)).map (splP s)
theorem cnt_pos {s : Nat} (hs : s < 18446744073709551616) (h : 0 < s) : 1 ≤ cnt s := by
  rcases Nat.eq_zero_or_pos (cnt s) with h0 | h0
  · have h1 := (sub_last (k := 0) hs (subsN_pos s)).2 (by unfold subsN; rw [h0])
    rw [sub_zero] at h1; omega
  · exact h0
theorem rest_low {s : Nat} (hs : s < 18446744073709551616) (h : 0 < s) : s &&& (18446744073709551615 - sub s 1) = restS s := by
  have hc := cnt_pos hs h
  obtain ⟨m, hm⟩ : ∃ m, cnt s = m + 1 := ⟨cnt s - 1, by omega⟩
  have hp := Nat.two_pow_pos m
  have e1 : subsN s = 2 ^ m * 2 := by unfold subsN; rw [hm, Nat.pow_succ]
  have hall := (sub_last (k := subsN s - 1) hs (by omega)).2 (by omega)
  have hk : subsN s - 1 = (2 * (2 ^ m - 1) + 1) * 2 ^ 0 := by rw [Nat.pow_zero, Nat.mul_one]; omega
  have hlt : (2 * (2 ^ m - 1) + 1) * 2 ^ 0 < 2 ^ pc 64 s := by rw [← cnt_pc, ← hk]; show subsN s - 1 < subsN s; omega
  have h1 := dep_clear 64 s (2 ^ m - 1) 0 hlt
  rw [← hk] at h1
  have h2 := dep_low 64 s (2 ^ m - 1) 1 1 (by decide)
  have h3 : restS s = sub s (2 * (2 ^ m - 1) * 2 ^ 0) := by
    refine Eq.trans ?_ h1
    show s &&& (s - 1) = sub s (subsN s - 1) &&& (sub s (subsN s - 1) - 1)
    rw [hall]
  have h4 : s = sub s (2 * (2 ^ m - 1)) + sub s 1 := by
    rw [show (2 ^ m - 1) * 2 ^ 1 = 2 * (2 ^ m - 1) from by rw [Nat.pow_one, Nat.mul_comm], show 2 * (2 ^ m - 1) + 1 = subsN s - 1 from by omega] at h2
    exact hall.symm.trans h2
  have h5 := andnot_sub 64 s (sub s 1) hs (dep_sub 64 s 1)
  rw [show (18446744073709551615 : Nat) = 2 ^ 64 - 1 from rfl, h5, h3, Nat.pow_zero, Nat.mul_one]
  omega
theorem restS_lt {s : Nat} (hs : s < 18446744073709551616) : restS s < 18446744073709551616 := Nat.lt_of_le_of_lt Nat.and_le_left hs
theorem odds_filter : ∀ m, (List.range (2 * m)).filter (fun k => decide (k % 2 = 1)) = (List.range m).map fun j => 2 * j + 1
  | 0 => rfl
  | m + 1 => by
    rw [show 2 * (m + 1) = 2 * m + 1 + 1 from by omega, List.range_succ, List.range_succ, List.filter_append, List.filter_append, odds_filter m, List.range_succ, List.map_append]
    simp
/-- The first sets of the pairs are the subsets that have the least item. -/
theorem splits_fst {s : Nat} (hs : s < 18446744073709551616) (h0 : 0 < s) : (subs s).filter (fun x => decide (x &&& sub s 1 ≠ 0)) = (splitsL s).map Prod.fst := by
  have hc := cnt_pos hs h0
  obtain ⟨m, hm⟩ : ∃ m, cnt s = m + 1 := ⟨cnt s - 1, by omega⟩
  have hpc : pc 64 s = m + 1 := by rw [← cnt_pc]; exact hm
  have hr := fun j => dep_rest 64 s j h0 hs
  have hrc : cnt (restS s) = m := by
    have := (hr 0).2
    rw [cnt_pc]; unfold restS; omega
  have e1 : subsN s = 2 * 2 ^ m := by unfold subsN; rw [hm, Nat.pow_succ]; omega
  have e2 : subsN (restS s) = 2 ^ m := by unfold subsN; rw [hrc]
  have hpm := Nat.two_pow_pos m
  unfold splitsL
  rw [if_neg (by omega)]
  unfold subs
  rw [List.filter_map, e1, e2, List.map_map, List.map_map]
  have e3 : (List.range (2 * 2 ^ m)).filter ((fun x => decide (x &&& sub s 1 ≠ 0)) ∘ sub s) = (List.range (2 * 2 ^ m)).filter (fun k => decide (k % 2 = 1)) := by
    apply List.filter_congr
    intro k hk
    show decide (sub s k &&& sub s 1 ≠ 0) = decide (k % 2 = 1)
    have h1 : sub s k &&& sub s 1 = sub s (k % 2) := dep_has 64 s k (by omega)
    rw [h1]
    apply decide_eq_decide.2
    constructor
    · intro h
      rcases (show k % 2 = 0 ∨ k % 2 = 1 by omega) with h2 | h2
      · rw [h2, sub_zero] at h; exact absurd rfl h
      · exact h2
    · intro h
      rw [h]
      have := dep_pos 64 s 1 (by decide) (by rw [hpc, Nat.pow_succ]; omega)
      unfold sub; omega
  rw [e3, odds_filter, List.map_map]
  apply List.map_congr_left
  intro j hj
  show sub s (2 * j + 1) = (splP s (sub (restS s) j)).1
  have h1 : sub (restS s) j = sub s (2 * j) := (hr j).1
  show sub s (2 * j + 1) = sub (restS s) j ||| sub s 1
  rw [h1]
  have h2 := or_sub (s := s) (a := j) (t := 1) (d := 1) (by decide)
  rw [Nat.pow_one, Nat.mul_comm j 2] at h2
  exact h2.symm
theorem low_sub {s : Nat} (hs : s < 18446744073709551616) : s &&& ((18446744073709551616 - s) % 18446744073709551616) = sub s 1 := by
  rcases Nat.eq_zero_or_pos s with rfl | h
  · simp [sub, dep_s0]
  · rw [Nat.mod_eq_of_lt (by omega)]
    exact low_bit 64 s hs
where
  dep_s0 : ∀ {n k : Nat}, dep n 0 k = 0 := by
    intro n k
    have := dep_le n 0 k
    omega
/-- The two sets of a pair have nothing in common, and are the set together. -/
theorem splP_apart {s y : Nat} (hs : s < 18446744073709551616) (hy : (y ||| sub s 1) &&& s = y ||| sub s 1) : (splP s y).1 &&& (splP s y).2 = 0 ∧ (splP s y).1 ||| (splP s y).2 = s := by
  show (y ||| sub s 1) &&& (s &&& (18446744073709551615 - (y ||| sub s 1))) = 0 ∧ (y ||| sub s 1) ||| (s &&& (18446744073709551615 - (y ||| sub s 1))) = s
  generalize y ||| sub s 1 = x at *
  have hx : x < 2 ^ 64 := by rw [← hy]; exact Nat.lt_of_le_of_lt Nat.and_le_right hs
  have tb : ∀ i, (18446744073709551615 - x).testBit i = (decide (i < 64) && !x.testBit i) := fun i => by
    rw [show (18446744073709551615 : Nat) - x = 2 ^ 64 - (x + 1) from by omega]
    exact Nat.testBit_two_pow_sub_succ hx i
  have sb : ∀ i, x.testBit i = true → s.testBit i = true := fun i h => by
    have h2 : (x &&& s).testBit i = x.testBit i := by rw [hy]
    rw [Nat.testBit_and, h] at h2
    simpa using h2
  have lb : ∀ i, s.testBit i = true → i < 64 := fun i h => by
    rcases Nat.lt_or_ge i 64 with h2 | h2
    · exact h2
    · rw [Nat.testBit_lt_two_pow (Nat.lt_of_lt_of_le hs (Nat.pow_le_pow_right (show 0 < 2 by decide) h2 : 2 ^ 64 ≤ 2 ^ i))] at h; cases h
  constructor <;> apply Nat.eq_of_testBit_eq <;> intro i
  · simp only [Nat.testBit_and, tb, Nat.zero_testBit]
    cases x.testBit i <;> simp
  · simp only [Nat.testBit_or, Nat.testBit_and, tb]
    have h1 := sb i
    have h2 := lb i
    cases hx2 : x.testBit i <;> cases hs2 : s.testBit i <;> simp_all
theorem splP_in {s j : Nat} (hs : s < 18446744073709551616) (h0 : 0 < s) : (sub (restS s) j ||| sub s 1) &&& s = sub (restS s) j ||| sub s 1 := by
  have h1 : sub (restS s) j = sub s (2 * j) := (dep_rest 64 s j h0 hs).1
  have h2 := or_sub (s := s) (a := j) (t := 1) (d := 1) (by decide)
  rw [Nat.pow_one, Nat.mul_comm j 2] at h2
  rw [h1, h2, Nat.and_comm]
  exact dep_sub 64 s _
end Go.Proofs.YtndbpmhdpjlncaaDoor
