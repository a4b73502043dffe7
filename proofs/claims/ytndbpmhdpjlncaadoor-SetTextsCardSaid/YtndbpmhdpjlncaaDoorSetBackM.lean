/- Plain facts of texts of sets: what is told is read as the same set, and what is read is told as the same text. No program is spoken of. -/
import Derived.Test.YtndbpmhdpjlncaaDoorRead
namespace Go.Proofs.YtndbpmhdpjlncaaDoor

def textL (s : Nat) : List UInt8 := [123] ++ Lib.join ((items s).map Lib.decDigits) [44] ++ [125]
def decW (i : Nat) : List UInt8 := if i < 10 then [UInt8.ofNat (48 + i)] else [UInt8.ofNat (48 + i / 10), UInt8.ofNat (48 + i % 10)]
theorem dec_eq {i : Nat} (h : i < 64) : Lib.decDigits i = decW i := by
  unfold decW
  split
  · unfold Lib.decDigits; rw [dif_pos (by assumption)]
  · unfold Lib.decDigits
    rw [dif_neg (by assumption)]
    unfold Lib.decDigits
    rw [dif_pos (by omega)]
    rfl
theorem word_atoi : ∀ i : Fin 64, Lib.atoiAll (decW i) = .ok (i : Nat) := by decide +kernel
theorem word_no : ∀ i : Fin 64, (decW i).contains 44 = false := by decide +kernel
theorem dec_ne (i : Nat) (h : i < 64) : Lib.decDigits i ≠ [] := by
  rw [dec_eq h]; unfold decW; split <;> simp
theorem dec_no (i : Nat) (h : i < 64) : ∀ c ∈ Lib.decDigits i, c ≠ 44 := by
  rintro c hc rfl
  have := word_no ⟨i, h⟩
  rw [dec_eq h] at hc
  rw [List.contains_eq_mem, decide_eq_false_iff_not] at this
  exact this hc
theorem readL_dec (i : Nat) (h : i < 64) : readL (Lib.decDigits i) = some i := by
  have e := word_atoi ⟨i, h⟩
  have e2 : Lib.atoiAll (Lib.decDigits i) = .ok (i : Int) := by rw [dec_eq h]; exact e
  unfold readL
  rw [e2]
  simp only [Int.toNat_natCast]
  rw [if_pos ⟨itemB_mk (by omega), trivial⟩]
theorem readL_dig {l : List UInt8} {i : Nat} (h : readL l = some i) : Lib.decDigits i = l := by
  unfold readL at h
  split at h
  · split at h
    · rename_i hh
      cases h; exact hh.2
    · cases h
  · cases h

theorem join_two (x y : List UInt8) (ys : List (List UInt8)) : Lib.join (x :: y :: ys) [44] = x ++ 44 :: Lib.join (y :: ys) [44] := by simp [Lib.join, List.intercalate]
theorem splitC_join (xs : List (List UInt8)) (hne : xs ≠ []) (h : ∀ x ∈ xs, ∀ c ∈ x, c ≠ 44) : splitC (Lib.join xs [44]) = xs := by
  induction xs with
  | nil => exact absurd rfl hne
  | cons x xs ih =>
    cases xs with
    | nil => rw [Lib.join_one]; exact splitC_none x (h x (by simp))
    | cons y ys =>
      rw [join_two, splitC_at _ _ (h x (by simp)), ih (by simp) (fun z hz => h z (by simp [hz]))]
theorem join_splitC (l : List UInt8) : Lib.join (splitC l) [44] = l := by
  induction l with
  | nil => simp [splitC, Lib.join_one]
  | cons c r ih =>
    simp only [splitC]
    split
    · rename_i hc
      subst hc
      cases h0 : splitC r with
      | nil => exact absurd h0 (splitC_ne r)
      | cons y ys => rw [join_two, ← h0, ih]; rfl
    · split
      · rename_i h0; exact absurd h0 (splitC_ne r)
      · rename_i y ys h0
        rw [h0] at ih
        cases ys with
        | nil => rw [Lib.join_one] at ih ⊢; rw [ih]
        | cons z zs => rw [join_two] at ih ⊢; rw [List.cons_append, ih]

theorem mod_bit {s n : Nat} (h : s.testBit n = true) : s % 2 ^ n ||| 2 ^ n = s % 2 ^ (n + 1) := by
  apply Nat.eq_of_testBit_eq; intro i
  rw [Nat.testBit_or, Nat.testBit_two_pow, Nat.testBit_mod_two_pow, Nat.testBit_mod_two_pow]
  rcases Nat.lt_trichotomy i n with h1 | h1 | h1
  · simp [h1, show i < n + 1 by omega, show ¬ n = i by omega]
  · subst h1; simp [h]
  · simp [show ¬ i < n by omega, show ¬ i < n + 1 by omega, show ¬ n = i by omega]
theorem mod_nobit {s n : Nat} (h : s.testBit n = false) : s % 2 ^ n = s % 2 ^ (n + 1) := by
  apply Nat.eq_of_testBit_eq; intro i
  rw [Nat.testBit_mod_two_pow, Nat.testBit_mod_two_pow]
  rcases Nat.lt_trichotomy i n with h1 | h1 | h1
  · simp [h1, show i < n + 1 by omega]
  · subst h1; simp [h]
  · simp [show ¬ i < n by omega, show ¬ i < n + 1 by omega]
theorem rdAll_to (s n : Nat) (hn : n ≤ 64) : rdAll (((List.range n).filter fun i => s.testBit i).map Lib.decDigits) = some (s % 2 ^ n) := by
  induction n with
  | zero => simp [rdAll, Nat.mod_one]
  | succ n ih =>
    have ih := ih (by omega)
    rw [List.range_succ, List.filter_append, List.map_append]
    cases h : s.testBit n with
    | true =>
      rw [show ([n].filter fun i => s.testBit i) = [n] from by simp [h]]
      rw [List.map_cons, List.map_nil, rdAll_snoc, ih]
      unfold rdStep
      rw [Option.bind_some, readL_dec n (by omega), Option.bind_some, if_pos (Nat.div_eq_of_lt (Nat.mod_lt _ (Nat.two_pow_pos n))), mod_bit h]
    | false =>
      rw [show ([n].filter fun i => s.testBit i) = [] from by simp [h]]
      rw [List.map_nil, List.append_nil, ih, mod_nobit h]
theorem rdAll_items {s : Nat} (hs : s < 18446744073709551616) : rdAll ((items s).map Lib.decDigits) = some s := by
  have := rdAll_to s 64 (Nat.le_refl _)
  rw [Nat.mod_eq_of_lt (show s < 2 ^ 64 from hs)] at this
  exact this
theorem ofN_to (s n : Nat) (hn : n ≤ 64) : ofN (((List.range n).filter fun i => s.testBit i).map (fun x : Nat => (x : Int))) = s % 2 ^ n := by
  induction n with
  | zero => simp [ofN, Nat.mod_one]
  | succ n ih =>
    have ih := ih (by omega)
    unfold ofN at ih ⊢
    rw [List.range_succ, List.filter_append, List.map_append, List.foldl_append, ih]
    cases h : s.testBit n with
    | true =>
      rw [show ([n].filter fun i => s.testBit i) = [n] from by simp [h]]
      simp only [List.map_cons, List.map_nil, List.foldl_cons, List.foldl_nil]
      unfold ofStep
      rw [if_pos (itemB_mk (by omega)), Int.toNat_natCast, mod_bit h]
    | false =>
      rw [show ([n].filter fun i => s.testBit i) = [] from by simp [h]]
      simp only [List.map_nil, List.foldl_nil]
      exact mod_nobit h
theorem ofN_items {s : Nat} (hs : s < 18446744073709551616) : ofN ((items s).map (fun x : Nat => (x : Int))) = s := by
  have := ofN_to s 64 (Nat.le_refl _)
  rw [Nat.mod_eq_of_lt (show s < 2 ^ 64 from hs)] at this
  exact this

theorem pre_cons (r : List UInt8) : Lib.hasPrefix (123 :: r) [123] = true := by simp [Lib.hasPrefix, List.isPrefixOf]
theorem suf_snoc (r : List UInt8) : Lib.hasSuffix (r ++ [125]) [125] = true := by
  unfold Lib.hasSuffix
  exact List.isSuffixOf_iff_suffix.2 (List.suffix_append r [125])
theorem inner1_cons (r : List UInt8) : inner1 (123 :: r) = r := by
  unfold inner1 Lib.trimPrefix
  rw [if_pos (pre_cons r)]; rfl
theorem inner2_of {l r : List UInt8} (h : inner1 l = r ++ [125]) : inner2 l = r := by
  unfold inner2 Lib.trimSuffix
  rw [h, if_pos (suf_snoc r)]
  simp
theorem readS_text {s : Nat} (hs : s < 18446744073709551616) : readS (textL s) = some s := by
  have e1 : textL s = 123 :: (Lib.join ((items s).map Lib.decDigits) [44] ++ [125]) := by simp [textL]
  have hr := rdAll_items hs
  rw [e1]
  unfold readS
  rw [inner1_cons, inner2_of (inner1_cons _), if_pos ⟨pre_cons _, suf_snoc _⟩]
  by_cases h0 : items s = []
  · rw [h0] at hr ⊢
    simp only [List.map_nil, Lib.join_nil, if_true]
    simpa [rdAll] using hr
  · have hsp := splitC_join ((items s).map Lib.decDigits) (by simpa using h0) (fun x hx => by
      obtain ⟨i, hi, rfl⟩ := List.mem_map.1 hx
      exact dec_no i (items_lt hi))
    rw [if_neg, hsp, hr]
    intro hj
    rw [hj] at hsp
    cases hi : items s with
    | nil => exact h0 hi
    | cons i is =>
      rw [hi] at hsp
      simp only [splitC, List.map_cons, List.cons.injEq] at hsp
      exact dec_ne i (items_lt (by rw [hi]; simp)) hsp.1.symm

theorem items_or {g i : Nat} (hg : g < 2 ^ i) (hi : i < 64) : items (g ||| 2 ^ i) = items g ++ [i] := by
  obtain ⟨m, hd⟩ : ∃ m, 64 = i + 1 + m := ⟨63 - i, by omega⟩
  unfold items
  rw [hd, List.range_add, List.range_succ, List.filter_append, List.filter_append, List.filter_append, List.filter_append]
  have b1 : ∀ j, (g ||| 2 ^ i).testBit j = (g.testBit j || decide (i = j)) := fun j => by rw [Nat.testBit_or, Nat.testBit_two_pow]
  have b2 : ∀ j, i ≤ j → g.testBit j = false := fun j hj => Nat.testBit_lt_two_pow (Nat.lt_of_lt_of_le hg (Nat.pow_le_pow_right (by decide) hj))
  have z1 : (List.range i).filter (fun j => (g ||| 2 ^ i).testBit j) = (List.range i).filter (fun j => g.testBit j) := by
    apply List.filter_congr
    intro j hj
    have := List.mem_range.1 hj
    rw [b1]; simp [show ¬ i = j by omega]
  have z2 : ((List.range m).map (i + 1 + ·)).filter (fun j => (g ||| 2 ^ i).testBit j) = [] := by
    rw [List.filter_eq_nil_iff]; intro j hj
    obtain ⟨k, hk, rfl⟩ := List.mem_map.1 hj
    rw [b1, b2 _ (by omega)]; simp; omega
  have z3 : ((List.range m).map (i + 1 + ·)).filter (fun j => g.testBit j) = [] := by
    rw [List.filter_eq_nil_iff]; intro j hj
    obtain ⟨k, hk, rfl⟩ := List.mem_map.1 hj
    rw [b2 _ (by omega)]; simp
  rw [z1, z2, z3]
  have y1 : ([i].filter fun j => (g ||| 2 ^ i).testBit j) = [i] := by simp [b1]
  have y2 : ([i].filter fun j => g.testBit j) = [] := by simp [b2 i (Nat.le_refl _)]
  rw [y1, y2]
  simp
theorem rd_back (ls pre : List (List UInt8)) (g c : Nat) (hp : pre = (items g).map Lib.decDigits) (hg : g < 18446744073709551616) (h : ls.foldl rdStep (some g) = some c) :
    pre ++ ls = (items c).map Lib.decDigits ∧ c < 18446744073709551616 := by
  induction ls generalizing pre g with
  | nil => cases h; exact ⟨by rw [List.append_nil, hp], hg⟩
  | cons l ls ih =>
    rw [List.foldl_cons] at h
    cases hl : readL l with
    | none =>
      rw [show rdStep (some g) l = none from by simp [rdStep, hl]] at h
      rw [show ls.foldl rdStep none = none from by clear ih h; induction ls with | nil => rfl | cons x r ih => exact ih] at h
      cases h
    | some i =>
      have hi := readL_lt hl
      by_cases hz : g / 2 ^ i = 0
      · have hlt : g < 2 ^ i := by
          rcases Nat.lt_or_ge g (2 ^ i) with h1 | h1
          · exact h1
          · have := Nat.div_pos h1 (Nat.two_pow_pos i); omega
        rw [show rdStep (some g) l = some (g ||| 2 ^ i) from by unfold rdStep; rw [Option.bind_some, hl, Option.bind_some, if_pos hz]] at h
        have := ih (pre ++ [l]) (g ||| 2 ^ i) (by rw [items_or hlt hi, List.map_append, hp]; simp [readL_dig hl]) (or_lt hg hi) h
        rw [List.append_assoc] at this
        exact this
      · rw [show rdStep (some g) l = none from by unfold rdStep; rw [Option.bind_some, hl, Option.bind_some, if_neg hz]] at h
        rw [show ls.foldl rdStep none = none from by clear ih h; induction ls with | nil => rfl | cons x r ih => exact ih] at h
        cases h
theorem text_read {l : List UInt8} {c : Nat} (h : readS l = some c) : textL c = l ∧ c < 18446744073709551616 := by
  unfold readS at h
  split at h
  · rename_i hh
    obtain ⟨h1, h2⟩ := hh
    have e1 : l = 123 :: inner1 l := by
      unfold inner1 Lib.trimPrefix
      rw [if_pos h1]
      unfold Lib.hasPrefix at h1
      obtain ⟨r, rfl⟩ := List.isPrefixOf_iff_prefix.1 h1
      simp
    have e2 : inner1 l = inner2 l ++ [125] := by
      unfold Lib.hasSuffix at h2
      obtain ⟨r, hr⟩ := List.isSuffixOf_iff_suffix.1 h2
      rw [inner2_of hr.symm, hr]
    have key : ∀ c, Lib.join ((items c).map Lib.decDigits) [44] = inner2 l → textL c = l := by
      intro c hc
      unfold textL
      rw [hc, List.append_assoc, ← e2]
      exact e1.symm
    split at h
    · rename_i h0
      cases h
      exact ⟨key 0 (by rw [items_zero, h0]; rfl), by decide⟩
    · have := rd_back (splitC (inner2 l)) [] 0 c (by rw [items_zero]; rfl) (by decide) h
      refine ⟨key c ?_, this.2⟩
      rw [← this.1, List.nil_append, join_splitC]
  · cases h

end Go.Proofs.YtndbpmhdpjlncaaDoor
