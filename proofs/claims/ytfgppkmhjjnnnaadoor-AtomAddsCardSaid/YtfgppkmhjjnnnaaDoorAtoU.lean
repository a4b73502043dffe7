/- The document's normal list, step by step: math. -/
import Derived.Test.YtfgppkmhjjnnnaaDoorAtoN
namespace Go.Proofs.YtfgppkmhjjnnnaaDoor
open Go.RowKit
set_option linter.unusedVariables false

/-- The atom b at place k does not beat the atom a at place i. -/
def fairB (i : Nat) (a : Ent) (k : Nat) (b : Ent) : Bool := decide (k = i) || (!rightA 1099511627776 b || (!withinB b.1 a.1 || (decide (b.2 < a.2) || (decide (b.1 = a.1) && (decide (b.2 = a.2) && decide (i < k))))))
/-- None of the first m beats it. -/
def keepB (zs : List Ent) (i : Nat) (a : Ent) : Nat → Bool
  | 0 => rightA 1099511627776 a
  | m + 1 => keepB zs i a m && (match zs[m]? with | some b => fairB i a m b | none => true)
theorem keepB_next {zs : List Ent} {i : Nat} {a : Ent} {m : Nat} {b : Ent} (h : zs[m]? = some b) : keepB zs i a (m + 1) = (keepB zs i a m && fairB i a m b) := by
  show (keepB zs i a m && (match zs[m]? with | some b => fairB i a m b | none => true)) = _
  rw [h]
theorem keepB_false {zs : List Ent} {i : Nat} {a : Ent} {m : Nat} (h : keepB zs i a m = false) : ∀ n, m ≤ n → keepB zs i a n = false := by
  intro n hn
  induction n with
  | zero => obtain rfl : m = 0 := by omega
            exact h
  | succ n ih =>
    by_cases e : m = n + 1
    · subst e; exact h
    · show (keepB zs i a n && _) = false
      rw [ih (by omega)]; rfl
theorem keepB_iff {zs : List Ent} {i : Nat} {a : Ent} : ∀ m, keepB zs i a m = true ↔ rightA 1099511627776 a = true ∧ ∀ k b, k < m → zs[k]? = some b → fairB i a k b = true
  | 0 => ⟨fun h => ⟨h, fun k b hk => absurd hk (Nat.not_lt_zero _)⟩, fun h => h.1⟩
  | m + 1 => by
    have ih := keepB_iff (zs := zs) (i := i) (a := a) m
    show (keepB zs i a m && (match zs[m]? with | some b => fairB i a m b | none => true)) = true ↔ _
    rw [Bool.and_eq_true, ih]
    constructor
    · rintro ⟨⟨h1, h2⟩, h3⟩
      refine ⟨h1, fun k b hk hb => ?_⟩
      by_cases e : k = m
      · subst e; rw [hb] at h3; exact h3
      · exact h2 k b (by omega) hb
    · rintro ⟨h1, h2⟩
      refine ⟨⟨h1, fun k b hk hb => h2 k b (by omega) hb⟩, ?_⟩
      cases hm : zs[m]? with
      | none => rfl
      | some b => exact h2 m b (by omega) hm
theorem fairB_iff {i : Nat} {a : Ent} {k : Nat} {b : Ent} : fairB i a k b = true ↔ (k ≠ i → rightA 1099511627776 b = true → withinB b.1 a.1 = true → a.2 ≤ b.2 → b = a ∧ i < k) := by
  unfold fairB
  constructor
  · intro h h1 h2 h3 h4
    rw [h2, h3] at h
    simp only [Bool.or_eq_true, Bool.and_eq_true, decide_eq_true_eq, Bool.not_true] at h
    rcases h with h | h | h | h | h
    · exact absurd h h1
    · cases h
    · cases h
    · omega
    · exact ⟨Prod.ext h.1 h.2.1, h.2.2⟩
  · intro h
    by_cases h1 : k = i
    · simp [h1]
    · cases h2 : rightA 1099511627776 b with
      | false => simp
      | true =>
        cases h3 : withinB b.1 a.1 with
        | false => simp
        | true =>
          by_cases h4 : a.2 ≤ b.2
          · obtain ⟨h5, h6⟩ := h h1 h2 h3 h4
            subst h5
            simp [h6]
          · have : b.2 < a.2 := by omega
            simp [this]
theorem keepB_kept {zs : List Ent} {i : Nat} {a : Ent} : keepB zs i a zs.length = true ↔ Kept withinB 1099511627776 zs i a := by
  rw [keepB_iff]
  unfold Kept
  constructor
  · rintro ⟨h1, h2⟩
    refine ⟨h1, fun k b hb hk hr hw hl => ?_⟩
    exact fairB_iff.1 (h2 k b (List.getElem?_eq_some_iff.1 hb).1 hb) hk hr hw hl
  · rintro ⟨h1, h2⟩
    exact ⟨h1, fun k b _ hb => fairB_iff.2 (fun hk hr hw hl => h2 k b hb hk hr hw hl)⟩
/-- What the document has of the first m. -/
def refN (zs : List Ent) : Nat → List Ent
  | 0 => []
  | m + 1 => match zs[m]? with | some a => if keepB zs m a zs.length = true then insE ltS a (refN zs m) else refN zs m | none => refN zs m
theorem refN_next {zs : List Ent} {m : Nat} {a : Ent} (h : zs[m]? = some a) : refN zs (m + 1) = if keepB zs m a zs.length = true then insE ltS a (refN zs m) else refN zs m := by
  show (match zs[m]? with | some a => if keepB zs m a zs.length = true then insE ltS a (refN zs m) else refN zs m | none => refN zs m) = _
  rw [h]
theorem refN_mem {zs : List Ent} : ∀ m x, x ∈ refN zs m ↔ ∃ i, i < m ∧ zs[i]? = some x ∧ keepB zs i x zs.length = true
  | 0, x => ⟨fun h => (nomatch h), fun ⟨i, h, _⟩ => absurd h (Nat.not_lt_zero _)⟩
  | m + 1, x => by
    have ih := refN_mem (zs := zs) m x
    cases hm : zs[m]? with
    | none =>
      have e : refN zs (m + 1) = refN zs m := by
        show (match zs[m]? with | some a => if keepB zs m a zs.length = true then insE ltS a (refN zs m) else refN zs m | none => refN zs m) = _
        rw [hm]
      rw [e, ih]
      constructor
      · rintro ⟨i, h1, h2⟩; exact ⟨i, by omega, h2⟩
      · rintro ⟨i, h1, h2⟩
        by_cases e : i = m
        · subst e; rw [hm] at h2; cases h2.1
        · exact ⟨i, by omega, h2⟩
    | some a =>
      rw [refN_next hm]
      by_cases hk : keepB zs m a zs.length = true
      · rw [if_pos hk, mem_insE, ih]
        constructor
        · rintro (rfl | ⟨i, h1, h2⟩)
          · exact ⟨m, by omega, hm, hk⟩
          · exact ⟨i, by omega, h2⟩
        · rintro ⟨i, h1, h2⟩
          by_cases e : i = m
          · subst e; rw [hm] at h2; exact .inl (Option.some.inj h2.1).symm
          · exact .inr ⟨i, by omega, h2⟩
      · rw [if_neg hk, ih]
        constructor
        · rintro ⟨i, h1, h2⟩; exact ⟨i, by omega, h2⟩
        · rintro ⟨i, h1, h2⟩
          by_cases e : i = m
          · subst e; rw [hm] at h2; obtain ⟨e1, e2⟩ := h2; cases e1; exact absurd e2 hk
          · exact ⟨i, by omega, h2⟩
theorem kept_ne {zs : List Ent} {i j : Nat} {a b : Ent} (ha : zs[i]? = some a) (hb : zs[j]? = some b) (hij : i ≠ j) (h : Kept withinB 1099511627776 zs i a) (h' : Kept withinB 1099511627776 zs j b) : a.1 ≠ b.1 := by
  intro e
  have w1 : withinB b.1 a.1 = true := by rw [e]; exact sOrd.refl _
  have w2 : withinB a.1 b.1 = true := by rw [e]; exact sOrd.refl _
  rcases Int.le_total a.2 b.2 with hl | hl
  · obtain ⟨e1, h1⟩ := h.2 j b hb (Ne.symm hij) h'.1 w1 hl
    obtain ⟨_, h2⟩ := h'.2 i a ha hij h.1 w2 (by rw [e1]; exact Int.le_refl _)
    omega
  · obtain ⟨e1, h1⟩ := h'.2 i a ha hij h.1 w2 hl
    obtain ⟨_, h2⟩ := h.2 j b hb (Ne.symm hij) h'.1 w1 (by rw [e1]; exact Int.le_refl _)
    omega
theorem refN_inc {zs : List Ent} : ∀ m, (refN zs m).Pairwise fun x y => ltS x.1 y.1 = true
  | 0 => List.Pairwise.nil
  | m + 1 => by
    have ih := refN_inc (zs := zs) m
    cases hm : zs[m]? with
    | none =>
      have e : refN zs (m + 1) = refN zs m := by
        show (match zs[m]? with | some a => if keepB zs m a zs.length = true then insE ltS a (refN zs m) else refN zs m | none => refN zs m) = _
        rw [hm]
      rw [e]; exact ih
    | some a =>
      rw [refN_next hm]
      split
      · rename_i hk
        refine ins_inc sOrd ih (fun x hx => ?_)
        obtain ⟨i, h1, h2, h3⟩ := (refN_mem m x).1 hx
        exact kept_ne h2 hm (by omega) (keepB_kept.1 h3) (keepB_kept.1 hk)
      · exact ih
theorem insE_len (e : Ent) : ∀ es : List Ent, (insE ltS e es).length = es.length + 1
  | [] => rfl
  | x :: r => by
    unfold insE
    split
    · simp
    · simp [insE_len e r]
theorem refN_len {zs : List Ent} : ∀ m, (refN zs m).length ≤ m
  | 0 => Nat.le_refl _
  | m + 1 => by
    have ih := refN_len (zs := zs) m
    cases hm : zs[m]? with
    | none =>
      have e : refN zs (m + 1) = refN zs m := by
        show (match zs[m]? with | some a => if keepB zs m a zs.length = true then insE ltS a (refN zs m) else refN zs m | none => refN zs m) = _
        rw [hm]
      rw [e]; omega
    | some a =>
      rw [refN_next hm]
      split
      · rw [insE_len]; omega
      · omega
theorem refN_nrm {zs : List Ent} (hok : ∀ x ∈ zs, okS x.1) : IsNrm zs (refN zs zs.length) :=
  isNrm_kept hok (refN_inc _) (fun x => by
    rw [refN_mem]
    constructor
    · rintro ⟨i, _, h2, h3⟩; exact ⟨i, h2, keepB_kept.1 h3⟩
    · rintro ⟨i, h2, h3⟩; exact ⟨i, (List.getElem?_eq_some_iff.1 h2).1, h2, keepB_kept.2 h3⟩)
end Go.Proofs.YtfgppkmhjjnnnaaDoor
