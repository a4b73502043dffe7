/- The math of a binary heap, on: what is first is taken out; all taken out is in order. No program is spoken of. -/
import Derived.Test.YtpdncgjepfgnjaaHeapM
namespace Go.Proofs.Ytpdncgjepfgnjaa
set_option linter.unusedVariables false

section
variable {α : Type} [Inhabited α] (ah : α → α → Bool)
/-- Of a place and the two that it leads the one whose thing stands first. -/
def downOne (l : List α) (k : Nat) : Nat := if 2 * k + 1 < l.length ∧ ah (at' l (2 * k + 1)) (at' l k) = true then 2 * k + 1 else k
def downAt (l : List α) (k : Nat) : Nat := if 2 * k + 2 < l.length ∧ ah (at' l (2 * k + 2)) (at' l (downOne ah l k)) = true then 2 * k + 2 else downOne ah l k
variable {ah}
theorem down_lt {l : List α} {k : Nat} (h : downAt ah l k ≠ k) : k < downAt ah l k ∧ downAt ah l k < l.length := by
  unfold downAt at h ⊢
  split at h
  · rename_i h1; rw [if_pos h1]; exact ⟨by omega, h1.1⟩
  · rename_i h1
    rw [if_neg h1]
    unfold downOne at h ⊢
    split at h
    · rename_i h2; rw [if_pos h2]; exact ⟨by omega, h2.1⟩
    · exact absurd rfl h
theorem down_spec (s : Sound ah) (l : List α) (k : Nat) (hk : k < l.length) : (∀ i, 0 < i → i < l.length → (i - 1) / 2 = k → Le ah (at' l (downAt ah l k)) (at' l i)) ∧ Le ah (at' l (downAt ah l k)) (at' l k) ∧
    (downAt ah l k = k ∨ (0 < downAt ah l k ∧ downAt ah l k < l.length ∧ (downAt ah l k - 1) / 2 = k ∧ k < downAt ah l k)) := by
  have h1 : Le ah (at' l (downOne ah l k)) (at' l k) ∧ (2 * k + 1 < l.length → Le ah (at' l (downOne ah l k)) (at' l (2 * k + 1))) ∧ (downOne ah l k = k ∨ (downOne ah l k = 2 * k + 1 ∧ 2 * k + 1 < l.length)) := by
    unfold downOne
    split
    · rename_i h
      exact ⟨s.total _ _ h.2, fun _ => s.refl _, .inr ⟨rfl, h.1⟩⟩
    · rename_i h
      refine ⟨s.refl _, fun hl => ?_, .inl rfl⟩
      unfold Le
      cases e : ah (at' l (2 * k + 1)) (at' l k) with
      | false => rfl
      | true => exact absurd ⟨hl, e⟩ h
  obtain ⟨a1, a2, a3⟩ := h1
  have child : ∀ i, 0 < i → (i - 1) / 2 = k → i = 2 * k + 1 ∨ i = 2 * k + 2 := by omega
  unfold downAt
  split
  · rename_i h
    have hle := s.total _ _ h.2
    refine ⟨fun i hi hil he => ?_, s.trans _ _ _ hle a1, .inr ⟨by omega, h.1, by omega, by omega⟩⟩
    rcases child i hi he with rfl | rfl
    · exact s.trans _ _ _ hle (a2 (by omega))
    · exact s.refl _
  · rename_i h
    refine ⟨fun i hi hil he => ?_, a1, ?_⟩
    · rcases child i hi he with rfl | rfl
      · exact a2 hil
      · unfold Le
        cases e : ah (at' l (2 * k + 2)) (at' l (downOne ah l k)) with
        | false => rfl
        | true => exact absurd ⟨hil, e⟩ h
    · rcases a3 with h | ⟨h, hl⟩
      · exact .inl h
      · exact .inr ⟨by omega, by omega, by omega, by omega⟩
theorem HeapDn.stop {l : List α} {k : Nat} (h : HeapDn ah l k) (s : Sound ah) (hk : k < l.length) (e : downAt ah l k = k) : HeapL ah l := by
  intro i hi hil
  by_cases he : (i - 1) / 2 = k
  · have := (down_spec s l k hk).1 i hi hil he
    rw [e] at this
    rw [he]; exact this
  · exact h.1 i hi hil he
theorem HeapDn.step {l : List α} {k : Nat} (h : HeapDn ah l k) (s : Sound ah) (hk : k < l.length) (e : downAt ah l k ≠ k) : HeapDn ah (swapL l k (downAt ah l k)) (downAt ah l k) := by
  obtain ⟨d1, d2, d3⟩ := down_spec s l k hk
  obtain ⟨f, hf⟩ : ∃ f, downAt ah l k = f := ⟨_, rfl⟩
  rw [hf] at d1 d2 d3 e ⊢
  obtain ⟨f1, f2, f3, f4⟩ := d3.resolve_left e
  obtain ⟨h1, h2⟩ := h
  constructor
  · intro i hi hil hne
    rw [swap_len] at hil
    rw [at_swap _ _ _ _ hk f2, at_swap _ _ _ _ hk f2, if_neg hne]
    by_cases c1 : i = f
    · subst c1
      rw [if_pos rfl, if_pos f3]; exact d2
    · rw [if_neg c1]
      by_cases c2 : (i - 1) / 2 = k
      · rw [if_pos c2, if_neg (by omega)]
        exact d1 i hi hil c2
      · rw [if_neg c2]
        by_cases c3 : i = k
        · rw [if_pos c3]
          subst c3
          exact h2 f f1 f2 f3 hi
        · rw [if_neg c3]
          exact h1 i hi hil c2
  · intro i hi hil he h0
    rw [swap_len] at hil
    rw [at_swap _ _ _ _ hk f2, at_swap _ _ _ _ hk f2, f3, if_neg (by omega), if_pos rfl, if_neg (by omega), if_neg (by omega)]
    have := h1 i hi hil (by omega)
    rw [he] at this
    exact this
variable (ah)
/-- What is at a place moves down. -/
def sinkL (l : List α) (k : Nat) : List α :=
  if h : downAt ah l k = k then l else sinkL (swapL l k (downAt ah l k)) (downAt ah l k)
termination_by l.length - k
decreasing_by
  have := down_lt h
  rw [swap_len]
  omega
variable {ah}
theorem sink_stop {l : List α} {k : Nat} (h : downAt ah l k = k) : sinkL ah l k = l := by rw [sinkL, dif_pos h]
theorem sink_step {l : List α} {k : Nat} (h : downAt ah l k ≠ k) : sinkL ah l k = sinkL ah (swapL l k (downAt ah l k)) (downAt ah l k) := by rw [sinkL, dif_neg h]
theorem sink_heap (s : Sound ah) : ∀ (n k : Nat) (l : List α), l.length - k ≤ n → k < l.length → HeapDn ah l k → HeapL ah (sinkL ah l k) ∧ (sinkL ah l k).Perm l
  | 0, k, l, hn, hk, _ => by omega
  | n + 1, k, l, hn, hk, h => by
    by_cases e : downAt ah l k = k
    · rw [sink_stop e]; exact ⟨h.stop s hk e, List.Perm.refl _⟩
    · have hd := down_lt e
      rw [sink_step e]
      obtain ⟨i1, i2⟩ := sink_heap s n (downAt ah l k) (swapL l k (downAt ah l k)) (by rw [swap_len]; omega) (by rw [swap_len]; exact hd.2) (h.step s hk e)
      exact ⟨i1, i2.trans (swap_perm l k _ hk hd.2)⟩
theorem at_take (l : List α) (m k : Nat) (h : k < m) : at' (l.take m) k = at' l k := by
  unfold at'
  rw [List.getD_eq_getElem?_getD, List.getD_eq_getElem?_getD, List.getElem?_take, if_pos h]
/-- The last one in the first one's place, the rest as it was. -/
def headL' (l : List α) : List α := (l.set 0 (at' l (l.length - 1))).take (l.length - 1)
/-- The first one is taken out. -/
def takeL' (ah : α → α → Bool) (l : List α) : List α := if l.length ≤ 1 then headL' l else sinkL ah (headL' l) 0
theorem head_len (l : List α) : (headL' l).length = l.length - 1 := by unfold headL'; simp
theorem head_perm (l : List α) (h : 0 < l.length) : (at' l 0 :: headL' l).Perm l := by
  have e : headL' l ++ [at' l 0] = swapL l 0 (l.length - 1) := by
    apply list_ext
    · rw [List.length_append, head_len, swap_len, List.length_singleton]; omega
    · intro k hk
      rw [List.length_append, head_len, List.length_singleton] at hk
      rw [at_app, head_len, at_swap _ _ _ _ h (by omega)]
      by_cases h1 : k = l.length - 1
      · rw [if_pos h1, if_pos h1]
      · rw [if_neg h1, if_neg h1]
        unfold headL'
        rw [at_take _ _ _ (by omega), at_set _ _ _ _ h]
  exact ((List.perm_append_singleton _ _).symm.trans (by rw [e])).trans (swap_perm l 0 _ h (by omega))
theorem take_heap (s : Sound ah) {l : List α} (h : HeapL ah l) (hl : 0 < l.length) : HeapL ah (takeL' ah l) ∧ (at' l 0 :: takeL' ah l).Perm l := by
  unfold takeL'
  split
  · rename_i h1
    refine ⟨fun i hi hil => ?_, head_perm l hl⟩
    rw [head_len] at hil
    omega
  · rename_i h1
    have hd : HeapDn ah (headL' l) 0 := by
      constructor
      · intro i hi hil hne
        rw [head_len] at hil
        unfold headL'
        rw [at_take _ _ _ (by omega), at_take _ _ _ hil, at_set _ _ _ _ hl, at_set _ _ _ _ hl, if_neg hne, if_neg (by omega)]
        exact h i hi (by omega)
      · intro i hi hil he h0
        exact absurd h0 (Nat.lt_irrefl _)
    obtain ⟨i1, i2⟩ := sink_heap s (headL' l).length 0 (headL' l) (by omega) (by rw [head_len]; omega) hd
    exact ⟨i1, (i2.cons _).trans (head_perm l hl)⟩
theorem take_len (s : Sound ah) {l : List α} (h : HeapL ah l) (hl : 0 < l.length) : (takeL' ah l).length = l.length - 1 := by
  have := (take_heap s h hl).2.length_eq
  rw [List.length_cons] at this
  omega
/-- In order. -/
def InOrder (ah : α → α → Bool) (l : List α) : Prop := l.Pairwise (Le ah)
/-- All taken out, one behind the other. -/
def drainL (ah : α → α → Bool) : Nat → List α → List α
  | 0, _ => []
  | n + 1, l => if l.length = 0 then [] else at' l 0 :: drainL ah n (takeL' ah l)
theorem drain_all (s : Sound ah) : ∀ (n : Nat) (l : List α), HeapL ah l → l.length ≤ n → (drainL ah n l).Perm l ∧ InOrder ah (drainL ah n l)
  | 0, l, _, hn => by
    have : l = [] := List.eq_nil_of_length_eq_zero (by omega)
    subst this
    exact ⟨List.Perm.refl _, List.Pairwise.nil⟩
  | n + 1, l, h, hn => by
    unfold drainL
    split
    · rename_i h0
      have : l = [] := List.eq_nil_of_length_eq_zero h0
      subst this
      exact ⟨List.Perm.refl _, List.Pairwise.nil⟩
    · rename_i h0
      obtain ⟨t1, t2⟩ := take_heap s h (by omega)
      obtain ⟨i1, i2⟩ := drain_all s n (takeL' ah l) t1 (by rw [take_len s h (by omega)]; omega)
      refine ⟨(i1.cons _).trans t2, List.Pairwise.cons (fun y hy => ?_) i2⟩
      have hm : y ∈ l := t2.subset (List.mem_cons_of_mem _ (i1.subset hy))
      obtain ⟨k, hk, rfl⟩ := List.getElem_of_mem hm
      have := h.least s k hk
      have e : at' l k = l[k] := by
        have h1 := at_get l k hk
        rw [List.getElem?_eq_getElem hk] at h1
        exact (Option.some.inj h1).symm
      rw [e] at this
      exact this
end
/-- There is but one order, where of two things one stands first. -/
theorem order_one {α : Type} {ah : α → α → Bool} {l m : List α} (hp : l.Perm m) (hl : InOrder ah l) (hm : InOrder ah m) (anti : ∀ a b, a ∈ l → b ∈ l → Le ah a b → Le ah b a → a = b) : l = m := by
  induction l generalizing m with
  | nil => exact (List.nil_perm.1 hp).symm
  | cons x xs ih =>
    cases m with
    | nil => exact absurd hp.length_eq (by simp)
    | cons y ys =>
      have hxy : x = y := by
        have hx : x ∈ y :: ys := hp.subset (List.mem_cons_self)
        have hy : y ∈ x :: xs := hp.symm.subset (List.mem_cons_self)
        rcases List.mem_cons.1 hx with h | h
        · exact h
        · rcases List.mem_cons.1 hy with h' | h'
          · exact h'.symm
          · exact anti x y (List.mem_cons_self) (List.mem_cons_of_mem _ h') ((List.pairwise_cons.1 hl).1 y h') ((List.pairwise_cons.1 hm).1 x h)
      subst hxy
      rw [ih (List.Perm.cons_inv hp) (List.pairwise_cons.1 hl).2 (List.pairwise_cons.1 hm).2 (fun a b ha hb => anti a b (List.mem_cons_of_mem _ ha) (List.mem_cons_of_mem _ hb))]
end Go.Proofs.Ytpdncgjepfgnjaa
