/- The math of a binary heap: a list of which each element stands no later than the two that it leads. No program is spoken of. -/
namespace Go.Proofs.Ytpdncgjepfgnjaa
set_option linter.unusedVariables false

section
variable {α : Type} [Inhabited α] (ah : α → α → Bool)
/-- What stands at a place. -/
def at' (l : List α) (i : Nat) : α := l.getD i default
/-- Two places' things change their places. -/
def swapL (l : List α) (i j : Nat) : List α := (l.set i (at' l j)).set j (at' l i)
theorem swap_len (l : List α) (i j : Nat) : (swapL l i j).length = l.length := by unfold swapL; simp
theorem at_set (l : List α) (i k : Nat) (x : α) (h : i < l.length) : at' (l.set i x) k = if k = i then x else at' l k := by
  unfold at'
  rw [List.getD_eq_getElem?_getD, List.getD_eq_getElem?_getD, List.getElem?_set]
  by_cases hk : k = i
  · subst hk; simp [h]
  · rw [if_neg (Ne.symm hk), if_neg hk]
theorem at_swap (l : List α) (i j k : Nat) (hi : i < l.length) (hj : j < l.length) : at' (swapL l i j) k = if k = j then at' l i else if k = i then at' l j else at' l k := by
  unfold swapL
  rw [at_set _ _ _ _ (by simpa using hj), at_set _ _ _ _ hi]
theorem at_get (l : List α) (i : Nat) (h : i < l.length) : l[i]? = some (at' l i) := by
  unfold at'
  rw [List.getD_eq_getElem?_getD, List.getElem?_eq_getElem h]; rfl
theorem list_ext {l m : List α} (h : l.length = m.length) (hk : ∀ k, k < l.length → at' l k = at' m k) : l = m := by
  apply List.ext_getElem? 
  intro k
  by_cases hlt : k < l.length
  · rw [at_get l k hlt, at_get m k (by omega), hk k hlt]
  · rw [List.getElem?_eq_none (by omega), List.getElem?_eq_none (by omega)]
/-- Set at two places: a permutation. -/
theorem swap_perm (l : List α) (i j : Nat) (hi : i < l.length) (hj : j < l.length) : (swapL l i j).Perm l := by
  have key : ∀ (l : List α) (i j : Nat), i < j → j < l.length → (swapL l i j).Perm l := by
    intro l i j hij hj
    have e1 : l = l.take i ++ at' l i :: ((l.drop (i + 1)).take (j - (i + 1)) ++ at' l j :: l.drop (j + 1)) := by
      have d1 : l.drop i = at' l i :: l.drop (i + 1) := by
        rw [List.drop_eq_getElem_cons (by omega)]
        congr 1
        have := at_get l i (by omega)
        rw [List.getElem?_eq_getElem (by omega)] at this
        exact Option.some.inj this
      have d2 : l.drop j = at' l j :: l.drop (j + 1) := by
        rw [List.drop_eq_getElem_cons hj]
        congr 1
        have := at_get l j hj
        rw [List.getElem?_eq_getElem hj] at this
        exact Option.some.inj this
      have d3 : l.drop (i + 1) = (l.drop (i + 1)).take (j - (i + 1)) ++ l.drop j := by
        have h := (List.take_append_drop (j - (i + 1)) (l.drop (i + 1))).symm
        rw [List.drop_drop, show i + 1 + (j - (i + 1)) = j from by omega] at h
        exact h
      rw [← d2, ← d3, ← d1, List.take_append_drop]
    obtain ⟨A, hA⟩ : ∃ A, l.take i = A := ⟨_, rfl⟩
    obtain ⟨B, hB⟩ : ∃ B, (l.drop (i + 1)).take (j - (i + 1)) = B := ⟨_, rfl⟩
    obtain ⟨C, hC⟩ : ∃ C, l.drop (j + 1) = C := ⟨_, rfl⟩
    obtain ⟨x, hx⟩ : ∃ x, at' l i = x := ⟨_, rfl⟩
    obtain ⟨y, hy⟩ : ∃ y, at' l j = y := ⟨_, rfl⟩
    have hAl : A.length = i := by rw [← hA, List.length_take]; omega
    have hBl : B.length = j - (i + 1) := by rw [← hB, List.length_take, List.length_drop]; omega
    rw [hA, hB, hC, hx, hy] at e1
    have e2 : swapL l i j = A ++ y :: (B ++ x :: C) := by
      unfold swapL
      rw [hx, hy]
      rw [e1]
      rw [List.set_append_right _ _ (by omega), hAl, Nat.sub_self, List.set_cons_zero]
      rw [List.set_append_right _ _ (by omega), hAl]
      have : j - i = (j - (i + 1)) + 1 := by omega
      rw [this, List.set_cons_succ, List.set_append_right _ _ (by omega), hBl, Nat.sub_self, List.set_cons_zero]
    rw [e2]
    conv => rhs; rw [e1]
    refine List.Perm.append_left A ?_
    have p1 : (y :: (B ++ x :: C)).Perm (y :: x :: (B ++ C)) := (List.perm_middle (a := x) (l₁ := B) (l₂ := C)).cons y
    have p2 : (x :: (B ++ y :: C)).Perm (x :: y :: (B ++ C)) := (List.perm_middle (a := y) (l₁ := B) (l₂ := C)).cons x
    exact p1.trans ((List.Perm.swap x y _).trans p2.symm)
  rcases Nat.lt_trichotomy i j with h | h | h
  · exact key l i j h hj
  · subst h
    have : swapL l i i = l := by
      apply list_ext (swap_len _ _ _)
      intro k hk
      rw [at_swap _ _ _ _ hi hi]
      by_cases hki : k = i
      · subst hki; rw [if_pos rfl]
      · rw [if_neg hki, if_neg hki]
    rw [this]
  · have : swapL l i j = swapL l j i := by
      apply list_ext (by rw [swap_len, swap_len])
      intro k hk
      rw [at_swap _ _ _ _ hi hj, at_swap _ _ _ _ hj hi]
      by_cases h1 : k = j
      · subst h1
        by_cases h2 : k = i
        · subst h2; simp
        · simp [h2]
      · by_cases h2 : k = i
        · subst h2; simp [h1]
        · simp [h1, h2]
    rw [this]
    exact key l j i h hi

/-- a stands no later than b. -/
def Le (a b : α) : Prop := ah b a = false
/-- A total order, as far as it is needed. -/
structure Sound : Prop where
  refl : ∀ a, Le ah a a
  trans : ∀ a b c, Le ah a b → Le ah b c → Le ah a c
  total : ∀ a b, ah a b = true → Le ah a b
/-- A heap. -/
def HeapL (l : List α) : Prop := ∀ i, 0 < i → i < l.length → Le ah (at' l ((i - 1) / 2)) (at' l i)
/-- A heap, but for one place and the one that leads it. -/
def HeapUp (l : List α) (k : Nat) : Prop := (∀ i, 0 < i → i < l.length → i ≠ k → Le ah (at' l ((i - 1) / 2)) (at' l i)) ∧ ∀ i, 0 < i → i < l.length → (i - 1) / 2 = k → 0 < k → Le ah (at' l ((k - 1) / 2)) (at' l i)
/-- A heap, but for one place and the two that it leads. -/
def HeapDn (l : List α) (k : Nat) : Prop := (∀ i, 0 < i → i < l.length → (i - 1) / 2 ≠ k → Le ah (at' l ((i - 1) / 2)) (at' l i)) ∧ ∀ i, 0 < i → i < l.length → (i - 1) / 2 = k → 0 < k → Le ah (at' l ((k - 1) / 2)) (at' l i)
variable {ah}
/-- The first one of a heap stands no later than any. -/
theorem HeapL.least {l : List α} (h : HeapL ah l) (s : Sound ah) : ∀ i, i < l.length → Le ah (at' l 0) (at' l i) := by
  intro i
  induction i using Nat.strongRecOn with
  | _ i ih =>
    intro hi
    by_cases h0 : i = 0
    · subst h0; exact s.refl _
    · exact s.trans _ _ _ (ih ((i - 1) / 2) (by omega) (by omega)) (h i (by omega) hi)
/-- One step up. -/
theorem HeapUp.step {l : List α} {k : Nat} (h : HeapUp ah l k) (s : Sound ah) (hk : 0 < k) (hl : k < l.length) (ha : ah (at' l k) (at' l ((k - 1) / 2)) = true) : HeapUp ah (swapL l k ((k - 1) / 2)) ((k - 1) / 2) := by
  obtain ⟨h1, h2⟩ := h
  have hp : (k - 1) / 2 < k := by omega
  have hlt := s.total _ _ ha
  constructor
  · intro i hi hil hne
    rw [swap_len] at hil
    rw [at_swap _ _ _ _ hl (by omega), at_swap _ _ _ _ hl (by omega)]
    rw [if_neg hne]
    by_cases e1 : i = k
    · subst e1
      rw [if_pos rfl, if_pos rfl]
      exact hlt
    · rw [if_neg e1]
      by_cases e2 : (i - 1) / 2 = (k - 1) / 2
      · rw [if_pos e2]
        have := h1 i hi hil e1
        rw [e2] at this
        exact s.trans _ _ _ hlt this
      · rw [if_neg e2]
        by_cases e3 : (i - 1) / 2 = k
        · rw [if_pos e3]
          exact h2 i hi hil e3 hk
        · rw [if_neg e3]
          exact h1 i hi hil e1
  · intro i hi hil he h0
    rw [swap_len] at hil
    have e4 : ((k - 1) / 2 - 1) / 2 ≠ (k - 1) / 2 := by omega
    have e5 : ((k - 1) / 2 - 1) / 2 ≠ k := by omega
    rw [at_swap _ _ _ _ hl (by omega), at_swap _ _ _ _ hl (by omega), if_neg e4, if_neg e5]
    have hpp := h1 ((k - 1) / 2) h0 (by omega) (by omega)
    by_cases e1 : i = (k - 1) / 2
    · omega
    · rw [if_neg e1]
      by_cases e2 : i = k
      · rw [if_pos e2]; exact hpp
      · rw [if_neg e2]
        have := h1 i hi hil e2
        rw [he] at this
        exact s.trans _ _ _ hpp this
theorem HeapUp.stop {l : List α} {k : Nat} (h : HeapUp ah l k) (ha : 0 < k → k < l.length → ah (at' l k) (at' l ((k - 1) / 2)) = false) : HeapL ah l := by
  intro i hi hil
  by_cases e : i = k
  · subst e; exact ha hi hil
  · exact h.1 i hi hil e
variable (ah)
/-- What is at a place moves up. -/
def riseL (l : List α) (k : Nat) : List α :=
  if h : k = 0 then l else if ah (at' l k) (at' l ((k - 1) / 2)) = true then riseL (swapL l k ((k - 1) / 2)) ((k - 1) / 2) else l
termination_by k
decreasing_by omega
variable {ah}
theorem rise_zero (l : List α) : riseL ah l 0 = l := by rw [riseL]; simp
theorem rise_stop {l : List α} {k : Nat} (h : ah (at' l k) (at' l ((k - 1) / 2)) = false) : riseL ah l k = l := by
  rw [riseL]
  split
  · rfl
  · rw [if_neg (by rw [h]; decide)]
theorem rise_step {l : List α} {k : Nat} (hk : k ≠ 0) (h : ah (at' l k) (at' l ((k - 1) / 2)) = true) : riseL ah l k = riseL ah (swapL l k ((k - 1) / 2)) ((k - 1) / 2) := by
  rw [riseL, dif_neg hk, if_pos h]
theorem rise_heap (s : Sound ah) : ∀ (k : Nat) (l : List α), k < l.length → HeapUp ah l k → HeapL ah (riseL ah l k) ∧ (riseL ah l k).Perm l := by
  intro k
  induction k using Nat.strongRecOn with
  | _ k ih =>
    intro l hl h
    by_cases h0 : k = 0
    · subst h0
      rw [rise_zero]
      exact ⟨h.stop (fun h => absurd h (Nat.lt_irrefl _)), List.Perm.refl _⟩
    · cases ha : ah (at' l k) (at' l ((k - 1) / 2)) with
      | false => rw [rise_stop ha]; exact ⟨h.stop (fun _ _ => ha), List.Perm.refl _⟩
      | true =>
        rw [rise_step h0 ha]
        obtain ⟨i1, i2⟩ := ih ((k - 1) / 2) (by omega) (swapL l k ((k - 1) / 2)) (by rw [swap_len]; omega) (h.step s (by omega) hl ha)
        exact ⟨i1, i2.trans (swap_perm l k _ hl (by omega))⟩
theorem at_app (l : List α) (x : α) (i : Nat) : at' (l ++ [x]) i = if i = l.length then x else at' l i := by
  unfold at'
  rw [List.getD_eq_getElem?_getD, List.getD_eq_getElem?_getD]
  by_cases h : i < l.length
  · rw [List.getElem?_append_left h, if_neg (by omega)]
  · rw [List.getElem?_append_right (by omega)]
    by_cases e : i = l.length
    · subst e; simp
    · rw [if_neg e, List.getElem?_eq_none (by simp; omega), List.getElem?_eq_none (by omega)]
/-- One more at the end: a heap but for that. -/
theorem HeapL.snoc {l : List α} (h : HeapL ah l) (x : α) : HeapUp ah (l ++ [x]) l.length := by
  constructor
  · intro i hi hil hne
    rw [List.length_append, List.length_singleton] at hil
    rw [at_app, at_app, if_neg hne, if_neg (by omega)]
    exact h i hi (by omega)
  · intro i hi hil he h0
    rw [List.length_append, List.length_singleton] at hil
    omega
/-- Put. -/
def putL (ah : α → α → Bool) (l : List α) (x : α) : List α := riseL ah (l ++ [x]) l.length
theorem put_heap (s : Sound ah) {l : List α} (h : HeapL ah l) (x : α) : HeapL ah (putL ah l x) ∧ (putL ah l x).Perm (x :: l) := by
  obtain ⟨h1, h2⟩ := rise_heap s l.length (l ++ [x]) (by simp) (h.snoc x)
  exact ⟨h1, h2.trans (List.perm_append_singleton x l)⟩
end
end Go.Proofs.Ytpdncgjepfgnjaa
