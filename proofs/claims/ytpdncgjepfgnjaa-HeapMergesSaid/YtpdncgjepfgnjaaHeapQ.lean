/- The math of a heap: many puts, one behind the other. No program is spoken of. -/
import Derived.Test.YtpdncgjepfgnjaaHeapO
namespace Go.Proofs.Ytpdncgjepfgnjaa
set_option linter.unusedVariables false
set_option linter.unusedSectionVars false
section
variable {τ : Type} [Inhabited τ] (key : τ → Int)
def heapG (xs : List τ) : List (τ × Int) × Int := xs.foldl (fun s x => (putL (ahK key) s.1 (x, s.2 + 1), s.2 + 1)) ([], 0)
/-- The heap behind puts of all of a list. -/
def heapS (xs : List τ) : List (τ × Int) := (heapG key xs).1
/-- The list in order. -/
def ofS (xs : List τ) : List (τ × Int) := (xs.foldl (fun (s : List (τ × Int) × Int) x => (insS key s.1 (x, s.2 + 1), s.2 + 1)) ([], 0)).1
theorem foldl_num {β : Type} (f : β → τ → Int → β) : ∀ (xs : List τ) (b : β) (n : Int), (xs.foldl (fun (s : β × Int) x => (f s.1 x (s.2 + 1), s.2 + 1)) (b, n)).2 = n + xs.length
  | [], b, n => by simp
  | x :: xs, b, n => by
    rw [List.foldl_cons, foldl_num f xs]
    simp; omega
theorem heapG_num (xs : List τ) : (heapG key xs).2 = xs.length := by
  have := foldl_num (fun (l : List (τ × Int)) x n => putL (ahK key) l (x, n)) xs [] 0
  unfold heapG
  rw [this]; omega
theorem heapS_snoc (xs : List τ) (x : τ) : heapS key (xs ++ [x]) = putL (ahK key) (heapS key xs) (x, (xs.length : Int) + 1) := by
  have h := heapG_num key xs
  unfold heapS
  unfold heapG at h ⊢
  rw [List.foldl_append]
  show putL _ _ _ = _
  rw [h]
theorem ofS_snoc (xs : List τ) (x : τ) : ofS key (xs ++ [x]) = insS key (ofS key xs) (x, (xs.length : Int) + 1) := by
  have h := foldl_num (fun (l : List (τ × Int)) x n => insS key l (x, n)) xs [] 0
  unfold ofS
  rw [List.foldl_append]
  show insS _ _ _ = _
  rw [h, Int.zero_add]
theorem heapS_rep : ∀ (n : Nat) (xs : List τ), xs.length = n → Rep key (heapS key xs) (ofS key xs) (xs.length : Int)
  | 0, xs, h => by
    obtain rfl := List.eq_nil_of_length_eq_zero h
    exact Rep.nil key _
  | n + 1, xs, h => by
    obtain ⟨ys, y, rfl⟩ : ∃ ys y, xs = ys ++ [y] := ⟨xs.dropLast, xs.getLast (by intro e; rw [e] at h; cases h), (List.dropLast_concat_getLast _).symm⟩
    rw [List.length_append, List.length_singleton] at h
    have ih := heapS_rep n ys (by omega)
    rw [heapS_snoc, ofS_snoc, List.length_append, List.length_singleton]
    have := ih.put y
    push_cast
    exact this
theorem heapS_len (xs : List τ) : (heapS key xs).length = xs.length := by
  have h := (heapS_rep key _ xs rfl)
  have h1 := h.perm.length_eq
  rw [← h1]
  have : ∀ (n : Nat) (xs : List τ), xs.length = n → (ofS key xs).length = n := by
    intro n
    induction n with
    | zero => intro xs h; obtain rfl := List.eq_nil_of_length_eq_zero h; rfl
    | succ n ih =>
      intro xs h
      obtain ⟨ys, y, rfl⟩ : ∃ ys y, xs = ys ++ [y] := ⟨xs.dropLast, xs.getLast (by intro e; rw [e] at h; cases h), (List.dropLast_concat_getLast _).symm⟩
      rw [List.length_append, List.length_singleton] at h
      rw [ofS_snoc, (ins_perm key _ _).length_eq, List.length_cons, ih ys (by omega)]
  exact this _ xs rfl
/-- Taken out one by one: the list in order. -/
theorem Rep.drain {key : τ → Int} : ∀ (S l : List (τ × Int)) (n : Int), Rep key l S n → ∀ k, S.length ≤ k → drainL (ahK key) k l = S
  | [], l, n, h, k, _ => by
    have : l = [] := List.eq_nil_of_length_eq_zero (by rw [← h.len]; rfl)
    subst this
    cases k <;> rfl
  | x :: S, l, n, h, 0, hk => by simp at hk
  | x :: S, l, n, h, k + 1, hk => by
    obtain ⟨h1, h2⟩ := h.take
    have hl : l.length ≠ 0 := by rw [← h.len]; simp
    show (if l.length = 0 then [] else at' l 0 :: drainL (ahK key) k (takeL' (ahK key) l)) = _
    rw [if_neg hl, h1, Rep.drain S _ n h2 k (by simp at hk; omega)]
end
end Go.Proofs.Ytpdncgjepfgnjaa
