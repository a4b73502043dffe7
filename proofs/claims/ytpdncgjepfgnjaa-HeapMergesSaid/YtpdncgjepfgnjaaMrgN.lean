/- The math of a merge: what the heap holds, and what is left of the lists, step by step. No program is spoken of. -/
import Derived.Test.YtpdncgjepfgnjaaHeapW
namespace Go.Proofs.Ytpdncgjepfgnjaa
set_option linter.unusedVariables false
section
variable {τ : Type} (key : τ → Int)
theorem heads_app : ∀ (a b : List (List τ)) (i : Nat), headsF i (a ++ b) = headsF i a ++ headsF (i + a.length) b
  | [], b, i => by simp [headsF]
  | [] :: a, b, i => by
    have := heads_app a b (i + 1)
    simp only [List.cons_append, headsF, this, List.length_cons]
    rw [show i + 1 + a.length = i + (a.length + 1) from by omega]
  | (x :: l) :: a, b, i => by
    have := heads_app a b (i + 1)
    simp only [List.cons_append, headsF, this, List.length_cons]
    rw [show i + 1 + a.length = i + (a.length + 1) from by omega]
theorem heads_le : ∀ (ls : List (List τ)) (i : Nat), (headsF i ls).length ≤ ls.length
  | [], i => Nat.le_refl _
  | [] :: ls, i => by have := heads_le ls (i + 1); simp only [headsF, List.length_cons]; omega
  | (x :: l) :: ls, i => by have := heads_le ls (i + 1); simp only [headsF, List.length_cons]; omega
/-- The row while the heap is filled: the first i lists have lost their first things. -/
def rowAt (ls : List (List τ)) (i : Nat) : List (List τ) := (ls.take i).map List.tail ++ ls.drop i
theorem rowAt_zero (ls : List (List τ)) : rowAt ls 0 = ls := by simp [rowAt]
theorem rowAt_end (ls : List (List τ)) : rowAt ls ls.length = ls.map List.tail := by simp [rowAt]
theorem rowAt_len (ls : List (List τ)) (i : Nat) : (rowAt ls i).length = ls.length := by simp [rowAt]; omega
theorem rowAt_get {ls : List (List τ)} {i : Nat} (h : i < ls.length) : (rowAt ls i)[i]? = some ls[i] := by
  unfold rowAt
  rw [List.getElem?_append_right (by simp; omega)]
  simp [Nat.min_eq_left (Nat.le_of_lt h)]
theorem rowAt_set {ls : List (List τ)} {i : Nat} (h : i < ls.length) : (rowAt ls i).set i ls[i].tail = rowAt ls (i + 1) := by
  unfold rowAt
  have hl : ((ls.take i).map List.tail).length = i := by simp; omega
  rw [List.set_append_right (h := by omega), hl, Nat.sub_self, List.drop_eq_getElem_cons h, List.set_cons_zero, List.take_succ_eq_append_getElem h, List.map_append, List.append_assoc]
  rfl
theorem heads_step {ls : List (List τ)} {i : Nat} (h : i < ls.length) : headsF 0 (ls.take (i + 1)) = headsF 0 (ls.take i) ++ (match ls[i] with | [] => [] | x :: _ => [(x, (i : Int))]) := by
  rw [List.take_succ_eq_append_getElem h, heads_app]
  have hl : (ls.take i).length = i := by simp; omega
  rw [hl, Nat.zero_add]
  cases ls[i] with
  | nil => rfl
  | cons x r => rfl
/-- Behind one thing: the lists with that one gone. -/
def nextL (ls : List (List τ)) : List (List τ) := match bestF key 0 none ls with
  | none => ls
  | some (_, j) => ls.set j.toNat ((ls[j.toNat]?.getD []).tail)
theorem next_eq {ls : List (List τ)} {x : τ} {j : Nat} {r : List τ} (h : bestF key 0 none ls = some (x, (j : Int))) (hj : ls[j]? = some (x :: r)) : nextL key ls = ls.set j r := by
  unfold nextL
  rw [h]
  simp [hj]
def totL (ls : List (List τ)) : Nat := (ls.map List.length).sum
theorem tot_set : ∀ (ls : List (List τ)) (j : Nat) (x : τ) (r : List τ), ls[j]? = some (x :: r) → totL (ls.set j r) + 1 = totL ls
  | [], j, x, r, h => by simp at h
  | l :: ls, 0, x, r, h => by simp at h; subst h; simp [totL]; omega
  | l :: ls, j + 1, x, r, h => by
    have := tot_set ls j x r (by simpa using h)
    simp [totL] at this ⊢; omega
theorem tot_none : ∀ (ls : List (List τ)) (i : Nat), headsF i ls = [] → totL ls = 0
  | [], i, h => rfl
  | [] :: ls, i, h => by
    have := tot_none ls (i + 1) h
    simp [totL] at this ⊢; exact this
  | (x :: l) :: ls, i, h => by cases h
theorem best_tot {ls : List (List τ)} (h : bestF key 0 none ls = none) : totL ls = 0 := by
  rcases best_none key ls 0 with ⟨_, h2⟩ | ⟨c, h1, _⟩
  · exact tot_none ls 0 h2
  · rw [h] at h1; cases h1
theorem map_tail_get {ls : List (List τ)} {j : Nat} {x : τ} {r : List τ} (h : ls[j]? = some (x :: r)) : (ls.map List.tail)[j]? = some r := by simp [h]
theorem map_tail_set {ls : List (List τ)} {j : Nat} {r : List τ} : (ls.map List.tail).set j r.tail = (ls.set j r).map List.tail := by rw [List.map_set]
variable [Inhabited τ]
/-- The next of a list is put into the heap. -/
def addL (l : List (τ × Int)) : List τ → Int → List (τ × Int)
  | [], _ => l
  | x :: _, j => putL (ahK key) l (x, j)
/-- What the heap holds. -/
structure Hd (l : List (τ × Int)) (ls : List (List τ)) : Prop where
  heap : HeapL (ahK key) l
  perm : l.Perm (headsF 0 ls)
theorem Hd.len {l : List (τ × Int)} {ls : List (List τ)} (h : Hd key l ls) : l.length ≤ ls.length := by rw [h.perm.length_eq]; exact heads_le ls 0
theorem Hd.nil : Hd key ([] : List (τ × Int)) [] := ⟨fun i h1 h2 => by simp at h2, List.Perm.refl _⟩
theorem Hd.fill {l : List (τ × Int)} {ls : List (List τ)} {i : Nat} (hi : i < ls.length) (h : Hd key l (ls.take i)) : Hd key (addL key l ls[i] (i : Int)) (ls.take (i + 1)) := by
  have hs := heads_step hi
  cases e : ls[i] with
  | nil =>
    rw [e] at hs
    exact ⟨h.heap, by rw [hs, List.append_nil]; exact h.perm⟩
  | cons x r =>
    rw [e] at hs
    obtain ⟨q1, q2⟩ := put_heap (sound_K key) h.heap (x, (i : Int))
    refine ⟨q1, ?_⟩
    rw [hs]
    refine q2.trans ?_
    refine (h.perm.cons _).trans ?_
    exact List.perm_append_comm (l₁ := [(x, (i : Int))]) (l₂ := headsF 0 (ls.take i))
/-- The next thing: what the heap gives is what is to come, and with the next of its list put there it holds what it has to. -/
theorem Hd.take {l : List (τ × Int)} {ls : List (List τ)} (h : Hd key l ls) :
    (l = [] ∧ bestF key 0 none ls = none) ∨ ∃ (j : Nat) (x : τ) (r : List τ), 0 < l.length ∧ bestF key 0 none ls = some (x, (j : Int)) ∧ at' l 0 = (x, (j : Int)) ∧ ls[j]? = some (x :: r) ∧ j < ls.length ∧ nextL key ls = ls.set j r ∧ (takeL' (ahK key) l).length < l.length ∧
      Hd key (addL key (takeL' (ahK key) l) r (j : Int)) (ls.set j r) := by
  rcases merge_take key h.heap h.perm with h0 | ⟨j, x, r, h1, h2, h3, h4, h5, H, h6, h7⟩
  · exact .inl h0
  · refine .inr ⟨j, x, r, h1, h2, h3, h4, (List.getElem?_eq_some_iff.1 h4).1, next_eq key h2 h4, ?_, ?_⟩
    · have := (take_heap (sound_K key) h.heap h1).2.length_eq
      simp only [List.length_cons] at this
      omega
    · cases r with
      | nil => exact ⟨h5, h6.trans h7.symm⟩
      | cons y r' =>
        obtain ⟨q1, q2⟩ := put_heap (sound_K key) h5 (y, (j : Int))
        exact ⟨q1, q2.trans ((h6.cons _).trans h7.symm)⟩
end
end Go.Proofs.Ytpdncgjepfgnjaa
