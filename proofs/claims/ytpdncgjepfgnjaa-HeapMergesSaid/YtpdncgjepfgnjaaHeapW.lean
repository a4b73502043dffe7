/- The heap of a merge: of each list its first thing, with the list's index. -/
import Derived.Test.YtpdncgjepfgnjaaHeapO
namespace Go.Proofs.Ytpdncgjepfgnjaa
set_option linter.unusedVariables false
section
variable {τ : Type} (key : τ → Int)
/-- The first things of what is left, with the lists' indexes. -/
def headsF : Nat → List (List τ) → List (τ × Int)
  | _, [] => []
  | i, [] :: ls => headsF (i + 1) ls
  | i, (x :: _) :: ls => (x, (i : Int)) :: headsF (i + 1) ls
/-- The least first thing, of the least index, as a loop over the lists finds it. -/
def bestF : Nat → Option (τ × Int) → List (List τ) → Option (τ × Int)
  | _, c, [] => c
  | i, c, [] :: ls => bestF (i + 1) c ls
  | i, none, (x :: _) :: ls => bestF (i + 1) (some (x, (i : Int))) ls
  | i, some b, (x :: _) :: ls => bestF (i + 1) (if key x < key b.1 then some (x, (i : Int)) else some b) ls
theorem heads_ge : ∀ (ls : List (List τ)) (i : Nat), ∀ y ∈ headsF i ls, (i : Int) ≤ y.2
  | [], i, y, h => by cases h
  | [] :: ls, i, y, h => by have := heads_ge ls (i + 1) y h; omega
  | (x :: _) :: ls, i, y, h => by
    rcases List.mem_cons.1 h with rfl | h
    · exact Int.le_refl _
    · have := heads_ge ls (i + 1) y h; omega
theorem heads_one : ∀ (ls : List (List τ)) (i : Nat), ((headsF i ls).map Prod.snd).Nodup
  | [], i => List.Pairwise.nil
  | [] :: ls, i => heads_one ls (i + 1)
  | (x :: r) :: ls, i => by
    show ((((x, (i : Int)) :: headsF (i + 1) ls)).map Prod.snd).Nodup
    rw [List.map_cons]
    refine List.nodup_cons.2 ⟨fun hm => ?_, heads_one ls (i + 1)⟩
    obtain ⟨y, hy, e⟩ := List.mem_map.1 hm
    have h1 := heads_ge ls (i + 1) y hy
    have e : y.2 = (i : Int) := e
    omega
theorem best_some : ∀ (ls : List (List τ)) (i : Nat) (b : τ × Int), b.2 < i → ∃ c, bestF key i (some b) ls = some c ∧ (c = b ∨ c ∈ headsF i ls) ∧ Le (ahK key) c b ∧ ∀ y ∈ headsF i ls, Le (ahK key) c y
  | [], i, b, hb => ⟨b, rfl, .inl rfl, (le_K key b b).2 (.inr ⟨rfl, Int.le_refl _⟩), fun y hy => by cases hy⟩
  | [] :: ls, i, b, hb => best_some ls (i + 1) b (by omega)
  | (x :: r) :: ls, i, b, hb => by
    unfold bestF headsF
    by_cases hk : key x < key b.1
    · rw [if_pos hk]
      obtain ⟨c, h1, h2, h3, h4⟩ := best_some ls (i + 1) (x, (i : Int)) (by show (i : Int) < ((i + 1 : Nat) : Int); omega)
      refine ⟨c, h1, .inr ?_, ?_, fun y hy => ?_⟩
      · rcases h2 with rfl | h2
        · exact List.mem_cons_self
        · exact List.mem_cons_of_mem _ h2
      · rw [le_K] at h3 ⊢
        simp only at h3
        rcases h3 with h3 | ⟨h3, _⟩ <;> (left; omega)
      · rcases List.mem_cons.1 hy with rfl | hy
        · exact h3
        · exact h4 y hy
    · rw [if_neg hk]
      obtain ⟨c, h1, h2, h3, h4⟩ := best_some ls (i + 1) b (by omega)
      refine ⟨c, h1, ?_, h3, fun y hy => ?_⟩
      · rcases h2 with rfl | h2
        · exact .inl rfl
        · exact .inr (List.mem_cons_of_mem _ h2)
      · rcases List.mem_cons.1 hy with rfl | hy
        · rw [le_K] at h3 ⊢
          simp only
          rcases h3 with h3 | ⟨h3, h5⟩
          · left; omega
          · by_cases he : key b.1 = key x
            · right; exact ⟨by omega, by omega⟩
            · left; omega
        · exact h4 y hy
theorem best_none : ∀ (ls : List (List τ)) (i : Nat), (bestF key i none ls = none ∧ headsF i ls = []) ∨ ∃ c, bestF key i none ls = some c ∧ c ∈ headsF i ls ∧ ∀ y ∈ headsF i ls, Le (ahK key) c y
  | [], i => .inl ⟨rfl, rfl⟩
  | [] :: ls, i => best_none ls (i + 1)
  | (x :: r) :: ls, i => by
    right
    unfold bestF headsF
    obtain ⟨c, h1, h2, h3, h4⟩ := best_some key ls (i + 1) (x, (i : Int)) (by show (i : Int) < ((i + 1 : Nat) : Int); omega)
    refine ⟨c, h1, ?_, fun y hy => ?_⟩
    · rcases h2 with rfl | h2
      · exact List.mem_cons_self
      · exact List.mem_cons_of_mem _ h2
    · rcases List.mem_cons.1 hy with rfl | hy
      · exact h3
      · exact h4 y hy
/-- One list loses its first thing. -/
theorem heads_set : ∀ (ls : List (List τ)) (i j : Nat) (x : τ) (r : List τ), ls[j]? = some (x :: r) → ∃ H, (headsF i ls).Perm ((x, ((i + j : Nat) : Int)) :: H) ∧ (headsF i (ls.set j r)).Perm (match r with | [] => H | y :: _ => (y, ((i + j : Nat) : Int)) :: H)
  | [], i, j, x, r, h => by simp at h
  | l :: ls, i, 0, x, r, h => by
    simp at h
    subst h
    refine ⟨headsF (i + 1) ls, List.Perm.refl _, ?_⟩
    cases r with
    | nil => exact List.Perm.refl _
    | cons y r' => exact List.Perm.refl _
  | l :: ls, i, j + 1, x, r, h => by
    have h : ls[j]? = some (x :: r) := by simpa using h
    obtain ⟨H, h1, h2⟩ := heads_set ls (i + 1) j x r h
    rw [show i + 1 + j = i + (j + 1) from by omega] at h1 h2
    rw [List.set_cons_succ]
    cases l with
    | nil => exact ⟨H, h1, h2⟩
    | cons z l' =>
      refine ⟨(z, (i : Int)) :: H, (h1.cons _).trans (List.Perm.swap _ _ _), ?_⟩
      cases r with
      | nil => exact h2.cons _
      | cons y r' => exact (h2.cons _).trans (List.Perm.swap _ _ _)
theorem heads_mem : ∀ (ls : List (List τ)) (i : Nat) (c : τ × Int), c ∈ headsF i ls → ∃ j x r, ls[j]? = some (x :: r) ∧ c = (x, ((i + j : Nat) : Int))
  | [], i, c, h => by cases h
  | [] :: ls, i, c, h => by
    obtain ⟨j, x, r, h1, h2⟩ := heads_mem ls (i + 1) c h
    exact ⟨j + 1, x, r, by simpa using h1, by rw [h2, show i + 1 + j = i + (j + 1) from by omega]⟩
  | (z :: l) :: ls, i, c, h => by
    rcases List.mem_cons.1 h with rfl | h
    · exact ⟨0, z, l, rfl, rfl⟩
    · obtain ⟨j, x, r, h1, h2⟩ := heads_mem ls (i + 1) c h
      exact ⟨j + 1, x, r, by simpa using h1, by rw [h2, show i + 1 + j = i + (j + 1) from by omega]⟩
variable [Inhabited τ]
/-- What the heap gives is what the loop finds; what is left in it are the others' first things. -/
theorem merge_take {l : List (τ × Int)} {ls : List (List τ)} (hl : HeapL (ahK key) l) (hp : l.Perm (headsF 0 ls)) :
    (l = [] ∧ bestF key 0 none ls = none) ∨ ∃ (j : Nat) (x : τ) (r : List τ), 0 < l.length ∧ bestF key 0 none ls = some (x, (j : Int)) ∧ at' l 0 = (x, (j : Int)) ∧ ls[j]? = some (x :: r) ∧ HeapL (ahK key) (takeL' (ahK key) l) ∧
      ∃ H, (takeL' (ahK key) l).Perm H ∧ (headsF 0 (ls.set j r)).Perm (match r with | [] => H | y :: _ => (y, (j : Int)) :: H) := by
  rcases best_none key ls 0 with ⟨h1, h2⟩ | ⟨c, h1, h2, h3⟩
  · rw [h2] at hp
    exact .inl ⟨List.perm_nil.1 hp, h1⟩
  · right
    obtain ⟨j, x, r, h4, h5⟩ := heads_mem ls 0 c h2
    rw [Nat.zero_add] at h5
    have hc : c ∈ l := hp.symm.subset h2
    have hlen : 0 < l.length := List.length_pos_of_mem hc
    obtain ⟨t1, t2⟩ := take_heap (sound_K key) hl hlen
    have hm0 : at' l 0 ∈ l := t2.subset (List.mem_cons_self)
    have hle : Le (ahK key) (at' l 0) c := by
      obtain ⟨i, hi, e⟩ := List.getElem_of_mem hc
      have q := hl.least (sound_K key) i hi
      have e2 : at' l i = c := by
        have q3 := at_get l i hi
        rw [List.getElem?_eq_getElem hi] at q3
        exact (Option.some.inj q3).symm.trans e
      rw [e2] at q
      exact q
    have h0 : at' l 0 = c := anti_K (heads_one ls 0) (hp.subset hm0) h2 hle (h3 _ (hp.subset hm0))
    obtain ⟨H, g1, g2⟩ := heads_set ls 0 j x r h4
    rw [Nat.zero_add] at g1 g2
    subst h5
    refine ⟨j, x, r, hlen, h1, h0, h4, t1, H, ?_, g2⟩
    rw [h0] at t2
    exact List.Perm.cons_inv ((t2.trans hp).trans g1)
end
end Go.Proofs.Ytpdncgjepfgnjaa
