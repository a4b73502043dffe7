/- How the store itself finds a set's place, and puts an entry there. No program is spoken of. -/
import Derived.Test.YtpcbdjdmhemjdaaPriM
namespace Go.Proofs.Ytpcbdjdmhemjdaa
set_option linter.unusedVariables false

section
variable (lt wi : Nat → Nat → Bool) (ok : Nat → Prop) (most : Int)
/-- So many entries stand ahead of a set's place. -/
structure IsPl (es : List Ent) (s p : Nat) : Prop where
  le : p ≤ es.length
  iff : ∀ i x, es[i]? = some x → (i < p ↔ lt x.1 s = true)
/-- What is found to be asked. -/
def askC (es : List Ent) (s p : Nat) : Int := match es[p]? with
  | some x => if x.1 = s then x.2 else askL wi (es.take p) s
  | none => askL wi (es.take p) s
/-- What is made of entries by a put at a place. -/
def raiseC (es : List Ent) (e : Ent) (p : Nat) : List Ent := es.take p ++ e :: dropE wi e (es.drop p)
variable {lt wi ok most} (ho : SOrd lt wi ok)
include ho
theorem asked_eq {es : List Ent} {s p : Nat} (h : Tight lt wi ok most es) (hs : ok s) (hp : IsPl lt es s p) : askC wi es s p = askL wi es s := by
  have hrest : (∀ x, es[p]? = some x → x.1 ≠ s) → askL wi (es.take p) s = askL wi es s := fun hn => by
    refine askL_eq (fun x hx hw => askL_ge (List.mem_of_mem_take hx) hw) (fun x hx hw => ?_)
    obtain ⟨i, hi⟩ := List.getElem?_of_mem hx
    have hlt : lt x.1 s = true := by
      rcases ho.wlt _ _ (h.right x hx).1 hs hw with e | e
      · exfalso
        -- what stands at the place is no greater
        have hip : p ≤ i := by
          apply Decidable.byContradiction
          intro hn2
          have := (hp.iff i x hi).1 (by omega)
          rw [e, ho.irr] at this; cases this
        obtain ⟨y, hy⟩ : ∃ y, es[p]? = some y := ⟨_, List.getElem?_eq_getElem (by have := (List.getElem?_eq_some_iff.1 hi).1; omega)⟩
        have hny := hn y hy
        have h1 : ¬ lt y.1 s = true := fun h2 => by have := (hp.iff p y hy).2 h2; omega
        have h2 : lt s y.1 = true := ho.total _ _ hny (by simpa using h1)
        rcases Nat.eq_or_lt_of_le hip with h3 | h3
        · subst h3; rw [hi] at hy; cases hy; exact hny e
        · obtain ⟨k1, k2⟩ := List.getElem?_eq_some_iff.1 hy
          obtain ⟨k3, k4⟩ := List.getElem?_eq_some_iff.1 hi
          have := List.pairwise_iff_getElem.1 h.inc p i k1 k3 h3
          rw [k2, k4, e] at this
          have h4 := ho.asym h2
          rw [this] at h4; cases h4
      · exact e
    have hip := (hp.iff i x hi).2 hlt
    exact askL_ge (List.mem_of_getElem? (i := i) (by rw [List.getElem?_take, if_pos hip]; exact hi)) hw
  unfold askC
  cases hx : es[p]? with
  | none => exact hrest (fun x e => by rw [hx] at e; cases e)
  | some x =>
    simp only
    by_cases hxs : x.1 = s
    · rw [if_pos hxs, ← hxs]
      exact (ask_own ho h (List.mem_of_getElem? hx)).symm
    · rw [if_neg hxs]
      exact hrest (fun y e => by rw [hx] at e; cases e; exact hxs)
omit ho in
theorem ins_past {e : Ent} : ∀ {A B : List Ent}, (∀ x ∈ A, lt e.1 x.1 = false) → (∀ x ∈ B, lt e.1 x.1 = true) → insE lt e (A ++ B) = A ++ e :: B
  | [], [], _, _ => rfl
  | [], y :: r, _, hB => by
    show insE lt e (y :: r) = e :: y :: r
    unfold insE
    rw [if_pos (hB y List.mem_cons_self)]
  | x :: A, B, hA, hB => by
    show insE lt e (x :: (A ++ B)) = x :: (A ++ e :: B)
    conv => lhs; unfold insE
    rw [if_neg (by rw [hA x List.mem_cons_self]; decide), ins_past (fun y hy => hA y (List.mem_cons_of_mem _ hy)) hB]
theorem raise_eq {es : List Ent} {e : Ent} {p : Nat} (h : Tight lt wi ok most es) (hok : ok e.1) (hp : IsPl lt es e.1 p) (hr : rises wi most es e = true) : raiseC wi es e p = putE lt wi most es e := by
  unfold putE
  rw [if_pos hr]
  unfold rises at hr
  simp only [Bool.and_eq_true, decide_eq_true_eq] at hr
  have ha := hr.2
  have hlow : ∀ x ∈ es.take p, lt x.1 e.1 = true := fun x hx => by
    obtain ⟨i, hi⟩ := List.getElem?_of_mem hx
    rw [List.getElem?_take] at hi
    split at hi
    · rename_i hip; exact (hp.iff i x hi).1 hip
    · cases hi
  have hhigh : ∀ x ∈ es.drop p, lt x.1 e.1 = false := fun x hx => by
    obtain ⟨i, hi⟩ := List.getElem?_of_mem hx
    rw [List.getElem?_drop] at hi
    cases hl : lt x.1 e.1 with
    | false => rfl
    | true => have := (hp.iff _ x hi).2 hl; omega
  have hd : dropE wi e es = es.take p ++ dropE wi e (es.drop p) := by
    conv => lhs; rw [← List.take_append_drop p es]
    unfold dropE
    rw [List.filter_append]
    congr 1
    refine List.filter_eq_self.2 (fun x hx => ?_)
    have h1 := hlow x hx
    cases hw : wi e.1 x.1 with
    | false => simp
    | true =>
      exfalso
      rcases ho.wlt _ _ hok (h.right x (List.mem_of_mem_take hx)).1 hw with e2 | e2
      · rw [e2, ho.irr] at h1; cases h1
      · have := ho.asym e2; rw [h1] at this; cases this
  rw [hd]
  unfold raiseC
  refine (ins_past (fun x hx => ho.asym (hlow x hx)) (fun x hx => ?_)).symm
  unfold dropE at hx
  rw [List.mem_filter] at hx
  refine ho.total _ _ (fun e2 => ?_) (hhigh x hx.1)
  have h2 := askL_ge (wi := wi) (List.mem_of_mem_drop hx.1) (s := e.1) (by rw [e2]; exact ho.refl _)
  have h3 := hx.2
  rw [← e2, ho.refl] at h3
  simp at h3
  omega
omit ho in
/-- The document's way: the entries one by one, and the new one ahead of the first that stands behind it. -/
theorem put_step {e x : Ent} {r : List Ent} : insE lt e (dropE wi e (x :: r)) = if (wi e.1 x.1 && decide (x.2 ≤ e.2)) = true then insE lt e (dropE wi e r) else if lt e.1 x.1 = true then e :: x :: dropE wi e r else x :: insE lt e (dropE wi e r) := by
  unfold dropE
  rw [List.filter_cons]
  cases hc : (wi e.1 x.1 && decide (x.2 ≤ e.2)) with
  | true => simp
  | false =>
    simp only [Bool.not_false, if_true, Bool.false_eq_true, if_false]
    rfl
omit ho in
theorem drop_step {e x : Ent} {r : List Ent} : dropE wi e (x :: r) = if (wi e.1 x.1 && decide (x.2 ≤ e.2)) = true then dropE wi e r else x :: dropE wi e r := by
  unfold dropE
  rw [List.filter_cons]
  cases hc : (wi e.1 x.1 && decide (x.2 ≤ e.2)) <;> simp
theorem of_tight : ∀ {xs acc : List Ent}, Tight lt wi ok most acc → (∀ x ∈ xs, ok x.1) → Tight lt wi ok most (xs.foldl (putE lt wi most) acc)
  | [], acc, h, _ => h
  | x :: r, acc, h, hx => of_tight (xs := r) (acc := putE lt wi most acc x) (put_tight ho h (hx x List.mem_cons_self)) (fun y hy => hx y (List.mem_cons_of_mem _ hy))
omit ho in
theorem tight_nil : Tight lt wi ok most [] := ⟨List.Pairwise.nil, (fun x h => nomatch h), (fun x h => nomatch h)⟩
/-- What counts of an entry that is put. -/
def rightE (most : Int) (x : Ent) : Bool := decide (x.1 ≠ 0) && decide (x.2 ≤ most)
/-- What all that was put asks: the most of what may be asked. -/
theorem ask_of {most : Int} : ∀ (xs acc : List Ent) (s : Nat), (∀ x ∈ xs, wi x.1 s = true → rightE most x = true → x.2 ≤ askL wi (xs.foldl (putE lt wi most) acc) s) ∧ askL wi acc s ≤ askL wi (xs.foldl (putE lt wi most) acc) s ∧ (askL wi (xs.foldl (putE lt wi most) acc) s = askL wi acc s ∨ ∃ x ∈ xs, wi x.1 s = true ∧ rightE most x = true ∧ askL wi (xs.foldl (putE lt wi most) acc) s = x.2)
  | [], acc, s => ⟨(fun x h => nomatch h), Int.le_refl _, .inl rfl⟩
  | x :: r, acc, s => by
    obtain ⟨h1, h2, h3⟩ := ask_of r (putE lt wi most acc x) s
    have hp := ask_put (most := most) ho (es := acc) (e := x) s
    simp only [List.foldl_cons]
    have hge : askL wi acc s ≤ askL wi (putE lt wi most acc x) s := by rw [hp]; split <;> omega
    refine ⟨fun y hy hw hry => ?_, Int.le_trans hge h2, ?_⟩
    · rcases List.mem_cons.1 hy with rfl | hy
      · have hx2 : y.2 ≤ askL wi (putE lt wi most acc y) s := by
          by_cases hr : rises wi most acc y = true
          · rw [hp, if_pos ⟨hr, hw⟩]; omega
          · -- it asks no more than is asked already
            have hle : y.2 ≤ askL wi acc y.1 := by
              unfold rightE at hry
              unfold rises at hr
              simp only [Bool.and_eq_true, decide_eq_true_eq] at hry hr
              apply Decidable.byContradiction
              intro hn
              exact hr ⟨⟨hry.1, hry.2⟩, by omega⟩
            have : askL wi acc y.1 ≤ askL wi acc s := askL_le (askL_nonneg _ _) (fun z hz hzw => askL_ge hz (ho.wtrans _ _ _ hzw hw))
            omega
        exact Int.le_trans hx2 h2
      · exact h1 y hy hw hry
    · rcases h3 with h3 | ⟨y, hy, k1, k2, k3⟩
      · rw [h3, hp]
        split
        · rename_i hc
          rcases Int.le_total (askL wi acc s) x.2 with h | h
          · rw [Int.max_eq_right h]
            refine .inr ⟨x, List.mem_cons_self, hc.2, ?_, rfl⟩
            have hr := hc.1
            unfold rises at hr
            unfold rightE
            simp only [Bool.and_eq_true, decide_eq_true_eq] at hr ⊢
            exact hr.1
          · rw [Int.max_eq_left h]; exact .inl rfl
        · exact .inl rfl
      · exact .inr ⟨y, List.mem_cons_of_mem _ hy, k1, k2, k3⟩
/-- Entries that are put in whatever order, however often, ask the same, and are the same. -/
theorem of_same {most : Int} {xs ys : List Ent} (h : ∀ x, x ∈ xs ↔ x ∈ ys) (hx : ∀ x ∈ xs, ok x.1) : ofE lt wi most xs = ofE lt wi most ys := by
  refine tight_ext ho (of_tight ho tight_nil hx) (of_tight ho tight_nil (fun y hy => hx y ((h y).2 hy))) (fun s hs => ?_)
  obtain ⟨a1, a2, a3⟩ := ask_of (lt := lt) (wi := wi) (most := most) ho xs [] s
  obtain ⟨b1, b2, b3⟩ := ask_of (lt := lt) (wi := wi) (most := most) ho ys [] s
  unfold ofE
  apply Int.le_antisymm
  · rcases a3 with e | ⟨x, k1, k2, k3, k4⟩
    · rw [e]; exact b2
    · rw [k4]; exact b1 x ((h x).1 k1) k2 k3
  · rcases b3 with e | ⟨x, k1, k2, k3, k4⟩
    · rw [e]; exact a2
    · rw [k4]; exact a1 x ((h x).2 k1) k2 k3
end
end Go.Proofs.Ytpcbdjdmhemjdaa
