/- The math of normal lists of atoms: they are tight entries (PriM), and the only ones that are worth the same. No program is spoken of. -/
import Derived.Test.YtfgppkmhjjnnnaaDoorPriN
namespace Go.Proofs.YtfgppkmhjjnnnaaDoor
set_option linter.unusedVariables false

section
variable (lt wi : Nat → Nat → Bool) (ok : Nat → Prop) (most : Int)
/-- An atom is right. -/
def rightA (x : Ent) : Bool := decide (x.1 ≠ 0) && decide (1 ≤ x.2) && decide (x.2 ≤ most)
/-- What is kept of atoms in order: one that is worth more than what lies ahead of it says. -/
def normC (xs : List Ent) : List Ent := xs.foldl (fun n a => if askL wi n a.1 < a.2 then n ++ [a] else n) []
/-- The document keeps an atom that no other one beats. -/
def Kept (zs : List Ent) (i : Nat) (a : Ent) : Prop := rightA most a = true ∧ ∀ k b, zs[k]? = some b → k ≠ i → rightA most b = true → wi b.1 a.1 = true → a.2 ≤ b.2 → b = a ∧ i < k
variable {lt wi ok most} (ho : SOrd lt wi ok)
theorem askL_app (xs ys : List Ent) (s : Nat) : askL wi (xs ++ ys) s = max (askL wi xs s) (askL wi ys s) := by
  induction xs with
  | nil =>
    have := askL_nonneg (wi := wi) ys s
    show askL wi ys s = max 0 (askL wi ys s)
    omega
  | cons e es ih =>
    show askL wi (e :: (es ++ ys)) s = _
    rw [askL_cons, askL_cons, ih]
    split <;> omega
theorem askL_one (a : Ent) (s : Nat) : askL wi [a] s = if wi a.1 s = true then max 0 a.2 else 0 := rfl
include ho
theorem norm_step : ∀ (ys xs : List Ent), ((xs ++ ys).Pairwise fun x y => lt x.1 y.1 = true) → (∀ x ∈ xs ++ ys, ok x.1 ∧ x.1 ≠ 0 ∧ 1 ≤ x.2 ∧ x.2 ≤ most) → ∀ n : List Ent, Tight lt wi ok most n → (∀ x ∈ n, x ∈ xs) → (∀ s, askL wi n s = askL wi xs s) →
    Tight lt wi ok most (ys.foldl (fun n a => if askL wi n a.1 < a.2 then n ++ [a] else n) n) ∧ ∀ s, askL wi (ys.foldl (fun n a => if askL wi n a.1 < a.2 then n ++ [a] else n) n) s = askL wi (xs ++ ys) s
  | [], xs, hp, hr, n, hT, hs, ha => ⟨hT, fun s => by rw [List.append_nil]; exact ha s⟩
  | a :: r, xs, hp, hr, n, hT, hs, ha => by
    have e : xs ++ a :: r = (xs ++ [a]) ++ r := by simp
    have hlow : ∀ x ∈ xs, lt x.1 a.1 = true := fun x hx => (List.pairwise_append.1 hp).2.2 x hx a List.mem_cons_self
    have hra := hr a (List.mem_append_right _ List.mem_cons_self)
    rw [e] at hp hr ⊢
    simp only [List.foldl_cons]
    refine norm_step r (xs ++ [a]) hp hr _ ?_ ?_ ?_
    · split
      · rename_i hlt
        refine ⟨List.pairwise_append.2 ⟨hT.inc, List.pairwise_singleton _ _, fun x hx y hy => ?_⟩, fun x hx => ?_, fun x hx y hy hne hw => ?_⟩
        · obtain rfl := List.mem_singleton.1 hy
          exact hlow x (hs x hx)
        · rcases List.mem_append.1 hx with hx | hx
          · exact hT.right x hx
          · obtain rfl := List.mem_singleton.1 hx
            exact hra
        · rcases List.mem_append.1 hx with hx1 | hx1
          · rcases List.mem_append.1 hy with hy1 | hy1
            · exact hT.need x hx1 y hy1 hne hw
            · have hya := List.mem_singleton.1 hy1
              rw [hya] at hw ⊢
              have := askL_ge hx1 hw
              omega
          · obtain rfl := List.mem_singleton.1 hx1
            rcases List.mem_append.1 hy with hy | hy
            · exfalso
              have h1 := hlow y (hs y hy)
              rcases ho.wlt _ _ hra.1 (hT.right y hy).1 hw with e2 | e2
              · rw [e2, ho.irr] at h1; cases h1
              · have := ho.asym e2; rw [h1] at this; cases this
            · exact absurd (List.mem_singleton.1 hy).symm hne
      · exact hT
    · intro x hx
      split at hx
      · rcases List.mem_append.1 hx with hx | hx
        · exact List.mem_append_left _ (hs x hx)
        · exact List.mem_append_right _ hx
      · exact List.mem_append_left _ (hs x hx)
    · intro s
      rw [askL_app]
      split
      · rw [askL_app, ha s]
      · rename_i hge
        rw [ha s, askL_one]
        split
        · rename_i hw
          have h1 : askL wi n a.1 ≤ askL wi n s := askL_le (askL_nonneg _ _) (fun x hx hxw => askL_ge hx (ho.wtrans _ _ _ hxw hw))
          rw [ha s] at h1
          have h2 := askL_nonneg (wi := wi) xs s
          omega
        · have h2 := askL_nonneg (wi := wi) xs s
          omega
/-- The code's way: tight, and worth the same. -/
theorem norm_tight {xs : List Ent} (hp : xs.Pairwise fun x y => lt x.1 y.1 = true) (hr : ∀ x ∈ xs, ok x.1 ∧ x.1 ≠ 0 ∧ 1 ≤ x.2 ∧ x.2 ≤ most) : Tight lt wi ok most (normC wi xs) ∧ ∀ s, askL wi (normC wi xs) s = askL wi xs s := by
  have h := norm_step (wi := wi) ho xs [] (by simpa using hp) (by simpa using hr) [] tight_nil (fun x hx => nomatch hx) (fun s => rfl)
  simpa [normC] using h
omit ho in
/-- The document's way: tight. -/
theorem kept_tight {zs out : List Ent} (hok : ∀ x ∈ zs, ok x.1) (hinc : out.Pairwise fun x y => lt x.1 y.1 = true) (hm : ∀ x, x ∈ out ↔ ∃ i, zs[i]? = some x ∧ Kept wi most zs i x) : Tight lt wi ok most out := by
  have hright : ∀ x, rightA most x = true → x.1 ≠ 0 ∧ 1 ≤ x.2 ∧ x.2 ≤ most := fun x h => by
    unfold rightA at h
    simp only [Bool.and_eq_true, decide_eq_true_eq] at h
    exact ⟨h.1.1, h.1.2, h.2⟩
  refine ⟨hinc, fun x hx => ?_, fun x hx y hy hne hw => ?_⟩
  · obtain ⟨i, h1, h2, _⟩ := (hm x).1 hx
    exact ⟨hok x (List.mem_of_getElem? h1), hright x h2⟩
  · obtain ⟨i, h1, h2, h3⟩ := (hm x).1 hx
    obtain ⟨j, k1, k2, k3⟩ := (hm y).1 hy
    apply Decidable.byContradiction
    intro hn
    have hij : i ≠ j := fun e => by subst e; rw [h1] at k1; cases k1; exact hne rfl
    exact hne (k3 i x h1 hij h2 hw (by omega)).1
/-- Each right atom has a kept one within it that is worth as much. -/
theorem kept_below {zs : List Ent} (hok : ∀ x ∈ zs, ok x.1) : ∀ (m : Nat) (a : Ent), a ∈ zs → rightA most a = true → (zs.filter fun b => rightA most b && (wi b.1 a.1 && decide (a.2 ≤ b.2))).length ≤ m → ∃ i b, zs[i]? = some b ∧ Kept wi most zs i b ∧ wi b.1 a.1 = true ∧ a.2 ≤ b.2
  | 0, a, ha, hr, hl => by
    have : a ∈ zs.filter fun b => rightA most b && (wi b.1 a.1 && decide (a.2 ≤ b.2)) := List.mem_filter.2 ⟨ha, by simp [hr, ho.refl]⟩
    have h2 := List.length_pos_of_mem this
    omega
  | m + 1, a, ha, hr, hl => by
    -- the first place of a
    have hidx : ∃ i : Nat, zs[i]? = some a ∧ ∀ k, k < i → zs[k]? ≠ some a := by
      obtain ⟨i, hi⟩ := List.getElem?_of_mem ha
      induction i using Nat.strongRecOn with
      | _ i ih =>
        by_cases h : ∃ k, k < i ∧ zs[k]? = some a
        · obtain ⟨k, hk, hk2⟩ := h
          exact ih k hk hk2
        · exact ⟨i, hi, fun k hk e => h ⟨k, hk, e⟩⟩
    obtain ⟨i, hi, hfirst⟩ := hidx
    by_cases hk : Kept wi most zs i a
    · exact ⟨i, a, hi, hk, ho.refl _, Int.le_refl _⟩
    · -- one beats it: go down to that one
      have : ∃ k b, zs[k]? = some b ∧ k ≠ i ∧ rightA most b = true ∧ wi b.1 a.1 = true ∧ a.2 ≤ b.2 ∧ ¬ (b = a ∧ i < k) := by
        apply Classical.byContradiction
        intro hn
        refine hk ⟨hr, fun k b h1 h2 h3 h4 h5 => ?_⟩
        apply Classical.byContradiction
        intro h6
        exact hn ⟨k, b, h1, h2, h3, h4, h5, h6⟩
      obtain ⟨k, b, h1, h2, h3, h4, h5, h6⟩ := this
      have hba : b ≠ a := fun e => by
        subst e
        rcases Nat.lt_or_ge i k with h | h
        · exact h6 ⟨rfl, h⟩
        · exact hfirst k (by omega) h1
      -- fewer lie within it
      have hsub : (zs.filter fun c => rightA most c && (wi c.1 b.1 && decide (b.2 ≤ c.2))).length ≤ m := by
        have hle : (zs.filter fun c => rightA most c && (wi c.1 b.1 && decide (b.2 ≤ c.2))).length + 1 ≤ (zs.filter fun c => rightA most c && (wi c.1 a.1 && decide (a.2 ≤ c.2))).length := by
          have hnot : (rightA most a && (wi a.1 b.1 && decide (b.2 ≤ a.2))) = false := by
            cases hw : wi a.1 b.1 with
            | false => simp
            | true =>
              by_cases hv : b.2 ≤ a.2
              · exfalso
                have hoka := hok a ha
                have hokb := hok b (List.mem_of_getElem? h1)
                have e1 : a.1 = b.1 := by
                  rcases ho.wlt _ _ hoka hokb hw with e | e
                  · exact e
                  · rcases ho.wlt _ _ hokb hoka h4 with e2 | e2
                    · exact e2.symm
                    · have := ho.asym e; rw [e2] at this; cases this
                exact hba (Prod.ext e1.symm (by omega))
              · simp [hv]
          have himp : ∀ c, (rightA most c && (wi c.1 b.1 && decide (b.2 ≤ c.2))) = true → (rightA most c && (wi c.1 a.1 && decide (a.2 ≤ c.2))) = true := fun c hc => by
            simp only [Bool.and_eq_true, decide_eq_true_eq] at hc ⊢
            exact ⟨hc.1, ho.wtrans _ _ _ hc.2.1 h4, by omega⟩
          have hain : (rightA most a && (wi a.1 a.1 && decide (a.2 ≤ a.2))) = true := by simp [hr, ho.refl]
          generalize hP : (fun c : Ent => rightA most c && (wi c.1 b.1 && decide (b.2 ≤ c.2))) = P
          generalize hQ : (fun c : Ent => rightA most c && (wi c.1 a.1 && decide (a.2 ≤ c.2))) = Q
          have hPa : P a = false := by rw [← hP]; exact hnot
          have hQa : Q a = true := by rw [← hQ]; exact hain
          have hPQ : ∀ c, P c = true → Q c = true := by rw [← hP, ← hQ]; exact himp
          clear hP hQ hi hfirst hk hl
          induction zs with
          | nil => cases ha
          | cons x r ih =>
            rcases List.mem_cons.1 ha with rfl | ha'
            · rw [List.filter_cons_of_neg (by rw [hPa]; decide), List.filter_cons_of_pos hQa]
              have : (r.filter P).length ≤ (r.filter Q).length := by
                rw [← List.countP_eq_length_filter, ← List.countP_eq_length_filter]
                exact List.countP_mono_left (fun c _ h => hPQ c h)
              simp; omega
            · have : (r.filter P).length + 1 ≤ (r.filter Q).length := by
                clear ih
                clear h1 h2 h6 hok
                induction r with
                | nil => cases ha'
                | cons y q ih2 =>
                  have hmono : (q.filter P).length ≤ (q.filter Q).length := by
                    rw [← List.countP_eq_length_filter, ← List.countP_eq_length_filter]
                    exact List.countP_mono_left (fun c _ h => hPQ c h)
                  rcases List.mem_cons.1 ha' with rfl | ha2
                  · rw [List.filter_cons_of_neg (by rw [hPa]; decide), List.filter_cons_of_pos hQa]
                    simp; omega
                  · have h9 := ih2 (List.mem_cons_of_mem _ ha2) ha2
                    rw [List.filter_cons, List.filter_cons]
                    cases hp : P y with
                    | true => rw [hPQ y hp]; simp; omega
                    | false => cases hq : Q y <;> simp <;> omega
              rw [List.filter_cons, List.filter_cons]
              cases hp : P x with
              | true => rw [hPQ x hp]; simp; omega
              | false => cases hq : Q x <;> simp <;> omega
        omega
      obtain ⟨j, c, c1, c2, c3, c4⟩ := kept_below hok m b (List.mem_of_getElem? h1) h3 hsub
      exact ⟨j, c, c1, c2, ho.wtrans _ _ _ c3 h4, by omega⟩
theorem kept_ask {zs out : List Ent} (hok : ∀ x ∈ zs, ok x.1) (hm : ∀ x, x ∈ out ↔ ∃ i, zs[i]? = some x ∧ Kept wi most zs i x) (s : Nat) : askL wi out s = askL wi (zs.filter (rightA most)) s := by
  refine askL_eq (fun x hx hw => ?_) (fun x hx hw => ?_)
  · obtain ⟨i, h1, h2, _⟩ := (hm x).1 hx
    exact askL_ge (List.mem_filter.2 ⟨List.mem_of_getElem? h1, h2⟩) hw
  · obtain ⟨h1, h2⟩ := List.mem_filter.1 hx
    obtain ⟨i, b, k1, k2, k3, k4⟩ := kept_below ho hok _ x h1 h2 (Nat.le_refl _)
    have := askL_ge (wi := wi) ((hm b).2 ⟨i, k1, k2⟩) (ho.wtrans _ _ _ k3 hw)
    omega
end
end Go.Proofs.YtfgppkmhjjnnnaaDoor
