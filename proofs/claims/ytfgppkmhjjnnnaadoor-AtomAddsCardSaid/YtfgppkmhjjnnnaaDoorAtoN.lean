/- The greatest values by sets, and the normal list: math. -/
import Derived.Test.YtfgppkmhjjnnnaaDoorAtoE
import Derived.Test.YtfgppkmhjjnnnaaDoorTabUH
namespace Go.Proofs.YtfgppkmhjjnnnaaDoor
open Go.RowKit
set_option linter.unusedVariables false

def gPut (l : KV) (x : Ent) : KV := if (Tr.getK (x.1 : Int) l).getD 0 < x.2 then Tr.insK ltN x.1 x.2 l else l
/-- The greatest values of the atoms that were told. -/
structure GInv (dn : List Ent) (l : KV) : Prop where
  rise : Tr.Rising ltN l
  src : ∀ y ∈ l, ∃ x ∈ dn, y = ((x.1 : Int), x.2)
  all : ∀ x ∈ dn, ∃ v, ((x.1 : Int), v) ∈ l ∧ x.2 ≤ v
theorem mem_insK {k v : Int} : ∀ {l : KV}, Tr.Rising ltN l → ∀ y, y ∈ Tr.insK ltN k v l ↔ y = (k, v) ∨ (y ∈ l ∧ y.1 ≠ k)
  | [], h, y => by simp [Tr.insK]
  | (a, b) :: r, h, y => by
    obtain ⟨h1, h2⟩ := List.pairwise_cons.1 h
    have ih := mem_insK (k := k) (v := v) h2 y
    rw [Tr.insK]
    split
    · rename_i e
      subst e
      constructor
      · intro hy
        rcases List.mem_cons.1 hy with hy | hy
        · exact .inl hy
        · exact .inr ⟨List.mem_cons_of_mem _ hy, fun e => by have := h1 y hy; rw [e] at this; simp [ltN] at this⟩
      · rintro (hy | ⟨hy, hne⟩)
        · rw [hy]; exact List.mem_cons_self
        · rcases List.mem_cons.1 hy with hy | hy
          · rw [hy] at hne; exact absurd rfl hne
          · exact List.mem_cons_of_mem _ hy
    · rename_i hka
      split
      · rename_i hlt
        constructor
        · intro hy
          rcases List.mem_cons.1 hy with hy | hy
          · exact .inl hy
          · refine .inr ⟨hy, fun e => ?_⟩
            rcases List.mem_cons.1 hy with hy | hy
            · rw [hy] at e; exact hka e.symm
            · have := h1 y hy
              rw [e] at this
              simp [ltN] at this hlt
              omega
        · rintro (hy | ⟨hy, hne⟩)
          · rw [hy]; exact List.mem_cons_self
          · exact List.mem_cons_of_mem _ hy
      · constructor
        · intro hy
          rcases List.mem_cons.1 hy with hy | hy
          · exact .inr ⟨by rw [hy]; exact List.mem_cons_self, by rw [hy]; exact fun e => hka e.symm⟩
          · rcases ih.1 hy with h3 | ⟨h3, h4⟩
            · exact .inl h3
            · exact .inr ⟨List.mem_cons_of_mem _ h3, h4⟩
        · rintro (hy | ⟨hy, hne⟩)
          · exact List.mem_cons_of_mem _ (ih.2 (.inl hy))
          · rcases List.mem_cons.1 hy with hy | hy
            · rw [hy]; exact List.mem_cons_self
            · exact List.mem_cons_of_mem _ (ih.2 (.inr ⟨hy, hne⟩))
theorem getK_mem {k v : Int} : ∀ {l : KV}, Tr.getK k l = some v → (k, v) ∈ l
  | [], h => by cases h
  | (a, b) :: r, h => by
    rw [Tr.getK] at h
    split at h
    · rename_i e; cases h; rw [e]; exact List.mem_cons_self
    · exact List.mem_cons_of_mem _ (getK_mem h)
theorem mem_getK {k v : Int} : ∀ {l : KV}, Tr.Rising ltN l → (k, v) ∈ l → Tr.getK k l = some v
  | [], h, hm => by cases hm
  | (a, b) :: r, h, hm => by
    obtain ⟨h1, h2⟩ := List.pairwise_cons.1 h
    rw [Tr.getK]
    rcases List.mem_cons.1 hm with e | hm
    · cases e; rw [if_pos rfl]
    · rw [if_neg (fun e => by have := h1 _ hm; rw [e] at this; simp [ltN] at this)]
      exact mem_getK h2 hm
theorem GInv.nil : GInv [] [] := ⟨List.Pairwise.nil, (fun _ h => nomatch h), (fun _ h => nomatch h)⟩
theorem GInv.step {dn : List Ent} {l : KV} (h : GInv dn l) (x : Ent) (hx : 1 ≤ x.2) : GInv (dn ++ [x]) (gPut l x) := by
  unfold gPut
  split
  · rename_i hlt
    have hr := (Tr.insK_rising ordN (x.1 : Int) x.2 l h.rise).1
    refine ⟨hr, fun y hy => ?_, fun z hz => ?_⟩
    · rcases (mem_insK h.rise y).1 hy with e | ⟨hy, _⟩
      · exact ⟨x, by simp, e⟩
      · obtain ⟨z, hz, e⟩ := h.src y hy
        exact ⟨z, List.mem_append_left _ hz, e⟩
    · rcases List.mem_append.1 hz with hz | hz
      · obtain ⟨v, hv, hle⟩ := h.all z hz
        by_cases e : z.1 = x.1
        · have hg := mem_getK h.rise hv
          rw [e] at hg
          rw [hg] at hlt
          simp only [Option.getD_some] at hlt
          exact ⟨x.2, (mem_insK h.rise _).2 (.inl (by rw [e])), by omega⟩
        · exact ⟨v, (mem_insK h.rise _).2 (.inr ⟨hv, fun e2 => e (by simp at e2; omega)⟩), hle⟩
      · obtain rfl := List.mem_singleton.1 hz
        exact ⟨z.2, (mem_insK h.rise _).2 (.inl rfl), Int.le_refl _⟩
  · rename_i hge
    refine ⟨h.rise, fun y hy => ?_, fun z hz => ?_⟩
    · obtain ⟨z, hz, e⟩ := h.src y hy
      exact ⟨z, List.mem_append_left _ hz, e⟩
    · rcases List.mem_append.1 hz with hz | hz
      · exact h.all z hz
      · obtain rfl := List.mem_singleton.1 hz
        cases hg : Tr.getK (z.1 : Int) l with
        | none => rw [hg] at hge; simp only [Option.getD_none] at hge; omega
        | some v => rw [hg] at hge; simp only [Option.getD_some] at hge; exact ⟨v, getK_mem hg, by omega⟩
theorem gPut_len (l : KV) (x : Ent) : (gPut l x).length ≤ l.length + 1 := by
  unfold gPut
  split
  · have : ∀ l : KV, (Tr.insK ltN (x.1 : Int) x.2 l).length ≤ l.length + 1 := by
      intro l
      induction l with
      | nil => simp [Tr.insK]
      | cons y r ih =>
        obtain ⟨a, b⟩ := y
        rw [Tr.insK]
        split
        · simp
        · split <;> simp <;> omega
    exact this l
  · omega
/-- A table's things as atoms. -/
def entsOf (l : KV) : List Ent := l.map fun y => (y.1.toNat, y.2)
/-- What the table holds, in order of sets. -/
structure OrdOf (L S : List Ent) : Prop where
  inc : S.Pairwise fun x y => ltS x.1 y.1 = true
  src : ∀ x ∈ S, x ∈ L
  all : ∀ x ∈ L, ∃ v, (x.1, v) ∈ S ∧ x.2 ≤ v
theorem ordOf {L S : List Ent} {l : KV} (h : GInv L l) (hp : S.Perm (entsOf l)) (hs : S.Pairwise fun x y => ltS y.1 x.1 = false) : OrdOf L S := by
  have hmem : ∀ x : Ent, x ∈ entsOf l ↔ ((x.1 : Int), x.2) ∈ l := fun x => by
    unfold entsOf
    rw [List.mem_map]
    constructor
    · rintro ⟨y, hy, e⟩
      obtain ⟨z, hz, e2⟩ := h.src y hy
      subst e2
      simp only [Int.toNat_natCast] at e
      subst e
      exact hy
    · intro hx
      exact ⟨_, hx, by simp⟩
  have hdist : (entsOf l).Pairwise fun x y => x.1 ≠ y.1 := by
    unfold entsOf
    rw [List.pairwise_map]
    have hrise : l.Pairwise fun x y => ltN x.1 y.1 = true := h.rise
    refine List.Pairwise.imp_of_mem ?_ hrise
    intro y z hy hz hlt e
    obtain ⟨a, _, e1⟩ := h.src y hy
    obtain ⟨b, _, e2⟩ := h.src z hz
    subst e1
    subst e2
    simp [ltN] at hlt e
    omega
  have hd2 : S.Pairwise fun x y => x.1 ≠ y.1 := (hp.pairwise_iff (fun h => h.symm)).2 hdist
  refine ⟨?_, fun x hx => ?_, fun x hx => ?_⟩
  · exact (List.pairwise_and_iff.2 ⟨hs, hd2⟩).imp (fun h => sOrd.total _ _ (Ne.symm h.2) h.1)
  · obtain ⟨y, hy, e⟩ := h.src _ ((hmem x).1 (hp.mem_iff.1 hx))
    have : y = x := by
      have e1 := (Prod.ext_iff.1 e).1
      have e2 := (Prod.ext_iff.1 e).2
      exact Prod.ext (by simp at e1; omega) (by simpa using e2.symm)
    exact this ▸ hy
  · obtain ⟨v, hv, hle⟩ := h.all x hx
    exact ⟨v, hp.mem_iff.2 ((hmem (x.1, v)).2 hv), hle⟩
theorem fold_sub {S : List Ent} : ∀ (ys n : List Ent), (∀ x ∈ n, x ∈ S) → (∀ y ∈ ys, y ∈ S) → ∀ x ∈ ys.foldl (fun n a => if askL withinB n a.1 < a.2 then n ++ [a] else n) n, x ∈ S
  | [], n, h1, _ => h1
  | y :: r, n, h1, h2 => by
    refine fold_sub r _ ?_ (fun y hy => h2 y (List.mem_cons_of_mem _ hy))
    intro x hx
    by_cases hc : askL withinB n y.1 < y.2
    · simp only [if_pos hc] at hx
      rcases List.mem_append.1 hx with hx | hx
      · exact h1 x hx
      · rw [List.mem_singleton.1 hx]; exact h2 y List.mem_cons_self
    · simp only [if_neg hc] at hx
      exact h1 x hx
theorem fold_len : ∀ (ys n : List Ent), (ys.foldl (fun n a => if askL withinB n a.1 < a.2 then n ++ [a] else n) n).length ≤ n.length + ys.length
  | [], n => by simp
  | y :: r, n => by
    simp only [List.foldl_cons, List.length_cons]
    by_cases hc : askL withinB n y.1 < y.2
    · have := fold_len r (n ++ [y])
      simp only [if_pos hc]
      simp only [List.length_append, List.length_singleton] at this
      omega
    · have := fold_len r n
      simp only [if_neg hc]
      omega
theorem normC_sub (S : List Ent) (m : Nat) : ∀ x ∈ normC withinB (S.take m), x ∈ S := fold_sub (S.take m) [] (fun _ h => nomatch h) (fun y hy => List.mem_of_mem_take hy)
theorem normC_len (S : List Ent) (m : Nat) : (normC withinB (S.take m)).length ≤ m ∧ (normC withinB (S.take m)).length ≤ S.length := by
  have h := fold_len (S.take m) []
  unfold normC
  simp at h ⊢
  omega
theorem normC_next {S : List Ent} {m : Nat} {x : Ent} (h : S[m]? = some x) : normC withinB (S.take (m + 1)) = if askL withinB (normC withinB (S.take m)) x.1 < x.2 then normC withinB (S.take m) ++ [x] else normC withinB (S.take m) := by
  rw [take_snoc h]
  unfold normC
  rw [List.foldl_append]
  rfl
/-- It is a list's normal list. -/
structure IsNrm (zs out : List Ent) : Prop where
  tight : Tight ltS withinB okS 1099511627776 out
  ask : ∀ s, askL withinB out s = askL withinB (zs.filter (rightA 1099511627776)) s
theorem IsNrm.uniq {zs a b : List Ent} (h : IsNrm zs a) (h' : IsNrm zs b) : a = b := tight_ext sOrd h.tight h'.tight (fun s _ => (h.ask s).trans (h'.ask s).symm)
theorem right_of {x : Ent} (h : rightA 1099511627776 x = true) : x.1 ≠ 0 ∧ 1 ≤ x.2 ∧ x.2 ≤ 1099511627776 := by
  unfold rightA at h
  simp only [Bool.and_eq_true, decide_eq_true_eq] at h
  exact ⟨h.1.1, h.1.2, h.2⟩
theorem isNrm {zs S : List Ent} (hok : ∀ x ∈ zs, okS x.1) (h : OrdOf (zs.filter (rightA 1099511627776)) S) : IsNrm zs (normC withinB S) := by
  have hr : ∀ x ∈ S, okS x.1 ∧ x.1 ≠ 0 ∧ 1 ≤ x.2 ∧ x.2 ≤ 1099511627776 := fun x hx => by
    obtain ⟨h1, h2⟩ := List.mem_filter.1 (h.src x hx)
    exact ⟨hok x h1, right_of h2⟩
  obtain ⟨h1, h2⟩ := norm_tight sOrd h.inc hr
  refine ⟨h1, fun s => (h2 s).trans (askL_eq (fun x hx hw => askL_ge (h.src x hx) hw) (fun x hx hw => ?_))⟩
  obtain ⟨v, hv, hle⟩ := h.all x hx
  have := askL_ge (wi := withinB) hv hw
  exact Int.le_trans hle this
/-- The document's normal list. -/
theorem isNrm_kept {zs out : List Ent} (hok : ∀ x ∈ zs, okS x.1) (hinc : out.Pairwise fun x y => ltS x.1 y.1 = true) (hm : ∀ x, x ∈ out ↔ ∃ i, zs[i]? = some x ∧ Kept withinB 1099511627776 zs i x) : IsNrm zs out :=
  ⟨kept_tight hok hinc hm, kept_ask sOrd hok hm⟩
theorem len_le_of_nodup : ∀ {a b : List Ent}, a.Nodup → (∀ x ∈ a, x ∈ b) → a.length ≤ b.length
  | [], b, _, _ => Nat.zero_le _
  | x :: r, b, hn, hs => by
    obtain ⟨h1, h2⟩ := List.nodup_cons.1 hn
    have hx := hs x List.mem_cons_self
    have := len_le_of_nodup (b := b.erase x) h2 (fun y hy => (List.mem_erase_of_ne (fun e => h1 (by rw [← e]; exact hy))).2 (hs y (List.mem_cons_of_mem _ hy)))
    rw [List.length_erase_of_mem hx] at this
    have hp := List.length_pos_of_mem hx
    simp; omega
theorem IsNrm.len {zs out : List Ent} (h : IsNrm zs (out)) (hsub : ∀ x ∈ out, x ∈ zs) : out.length ≤ zs.length := by
  have hn : out.Nodup := h.tight.inc.imp (fun {x y} hxy e => by subst e; rw [sOrd.irr] at hxy; cases hxy)
  exact len_le_of_nodup hn hsub
end Go.Proofs.YtfgppkmhjjnnnaaDoor
