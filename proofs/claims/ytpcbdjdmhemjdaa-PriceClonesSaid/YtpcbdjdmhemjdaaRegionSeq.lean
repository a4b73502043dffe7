/- A region that draws its order, whose last operations wait, one behind the other, for all ahead of them: those are walked in a row. No program is spoken of. -/
import Derived.Test.YtpcbdjdmhemjdaaRegionTail
namespace Go.Proofs.Ytpcbdjdmhemjdaa
open Go.RowKit
set_option linter.unusedVariables false

theorem wpAny_headC {P : Program} {ops : Array Oper} {Q : Exit → Act → World → Prop} (n t : Nat) (hnt : ops.size = n + t) (fill : (Nat → Value) → Act) (C : World → Prop) (V : Nat → Value → World → Prop) (Ext : World → World → Prop)
    (hC : ∀ w w', C w → Ext w w' → C w') (hV : ∀ i u w w', V i u w → Ext w w' → V i u w')
    (hback : ∀ i o, ops[i]? = some o → ∀ e ∈ o.after, Region.binds .any e = true → e.on < i)
    (htail : ∀ (S : Nat → Prop), (∀ i o, ops[i]? = some o → S i → ∀ e ∈ o.after, Region.binds .any e = true → S e.on) → ∀ i o, n ≤ i → ops[i]? = some o → (∀ e ∈ o.after, Region.binds .any e = true → S e.on) → ∀ j, j < n → S j)
    (hop : ∀ i o, i < n → ops[i]? = some o → ∀ (v : Nat → Value) (w : World), C w → (∀ e ∈ o.after, Region.binds .any e = true → V e.on (v e.on) w) →
      OpDoes P ops o (fill v) w fun a' w' => ∃ u, a' = fill (updV v i u) ∧ Ext w w' ∧ V i u w')
    (hend : ∀ v w fuel, t ≤ fuel → C w → (∀ i, i < n → V i (v i) w) → wpAny P .any ops Q fuel (headL n t) (fill v) w) :
    ∀ (fuel : Nat) (listed : Array Bool) (v : Nat → Value) (w : World), unlisted ops.size listed ≤ fuel → listed.size = ops.size → C w → (∀ i, listed.getD i false = true → i < n ∧ V i (v i) w) → (∀ i o, ops[i]? = some o → listed.getD i false = true → ∀ e ∈ o.after, Region.binds .any e = true → listed.getD e.on false = true) →
      wpAny P .any ops Q fuel listed (fill v) w := by
  have htrue : ∀ (listed : Array Bool) (i : Nat), listed.getD i false = true → listed[i]? = some true := by
    intro listed i h
    rw [Array.getD_eq_getD_getElem?] at h
    cases e : listed[i]? with
    | none => rw [e] at h; cases h
    | some b =>
      rw [e] at h
      cases b with
      | false => cases h
      | true => rfl
  have hfalse : ∀ (listed : Array Bool) (i : Nat), i < listed.size → listed.getD i false ≠ true → listed[i]? = some false := by
    intro listed i hi h
    rw [Array.getD_eq_getD_getElem?, Array.getElem?_eq_getElem hi] at h
    rw [Array.getElem?_eq_getElem hi]
    cases e : listed[i] with
    | false => rfl
    | true => rw [e] at h; exact absurd rfl h
  intro fuel
  induction fuel with
  | zero =>
    intro listed v w hf hs hc hv hcl
    -- all have come up: so there is no tail
    have hall : ∀ i, i < ops.size → listed.getD i false = true := by
      intro i hi
      apply Decidable.byContradiction
      intro hne
      have h1 := hfalse listed i (by omega) hne
      have h2 := unlisted_set (n := ops.size) (i := i) (listed := listed) hi hs (by rw [Array.getD_eq_getD_getElem?, h1]; rfl)
      omega
    have ht0 : t = 0 := by
      apply Decidable.byContradiction
      intro h
      have := (hv n (hall n (by omega))).1
      omega
    subst ht0
    have he : listed = headL n 0 := by
      apply Array.ext_getElem?
      intro i
      rw [headL_get]
      by_cases hi : i < n
      · rw [if_pos hi]; exact htrue _ _ (hall i (by omega))
      · rw [if_neg hi, if_neg (by omega)]; exact Array.getElem?_eq_none (by omega)
    rw [he]
    exact hend v w 0 (Nat.le_refl _) hc (fun i hi => (hv i (hall i (by omega))).2)
  | succ fuel ih =>
    intro listed v w hf hs hc hv hcl
    by_cases hall : ∀ i, i < n → listed.getD i false = true
    · have he : listed = headL n t := by
        apply Array.ext_getElem?
        intro i
        rw [headL_get]
        by_cases hi : i < n
        · rw [if_pos hi]; exact htrue _ _ (hall i hi)
        · rw [if_neg hi]
          by_cases hi2 : i < n + t
          · rw [if_pos hi2]
            exact hfalse listed i (by omega) (fun h => hi (hv i h).1)
          · rw [if_neg hi2]; exact Array.getElem?_eq_none (by omega)
      have htf : t ≤ fuel + 1 := by
        refine Nat.le_trans ?_ hf
        rw [he]
        unfold unlisted
        have : (List.range ops.size).filter (fun i => !(headL n t).getD i true) = (List.range ops.size).filter (fun i => decide (n ≤ i)) := by
          refine List.filter_congr ?_
          intro i hi
          have hi' := List.mem_range.1 hi
          rw [Array.getD_eq_getD_getElem?, headL_get]
          by_cases h : i < n
          · rw [if_pos h, decide_eq_false (by omega)]; rfl
          · rw [if_neg h, if_pos (by omega), decide_eq_true (by omega)]; rfl
        rw [this, hnt, List.range_add, List.filter_append, List.length_append]
        have h2 : (((List.range t).map (fun x => n + x)).filter (fun i => decide (n ≤ i))).length = t := by
          rw [List.filter_eq_self.2 (by intro a ha; obtain ⟨b, _, rfl⟩ := List.mem_map.1 ha; simp)]
          simp
        omega
      rw [he]
      exact hend v w _ htf hc (fun i hi => (hv i (hall i hi)).2)
    · -- one of the head is missing: none of the tail is ready
      have hready : ∀ i, i ∈ Region.ready .any ops listed → i < n := by
        intro i hi
        apply Decidable.byContradiction
        intro hge
        obtain ⟨_, o, ho, hall2⟩ := mem_ready.1 hi
        exact hall fun j hj => htail (fun k => listed.getD k false = true) hcl i o (by omega) ho hall2 j hj
      refine ⟨fun hr => ?_, fun i hi => ?_⟩
      · exfalso
        refine hall ?_
        intro i
        induction i using Nat.strongRecOn with
        | _ i ih2 =>
          intro hi
          apply Decidable.byContradiction
          intro hne
          have h1 := hfalse listed i (by omega) hne
          have : i ∈ Region.ready .any ops listed := mem_ready.2 ⟨by rw [Array.getD_eq_getD_getElem?, h1]; rfl, ops[i]'(by omega), Array.getElem?_eq_getElem (by omega), fun e he hb => by
            have h2 := hback i _ (Array.getElem?_eq_getElem (by omega)) e he hb
            exact ih2 e.on h2 (by omega)⟩
          rw [hr] at this
          cases this
      · have hin := hready i hi
        obtain ⟨h0, o, ho, hall2⟩ := mem_ready.1 hi
        refine wpOp_mono ?_ (wpOp_of_does ho (hop i o hin ho v w hc fun e he hb => (hv e.on (hall2 e he hb)).2))
        rintro a' w' ⟨u, rfl, hx, hu⟩
        refine ih _ (updV v i u) w' (by have := unlisted_set (n := ops.size) (by omega) hs h0; omega) (by simp [hs]) (hC _ _ hc hx) (fun j hj => ?_) (fun j o' ho' hj e he hb => ?_)
        by_cases hji : j = i
        · subst hji; rw [updV_self]; exact ⟨hin, hu⟩
        · rw [updV_ne v u hji]
          have : (listed.setIfInBounds i true).getD j false = listed.getD j false := by
            simp [Array.getD_eq_getD_getElem?, Array.getElem?_setIfInBounds, Ne.symm hji]
          rw [this] at hj
          exact ⟨(hv j hj).1, hV _ _ _ _ (hv j hj).2 hx⟩
        · have hset : ∀ k, (listed.setIfInBounds i true).getD k false = if k = i then true else listed.getD k false := fun k => by
            have hlt := (Array.getElem?_eq_some_iff.1 ho).1
            by_cases hki : k = i
            · subst hki
              rw [if_pos rfl, Array.getD_eq_getD_getElem?, Array.getElem?_setIfInBounds, if_pos rfl, if_pos (by omega)]; rfl
            · rw [if_neg hki]
              simp [Array.getD_eq_getD_getElem?, Array.getElem?_setIfInBounds, Ne.symm hki]
          rw [hset] at hj ⊢
          by_cases h1 : e.on = i
          · rw [if_pos h1]
          · rw [if_neg h1]
            by_cases h2 : j = i
            · subst h2
              rw [ho] at ho'
              cases ho'
              exact hall2 e he hb
            · rw [if_neg h2] at hj
              exact hcl j o' ho' hj e he hb

/-- Does operation i wait for operation j, at once or by others? -/
def reachB (l : List Oper) : Nat → Nat → Nat → Bool
  | 0, _, _ => false
  | f + 1, i, j => match l[i]? with
    | some o => o.after.any fun e => Region.binds .any e && (decide (e.on = j) || reachB l f e.on j)
    | none => false
theorem reach_closed {l : List Oper} {S : Nat → Prop} (hS : ∀ i o, l.toArray[i]? = some o → S i → ∀ e ∈ o.after, Region.binds .any e = true → S e.on) : ∀ (f i j : Nat), reachB l f i j = true → (∀ o, l.toArray[i]? = some o → ∀ e ∈ o.after, Region.binds .any e = true → S e.on) → S j
  | 0, _, _, h, _ => by cases h
  | f + 1, i, j, h, hi => by
    unfold reachB at h
    cases ho : l[i]? with
    | none => rw [ho] at h; cases h
    | some o =>
      rw [ho] at h
      obtain ⟨e, he, h3⟩ := Array.any_eq_true'.1 h
      rw [Bool.and_eq_true] at h3
      have hSe := hi o (by simpa using ho) e he h3.1
      rcases Bool.or_eq_true_iff.1 h3.2 with h4 | h4
      · rw [← of_decide_eq_true h4]; exact hSe
      · exact reach_closed hS f e.on j h4 (fun o' ho' e' he' hb' => hS e.on o' ho' hSe e' he' hb')
/-- Do the operations from n on wait for all ahead of them? -/
def seqB (n : Nat) (l : List Oper) : Bool := (List.range l.length).all fun i => decide (i < n) || (List.range i).all fun j => reachB l l.length i j
theorem seq_of {n : Nat} {l : List Oper} (hb : seqB n l = true) : ∀ (S : Nat → Prop), (∀ i o, l.toArray[i]? = some o → S i → ∀ e ∈ o.after, Region.binds .any e = true → S e.on) → ∀ i o, n ≤ i → l.toArray[i]? = some o → (∀ e ∈ o.after, Region.binds .any e = true → S e.on) → ∀ j, j < i → S j := by
  intro S hS i o hi ho hall j hj
  unfold seqB at hb
  rw [List.all_eq_true] at hb
  have hlt := (Array.getElem?_eq_some_iff.1 ho).1
  have h1 := hb i (List.mem_range.2 (by simpa using hlt))
  rw [decide_eq_false (by omega), Bool.false_or] at h1
  have h2 := (List.all_eq_true.1 h1) j (List.mem_range.2 hj)
  exact reach_closed hS _ i j h2 (fun o' ho' => by rw [ho] at ho'; cases ho'; exact hall)
/-- Operations one behind the other. -/
def SeqDoes (P : Program) (ops : Array Oper) : List Oper → Act → World → (Act → World → Prop) → Prop
  | [], a, w, K => K a w
  | s :: r, a, w, K => OpDoes P ops s a w fun a' w' => SeqDoes P ops r a' w' K
theorem tail_seq {P : Program} {l : List Oper} {Q : Exit → Act → World → Prop} (hback : ∀ i o, l.toArray[i]? = some o → ∀ e ∈ o.after, Region.binds .any e = true → e.on < i) {n0 : Nat} (hseq : seqB n0 l = true) :
    ∀ (t : List Oper) (n : Nat) (a : Act) (w : World), n0 ≤ n → l.length = n + t.length → (∀ k s, t[k]? = some s → l[n + k]? = some s) → SeqDoes P l.toArray t a w (fun a' w' => Q .normal a' w') → ∀ fuel, t.length ≤ fuel → wpAny P .any l.toArray Q fuel (headL n t.length) a w
  | [], n, a, w, _, hl, _, h, fuel, _ => wpAny_full (fun i hi => by rw [headL_get, if_pos (by simp at hi hl; omega)]) h
  | s :: t, n, a, w, hn, hl, ht, h, 0, hf => absurd hf (by simp)
  | s :: t, n, a, w, hn, hl, ht, h, f + 1, hf => by
    have hs : l.toArray[n]? = some s := by have := ht 0 s rfl; simpa using this
    have hr : n ∈ Region.ready .any l.toArray (headL n (s :: t).length) := mem_ready.2 ⟨by rw [Array.getD_eq_getD_getElem?, headL_get, if_neg (by omega), if_pos (by simp)]; rfl, s, hs, fun e he hb => by
      rw [Array.getD_eq_getD_getElem?, headL_get, if_pos (hback n s hs e he hb)]; rfl⟩
    refine ⟨fun h0 => (by rw [h0] at hr; cases hr), fun i hi => ?_⟩
    obtain ⟨h0, o, ho, hall⟩ := mem_ready.1 hi
    have hlt := (Array.getElem?_eq_some_iff.1 ho).1
    have hge : n ≤ i := by
      apply Decidable.byContradiction
      intro hne
      rw [Array.getD_eq_getD_getElem?, headL_get, if_pos (by omega)] at h0
      cases h0
    have hin : i = n := by
      apply Decidable.byContradiction
      intro hne
      -- n is not listed, but i waits for it
      have hS := seq_of hseq (fun k => k < n) (fun k o' ho' hk e he hb => Nat.lt_trans (hback k o' ho' e he hb) hk) i o (by omega) ho (fun e he hb => by
        have h2 := hall e he hb
        rw [Array.getD_eq_getD_getElem?, headL_get] at h2
        apply Decidable.byContradiction
        intro hge2
        rw [if_neg hge2] at h2
        split at h2 <;> cases h2) n (by omega)
      omega
    subst hin
    refine wpOp_mono ?_ (wpOp_of_does hs h)
    intro a' w' hq
    have hset : (headL i (s :: t).length).setIfInBounds i true = headL (i + 1) t.length := by
      apply Array.ext_getElem?
      intro j
      rw [Array.getElem?_setIfInBounds, headL_get, headL_get, headL_size]
      by_cases hij : i = j
      · subst hij
        rw [if_pos rfl, if_pos (by simp), if_pos (by omega)]
      · rw [if_neg hij]
        by_cases h1 : j < i
        · rw [if_pos h1, if_pos (by omega)]
        · rw [if_neg h1, if_neg (show ¬ j < i + 1 by omega)]
          by_cases h2 : j < i + (s :: t).length
          · rw [if_pos h2, if_pos (by rw [List.length_cons] at h2; omega)]
          · rw [if_neg h2, if_neg (by rw [List.length_cons] at h2; omega)]
    rw [hset]
    exact tail_seq hback hseq t (i + 1) a' w' (by omega) (by rw [List.length_cons] at hl; omega) (fun k s' hk => by
      have := ht (k + 1) s' (by simpa using hk)
      rw [show i + 1 + k = i + (k + 1) from by omega]; exact this) hq f (by rw [List.length_cons] at hf; omega)
/-- THE RULE: l in whatever order, then t in a row. -/
theorem region_seq {P : Program} {id : Nat} {Q : Exit → Act → World → Prop} {w : World} {l t : List Oper} (hm : P.follows .mixedOrders = true) (hb : backB (l ++ t) = true) (ht : seqB l.length (l ++ t) = true) (fill : (Nat → Value) → Act) (C : World → Prop) (V : Nat → Value → World → Prop) (Ext : World → World → Prop)
    (hC : ∀ w w', C w → Ext w w' → C w') (hV : ∀ i u w w', V i u w → Ext w w' → V i u w') (v0 : Nat → Value) (h0 : C w.drew)
    (hop : AllDo P (l ++ t).toArray fill C V Ext 0 l)
    (hend : ∀ v w, C w → (∀ i, i < l.length → V i (v i) w) → SeqDoes P (l ++ t).toArray t (fill v) w fun a' w' => Q .normal a' w') : (Code.region id (l ++ t).toArray true).wp P Q (fill v0) w := by
  have hrep : ∀ i, (Array.replicate (l ++ t).toArray.size false).getD i false = true → False := fun i hi => by
    rw [Array.getD_eq_getD_getElem?] at hi
    by_cases hlt : i < (l ++ t).toArray.size
    · rw [Array.getElem?_replicate, if_pos hlt] at hi; cases hi
    · rw [Array.getElem?_replicate, if_neg hlt] at hi; cases hi
  refine wp_region_any hm (wpAny_headC l.length t.length (by simp) fill C V Ext hC hV (back_of hb) (fun S hS i o hi ho hall j hj => seq_of ht S hS i o hi ho hall j (by omega)) ?_ ?_ _ _ v0 _ ?_ (by simp) h0 (fun i hi => (hrep i hi).elim) (fun i o _ hi => (hrep i hi).elim))
  · intro i o hi ho v w hc hd
    have := AllDo.get l 0 hop i o (by simpa [List.getElem?_append_left hi] using ho) v w hc hd
    rw [Nat.zero_add] at this
    exact this
  · intro v w fuel hf hc h
    exact tail_seq (back_of hb) ht t l.length (fill v) w (Nat.le_refl _) (by simp) (fun k s hk => by rw [List.getElem?_append_right (by omega), Nat.add_sub_cancel_left]; exact hk) (hend v w hc h) fuel hf
  · unfold unlisted
    exact Nat.le_trans (List.length_filter_le _ _) (by simp)
end Go.Proofs.Ytpcbdjdmhemjdaa
