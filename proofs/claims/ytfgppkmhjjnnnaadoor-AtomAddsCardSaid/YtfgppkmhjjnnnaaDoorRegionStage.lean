/- A region that draws its order inside a fence, stage by stage: the operations of a stage come in whatever order, those of the next one wait for all of them. No program is spoken of. -/
import Derived.Test.YtfgppkmhjjnnnaaDoorRegionSeqIn
namespace Go.Proofs.YtfgppkmhjjnnnaaDoor
open Go.RowKit
set_option linter.unusedVariables false

theorem wpAnyIn_stage {F : Fence} {m : Nat} (hF : ∀ f, F.fn f) {P : Program} {ops : Array Oper} {Q : Exit → Act → World → Prop} (n0 n t : Nat) (hnt : ops.size = n + t) (fill : (Nat → Value) → Act) (C : World → Prop) (V : Nat → Value → World → Prop) (Ext : World → World → Prop)
    (hC : ∀ w w', C w → Ext w w' → C w') (hV : ∀ i u w w', V i u w → Ext w w' → V i u w')
    (hback : ∀ i o, ops[i]? = some o → ∀ e ∈ o.after, Region.binds .any e = true → e.on < i)
    (htail : ∀ (S : Nat → Prop), (∀ i o, ops[i]? = some o → S i → ∀ e ∈ o.after, Region.binds .any e = true → S e.on) → ∀ i o, n ≤ i → ops[i]? = some o → (∀ e ∈ o.after, Region.binds .any e = true → S e.on) → ∀ j, j < n → S j)
    (hop : ∀ i o, n0 ≤ i → i < n → ops[i]? = some o → ∀ (v : Nat → Value) (w : World), C w → (∀ e ∈ o.after, Region.binds .any e = true → V e.on (v e.on) w) →
      OpDoesIn F m P ops o (fill v) w fun a' w' => ∃ u, a' = fill (updV v i u) ∧ Ext w w' ∧ V i u w')
    (hend : ∀ v w fuel, t ≤ fuel → C w → (∀ i, i < n → V i (v i) w) → wpAnyIn F m P .any ops Q fuel (headL n t) (fill v) w) :
    ∀ (fuel : Nat) (listed : Array Bool) (v : Nat → Value) (w : World), (∀ i, i < n0 → listed.getD i false = true) → unlisted ops.size listed ≤ fuel → listed.size = ops.size → C w → (∀ i, listed.getD i false = true → i < n ∧ V i (v i) w) → (∀ i o, ops[i]? = some o → listed.getD i false = true → ∀ e ∈ o.after, Region.binds .any e = true → listed.getD e.on false = true) →
      wpAnyIn F m P .any ops Q fuel listed (fill v) w := by
  have htrue : ∀ (listed : Array Bool) (i : Nat), listed.getD i false = true → listed[i]? = some true := by
    intro listed i h
    rw [Array.getD_eq_getD_getElem?] at h
    cases e : listed[i]? with
    | none => rw [e] at h; cases h
    | some b =>
      rw [e] at h
      cases b with
      | false => cases h
      | true => rfl
  have hfalse : ∀ (listed : Array Bool) (i : Nat), i < listed.size → listed.getD i false ≠ true → listed[i]? = some false := by
    intro listed i hi h
    rw [Array.getD_eq_getD_getElem?, Array.getElem?_eq_getElem hi] at h
    rw [Array.getElem?_eq_getElem hi]
    cases e : listed[i] with
    | false => rfl
    | true => rw [e] at h; exact absurd rfl h
  intro fuel
  induction fuel with
  | zero =>
    intro listed v w hl0 hf hs hc hv hcl
    -- all have come up: so there is no tail
    have hall : ∀ i, i < ops.size → listed.getD i false = true := by
      intro i hi
      apply Decidable.byContradiction
      intro hne
      have h1 := hfalse listed i (by omega) hne
      have h2 := unlisted_set (n := ops.size) (i := i) (listed := listed) hi hs (by rw [Array.getD_eq_getD_getElem?, h1]; rfl)
      omega
    have ht0 : t = 0 := by
      apply Decidable.byContradiction
      intro h
      have := (hv n (hall n (by omega))).1
      omega
    subst ht0
    have he : listed = headL n 0 := by
      apply Array.ext_getElem?
      intro i
      rw [headL_get]
      by_cases hi : i < n
      · rw [if_pos hi]; exact htrue _ _ (hall i (by omega))
      · rw [if_neg hi, if_neg (by omega)]; exact Array.getElem?_eq_none (by omega)
    rw [he]
    exact hend v w 0 (Nat.le_refl _) hc (fun i hi => (hv i (hall i (by omega))).2)
  | succ fuel ih =>
    intro listed v w hl0 hf hs hc hv hcl
    by_cases hall : ∀ i, i < n → listed.getD i false = true
    · have he : listed = headL n t := by
        apply Array.ext_getElem?
        intro i
        rw [headL_get]
        by_cases hi : i < n
        · rw [if_pos hi]; exact htrue _ _ (hall i hi)
        · rw [if_neg hi]
          by_cases hi2 : i < n + t
          · rw [if_pos hi2]
            exact hfalse listed i (by omega) (fun h => hi (hv i h).1)
          · rw [if_neg hi2]; exact Array.getElem?_eq_none (by omega)
      have htf : t ≤ fuel + 1 := by
        refine Nat.le_trans ?_ hf
        rw [he]
        unfold unlisted
        have : (List.range ops.size).filter (fun i => !(headL n t).getD i true) = (List.range ops.size).filter (fun i => decide (n ≤ i)) := by
          refine List.filter_congr ?_
          intro i hi
          have hi' := List.mem_range.1 hi
          rw [Array.getD_eq_getD_getElem?, headL_get]
          by_cases h : i < n
          · rw [if_pos h, decide_eq_false (by omega)]; rfl
          · rw [if_neg h, if_pos (by omega), decide_eq_true (by omega)]; rfl
        rw [this, hnt, List.range_add, List.filter_append, List.length_append]
        have h2 : (((List.range t).map (fun x => n + x)).filter (fun i => decide (n ≤ i))).length = t := by
          rw [List.filter_eq_self.2 (by intro a ha; obtain ⟨b, _, rfl⟩ := List.mem_map.1 ha; simp)]
          simp
        omega
      rw [he]
      exact hend v w _ htf hc (fun i hi => (hv i (hall i hi)).2)
    · -- one of the head is missing: none of the tail is ready
      have hready : ∀ i, i ∈ Region.ready .any ops listed → i < n := by
        intro i hi
        apply Decidable.byContradiction
        intro hge
        obtain ⟨_, o, ho, hall2⟩ := mem_ready.1 hi
        exact hall fun j hj => htail (fun k => listed.getD k false = true) hcl i o (by omega) ho hall2 j hj
      refine ⟨fun hr => ?_, fun i hi => ?_⟩
      · exfalso
        refine hall ?_
        intro i
        induction i using Nat.strongRecOn with
        | _ i ih2 =>
          intro hi
          apply Decidable.byContradiction
          intro hne
          have h1 := hfalse listed i (by omega) hne
          have : i ∈ Region.ready .any ops listed := mem_ready.2 ⟨by rw [Array.getD_eq_getD_getElem?, h1]; rfl, ops[i]'(by omega), Array.getElem?_eq_getElem (by omega), fun e he hb => by
            have h2 := hback i _ (Array.getElem?_eq_getElem (by omega)) e he hb
            exact ih2 e.on h2 (by omega)⟩
          rw [hr] at this
          cases this
      · have hin := hready i hi
        obtain ⟨h0, o, ho, hall2⟩ := mem_ready.1 hi
        have hn0i : n0 ≤ i := by
          apply Decidable.byContradiction
          intro hlt
          have h9 := hl0 i (by omega)
          rw [Array.getD_eq_getD_getElem?] at h0 h9
          cases hq : listed[i]? with
          | none => rw [hq] at h9; cases h9
          | some bb => rw [hq] at h0 h9; simp at h0 h9; rw [h0] at h9; cases h9
        refine wpOpIn_mono ?_ (wpOpIn_of_does hF ho (hop i o hn0i hin ho v w hc fun e he hb => (hv e.on (hall2 e he hb)).2))
        rintro a' w' ⟨u, rfl, hx, hu⟩
        refine ih _ (updV v i u) w' (fun j hj => ?_) (by have := unlisted_set (n := ops.size) (by omega) hs h0; omega) (by simp [hs]) (hC _ _ hc hx) (fun j hj => ?_) (fun j o' ho' hj e he hb => ?_)
        · have h9 := hl0 j hj
          rw [Array.getD_eq_getD_getElem?, Array.getElem?_setIfInBounds]
          rw [Array.getD_eq_getD_getElem?] at h9
          have hlt2 := (Array.getElem?_eq_some_iff.1 ho).1
          split
          · rename_i e; subst e; rw [if_pos (by omega)]; rfl
          · exact h9
        by_cases hji : j = i
        · subst hji; rw [updV_self]; exact ⟨hin, hu⟩
        · rw [updV_ne v u hji]
          have : (listed.setIfInBounds i true).getD j false = listed.getD j false := by
            simp [Array.getD_eq_getD_getElem?, Array.getElem?_setIfInBounds, Ne.symm hji]
          rw [this] at hj
          exact ⟨(hv j hj).1, hV _ _ _ _ (hv j hj).2 hx⟩
        · have hset : ∀ k, (listed.setIfInBounds i true).getD k false = if k = i then true else listed.getD k false := fun k => by
            have hlt := (Array.getElem?_eq_some_iff.1 ho).1
            by_cases hki : k = i
            · subst hki
              rw [if_pos rfl, Array.getD_eq_getD_getElem?, Array.getElem?_setIfInBounds, if_pos rfl, if_pos (by omega)]; rfl
            · rw [if_neg hki]
              simp [Array.getD_eq_getD_getElem?, Array.getElem?_setIfInBounds, Ne.symm hki]
          rw [hset] at hj ⊢
          by_cases h1 : e.on = i
          · rw [if_pos h1]
          · rw [if_neg h1]
            by_cases h2 : j = i
            · subst h2
              rw [ho] at ho'
              cases ho'
              exact hall2 e he hb
            · rw [if_neg h2] at hj
              exact hcl j o' ho' hj e he hb


/-- Do the operations from n on wait for all below n? -/
def stageB (n : Nat) (l : List Oper) : Bool := (List.range l.length).all fun i => decide (i < n) || (List.range n).all fun j => reachB l l.length i j
theorem stage_of {n : Nat} {l : List Oper} (hb : stageB n l = true) : ∀ (S : Nat → Prop), (∀ i o, l.toArray[i]? = some o → S i → ∀ e ∈ o.after, Region.binds .any e = true → S e.on) → ∀ i o, n ≤ i → l.toArray[i]? = some o → (∀ e ∈ o.after, Region.binds .any e = true → S e.on) → ∀ j, j < n → S j := by
  intro S hS i o hi ho hall j hj
  unfold stageB at hb
  rw [List.all_eq_true] at hb
  have hlt := (Array.getElem?_eq_some_iff.1 ho).1
  have h1 := hb i (List.mem_range.2 (by simpa using hlt))
  rw [decide_eq_false (by omega), Bool.false_or] at h1
  have h2 := (List.all_eq_true.1 h1) j (List.mem_range.2 hj)
  exact reach_closed hS _ i j h2 (fun o' ho' => by rw [ho] at ho'; cases ho'; exact hall)
theorem unlisted_head (n t : Nat) : unlisted (n + t) (headL n t) = t := by
  unfold unlisted
  have : (List.range (n + t)).filter (fun i => !(headL n t).getD i true) = (List.range (n + t)).filter (fun i => decide (n ≤ i)) := by
    refine List.filter_congr ?_
    intro i hi
    have hi' := List.mem_range.1 hi
    rw [Array.getD_eq_getD_getElem?, headL_get]
    by_cases h : i < n
    · rw [if_pos h, decide_eq_false (by omega)]; rfl
    · rw [if_neg h, if_pos (by omega), decide_eq_true (by omega)]; rfl
  rw [this, List.range_add, List.filter_append, List.length_append]
  have h2 : (((List.range t).map (fun x => n + x)).filter (fun i => decide (n ≤ i))).length = t := by
    rw [List.filter_eq_self.2 (by intro a ha; obtain ⟨b, _, rfl⟩ := List.mem_map.1 ha; simp)]
    simp
  have h3 : ((List.range n).filter (fun i => decide (n ≤ i))).length = 0 := by
    rw [List.filter_eq_nil_iff.2 (by intro a ha; have := List.mem_range.1 ha; simp; omega)]
    rfl
  omega
/-- What is left of a region, from operation n on. -/
def Left (F : Fence) (m : Nat) (P : Program) (l : List Oper) (Q : Exit → Act → World → Prop) (n : Nat) (a : Act) (w : World) : Prop := ∀ fuel, l.length - n ≤ fuel → wpAnyIn F m P .any l.toArray Q fuel (headL n (l.length - n)) a w
theorem Left.end_ {F : Fence} {m : Nat} {P : Program} {l : List Oper} {Q : Exit → Act → World → Prop} {a : Act} {w : World} (h : Q .normal a w) : Left F m P l Q l.length a w := fun fuel _ => wpAnyIn_full (fun i hi => by rw [headL_get, if_pos (by simpa using hi)]) h
/-- ONE STAGE: the operations from n0 on, below n, in whatever order. -/
theorem Left.stage {F : Fence} {m : Nat} (hF : ∀ f, F.fn f) {P : Program} {l : List Oper} {Q : Exit → Act → World → Prop} (n0 n : Nat) (h0n : n0 ≤ n) (hn : n ≤ l.length) (hb : backB l = true) (hs : stageB n l = true) (fill : (Nat → Value) → Act) (C : World → Prop) (V : Nat → Value → World → Prop) (Ext : World → World → Prop)
    (hC : ∀ w w', C w → Ext w w' → C w') (hV : ∀ i u w w', V i u w → Ext w w' → V i u w') (v0 : Nat → Value) {w : World} (hw : C w) (hv0 : ∀ i, i < n0 → V i (v0 i) w)
    (hop : ∀ i o, n0 ≤ i → i < n → l[i]? = some o → ∀ (v : Nat → Value) (w : World), C w → (∀ e ∈ o.after, Region.binds .any e = true → V e.on (v e.on) w) → OpDoesIn F m P l.toArray o (fill v) w fun a' w' => ∃ u, a' = fill (updV v i u) ∧ Ext w w' ∧ V i u w')
    (hend : ∀ v w, C w → (∀ i, i < n → V i (v i) w) → Left F m P l Q n (fill v) w) : Left F m P l Q n0 (fill v0) w := by
  intro fuel hf
  have hsz : l.toArray.size = n + (l.length - n) := by simp; omega
  have hg : ∀ i, (headL n0 (l.length - n0)).getD i false = true → i < n0 := fun i hi => by
    rw [Array.getD_eq_getD_getElem?, headL_get] at hi
    apply Decidable.byContradiction
    intro hne
    rw [if_neg hne] at hi
    split at hi <;> cases hi
  refine wpAnyIn_stage hF n0 n (l.length - n) hsz fill C V Ext hC hV (back_of hb) (stage_of hs) (fun i o h1 h2 ho v w hc hd => hop i o h1 h2 (by simpa using ho) v w hc hd) (fun v w fuel hf hc h => hend v w hc h fuel hf) fuel _ v0 w (fun i hi => ?_) ?_ ?_ hw (fun i hi => ?_) (fun i o ho hi e he hbd => ?_)
  · rw [Array.getD_eq_getD_getElem?, headL_get, if_pos hi]; rfl
  · rw [show l.toArray.size = n0 + (l.length - n0) from by simp; omega, unlisted_head]; exact hf
  · rw [headL_size]; simp; omega
  · have := hg i hi
    exact ⟨by omega, hv0 i this⟩
  · have h1 := hg i hi
    have h2 := back_of hb i o ho e he hbd
    rw [Array.getD_eq_getD_getElem?, headL_get, if_pos (by omega)]; rfl
theorem Left.stageL {F : Fence} {m : Nat} (hF : ∀ f, F.fn f) {P : Program} {l : List Oper} {Q : Exit → Act → World → Prop} (n0 n : Nat) (h0n : n0 ≤ n) (hn : n ≤ l.length) (hb : backB l = true) (hs : stageB n l = true) (fill : (Nat → Value) → Act) (C : World → Prop) (V : Nat → Value → World → Prop) (Ext : World → World → Prop)
    (hC : ∀ w w', C w → Ext w w' → C w') (hV : ∀ i u w w', V i u w → Ext w w' → V i u w') (v0 : Nat → Value) {w : World} (hw : C w) (hv0 : ∀ i, i < n0 → V i (v0 i) w)
    (hop : AllDoIn F m P l.toArray fill C V Ext n0 ((l.take n).drop n0))
    (hend : ∀ v w, C w → (∀ i, i < n → V i (v i) w) → Left F m P l Q n (fill v) w) : Left F m P l Q n0 (fill v0) w := by
  refine Left.stage hF n0 n h0n hn hb hs fill C V Ext hC hV v0 hw hv0 (fun i o h1 h2 ho v w hc hd => ?_) hend
  have := AllDoIn.get _ n0 hop (i - n0) o (by rw [List.getElem?_drop, show n0 + (i - n0) = i from by omega, List.getElem?_take, if_pos h2]; exact ho) v w hc hd
  rw [show n0 + (i - n0) = i from by omega] at this
  exact this
/-- ONE OPERATION, for which all others wait. -/
theorem Left.one {F : Fence} {m : Nat} (hF : ∀ f, F.fn f) {P : Program} {l : List Oper} {Q : Exit → Act → World → Prop} (n : Nat) {o : Oper} (ho : l[n]? = some o) (hb : backB l = true) (hs : stageB (n + 1) l = true) {a : Act} {w : World} (h : OpDoesIn F m P l.toArray o a w fun a' w' => Left F m P l Q (n + 1) a' w') : Left F m P l Q n a w := by
  have hback := back_of hb
  have hnl : n < l.length := (List.getElem?_eq_some_iff.1 ho).1
  intro fuel hf
  obtain ⟨f, rfl⟩ : ∃ f, fuel = f + 1 := ⟨fuel - 1, by omega⟩
  have hs' : l.toArray[n]? = some o := by simpa using ho
  have hr : n ∈ Region.ready .any l.toArray (headL n (l.length - n)) := mem_ready.2 ⟨by rw [Array.getD_eq_getD_getElem?, headL_get, if_neg (by omega), if_pos (by omega)]; rfl, o, hs', fun e he hb => by
    rw [Array.getD_eq_getD_getElem?, headL_get, if_pos (hback n o hs' e he hb)]; rfl⟩
  refine ⟨fun h0 => (by rw [h0] at hr; cases hr), fun i hi => ?_⟩
  obtain ⟨h0, o', ho', hall⟩ := mem_ready.1 hi
  have hge : n ≤ i := by
    apply Decidable.byContradiction
    intro hne
    rw [Array.getD_eq_getD_getElem?, headL_get, if_pos (by omega)] at h0
    cases h0
  have hin : i = n := by
    apply Decidable.byContradiction
    intro hne
    have hS := stage_of hs (fun k => k < n) (fun k o' ho' hk e he hb => Nat.lt_trans (hback k o' ho' e he hb) hk) i o' (by omega) ho' (fun e he hb => by
      have h2 := hall e he hb
      rw [Array.getD_eq_getD_getElem?, headL_get] at h2
      apply Decidable.byContradiction
      intro hge2
      rw [if_neg hge2] at h2
      split at h2 <;> cases h2) n (by omega)
    omega
  subst hin
  refine wpOpIn_mono ?_ (wpOpIn_of_does hF hs' h)
  intro a' w' hq
  have hset : (headL i (l.length - i)).setIfInBounds i true = headL (i + 1) (l.length - (i + 1)) := by
    apply Array.ext_getElem?
    intro j
    rw [Array.getElem?_setIfInBounds, headL_get, headL_get, headL_size]
    by_cases hij : i = j
    · subst hij
      rw [if_pos rfl, if_pos (by omega), if_pos (by omega)]
    · rw [if_neg hij]
      by_cases h1 : j < i
      · rw [if_pos h1, if_pos (by omega)]
      · rw [if_neg h1, if_neg (show ¬ j < i + 1 by omega)]
        by_cases h2 : j < i + (l.length - i)
        · rw [if_pos h2, if_pos (by omega)]
        · rw [if_neg h2, if_neg (by omega)]
  rw [hset]
  exact hq f (by omega)
/-- A REGION, AS WHAT IS LEFT FROM ITS FIRST OPERATION ON. -/
theorem region_left {F : Fence} {m : Nat} {P : Program} {id : Nat} {Q : Exit → Act → World → Prop} {a : Act} {w : World} {l : List Oper} (hm : P.follows .mixedOrders = true) (h : Left F m P l Q 0 a w.drew) : (Code.region id l.toArray true).wpIn F m P Q a w := by
  refine wpIn_region_any hm ?_
  have h1 := h l.toArray.size (by simp)
  have he : headL 0 (l.length - 0) = Array.replicate l.toArray.size false := by
    apply Array.ext_getElem?
    intro i
    rw [headL_get, if_neg (by omega), Array.getElem?_replicate]
    simp
  rw [he] at h1
  exact h1
end Go.Proofs.YtfgppkmhjjnnnaaDoor
