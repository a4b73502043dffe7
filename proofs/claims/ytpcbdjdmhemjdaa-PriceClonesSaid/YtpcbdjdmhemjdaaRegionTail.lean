/- A region that draws its order, whose last operations wait for all others: those alone are walked in each order. No program is spoken of. -/
import Derived.Test.YtpcbdjdmhemjdaaRegionRel
namespace Go.Proofs.Ytpcbdjdmhemjdaa
open Go.RowKit
set_option linter.unusedVariables false

/-- The first n have come up, the other t have not. -/
def headL (n t : Nat) : Array Bool := Array.replicate n true ++ Array.replicate t false
theorem headL_size (n t : Nat) : (headL n t).size = n + t := by simp [headL]
theorem headL_get (n t i : Nat) : (headL n t)[i]? = if i < n then some true else if i < n + t then some false else none := by
  unfold headL
  rw [Array.getElem?_append, Array.size_replicate]
  split
  · rw [Array.getElem?_replicate]; split <;> first | rfl | omega
  · rw [Array.getElem?_replicate]
    by_cases h : i < n + t
    · rw [if_pos (by omega), if_pos h]
    · rw [if_neg (by omega), if_neg h]

theorem wpAny_head {P : Program} {ops : Array Oper} {Q : Exit → Act → World → Prop} (n t : Nat) (hnt : ops.size = n + t) (fill : (Nat → Value) → Act) (C : World → Prop) (V : Nat → Value → World → Prop) (Ext : World → World → Prop)
    (hC : ∀ w w', C w → Ext w w' → C w') (hV : ∀ i u w w', V i u w → Ext w w' → V i u w')
    (hback : ∀ i o, ops[i]? = some o → ∀ e ∈ o.after, Region.binds .any e = true → e.on < i)
    (htail : ∀ i o, n ≤ i → ops[i]? = some o → ∀ j, j < n → ∃ e ∈ o.after, Region.binds .any e = true ∧ e.on = j)
    (hop : ∀ i o, i < n → ops[i]? = some o → ∀ (v : Nat → Value) (w : World), C w → (∀ e ∈ o.after, Region.binds .any e = true → V e.on (v e.on) w) →
      OpDoes P ops o (fill v) w fun a' w' => ∃ u, a' = fill (updV v i u) ∧ Ext w w' ∧ V i u w')
    (hend : ∀ v w fuel, t ≤ fuel → C w → (∀ i, i < n → V i (v i) w) → wpAny P .any ops Q fuel (headL n t) (fill v) w) :
    ∀ (fuel : Nat) (listed : Array Bool) (v : Nat → Value) (w : World), unlisted ops.size listed ≤ fuel → listed.size = ops.size → C w → (∀ i, listed.getD i false = true → i < n ∧ V i (v i) w) →
      wpAny P .any ops Q fuel listed (fill v) w := by
  have htrue : ∀ (listed : Array Bool) (i : Nat), listed.getD i false = true → listed[i]? = some true := by
    intro listed i h
    rw [Array.getD_eq_getD_getElem?] at h
    cases e : listed[i]? with
    | none => rw [e] at h; cases h
    | some b =>
      rw [e] at h
      cases b with
      | false => cases h
      | true => rfl
  have hfalse : ∀ (listed : Array Bool) (i : Nat), i < listed.size → listed.getD i false ≠ true → listed[i]? = some false := by
    intro listed i hi h
    rw [Array.getD_eq_getD_getElem?, Array.getElem?_eq_getElem hi] at h
    rw [Array.getElem?_eq_getElem hi]
    cases e : listed[i] with
    | false => rfl
    | true => rw [e] at h; exact absurd rfl h
  intro fuel
  induction fuel with
  | zero =>
    intro listed v w hf hs hc hv
    -- all have come up: so there is no tail
    have hall : ∀ i, i < ops.size → listed.getD i false = true := by
      intro i hi
      apply Decidable.byContradiction
      intro hne
      have h1 := hfalse listed i (by omega) hne
      have h2 := unlisted_set (n := ops.size) (i := i) (listed := listed) hi hs (by rw [Array.getD_eq_getD_getElem?, h1]; rfl)
      omega
    have ht0 : t = 0 := by
      apply Decidable.byContradiction
      intro h
      have := (hv n (hall n (by omega))).1
      omega
    subst ht0
    have he : listed = headL n 0 := by
      apply Array.ext_getElem?
      intro i
      rw [headL_get]
      by_cases hi : i < n
      · rw [if_pos hi]; exact htrue _ _ (hall i (by omega))
      · rw [if_neg hi, if_neg (by omega)]; exact Array.getElem?_eq_none (by omega)
    rw [he]
    exact hend v w 0 (Nat.le_refl _) hc (fun i hi => (hv i (hall i (by omega))).2)
  | succ fuel ih =>
    intro listed v w hf hs hc hv
    by_cases hall : ∀ i, i < n → listed.getD i false = true
    · have he : listed = headL n t := by
        apply Array.ext_getElem?
        intro i
        rw [headL_get]
        by_cases hi : i < n
        · rw [if_pos hi]; exact htrue _ _ (hall i hi)
        · rw [if_neg hi]
          by_cases hi2 : i < n + t
          · rw [if_pos hi2]
            exact hfalse listed i (by omega) (fun h => hi (hv i h).1)
          · rw [if_neg hi2]; exact Array.getElem?_eq_none (by omega)
      have htf : t ≤ fuel + 1 := by
        refine Nat.le_trans ?_ hf
        rw [he]
        unfold unlisted
        have : (List.range ops.size).filter (fun i => !(headL n t).getD i true) = (List.range ops.size).filter (fun i => decide (n ≤ i)) := by
          refine List.filter_congr ?_
          intro i hi
          have hi' := List.mem_range.1 hi
          rw [Array.getD_eq_getD_getElem?, headL_get]
          by_cases h : i < n
          · rw [if_pos h, decide_eq_false (by omega)]; rfl
          · rw [if_neg h, if_pos (by omega), decide_eq_true (by omega)]; rfl
        rw [this, hnt, List.range_add, List.filter_append, List.length_append]
        have h2 : (((List.range t).map (fun x => n + x)).filter (fun i => decide (n ≤ i))).length = t := by
          rw [List.filter_eq_self.2 (by intro a ha; obtain ⟨b, _, rfl⟩ := List.mem_map.1 ha; simp)]
          simp
        omega
      rw [he]
      exact hend v w _ htf hc (fun i hi => (hv i (hall i hi)).2)
    · -- one of the head is missing: none of the tail is ready
      have hready : ∀ i, i ∈ Region.ready .any ops listed → i < n := by
        intro i hi
        apply Decidable.byContradiction
        intro hge
        obtain ⟨_, o, ho, hall2⟩ := mem_ready.1 hi
        refine hall fun j hj => ?_
        obtain ⟨e, he, hb, hon⟩ := htail i o (by omega) ho j hj
        have := hall2 e he hb
        rw [hon] at this
        exact this
      refine ⟨fun hr => ?_, fun i hi => ?_⟩
      · exfalso
        refine hall ?_
        intro i
        induction i using Nat.strongRecOn with
        | _ i ih2 =>
          intro hi
          apply Decidable.byContradiction
          intro hne
          have h1 := hfalse listed i (by omega) hne
          have : i ∈ Region.ready .any ops listed := mem_ready.2 ⟨by rw [Array.getD_eq_getD_getElem?, h1]; rfl, ops[i]'(by omega), Array.getElem?_eq_getElem (by omega), fun e he hb => by
            have h2 := hback i _ (Array.getElem?_eq_getElem (by omega)) e he hb
            exact ih2 e.on h2 (by omega)⟩
          rw [hr] at this
          cases this
      · have hin := hready i hi
        obtain ⟨h0, o, ho, hall2⟩ := mem_ready.1 hi
        refine wpOp_mono ?_ (wpOp_of_does ho (hop i o hin ho v w hc fun e he hb => (hv e.on (hall2 e he hb)).2))
        rintro a' w' ⟨u, rfl, hx, hu⟩
        refine ih _ (updV v i u) w' (by have := unlisted_set (n := ops.size) (by omega) hs h0; omega) (by simp [hs]) (hC _ _ hc hx) fun j hj => ?_
        by_cases hji : j = i
        · subst hji; rw [updV_self]; exact ⟨hin, hu⟩
        · rw [updV_ne v u hji]
          have : (listed.setIfInBounds i true).getD j false = listed.getD j false := by
            simp [Array.getD_eq_getD_getElem?, Array.getElem?_setIfInBounds, Ne.symm hji]
          rw [this] at hj
          exact ⟨(hv j hj).1, hV _ _ _ _ (hv j hj).2 hx⟩

theorem wpAny_full {P : Program} {ops : Array Oper} {Q : Exit → Act → World → Prop} {fuel : Nat} {listed : Array Bool} {a : Act} {w : World} (h : ∀ i, i < ops.size → listed[i]? = some true) (hq : Q .normal a w) : wpAny P .any ops Q fuel listed a w := by
  have hr : Region.ready .any ops listed = [] := by
    apply List.eq_nil_iff_forall_not_mem.2
    intro i hi
    obtain ⟨h0, o, ho, _⟩ := mem_ready.1 hi
    rw [Array.getD_eq_getD_getElem?, h i (Array.getElem?_eq_some_iff.1 ho).1] at h0
    cases h0
  cases fuel with
  | zero => exact ⟨hr, hq⟩
  | succ f => exact ⟨fun _ => hq, fun i hi => by rw [hr] at hi; cases hi⟩
/-- One operation behind all others. -/
theorem tail_one {P : Program} {ops : Array Oper} {Q : Exit → Act → World → Prop} {n : Nat} {s : Oper} {a : Act} {w : World} (hnt : ops.size = n + 1) (hs : ops[n]? = some s)
    (hback : ∀ i o, ops[i]? = some o → ∀ e ∈ o.after, Region.binds .any e = true → e.on < i) (h : OpDoes P ops s a w fun a' w' => Q .normal a' w') :
    ∀ fuel, 1 ≤ fuel → wpAny P .any ops Q fuel (headL n 1) a w
  | 0, hf => absurd hf (by omega)
  | f + 1, _ => by
    have hr : n ∈ Region.ready .any ops (headL n 1) := mem_ready.2 ⟨by rw [Array.getD_eq_getD_getElem?, headL_get, if_neg (by omega), if_pos (by omega)]; rfl, s, hs, fun e he hb => by
      rw [Array.getD_eq_getD_getElem?, headL_get, if_pos (hback n s hs e he hb)]; rfl⟩
    refine ⟨fun h0 => (by rw [h0] at hr; cases hr), fun i hi => ?_⟩
    obtain ⟨h0, o, ho, _⟩ := mem_ready.1 hi
    have hlt := (Array.getElem?_eq_some_iff.1 ho).1
    have hin : i = n := by
      apply Decidable.byContradiction
      intro hne
      rw [Array.getD_eq_getD_getElem?, headL_get, if_pos (by omega)] at h0
      cases h0
    subst hin
    refine wpOp_mono ?_ (wpOp_of_does hs h)
    intro a' w' hq
    refine wpAny_full (fun j hj => ?_) hq
    rw [Array.getElem?_setIfInBounds, headL_get]
    by_cases hji : i = j
    · subst hji; rw [if_pos rfl, if_pos (by rw [headL_size]; omega)]
    · rw [if_neg hji, if_pos (by omega)]
/-- Two operations behind all others. -/
theorem tail_two {P : Program} {ops : Array Oper} {Q : Exit → Act → World → Prop} {n : Nat} {s1 s2 : Oper} {a : Act} {w : World} (hnt : ops.size = n + 2) (hs1 : ops[n]? = some s1) (hs2 : ops[n + 1]? = some s2)
    (hback : ∀ i o, ops[i]? = some o → ∀ e ∈ o.after, Region.binds .any e = true → e.on < i)
    (h12 : OpDoes P ops s1 a w fun a' w' => OpDoes P ops s2 a' w' fun a'' w'' => Q .normal a'' w'')
    (h21 : OpDoes P ops s2 a w fun a' w' => OpDoes P ops s1 a' w' fun a'' w'' => Q .normal a'' w'') :
    ∀ fuel, 2 ≤ fuel → wpAny P .any ops Q fuel (headL n 2) a w
  | 0, hf => absurd hf (by omega)
  | 1, hf => absurd hf (by omega)
  | f + 2, _ => by
    have hr : n ∈ Region.ready .any ops (headL n 2) := mem_ready.2 ⟨by rw [Array.getD_eq_getD_getElem?, headL_get, if_neg (by omega), if_pos (by omega)]; rfl, s1, hs1, fun e he hb => by
      rw [Array.getD_eq_getD_getElem?, headL_get, if_pos (hback n s1 hs1 e he hb)]; rfl⟩
    refine ⟨fun h0 => (by rw [h0] at hr; cases hr), fun i hi => ?_⟩
    obtain ⟨h0, o, ho, _⟩ := mem_ready.1 hi
    have hlt := (Array.getElem?_eq_some_iff.1 ho).1
    have hin : i = n ∨ i = n + 1 := by
      apply Decidable.byContradiction
      intro hne
      rw [Array.getD_eq_getD_getElem?, headL_get, if_pos (by omega)] at h0
      cases h0
    -- the other one
    have fin : ∀ (x y : Nat) (sx sy : Oper), (x = n ∧ y = n + 1 ∨ x = n + 1 ∧ y = n) → ops[x]? = some sx → ops[y]? = some sy → (OpDoes P ops sx a w fun a' w' => OpDoes P ops sy a' w' fun a'' w'' => Q .normal a'' w'') →
        wpOp P ops Q x (wpAny P .any ops Q (f + 1) ((headL n 2).setIfInBounds x true)) a w := by
      intro x y sx sy hxy hx hy h
      refine wpOp_mono ?_ (wpOp_of_does hx h)
      intro a' w' h2
      have hget : ∀ j, ((headL n 2).setIfInBounds x true)[j]? = if j < n ∨ j = x then some true else if j = y then some false else none := by
        intro j
        rw [Array.getElem?_setIfInBounds, headL_get]
        by_cases hxj : x = j
        · subst hxj; rw [if_pos rfl, if_pos (by rw [headL_size]; omega), if_pos (.inr rfl)]
        · rw [if_neg hxj]
          by_cases h1 : j < n
          · rw [if_pos h1, if_pos (.inl h1)]
          · rw [if_neg h1, if_neg (show ¬ (j < n ∨ j = x) from fun h => h.elim h1 (fun e => hxj e.symm))]
            by_cases h3 : j = y
            · rw [if_pos (show j < n + 2 by omega), if_pos h3]
            · rw [if_neg (show ¬ j < n + 2 by omega), if_neg h3]
      have hry : y ∈ Region.ready .any ops ((headL n 2).setIfInBounds x true) := mem_ready.2 ⟨by rw [Array.getD_eq_getD_getElem?, hget, if_neg (by omega), if_pos rfl]; rfl, sy, hy, fun e he hb => by
        have := hback y sy hy e he hb
        rw [Array.getD_eq_getD_getElem?, hget, if_pos (by omega)]; rfl⟩
      refine ⟨fun h0 => (by rw [h0] at hry; cases hry), fun i hi => ?_⟩
      obtain ⟨h0, o, ho, _⟩ := mem_ready.1 hi
      have hlt := (Array.getElem?_eq_some_iff.1 ho).1
      have hiy : i = y := by
        apply Decidable.byContradiction
        intro hne
        rw [Array.getD_eq_getD_getElem?, hget, if_pos (by omega)] at h0
        cases h0
      subst hiy
      refine wpOp_mono ?_ (wpOp_of_does hy h2)
      intro a'' w'' hq
      refine wpAny_full (fun j hj => ?_) hq
      rw [Array.getElem?_setIfInBounds, hget]
      by_cases hij : i = j
      · subst hij; rw [if_pos rfl, if_pos (by simp [headL_size]; omega)]
      · rw [if_neg hij, if_pos (by omega)]
    rcases hin with rfl | rfl
    · exact fin _ _ s1 s2 (.inl ⟨rfl, rfl⟩) hs1 hs2 h12
    · exact fin _ _ s2 s1 (.inr ⟨rfl, rfl⟩) hs2 hs1 h21

theorem back_of {l : List Oper} (hb : backB l = true) : ∀ i o, l.toArray[i]? = some o → ∀ e ∈ o.after, Region.binds .any e = true → e.on < i := by
  intro i o ho e he hbd
  unfold backB at hb
  rw [List.all_eq_true] at hb
  have hlt := (Array.getElem?_eq_some_iff.1 ho).1
  have h1 := hb i (List.mem_range.2 (by simpa using hlt))
  rw [show l[i]? = some o from by simpa using ho] at h1
  have h2 := (Array.all_eq_true_iff_forall_mem.1 h1) e he
  rw [hbd] at h2
  simpa using h2
/-- Do the operations from n on wait for all of the first n? -/
def tailB (n : Nat) (l : List Oper) : Bool := (List.range l.length).all fun i => decide (i < n) || match l[i]? with
  | some o => (List.range n).all fun j => o.after.any fun e => Region.binds .any e && decide (e.on = j)
  | none => true
theorem tail_of {n : Nat} {l : List Oper} (hb : tailB n l = true) : ∀ i o, n ≤ i → l.toArray[i]? = some o → ∀ j, j < n → ∃ e ∈ o.after, Region.binds .any e = true ∧ e.on = j := by
  intro i o hi ho j hj
  unfold tailB at hb
  rw [List.all_eq_true] at hb
  have hlt := (Array.getElem?_eq_some_iff.1 ho).1
  have h1 := hb i (List.mem_range.2 (by simpa using hlt))
  rw [show l[i]? = some o from by simpa using ho, decide_eq_false (by omega), Bool.false_or] at h1
  have h2 := (List.all_eq_true.1 h1) j (List.mem_range.2 hj)
  obtain ⟨e, he, h3⟩ := Array.any_eq_true'.1 h2
  rw [Bool.and_eq_true] at h3
  exact ⟨e, he, h3.1, of_decide_eq_true h3.2⟩
/-- THE RULE, with a tail of one. -/
theorem region_tail1 {P : Program} {id : Nat} {Q : Exit → Act → World → Prop} {w : World} {l : List Oper} {s : Oper} (hm : P.follows .mixedOrders = true) (hb : backB (l ++ [s]) = true) (ht : tailB l.length (l ++ [s]) = true) (fill : (Nat → Value) → Act) (C : World → Prop) (V : Nat → Value → World → Prop) (Ext : World → World → Prop)
    (hC : ∀ w w', C w → Ext w w' → C w') (hV : ∀ i u w w', V i u w → Ext w w' → V i u w') (v0 : Nat → Value) (h0 : C w.drew)
    (hop : AllDo P (l ++ [s]).toArray fill C V Ext 0 l)
    (hend : ∀ v w, C w → (∀ i, i < l.length → V i (v i) w) → OpDoes P (l ++ [s]).toArray s (fill v) w fun a' w' => Q .normal a' w') : (Code.region id (l ++ [s]).toArray true).wp P Q (fill v0) w := by
  refine wp_region_any hm (wpAny_head l.length 1 (by simp) fill C V Ext hC hV (back_of hb) (tail_of ht) ?_ ?_ _ _ v0 _ ?_ (by simp) h0 ?_)
  · intro i o hi ho v w hc hd
    have := AllDo.get l 0 hop i o (by simpa [List.getElem?_append_left hi] using ho) v w hc hd
    rw [Nat.zero_add] at this
    exact this
  · intro v w fuel hf hc h
    exact tail_one (s := s) (by simp) (by simp) (back_of hb) (hend v w hc h) fuel hf
  · unfold unlisted
    exact Nat.le_trans (List.length_filter_le _ _) (by simp)
  · intro i hi
    rw [Array.getD_eq_getD_getElem?] at hi
    by_cases hlt : i < (l ++ [s]).toArray.size
    · rw [Array.getElem?_replicate, if_pos hlt] at hi; cases hi
    · rw [Array.getElem?_replicate, if_neg hlt] at hi; cases hi
/-- THE RULE, with a tail of two. -/
theorem region_tail2 {P : Program} {id : Nat} {Q : Exit → Act → World → Prop} {w : World} {l : List Oper} {s1 s2 : Oper} (hm : P.follows .mixedOrders = true) (hb : backB (l ++ [s1, s2]) = true) (ht : tailB l.length (l ++ [s1, s2]) = true) (fill : (Nat → Value) → Act) (C : World → Prop) (V : Nat → Value → World → Prop) (Ext : World → World → Prop)
    (hC : ∀ w w', C w → Ext w w' → C w') (hV : ∀ i u w w', V i u w → Ext w w' → V i u w') (v0 : Nat → Value) (h0 : C w.drew)
    (hop : AllDo P (l ++ [s1, s2]).toArray fill C V Ext 0 l)
    (h12 : ∀ v w, C w → (∀ i, i < l.length → V i (v i) w) → OpDoes P (l ++ [s1, s2]).toArray s1 (fill v) w fun a' w' => OpDoes P (l ++ [s1, s2]).toArray s2 a' w' fun a'' w'' => Q .normal a'' w'')
    (h21 : ∀ v w, C w → (∀ i, i < l.length → V i (v i) w) → OpDoes P (l ++ [s1, s2]).toArray s2 (fill v) w fun a' w' => OpDoes P (l ++ [s1, s2]).toArray s1 a' w' fun a'' w'' => Q .normal a'' w'') : (Code.region id (l ++ [s1, s2]).toArray true).wp P Q (fill v0) w := by
  refine wp_region_any hm (wpAny_head l.length 2 (by simp) fill C V Ext hC hV (back_of hb) (tail_of ht) ?_ ?_ _ _ v0 _ ?_ (by simp) h0 ?_)
  · intro i o hi ho v w hc hd
    have := AllDo.get l 0 hop i o (by simpa [List.getElem?_append_left hi] using ho) v w hc hd
    rw [Nat.zero_add] at this
    exact this
  · intro v w fuel hf hc h
    exact tail_two (s1 := s1) (s2 := s2) (by simp) (by simp) (by simp) (back_of hb) (h12 v w hc h) (h21 v w hc h) fuel hf
  · unfold unlisted
    exact Nat.le_trans (List.length_filter_le _ _) (by simp)
  · intro i hi
    rw [Array.getD_eq_getD_getElem?] at hi
    by_cases hlt : i < (l ++ [s1, s2]).toArray.size
    · rw [Array.getElem?_replicate, if_pos hlt] at hi; cases hi
    · rw [Array.getElem?_replicate, if_neg hlt] at hi; cases hi
end Go.Proofs.Ytpcbdjdmhemjdaa
