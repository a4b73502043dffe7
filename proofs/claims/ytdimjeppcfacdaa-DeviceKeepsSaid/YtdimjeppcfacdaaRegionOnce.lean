/- A region that draws its order, one of whose operations turns what the world is: before it the world is of one kind, behind it of another. No program is spoken of. -/
import Derived.Test.YtdimjeppcfacdaaRegionTail
namespace Go.Proofs.Ytdimjeppcfacdaa
open Go.RowKit
set_option linter.unusedVariables false

theorem wpAny_once {P : Program} {ops : Array Oper} {Q : Exit → Act → World → Prop} (n t c : Nat) (hnt : ops.size = n + t) (hcn : c < n) (fill : (Nat → Value) → Act) (C : Bool → World → Prop) (V : Nat → Value → World → Prop) (Ext : World → World → Prop)
    (hV : ∀ i u w w', V i u w → Ext w w' → V i u w')
    (hback : ∀ i o, ops[i]? = some o → ∀ e ∈ o.after, Region.binds .any e = true → e.on < i)
    (htail : ∀ i o, n ≤ i → ops[i]? = some o → ∀ j, j < n → ∃ e ∈ o.after, Region.binds .any e = true ∧ e.on = j)
    (hop : ∀ i o, i < n → ops[i]? = some o → ∀ (d : Bool) (v : Nat → Value) (w : World), (i = c → d = false) → C d w → (∀ e ∈ o.after, Region.binds .any e = true → V e.on (v e.on) w) →
      OpDoes P ops o (fill v) w fun a' w' => ∃ u, a' = fill (updV v i u) ∧ Ext w w' ∧ V i u w' ∧ C (d || decide (i = c)) w')
    (hend : ∀ v w fuel, t ≤ fuel → C true w → (∀ i, i < n → V i (v i) w) → wpAny P .any ops Q fuel (headL n t) (fill v) w) :
    ∀ (fuel : Nat) (listed : Array Bool) (v : Nat → Value) (w : World), unlisted ops.size listed ≤ fuel → listed.size = ops.size → C (listed.getD c false) w → (∀ i, listed.getD i false = true → i < n ∧ V i (v i) w) →
      wpAny P .any ops Q fuel listed (fill v) w := by
  have htrue : ∀ (listed : Array Bool) (i : Nat), listed.getD i false = true → listed[i]? = some true := by
    intro listed i h
    rw [Array.getD_eq_getD_getElem?] at h
    cases e : listed[i]? with
    | none => rw [e] at h; cases h
    | some b =>
      rw [e] at h
      cases b with
      | false => cases h
      | true => rfl
  have hfalse : ∀ (listed : Array Bool) (i : Nat), i < listed.size → listed.getD i false ≠ true → listed[i]? = some false := by
    intro listed i hi h
    rw [Array.getD_eq_getD_getElem?, Array.getElem?_eq_getElem hi] at h
    rw [Array.getElem?_eq_getElem hi]
    cases e : listed[i] with
    | false => rfl
    | true => rw [e] at h; exact absurd rfl h
  intro fuel
  induction fuel with
  | zero =>
    intro listed v w hf hs hc hv
    -- all have come up: so there is no tail
    have hall : ∀ i, i < ops.size → listed.getD i false = true := by
      intro i hi
      apply Decidable.byContradiction
      intro hne
      have h1 := hfalse listed i (by omega) hne
      have h2 := unlisted_set (n := ops.size) (i := i) (listed := listed) hi hs (by rw [Array.getD_eq_getD_getElem?, h1]; rfl)
      omega
    have ht0 : t = 0 := by
      apply Decidable.byContradiction
      intro h
      have := (hv n (hall n (by omega))).1
      omega
    subst ht0
    have he : listed = headL n 0 := by
      apply Array.ext_getElem?
      intro i
      rw [headL_get]
      by_cases hi : i < n
      · rw [if_pos hi]; exact htrue _ _ (hall i (by omega))
      · rw [if_neg hi, if_neg (by omega)]; exact Array.getElem?_eq_none (by omega)
    rw [hall c (by omega)] at hc
    rw [he]
    exact hend v w 0 (Nat.le_refl _) hc (fun i hi => (hv i (hall i (by omega))).2)
  | succ fuel ih =>
    intro listed v w hf hs hc hv
    by_cases hall : ∀ i, i < n → listed.getD i false = true
    · have he : listed = headL n t := by
        apply Array.ext_getElem?
        intro i
        rw [headL_get]
        by_cases hi : i < n
        · rw [if_pos hi]; exact htrue _ _ (hall i hi)
        · rw [if_neg hi]
          by_cases hi2 : i < n + t
          · rw [if_pos hi2]
            exact hfalse listed i (by omega) (fun h => hi (hv i h).1)
          · rw [if_neg hi2]; exact Array.getElem?_eq_none (by omega)
      have htf : t ≤ fuel + 1 := by
        refine Nat.le_trans ?_ hf
        rw [he]
        unfold unlisted
        have : (List.range ops.size).filter (fun i => !(headL n t).getD i true) = (List.range ops.size).filter (fun i => decide (n ≤ i)) := by
          refine List.filter_congr ?_
          intro i hi
          have hi' := List.mem_range.1 hi
          rw [Array.getD_eq_getD_getElem?, headL_get]
          by_cases h : i < n
          · rw [if_pos h, decide_eq_false (by omega)]; rfl
          · rw [if_neg h, if_pos (by omega), decide_eq_true (by omega)]; rfl
        rw [this, hnt, List.range_add, List.filter_append, List.length_append]
        have h2 : (((List.range t).map (fun x => n + x)).filter (fun i => decide (n ≤ i))).length = t := by
          rw [List.filter_eq_self.2 (by intro a ha; obtain ⟨b, _, rfl⟩ := List.mem_map.1 ha; simp)]
          simp
        omega
      rw [hall c hcn] at hc
      rw [he]
      exact hend v w _ htf hc (fun i hi => (hv i (hall i hi)).2)
    · -- one of the head is missing: none of the tail is ready
      have hready : ∀ i, i ∈ Region.ready .any ops listed → i < n := by
        intro i hi
        apply Decidable.byContradiction
        intro hge
        obtain ⟨_, o, ho, hall2⟩ := mem_ready.1 hi
        refine hall fun j hj => ?_
        obtain ⟨e, he, hb, hon⟩ := htail i o (by omega) ho j hj
        have := hall2 e he hb
        rw [hon] at this
        exact this
      refine ⟨fun hr => ?_, fun i hi => ?_⟩
      · exfalso
        refine hall ?_
        intro i
        induction i using Nat.strongRecOn with
        | _ i ih2 =>
          intro hi
          apply Decidable.byContradiction
          intro hne
          have h1 := hfalse listed i (by omega) hne
          have : i ∈ Region.ready .any ops listed := mem_ready.2 ⟨by rw [Array.getD_eq_getD_getElem?, h1]; rfl, ops[i]'(by omega), Array.getElem?_eq_getElem (by omega), fun e he hb => by
            have h2 := hback i _ (Array.getElem?_eq_getElem (by omega)) e he hb
            exact ih2 e.on h2 (by omega)⟩
          rw [hr] at this
          cases this
      · have hin := hready i hi
        obtain ⟨h0, o, ho, hall2⟩ := mem_ready.1 hi
        refine wpOp_mono ?_ (wpOp_of_does ho (hop i o hin ho _ v w (fun e => by subst e; rw [Array.getD_eq_getD_getElem?] at h0 ⊢; rw [Array.getElem?_eq_getElem (by omega)] at h0 ⊢; simpa using h0) hc fun e he hb => (hv e.on (hall2 e he hb)).2))
        rintro a' w' ⟨u, rfl, hx, hu, hcc⟩
        have hcl : (listed.setIfInBounds i true).getD c false = (listed.getD c false || decide (i = c)) := by
          by_cases hic : i = c
          · subst hic
            rw [decide_eq_true rfl, Bool.or_true, Array.getD_eq_getD_getElem?, Array.getElem?_setIfInBounds, if_pos rfl, if_pos (by omega)]; rfl
          · rw [decide_eq_false hic, Bool.or_false, Array.getD_eq_getD_getElem?, Array.getElem?_setIfInBounds, if_neg hic, Array.getD_eq_getD_getElem?]
        refine ih _ (updV v i u) w' (by have := unlisted_set (n := ops.size) (by omega) hs h0; omega) (by simp [hs]) (by rw [hcl]; exact hcc) fun j hj => ?_
        by_cases hji : j = i
        · subst hji; rw [updV_self]; exact ⟨hin, hu⟩
        · rw [updV_ne v u hji]
          have : (listed.setIfInBounds i true).getD j false = listed.getD j false := by
            simp [Array.getD_eq_getD_getElem?, Array.getElem?_setIfInBounds, Ne.symm hji]
          rw [this] at hj
          exact ⟨(hv j hj).1, hV _ _ _ _ (hv j hj).2 hx⟩


/-- All operations of a list do what is said of them; operation c turns the kind of the world. -/
def AllOnce (P : Program) (ops : Array Oper) (fill : (Nat → Value) → Act) (c : Nat) (C : Bool → World → Prop) (V : Nat → Value → World → Prop) (Ext : World → World → Prop) : Nat → List Oper → Prop
  | _, [] => True
  | i, o :: rest => (∀ (d : Bool) (v : Nat → Value) (w : World), (i = c → d = false) → C d w → (∀ e ∈ o.after, Region.binds .any e = true → V e.on (v e.on) w) → OpDoes P ops o (fill v) w fun a' w' => ∃ u, a' = fill (updV v i u) ∧ Ext w w' ∧ V i u w' ∧ C (d || decide (i = c)) w') ∧ AllOnce P ops fill c C V Ext (i + 1) rest
theorem AllOnce.get {P : Program} {ops : Array Oper} {fill : (Nat → Value) → Act} {c : Nat} {C : Bool → World → Prop} {V : Nat → Value → World → Prop} {Ext : World → World → Prop} : ∀ (l : List Oper) (k : Nat), AllOnce P ops fill c C V Ext k l → ∀ j o, l[j]? = some o →
    ∀ (d : Bool) (v : Nat → Value) (w : World), (k + j = c → d = false) → C d w → (∀ e ∈ o.after, Region.binds .any e = true → V e.on (v e.on) w) → OpDoes P ops o (fill v) w fun a' w' => ∃ u, a' = fill (updV v (k + j) u) ∧ Ext w w' ∧ V (k + j) u w' ∧ C (d || decide (k + j = c)) w'
  | [], _, _, j, o, hj => by simp at hj
  | o' :: rest, k, h, 0, o, hj => by cases hj; exact h.1
  | o' :: rest, k, h, j + 1, o, hj => by
    have := AllOnce.get rest (k + 1) h.2 j o (by simpa using hj)
    rw [show k + (j + 1) = k + 1 + j from by omega]
    exact this
/-- THE RULE, with a tail of two. -/
theorem region_once2 {P : Program} {id : Nat} {Q : Exit → Act → World → Prop} {w : World} {l : List Oper} {s1 s2 : Oper} (hm : P.follows .mixedOrders = true) (hb : backB (l ++ [s1, s2]) = true) (ht : tailB l.length (l ++ [s1, s2]) = true) (fill : (Nat → Value) → Act) (c : Nat) (hcn : c < l.length) (C : Bool → World → Prop) (V : Nat → Value → World → Prop) (Ext : World → World → Prop)
    (hV : ∀ i u w w', V i u w → Ext w w' → V i u w') (v0 : Nat → Value) (h0 : C false w.drew)
    (hop : AllOnce P (l ++ [s1, s2]).toArray fill c C V Ext 0 l)
    (h12 : ∀ v w, C true w → (∀ i, i < l.length → V i (v i) w) → OpDoes P (l ++ [s1, s2]).toArray s1 (fill v) w fun a' w' => OpDoes P (l ++ [s1, s2]).toArray s2 a' w' fun a'' w'' => Q .normal a'' w'')
    (h21 : ∀ v w, C true w → (∀ i, i < l.length → V i (v i) w) → OpDoes P (l ++ [s1, s2]).toArray s2 (fill v) w fun a' w' => OpDoes P (l ++ [s1, s2]).toArray s1 a' w' fun a'' w'' => Q .normal a'' w'') : (Code.region id (l ++ [s1, s2]).toArray true).wp P Q (fill v0) w := by
  refine wp_region_any hm (wpAny_once l.length 2 c (by simp) hcn fill C V Ext hV (back_of hb) (tail_of ht) ?_ ?_ _ _ v0 _ ?_ (by simp) ?_ ?_)
  · intro i o hi ho d v w hd hc hdp
    have := AllOnce.get l 0 hop i o (by simpa [List.getElem?_append_left hi] using ho) d v w (by rw [Nat.zero_add]; exact hd) hc hdp
    rw [Nat.zero_add] at this
    exact this
  · intro v w fuel hf hc h
    exact tail_two (s1 := s1) (s2 := s2) (by simp) (by simp) (by simp) (back_of hb) (h12 v w hc h) (h21 v w hc h) fuel hf
  · unfold unlisted
    exact Nat.le_trans (List.length_filter_le _ _) (by simp)
  · rw [show (Array.replicate (l ++ [s1, s2]).toArray.size false).getD c false = false from by rw [Array.getD_eq_getD_getElem?, Array.getElem?_replicate]; split <;> rfl]
    exact h0
  · intro i hi
    rw [Array.getD_eq_getD_getElem?] at hi
    by_cases hlt : i < (l ++ [s1, s2]).toArray.size
    · rw [Array.getElem?_replicate, if_pos hlt] at hi; cases hi
    · rw [Array.getElem?_replicate, if_neg hlt] at hi; cases hi
/-- THE RULE, with a tail of one. -/
theorem region_once1 {P : Program} {id : Nat} {Q : Exit → Act → World → Prop} {w : World} {l : List Oper} {s : Oper} (hm : P.follows .mixedOrders = true) (hb : backB (l ++ [s]) = true) (ht : tailB l.length (l ++ [s]) = true) (fill : (Nat → Value) → Act) (c : Nat) (hcn : c < l.length) (C : Bool → World → Prop) (V : Nat → Value → World → Prop) (Ext : World → World → Prop)
    (hV : ∀ i u w w', V i u w → Ext w w' → V i u w') (v0 : Nat → Value) (h0 : C false w.drew)
    (hop : AllOnce P (l ++ [s]).toArray fill c C V Ext 0 l)
    (hend : ∀ v w, C true w → (∀ i, i < l.length → V i (v i) w) → OpDoes P (l ++ [s]).toArray s (fill v) w fun a' w' => Q .normal a' w') : (Code.region id (l ++ [s]).toArray true).wp P Q (fill v0) w := by
  refine wp_region_any hm (wpAny_once l.length 1 c (by simp) hcn fill C V Ext hV (back_of hb) (tail_of ht) ?_ ?_ _ _ v0 _ ?_ (by simp) ?_ ?_)
  · intro i o hi ho d v w hd hc hdp
    have := AllOnce.get l 0 hop i o (by simpa [List.getElem?_append_left hi] using ho) d v w (by rw [Nat.zero_add]; exact hd) hc hdp
    rw [Nat.zero_add] at this
    exact this
  · intro v w fuel hf hc h
    exact tail_one (s := s) (by simp) (by simp) (back_of hb) (hend v w hc h) fuel hf
  · unfold unlisted
    exact Nat.le_trans (List.length_filter_le _ _) (by simp)
  · rw [show (Array.replicate (l ++ [s]).toArray.size false).getD c false = false from by rw [Array.getD_eq_getD_getElem?, Array.getElem?_replicate]; split <;> rfl]
    exact h0
  · intro i hi
    rw [Array.getD_eq_getD_getElem?] at hi
    by_cases hlt : i < (l ++ [s]).toArray.size
    · rw [Array.getElem?_replicate, if_pos hlt] at hi; cases hi
    · rw [Array.getElem?_replicate, if_neg hlt] at hi; cases hi
end Go.Proofs.Ytdimjeppcfacdaa
