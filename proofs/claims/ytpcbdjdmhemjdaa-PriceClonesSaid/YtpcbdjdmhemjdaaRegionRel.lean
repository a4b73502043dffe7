/- A region that draws its order, walked operation by operation: each operation leaves, from what those that it waits for have left, a value of which something is said that stays so. No program is spoken of. -/
import Derived.Test.YtpcbdjdmhemjdaaSlices
import Derived.RegionTactic
namespace Go.Proofs.Ytpcbdjdmhemjdaa
open Go.RowKit
set_option linter.unusedVariables false

theorem oper_wp_only {P : Program} {o : Oper} {a : Act} {w : World} {K : Act → World → Prop} {Q : Exit → Act → World → Prop}
    (h : o.wp P a w K (fun e a' w' => e = .normal ∧ K a' w')) : o.wp P a w K Q := by
  unfold Oper.wp at *
  generalize (execOp a.eval o).run P w = r at *
  cases r with
  | ok n w' =>
    cases n <;> simp only [Oper.upon] at h ⊢ <;>
      first
        | exact h
        | exact Calls.mono h (fun e w'' he => by
            cases e with
            | returned v => exact he
            | panicked c => cases he.1
            | outgrown => obtain ⟨_, _, he⟩ := he; cases he.1)
        | exact Rows.mono h (fun _ _ he => by first | exact he | (cases he.1) | (obtain ⟨_, _, he⟩ := he; cases he.1))
  | halt x w' => cases x <;> simp only [Oper.upon] at h ⊢ <;> first | exact h | (cases h.1) | (obtain ⟨_, _, h⟩ := h; cases h.1)

/-- What is asked of one operation, from a frame and a world: what it leaves is told to K. -/
def OpDoes (P : Program) (ops : Array Oper) (o : Oper) (a : Act) (w : World) (K : Act → World → Prop) : Prop :=
  ∀ Q : Exit → Act → World → Prop, (∀ a' w', K a' w' → Q .normal a' w') → if Region.wanted o (yielded ops a.tmps) = true then wpList P #[{ o with guard := none }] Q [{ o with guard := none }] a w else Q .normal (a.put o.dst undef) w

theorem wpOp_of_does {P : Program} {ops : Array Oper} {Q : Exit → Act → World → Prop} {i : Nat} {o : Oper} {a : Act} {w : World} {K : Act → World → Prop} (ho : ops[i]? = some o) (h : OpDoes P ops o a w K) : wpOp P ops Q i K a w := by
  have h1 := h (fun e a' w' => e = .normal ∧ K a' w') (fun a' w' hk => ⟨rfl, hk⟩)
  unfold wpOp
  rw [ho]
  show if Region.wanted o (yielded ops a.tmps) = true then _ else _
  split
  · rename_i hw
    rw [if_pos hw] at h1
    have hg : Region.wanted { o with guard := none } (yielded #[{ o with guard := none }] a.tmps) = true := rfl
    unfold wpList at h1
    rw [if_pos hg] at h1
    rcases h1 with h1 | ⟨_, _, _, he⟩
    · refine .inl (oper_wp_only (o := o) ?_)
      exact Oper.wp_mono (o := o) (fun a' w' hk => hk.2) h1
    · cases he.1
  · rename_i hw
    rw [if_neg hw] at h1
    exact h1.2

/-- The values of a region's operations, one of them anew. -/
def updV (v : Nat → Value) (i : Nat) (u : Value) : Nat → Value := fun j => if j = i then u else v j
theorem updV_self (v : Nat → Value) (i : Nat) (u : Value) : updV v i u i = u := if_pos rfl
theorem updV_ne (v : Nat → Value) {i j : Nat} (u : Value) (h : j ≠ i) : updV v i u j = v j := if_neg h

/-- How many have not come up yet. -/
def unlisted (n : Nat) (listed : Array Bool) : Nat := ((List.range n).filter fun i => !listed.getD i true).length
theorem unlisted_set {n i : Nat} {listed : Array Bool} (hi : i < n) (hs : listed.size = n) (h : listed.getD i true = false) : unlisted n (listed.setIfInBounds i true) < unlisted n listed := by
  unfold unlisted
  have hle : ((List.range n).filter fun j => !(listed.setIfInBounds i true).getD j true).length ≤ (((List.range n).filter fun j => !listed.getD j true).filter fun j => decide (j ≠ i)).length := by
    rw [List.filter_filter, ← List.countP_eq_length_filter, ← List.countP_eq_length_filter]
    refine List.countP_mono_left ?_
    intro j _ hj
    by_cases hji : j = i
    · subst hji
      have : (listed.setIfInBounds j true).getD j true = true := by
        simp only [Array.getD_eq_getD_getElem?, Array.getElem?_setIfInBounds]
        rw [if_pos trivial]
        split <;> rfl
      rw [this] at hj; cases hj
    · have : (listed.setIfInBounds i true).getD j true = listed.getD j true := by
        simp [Array.getD_eq_getD_getElem?, Array.getElem?_setIfInBounds, Ne.symm hji]
      rw [this] at hj
      rw [hj]
      simp [hji]
  refine Nat.lt_of_le_of_lt hle ?_
  have hmem : i ∈ (List.range n).filter fun j => !listed.getD j true := List.mem_filter.2 ⟨List.mem_range.2 hi, by simp [h]⟩
  have := List.length_filter_lt_length_iff_exists (p := fun j => decide (j ≠ i)) (l := (List.range n).filter fun j => !listed.getD j true)
  exact this.2 ⟨i, hmem, by simp⟩

theorem wpAny_rel {P : Program} {ops : Array Oper} {Q : Exit → Act → World → Prop} (fill : (Nat → Value) → Act) (C : World → Prop) (V : Nat → Value → World → Prop) (Ext : World → World → Prop)
    (hC : ∀ w w', C w → Ext w w' → C w') (hV : ∀ i u w w', V i u w → Ext w w' → V i u w')
    (hback : ∀ i o, ops[i]? = some o → ∀ e ∈ o.after, Region.binds .any e = true → e.on < i)
    (hop : ∀ i o, ops[i]? = some o → ∀ (v : Nat → Value) (w : World), C w → (∀ e ∈ o.after, Region.binds .any e = true → V e.on (v e.on) w) →
      OpDoes P ops o (fill v) w fun a' w' => ∃ u, a' = fill (updV v i u) ∧ Ext w w' ∧ V i u w')
    (hend : ∀ v w, C w → (∀ i, i < ops.size → V i (v i) w) → Q .normal (fill v) w) :
    ∀ (fuel : Nat) (listed : Array Bool) (v : Nat → Value) (w : World), unlisted ops.size listed ≤ fuel → listed.size = ops.size → C w → (∀ i, listed.getD i false = true → V i (v i) w) →
      wpAny P .any ops Q fuel listed (fill v) w := by
  -- where none is ready all have come up
  have all : ∀ (listed : Array Bool), listed.size = ops.size → Region.ready .any ops listed = [] → ∀ i, i < ops.size → listed.getD i false = true := by
    intro listed hs hr i
    induction i using Nat.strongRecOn with
    | _ i ih =>
      intro hi
      apply Decidable.byContradiction
      intro hne
      have hlf : listed.getD i true = false := by
        rw [Array.getD_eq_getD_getElem?] at hne ⊢
        rw [Array.getElem?_eq_getElem (by omega)] at hne ⊢
        simpa using hne
      have : i ∈ Region.ready .any ops listed := mem_ready.2 ⟨hlf, ops[i], Array.getElem?_eq_getElem hi, fun e he hb => by
        have h1 := hback i _ (Array.getElem?_eq_getElem hi) e he hb
        exact ih e.on h1 (by omega)⟩
      rw [hr] at this
      cases this
  intro fuel
  induction fuel with
  | zero =>
    intro listed v w hf hs hc hv
    have hr : Region.ready .any ops listed = [] := by
      apply List.eq_nil_iff_forall_not_mem.2
      intro i hi
      have h0 := (mem_ready.1 hi).1
      have hlt : i < ops.size := by
        obtain ⟨_, o, ho, _⟩ := mem_ready.1 hi
        exact (Array.getElem?_eq_some_iff.1 ho).1
      have := unlisted_set hlt hs h0
      omega
    exact ⟨hr, hend v w hc fun i hi => hv i (all listed hs hr i hi)⟩
  | succ fuel ih =>
    intro listed v w hf hs hc hv
    refine ⟨fun hr => hend v w hc fun i hi => hv i (all listed hs hr i hi), fun i hi => ?_⟩
    obtain ⟨h0, o, ho, hall⟩ := mem_ready.1 hi
    have hlt : i < ops.size := (Array.getElem?_eq_some_iff.1 ho).1
    refine wpOp_mono ?_ (wpOp_of_does ho (hop i o ho v w hc fun e he hb => hv e.on (hall e he hb)))
    rintro a' w' ⟨u, rfl, hx, hu⟩
    refine ih _ (updV v i u) w' (by have := unlisted_set hlt hs h0; omega) (by simp [hs]) (hC _ _ hc hx) fun j hj => ?_
    by_cases hji : j = i
    · subst hji; rw [updV_self]; exact hu
    · rw [updV_ne v u hji]
      have : (listed.setIfInBounds i true).getD j false = listed.getD j false := by
        simp [Array.getD_eq_getD_getElem?, Array.getElem?_setIfInBounds, Ne.symm hji]
      rw [this] at hj
      exact hV _ _ _ _ (hv j hj) hx

/-- All operations of a list do what is said of them. -/
def AllDo (P : Program) (ops : Array Oper) (fill : (Nat → Value) → Act) (C : World → Prop) (V : Nat → Value → World → Prop) (Ext : World → World → Prop) : Nat → List Oper → Prop
  | _, [] => True
  | i, o :: rest => (∀ (v : Nat → Value) (w : World), C w → (∀ e ∈ o.after, Region.binds .any e = true → V e.on (v e.on) w) → OpDoes P ops o (fill v) w fun a' w' => ∃ u, a' = fill (updV v i u) ∧ Ext w w' ∧ V i u w') ∧ AllDo P ops fill C V Ext (i + 1) rest
theorem AllDo.get {P : Program} {ops : Array Oper} {fill : (Nat → Value) → Act} {C : World → Prop} {V : Nat → Value → World → Prop} {Ext : World → World → Prop} : ∀ (l : List Oper) (k : Nat), AllDo P ops fill C V Ext k l → ∀ j o, l[j]? = some o →
    ∀ (v : Nat → Value) (w : World), C w → (∀ e ∈ o.after, Region.binds .any e = true → V e.on (v e.on) w) → OpDoes P ops o (fill v) w fun a' w' => ∃ u, a' = fill (updV v (k + j) u) ∧ Ext w w' ∧ V (k + j) u w'
  | [], _, _, j, o, hj => by simp at hj
  | o' :: rest, k, h, 0, o, hj => by cases hj; exact h.1
  | o' :: rest, k, h, j + 1, o, hj => by
    have := AllDo.get rest (k + 1) h.2 j o (by simpa using hj)
    rw [show k + (j + 1) = k + 1 + j from by omega]
    exact this
def backB (ops : List Oper) : Bool := (List.range ops.length).all fun i => match ops[i]? with
  | some o => o.after.all fun e => !Region.binds .any e || decide (e.on < i)
  | none => true

/-- THE RULE. -/
theorem region_rel {P : Program} {id : Nat} {Q : Exit → Act → World → Prop} {w : World} {l : List Oper} (hm : P.follows .mixedOrders = true) (hb : backB l = true) (fill : (Nat → Value) → Act) (C : World → Prop) (V : Nat → Value → World → Prop) (Ext : World → World → Prop)
    (hC : ∀ w w', C w → Ext w w' → C w') (hV : ∀ i u w w', V i u w → Ext w w' → V i u w') (v0 : Nat → Value) (h0 : C w.drew)
    (hop : AllDo P l.toArray fill C V Ext 0 l)
    (hend : ∀ v w, C w → (∀ i, i < l.length → V i (v i) w) → Q .normal (fill v) w) : (Code.region id l.toArray true).wp P Q (fill v0) w := by
  refine wp_region_any hm (wpAny_rel fill C V Ext hC hV ?_ ?_ ?_ _ _ v0 _ ?_ (by simp) h0 ?_)
  · intro i o ho e he hbd
    unfold backB at hb
    rw [List.all_eq_true] at hb
    have hlt := (Array.getElem?_eq_some_iff.1 ho).1
    have h1 := hb i (List.mem_range.2 (by simpa using hlt))
    rw [show l[i]? = some o from by simpa using ho] at h1
    have h2 := (Array.all_eq_true_iff_forall_mem.1 h1) e he
    rw [hbd] at h2
    simpa using h2
  · intro i o ho v w hc hd
    have := AllDo.get l 0 hop i o (by simpa using ho) v w hc hd
    rw [Nat.zero_add] at this
    exact this
  · intro v w hc h
    exact hend v w hc (fun i hi => h i (by simpa using hi))
  · unfold unlisted
    refine Nat.le_trans (List.length_filter_le _ _) (by simp)
  · intro i hi
    rw [Array.getD_eq_getD_getElem?] at hi
    by_cases hlt : i < l.toArray.size
    · rw [Array.getElem?_replicate, if_pos hlt] at hi; cases hi
    · rw [Array.getElem?_replicate, if_neg hlt] at hi; cases hi
end Go.Proofs.Ytpcbdjdmhemjdaa
