/- A region that draws its order, some of whose operations turn what lies in memory: what is said of the world goes by which operations have come up. No program is spoken of. -/
import Derived.Test.YtfgppkmhjjnnnaaDoorRegionRel
namespace Go.Proofs.YtfgppkmhjjnnnaaDoor
open Go.RowKit
set_option linter.unusedVariables false

def updL (L : Nat → Bool) (i : Nat) : Nat → Bool := fun j => if j = i then true else L j
theorem updL_self (L : Nat → Bool) (i : Nat) : updL L i i = true := if_pos rfl
theorem updL_ne (L : Nat → Bool) {i j : Nat} (h : j ≠ i) : updL L i j = L j := if_neg h

theorem wpAny_inv {P : Program} {ops : Array Oper} {Q : Exit → Act → World → Prop} (fill : (Nat → Value) → Act) (G : (Nat → Bool) → World → Prop) (V : Nat → Value → World → Prop) (Ext : Nat → World → World → Prop)
    (hV : ∀ i j u w w', i ≠ j → V i u w → Ext j w w' → V i u w')
    (hback : ∀ i o, ops[i]? = some o → ∀ e ∈ o.after, Region.binds .any e = true → e.on < i)
    (hop : ∀ i o, ops[i]? = some o → ∀ (L : Nat → Bool) (v : Nat → Value) (w : World), G L w → L i = false → (∀ e ∈ o.after, Region.binds .any e = true → L e.on = true ∧ V e.on (v e.on) w) →
      OpDoes P ops o (fill v) w fun a' w' => ∃ u, a' = fill (updV v i u) ∧ Ext i w w' ∧ V i u w' ∧ G (updL L i) w')
    (hend : ∀ L v w, G L w → (∀ i, i < ops.size → L i = true ∧ V i (v i) w) → Q .normal (fill v) w) :
    ∀ (fuel : Nat) (listed : Array Bool) (v : Nat → Value) (w : World), unlisted ops.size listed ≤ fuel → listed.size = ops.size → G (fun i => listed.getD i false) w → (∀ i, listed.getD i false = true → V i (v i) w) →
      wpAny P .any ops Q fuel listed (fill v) w := by
  have all : ∀ (listed : Array Bool), listed.size = ops.size → Region.ready .any ops listed = [] → ∀ i, i < ops.size → listed.getD i false = true := by
    intro listed hs hr i
    induction i using Nat.strongRecOn with
    | _ i ih =>
      intro hi
      apply Decidable.byContradiction
      intro hne
      have hlf : listed.getD i true = false := by
        rw [Array.getD_eq_getD_getElem?] at hne ⊢
        rw [Array.getElem?_eq_getElem (by omega)] at hne ⊢
        simpa using hne
      have : i ∈ Region.ready .any ops listed := mem_ready.2 ⟨hlf, ops[i], Array.getElem?_eq_getElem hi, fun e he hb => by
        have h1 := hback i _ (Array.getElem?_eq_getElem hi) e he hb
        exact ih e.on h1 (by omega)⟩
      rw [hr] at this
      cases this
  intro fuel
  induction fuel with
  | zero =>
    intro listed v w hf hs hc hv
    have hr : Region.ready .any ops listed = [] := by
      apply List.eq_nil_iff_forall_not_mem.2
      intro i hi
      have h0 := (mem_ready.1 hi).1
      have hlt : i < ops.size := by
        obtain ⟨_, o, ho, _⟩ := mem_ready.1 hi
        exact (Array.getElem?_eq_some_iff.1 ho).1
      have := unlisted_set hlt hs h0
      omega
    exact ⟨hr, hend _ v w hc fun i hi => ⟨all listed hs hr i hi, hv i (all listed hs hr i hi)⟩⟩
  | succ fuel ih =>
    intro listed v w hf hs hc hv
    refine ⟨fun hr => hend _ v w hc fun i hi => ⟨all listed hs hr i hi, hv i (all listed hs hr i hi)⟩, fun i hi => ?_⟩
    obtain ⟨h0, o, ho, hall⟩ := mem_ready.1 hi
    have hlt : i < ops.size := (Array.getElem?_eq_some_iff.1 ho).1
    have h0' : listed.getD i false = false := by
      rw [Array.getD_eq_getD_getElem?] at h0 ⊢
      rw [Array.getElem?_eq_getElem (by omega)] at h0 ⊢
      simpa using h0
    have hset : ∀ j, (listed.setIfInBounds i true).getD j false = updL (fun i => listed.getD i false) i j := fun j => by
      by_cases hji : j = i
      · subst hji
        rw [updL_self]
        simp only [Array.getD_eq_getD_getElem?, Array.getElem?_setIfInBounds]
        rw [if_pos trivial, if_pos (by omega)]
        rfl
      · rw [updL_ne _ hji]
        simp [Array.getD_eq_getD_getElem?, Array.getElem?_setIfInBounds, Ne.symm hji]
    refine wpOp_mono ?_ (wpOp_of_does ho (hop i o ho _ v w hc h0' fun e he hb => ⟨hall e he hb, hv e.on (hall e he hb)⟩))
    rintro a' w' ⟨u, rfl, hx, hu, hg⟩
    refine ih _ (updV v i u) w' (by have := unlisted_set hlt hs h0; omega) (by simp [hs]) (by rw [show (fun j => (listed.setIfInBounds i true).getD j false) = updL (fun i => listed.getD i false) i from funext hset]; exact hg) fun j hj => ?_
    by_cases hji : j = i
    · subst hji; rw [updV_self]; exact hu
    · rw [updV_ne v u hji]
      rw [hset, updL_ne _ hji] at hj
      exact hV _ _ _ _ _ hji (hv j hj) hx

/-- All operations of a list do what is said of them. -/
def AllDoI (P : Program) (ops : Array Oper) (fill : (Nat → Value) → Act) (G : (Nat → Bool) → World → Prop) (V : Nat → Value → World → Prop) (Ext : Nat → World → World → Prop) : Nat → List Oper → Prop
  | _, [] => True
  | i, o :: rest => (∀ (L : Nat → Bool) (v : Nat → Value) (w : World), G L w → L i = false → (∀ e ∈ o.after, Region.binds .any e = true → L e.on = true ∧ V e.on (v e.on) w) → OpDoes P ops o (fill v) w fun a' w' => ∃ u, a' = fill (updV v i u) ∧ Ext i w w' ∧ V i u w' ∧ G (updL L i) w') ∧ AllDoI P ops fill G V Ext (i + 1) rest
theorem AllDoI.get {P : Program} {ops : Array Oper} {fill : (Nat → Value) → Act} {G : (Nat → Bool) → World → Prop} {V : Nat → Value → World → Prop} {Ext : Nat → World → World → Prop} : ∀ (l : List Oper) (k : Nat), AllDoI P ops fill G V Ext k l → ∀ j o, l[j]? = some o →
    ∀ (L : Nat → Bool) (v : Nat → Value) (w : World), G L w → L (k + j) = false → (∀ e ∈ o.after, Region.binds .any e = true → L e.on = true ∧ V e.on (v e.on) w) → OpDoes P ops o (fill v) w fun a' w' => ∃ u, a' = fill (updV v (k + j) u) ∧ Ext (k + j) w w' ∧ V (k + j) u w' ∧ G (updL L (k + j)) w'
  | [], _, _, j, o, hj => by simp at hj
  | o' :: rest, k, h, 0, o, hj => by cases hj; exact h.1
  | o' :: rest, k, h, j + 1, o, hj => by
    have := AllDoI.get rest (k + 1) h.2 j o (by simpa using hj)
    rw [show k + (j + 1) = k + 1 + j from by omega]
    exact this

/-- What every order of a region does. -/
theorem any_inv {P : Program} {Q : Exit → Act → World → Prop} {w : World} {l : List Oper} (hb : backB l = true) (fill : (Nat → Value) → Act) (G : (Nat → Bool) → World → Prop) (V : Nat → Value → World → Prop) (Ext : Nat → World → World → Prop)
    (hV : ∀ i j u w w', i ≠ j → V i u w → Ext j w w' → V i u w') (v0 : Nat → Value) (h0 : G (fun _ => false) w.drew)
    (hop : AllDoI P l.toArray fill G V Ext 0 l)
    (hend : ∀ L v w, G L w → (∀ i, i < l.length → L i = true ∧ V i (v i) w) → Q .normal (fill v) w) : wpAny P .any l.toArray Q l.toArray.size (Array.replicate l.toArray.size false) (fill v0) w.drew := by
  have hrep : ∀ i, (Array.replicate l.toArray.size false).getD i false = false := fun i => by
    rw [Array.getD_eq_getD_getElem?]
    by_cases hlt : i < l.toArray.size
    · rw [Array.getElem?_replicate, if_pos hlt]; rfl
    · rw [Array.getElem?_replicate, if_neg hlt]; rfl
  refine wpAny_inv fill G V Ext hV ?_ ?_ ?_ _ _ v0 _ ?_ (by simp) (by rw [show (fun i => (Array.replicate l.toArray.size false).getD i false) = (fun _ => false) from funext hrep]; exact h0) (fun i hi => by rw [hrep] at hi; cases hi)
  · intro i o ho e he hbd
    unfold backB at hb
    rw [List.all_eq_true] at hb
    have hlt := (Array.getElem?_eq_some_iff.1 ho).1
    have h1 := hb i (List.mem_range.2 (by simpa using hlt))
    rw [show l[i]? = some o from by simpa using ho] at h1
    have h2 := (Array.all_eq_true_iff_forall_mem.1 h1) e he
    rw [hbd] at h2
    simpa using h2
  · intro i o ho L v w hc h0 hd
    have := AllDoI.get l 0 hop i o (by simpa using ho) L v w hc (by rw [Nat.zero_add]; exact h0) hd
    rw [Nat.zero_add] at this
    exact this
  · intro L v w hc h
    exact hend L v w hc (fun i hi => h i (by simpa using hi))
  · unfold unlisted
    refine Nat.le_trans (List.length_filter_le _ _) (by simp)
/-- THE RULE. -/
theorem region_inv {P : Program} {id : Nat} {Q : Exit → Act → World → Prop} {w : World} {l : List Oper} (hm : P.follows .mixedOrders = true) (hb : backB l = true) (fill : (Nat → Value) → Act) (G : (Nat → Bool) → World → Prop) (V : Nat → Value → World → Prop) (Ext : Nat → World → World → Prop)
    (hV : ∀ i j u w w', i ≠ j → V i u w → Ext j w w' → V i u w') (v0 : Nat → Value) (h0 : G (fun _ => false) w.drew)
    (hop : AllDoI P l.toArray fill G V Ext 0 l)
    (hend : ∀ L v w, G L w → (∀ i, i < l.length → L i = true ∧ V i (v i) w) → Q .normal (fill v) w) : (Code.region id l.toArray true).wp P Q (fill v0) w :=
  wp_region_any hm (any_inv hb fill G V Ext hV v0 h0 hop hend)
end Go.Proofs.YtfgppkmhjjnnnaaDoor
