/- RegionSeq's rule within a round of a range over a function. No program is spoken of. -/
import Derived.Test.YtpdncgjepfgnjaaRegionSeq
import Derived.Test.YtpdncgjepfgnjaaRangeR
namespace Go.Proofs.Ytpdncgjepfgnjaa
open Go.RowKit
set_option linter.unusedVariables false
structure SameW (A B : World) : Prop where
  eq : A = B
theorem region_seq_round {P : Program} {id ll n : Nat} {Q : Exit → Act → World → Prop} {w : World} {l t : List Oper} (hm : P.follows .mixedOrders = true) (hb : backB (l ++ t) = true) (ht : seqB l.length (l ++ t) = true) (hnd : (l ++ t).toArray.all (fun o => match o.op with | .defer _ => false | _ => true) = true) (hLO : LetsOut Q → False)
    (fill : (Nat → Value) → Act) (C : World → Prop) (V : Nat → Value → World → Prop) (Ext : World → World → Prop)
    (hC : ∀ w w', C w → Ext w w' → C w') (hV : ∀ i u w w', V i u w → Ext w w' → V i u w') (v0 : Nat → Value) (h0 : C w.drew)
    (hop : AllDo P (l ++ t).toArray fill C V Ext 0 l)
    (hend : ∀ v w, C w → (∀ i, i < l.length → V i (v i) w) → SeqDoes P (l ++ t).toArray t (fill v) w fun a' w' => Q .normal a' w') : (Code.region id (l ++ t).toArray true).wpIn (Fence.wide.inRound ll) n P Q (fill v0) w := by
  have hrep : ∀ i, (Array.replicate (l ++ t).toArray.size false).getD i false = true → False := fun i hi => by
    rw [Array.getD_eq_getD_getElem?] at hi
    by_cases hlt : i < (l ++ t).toArray.size
    · rw [Array.getElem?_replicate, if_pos hlt] at hi; cases hi
    · rw [Array.getElem?_replicate, if_neg hlt] at hi; cases hi
  refine any_round hm (noDefer_of hnd) hLO (wpAny_headC l.length t.length (by simp) fill C V Ext hC hV (back_of hb) (fun S hS i o hi ho hall j hj => seq_of ht S hS i o hi ho hall j (by omega)) ?_ ?_ _ _ v0 _ ?_ (by simp) h0 (fun i hi => (hrep i hi).elim) (fun i o _ hi => (hrep i hi).elim))
  · intro i o hi ho v w hc hd
    have := AllDo.get l 0 hop i o (by simpa [List.getElem?_append_left hi] using ho) v w hc hd
    rw [Nat.zero_add] at this
    exact this
  · intro v w fuel hf hc h
    exact tail_seq (back_of hb) ht t l.length (fill v) w (Nat.le_refl _) (by simp) (fun k s hk => by rw [List.getElem?_append_right (by omega), Nat.add_sub_cancel_left]; exact hk) (hend v w hc h) fuel hf
  · unfold unlisted
    exact Nat.le_trans (List.length_filter_le _ _) (by simp)
end Go.Proofs.Ytpdncgjepfgnjaa
