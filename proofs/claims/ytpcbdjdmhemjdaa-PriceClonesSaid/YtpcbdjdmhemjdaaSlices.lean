/- Slices that the call itself made, told as lists: small facts that all the walks share. -/
import Derived.Test.YtpcbdjdmhemjdaaRows
import Derived.WalkKit
import Derived.WalkSpells
import Derived.WalkLawsBesides
import Derived.Lib.Hide
import Derived.Maps.AppendAt
import Derived.RangeFuncBox
namespace Go.Proofs.Ytpcbdjdmhemjdaa
open Go.RowKit

/-- The slice value sv holds xs, in a block below n; or it is nil, or empty at whatever place, and there are none. -/
def Sl {α : Type} (enc : α → Value) (n : Nat) (W : World) (sv : Value) (xs : List α) : Prop :=
  (xs = [] ∧ ∃ a c, sv = .slice a 0 c ∧ (a = none → c = 0)) ∨ ∃ b off cap, sv = .slice (some ⟨b, off, none⟩) xs.length cap ∧ b < n ∧ xs.length ≤ cap ∧ ∀ j x, xs[j]? = some x → W.cell? ⟨b, off + j, none⟩ = some (enc x)

theorem Sl.nil {α : Type} (enc : α → Value) (n : Nat) (W : World) : Sl enc n W (.slice none 0 0) [] := .inl ⟨rfl, none, 0, rfl, fun _ => rfl⟩
theorem Sl.below {α : Type} {enc : α → Value} {n : Nat} {A B : World} (h : Below n A B) {sv : Value} {xs : List α} : Sl enc n A sv xs → Sl enc n B sv xs
  | .inl e => .inl e
  | .inr ⟨b, off, cap, e, hb, hcap, hc⟩ => .inr ⟨b, off, cap, e, hb, hcap, fun j x hj => (h.cell (p := ⟨b, off + j, none⟩) hb).trans (hc j x hj)⟩
theorem Sl.mono {α : Type} {enc : α → Value} {n m : Nat} {A : World} (h : n ≤ m) {sv : Value} {xs : List α} : Sl enc n A sv xs → Sl enc m A sv xs
  | .inl e => .inl e
  | .inr ⟨b, off, cap, e, hb, hcap, hc⟩ => .inr ⟨b, off, cap, e, Nat.lt_of_lt_of_le hb h, hcap, hc⟩

theorem ownsRow_lt {w : World} {B e : Nat} {v : Value} {n : Nat} {xs : List Value} {g cap : Nat} (h : w.ownsRow B e 1 v n xs) (hv : v = .slice (some ⟨g, 0, none⟩) n cap) : g < w.heap.size := by
  rcases h.2 with ⟨e, _⟩ | ⟨g', cap', cur, e, _, hgb, _⟩
  · rw [hv] at e; cases e
  · rw [hv] at e; cases e; exact (Array.getElem?_eq_some_iff.1 hgb).1

/-- What is owned can be read. -/
theorem Sl.of_owns {α : Type} {enc : α → Value} {w : World} {B e : Nat} {v : Value} {xs : List α} (h : w.ownsRow B e 1 v xs.length (xs.map enc)) : Sl enc w.heap.size w v xs := by
  rcases h.2 with ⟨rfl, h0⟩ | ⟨g, cap, cur, rfl, _, hgb, hn, _, hs, ht⟩
  · rw [List.eq_nil_of_length_eq_zero h0]; exact Sl.nil _ _ _
  · refine .inr ⟨g, 0, cap, rfl, (Array.getElem?_eq_some_iff.1 hgb).1, hn, fun j x hj => ?_⟩
    have hlt : j < xs.length := (List.getElem?_eq_some_iff.1 hj).1
    have e1 : (xs.map enc)[j]? = some (enc x) := by rw [List.getElem?_map, hj]; rfl
    rw [← ht, List.getElem?_take] at e1
    simp only [Nat.mul_one] at e1
    rw [if_pos hlt] at e1
    simp only [World.cell?, hgb]
    rw [Nat.zero_add]
    simpa using e1

/-- A literal slice of no element. -/
theorem ownsRow_empty (w : World) (e : TypeId) : (w.alloc (.cells #[] e)).ownsRow w.heap.size e 1 (.slice (some ⟨w.heap.size, 0, none⟩) 0 0) 0 [] :=
  ⟨rfl, .inr ⟨w.heap.size, 0, #[], rfl, Nat.le_refl _, World.alloc_heap_new w _, Nat.le_refl _, Nat.zero_le _, rfl, rfl⟩⟩

/-- Behind an append to what the call owns nothing that lay before it has turned. -/
theorem below_append {B : Nat} {W0 wr w1 : World} {e : TypeId} {v : Value} {n : Nat} {xs : List Value} {o : Obj} (hown : wr.ownsRow B e 1 v n xs) (hB : B ≤ wr.heap.size) (hnx : Below B W0 wr)
    (hgrow : (wr.alloc o).grownBy w1 v.ownBlock) : Below B W0 w1 := by
  refine (hnx.alloc hB o).grown hgrow (by simp; omega) (fun j hj => ?_)
  rcases hown.2 with ⟨rfl, _⟩ | ⟨g, cap, cur, rfl, hg, _, _⟩
  · simp [Value.ownBlock] at hj
  · obtain rfl : g = j := by simpa [Value.ownBlock] using hj
    exact hg

theorem cell_new_row (w : World) (cs : Array Value) (t : TypeId) (j : Nat) : (w.alloc (.cells cs t)).cell? ⟨w.heap.size, j, none⟩ = cs[j]? := by
  have h := World.alloc_heap_new w (.cells cs t)
  simp only [World.cell?]
  rw [h]
  rfl
/-- A literal slice. -/
theorem Sl.lit {α : Type} (enc : α → Value) (w : World) (e : TypeId) (xs : List α) (cs : Array Value) (h : cs = (xs.map enc).toArray) : Sl enc (w.alloc (.cells cs e)).heap.size (w.alloc (.cells cs e)) (.slice (some ⟨w.heap.size, 0, none⟩) xs.length xs.length) xs := by
  refine .inr ⟨w.heap.size, 0, xs.length, rfl, by simp, Nat.le_refl _, fun j x hj => ?_⟩
  rw [cell_new_row, h, Nat.zero_add]
  simp [hj]

end Go.Proofs.Ytpcbdjdmhemjdaa
