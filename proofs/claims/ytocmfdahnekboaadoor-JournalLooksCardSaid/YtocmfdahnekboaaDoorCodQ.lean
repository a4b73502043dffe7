/- codec.Put: the state of its loop. -/
import Derived.Test.YtocmfdahnekboaaDoorCodV
import Derived.Test.YtocmfdahnekboaaDoorCodA
import Derived.Test.YtocmfdahnekboaaDoorFrameAl
namespace Go.Proofs.YtocmfdahnekboaaDoor
open Go.RowKit
set_option linter.unusedVariables false

/-- The rounds of Put: the list so far in the Out behind B, how many in the box behind that. -/
structure PutI (w : World) (B : Nat) (one : Value) (t : TypeId) (vl : Value) (pre : List Int) (W : World) : Prop where
  out : OutB W (B + 1) vl (uvs pre)
  own : ∀ g, vl.ownBlock = some g → B + 3 ≤ g
  one_ : Boxed W B t one
  cnt : Boxed W (B + 2) 44 (.int .u64 (pre.length : Nat))
  low : Below B w W
def PutJ (w : World) (B : Nat) (one : Value) (t : TypeId) (pre : List Int) (W : World) : Prop := ∃ vl, PutI w B one t vl pre W

theorem OutB.cells {W : World} {b : Nat} {v : Value} {l : List Nat} (h : OutB W b v l) {g : Nat} (hg : v.ownBlock = some g) {o : Obj} (ho : W.heap[g]? = some o) : o.isCells = true := by
  rcases h.row.2 with ⟨e, _⟩ | ⟨g', c, cur, hv, _, hh, _⟩
  · rw [e] at hg; cases hg
  · rw [hv] at hg
    obtain rfl : g' = g := by simpa [Value.ownBlock] using hg
    rw [hh] at ho; cases ho; rfl
theorem putJ_own {w : World} {B : Nat} {one : Value} {t : TypeId} : OwnFrom (B + 3) (PutJ w B one t) := fun pre W W' row ⟨vl, h⟩ hg hr =>
  ⟨vl, ⟨⟨(hg.block (B + 1) h.out.lt (fun e => by have := (hr _ e.symm).1; omega)).trans h.out.blk, h.out.row.grown hg (fun g e e2 => by
      obtain ⟨_, o, ho, hc⟩ := hr g e2
      rw [h.out.cells e ho] at hc; cases hc)⟩, h.own,
    h.one_.kept hg (fun e => by have := (hr _ e.symm).1; omega), h.cnt.kept hg (fun e => by have := (hr _ e.symm).1; omega),
    h.low.grown hg (Nat.le_of_lt h.one_.lt) (fun k e => by have := (hr k e).1; omega)⟩⟩
/-- One round. -/
theorem PutI.step {w : World} {B : Nat} {one : Value} {t : TypeId} {vl v' : Value} {pre : List Int} {x : Int} {W W' : World} (h : PutI w B one t vl pre W) (hto : OutTo W (B + 1) vl v' (uvs pre ++ uv (zig x)) W') :
    PutJ w B one t (pre ++ [x]) (W'.setCell ⟨B + 2, 0, none⟩ (.int .u64 ((pre.length : Nat) + 1 : Int))) ∧ KeepsFrom (B + 3) W (W'.setCell ⟨B + 2, 0, none⟩ (.int .u64 ((pre.length : Nat) + 1 : Int))) ∧ Below B W (W'.setCell ⟨B + 2, 0, none⟩ (.int .u64 ((pre.length : Nat) + 1 : Int))) ∧
      Boxed W' (B + 2) 44 (.int .u64 (pre.length : Nat)) := by
  have hmem : ∀ k, k < B + 3 → k ≠ B + 1 → k ∉ (B + 1) :: vl.ownBlock.toList := fun k h1 h2 hk => by
    rcases List.mem_cons.1 hk with e | e
    · exact h2 e
    · rw [Option.mem_toList] at e
      have := h.own k e; omega
  have hone : Boxed W' B t one := (hto.but.block B h.one_.lt (hmem B (by omega) (by omega))).trans h.one_
  have hcnt : Boxed W' (B + 2) 44 (.int .u64 (pre.length : Nat)) := (hto.but.block (B + 2) h.cnt.lt (hmem (B + 2) (by omega) (by omega))).trans h.cnt
  have hset : But [B + 2] W' (W'.setCell ⟨B + 2, 0, none⟩ (.int .u64 ((pre.length : Nat) + 1 : Int))) := (But.refl _ _).set (by simp) _
  have hbut : But ((B + 2) :: (B + 1) :: vl.ownBlock.toList) W (W'.setCell ⟨B + 2, 0, none⟩ (.int .u64 ((pre.length : Nat) + 1 : Int))) := (hto.but.more (fun k hk => .inl (List.mem_cons_of_mem _ hk))).set (by simp) _
  have hge : ∀ k, k ∈ (B + 2) :: (B + 1) :: vl.ownBlock.toList → B ≤ k := fun k hk => by
    rcases List.mem_cons.1 hk with e | hk
    · omega
    · rcases List.mem_cons.1 hk with e | e
      · omega
      · rw [Option.mem_toList] at e
        have := h.own k e; omega
  have hlow := hbut.below hge (Nat.le_of_lt h.one_.lt)
  have hB2 := h.cnt.lt
  have hown' : ∀ g, v'.ownBlock = some g → B + 3 ≤ g := fun g hg => by
    rcases hto.own with e | ⟨g', e, hg'⟩
    · rw [e] at hg; exact h.own g hg
    · rw [e] at hg; cases hg; omega
  refine ⟨⟨v', ⟨?_, hown', hone.other (by omega) _, ?_, h.low.trans hlow⟩⟩, ⟨hbut.size, fun k o hk hko ho => (hbut.block k (Array.getElem?_eq_some_iff.1 hko).1 (fun hm => ?_)).trans hko⟩, hlow, hcnt⟩
  · rw [uvs_snoc]
    exact hto.out.but hset (by simp) (fun g hg hm => by have := hown' g hg; simp at hm; omega)
  · rw [List.length_append]
    exact hcnt.set _
  · rcases List.mem_cons.1 hm with e | hm
    · omega
    · rcases List.mem_cons.1 hm with e | e
      · omega
      · rw [Option.mem_toList] at e
        rw [h.out.cells e hko] at ho; cases ho
end Go.Proofs.YtocmfdahnekboaaDoor

/- codec.Put at int64. -/
namespace Go.Proofs.YtocmfdahnekboaaDoor
open Go.RowKit
set_option linter.unusedVariables false
attribute [local go_sem] Oper.semAt_some
attribute [-go_sem] Builtin.append_

theorem OutTo.late {w X : World} {b D : Nat} {v v' : Value} {l : List Nat} (h : OutTo w b v v' l X) (hD : w.heap.size ≤ D) (hK : X.heap[D]? = some (.deferred (some []))) : OutTo w b v v' l (X.putObj D (.deferred none)) := by
  have hne : b ≠ D := by
    rintro rfl
    have := h.out.blk
    rw [hK] at this; cases this
  have hg := grownBy_putObj' X D (.deferred none)
  refine ⟨⟨(World.putObj_heap_other hne).trans h.out.blk, h.out.row.grown hg (fun g e e2 => ?_)⟩, ⟨hg.os.trans h.but.os, hg.tape.trans h.but.tape, hg.output.trans h.but.output, Nat.le_trans h.but.size hg.size, fun k hk hn => (World.putObj_heap_other (by omega)).trans (h.but.block k hk hn)⟩, h.own⟩
  cases e2
  have := h.out.cells e hK
  cases this

end Go.Proofs.YtocmfdahnekboaaDoor