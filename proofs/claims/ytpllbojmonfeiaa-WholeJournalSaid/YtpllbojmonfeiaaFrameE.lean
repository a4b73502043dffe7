/- The contract of frame.End. -/
import Derived.Test.YtpllbojmonfeiaaFrameD
namespace Go.Proofs.Ytpllbojmonfeiaa
open Go.RowKit Go.Shelf
set_option linter.unusedVariables false

attribute [local go_sem] Oper.semAt_some

/-- A frame that lies in memory. -/
def FrameAt (W : World) (b : Nat) (x : FX) : Prop := W.heap[b]? = some (.cells #[.int .i64 x.1.2.1, x.2] 82 (0, 0))
theorem FrameAt.putObj {W : World} {b l : Nat} {x : FX} {o : Obj} {r : Loop} (h : FrameAt W b x) (hl : W.heap[l]? = some (.loop r)) : FrameAt (W.putObj l o) b x := by
  have hne : b ≠ l := by
    rintro rfl
    unfold FrameAt at h
    rw [h] at hl
    cases hl
  exact (World.putObj_heap_other hne).trans h

def EndI (w : World) (pre : List FX) (W : World) : Prop := Boxed W w.heap.size 3 (.int .i64 (endOf (pre.map Prod.fst) : Nat)) ∧ Below w.heap.size w W
theorem endI_own (w : World) {B : Nat} (hB : w.heap.size < B) : OwnFrom B (EndI w) := fun s W W' row ⟨h1, h2⟩ hg hr =>
  ⟨h1.kept hg (fun e => by have := (hr _ e.symm).1; omega), ownFrom_below (β := Unit) (Nat.le_refl _) (show w.heap.size ≤ B by omega) () W W' row h2 hg hr⟩
def endA (a : Option Addr) (n c : Nat) (w : World) (x : FX) (a' : Act) (W : World) : Prop :=
  ∃ Bx va vc, w.heap.size + 2 ≤ Bx ∧ x.2 = .slice va x.1.2.2.length vc ∧ FrameAt W Bx x ∧ a' = { tmps := #[.slice a n c, undef, .int .i64 0, .int .i64 0, .pointer (some ⟨w.heap.size, 0, none⟩), .int .i64 x.1.1, .pointer (some ⟨Bx, 0, none⟩), undef, undef, undef, .slice a n c, .func (.func 83) #[] #[.pointer (some ⟨w.heap.size + 1, 0, none⟩)], .int .i64 x.1.1, .agg #[.int .i64 x.1.2.1, x.2], undef, undef, undef, undef, undef, undef, undef, undef, undef, undef, undef, undef, undef, undef, undef, undef, undef, undef, undef, undef, undef], defers := [] }

end Go.Proofs.Ytpllbojmonfeiaa