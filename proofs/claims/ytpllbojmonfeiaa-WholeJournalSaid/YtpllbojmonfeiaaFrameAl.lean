/- The document's example of layer 6 is answered as it says. -/
import Derived.Test.YtpllbojmonfeiaaFrameE
import Derived.Test.YtpllbojmonfeiaaSumRef
namespace Go.Proofs.Ytpllbojmonfeiaa
open Go.RowKit Go.Shelf SumM
set_option linter.unusedVariables false

attribute [local go_sem] Oper.semAt_some

theorem wpIn_act {F : Fence} {n : Nat} {P : Program} {c : Code} {Q : Exit → Act → World → Prop} {a : Act} {w : World} (h : ∀ A, A = a → c.wpIn F n P Q A w) : c.wpIn F n P Q a w := h a rfl

def fb : List Nat := frameL 7 [97, 98]
theorem fb_len : fb.length = 9 := frame_len 7 [97, 98]
theorem fb_bytes : Bytes fb := ⟨by rw [fb_len]; decide, frame_bytes (by decide) (by decide) (by decide)⟩
theorem fb_5 : fb.take 5 = [2, 0, 7, 97, 98] := rfl
theorem fb_read (m : List Nat) : readE (fb ++ m) = 0 ∧ readK (fb ++ m) = 7 ∧ readB (fb ++ m) = [97, 98] ∧ readN (fb ++ m) = 9 := read_frame 7 [97, 98] m (by decide) (by decide)
theorem fb_8 : readE (fb.take 8) = 21 := read_cut 7 [97, 98] 8 (by decide) (by decide)
theorem fb_drop (m : List Nat) : (fb ++ m).drop 9 = m := by rw [show (9 : Nat) = fb.length from fb_len.symm, List.drop_left]
theorem fb_scan : scanL (fb ++ fb) 0 = [(0, 7, [97, 98]), (9, 7, [97, 98])] := by
  have hl : (fb ++ fb).length = 18 := by rw [List.length_append, fb_len]
  obtain ⟨e, k, b, n⟩ := fb_read fb
  obtain ⟨e2, k2, b2, n2⟩ := fb_read []
  rw [List.append_nil] at e2 k2 b2 n2
  rw [scanL_step (a := 0) (by rw [hl]; decide) (by rw [List.drop_zero]; exact e), List.drop_zero, k, b, n, Nat.zero_add, scanL_step (a := 9) (by rw [hl]; decide) (by rw [fb_drop]; exact e2), fb_drop, k2, b2, n2, scanL_end (by rw [hl]; decide)]
theorem fb_end : scanE (fb ++ [1]) 0 = 9 ∧ scanW (fb ++ [1]) = 21 := by
  have hl : (fb ++ [1]).length = 10 := by rw [List.length_append, fb_len]; rfl
  obtain ⟨e, k, b, n⟩ := fb_read [1]
  have h1 : scanE (fb ++ [1]) 0 = 9 := by
    rw [scanE_step (a := 0) (by rw [hl]; decide) (by rw [List.drop_zero]; exact e), List.drop_zero, n, Nat.zero_add, scanE_bad (by rw [fb_drop]; decide)]
  refine ⟨h1, ?_⟩
  unfold scanW
  rw [h1, hl, if_neg (by decide), fb_drop]
  decide
theorem fb1_bytes : Bytes (fb ++ [1]) := ⟨by rw [List.length_append, fb_len]; decide, fun x hx => by rcases List.mem_append.1 hx with h | h; exact fb_bytes.2 x h; simp at h; omega⟩
theorem fb1_len : (fb ++ [1]).length = 10 := by rw [List.length_append, fb_len]; rfl
theorem fbfb_len : (fb ++ fb).length = 18 := by rw [List.length_append, fb_len]
theorem fb8_bytes : Bytes (fb.take 8) := ⟨by rw [List.length_take, fb_len]; decide, fun x hx => fb_bytes.2 x (List.mem_of_mem_take hx)⟩
theorem fbfb_bytes : Bytes (fb ++ fb) := ⟨by rw [List.length_append, fb_len]; decide, fun x hx => by rcases List.mem_append.1 hx with h | h <;> exact fb_bytes.2 x h⟩
theorem write_fb : writeE 7 [97, 98] = 0 ∧ writeL 7 [97, 98] = fb := ⟨by decide, rfl⟩

theorem two_cases {A B : Nat × Nat × List Nat} {pre : List FX} {x : FX} (h : (pre ++ [x]).map Prod.fst <+: [A, B]) : (pre = [] ∧ x.1 = A) ∨ (∃ y, pre = [y] ∧ y.1 = A ∧ x.1 = B) := by
  match pre, h with
  | [], h => exact .inl ⟨rfl, by simpa using h⟩
  | [y], h => exact .inr ⟨y, rfl, by simpa using h⟩
  | y :: z :: t, h => have := h.length_le; simp at this
def cntF (pre : List FX) : Nat := (pre.map fun x => x.1.1 + x.1.2.1).sum
def AlI (Bk : Nat) (w0 : World) (pre : List FX) (W : World) : Prop := Boxed W Bk 3 (.int .i64 (cntF pre : Nat)) ∧ Below Bk w0 W
theorem alI_own {Bk : Nat} {w0 : World} {B : Nat} (h0 : Bk ≤ w0.heap.size) (hB : Bk < B) : OwnFrom B (AlI Bk w0) := fun s W W' row ⟨h1, h2⟩ hg hr =>
  ⟨h1.kept hg (fun e => by have := (hr _ e.symm).1; omega), ownFrom_below (β := Unit) h0 (show Bk ≤ B by omega) () W W' row h2 hg hr⟩
def alA (A : Act) (z : Nat) (x : FX) (a' : Act) (W : World) : Prop :=
  ∃ Bx va vc, z ≤ Bx ∧ x.2 = .slice va x.1.2.2.length vc ∧ FrameAt W Bx x ∧ a' = { tmps := (((A.tmps.setIfInBounds 55 (.int .i64 x.1.1)).setIfInBounds 56 (.agg #[.int .i64 x.1.2.1, x.2])).setIfInBounds 10 (.int .i64 x.1.1)).setIfInBounds 11 (.pointer (some ⟨Bx, 0, none⟩)), defers := [] }

end Go.Proofs.Ytpllbojmonfeiaa