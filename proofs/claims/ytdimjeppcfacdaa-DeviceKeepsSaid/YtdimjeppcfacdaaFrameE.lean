/- The contract of frame.End. -/
import Derived.Test.YtdimjeppcfacdaaFrameD
namespace Go.Proofs.Ytdimjeppcfacdaa
open Go.RowKit Go.Shelf
set_option linter.unusedVariables false

attribute [local go_sem] Oper.semAt_some

/-- A frame that lies in memory. -/
def FrameAt (W : World) (b : Nat) (x : FX) : Prop := W.heap[b]? = some (.cells #[.int .i64 x.1.2.1, x.2] 78 (0, 0))
theorem FrameAt.putObj {W : World} {b l : Nat} {x : FX} {o : Obj} {r : Loop} (h : FrameAt W b x) (hl : W.heap[l]? = some (.loop r)) : FrameAt (W.putObj l o) b x := by
  have hne : b ≠ l := by
    rintro rfl
    unfold FrameAt at h
    rw [h] at hl
    cases hl
  exact (World.putObj_heap_other hne).trans h

def EndI (w : World) (pre : List FX) (W : World) : Prop := Boxed W w.heap.size 3 (.int .i64 (endOf (pre.map Prod.fst) : Nat)) ∧ Below w.heap.size w W
theorem endI_own (w : World) {B : Nat} (hB : w.heap.size < B) : OwnFrom B (EndI w) := fun s W W' row ⟨h1, h2⟩ hg hr =>
  ⟨h1.kept hg (fun e => by have := (hr _ e.symm).1; omega), ownFrom_below (β := Unit) (Nat.le_refl _) (show w.heap.size ≤ B by omega) () W W' row h2 hg hr⟩
def endA (a : Option Addr) (n c : Nat) (w : World) (x : FX) (a' : Act) (W : World) : Prop :=
  ∃ Bx va vc, w.heap.size + 2 ≤ Bx ∧ x.2 = .slice va x.1.2.2.length vc ∧ FrameAt W Bx x ∧ a' = { tmps := #[.slice a n c, undef, .int .i64 0, .int .i64 0, .pointer (some ⟨w.heap.size, 0, none⟩), .int .i64 x.1.1, .pointer (some ⟨Bx, 0, none⟩), undef, undef, undef, .slice a n c, .func (.func 126) #[] #[.pointer (some ⟨w.heap.size + 1, 0, none⟩)], .int .i64 x.1.1, .agg #[.int .i64 x.1.2.1, x.2], undef, undef, undef, undef, undef, undef, undef, undef, undef, undef, undef, undef, undef, undef, undef, undef, undef, undef, undef, undef, undef], defers := [] }

set_option maxRecDepth 100000 in
set_option maxHeartbeats 4000000 in
theorem end_any (a : Option Addr) (n c : Nat) (L : List Nat) (hL : Bytes L) (w : World) (hS : Sl encY w.heap.size w (.slice a n c) L) :
    Calls Try.prog 56 #[.slice a n c] w fun e w' => e = .returned (.tuple #[.int .i64 (scanE L 0 : Nat), .int .i64 (scanW L : Nat)]) ∧ Below w.heap.size w w' := by
  obtain rfl := hS.len
  have hl1 := hL.1
  have HL := Lib.hid hL
  have HSB := Lib.hid (scan_bound L L.length 0 (by omega))
  have hle := scanE_le L L.length 0 (by omega) (Nat.zero_le _)
  have hz := zframe
  refine (callsIn_wide (n := 3)).1 ?_
  refine callsIn_of_wp_marks Try.func56 rfl trivial ?_ rfl
  simp only [Try.ntmps56, List.size_toArray, List.length_cons, List.length_nil, Nat.reduceAdd, Nat.reduceSub, Array.replicate_succ, Array.replicate_zero, List.push_toArray, List.append_toArray, List.nil_append, List.cons_append]
  obtain ⟨M, hM⟩ : ∃ M, L.length = M := ⟨_, rfl⟩
  have HM := Lib.hid hM
  rw [hM] at hl1 hS hle HSB ⊢
  clear hM hL
  gi_wp2_with (refine ⟨trivial, ?_⟩; gi_at_call 105; refine (callsIn_wide.2 (frames_any _ _ _ _)).mono ?_; rintro e w' ⟨rfl, rfl⟩)
  rename_i Q' K hKQ
  obtain ⟨W0, hW0⟩ : ∃ W0, ((w.alloc (.cells #[.int .i64 0] 3)).alloc (.cells #[.slice a M c] 22)) = W0 := ⟨_, rfl⟩
  have z0 : W0.heap.size = w.heap.size + 2 := by rw [← hW0]; simp
  have y0 : Boxed W0 w.heap.size 3 (.int .i64 0) := by rw [← hW0]; exact (Boxed.new w _ _).alloc _
  have y1 : W0.cell? ⟨w.heap.size + 1, 0, none⟩ = some (.slice a M c) := by
    rw [← hW0]
    have := cell_new_row (w.alloc (.cells #[.int .i64 0] 3)) #[.slice a M c] 22 0
    rw [World.size_alloc] at this; exact this
  have hB0 : Below w.heap.size w W0 := by rw [← hW0]; exact ((Below.refl _ w).alloc (Nat.le_refl _) _).alloc (by simp) _
  have hS0 := (hS.below hB0).mono hB0.size
  have hkv : KeptV w.heap.size [w.heap.size + 1] (.slice a M c) := by
    intro ad n' c' e h0
    cases e
    rcases hS with ⟨_, a', c'', e, _⟩ | ⟨b, off, cap, e, hb, _⟩
    · cases e; omega
    · cases e; exact .inl hb
  rw [hW0]
  have HS := Lib.hid hS
  clear hW0 hS
  refine rangeS rfl (by omega) (gf := 126) (lb := #[.pointer (some ⟨w.heap.size + 1, 0, none⟩)]) rfl trivial (enters_of Try.func126 (by kernel_rfl) rfl)
    (frames1 (w.heap.size + 1) w.heap.size [w.heap.size + 1] L HL.out a M c W0 (by omega) (fun k hk => by simp at hk; omega) (.inr (by simp)) hkv y1 hS0) (endA a M c w)
    (fun x a' W l o r hl ⟨Bx, va, vc, h1, h2, h3, h4⟩ => ⟨Bx, va, vc, h1, h2, h3.putObj hl, h4⟩) (fun r h => by simp at h; omega) (by omega) (Below.refl _ _) (fun _ => rfl)
    (EndI w) (fun _ _ _ => False) (endI_own w (by omega)) (fun _ _ _ _ _ h _ _ => h)
    (fun s W r v hr ⟨h1, h2⟩ => by simp at hr; subst hr; exact ⟨h1.other (by omega) v, h2.setCell (by show w.heap.size ≤ w.heap.size + 1; omega) v⟩) (fun _ _ _ _ _ _ h => h)
    ⟨y0, hB0⟩ ?assign ?body ?done ?stop
  case assign =>
    rintro l pre ⟨⟨p, k, bd⟩, v⟩ W K hi hry hz2 hK
    obtain ⟨va, vc, hv⟩ := (show Sl encY _ W v bd from hry).form
    subst hv
    dsimp only [encF]
    have hbk : w.heap.size + 1 < W.heap.size := by omega
    gi_wp2
    exact hK _ _ ((KeepsOthers.alloc _ _).from _) ⟨(Below.refl _ W).alloc (by omega) _, fun k h1 h2 => by omega, fun k hk => by simp at hk; subst hk; exact Below.heap_alloc W _ _ hbk⟩ ⟨hi.1.alloc _, hi.2.alloc (by omega) _⟩ ⟨W.heap.size, va, vc, by omega, rfl, World.alloc_heap_new W _, rfl⟩
  case body =>
    rintro l pre ⟨⟨p, k, bd⟩, v⟩ a' W ⟨h1, h2⟩ hp hz2 ⟨Bx, va, vc, hBx, hv, hF, rfl⟩
    dsimp only at hv
    subst hv
    have hmem : (p, k, bd) ∈ scanL L 0 := hp.subset (by simp)
    have hbound := (HSB.out _ hmem).2
    dsimp only at hbound
    have HEO : Hid (endOf ((pre ++ [(((p, k, bd), Value.slice va bd.length vc) : FX)]).map Prod.fst) = p + (bd.length + 7)) := Lib.hid (by rw [List.map_append]; exact endOf_snoc _ _)
    unfold FrameAt at hF
    dsimp only at hF ⊢
    obtain ⟨q, hq⟩ : ∃ q, bd.length = q := ⟨_, rfl⟩
    obtain ⟨s, hs⟩ : ∃ s, q + 7 = s := ⟨_, rfl⟩
    rw [hq] at hF hbound HEO ⊢
    rw [hs] at hbound HEO
    have HQ := Lib.hid hs
    have hq7 : q ≤ 1048576 := by omega
    obtain ⟨f1, f2, f3, f4⟩ := cell2 hF
    have c4 := h1.cell
    have f5 := h1.frozen
    have HI := Lib.hid h1
    clear hs hp hmem hF h1
    gi_wp2_with (refine ⟨trivial, ?_⟩; gi_at_call 103; refine (CallsIn.inRound l (callsIn_wide.2 (weight_nat q s hq7 HQ.out _))).mono ?_; rintro e w' ⟨rfl, rfl⟩)
    refine ⟨(KeepsOthers.setCell _ _ _).from _, ⟨(Below.refl _ W).setCell (p := ⟨w.heap.size, 0, none⟩) (Nat.le_refl _) _, fun k h1 h2 => by omega, fun k hk => by simp at hk; subst hk; exact Below.heap_setCell _ _ _ _ (by show w.heap.size + 1 ≠ w.heap.size; omega)⟩, ?_, h2.setCell (p := ⟨w.heap.size, 0, none⟩) (Nat.le_refl _) _⟩
    rw [HEO.out]
    exact HI.out.set _
  case done =>
    rintro D ys W hD hys ⟨h1, h2⟩ hK
    refine hKQ _ _ ?_
    rw [hys, endOf_scan] at h1
    have hSW := (HS.out.below h2).mono h2.size
    obtain ⟨E0, hE0⟩ : ∃ E0, scanE L 0 = E0 := ⟨_, rfl⟩
    have c4 := h1.cell
    rw [hE0] at c4 hle
    by_cases hEM : E0 = M
    · have HW : Hid (scanW L = 0) := Lib.hid (if_pos (by rw [hE0, HM.out, hEM]))
      have HE := Lib.hid hE0
      have hEi : ((E0 : Int) == (M : Int)) = true := by rw [hEM]; simp
      clear hE0 hEM h1 hSW
      gi_wp2
      refine ⟨by simp, .inl ⟨_, _, rfl, run_takeDeferred hK, ?_⟩⟩
      exact ⟨_, results_tmp2 rfl _ _ _, by rw [HW.out, HE.out]; rfl, h2.trans (belowK_b (w := w) (Nat.le_refl _) W D _ _ (by omega) hK rfl rfl)⟩
    · have hlt : E0 < M := by omega
      have HW : Hid (scanW L = readE (L.drop E0)) := Lib.hid (by unfold scanW; rw [hE0, if_neg (by rw [HM.out]; omega)])
      have HE := Lib.hid hE0
      have hEi : ((E0 : Int) == (M : Int)) = false := beq_eq_false_iff_ne.2 (by omega)
      obtain ⟨b, off, rfl⟩ : ∃ b off, a = some ⟨b, off, none⟩ := by
        rcases hSW with ⟨e0, _⟩ | ⟨b, off, cap, e, _⟩
        · have := HM.out; rw [e0] at this; simp at this; omega
        · cases e; exact ⟨_, _, rfl⟩
      have hSd := hSW.drop hlt
      have hcap := hSW.capb
      have hBd : Bytes (L.drop E0) := ⟨by rw [List.length_drop]; have := HL.out.1; omega, fun x hx => HL.out.2 x (List.mem_of_mem_drop hx)⟩
      have HRD := Lib.hid (read_any _ _ _ (L.drop E0) hBd W hSd)
      obtain ⟨t, ht⟩ : ∃ t, readE (L.drop E0) = t := ⟨_, rfl⟩
      unfold ReadTo at HRD
      rw [ht] at HRD HW
      obtain ⟨k0, hk0⟩ : ∃ k0, readK (L.drop E0) = k0 := ⟨_, rfl⟩
      obtain ⟨n0, hn0⟩ : ∃ n0, readN (L.drop E0) = n0 := ⟨_, rfl⟩
      rw [hk0, hn0] at HRD
      have hpc : E0 < c := by omega
      have hwW : w.heap.size < W.heap.size := by have := (Array.getElem?_eq_some_iff.1 hK).1; omega
      have hpi : (E0 : Int) < M := by omega
      clear hE0 hEM h1 hSW ht hk0 hn0 hSd hBd
      gi_wp2_with (refine ⟨trivial, ?_⟩; gi_at_call 53; refine (callsIn_wide.2 HRD.out).mono ?_; rintro e w2 ⟨v, rfl, hSv, hb2⟩; obtain ⟨va, vc, rfl⟩ := hSv.form; have c42 := (hb2.cell (p := ⟨w.heap.size, 0, none⟩) hwW).trans c4; have hw2 : w.heap.size < w2.heap.size := Nat.lt_of_lt_of_le hwW hb2.size; clear hSv)
      have hKD := (hb2.block D (Array.getElem?_eq_some_iff.1 hK).1).trans hK
      have hb02 := h2.trans (hb2.mono h2.size)
      have hzz := hb2.size
      have hDl := (Array.getElem?_eq_some_iff.1 hKD).1
      have hb3 : Below w.heap.size w (w2.alloc (.cells #[.int .i64 k0, .slice va (readB (L.drop E0)).length vc] 78)) := hb02.alloc hb02.size _
      have hKD3 := (Below.heap_alloc w2 (.cells #[.int .i64 k0, .slice va (readB (L.drop E0)).length vc] 78) D hDl).trans hKD
      refine ⟨by simp, .inl ⟨_, _, rfl, run_takeDeferred hKD3, ?_⟩⟩
      exact ⟨_, results_tmp2 rfl _ _ _, by rw [HW.out, HE.out]; rfl, hb3.trans (belowK_b (w := w) (Nat.le_refl _) _ D _ _ (by omega) hKD3 rfl rfl)⟩
  case stop =>
    rintro D c' pre W _ _ h _
    exact h.elim
end Go.Proofs.Ytdimjeppcfacdaa
