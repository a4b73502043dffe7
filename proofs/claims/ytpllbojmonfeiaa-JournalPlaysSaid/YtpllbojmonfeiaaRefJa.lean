/- The document's own journal: Append. -/
import Derived.Test.YtpllbojmonfeiaaRefDj
import Derived.Test.YtpllbojmonfeiaaRegionSeq
import Derived.Test.YtpllbojmonfeiaaRefAc
namespace Go.Proofs.Ytpllbojmonfeiaa
open Go.RowKit SumM
set_option linter.unusedVariables false
attribute [local go_sem] Oper.semAt_some

theorem RcO.at_ {X : List Nat} {W : World} {a : Option Addr} {m c k : Nat} {l : List Nat} {ls : List (List Nat)} (h : RcO X W (.slice a m c) ls) (hl : ls[k]? = some l) :
    ∃ b off, a = some ⟨b, off, none⟩ ∧ b < W.heap.size ∧ ∃ v, W.cell? ⟨b, off + k, none⟩ = some v ∧ Sl encY W.heap.size W v l ∧ Off X v := by
  obtain ⟨_, base, ys, rfl, h3, h4⟩ := h
  rw [List.getElem?_map] at hl
  obtain ⟨y, hy, rfl⟩ := Option.map_eq_some_iff.1 hl
  obtain ⟨a', c', e⟩ := own_form h3
  cases e
  obtain ⟨g, rfl, hc⟩ := own_cell h3 (i := k) (u := y.2) (by rw [List.getElem?_map, hy]; rfl)
  obtain ⟨_, cur, hg⟩ := own_at h3 (show (Value.slice (some ⟨g, 0, none⟩) ys.length c).ownBlock = some g from rfl)
  exact ⟨g, 0, rfl, (Array.getElem?_eq_some_iff.1 hg).1, y.2, by rw [Nat.zero_add]; exact hc, (h4 y (List.mem_of_getElem? hy)).1, (h4 y (List.mem_of_getElem? hy)).2⟩
theorem RcO.len {X : List Nat} {W : World} {a : Option Addr} {m c : Nat} {ls : List (List Nat)} (h : RcO X W (.slice a m c) ls) : m = ls.length := h.parts.len
/-- A journal in which a region's bytes are others. -/
def SetR (E : List Nat) (r : Nat) (A B : Value) (cap ag : Int) (S R : Value) (en : Int) (l : List Nat) (W : World) (u : Value) : Prop := ∃ x xn xc, u = jdV (if r = 0 then .slice x xn xc else A) (if r = 0 then B else .slice x xn xc) cap (r : Nat) ag S R en ∧ Sl encY W.heap.size W (.slice x xn xc) l ∧ Off E (.slice x xn xc)
set_option maxRecDepth 100000 in
set_option maxHeartbeats 8000000 in
theorem jappend_any (v : Value) (l0 l1 : List Nat) (cap r a f : Nat) (hr : r = 0 ∨ r = 1) (hcap : cap ≤ 1048576) (hfb : f ≤ 1048576) (rec : List Nat) (hs : ∀ x ∈ rec, x < 256) (hn : rec.length ≤ 1000000) (hrf : (if r = 0 then l0 else l1).length = f)
    (hnr : (recsL (if r = 0 then l0 else l1)).length ≤ 1048576) (hsn : rec.length ≤ 4096 → f + (rec.length + 7) ≤ cap → snapL ((if r = 0 then l0 else l1) ++ frameL 4 rec) = snapL (if r = 0 then l0 else l1) ∧ recsL ((if r = 0 then l0 else l1) ++ frameL 4 rec) = recsL (if r = 0 then l0 else l1) ++ [rec])
    (pa : Option Addr) (n c : Nat) (w : World) (hS : Sl encY w.heap.size w (.slice pa n c) rec) (E : List Nat) (hE : ∀ k ∈ E, k < w.heap.size) (hJ : DocJ E w v l0 l1 cap r a f) :
    Calls Try.prog 31 #[v, .slice pa n c] w (ApD E w v l0 l1 cap r a f rec) := by
  have hz := zjd
  obtain ⟨p0, p1, ps, pr, n0, c0, n1, c1, ns, cs, nr, cr, rfl, h1, h2, h3, h4, h5, h6, h7⟩ := hJ.val
  obtain ⟨N, hN⟩ : ∃ N, w.heap.size = N := ⟨_, rfl⟩
  have HNN := Lib.hid hN
  have H1 := Lib.hid h1
  have H2 := Lib.hid h2
  have H3 := Lib.hid h3
  have H4 := Lib.hid h4
  have HSN := Lib.hid hS
  have HR := Lib.hid hr
  have HE := Lib.hid hE
  have HO0 := Lib.hid h5
  have HO1 := Lib.hid h6
  have HO2 := Lib.hid h7
  clear h5 h6 h7 hE
  have HRF := Lib.hid hrf
  have HNR := Lib.hid hnr
  have HSNR := Lib.hid hsn
  have HRB := Lib.hid hs
  obtain ⟨M, hM⟩ : ∃ M, rec.length = M := ⟨_, rfl⟩
  have HM := Lib.hid hM
  rw [hM] at hn
  clear hJ h1 h2 h3 h4 hS hr hrf hnr hsn hs hM hN
  have HWR := Lib.hid (fun (W : World) (h : Below w.heap.size w W) => refWrite_any 4 pa n c rec ⟨by have := HM.out; omega, HRB.out⟩ W ((HSN.out.below h).mono h.size))
  obtain ⟨w1, hw1⟩ : ∃ w1, (w.alloc (.cells (jdC (.slice p0 n0 c0) (.slice p1 n1 c1) (cap : Nat) (r : Nat) (a : Nat) (.slice ps ns cs) (.slice pr nr cr) (f : Nat)) rjT)).alloc (.cells (jdC (.slice none 0 0) (.slice none 0 0) 0 0 0 (.slice none 0 0) (.slice none 0 0) 0) rjT) = w1 := ⟨_, rfl⟩
  have rJ : w1.heap[N]? = some (.cells (jdC (.slice p0 n0 c0) (.slice p1 n1 c1) (cap : Nat) (r : Nat) (a : Nat) (.slice ps ns cs) (.slice pr nr cr) (f : Nat)) rjT (0, 0)) := by rw [← hw1, ← HNN.out, Below.heap_alloc _ _ _ (by simp)]; exact World.alloc_heap_new w _
  have rZ : w1.heap[N + 1]? = some (.cells (jdC (.slice none 0 0) (.slice none 0 0) 0 0 0 (.slice none 0 0) (.slice none 0 0) 0) rjT (0, 0)) := by rw [← hw1, ← HNN.out]; exact in_new2 _ _ _
  have hb1 : Below w.heap.size w w1 := by rw [← hw1]; exact in_new2_below _ _ _
  have HJ := Lib.hid rJ
  have HZ := Lib.hid rZ
  have HB1 := Lib.hid hb1
  have HW := Lib.hid (HWR.out w1 hb1)
  have HW1 := Lib.hid hw1
  clear rJ rZ hb1 HWR hw1
  by_cases h4 : 4096 < M
  · have hwe : writeE 4 rec = 2 := by unfold writeE; rw [if_neg (by omega), if_pos (by rw [HM.out]; exact h4)]
    rw [hwe] at HW
    clear hwe
    go_enter Try.func31, Try.ntmps31
    go_upto_region 1 with fail
    rw [HNN.out, HW1.out]
    clear HW1
    go_wp2_with fail
    refine HW.out.mono ?_
    rintro e w2 ⟨v2, rfl, hs2, hb2⟩
    obtain ⟨q, d, rfl⟩ := hs2.form
    have HJ2 := Lib.hid ((hb2.block N (Array.getElem?_eq_some_iff.1 HJ.out).1).trans HJ.out)
    have HZ2 := Lib.hid ((hb2.block (N + 1) (Array.getElem?_eq_some_iff.1 HZ.out).1).trans HZ.out)
    have HB2 : Hid (Below w.heap.size w w2) := Lib.hid (HB1.out.trans (hb2.mono HB1.out.size))
    clear hs2 hb2 HJ HZ HW
    obtain ⟨j0, j1, j2, j3, j4, j5, j6, j7, jf⟩ := cellsJ8 HJ2.out
    obtain ⟨z0, z1, z2, z3, z4, z5, z6, z7, zf⟩ := cellsJ8 HZ2.out
    have zf0 := zf 0
    have zf1 := zf 1
    have zf2 := zf 2
    have zf3 := zf 3
    have zf4 := zf 4
    have zf5 := zf 5
    have zf6 := zf 6
    have zf7 := zf 7
    clear jf zf
    go_wp2
    refine bodyPost_ret (jd_res2 _ 4 5 rfl _ _ (N + 1) _ _ _ _ _ _ _ _ _ rfl rfl (heap_set8 HZ2.out)) rfl ?_
    unfold ApD
    rw [HM.out, if_pos h4]
    refine ⟨?_, rfl⟩
    have h := HB2.out
    rw [HNN.out] at h ⊢
    exact set8_below h (by omega)
  · have hwe : writeE 4 rec = 0 := by unfold writeE; rw [if_neg (by omega), if_neg (by rw [HM.out]; exact h4)]
    have HWL : Hid (writeL 4 rec = frameL 4 rec) := Lib.hid (if_pos hwe)
    rw [hwe, HWL.out] at HW
    have HFL : Hid ((frameL 4 rec).length = M + 7) := Lib.hid (by rw [frame_len, HM.out])
    clear hwe HWL
    go_enter Try.func31, Try.ntmps31
    go_upto_region 1 with fail
    rw [HNN.out, HW1.out]
    clear HW1
    go_wp2_with fail
    refine HW.out.mono ?_
    rintro e w2 ⟨v2, rfl, hs2, hb2⟩
    obtain ⟨q, d, rfl⟩ := hs2.form
    rw [HFL.out] at hs2 ⊢
    have HJ2 := Lib.hid ((hb2.block N (Array.getElem?_eq_some_iff.1 HJ.out).1).trans HJ.out)
    have HZ2 := Lib.hid ((hb2.block (N + 1) (Array.getElem?_eq_some_iff.1 HZ.out).1).trans HZ.out)
    have HB2 : Hid (Below w.heap.size w w2) := Lib.hid (HB1.out.trans (hb2.mono HB1.out.size))
    have HS2 := Lib.hid hs2
    clear hs2 hb2 HJ HZ HW
    obtain ⟨j0, j1, j2, j3, j4, j5, j6, j7, jf⟩ := cellsJ8 HJ2.out
    obtain ⟨z0, z1, z2, z3, z4, z5, z6, z7, zf⟩ := cellsJ8 HZ2.out
    have zf0 := zf 0
    have zf1 := zf 1
    have zf2 := zf 2
    have zf3 := zf 3
    have zf4 := zf 4
    have zf5 := zf 5
    have zf6 := zf 6
    have zf7 := zf 7
    clear jf zf
    by_cases hful : cap < f + (M + 7)
    · have hfi : (cap : Int) < (f : Int) + ((M : Int) + 7) := by omega
      go_wp2
      refine bodyPost_ret (jd_res2 _ 4 5 rfl _ _ (N + 1) _ _ _ _ _ _ _ _ _ rfl rfl (heap_set8 HZ2.out)) rfl ?_
      unfold ApD
      rw [HM.out, if_neg h4, if_pos hful]
      refine ⟨?_, rfl⟩
      have h := HB2.out
      rw [HNN.out] at h ⊢
      exact set8_below h (by omega)
    · have hfi : ¬ (cap : Int) < (f : Int) + ((M : Int) + 7) := by omega
      clear zf0 zf1 zf2 zf3 zf4 zf5 zf6 zf7 z0 z1 z2 z3 z4 z5 z6 z7
      go_upto_region 6 with fail
      obtain ⟨ROW, hROW⟩ : ∃ ROW, (if r = 0 then l0 else l1) = ROW := ⟨_, rfl⟩
      have HROW := Lib.hid hROW
      have hSR : Sl encY w2.heap.size w2 (if r = 0 then Value.slice p0 n0 c0 else .slice p1 n1 c1) ROW := by
        rw [← hROW]
        rcases HR.out with h | h
        · rw [if_pos h, if_pos h]; exact (H1.out.below HB2.out).mono HB2.out.size
        · rw [if_neg (by omega), if_neg (by omega)]; exact (H2.out.below HB2.out).mono HB2.out.size
      have hRl : ROW.length = f := by rw [← hROW]; exact HRF.out
      obtain ⟨gp, gc, hgv⟩ := hSR.form
      rw [hgv] at hSR
      rw [hRl] at hSR hgv
      have HSR := Lib.hid hSR
      have HRL := Lib.hid hRl
      have HRG := Lib.hid (fun (W : World) => jregion_any p0 p1 n0 c0 n1 c1 (cap : Nat) (r : Nat) (a : Nat) ps pr ns nr cs cr (f : Nat) r HR.out W)
      rw [hgv] at HRG
      have HST := Lib.hid (fun (W : World) (x : Option Addr) (xn xc : Nat) => jset_any p0 p1 n0 c0 n1 c1 (cap : Nat) (r : Nat) (a : Nat) ps pr ns nr cs cr (f : Nat) r HR.out x xn xc W)
      have hjn : (ROW ++ frameL 4 rec).length ≤ 1048576 := by rw [List.length_append, hRl, HFL.out]; omega
      have HJN := Lib.hid hjn
      clear hSR hgv hRl hROW hjn
      refine region_seq (l := [_, _, _, _, _, _, _, _, _, _, _]) (t := [_]) (by kernel_rfl) (by decide +kernel) (by decide +kernel) (fun v => { tmps := #[jdV (Value.slice p0 n0 c0) (Value.slice p1 n1 c1) ((cap : Int)) ((r : Int)) ((a : Int)) (Value.slice ps ns cs) (Value.slice pr nr cr) (f : Int), Value.slice pa n c, Value.pointer (some ⟨N, 0, none⟩), undef, Value.pointer (some ⟨N + 1, 0, none⟩), Value.int IntKind.i64 0, Value.slice q (M + 7) d, Value.int IntKind.i64 0, undef, undef, Value.tuple #[Value.slice q (M + 7) d, Value.int IntKind.i64 0], Value.slice pa n c, Value.tuple #[Value.slice q (M + 7) d, Value.int IntKind.i64 0], Value.slice q (M + 7) d, Value.int IntKind.i64 0, Value.int IntKind.i64 0, Value.bool false, undef, undef, Value.pointer (some ⟨N, 7, none⟩), Value.int IntKind.i64 (f : Int), Value.slice q (M + 7) d, Value.int IntKind.i64 ((M : Int) + 7), Value.int IntKind.i64 ((f : Int) + ((M : Int) + 7)), Value.pointer (some ⟨N, 2, none⟩), Value.int IntKind.i64 (cap : Int), Value.bool (decide ((cap : Int) < (f : Int) + ((M : Int) + 7))), undef, v 0, v 1, v 2, v 3, v 4, v 5, v 6, v 7, v 8, v 9, v 10, undef, undef, undef, undef, undef, undef, undef, undef, undef, undef, undef, undef, undef, undef, undef, undef, undef, undef, undef, undef, undef, undef, undef, undef, undef, undef, undef, undef, undef], defers := [] }) (fun W => Below w2.heap.size w2 W) (fun i' u W => match i' with
        | 0 => u = jdV (.slice p0 n0 c0) (.slice p1 n1 c1) (cap : Nat) (r : Nat) (a : Nat) (.slice ps ns cs) (.slice pr nr cr) (f : Nat)
        | 1 => u = .pointer (some ⟨N, 3, none⟩)
        | 2 => u = .int .i64 (r : Nat)
        | 3 => u = jdV (.slice p0 n0 c0) (.slice p1 n1 c1) (cap : Nat) (r : Nat) (a : Nat) (.slice ps ns cs) (.slice pr nr cr) (f : Nat)
        | 4 => u = .pointer (some ⟨N, 3, none⟩)
        | 5 => u = .int .i64 (r : Nat)
        | 6 => u = .slice gp f gc
        | 7 => u = .slice q (M + 7) d
        | 8 => ∃ B, u = .slice (some ⟨B, 0, none⟩) 2 2 ∧ Parts W.heap.size W (.slice (some ⟨B, 0, none⟩) 2 2) [ROW, frameL 4 rec]
        | 9 => ∃ x xn xc, u = .slice x xn xc ∧ Sl encY W.heap.size W (.slice x xn xc) (ROW ++ frameL 4 rec) ∧ Off E (.slice x xn xc)
        | 10 => SetR E r (.slice p0 n0 c0) (.slice p1 n1 c1) (cap : Nat) (a : Nat) (.slice ps ns cs) (.slice pr nr cr) (f : Nat) (ROW ++ frameL 4 rec) W u
        | _ => True) (fun A B => Below A.heap.size A B) ?hC ?hV (fun _ => undef) ?h0 ?hop ?hend
      case hC => exact fun A B h h2 => h.trans (h2.mono h.size)
      case h0 => exact (Below.refl _ w2).drew
      case hV =>
        intro i' u A B h hx
        match i', h with
        | 0, h => exact h
        | 1, h => exact h
        | 2, h => exact h
        | 3, h => exact h
        | 4, h => exact h
        | 5, h => exact h
        | 6, h => exact h
        | 7, h => exact h
        | 8, ⟨b, e, h⟩ => exact ⟨b, e, (h.below hx).mono hx.size⟩
        | 9, ⟨b, x, y, e, h, h2⟩ => exact ⟨b, x, y, e, (h.below hx).mono hx.size, h2⟩
        | 10, ⟨b, x, y, e, h, h2⟩ => exact ⟨b, x, y, e, (h.below hx).mono hx.size, h2⟩
        | n + 11, h => trivial
      case hop =>
        simp only [AllDo]
        refine ⟨?o0, ?o1, ?o2, ?o3, ?o4, ?o5, ?o6, ?o7, ?o8, ?o9, ?o10, trivial⟩
        all_goals intro v W hc hd Q hQ
        all_goals simp [Region.binds] at hd
        all_goals rw [if_pos (show Region.wanted _ _ = true from rfl)]
        case o0 =>
          obtain ⟨z0, z1, z2, z3, z4, z5, z6, z7, _⟩ := cellsJ8 ((hc.block N (Array.getElem?_eq_some_iff.1 HJ2.out).1).trans HJ2.out)
          go_wp2
          exact ⟨_, rfl, Below.refl _ _, rfl⟩
        case o1 =>
          go_wp2
          exact ⟨_, rfl, Below.refl _ _, rfl⟩
        case o2 =>
          have z3 := (cellsJ8 ((hc.block N (Array.getElem?_eq_some_iff.1 HJ2.out).1).trans HJ2.out)).2.2.2.1
          go_wp2
          refine ⟨_, ?_, Below.refl _ _, rfl⟩
          simp [updV, hd]
        case o3 =>
          obtain ⟨z0, z1, z2, z3, z4, z5, z6, z7, _⟩ := cellsJ8 ((hc.block N (Array.getElem?_eq_some_iff.1 HJ2.out).1).trans HJ2.out)
          go_wp2
          exact ⟨_, rfl, Below.refl _ _, rfl⟩
        case o4 =>
          go_wp2
          exact ⟨_, rfl, Below.refl _ _, rfl⟩
        case o5 =>
          have z3 := (cellsJ8 ((hc.block N (Array.getElem?_eq_some_iff.1 HJ2.out).1).trans HJ2.out)).2.2.2.1
          go_wp2
          refine ⟨_, ?_, Below.refl _ _, rfl⟩
          simp [updV, hd]
        case o6 =>
          obtain ⟨h1, h2⟩ := hd
          go_wp2_with fail
          refine (HRG.out W).mono ?_
          rintro e W' ⟨rfl, hb'⟩
          go_wp2
          refine ⟨.slice gp f gc, ?_, hb', rfl⟩
          simp [updV, h1, h2]
        case o7 =>
          go_wp2
          exact ⟨_, rfl, Below.refl _ _, rfl⟩
        case o8 =>
          obtain ⟨h1, h2⟩ := hd
          have HP := Lib.hid (Parts.two W (.slice gp f gc) (.slice q (M + 7) d) ROW (frameL 4 rec) 22 ((HSR.out.below hc).mono hc.size) ((HS2.out.below hc).mono hc.size))
          go_wp2
          refine ⟨.slice (some ⟨W.heap.size, 0, none⟩) 2 2, ?_, (Below.refl _ _).alloc (Nat.le_refl _) _, W.heap.size, rfl, HP.out⟩
          simp [updV, h1, h2]
        case o9 =>
          obtain ⟨⟨B, h1, h2⟩, h3⟩ := hd
          have HJN2 := Lib.hid (joinY_any _ _ _ [ROW, frameL 4 rec] (by have := HJN.out; simpa using this) (by simp) W h2)
          clear h2
          go_wp2_with fail
          refine HJN2.out.mono ?_
          rintro e W' ⟨vv, rfl, hown, hb'⟩
          have hso := Sl.of_owns hown
          obtain ⟨x, xn, xc, rfl⟩ := ownsRow_form hown
          have HOO : Hid (Off E (.slice x xn xc)) := Lib.hid (fun ad m e h _ hm => by
            have q1 := own_blockJ hown ad m e h
            have q2 := HE.out _ hm
            have q3 := HB2.out.size
            have q4 := hc.size
            omega)
          have HSO : Hid (Sl encY W'.heap.size W' (.slice x xn xc) (ROW ++ frameL 4 rec)) := Lib.hid (by simpa using hso)
          clear hso hown
          go_wp2
          refine ⟨.slice x xn xc, ?_, hb', x, xn, xc, rfl, HSO.out, HOO.out⟩
          simp [updV, h1, h3]
        case o10 =>
          obtain ⟨h1, h2, x, xn, xc, h3, h4, h5⟩ := hd
          have H4' := Lib.hid h4
          have H5' := Lib.hid h5
          clear h4 h5
          go_wp2_with fail
          refine (HST.out W x xn xc).mono ?_
          rintro e W' ⟨rfl, hb'⟩
          have HSO := Lib.hid ((H4'.out.below hb').mono hb'.size)
          obtain ⟨VV, hVV⟩ : ∃ VV, jdV (if r = 0 then Value.slice x xn xc else .slice p0 n0 c0) (if r = 0 then Value.slice p1 n1 c1 else .slice x xn xc) (cap : Nat) (r : Nat) (a : Nat) (.slice ps ns cs) (.slice pr nr cr) (f : Nat) = VV := ⟨_, rfl⟩
          rw [hVV]
          have HVV := Lib.hid hVV
          clear hVV
          go_wp2
          refine ⟨VV, ?_, hb', x, xn, xc, HVV.out.symm, HSO.out, H5'.out⟩
          simp [updV, h1, h2, h3]
      case hend =>
        intro v W hc hv
        obtain ⟨x, xn, xc, e10, hx10, ho10⟩ := hv 10 (by decide)
        obtain ⟨q0, m0, d0, hq0⟩ : ∃ q0 m0 d0, (if r = 0 then Value.slice x xn xc else .slice p0 n0 c0) = .slice q0 m0 d0 := by split; exact ⟨_, _, _, rfl⟩; exact ⟨_, _, _, rfl⟩
        obtain ⟨q1, m1, d1, hq1⟩ : ∃ q1 m1 d1, (if r = 0 then Value.slice p1 n1 c1 else .slice x xn xc) = .slice q1 m1 d1 := by split; exact ⟨_, _, _, rfl⟩; exact ⟨_, _, _, rfl⟩
        have HP0 : Hid (Off E (.slice q0 m0 d0)) := Lib.hid (by rw [← hq0]; split; exact ho10; exact HO0.out)
        have HP1 : Hid (Off E (.slice q1 m1 d1)) := Lib.hid (by rw [← hq1]; split; exact HO1.out; exact ho10)
        clear ho10
        have hbW : Below w.heap.size w W := HB2.out.trans (hc.mono HB2.out.size)
        have HD0 : Hid (Sl encY W.heap.size W (.slice q0 m0 d0) (if r = 0 then l0 ++ frameL 4 rec else l0)) := Lib.hid (by
          rw [← hq0]
          rcases HR.out with h | h
          · rw [if_pos h, if_pos h]; have hr := HROW.out; rw [if_pos h] at hr; rw [hr]; exact hx10
          · rw [if_neg (by omega), if_neg (by omega)]; exact (H1.out.below hbW).mono hbW.size)
        have HD1 : Hid (Sl encY W.heap.size W (.slice q1 m1 d1) (if r = 0 then l1 else l1 ++ frameL 4 rec)) := Lib.hid (by
          rw [← hq1]
          rcases HR.out with h | h
          · rw [if_pos h, if_pos h]; exact (H2.out.below hbW).mono hbW.size
          · rw [if_neg (by omega), if_neg (by omega)]; have hr := HROW.out; rw [if_neg (by omega)] at hr; rw [hr]; exact hx10)
        rw [hq0, hq1] at e10
        have rJW := (hc.block N (Array.getElem?_eq_some_iff.1 HJ2.out).1).trans HJ2.out
        have rZW := (hc.block (N + 1) (Array.getElem?_eq_some_iff.1 HZ2.out).1).trans HZ2.out
        have HJW := Lib.hid rJW
        have HZW := Lib.hid rZW
        have HBW := Lib.hid hbW
        clear j0 j1 j2 j3 j4 j5 j6 j7
        obtain ⟨j0, j1, j2, j3, j4, j5, j6, j7, jf⟩ := cellsJ8 rJW
        have jf0 := jf 0
        have jf1 := jf 1
        have jf2 := jf 2
        have jf3 := jf 3
        have jf4 := jf 4
        have jf5 := jf 5
        have jf6 := jf 6
        have jf7 := jf 7
        clear hv hx10 hq0 hq1 hbW rJW rZW jf hc HRG HST HSR
        simp only [SeqDoes]
        intro Q1 hQ1
        rw [if_pos (show Region.wanted _ _ = true from rfl)]
        obtain ⟨w3, hw3⟩ : ∃ w3, ((((((((W.setCell ⟨N, 0, none⟩ (.slice q0 m0 d0)).setCell ⟨N, 1, none⟩ (.slice q1 m1 d1)).setCell ⟨N, 2, none⟩ (.int .i64 (cap : Nat))).setCell ⟨N, 3, none⟩ (.int .i64 (r : Nat))).setCell ⟨N, 4, none⟩ (.int .u64 (a : Nat))).setCell ⟨N, 5, none⟩ (.slice ps ns cs)).setCell ⟨N, 6, none⟩ (.slice pr nr cr)).setCell ⟨N, 7, none⟩ (.int .i64 (f : Nat))) = w3 := ⟨_, rfl⟩
        have hb8 := set8_but W N (v0 := .slice q0 m0 d0) (v1 := .slice q1 m1 d1) (v2 := .int .i64 (cap : Nat)) (v3 := .int .i64 (r : Nat)) (v4 := .int .u64 (a : Nat)) (v5 := .slice ps ns cs) (v6 := .slice pr nr cr) (v7 := .int .i64 (f : Nat))
        have rJ3 := heap_set8 (v0 := .slice q0 m0 d0) (v1 := .slice q1 m1 d1) (v2 := .int .i64 (cap : Nat)) (v3 := .int .i64 (r : Nat)) (v4 := .int .u64 (a : Nat)) (v5 := .slice ps ns cs) (v6 := .slice pr nr cr) (v7 := .int .i64 (f : Nat)) HJW.out
        rw [hw3] at hb8 rJ3
        have hcJ := jdC_no p0 p1 ps pr n0 c0 n1 c1 ns cs nr cr (cap : Nat) (r : Nat) (a : Nat) (f : Nat)
        have HE0 := Lib.hid (HD0.out.but hb8 (off_cells HD0.out HJW.out hcJ))
        have HE1 := Lib.hid (HD1.out.but hb8 (off_cells HD1.out HJW.out hcJ))
        have HB3 : Hid (Below w.heap.size w w3) := Lib.hid (HBW.out.trans (hb8.below (fun k hk => by simp at hk; have := HNN.out; omega) HBW.out.size))
        have HZ3 := Lib.hid ((hb8.block (N + 1) (Array.getElem?_eq_some_iff.1 HZW.out).1 (by simp)).trans HZW.out)
        have HJ3 := Lib.hid rJ3
        have HW3 := Lib.hid hw3
        clear hb8 rJ3 hcJ hw3 HD0 HD1
        go_upto_region 7 with fail
        rw [HW3.out]
        clear e10 HW3 j0 j1 j2 j3 j4 j5 j6 j7 jf0 jf1 jf2 jf3 jf4 jf5 jf6 jf7
        obtain ⟨i1, hi1, hy0, hy1, hy2⟩ := info_parts infoB
        obtain ⟨RS, hRS⟩ : ∃ RS, recsL (if r = 0 then l0 else l1) = RS := ⟨_, rfl⟩
        have hPP : RcO E w3 (.slice pr nr cr) RS := by rw [← hRS]; exact H4.out.below HB3.out
        have hnrl := hPP.len
        have hnr2 : nr ≤ 1048576 := by rw [hnrl, ← hRS]; exact HNR.out
        have HPP := Lib.hid hPP
        have HNL := Lib.hid hnrl
        have HRS := Lib.hid hRS
        have hNlt : N + 1 < w3.heap.size := (Array.getElem?_eq_some_iff.1 HZ3.out).1
        have HN1 := Lib.hid hNlt
        have HST0 : Hid (RcD (Off E) w3.heap.size (w3.alloc (.cells #[] yssT)) (.slice (some ⟨w3.heap.size, 0, none⟩) 0 0) (RS.take 0)) := Lib.hid ⟨[], by rw [List.take_zero]; rfl, ownsRow_empty w3 _, fun y hy => by cases hy⟩
        clear hPP hnrl hRS hNlt
        go_wp2_with fail
        go_loopw [8, 9] (fun av iv wr => ∃ (i k : Nat) (p : Option Addr) (m : Nat), i ≤ nr ∧ iv = .int .i64 (i : Nat) ∧ av = .slice p m k ∧ RcD (Off E) w3.heap.size wr (.slice p m k) (RS.take i) ∧ Below w3.heap.size w3 wr) (fun _ iv _ => nr - (intOf iv).toNat)
        case atStart => exact ⟨0, 0, _, 0, Nat.zero_le _, rfl, rfl, HST0.out, (Below.refl _ _).alloc (Nat.le_refl _) _⟩
        case round =>
          obtain ⟨i, k, p, m, hi, rfl, rfl, hrc, hbw⟩ := hrel
          have HRC := Lib.hid hrc
          have HBR := Lib.hid hbw
          have hjr := (hbw.block N (by have := HN1.out; omega)).trans HJ3.out
          have j6 := (cellsJ8 hjr).2.2.2.2.2.2.1
          clear hrc hbw
          by_cases hlt : i < nr
          · obtain ⟨x, hx⟩ : ∃ x, RS[i]? = some x := ⟨RS[i]'(by rw [← HNL.out]; exact hlt), List.getElem?_eq_getElem _⟩
            obtain ⟨b, off, rfl, hb, xv, hc0, hSl0, hOx⟩ := HPP.out.at_ hx
            have hxc : wr.cell? ⟨b, off + i, none⟩ = some xv := (World.cell?_of_block (a := ⟨b, off + i, none⟩) (HBR.out.block b hb)).trans hc0
            obtain ⟨xp, xk, hxv⟩ := hSl0.form
            have HSL := Lib.hid (hSl0.below HBR.out)
            have HX := Lib.hid hx
            obtain ⟨lx, hlx⟩ : ∃ lx, x.length = lx := ⟨_, rfl⟩
            rw [hlx] at hxv
            subst hxv
            have HOX := Lib.hid hOx
            clear hOx
            obtain ⟨ys, hy1', hown, hy3⟩ := HRC.out
            have hyl : ys.length = i := by
              have h1 := congrArg List.length hy1'
              rw [List.length_map, List.length_take, ← HNL.out] at h1
              omega
            rw [hyl] at hown
            have hmi : m = i := by
              rcases own_form hown with ⟨_, _, e⟩
              cases e; rfl
            subst hmi
            have HOW := Lib.hid hown
            have HY1 := Lib.hid hy1'
            have HY3 := Lib.hid hy3
            have HYL := Lib.hid hyl
            have hii : (m : Int) < (nr : Int) := by omega
            have hi0 : (0 : Int) ≤ (m : Int) := by omega
            have hB2 := HBR.out.size
            clear hjr hx hc0 hSl0 hown hy1' hy3 hyl hlx
            go_wp2_with (at_builtin; refine wpList_append_own_at _ rfl (.tmp 47) (.tmp 53) 34 rfl w3.heap.size yssT i1 (.slice none 0 0) 1 24 Try.underlying34 hi1 hy0 hy1 hy2 rfl (by decide) _ _ _ rfl (HOW.out.alloc _) ⟨wr.heap.size, 0, none⟩ 1 1 [.slice xp lx xk] rfl rfl (rd_cell1 _ _ _) (by intro u hu; simp at hu; subst hu; rfl) (by unfold maxLen; omega) (by omega) (by simp; omega) ?_)
            intro v5 w5 hown5 hg5 _ hat5
            have hbw5 : Below w3.heap.size w3 w5 := below_grown2 (HOW.out.alloc (.cells #[.slice xp lx xk] yssT)) (by simp; omega) (HBR.out.alloc hB2 _) hg5
            have hbw6 : Below w3.heap.size wr w5 := below_grown2 (HOW.out.alloc (.cells #[.slice xp lx xk] yssT)) (by simp; omega) ((Below.refl _ _).alloc hB2 _) hg5
            have HNX : Hid (RcD (Off E) w3.heap.size w5 v5 (RS.take (m + 1))) := Lib.hid (by
              refine ⟨ys ++ [(x, .slice xp lx xk)], ?_, ?_, ?_⟩
              · rw [take_one _ _ _ HX.out, List.map_append, HY1.out]; rfl
              · rw [List.length_append, HYL.out, List.map_append]; exact hown5
              · intro y hy
                rcases List.mem_append.1 hy with hy | hy
                · exact ⟨(HY3.out y hy).1.below hbw6, (HY3.out y hy).2⟩
                · simp at hy
                  subst hy
                  exact ⟨HSL.out.below hbw6, HOX.out⟩)
            obtain ⟨p5, m5, k5, rfl⟩ := ownsRow_form hown5
            have HB5 := Lib.hid hbw5
            clear hown5 hg5 hat5 hbw5 hbw6
            go_wp2
            go_roundw
            case rel => exact ⟨m + 1, k5, p5, m5, by omega, by go_num, rfl, HNX.out, HB5.out⟩
            case measure => simp [intOf]; omega
          · obtain rfl : i = nr := by omega
            have hii : ¬ (i : Int) < (i : Int) := by omega
            have HCP := Lib.hid (copyY_any pa n c rec (by rw [HM.out]; omega) wr ((HSN.out.below (HB3.out.trans (HBR.out.mono HB3.out.size))).mono (HB3.out.trans (HBR.out.mono HB3.out.size)).size))
            have HJR := Lib.hid hjr
            clear hjr hii
            go_wp2_with fail
            refine HCP.out.mono ?_
            rintro e w7 ⟨v7, rfl, hown7, hb7⟩
            obtain ⟨xp, xn, xk, rfl⟩ := ownsRow_form hown7
            obtain ⟨ys, hy1', hown, hy3⟩ := HRC.out
            have hyl : ys.length = i := by
              have h1 := congrArg List.length hy1'
              rw [List.length_map, List.length_take, ← HNL.out] at h1
              omega
            rw [hyl] at hown
            have hmi : m = i := by
              rcases own_form hown with ⟨_, _, e⟩
              cases e; rfl
            subst hmi
            have HOW := Lib.hid (own_below hown hb7 (Nat.le_refl _))
            have HY1 := Lib.hid hy1'
            have HY3 := Lib.hid hy3
            have HYL := Lib.hid hyl
            have HO7 := Lib.hid hown7
            have HB7 := Lib.hid hb7
            have hB2 : w3.heap.size ≤ w7.heap.size := Nat.le_trans HBR.out.size hb7.size
            clear hown hy1' hy3 hyl hown7 hb7 j6
            go_wp2_with (at_builtin; refine wpList_append_own_at _ rfl (.tmp 55) (.tmp 58) 34 rfl w3.heap.size yssT i1 (.slice none 0 0) 1 24 Try.underlying34 hi1 hy0 hy1 hy2 rfl (by decide) _ _ _ rfl (HOW.out.alloc _) ⟨w7.heap.size, 0, none⟩ 1 1 [.slice xp xn xk] rfl rfl (rd_cell1 _ _ _) (by intro u hu; simp at hu; subst hu; rfl) (by unfold maxLen; omega) (by omega) (by simp; omega) ?_)
            intro v8 w8 hown8 hg8 _ hat8
            have hbw8 : Below w3.heap.size w7 w8 := below_grown2 (HOW.out.alloc (.cells #[.slice xp xn xk] yssT)) (by simp; omega) ((Below.refl _ _).alloc hB2 _) hg8
            have hne := own_ne (HO7.out) (HOW.out) (by decide)
            have HV8 : Hid (RcO E w8 v8 (RS ++ [rec])) := Lib.hid (by
              refine ⟨fun g hg hm => by
                have h1 := (own_at hown8 hg).1
                have h2 := HE.out _ hm
                have h3 := HB3.out.size
                omega, w3.heap.size, ys ++ [(rec, .slice xp xn xk)], ?_, ?_, ?_⟩
              · rw [List.map_append, HY1.out, List.take_of_length_le (by rw [← HNL.out]; exact Nat.le_refl _)]; rfl
              · rw [List.length_append, HYL.out, List.map_append]; exact hown8
              · intro y hy
                rcases List.mem_append.1 hy with hy | hy
                · exact ⟨(((HY3.out y hy).1.below (HB7.out.mono HBR.out.size)).below hbw8).mono (Nat.le_trans hB2 hbw8.size), (HY3.out y hy).2⟩
                · simp at hy
                  subst hy
                  have h1 := Sl.of_owns HO7.out
                  have h2 : Sl encY (w7.alloc (.cells #[.slice xp xn xk] yssT)).heap.size (w7.alloc (.cells #[.slice xp xn xk] yssT)) (.slice xp xn xk) rec := (h1.below ((Below.refl _ _).alloc (Nat.le_refl _) _)).mono (by simp)
                  refine ⟨h2.grown hg8 (fun ad k' c' e h0 he => ?_), fun ad k' c' e _ hm => ?_⟩
                  · cases e
                    exact hne _ rfl he
                  · have q1 := own_blockJ HO7.out ad k' c' e
                    have q2 := HE.out _ hm
                    have q3 := HB3.out.size
                    have q4 := HBR.out.size
                    omega)
            obtain ⟨rp, rn, rk, rfl⟩ := ownsRow_form hown8
            have hbw38 : Below w.heap.size w3 w8 := ((HBR.out.trans (HB7.out.mono HBR.out.size)).trans hbw8).mono HB3.out.size
            have hb38' : Below w3.heap.size w3 w8 := (HBR.out.trans (HB7.out.mono HBR.out.size)).trans hbw8
            have rJ8 := (hb38'.block N (by have := HN1.out; omega)).trans HJ3.out
            have rZ8 := (hb38'.block (N + 1) HN1.out).trans HZ3.out
            have hcJ := jdC_no q0 q1 ps pr m0 d0 m1 d1 ns cs m cr (cap : Nat) (r : Nat) (a : Nat) (f : Nat)
            obtain ⟨w9, hw9⟩ : ∃ w9, (w8.setCell ⟨N, 6, none⟩ (.slice rp rn rk)).setCell ⟨N, 7, none⟩ (.int .i64 ((f : Int) + ((M : Int) + 7))) = w9 := ⟨_, rfl⟩
            have rJ9 : w9.heap[N]? = some (.cells (jdC (.slice q0 m0 d0) (.slice q1 m1 d1) (cap : Nat) (r : Nat) (a : Nat) (.slice ps ns cs) (.slice rp rn rk) ((f : Int) + ((M : Int) + 7))) rjT (0, 0)) := by rw [← hw9]; exact heap_setCell_same _ N 7 _ _ _ (heap_setCell_same _ N 6 _ _ _ rJ8)
            have hb9 : But [N] w8 w9 := by rw [← hw9]; exact ((But.refl _ _).set (by simp) _).set (by simp) _
            have HZ9 := Lib.hid ((hb9.block (N + 1) (Array.getElem?_eq_some_iff.1 rZ8).1 (by simp)).trans rZ8)
            have HJ9 := Lib.hid rJ9
            have hs0 := (HE0.out.below hb38').mono hb38'.size
            have hs1 := (HE1.out.below hb38').mono hb38'.size
            have hs2 := (((H3.out.below HB3.out).mono HB3.out.size).below hb38').mono hb38'.size
            have HS0 := Lib.hid (hs0.but hb9 (off_cells hs0 rJ8 hcJ))
            have HS1 := Lib.hid (hs1.but hb9 (off_cells hs1 rJ8 hcJ))
            have HS3 := Lib.hid (hs2.but hb9 (off_cells hs2 rJ8 hcJ))
            have HV9 := Lib.hid (HV8.out.but hb9 rJ8 hcJ)
            have HB9 : Hid (Below w.heap.size w w9) := Lib.hid ((HB3.out.trans hbw38).trans (hb9.below (fun k hk => by simp at hk; have := HNN.out; omega) (by have := HB3.out.size; have := hbw38.size; omega)))
            have HW9 := Lib.hid hw9
            have j6 := (cellsJ8 rJ8).2.2.2.2.2.2.1
            have j7 := (cellsJ8 rJ8).2.2.2.2.2.2.2.1
            have jf6 := (cellsJ8 rJ8).2.2.2.2.2.2.2.2 6
            have jf7 := (cellsJ8 rJ8).2.2.2.2.2.2.2.2 7
            clear hown8 hg8 hat8 hbw8 hne hbw38 hb38' rJ8 rZ8 hcJ hw9 rJ9 hb9 hs0 hs1 hs2
            go_upto_region 14 with fail
            rw [HW9.out]
            clear HW9 j6 j7 jf6 jf7
            obtain ⟨j0, j1, j2, j3, j4, j5, j6, j7, jf⟩ := cellsJ8 HJ9.out
            obtain ⟨z0, z1, z2, z3, z4, z5, z6, z7, zf⟩ := cellsJ8 HZ9.out
            have zf0 := zf 0
            have zf1 := zf 1
            have zf2 := zf 2
            have zf3 := zf 3
            have zf4 := zf 4
            have zf5 := zf 5
            have zf6 := zf 6
            have zf7 := zf 7
            clear jf zf
            go_wp2
            refine bodyPost_ret (jd_res2 _ 4 5 rfl _ _ (N + 1) _ _ _ _ _ _ _ _ _ rfl rfl (heap_set8 HZ9.out)) rfl ?_
            have hbE := set8_but w9 (N + 1) (v0 := .slice q0 m0 d0) (v1 := .slice q1 m1 d1) (v2 := .int .i64 (cap : Nat)) (v3 := .int .i64 (r : Nat)) (v4 := .int .u64 (a : Nat)) (v5 := .slice ps ns cs) (v6 := .slice rp rn rk) (v7 := .int .i64 ((f : Int) + ((M : Int) + 7)))
            have hbl := set8_below (b := N + 1) (v0 := .slice q0 m0 d0) (v1 := .slice q1 m1 d1) (v2 := .int .i64 (cap : Nat)) (v3 := .int .i64 (r : Nat)) (v4 := .int .u64 (a : Nat)) (v5 := .slice ps ns cs) (v6 := .slice rp rn rk) (v7 := .int .i64 ((f : Int) + ((M : Int) + 7))) HB9.out (by have := HNN.out; omega)
            obtain ⟨wE, hwE⟩ : ∃ wE, ((((((((w9.setCell ⟨N + 1, 0, none⟩ (.slice q0 m0 d0)).setCell ⟨N + 1, 1, none⟩ (.slice q1 m1 d1)).setCell ⟨N + 1, 2, none⟩ (.int .i64 (cap : Nat))).setCell ⟨N + 1, 3, none⟩ (.int .i64 (r : Nat))).setCell ⟨N + 1, 4, none⟩ (.int .u64 (a : Nat))).setCell ⟨N + 1, 5, none⟩ (.slice ps ns cs)).setCell ⟨N + 1, 6, none⟩ (.slice rp rn rk)).setCell ⟨N + 1, 7, none⟩ (.int .i64 ((f : Int) + ((M : Int) + 7)))) = wE := ⟨_, rfl⟩
            rw [hwE] at hbE hbl ⊢
            have hcZ := jdC_no none none none none 0 0 0 0 0 0 0 0 0 0 0 0
            have he0 := HS0.out.but hbE (off_cells HS0.out HZ9.out hcZ)
            have he1 := HS1.out.but hbE (off_cells HS1.out HZ9.out hcZ)
            have he2 := HS3.out.but hbE (off_cells HS3.out HZ9.out hcZ)
            have hev := HV9.out.but hbE HZ9.out hcZ
            obtain ⟨hsn1, hsn2⟩ := HSNR.out (by rw [HM.out]; omega) (by rw [HM.out]; omega)
            unfold ApD
            rw [HM.out, if_neg h4, if_neg hful]
            have hrow : (if r = 0 then (if r = 0 then l0 ++ frameL 4 rec else l0) else (if r = 0 then l1 else l1 ++ frameL 4 rec)) = (if r = 0 then l0 else l1) ++ frameL 4 rec := by split <;> rfl
            have hfe : ((f : Int) + ((M : Int) + 7)) = ((f + (M + 7) : Nat) : Int) := by omega
            rw [hfe]
            refine ⟨hbl, _, rfl, ⟨q0, q1, ps, rp, m0, d0, m1, d1, ns, cs, rn, rk, rfl, he0, he1, ?_, ?_, HP0.out, HP1.out, HO2.out⟩⟩
            · rw [hrow, hsn1]; exact he2
            · rw [hrow, hsn2, HRS.out]; exact hev
end Go.Proofs.Ytpllbojmonfeiaa
