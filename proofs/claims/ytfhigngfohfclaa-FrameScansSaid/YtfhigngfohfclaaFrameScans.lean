/- For whatever bytes and number law FrameScans answers true: all bytes are read, and scanned, as the document says, as far as is asked for. No condition. -/
import Derived.Test.YtfhigngfohfclaaFrameS
namespace Go.Proofs.Ytfhigngfohfclaa.frameScans
open Go.ChangeShapes Go.WideShapes Go.ChangeAt Go.RowKit Go.Proofs.Ytfhigngfohfclaa Go.Proofs.Ytfhigngfohfclaa.SumM
set_option linter.unusedVariables false
open Go.Shelf
attribute [local go_sem] Oper.semAt_some

set_option maxRecDepth 100000 in
set_option maxHeartbeats 2000000 in
theorem walk (w : World) (p0 : Option Addr) (n0 c0 : Nat) (l0 : List Nat) (S0 : Sl encY w.heap.size w (.slice p0 n0 c0) l0) (b0 : ∀ x ∈ l0, x < 256) (a1 : Int) (w1 : (Lit.int .i64 a1).wf = true) :
    Calls Try.prog 10 #[.slice p0 n0 c0, .int .i64 a1] w fun e w' => e = .returned (.bool true) ∧ Below w.heap.size w w' := by
  obtain rfl := S0.len
  have HS := Lib.hid S0
  have H0 := Lib.hid b0
  clear S0 b0 w1
  obtain ⟨n, hn⟩ : ∃ n, l0.length = n := ⟨_, rfl⟩
  have HN := Lib.hid hn
  rw [hn] at HS ⊢
  clear hn
  have hz := zframe
  have hz2 := zrefF
  refine (callsIn_wide (n := 3)).1 ?_
  refine callsIn_of_wp_marks Try.func10 rfl trivial ?_ rfl
  simp only [Try.ntmps10, List.size_toArray, List.length_cons, List.length_nil, Nat.reduceAdd, Nat.reduceSub, Array.replicate_succ, Array.replicate_zero, List.push_toArray, List.append_toArray, List.nil_append, List.cons_append]
  refine wpIn_wide.2 ?_
  obtain ⟨W0, hW0⟩ : ∃ W0, (w.alloc (.cells #[.int .i64 a1] 3)).alloc (.cells #[.bool false] 4) = W0 := ⟨_, rfl⟩
  have z0 : W0.heap.size = w.heap.size + 1 + 1 := by rw [← hW0]; simp
  have y3 : Boxed W0 w.heap.size 3 (.int .i64 a1) := by rw [← hW0]; exact (Boxed.new w _ _).alloc _
  have y4 : Boxed W0 (w.heap.size + 1) 4 (.bool false) := by
    rw [← hW0]
    have := Boxed.new (w.alloc (.cells #[.int .i64 a1] 3)) 4 (.bool false)
    rw [World.size_alloc] at this; exact this
  have b00 : Below w.heap.size w W0 := by rw [← hW0]; exact ((Below.refl _ w).alloc (Nat.le_refl _) _).alloc (by simp) _
  have HW0 := Lib.hid hW0
  clear hW0
  go_upto_region 1 with fail
  rw [HW0.out]
  clear HW0
  go_wp2_with fail
  refine (frameAlive_any _).mono ?_
  rintro e w1 ⟨rfl, hb1⟩
  have hB1 := b00.trans (hb1.mono b00.size)
  have Y3 := Lib.hid (boxed_below y3 hb1 y3.lt)
  have Y4 := Lib.hid (boxed_below y4 hb1 y4.lt)
  have hw1 := Y4.out.lt
  clear y3 y4 hb1 b00 z0
  by_cases g0 : (n : Int) > 2000
  · have c4 := Y4.out.cell
    have f4 := Y4.out.frozen
    go_wp2
    exact ⟨_, bool_resS _ _ (w.heap.size + 1) _ rfl (Y4.out.set _).cell, rfl, hB1.setCell (p := ⟨w.heap.size + 1, 0, none⟩) (Nat.le_succ _) _⟩
  · have B0 : Bytes l0 := ⟨by rw [HN.out]; omega, H0.out⟩
    have HB0 := Lib.hid B0
    have hS1 := (HS.out.below hB1).mono hB1.size
    obtain ⟨E, hE⟩ : ∃ E, readE l0 = E := ⟨_, rfl⟩
    obtain ⟨K, hK⟩ : ∃ K, readK l0 = K := ⟨_, rfl⟩
    obtain ⟨Z, hZ⟩ : ∃ Z, readN l0 = Z := ⟨_, rfl⟩
    obtain ⟨RB, hRB⟩ : ∃ RB, readB l0 = RB := ⟨_, rfl⟩
    have hRBl : RB.length ≤ 1048576 := by
      rw [← hRB]
      unfold readB
      split
      · rw [List.length_drop, List.length_take, HN.out]; omega
      · simp
    have HR := Lib.hid (read_any _ _ _ l0 B0 w1 hS1)
    have HRR := Lib.hid (fun (W : World) (hb : Below w.heap.size w W) => rread_any _ _ _ 0 l0 B0 (Nat.zero_le _) W ((HS.out.below hb).mono hb.size))
    unfold ReadTo at HR
    unfold RefTo at HRR
    simp only [List.drop_zero, ite_self] at HRR
    rw [hE, hK, hZ, hRB] at HR HRR
    obtain ⟨rl, hrl⟩ : ∃ rl, RB.length = rl := ⟨_, rfl⟩
    clear hE hK hZ hRB hS1 B0
    go_wp2_with fail
    refine HR.out.mono ?_
    rintro e w2 ⟨v2, rfl, hS2, hb2⟩
    obtain ⟨x2, c2, rfl⟩ := hS2.form
    rw [hrl] at hS2 ⊢
    obtain ⟨W2, hW2⟩ : ∃ W2, w2.alloc (.cells #[.int .i64 K, .slice x2 rl c2] 80) = W2 := ⟨_, rfl⟩
    have k2 : W2.heap[w2.heap.size]? = some (.cells #[.int .i64 K, .slice x2 rl c2] 80 (0, 0)) := by rw [← hW2]; exact World.alloc_heap_new _ _
    have b2 : Below w2.heap.size w2 W2 := by rw [← hW2]; exact (Below.refl _ _).alloc (Nat.le_refl _) _
    have hb12 := step_below hb2 b2
    have hB2 := step_below hB1 hb12
    have HS2 := Lib.hid (hS_step hS2 b2)
    have HK2 := Lib.hid k2
    have Y32 := Lib.hid (boxed_below Y3.out hb12 Y3.out.lt)
    have Y42 := Lib.hid (boxed_below Y4.out hb12 Y4.out.lt)
    have HW2 := Lib.hid hW2
    have hw2 := hB2.size
    clear hS2 hb2 b2 hb12 hW2 k2 HR Y3 Y4
    go_upto_region 6 with fail
    rw [HW2.out]
    clear HW2
    have HRR2 := Lib.hid (HRR.out W2 hB2)
    go_wp2_with fail
    refine HRR2.out.mono ?_
    rintro e w3 ⟨v3, rfl, hS3, hb3, _⟩
    obtain ⟨x3, c3, rfl⟩ := hS3.form
    rw [hrl] at hS3 ⊢
    obtain ⟨W3, hW3⟩ : ∃ W3, w3.alloc (.cells #[.int .i64 0, .int .i64 K, .slice x3 rl c3] 87) = W3 := ⟨_, rfl⟩
    have k3 : W3.heap[w3.heap.size]? = some (.cells #[.int .i64 0, .int .i64 K, .slice x3 rl c3] 87 (0, 0)) := by rw [← hW3]; exact World.alloc_heap_new _ _
    have b3 : Below w3.heap.size w3 W3 := by rw [← hW3]; exact (Below.refl _ _).alloc (Nat.le_refl _) _
    have hb23 := step_below hb3 b3
    have hB3 := step_below hB2 hb23
    have hSM := sameY_any _ _ _ _ _ _ RB RB W3 hRBl hRBl (hS_step HS2.out hb23) (hS_step hS3 b3)
    rw [decide_eq_true rfl] at hSM
    have HSM := Lib.hid hSM
    have k23 := (hb23.block w2.heap.size (Array.getElem?_eq_some_iff.1 HK2.out).1).trans HK2.out
    have Y33 := Lib.hid (boxed_below Y32.out hb23 Y32.out.lt)
    have Y43 := Lib.hid (boxed_below Y42.out hb23 Y42.out.lt)
    have HW3 := Lib.hid hW3
    have HK3 := Lib.hid k3
    have HK23 := Lib.hid k23
    clear hS3 hb3 b3 hb23 hW3 hSM k3 k23 HRR2 HRR Y32 Y42 HK2 hrl
    go_upto_region 7 with fail
    rw [HW3.out]
    clear HW3
    obtain ⟨f1, f2, f3, f4⟩ := cell2 HK23.out
    obtain ⟨f5, f6, f7, f8, f9, f10⟩ := cell3 HK3.out
    go_upto_region 9 with (go_at_call 27; refine HSM.out.mono ?_; rintro e w4 ⟨rfl, hb4⟩)
    have hB4 := step_below hB3 hb4
    have Y34 := Lib.hid (boxed_below Y33.out hb4 Y33.out.lt)
    have Y44 := Lib.hid (boxed_below Y43.out hb4 Y43.out.lt)
    have HRS := Lib.hid (refScan_any _ _ _ l0 HB0.out w4 ((HS.out.below hB4).mono hB4.size))
    clear hb4 HSM Y33 Y43 HK3 HK23 f1 f2 f3 f4 f5 f6 f7 f8 f9 f10
    obtain ⟨E0, hE0⟩ : ∃ E0, scanE l0 0 = E0 := ⟨_, rfl⟩
    obtain ⟨V0, hV0⟩ : ∃ V0, scanW l0 = V0 := ⟨_, rfl⟩
    rw [hE0, hV0] at HRS
    go_wp2_with fail
    refine HRS.out.mono ?_
    rintro e w5 ⟨v5, ys, rfl, hown5, hys5, hsl5, hb5⟩
    obtain ⟨ka, kc, rfl⟩ := own_form hown5
    obtain ⟨W5, hW5⟩ : ∃ W5, w5.alloc (.cells #[.slice ka ys.length kc] 90) = W5 := ⟨_, rfl⟩
    have k5 : Boxed W5 w5.heap.size 90 (.slice ka ys.length kc) := by rw [← hW5]; exact Boxed.new _ _ _
    have b5 : Below w5.heap.size w5 W5 := by rw [← hW5]; exact (Below.refl _ _).alloc (Nat.le_refl _) _
    have hb45 := step_below hb5 b5
    have hB5 := step_below hB4 hb45
    have HK5 := Lib.hid k5
    have HO5 := Lib.hid (own_below hown5 b5 (Nat.le_refl _))
    have HL5 := Lib.hid (fun y hy => hS_step (hsl5 y hy) b5)
    have HYS := Lib.hid hys5
    have Y35 := Lib.hid (boxed_below Y34.out hb45 Y34.out.lt)
    have Y45 := Lib.hid (boxed_below Y44.out hb45 Y44.out.lt)
    have HW5 := Lib.hid hW5
    have hw45 : w4.heap.size ≤ w5.heap.size := hb5.size
    have h3w : w.heap.size + 1 < w4.heap.size := Y44.out.lt
    clear hown5 hys5 hsl5 hb5 b5 hb45 hW5 k5 HRS Y34 Y44
    go_upto_region 10 with fail
    rw [HW5.out]
    clear HW5
    have HEN := Lib.hid (end_any _ _ _ l0 HB0.out W5 ((HS.out.below hB5).mono hB5.size))
    rw [hE0, hV0] at HEN
    clear hE0 hV0
    obtain ⟨c', hc1, hc2⟩ := and1023 a1
    obtain ⟨q, hq⟩ : ∃ q, 1 + c' = q := ⟨_, rfl⟩
    have hqi : (1 : Int) + (c' : Int) = (q : Int) := by omega
    go_wp2_with fail
    refine HEN.out.mono ?_
    rintro e w6 ⟨rfl, hb6⟩
    have hB6 := step_below hB5 hb6
    have y36 := boxed_below Y35.out hb6 Y35.out.lt
    have y46 := boxed_below Y45.out hb6 Y45.out.lt
    have k6 := boxed_below HK5.out hb6 HK5.out.lt
    have o6 := own_below HO5.out hb6 (Nat.le_refl _)
    have hzz6 := hb6.size
    have hk5l := HK5.out.lt
    have l6 := fun y hy => hS_step (HL5.out y hy) hb6
    obtain ⟨w7, hw7⟩ : ∃ w7, w6.setCell ⟨w.heap.size, 0, none⟩ (.int .i64 (q : Int)) = w7 := ⟨_, rfl⟩
    have z7 : w7.heap.size = w6.heap.size := by rw [← hw7]; simp
    have Y37 : Hid (Boxed w7 w.heap.size 3 (.int .i64 (q : Int))) := Lib.hid (by rw [← hw7]; exact y36.set _)
    have Y47 : Hid (Boxed w7 (w.heap.size + 1) 4 (.bool false)) := Lib.hid (by rw [← hw7]; exact y46.other (by omega) _)
    have HK7 : Hid (Boxed w7 w5.heap.size 90 (.slice ka ys.length kc)) := Lib.hid (by rw [← hw7]; exact k6.other (by omega) _)
    have HO7 : Hid (w7.ownsRow w4.heap.size 87 3 (.slice ka ys.length kc) ys.length (cellsR ys)) := Lib.hid (by rw [← hw7]; exact own_set o6 y36 (by decide))
    have HL7 : Hid (∀ y ∈ ys, Sl encY w7.heap.size w7 y.2 y.1.2.2) := Lib.hid (by intro y hy; rw [z7, ← hw7]; exact (l6 y hy).setBox y36)
    have hB7 : Below w.heap.size w w7 := by rw [← hw7]; exact hB6.setCell (p := ⟨w.heap.size, 0, none⟩) (Nat.le_refl _) _
    have c36 := y36.cell
    have f36 := y36.frozen
    have hS7 := (HS.out.below hB7).mono hB7.size
    have h78 : Below w7.heap.size w7 (w7.alloc (.cells #[.int .i64 0] 3)) := (Below.refl _ _).alloc (Nat.le_refl _) _
    have HSC := Lib.hid (scan_any _ _ _ l0 HB0.out.1 _ ((hS7.below h78).mono h78.size))
    rw [HN.out] at HSC
    have HW7 := Lib.hid hw7
    have HB7 := Lib.hid hB7
    clear hb6 y46 k6 o6 l6 hw7 hB7 hS7 h78 HEN Y35 Y45 HK5 HO5 HL5 hB6 y36
    go_upto_region 15 with fail
    rw [HW7.out, ← z7]
    have Z7 := Lib.hid z7
    clear HW7 z7
    go_wp2_with fail
    refine HSC.out.mono ?_
    rintro e w10 ⟨Bs, g, vsa, vsc, rfl, hs1, hs2, hs3, hs4, hcB, hSB, hkB, hb10⟩
    rw [World.size_alloc] at hs1 hs3
    have hbA : Below w7.heap.size w7 w10 := ((Below.refl _ _).alloc (Nat.le_refl _) _).trans (hb10.mono (by simp))
    have hy0 : Boxed w10 w7.heap.size 3 (.int .i64 0) := (hb10.block w7.heap.size (by simp)).trans (Boxed.new w7 3 (.int .i64 0))
    clear hb10 HSC
    go_wp2_with fail
    have hkv : KeptV 0 [Bs, g] (.slice vsa n vsc) := fun ad n c e h0 => by
      rcases hkB ad n c e h0 with h | h
      · exact .inl h
      · exact .inr (by simp at h; simp [h])
    rename_i K' hKQ
    refine (wpIn_wide (n := 3)).1 ?_
    refine wpIn_act ?_
    intro A hA
    have hq1 : 1 ≤ q := by omega
    have hq2 : q ≤ 1024 := by omega
    refine rangeS rfl (by omega) (gf := 100) (lb := #[.pointer (some ⟨Bs, 0, none⟩)]) (by rw [hA]; rfl) trivial (enters_of Try.func100 (by kernel_rfl) rfl)
      (frames1 Bs 0 [Bs, g] l0 HB0.out vsa n vsc w10 (Nat.zero_le _) (fun k hk => by simp at hk; omega) (.inr (by simp)) hkv hcB hSB) (scA A w10.heap.size)
      (fun x a' W l o r hl ⟨Bx, va, vc, h1, h2, h3, h4, h5⟩ => ⟨Bx, va, vc, h1, h2, h3.putObj hl, by have := h4.putObj (o := o) hl; simpa using this, h5⟩) (fun r h => by simp at h; omega) (Nat.zero_le _) (Below.refl _ _) (fun _ => rfl)
      (scI w7 q) (scX w7 q) (scI_own (by omega)) (scX_own (by omega))
      (fun s W r v hr ⟨h1, h0, h2⟩ => by simp at hr; exact ⟨h1.other (by omega) v, h0, h2.setCell (by show w7.heap.size ≤ r; omega) v⟩) (fun c s W r v hr ⟨hc, h1, h0, h2⟩ => by simp at hr; exact ⟨hc, h1.other (by omega) v, h0, h2.setCell (by show w7.heap.size ≤ r; omega) v⟩)
      ⟨hy0, (show 0 < q by omega), hbA⟩ ?assign ?body ?done ?stop
    case assign =>
      rintro l pre ⟨⟨p, kk, bd⟩, v⟩ W K hi hry hz3 hK
      obtain ⟨va, vc, hv⟩ := (show Sl encY _ W v bd from hry).form
      subst hv
      dsimp only [encF]
      have hryA := (hry.below ((Below.refl W.heap.size W).alloc (Nat.le_refl _) (.cells #[.int .i64 kk, .slice va bd.length vc] 80))).mono (m := (W.alloc (.cells #[.int .i64 kk, .slice va bd.length vc] 80)).heap.size) (by simp)
      have HRY := Lib.hid hryA
      clear hryA hry
      rw [hA]
      gi_wp2
      refine hK _ _ ((KeepsOthers.alloc _ _).from _) ⟨(Below.refl _ W).alloc (Nat.zero_le _) _, fun k h1 h2 => by omega, fun k hk => Below.heap_alloc W _ _ (by simp at hk; omega)⟩ ⟨hi.1.alloc _, hi.2.1, hi.2.2.alloc (by omega) _⟩ ?_
      exact ⟨W.heap.size, va, vc, by omega, rfl, World.alloc_heap_new W _, HRY.out, by rw [hA]; rfl⟩
    case body =>
      rintro l pre ⟨⟨p, kk, bd⟩, v⟩ a' W ⟨h1, h0q, h2⟩ hp hz3 ⟨Bx, va2, vc2, hBx, hv, hF, hSv, rfl⟩
      dsimp only at hv
      subst hv
      have hpb := (scan_bound l0 l0.length 0 (by omega) (p, kk, bd) (hp.subset (List.mem_map.2 ⟨((p, kk, bd), .slice va2 bd.length vc2), List.mem_append_right _ (List.mem_singleton.2 rfl), rfl⟩))).2
      dsimp only at hpb
      rw [HN.out] at hpb
      rw [← HYS.out] at hp
      obtain ⟨hjl, hjk⟩ := next_get hp
      rw [List.length_map] at hjl
      dsimp only at hjk
      obtain ⟨⟨⟨p0', k0, b0'⟩, yv⟩, hy⟩ : ∃ y, ys[pre.length]? = some y := ⟨_, List.getElem?_eq_getElem hjl⟩
      have hyk : (p0', k0, b0') = (p, kk, bd) := by
        rw [List.getElem?_map, hy] at hjk
        exact Option.some.inj hjk
      cases hyk
      have hSy := HL7.out _ (List.mem_of_getElem? hy)
      have hSyW := (hSy.below h2).mono h2.size
      obtain ⟨ya2, yc2, hyv⟩ := hSyW.form
      dsimp only at hyv hSyW
      subst hyv
      obtain ⟨g1, g2, g3⟩ := cellsR_get ys _ _ hy
      have hKW := own_below HO7.out h2 (Nat.le_refl _)
      obtain ⟨gk, rfl, e1⟩ := own_cell hKW g1
      obtain ⟨gk', e0, e2⟩ := own_cell hKW g2
      cases e0
      obtain ⟨gk'', e0, e3⟩ := own_cell hKW g3
      cases e0
      have hbW := boxed_below HK7.out h2 HK7.out.lt
      have hqW := boxed_below Y37.out h2 Y37.out.lt
      have ck := hbW.cell
      have cq := hqW.cell
      have ci := h1.cell
      have fi := h1.frozen
      unfold FrameAt at hF
      dsimp only at hF hSv e1 e2 e3
      obtain ⟨f1, f2, f3, f4⟩ := cell2 hF
      have hbl : bd.length ≤ 1048576 := by omega
      have hsq : ∀ k, Calls Try.prog 27 #[.slice ya2 bd.length yc2, .slice va2 bd.length vc2] (W.drewN k) fun e w' => e = .returned (.bool (decide (bd = bd))) ∧ ∃ q, w' = (W.drewN k).drewN q := fun k => sameQ_any _ _ _ _ _ _ bd bd (W.drewN k) hbl hbl hSyW hSv
      rw [decide_eq_true rfl] at hsq
      obtain ⟨j, hj⟩ : ∃ j, pre.length = j := ⟨_, rfl⟩
      obtain ⟨bl, hbl2⟩ : ∃ bl, bd.length = bl := ⟨_, rfl⟩
      have HPL : Hid ((pre ++ [(((p, kk, bd), Value.slice va2 bd.length vc2) : FX)]).length = j + 1) := Lib.hid (by rw [List.length_append, hj]; rfl)
      rw [hbl2] at hsq f2 e3 HPL ⊢
      rw [hj] at ci hjl e1 e2 e3 h0q
      have HSQ := Lib.hid hsq
      have H1 := Lib.hid h1
      have hge : decide (ys.length ≤ j) = false := decide_eq_false (by omega)
      have hji : (j : Int) < (ys.length : Int) := by omega
      have hj0 : (0 : Int) ≤ j := by omega
      have hj10 : (j : Int) ≤ 1024 := by omega
      have hW3 : w.heap.size ≠ w7.heap.size := by have := Y37.out.lt; omega
      clear hsq h1 hp hjk hjl hy hSy hSyW hKW hbW hqW hF hSv g1 g2 g3 hbl hbl2 hj hpb
      rw [hA]
      gi_wp2
      refine quiet_round (by kernel_rfl) (by kernel_rfl) (by kernel_rfl) (fun ⟨_, _, hq⟩ => hq) ?_
      repeat (go_big_quiet_step ((go_at_call 27; exact Calls.quiet_of (HSQ.out _))))
      refine wpQuiet_nil ?_
      intro _ hw'
      obtain ⟨nq, hw''⟩ := hw'
      subst hw''
      have HKF : Hid (∀ u, KeepsFrom w10.heap.size W ((W.drewN nq).setCell ⟨w7.heap.size, 0, none⟩ u)) := Lib.hid (fun u => ((⟨Nat.le_refl _, fun _ _ h _ => h⟩ : KeepsOthers W (W.drewN nq)).from _).trans ((KeepsOthers.setCell _ _ _).from _))
      have HBX : Hid (∀ u, Boxed ((W.drewN nq).setCell ⟨w7.heap.size, 0, none⟩ u) w7.heap.size 3 u) := Lib.hid (fun u => (show Boxed (W.drewN nq) _ _ _ from H1.out).set u)
      by_cases hjq : j + 1 = q
      · have hji2 : (((j : Int) + 1) == (q : Int)) = true := by rw [← hjq]; simp
        have hji3 : ((((j + 1 : Nat)) : Int) == (q : Int)) = true := by rw [hjq]; simp
        gi_wp2
        have hE : ((j : Int) + 1) = ((pre ++ [(((p, kk, bd), Value.slice va2 bl vc2) : FX)]).length : Nat) := by rw [HPL.out]; push_cast; rfl
        refine ⟨HKF.out _, rfl, ?_, HPL.out.trans hjq, (Below.drewN_r h2 nq).setCell (p := ⟨w7.heap.size, 0, none⟩) (Nat.le_refl _) _⟩
        rw [hE]
        exact HBX.out _
      · have hji2 : (((j : Int) + 1) == (q : Int)) = false := beq_eq_false_iff_ne.2 (by omega)
        have hji3 : ((((j + 1 : Nat)) : Int) == (q : Int)) = false := beq_eq_false_iff_ne.2 (by omega)
        gi_wp2
        have hE : ((j : Int) + 1) = ((pre ++ [(((p, kk, bd), Value.slice va2 bl vc2) : FX)]).length : Nat) := by rw [HPL.out]; push_cast; rfl
        refine ⟨HKF.out _, ⟨(Below.drewN_r (Below.refl _ W) nq).setCell (p := ⟨w7.heap.size, 0, none⟩) (Nat.zero_le _) _, fun k h1 h2 => by omega, fun k hk => Below.heap_setCell _ _ _ _ (by simp at hk; show k ≠ w7.heap.size; omega)⟩, ?_, (by rw [HPL.out]; omega), (Below.drewN_r h2 nq).setCell (p := ⟨w7.heap.size, 0, none⟩) (Nat.le_refl _) _⟩
        rw [hE]
        exact HBX.out _
    case done =>
      rintro D zs W hD hzs ⟨h1, h0, h2⟩ hK
      rw [hA]
      refine hKQ _ _ ?_
      have hlz : zs.length = ys.length := by
        have := congrArg List.length (hzs.trans HYS.out.symm)
        simpa using this
      rw [hlz] at h1 h0
      have hmin : min (q : Int) (ys.length : Int) = (ys.length : Int) := by omega
      have heq : ((ys.length : Int) == (ys.length : Int)) = true := by simp
      have hQW := boxed_below Y37.out h2 Y37.out.lt
      have hTW := boxed_below Y47.out h2 Y47.out.lt
      have hKW := boxed_below HK7.out h2 HK7.out.lt
      have hDl := (Array.getElem?_eq_some_iff.1 hK).1
      have c1 := h1.cell
      have c2 := hQW.cell
      have c3 := hTW.cell
      have c4 := hKW.cell
      have f3 := hTW.frozen
      have HTW := Lib.hid hTW
      have HKD := Lib.hid hK
      have HBW := Lib.hid (HB7.out.trans (h2.mono HB7.out.size))
      have hDt : w.heap.size + 1 < D := by have := Y47.out.lt; omega
      clear h1 hQW hTW hKW hK
      go_wp2
      have hKD2 := (Below.heap_setCell W ⟨w.heap.size + 1, 0, none⟩ (.bool true) D (by show D ≠ w.heap.size + 1; omega)).trans HKD.out
      refine ⟨by simp, .inl ⟨_, _, rfl, run_takeDeferred hKD2, ?_⟩⟩
      exact ⟨_, bool_resS _ _ (w.heap.size + 1) _ rfl ((HTW.out.set _).kept (grownBy_putObj' _ D (.deferred none)) (fun e => by cases e; omega)).cell, rfl, (HBW.out.setCell (p := ⟨w.heap.size + 1, 0, none⟩) (Nat.le_succ _) _).trans (belowK_b (w := w) (Nat.le_refl _) _ D _ (.deferred none) (by omega) hKD2 rfl rfl)⟩
    case stop =>
      rintro D c' pre W hD hp ⟨rfl, h1, h0, h2⟩ hK
      have hpl := pre_len hp
      rw [← HYS.out, List.length_map] at hpl
      rw [hA]
      refine wpIn_exit ?_
      show Exit.inBlock 0 _ (.exit 0) _ _
      simp only [Exit.inBlock, if_pos]
      simp only [Exit.then]
      refine hKQ _ _ ?_
      rw [h0] at h1
      have hmin : min (q : Int) (ys.length : Int) = (q : Int) := by omega
      have heq : ((q : Int) == (q : Int)) = true := by simp
      have hQW := boxed_below Y37.out h2 Y37.out.lt
      have hTW := boxed_below Y47.out h2 Y47.out.lt
      have hKW := boxed_below HK7.out h2 HK7.out.lt
      have hDl := (Array.getElem?_eq_some_iff.1 hK).1
      have c1 := h1.cell
      have c2 := hQW.cell
      have c3 := hTW.cell
      have c4 := hKW.cell
      have f3 := hTW.frozen
      have HTW := Lib.hid hTW
      have HKD := Lib.hid hK
      have HBW := Lib.hid (HB7.out.trans (h2.mono HB7.out.size))
      have hDt : w.heap.size + 1 < D := by have := Y47.out.lt; omega
      clear h1 hQW hTW hKW hK
      go_wp2
      have hKD2 := (Below.heap_setCell W ⟨w.heap.size + 1, 0, none⟩ (.bool true) D (by show D ≠ w.heap.size + 1; omega)).trans HKD.out
      refine ⟨by simp, .inl ⟨_, _, rfl, run_takeDeferred hKD2, ?_⟩⟩
      exact ⟨_, bool_resS _ _ (w.heap.size + 1) _ rfl ((HTW.out.set _).kept (grownBy_putObj' _ D (.deferred none)) (fun e => by cases e; omega)).cell, rfl, (HBW.out.setCell (p := ⟨w.heap.size + 1, 0, none⟩) (Nat.le_succ _) _).trans (belowK_b (w := w) (Nat.le_refl _) _ D _ (.deferred none) (by omega) hKD2 rfl rfl)⟩

set_option maxRecDepth 100000 in
theorem lifted (os : Os) (started : os.Started) (H : Type) (enc : TypeId × Value → H) :
    ReturnsInHanded {} Try.checked os 10 .any (Rows.frameScansSpec.pre6 enc Try.prog Try.f10 Rows.frameScansRow.domain false) (Rows.frameScansSpec.post enc Try.prog Try.f10 false true false false) := by
  refine returnsInHanded_of_change (C := Try.checked) own started (by kernel_rfl) Try.func10
    (ChangeSpec.witness6 (enc := enc) (C := Try.checked) false ⟨#[], #[.slice none 0 0, .int .i64 0], []⟩ 8 (by kernel_rfl) (by kernel_rfl) (by kernel_rfl) (by kernel_rfl)) ?_
  intro W base args ds gs before hval0 hW hcnd _
  have hval : ∀ (j : Nat) t v, Try.f10.params[j]? = some t → args[j]? = some v → Value.okWide Try.prog W .any base t v := hval0
  have hW' := hW
  obtain ⟨p, q, hA0, hV, rfl, hfz, hnd⟩ := hW
  have hA : DataW.TrodAll enc Try.prog W 0 (fun _ => true) true Try.f10.params.toList args.toList ds p := hA0
  rw [Try.params10] at hA hval
  have hAk := hA
  obtain ⟨v0, vs0, d0, ds0, p0', q0, hargs, rfl, rfl, h0, r0⟩ := trodAll_cons hA
  obtain ⟨v1, vs1, d1, ds1, p1', q1, rfl, rfl, rfl, h1, r1⟩ := trodAll_cons r0
  obtain ⟨rfl, rfl, rfl⟩ := trodAll_nil r1
  obtain rfl : args = #[v0, v1] := by cases args; simp_all
  obtain ⟨rfl, rfl⟩ := trodVars_none hV
  simp only [List.append_nil] at hW' hAk
  have hlt := fun x hx => hW'.lt x hx
  clear hA0 hval0
  obtain ⟨p0, n0, c0, l0, rfl, S0, b0⟩ := open_bytes (okWide_slice Try.underlying22 (hval 0 22 v0 rfl rfl)) h0
  obtain ⟨a1, rfl, rfl, rfl, w1⟩ := open_int Try.underlying3 (hval 1 3 v1 rfl rfl) h1
  refine (walk W p0 n0 c0 l0 S0 b0 a1 w1).mono fun e W' ⟨he, hg⟩ => ?_
  subst he
  have hargs := trodAll_below hg _ _ _ _ (by intro t ht; simp only [List.mem_cons, List.not_mem_nil, or_false] at ht; revert t; rintro t (rfl | rfl) <;> exact ⟨by kernel_rfl, of_decide_eq_true (by kernel_rfl)⟩) hAk (fun x hx => by simpa using hlt x hx)
  exact ⟨_, rfl, _, _, _, [], _, [], hW', (trodAll_cons_mk (shut_bool Try.underlying4 _) trodAll_mk0), hargs, rfl, hg.frame _, fun h => by cases h⟩

theorem over : Rows.frameScansRow.holds Try.pinned (OpenSpec.ofChange Rows.frameScansSpec) :=
  OpenClaim.holds_of_wide 10 Try.f10 rfl rfl rfl rfl rfl rfl rfl ⟨rfl, rfl, rfl, rfl, rfl⟩ rfl rfl rfl rfl rfl (by kernel_rfl) Try.func10 (by kernel_rfl)
    (of_decide_eq_true (by kernel_rfl)) (by unfold Func.isWrapper; first | (rw [if_pos (by decide +kernel)]; kernel_rfl) | (rw [if_neg (by decide +kernel)]; exact ⟨rfl, rfl⟩))
    (fun os started H enc _ => lifted os started H enc)

theorem proved : Rows.FrameScansSaid :=
  over
end Go.Proofs.Ytfhigngfohfclaa.frameScans
