/- The document's own journal: what stands in a region is read. -/
import Derived.Test.YtpllbojmonfeiaaRefRh
namespace Go.Proofs.Ytpllbojmonfeiaa
open Go.RowKit SumM
set_option linter.unusedVariables false
attribute [local go_sem] Oper.semAt_some

set_option maxRecDepth 100000 in
set_option maxHeartbeats 8000000 in
theorem jrd_any (a : Option Addr) (n c : Nat) (l : List Nat) (hl : Bytes l) (w : World) (hS : Sl encY w.heap.size w (.slice a n c) l) :
    Calls Try.prog 48 #[.slice a n c] w (RdTo w l) := by
  have hz := zjd
  have hzi := zin
  obtain ⟨ks, hks⟩ := frm_of l hl.2
  have HKS := Lib.hid hks
  have hkl : ks.length ≤ 149796 := by have := hks.len; have := hl.1; omega
  have HL := Lib.hid hl
  obtain ⟨N, hN⟩ : ∃ N, w.heap.size = N := ⟨_, rfl⟩
  have HSC := Lib.hid (fun (W : World) (h : Below w.heap.size w W) => refScan_new a n c l hl W ((hS.below h).mono h.size))
  clear hS hks hl
  go_enter Try.func48, Try.ntmps48
  go_wp2_with fail
  obtain ⟨w1, hw1⟩ : ∃ w1, (w.alloc (.cells (jdC (.slice none 0 0) (.slice none 0 0) 0 0 0 (.slice none 0 0) (.slice none 0 0) 0) rjT)).alloc (.cells (jdC (.slice none 0 0) (.slice none 0 0) 0 0 0 (.slice none 0 0) (.slice none 0 0) 0) rjT) = w1 := ⟨_, rfl⟩
  have rA : w1.heap[N]? = some (.cells (jdC (.slice none 0 0) (.slice none 0 0) 0 0 0 (.slice none 0 0) (.slice none 0 0) 0) rjT (0, 0)) := by rw [← hw1, ← hN, Below.heap_alloc _ _ _ (by simp)]; exact World.alloc_heap_new w _
  have rR : w1.heap[N + 1]? = some (.cells (jdC (.slice none 0 0) (.slice none 0 0) 0 0 0 (.slice none 0 0) (.slice none 0 0) 0) rjT (0, 0)) := by rw [← hw1, ← hN]; exact in_new2 _ _ _
  have hb1 : Below w.heap.size w w1 := by rw [← hw1]; exact in_new2_below _ _ _
  have hz1 : w1.heap.size = N + 2 := by rw [← hw1, ← hN]; simp
  rw [hw1]
  have HC1 := Lib.hid (HSC.out w1 hb1)
  have HNN := Lib.hid hN
  have HZ1 := Lib.hid hz1
  have HR := Lib.hid rR
  have HA := Lib.hid rA
  have HB1 := Lib.hid hb1
  clear hw1 hN rA rR hb1 hz1 HSC
  go_wp2_with fail
  refine HC1.out.mono ?_
  rintro e w2 ⟨v, ys, rfl, hown, hys, hsl, hb2, hnv⟩
  have hyl : ys.length = ks.length := by
    have := congrArg List.length hys
    rw [List.length_map, HKS.out.sc, posF_len] at this
    exact this
  rw [hyl] at hown
  obtain ⟨ka, kc, rfl⟩ := own_form hown
  have rA : w2.heap[N]? = _ := (hb2.block N (by have := HZ1.out; omega)).trans HA.out
  have rR : w2.heap[N + 1]? = _ := (hb2.block (N + 1) (by have := HZ1.out; omega)).trans HR.out
  have HF : Hid (FrsAt w w1.heap.size w2 (N + 1) ka kc ks) := Lib.hid ⟨⟨ys, by rw [hys, HKS.out.sc], hown, fun y hy => ⟨hsl y hy, (hnv y hy).mono HB1.out.size⟩⟩, ⟨_, rR, jdC_no _ _ _ _ _ _ _ _ _ _ _ _ _ _ _ _⟩⟩
  have HA2 := Lib.hid rA
  have HR2 := Lib.hid rR
  have HB2 : Hid (Below N w w2) := Lib.hid (by have := HB1.out.trans (hb2.mono HB1.out.size); rw [HNN.out] at this; exact this)
  have HZ2 : Hid (N + 2 ≤ w2.heap.size) := Lib.hid (by have := hb2.size; have := HZ1.out; omega)
  clear rA rR hown hys hsl hb2 hnv HC1 hyl
  obtain ⟨M, hM⟩ : ∃ M, ks.length = M := ⟨_, rfl⟩
  have HM := Lib.hid hM
  rw [hM] at hkl ⊢
  clear hM
  have HRD : Hid (RdAt w2 w2 (N + 1) 0 (.slice none 0 0) (.slice none 0 0) 0) := Lib.hid ⟨But.refl _ _, HR2.out⟩
  by_cases h0 : M = 0
  · subst h0
    have hk0 : ks = [] := List.eq_nil_of_length_eq_zero HM.out
    have HKN : Hid (keptS l = (0, 0, 0)) := Lib.hid (HKS.out.not (by rw [hk0]; rfl))
    clear hk0
    have hrd := HRD.out
    obtain ⟨j0, j1, j2, j3, j4, j5, j6, j7, jf⟩ := cellsJ8 hrd.row
    have hnn := (hrd.but.block N (by have := HZ2.out; omega) (by simp)).trans HA2.out
    obtain ⟨n0, n1, n2, n3, n4, n5, n6, n7, nf⟩ := cellsJ8 hnn
    have f0 := nf 0
    have f1 := nf 1
    have f2 := nf 2
    have f3 := nf 3
    have f4 := nf 4
    have f5 := nf 5
    have f6 := nf 6
    have f7 := nf 7
    have HNB := Lib.hid hnn
    have HBE := Lib.hid (rd_below HB2.out (by have := HZ2.out; omega) hrd.but)
    clear hrd hnn nf jf
    go_wp2
    refine bodyPost_ret (jd_res2 _ 2 3 rfl _ _ N _ _ _ _ _ _ _ _ _ rfl rfl (heap_set8 HNB.out)) rfl ?_
    exact rdTo_bad HKN.out (by rw [HNN.out]; exact set8_below HBE.out (Nat.le_refl _))
  · obtain ⟨x0, hx0⟩ : ∃ x0, ks[0]? = some x0 := ⟨ks[0]'(by rw [HM.out]; omega), List.getElem?_eq_getElem _⟩
    obtain ⟨g, p0, c0, rfl, q0, q1, q2, hs0⟩ := HF.out.get (But.refl _ _) hx0
    have hM0 : ¬ ((M : Int) = 0) := by omega
    have hM0' : ((M : Int) == 0) = false := beq_eq_false_iff_ne.2 hM0
    have hM1 : (0 : Int) < (M : Int) := by omega
    have HX0 := Lib.hid hx0
    have HS0 := Lib.hid hs0.1
    have hok := HKS.out.ok x0 (List.mem_of_getElem? hx0)
    obtain ⟨k0, b0⟩ := x0
    dsimp only at q1 q2 HS0 hok
    have q1' : w2.cell? ⟨g, 1, none⟩ = some (.int .i64 (k0 : Nat)) := by simpa using q1
    have q2' : w2.cell? ⟨g, 2, none⟩ = some (.slice p0 b0.length c0) := by simpa using q2
    have hk0b : k0 < 256 := hok.2.1
    have hb4 : b0.length ≤ 4096 := hok.2.2.1
    have HBB : Hid (Bytes b0) := Lib.hid ⟨by omega, hok.2.2.2⟩
    clear q0 q1 q2 hx0 hs0 hok
    by_cases hk1 : k0 = 1
    · subst hk1
      have HT1 := Lib.hid (rtake_any p0 b0.length c0 b0 HBB.out w2 (HS0.out))
      have hA := headA_lt b0
      obtain ⟨ag, hag⟩ : ∃ ag, headA b0 = ag := ⟨_, rfl⟩
      have hagw : (wholeR b0).1 = ag := hag
      obtain ⟨t1, ht1⟩ : ∃ t1, takeE b0 = t1 := ⟨_, rfl⟩
      have HAG := Lib.hid hag
      have HE1 := Lib.hid ht1
      unfold TakeRT at HT1
      rw [hagw, ht1] at HT1
      rw [hag] at hA
      obtain ⟨m0, hm0⟩ : ∃ m0, b0.length = m0 := ⟨_, rfl⟩
      rw [hm0] at HT1 q2'
      clear hag hagw ht1 hm0 hb4 hk0b
      go_wp2_with fail
      refine HT1.out.mono ?_
      rintro e w3 ⟨p1, n1, c1, rfl, hs1, hb3⟩
      have HT2 := Lib.hid (fun (W : World) (h : Below w3.heap.size w3 W) => rtake_two b0 HBB.out p1 n1 c1 W (((hs1.below hb3).mono hb3.size |>.below h).mono h.size))
      obtain ⟨e2, he2⟩ : ∃ e2, head2E b0 = e2 := ⟨_, rfl⟩
      obtain ⟨pn, hpn⟩ : ∃ pn, head2N b0 = pn := ⟨_, rfl⟩
      obtain ⟨r2, hr2⟩ : ∃ r2, head2R b0 = r2 := ⟨_, rfl⟩
      have hpl := head2N_lt b0
      rw [hpn] at hpl
      rw [he2, hpn, hr2, HE1.out] at HT2
      have HE2 := Lib.hid he2
      have HPN := Lib.hid hpn
      have HR2' := Lib.hid hr2
      have HB23 := Lib.hid hb3
      have hw23 := hb3.size
      clear hs1 hb3 he2 hpn hr2 HT1 q1' q2'
      obtain ⟨w4, hw4⟩ : ∃ w4, w3.alloc (.cells #[.slice p1 n1 c1, .int .i64 (t1 : Nat)] 112) = w4 := ⟨_, rfl⟩
      have b4 : Below w3.heap.size w3 w4 := by rw [← hw4]; exact (Below.refl _ _).alloc (Nat.le_refl _) _
      have r4 : w4.heap[w3.heap.size]? = some (.cells #[.slice p1 n1 c1, .int .i64 (t1 : Nat)] 112 (0, 0)) := by rw [← hw4]; exact World.alloc_heap_new _ _
      have HT3 := Lib.hid (HT2.out w4 b4)
      have HR4 := Lib.hid r4
      have HB24 : Hid (Below w2.heap.size w2 w4) := Lib.hid (HB23.out.trans (b4.mono HB23.out.size))
      obtain ⟨t8, ht8⟩ : ∃ t8, w3.heap.size = t8 := ⟨_, rfl⟩
      rw [ht8] at HR4 hw23
      have HT8 : Hid (t8 < w4.heap.size) := Lib.hid (Array.getElem?_eq_some_iff.1 HR4.out).1
      have HW4 := Lib.hid hw4
      have HT8E := Lib.hid ht8
      clear hw4 b4 r4 HT2 ht8
      go_upto_region 6 with fail
      rw [HW4.out, HT8E.out]
      have c0' := cell_of_row w4 t8 0 _ _ _ HR4.out
      have c1' := cell_of_row w4 t8 1 _ _ _ HR4.out
      clear HW4
      go_wp2_with fail
      refine HT3.out.mono ?_
      rintro e w5 ⟨q, k, d, rfl, hk, hb5⟩
      subst hk
      have r5 := (hb5.block t8 HT8.out).trans HR4.out
      have c0'' := cell_of_row w5 t8 0 _ _ _ r5
      have c1'' := cell_of_row w5 t8 1 _ _ _ r5
      have f0'' := frozen_of_row w5 t8 0 _ _ r5
      have f1'' := frozen_of_row w5 t8 1 _ _ r5
      obtain ⟨w6, hw6⟩ : ∃ w6, (w5.setCell ⟨t8, 0, none⟩ (.slice q k d)).setCell ⟨t8, 1, none⟩ (.int .i64 (e2 : Nat)) = w6 := ⟨_, rfl⟩
      have r6 : w6.heap[t8]? = some (.cells #[.slice q k d, .int .i64 (e2 : Nat)] 112 (0, 0)) := by rw [← hw6]; exact in_set2 r5
      have b6 : Below w2.heap.size w2 w6 := by
        rw [← hw6]
        exact in_below2 (HB24.out.trans (hb5.mono HB24.out.size)) hw23
      have HW6 := Lib.hid hw6
      have HR6 := Lib.hid r6
      have HRD6 := Lib.hid (HRD.out.below b6)
      clear hw6 r6 b6 r5 hb5 HT3 HR4 HB24 HB23 c0' c1'
      go_upto_region 7 with fail
      rw [HW6.out]
      have c0' := cell_of_row w6 t8 0 _ _ _ HR6.out
      have c1' := cell_of_row w6 t8 1 _ _ _ HR6.out
      clear HW6 c0'' c1'' f0'' f1''
      have hMi : (M : Int) < 18446744073709551616 := by omega
      go_cut [70] from 46 to 69 (fun cv wx => cv = .bool (decide (e2 ≠ 0 ∨ 0 < k ∨ ag = 0 ∨ 1048576 < pn ∨ M < pn + 2)) ∧ wx = w6)
      case first =>
        by_cases g1 : e2 ≠ 0
        · have g1i : ((e2 : Int) != 0) = true := by simp; omega
          go_wp2_with fail
          go_meet
          exact ⟨congrArg Value.bool (decide_eq_true (.inl g1)).symm, rfl⟩
        · have g1i : ((e2 : Int) != 0) = false := by simp; omega
          by_cases g2 : 0 < k
          · have g2i : (0 : Int) < (k : Int) := by omega
            go_wp2_with fail
            go_meet
            exact ⟨congrArg Value.bool (decide_eq_true (.inr (.inl g2))).symm, rfl⟩
          · have g2i : ¬ (0 : Int) < (k : Int) := by omega
            by_cases g3 : ag = 0
            · have G3 := Lib.hid g3
              subst g3
              go_wp2_with fail
              go_meet
              exact ⟨congrArg Value.bool (by simp), rfl⟩
            · have g3i : ((ag : Int) == 0) = false := beq_eq_false_iff_ne.2 (by omega)
              by_cases g4 : 1048576 < pn
              · have g4i : (1048576 : Int) < (pn : Int) := by omega
                go_wp2_with fail
                go_meet
                exact ⟨congrArg Value.bool (decide_eq_true (.inr (.inr (.inr (.inl g4))))).symm, rfl⟩
              · have g4i : ¬ (1048576 : Int) < (pn : Int) := by omega
                have g4j : (pn : Int) + 2 < 18446744073709551616 := by omega
                go_wp2_with fail
                go_meet
                exact ⟨congrArg Value.bool (decide_eq_decide.2 ⟨fun h => by omega, fun h => by omega⟩), rfl⟩
      case rest =>
        obtain ⟨rfl, hwc⟩ := hcut
        rw [hwc]
        clear hwc
        by_cases hbad : e2 ≠ 0 ∨ 0 < k ∨ ag = 0 ∨ 1048576 < pn ∨ M < pn + 2
        · rw [decide_eq_true hbad]
          have HKN : Hid (keptS l = (0, 0, 0)) := Lib.hid (by
            refine HKS.out.not ?_
            by_cases hho : headOk b0 = true
            · have hoo := head2_ok b0
              rw [hho, HE2.out, HR2'.out, HAG.out] at hoo
              simp at hoo
              obtain ⟨⟨h1, h2⟩, h3⟩ := hoo
              have hst := (RunTo.start ks).step HX0.out (take_head1 hho)
              rw [hst.en]
              have hpp : headP b0 = pn := by
                have := head2_n (b := b0) (by rw [HE2.out]; exact h2)
                rw [← this]; exact HPN.out
              rw [HAG.out, hpp]
              refine endK_few _ _ h1 rfl ?_
              rw [List.length_drop]
              have := HM.out
              show _ < pn + 1
              omega
            · have hh0 : headOk b0 = false := by simpa using hho
              obtain ⟨s, hs, hr⟩ := take_head0 hh0
              rw [((RunTo.start ks).stop HX0.out hs).2]
              exact hr)
          clear c0' c1'
          have hrd := HRD6.out
          obtain ⟨j0, j1, j2, j3, j4, j5, j6, j7, jf⟩ := cellsJ8 hrd.row
          have hnn := (hrd.but.block N (by have := HZ2.out; omega) (by simp)).trans HA2.out
          obtain ⟨n0, n1, n2, n3, n4, n5, n6, n7, nf⟩ := cellsJ8 hnn
          have f0 := nf 0
          have f1 := nf 1
          have f2 := nf 2
          have f3 := nf 3
          have f4 := nf 4
          have f5 := nf 5
          have f6 := nf 6
          have f7 := nf 7
          have HNB := Lib.hid hnn
          have HBE := Lib.hid (rd_below HB2.out (by have := HZ2.out; omega) hrd.but)
          clear hrd hnn nf jf
          go_wp2
          refine bodyPost_ret (jd_res2 _ 2 3 rfl _ _ N _ _ _ _ _ _ _ _ _ rfl rfl (heap_set8 HNB.out)) rfl ?_
          exact rdTo_bad HKN.out (by rw [HNN.out]; exact set8_below HBE.out (Nat.le_refl _))
        · rw [decide_eq_false hbad]
          have b1 : e2 = 0 := by omega
          have b2 : k = 0 := by omega
          have b3 : ag ≠ 0 := by omega
          have b4 : pn ≤ 1048576 := by omega
          have b5 : pn + 2 ≤ M := by omega
          have hho : headOk b0 = true := by
            rw [head2_ok, HE2.out, HR2'.out, HAG.out, decide_eq_true b1, decide_eq_true b2, decide_eq_true b3]; rfl
          have hpp : headP b0 = pn := by
            rw [← head2_n (b := b0) (by rw [HE2.out]; exact b1)]; exact HPN.out
          have HST : Hid (RunTo ks 1 ⟨ag, pn, false⟩) := Lib.hid (by
            have := (RunTo.start ks).step HX0.out (take_head1 hho)
            rw [HAG.out, hpp] at this
            exact this)
          have HT0 : Hid (bodK 2 (ks.take 1) = [] ∧ bodK 4 (ks.take 1) = []) := Lib.hid (by
            rw [take_snoc HX0.out, take_snoc HX0.out]
            exact ⟨rfl, rfl⟩)
          have HLB : Hid (∀ i, (bodK 2 (ks.take i)).flatten.length ≤ 1048576) := Lib.hid (fun i => Nat.le_trans (bodK_flat 2 _) (Nat.le_trans (joinF_flat _) (Nat.le_trans (HKS.out.bd i) HL.out.1)))
          clear hbad hho hpp b1 b2 c0' c1' HE2 HR2' HPN HAG HX0 HBB HS0 HE1 hA hpl hMi HR6
          go_wp2_with fail
          go_loopw [11] (fun iv wr => ∃ (i : Nat) (sp : Option Addr) (sn sc : Nat), 1 ≤ i ∧ i ≤ pn + 1 ∧ iv = .int .i64 (i : Nat) ∧ RunTo ks i ⟨ag, pn + 1 - i, false⟩ ∧ RdAt w2 wr (N + 1) 0 (.slice sp sn sc) (.slice none 0 0) 0 ∧ Sl encY wr.heap.size wr (.slice sp sn sc) (bodK 2 (ks.take i)).flatten ∧ bodK 4 (ks.take i) = [] ∧ NewV w (.slice sp sn sc)) (fun iv _ => pn + 1 - (intOf iv).toNat)
          case atStart => exact ⟨1, none, 0, 0, Nat.le_refl _, by omega, rfl, by rw [Nat.add_sub_cancel]; exact HST.out, HRD6.out, by rw [HT0.out.1]; exact Sl.nil _ _ _, HT0.out.2, NewV.nil w⟩
          case round =>
            obtain ⟨i, sp, sn, sc, hi1, hi2, rfl, hrun, hrd, hsl, hb4, hnw⟩ := hrel
            have HNW := Lib.hid hnw
            clear hnw
            have HRUN := Lib.hid hrun
            have HRDI := Lib.hid hrd
            have HSL := Lib.hid hsl
            have HB4 := Lib.hid hb4
            clear hrun hrd hsl hb4
            by_cases hle : i ≤ pn
            · obtain ⟨x, hx⟩ : ∃ x, ks[i]? = some x := ⟨ks[i]'(by rw [HM.out]; omega), List.getElem?_eq_getElem _⟩
              obtain ⟨g', p2, c2, eg, q0, q1, q2, hsx⟩ := HF.out.get HRDI.out.but hx
              cases eg
              have HX := Lib.hid hx
              have HSX := Lib.hid (hsx.1.mono HRDI.out.but.size)
              have hok := HKS.out.ok x (List.mem_of_getElem? hx)
              obtain ⟨kx, bx⟩ := x
              dsimp only at q1 q2 HSX hok
              have hkx : kx < 256 := hok.2.1
              obtain ⟨lx, hlx⟩ : ∃ lx, bx.length = lx := ⟨_, rfl⟩
              have hlx4 : lx ≤ 4096 := by rw [← hlx]; exact hok.2.2.1
              rw [hlx] at q2 HSX
              have HLX := Lib.hid hlx
              have hlei : (i : Int) ≤ (pn : Int) := by omega
              clear hx hsx hok hlx q0
              go_upto_region 12 with fail
              go_cut [107] from 78 to 106 (fun cv wx => cv = .bool (decide (kx ≠ 2 ∨ lx = 0 ∨ (i < pn ∧ lx ≠ 4096))) ∧ wx = wr)
              case first =>
                by_cases g1 : kx ≠ 2
                · have g1i : ((kx : Int) != 2) = true := by simp; omega
                  go_wp2_with fail
                  go_meet
                  exact ⟨congrArg Value.bool (decide_eq_true (.inl g1)).symm, rfl⟩
                · have g1i : ((kx : Int) != 2) = false := by simp; omega
                  by_cases g2 : lx = 0
                  · have g2i : ((lx : Int) == 0) = true := by simp; omega
                    subst g2
                    go_wp2_with fail
                    go_meet
                    exact ⟨congrArg Value.bool (by simp), rfl⟩
                  · have g2i : ((lx : Int) == 0) = false := beq_eq_false_iff_ne.2 (by omega)
                    by_cases g3 : i < pn
                    · have g3i : (i : Int) < (pn : Int) := by omega
                      go_wp2_with fail
                      go_meet
                      exact ⟨congrArg Value.bool (by rw [show decide (kx ≠ 2 ∨ lx = 0 ∨ i < pn ∧ lx ≠ 4096) = decide (lx ≠ 4096) from decide_eq_decide.2 ⟨fun h => by omega, fun h => by omega⟩, bne, Bool.eq_iff_iff]; simp; omega), rfl⟩
                    · have g3i : ¬ (i : Int) < (pn : Int) := by omega
                      go_wp2_with fail
                      go_meet
                      exact ⟨congrArg Value.bool (decide_eq_false (by omega)).symm, rfl⟩
              case rest =>
                obtain ⟨rfl, hwc⟩ := hcut
                rw [hwc]
                clear hwc
                by_cases hbad : kx ≠ 2 ∨ lx = 0 ∨ (i < pn ∧ lx ≠ 4096)
                · rw [decide_eq_true hbad]
                  have HKN : Hid (keptS l = (0, 0, 0)) := Lib.hid (by
                    refine HKS.out.not ?_
                    by_cases h2 : kx = 2
                    · subst h2
                      have ht := take_pc (a := ag) (p := pn + 1 - i) (b := bx) b3 (by omega)
                      have hf : (decide (bx.length = 4096) || (decide (pn + 1 - i - 1 = 0) && decide (0 < bx.length))) = false := by
                        rw [HLX.out]
                        simp
                        omega
                      rw [hf] at ht
                      rw [(HRUN.out.stop HX.out ht).2]
                    · rw [(HRUN.out.stop HX.out (take_kind (by rw [next_piece b3 (by omega)]; exact h2))).2])
                  clear q1 q2
                  have hrd := HRDI.out
                  obtain ⟨j0, j1, j2, j3, j4, j5, j6, j7, jf⟩ := cellsJ8 hrd.row
                  have hnn := (hrd.but.block N (by have := HZ2.out; omega) (by simp)).trans HA2.out
                  obtain ⟨n0, n1, n2, n3, n4, n5, n6, n7, nf⟩ := cellsJ8 hnn
                  have f0 := nf 0
                  have f1 := nf 1
                  have f2 := nf 2
                  have f3 := nf 3
                  have f4 := nf 4
                  have f5 := nf 5
                  have f6 := nf 6
                  have f7 := nf 7
                  have HNB := Lib.hid hnn
                  have HBE := Lib.hid (rd_below HB2.out (by have := HZ2.out; omega) hrd.but)
                  clear hrd hnn nf jf
                  go_wp2
                  refine bodyPost_ret (jd_res2 _ 2 3 rfl _ _ N _ _ _ _ _ _ _ _ _ rfl rfl (heap_set8 HNB.out)) rfl ?_
                  exact rdTo_bad HKN.out (by rw [HNN.out]; exact set8_below HBE.out (Nat.le_refl _))
                · rw [decide_eq_false hbad]
                  have h2 : kx = 2 := by omega
                  subst h2
                  have HSTP : Hid (RunTo ks (i + 1) ⟨ag, pn + 1 - (i + 1), false⟩) := Lib.hid (by
                    have ht := take_pc (a := ag) (p := pn + 1 - i) (b := bx) b3 (by omega)
                    have hf : (decide (bx.length = 4096) || (decide (pn + 1 - i - 1 = 0) && decide (0 < bx.length))) = true := by
                      rw [HLX.out]
                      simp
                      omega
                    rw [hf, show pn + 1 - i - 1 = pn + 1 - (i + 1) from by omega] at ht
                    exact HRUN.out.step HX.out ht)
                  have HBK2 : Hid ((bodK 2 (ks.take (i + 1))).flatten = (bodK 2 (ks.take i)).flatten ++ bx) := Lib.hid (by rw [take_snoc HX.out, if_pos rfl]; simp)
                  have HBK4 : Hid (bodK 4 (ks.take (i + 1)) = []) := Lib.hid (by rw [take_snoc HX.out, if_neg (show ¬ (2 = 4) by decide)]; exact HB4.out)
                  have hj5 : wr.cell? ⟨N + 1, 5, none⟩ = some (.slice sp sn sc) := (cellsJ8 HRDI.out.row).2.2.2.2.2.1
                  have hiM : (i : Int) < (M : Int) := by omega
                  have hi0 : (0 : Int) ≤ (i : Int) := by omega
                  clear hbad q1
                  go_wp2_with fail
                  go_still_tail 7, (by kernel_rfl)
                  change wpList _ _ _ _ _ wr.drew
                  obtain ⟨u2, hu2⟩ : ∃ u2, wr.drew = u2 := ⟨_, rfl⟩
                  have hub : Below wr.heap.size wr u2 := by rw [← hu2]; exact (Below.refl _ _).drew
                  rw [hu2]
                  have HPT := Lib.hid (Parts.two u2 _ _ _ _ 22 ((HSL.out.below hub).mono hub.size) ((HSX.out.below hub).mono hub.size))
                  have HJ := Lib.hid (joinY_any _ _ _ [(bodK 2 (ks.take i)).flatten, bx] (by have h1 := HLB.out (i + 1); rw [HBK2.out] at h1; simpa using h1) (by simp) _ HPT.out)
                  have HUB := Lib.hid hub
                  clear hu2 hub hj5 q2
                  go_wp2_with fail
                  refine HJ.out.mono ?_
                  rintro e u3 ⟨v3, rfl, hown3, hb3'⟩
                  have HO3 : Hid (Sl encY u3.heap.size u3 v3 (bodK 2 (ks.take (i + 1))).flatten) := Lib.hid (by rw [HBK2.out]; have := Sl.of_owns hown3; simpa using this)
                  obtain ⟨p3, n3, c3, rfl⟩ := ownsRow_form hown3
                  have HNW3 : Hid (NewV w (.slice p3 n3 c3)) := Lib.hid (fun ad m e h => by
                    have h1 := own_blockJ hown3 ad m e h
                    have h2 := HUB.out.size
                    have h3 := HRDI.out.but.size
                    have h4 := HB2.out.size
                    have h5 := HNN.out
                    have h6 := HZ2.out
                    simp at h1
                    omega)
                  have hbw3 : Below wr.heap.size wr u3 := (HUB.out.alloc HUB.out.size _).trans (hb3'.mono (by have := HUB.out.size; simp; omega))
                  have hrd3 := HRDI.out.below hbw3
                  obtain ⟨j0, j1, j2, j3, j4, j5, j6, j7, jf⟩ := cellsJ8 hrd3.row
                  have jf5 := jf 5
                  have HRD3 := Lib.hid hrd3
                  clear hown3 hbw3 hrd3 hb3' j0 j1 j2 j3 j4 j6 j7 jf
                  go_wp2_with fail
                  refine ⟨⟨i + 1, p3, n3, c3, by omega, by omega, rfl, HSTP.out, ⟨HRD3.out.but.set (by simp) _, heap_setCell_same u3 (N + 1) 5 _ _ _ HRD3.out.row⟩, ?_, HBK4.out, HNW3.out⟩, by show pn + 1 - ((i : Int) + 1).toNat < pn + 1 - ((i : Int)).toNat; omega⟩
                  have hof := off_cells HO3.out HRD3.out.row (jdC_no _ _ _ _ _ _ _ _ _ _ _ _ _ _ _ _)
                  exact HO3.out.but ((But.refl _ _).set (by simp) _) hof
            · obtain rfl : i = pn + 1 := by omega
              have HRN : Hid (RunTo ks (pn + 1) ⟨ag, 0, false⟩) := Lib.hid (by have := HRUN.out; rw [Nat.sub_self] at this; exact this)
              obtain ⟨x, hx⟩ : ∃ x, ks[pn + 1]? = some x := ⟨ks[pn + 1]'(by rw [HM.out]; omega), List.getElem?_eq_getElem _⟩
              obtain ⟨g', p2, c2, eg, q0, q1, q2, hsx⟩ := HF.out.get HRDI.out.but hx
              cases eg
              have HX := Lib.hid hx
              have hok := HKS.out.ok x (List.mem_of_getElem? hx)
              have hps := HKS.out.bd (pn + 1)
              have hl1 := HL.out.1
              obtain ⟨kx, bx⟩ := x
              dsimp only at q1 q2 hok
              have hkx : kx < 256 := hok.2.1
              obtain ⟨lx, hlx⟩ : ∃ lx, bx.length = lx := ⟨_, rfl⟩
              have hlx4 : lx ≤ 4096 := by rw [← hlx]; exact hok.2.2.1
              rw [hlx] at q2
              have HLX := Lib.hid hlx
              obtain ⟨ps, hpe⟩ : ∃ ps, (joinF (ks.take (pn + 1))).length = ps := ⟨_, rfl⟩
              rw [hpe] at q0 hps
              have HPE := Lib.hid hpe
              have hpi : ¬ ((pn : Int) + 1 ≤ (pn : Int)) := by omega
              have hpM : (pn : Int) + 1 < (M : Int) := by omega
              clear hx hsx hok hlx hpe
              go_upto_region 16 with fail
              go_cut [136] from 122 to 135 (fun cv wx => cv = .bool (decide (kx ≠ 3 ∨ 0 < lx)) ∧ wx = wr)
              case first =>
                by_cases g1 : kx ≠ 3
                · have g1i : ((kx : Int) != 3) = true := by simp; omega
                  go_wp2_with fail
                  go_meet
                  exact ⟨congrArg Value.bool (decide_eq_true (.inl g1)).symm, rfl⟩
                · have g1i : ((kx : Int) != 3) = false := by simp; omega
                  go_wp2_with fail
                  go_meet
                  exact ⟨congrArg Value.bool (decide_eq_decide.2 ⟨fun h => by omega, fun h => by omega⟩), rfl⟩
              case rest =>
                obtain ⟨rfl, hwc⟩ := hcut
                rw [hwc]
                clear hwc
                by_cases hbad : kx ≠ 3 ∨ 0 < lx
                · rw [decide_eq_true hbad]
                  have HKN : Hid (keptS l = (0, 0, 0)) := Lib.hid (by
                    refine HKS.out.not ?_
                    by_cases h2 : kx = 3
                    · subst h2
                      have ht := take_rdy (a := ag) (b := bx) b3
                      rw [HLX.out, decide_eq_false (by omega)] at ht
                      rw [(HRN.out.stop HX.out ht).2]
                    · rw [(HRN.out.stop HX.out (take_kind (by rw [next_rdy b3]; exact h2))).2])
                  clear q0 q1 q2
                  have hrd := HRDI.out
                  obtain ⟨j0, j1, j2, j3, j4, j5, j6, j7, jf⟩ := cellsJ8 hrd.row
                  have hnn := (hrd.but.block N (by have := HZ2.out; omega) (by simp)).trans HA2.out
                  obtain ⟨n0, n1, n2, n3, n4, n5, n6, n7, nf⟩ := cellsJ8 hnn
                  have f0 := nf 0
                  have f1 := nf 1
                  have f2 := nf 2
                  have f3 := nf 3
                  have f4 := nf 4
                  have f5 := nf 5
                  have f6 := nf 6
                  have f7 := nf 7
                  have HNB := Lib.hid hnn
                  have HBE := Lib.hid (rd_below HB2.out (by have := HZ2.out; omega) hrd.but)
                  clear hrd hnn nf jf
                  go_wp2
                  refine bodyPost_ret (jd_res2 _ 2 3 rfl _ _ N _ _ _ _ _ _ _ _ _ rfl rfl (heap_set8 HNB.out)) rfl ?_
                  exact rdTo_bad HKN.out (by rw [HNN.out]; exact set8_below HBE.out (Nat.le_refl _))
                · rw [decide_eq_false hbad]
                  have h2 : kx = 3 := by omega
                  subst h2
                  have HSTP : Hid (RunTo ks (pn + 1 + 1) ⟨ag, 0, true⟩) := Lib.hid (by
                    have ht := take_rdy (a := ag) (b := bx) b3
                    rw [HLX.out, decide_eq_true (by omega)] at ht
                    exact HRN.out.step HX.out ht)
                  have HBK2 : Hid (bodK 2 (ks.take (pn + 1 + 1)) = bodK 2 (ks.take (pn + 1)) ∧ bodK 4 (ks.take (pn + 1 + 1)) = [] ∧ (joinF (ks.take (pn + 1 + 1))).length = ps + 7) := Lib.hid (by
                    rw [take_snoc HX.out, take_snoc HX.out, if_neg (show ¬ (3 = 2) by decide), if_neg (show ¬ (3 = 4) by decide), joinF_take HX.out, HPE.out]
                    exact ⟨rfl, HB4.out, by show ps + (bx.length + 7) = ps + 7; rw [HLX.out]; omega⟩)
                  have hrd := HRDI.out
                  obtain ⟨j0, j1, j2, j3, j4, j5, j6, j7, jf⟩ := cellsJ8 hrd.row
                  have jf4 := jf 4
                  have jf7 := jf 7
                  clear hbad q1 q2 j0 j1 j2 j3 j5 j6 jf
                  obtain ⟨w7, hw7⟩ : ∃ w7, (wr.setCell ⟨N + 1, 4, none⟩ (.int .u64 (ag : Nat))).setCell ⟨N + 1, 7, none⟩ (.int .i64 ((ps : Int) + 7)) = w7 := ⟨_, rfl⟩
                  have hrd7 : RdAt w2 w7 (N + 1) (ag : Nat) (.slice sp sn sc) (.slice none 0 0) ((ps : Int) + 7) := by
                    rw [← hw7]
                    exact ⟨(hrd.but.set (by simp) _).set (by simp) _, heap_setCell_same _ (N + 1) 7 _ _ _ (heap_setCell_same wr (N + 1) 4 _ _ _ hrd.row)⟩
                  have hsl7 : Sl encY w7.heap.size w7 (.slice sp sn sc) (bodK 2 (ks.take (pn + 1 + 1))).flatten := by
                    rw [HBK2.out.1, ← hw7]
                    exact HSL.out.but (((But.refl _ _).set (by simp) _).set (by simp) _) (off_cells HSL.out hrd.row (jdC_no _ _ _ _ _ _ _ _ _ _ _ _ _ _ _ _))
                  have HW7 := Lib.hid hw7
                  have HRD7 := Lib.hid hrd7
                  have HSL7 := Lib.hid hsl7
                  clear hrd hw7 hrd7 hsl7 HSL HRUN HB4
                  go_upto_region 20 with fail
                  rw [HW7.out]
                  obtain ⟨i1, hi1, hy0, hy1, hy2⟩ := info_parts infoB
                  have HB7 : Hid (w2.heap.size ≤ w7.heap.size ∧ N + 1 < w7.heap.size) := Lib.hid ⟨HRD7.out.but.size, (Array.getElem?_eq_some_iff.1 HRD7.out.row).1⟩
                  have HPS : Hid (((ps : Int) + 7) = ((ps + 7 : Nat) : Int)) := Lib.hid (by omega)
                  clear HW7 HX HRDI HRN HPE HLX q0 hpi hpM
                  go_wp2_with fail
                  go_loopw [13] (fun iv wr => ∃ (i en : Nat) (rp : Option Addr) (rn rc : Nat), pn + 2 ≤ i ∧ i ≤ M ∧ iv = .int .i64 (i : Nat) ∧ RunTo ks i ⟨ag, 0, true⟩ ∧ RdAt w2 wr (N + 1) (ag : Nat) (.slice sp sn sc) (.slice rp rn rc) (en : Nat) ∧ (joinF (ks.take i)).length = en ∧ But [N + 1] w7 wr ∧ RcD (NewV w) w7.heap.size wr (.slice rp rn rc) (bodK 4 (ks.take i)) ∧ bodK 2 (ks.take i) = bodK 2 (ks.take (pn + 1 + 1))) (fun iv _ => M - (intOf iv).toNat)
                  case atStart => exact ⟨pn + 1 + 1, ps + 7, none, 0, 0, by omega, by omega, congrArg (fun z : Int => Value.int .i64 z) (by omega), HSTP.out, by rw [← HPS.out]; exact HRD7.out, HBK2.out.2.2, But.refl _ _, by rw [HBK2.out.2.1]; exact RcD.nil _ _ _, rfl⟩
                  case round =>
                    obtain ⟨i, en, rp, rn, rc, hi1', hi2', rfl, hrun, hrd, hen, hbt, hrc, hb2⟩ := hrel
                    have HRUN := Lib.hid hrun
                    have HRDI := Lib.hid hrd
                    have HEN := Lib.hid hen
                    have HBT := Lib.hid hbt
                    have HRC := Lib.hid hrc
                    have HB2K := Lib.hid hb2
                    clear hrun hrd hen hbt hrc hb2
                    by_cases hgo : i < M ∧ ∃ bx, ks[i]? = some (4, bx)
                    · obtain ⟨hlt, bx, hx⟩ := hgo
                      obtain ⟨g', p2, c2, eg, q0, q1, q2, hsx⟩ := HF.out.get HRDI.out.but hx
                      cases eg
                      have HX := Lib.hid hx
                      have hok := HKS.out.ok _ (List.mem_of_getElem? hx)
                      dsimp only at q1 q2 hok hsx
                      obtain ⟨lx, hlx⟩ : ∃ lx, bx.length = lx := ⟨_, rfl⟩
                      have hlx4 : lx ≤ 4096 := by rw [← hlx]; exact hok.2.2.1
                      rw [hlx] at q2 hsx
                      have HLX := Lib.hid hlx
                      have HSX := Lib.hid hsx.1
                      have HSN := Lib.hid hsx.2
                      rw [HEN.out] at q0
                      have hEb : en ≤ 1048576 := by have h1 := HKS.out.bd i; rw [HEN.out] at h1; have := HL.out.1; omega
                      have hj6 : wr.cell? ⟨N + 1, 6, none⟩ = some (.slice rp rn rc) := (cellsJ8 HRDI.out.row).2.2.2.2.2.2.1
                      have hiM : (i : Int) < (M : Int) := by omega
                      have hi0 : (0 : Int) ≤ (i : Int) := by omega
                      have HSTPN : Hid (RunTo ks (i + 1) ⟨ag, 0, true⟩) := Lib.hid (HRUN.out.step HX.out (take_rc b3))
                      clear hx hsx hok hlx
                      go_upto_region 23 with fail
                      obtain ⟨ys, hy1, hown, hy3⟩ := HRC.out
                      have hyl : ys.length ≤ 149796 := by
                        have h1 := congrArg List.length hy1
                        rw [List.length_map] at h1
                        have h2 : (bodK 4 (ks.take i)).length ≤ ks.length := by
                          unfold bodK
                          rw [List.length_map]
                          exact Nat.le_trans (List.length_filter_le _ _) (by rw [List.length_take]; omega)
                        have := HM.out
                        omega
                      have HY1 := Lib.hid hy1
                      have HY3 := Lib.hid hy3
                      obtain ⟨nr, hnr⟩ : ∃ nr, ys.length = nr := ⟨_, rfl⟩
                      have HNR := Lib.hid hnr
                      rw [hnr] at hown hyl
                      have HOW := Lib.hid hown
                      clear hy1 hy3 hnr hown q1
                      have HQ2 := Lib.hid q2
                      have HJ6 := Lib.hid hj6
                      clear q0 q2 hj6
                      refine region_seq (l := [_, _, _, _, _, _, _, _]) (t := [_, _, _]) (by kernel_rfl) (by decide +kernel) (by decide +kernel) (fun v => { tmps := #[Value.slice a n c, undef, Value.pointer (some ⟨N, 0, none⟩), u3, Value.pointer (some ⟨N + 1, 0, none⟩), Value.slice (some ⟨g, 0, none⟩) M kc, Value.int IntKind.i64 ((scanE l 0 : Nat) : Int), Value.int IntKind.i64 ((scanW l : Nat) : Int), Value.pointer (some ⟨t8, 0, none⟩), Value.int IntKind.u64 (ag : Int), Value.int IntKind.u64 (pn : Int), Value.int IntKind.i64 ((pn + 1 : Nat) : Int), Value.int IntKind.i64 ((pn : Int) + 1), Value.int IntKind.i64 (i : Int), Value.agg #[Value.slice none 0 0, Value.slice none 0 0, Value.int IntKind.i64 0, Value.int IntKind.i64 0, Value.int IntKind.u64 0, Value.slice none 0 0, Value.slice none 0 0, Value.int IntKind.i64 0], Value.tuple #[Value.slice (some ⟨g, 0, none⟩) M kc, Value.int IntKind.i64 ((scanE l 0 : Nat) : Int), Value.int IntKind.i64 ((scanW l : Nat) : Int)], Value.slice a n c, Value.tuple #[Value.slice (some ⟨g, 0, none⟩) M kc, Value.int IntKind.i64 ((scanE l 0 : Nat) : Int), Value.int IntKind.i64 ((scanW l : Nat) : Int)], Value.slice (some ⟨g, 0, none⟩) M kc, Value.int IntKind.i64 ((scanE l 0 : Nat) : Int), Value.int IntKind.i64 ((scanW l : Nat) : Int), Value.slice (some ⟨g, 0, none⟩) M kc, Value.int IntKind.i64 (M : Int), Value.bool false, Value.bool false, Value.slice (some ⟨g, 0, none⟩) M kc, Value.pointer (some ⟨g, 0, none⟩), Value.pointer (some ⟨g, 1, none⟩), Value.int IntKind.i64 1, Value.bool false, Value.bool false, undef, Value.tuple #[inV (Value.slice p1 n1 c1) t1, Value.int IntKind.u64 (ag : Int)], Value.slice (some ⟨g, 0, none⟩) M kc, Value.pointer (some ⟨g, 0, none⟩), Value.pointer (some ⟨g, 2, none⟩), Value.slice p0 m0 c0, Value.agg #[Value.slice p0 m0 c0, Value.int IntKind.i64 0], Value.tuple #[inV (Value.slice p1 n1 c1) t1, Value.int IntKind.u64 (ag : Int)], inV (Value.slice p1 n1 c1) t1, Value.int IntKind.u64 (ag : Int), Value.tuple #[inV (Value.slice q k d) e2, Value.int IntKind.u64 (pn : Int)], Value.agg #[Value.slice p1 n1 c1, Value.int IntKind.i64 (t1 : Int)], Value.tuple #[inV (Value.slice q k d) e2, Value.int IntKind.u64 (pn : Int)], inV (Value.slice q k d) e2, Value.int IntKind.u64 (pn : Int), u46, u47, u48, u49, u50, u51, u52, u53, u54, u55, u56, u57, u58, u59, u60, u61, u62, u63, u64, u65, u66, u67, u68, u69, Value.bool false, undef, Value.int IntKind.i64 ((pn + 1 : Nat) : Int), Value.int IntKind.u64 (pn : Int), Value.int IntKind.i64 (pn : Int), Value.bool false, u76, u77, u78, u79, u80, u81, u82, u83, u84, u85, u86, u87, u88, u89, u90, u91, u92, u93, u94, u95, u96, u97, u98, u99, u100, u101, u102, u103, u104, u105, u106, u107, u108, u109, u110, u111, u112, u113, u114, u115, u116, u117, u118, Value.int IntKind.u64 (pn : Int), Value.int IntKind.i64 (pn : Int), Value.int IntKind.i64 ((pn : Int) + 1), u122, u123, u124, u125, u126, u127, u128, u129, u130, u131, u132, u133, u134, u135, Value.bool false, undef, Value.int IntKind.u64 (ag : Int), Value.pointer (some ⟨N + 1, 4, none⟩), Value.slice (some ⟨g, 0, none⟩) M kc, Value.int IntKind.i64 ((pn : Int) + 1), Value.pointer (some ⟨g, (pn + 1) * 3, none⟩), Value.pointer (some ⟨g, (pn + 1) * 3, none⟩), Value.int IntKind.i64 (ps : Int), Value.int IntKind.i64 ((ps : Int) + 7), Value.pointer (some ⟨N + 1, 7, none⟩), Value.int IntKind.i64 ((pn : Int) + 1), Value.int IntKind.i64 ((pn : Int) + 1 + 1), Value.int IntKind.i64 (i : Int), Value.slice (some ⟨g, 0, none⟩) M kc, Value.int IntKind.i64 (M : Int), Value.bool true, Value.bool true, Value.slice (some ⟨g, 0, none⟩) M kc, Value.int IntKind.i64 (i : Int), Value.pointer (some ⟨g, i * 3, none⟩), Value.pointer (some ⟨g, i * 3 + 1, none⟩), Value.int IntKind.i64 4, Value.bool true, Value.bool true, u161, u162, v 0, v 1, v 2, v 3, v 4, v 5, v 6, v 7, u171, u172, u173, u174, u175, u176, u177, u178, u179, u180, u181, u182, u183, u184, u185, u186, undef], defers := [] }) (fun W => Below wr.heap.size wr W) (fun i' u W => match i' with
                        | 0 => u = .pointer (some ⟨N + 1, 6, none⟩)
                        | 1 => u = .slice rp rn rc
                        | 2 => u = .slice (some ⟨g, 0, none⟩) M kc
                        | 3 => u = .int .i64 (i : Nat)
                        | 4 => u = .pointer (some ⟨g, i * 3, none⟩)
                        | 5 => u = .pointer (some ⟨g, i * 3 + 2, none⟩)
                        | 6 => u = .slice p2 lx c2
                        | 7 => ∃ B, u = .slice (some ⟨B, 0, none⟩) 1 1 ∧ wr.heap.size ≤ B ∧ W.heap[B]? = some (.cells #[.slice p2 lx c2] yssT (0, 0))
                        | _ => True) (fun A B => Below A.heap.size A B) ?hC ?hV (fun k => match k with | 0 => u163 | 1 => u164 | 2 => u165 | 3 => u166 | 4 => u167 | 5 => u168 | 6 => u169 | _ => u170) ?h0 ?hop ?hend
                      case hC => exact fun A B h h2 => h.trans (h2.mono h.size)
                      case h0 => exact (Below.refl _ wr).drew
                      case hV =>
                        intro i' u A B h hx
                        match i', h with
                        | 7, ⟨b, e, h, h2⟩ => exact ⟨b, e, h, (hx.block b (Array.getElem?_eq_some_iff.1 h2).1).trans h2⟩
                        | 0, h => exact h
                        | 1, h => exact h
                        | 2, h => exact h
                        | 3, h => exact h
                        | 4, h => exact h
                        | 5, h => exact h
                        | 6, h => exact h
                        | n + 8, h => trivial
                      case hop =>
                        simp only [AllDo]
                        refine ⟨?o0, ?o1, ?o2, ?o3, ?o4, ?o5, ?o6, ?o7, trivial⟩
                        all_goals intro v W hc hd Q hQ
                        all_goals simp [Region.binds] at hd
                        all_goals rw [if_pos (show Region.wanted _ _ = true from rfl)]
                        case o0 =>
                          go_wp2
                          exact ⟨_, rfl, Below.refl _ _, rfl⟩
                        case o1 =>
                          have hj6 : W.cell? ⟨N + 1, 6, none⟩ = some (.slice rp rn rc) := (World.cell?_of_block (a := ⟨N + 1, 6, none⟩) (hc.block (N + 1) (Nat.lt_of_lt_of_le HB7.out.2 HBT.out.size))).trans HJ6.out
                          go_wp2
                          refine ⟨_, ?_, Below.refl _ _, rfl⟩
                          simp [updV, hd]
                        case o2 =>
                          go_wp2
                          exact ⟨_, rfl, Below.refl _ _, rfl⟩
                        case o3 =>
                          go_wp2
                          exact ⟨_, rfl, Below.refl _ _, rfl⟩
                        case o4 =>
                          go_wp2
                          refine ⟨_, ?_, Below.refl _ _, rfl⟩
                          simp [updV, hd]
                        case o5 =>
                          go_wp2
                          refine ⟨_, ?_, Below.refl _ _, rfl⟩
                          simp [updV, hd]
                        case o6 =>
                          have hq2 : W.cell? ⟨g, i * 3 + 2, none⟩ = some (.slice p2 lx c2) := (World.cell?_of_block (a := ⟨g, i * 3 + 2, none⟩) (hc.block g (cell_lt HQ2.out))).trans HQ2.out
                          go_wp2
                          refine ⟨_, ?_, Below.refl _ _, rfl⟩
                          simp [updV, hd]
                        case o7 =>
                          go_wp2
                          refine ⟨.slice (some ⟨W.heap.size, 0, none⟩) 1 1, ?_, (Below.refl _ _).alloc (Nat.le_refl _) _, W.heap.size, rfl, hc.size, World.alloc_heap_new _ _⟩
                          simp [updV, hd]
                      case hend =>
                        intro v W hc hv
                        have e1 := hv 1 (by decide)
                        obtain ⟨B, e7, hB0, hBc⟩ := hv 7 (by decide)
                        have HCW := Lib.hid hc
                        have HBC := Lib.hid (one_cellJ2 hBc)
                        have HOW2 := Lib.hid (own_below HOW.out hc (Nat.le_refl _))
                        have hB2 : w7.heap.size ≤ W.heap.size := Nat.le_trans HBT.out.size hc.size
                        have HB0 := Lib.hid hB0
                        clear hc hv hBc hB0
                        simp only [SeqDoes]
                        intro Q1 hQ1
                        rw [if_pos (show Region.wanted _ _ = true from rfl)]
                        refine (wpList_append_own_at _ rfl (.tmp 164) (.tmp 170) 34 rfl w7.heap.size yssT i1 (.slice none 0 0) 1 24 Try.underlying34 hi1 hy0 hy1 hy2 rfl (by decide) _ _ _ e1 HOW2.out ⟨B, 0, none⟩ 1 1 [.slice p2 lx c2] e7 rfl HBC.out (by intro u hu; simp at hu; subst hu; rfl) (by unfold maxLen; omega) (by omega) (by omega) ?_)
                        intro v5 w5 hown5 hg5 _ hat5
                        have hbw5 : Below w7.heap.size wr w5 := below_grown2 HOW2.out hB2 (HCW.out.mono HBT.out.size) hg5
                        have hrd5 := HRDI.out.low hbw5 HB7.out.1 HB7.out.2
                        obtain ⟨rp5, rn5, rc5, rfl⟩ := ownsRow_form hown5
                        have hj6 := (cellsJ8 hrd5.row).2.2.2.2.2.2.1
                        have jf6 := (cellsJ8 hrd5.row).2.2.2.2.2.2.2.2 6
                        obtain ⟨w8, hw8⟩ : ∃ w8, w5.setCell ⟨N + 1, 6, none⟩ (.slice rp5 rn5 rc5) = w8 := ⟨_, rfl⟩
                        have hrd8 : RdAt w2 w8 (N + 1) (ag : Nat) (.slice sp sn sc) (.slice rp5 rn5 rc5) (en : Nat) := by
                          rw [← hw8]
                          exact ⟨hrd5.but.set (by simp) _, heap_setCell_same w5 (N + 1) 6 _ _ _ hrd5.row⟩
                        have hbt8 : But [N + 1] w7 w8 := by
                          rw [← hw8]
                          exact (⟨hbw5.os.trans HBT.out.os, hbw5.tape.trans HBT.out.tape, hbw5.output.trans HBT.out.output, Nat.le_trans HBT.out.size hbw5.size, fun k hk hn => (hbw5.block k hk).trans (HBT.out.block k hk hn)⟩ : But [N + 1] w7 w5).set (by simp) _
                        have hrc8 : RcD (NewV w) w7.heap.size w8 (.slice rp5 rn5 rc5) (bodK 4 (ks.take (i + 1))) := by
                          have h5 : RcD (NewV w) w7.heap.size w5 (.slice rp5 rn5 rc5) (bodK 4 (ks.take (i + 1))) := by
                            refine ⟨ys ++ [(bx, .slice p2 lx c2)], ?_, ?_, ?_⟩
                            · rw [take_snoc HX.out, if_pos rfl, List.map_append, HY1.out]; rfl
                            · rw [List.length_append, HNR.out, List.map_append]; exact hown5
                            · intro y hy
                              rcases List.mem_append.1 hy with hy | hy
                              · exact ⟨(HY3.out y hy).1.below hbw5, (HY3.out y hy).2⟩
                              · simp at hy
                                subst hy
                                exact ⟨(HSX.out.mono HB7.out.1).below hbw5, HSN.out⟩
                          rw [← hw8]
                          exact h5.but ((But.refl _ _).set (by simp) _) hrd5.row (jdC_no _ _ _ _ _ _ _ _ _ _ _ _ _ _ _ _) (Nat.le_trans HBT.out.size hbw5.size)
                        have HW8 := Lib.hid hw8
                        have HRD8 := Lib.hid hrd8
                        have HBT8 := Lib.hid hbt8
                        have HRC8 := Lib.hid hrc8
                        clear hown5 hg5 hat5 hbw5 hrd5 hw8 hrd8 hbt8 hrc8
                        go_wp2_with fail
                        intro Q2 hQ2
                        rw [if_pos (show Region.wanted _ _ = true from rfl)]
                        go_wp2_with fail
                        intro Q3 hQ3
                        rw [if_pos (show Region.wanted _ _ = true from rfl)]
                        go_upto_region 24 with fail
                        rw [HW8.out]
                        clear HW8 hj6 jf6
                        obtain ⟨g', p2', c2', eg, q0, _, q2, _⟩ := HF.out.get HRD8.out.but HX.out
                        cases eg
                        dsimp only at q0 q2
                        rw [HEN.out] at q0
                        rw [HLX.out] at q2
                        have jf7 := (cellsJ8 HRD8.out.row).2.2.2.2.2.2.2.2 7
                        have hj7 := (cellsJ8 HRD8.out.row).2.2.2.2.2.2.2.1
                        go_still_tail 13, (by kernel_rfl)
                        change wpList _ _ _ _ _ w8.drew
                        obtain ⟨u8, hu8⟩ : ∃ u8, w8.drew = u8 := ⟨_, rfl⟩
                        have hub : Below w8.heap.size w8 u8 := by rw [← hu8]; exact (Below.refl _ _).drew
                        rw [hu8]
                        have hrd9 := HRD8.out.below hub
                        have jf7' := (cellsJ8 hrd9.row).2.2.2.2.2.2.2.2 7
                        have hj7' := (cellsJ8 hrd9.row).2.2.2.2.2.2.2.1
                        have HRD9 := Lib.hid hrd9
                        have HUB := Lib.hid hub
                        clear hu8 hub hrd9 q0 q2 jf7 hj7
                        go_wp2_with fail
                        have hex : ((en : Int) + 7 + (lx : Int)) = ((en + 7 + lx : Nat) : Int) := by omega
                        have hrc9 : RcD (NewV w) w7.heap.size u8 (.slice rp5 rn5 rc5) (bodK 4 (ks.take (i + 1))) := by
                          obtain ⟨zs, z1, z2, z3⟩ := HRC8.out
                          exact ⟨zs, z1, own_below z2 HUB.out (Nat.le_refl _), fun y hy => ⟨(z3 y hy).1.below (HUB.out.mono HBT8.out.size), (z3 y hy).2⟩⟩
                        refine ⟨⟨i + 1, by omega, by omega, by omega, HSTPN.out, en + 7 + lx, rp5, rn5, rc5, ?_, ?_, ?_, ?_, ?_⟩, by show M - ((i : Int) + 1).toNat < M - ((i : Int)).toNat; omega⟩
                        · rw [hex]
                          exact ⟨HRD9.out.but.set (by simp) _, heap_setCell_same u8 (N + 1) 7 _ _ _ HRD9.out.row⟩
                        · rw [joinF_take HX.out, HEN.out]; show en + (bx.length + 7) = en + 7 + lx; rw [HLX.out]; omega
                        · exact (HBT8.out.trans' (But.of_below HUB.out)).set (by simp) _
                        · exact hrc9.but ((But.refl _ _).set (by simp) _) HRD9.out.row (jdC_no _ _ _ _ _ _ _ _ _ _ _ _ _ _ _ _) (Nat.le_trans HBT8.out.size HUB.out.size)
                        · rw [take_snoc HX.out, if_neg (show ¬ (4 = 2) by decide)]; exact HB2K.out
                    · have hend : takeK o0 ks = i ∧ endK o0 ks = ⟨ag, 0, true⟩ := by
                        by_cases hlt : i < M
                        · obtain ⟨x, hx⟩ : ∃ x, ks[i]? = some x := ⟨ks[i]'(by rw [HM.out]; exact hlt), List.getElem?_eq_getElem _⟩
                          obtain ⟨kx, bx⟩ := x
                          refine HRUN.out.stop hx (take_kind ?_)
                          rw [next_rec b3]
                          intro h4
                          dsimp only at h4
                          subst h4
                          exact hgo ⟨hlt, bx, hx⟩
                        · have hiM : i = ks.length := by rw [HM.out]; omega
                          have := HRUN.out
                          rw [hiM] at this
                          rw [hiM]
                          exact this.fin
                      have HKR := Lib.hid (HKS.out.run i ag hend.1 hend.2)
                      clear hend
                      go_upto_region 21 with fail
                      go_cut [160] from 149 to 159 (fun cv wx => cv = .bool false ∧ wx = wr)
                      case first =>
                        by_cases hlt : i < M
                        · obtain ⟨x, hx⟩ : ∃ x, ks[i]? = some x := ⟨ks[i]'(by rw [HM.out]; exact hlt), List.getElem?_eq_getElem _⟩
                          obtain ⟨g', p2, c2, eg, q0, q1, q2, hsx⟩ := HF.out.get HRDI.out.but hx
                          cases eg
                          obtain ⟨kx, bx⟩ := x
                          dsimp only at q1
                          have hk4 : kx ≠ 4 := fun h => hgo ⟨hlt, bx, by rw [← h]; exact hx⟩
                          have hk4i : ((kx : Int) == 4) = false := beq_eq_false_iff_ne.2 (by omega)
                          have hiM : (i : Int) < (M : Int) := by omega
                          have hi0 : (0 : Int) ≤ (i : Int) := by omega
                          clear hx hsx q0 q2 hk4 hgo
                          go_wp2_with fail
                          go_meet
                          exact ⟨rfl, rfl⟩
                        · have hiM : ¬ (i : Int) < (M : Int) := by omega
                          clear hgo
                          go_wp2_with fail
                          go_meet
                          exact ⟨rfl, rfl⟩
                      case rest =>
                        obtain ⟨rfl, hwc⟩ := hcut
                        rw [hwc]
                        clear hwc hgo
                        have hrd := HRDI.out
                        obtain ⟨j0, j1, j2, j3, j4, j5, j6, j7, jf⟩ := cellsJ8 hrd.row
                        have hnn := (hrd.but.block N (by have := HZ2.out; omega) (by simp)).trans HA2.out
                        obtain ⟨n0, n1, n2, n3, n4, n5, n6, n7, nf⟩ := cellsJ8 hnn
                        have f0 := nf 0
                        have f1 := nf 1
                        have f2 := nf 2
                        have f3 := nf 3
                        have f4 := nf 4
                        have f5 := nf 5
                        have f6 := nf 6
                        have f7 := nf 7
                        have HNB := Lib.hid hnn
                        have HBE := Lib.hid (rd_below HB2.out (by have := HZ2.out; omega) hrd.but)
                        clear hrd hnn nf jf
                        go_wp2
                        refine bodyPost_ret (jd_res2 _ 2 3 rfl _ _ N _ _ _ _ _ _ _ _ _ rfl rfl (heap_set8 HNB.out)) rfl ?_
                        have hbN := set8_but wr N (v0 := .slice none 0 0) (v1 := .slice none 0 0) (v2 := .int .i64 0) (v3 := .int .i64 0) (v4 := .int .u64 (ag : Nat)) (v5 := .slice sp sn sc) (v6 := .slice rp rn rc) (v7 := .int .i64 (en : Nat))
                        have hbl := set8_below (v0 := .slice none 0 0) (v1 := .slice none 0 0) (v2 := .int .i64 0) (v3 := .int .i64 0) (v4 := .int .u64 (ag : Nat)) (v5 := .slice sp sn sc) (v6 := .slice rp rn rc) (v7 := .int .i64 (en : Nat)) HBE.out (Nat.le_refl N)
                        obtain ⟨wE, hwE⟩ : ∃ wE, ((((((((wr.setCell ⟨N, 0, none⟩ (.slice none 0 0)).setCell ⟨N, 1, none⟩ (.slice none 0 0)).setCell ⟨N, 2, none⟩ (.int .i64 0)).setCell ⟨N, 3, none⟩ (.int .i64 0)).setCell ⟨N, 4, none⟩ (.int .u64 (ag : Nat))).setCell ⟨N, 5, none⟩ (.slice sp sn sc)).setCell ⟨N, 6, none⟩ (.slice rp rn rc)).setCell ⟨N, 7, none⟩ (.int .i64 (en : Nat))) = wE := ⟨_, rfl⟩
                        rw [hwE] at hbN hbl ⊢
                        have hkr := HKR.out
                        rw [HEN.out, HB2K.out] at hkr
                        have hsl := HSL7.out.but HBT.out (off_cells HSL7.out HRD7.out.row (jdC_no _ _ _ _ _ _ _ _ _ _ _ _ _ _ _ _))
                        have hcN := jdC_no none none none none 0 0 0 0 0 0 0 0 0 0 0 0
                        have hslE := hsl.but hbN (off_cells hsl HNB.out hcN)
                        have hrcE := HRC.out.but hbN HNB.out hcN HBT.out.size
                        rw [← hkr.2.1] at hslE
                        rw [← hkr.2.2] at hrcE
                        exact rdTo_good (by rw [HNN.out]; exact hbl) hkr.1 b3 hslE (fun X hX => ⟨newV_off HNW.out hX, fun g hg hm => by
                          obtain ⟨_, _, z2, _⟩ := hrcE
                          have h1 := (own_at z2 hg).1
                          have h2 := hX g hm
                          have h3 := HB7.out.1
                          have h4 := HZ2.out
                          have h5 := HNN.out
                          omega, by
                          obtain ⟨zs, z1, z2, z3⟩ := hrcE
                          exact ⟨_, zs, z1, z2, fun y hy => ⟨(z3 y hy).1.mono (Nat.le_trans HBT.out.size hbN.size), newV_off (z3 y hy).2 hX⟩⟩⟩)
    · have hk1i : ((k0 : Int) != 1) = true := by simp; omega
      have HKN : Hid (keptS l = (0, 0, 0)) := Lib.hid (HKS.out.not (by rw [((RunTo.start ks).stop HX0.out (take_other0 hk1)).2]))
      have hrd := HRD.out
      obtain ⟨j0, j1, j2, j3, j4, j5, j6, j7, jf⟩ := cellsJ8 hrd.row
      have hnn := (hrd.but.block N (by have := HZ2.out; omega) (by simp)).trans HA2.out
      obtain ⟨n0, n1, n2, n3, n4, n5, n6, n7, nf⟩ := cellsJ8 hnn
      have f0 := nf 0
      have f1 := nf 1
      have f2 := nf 2
      have f3 := nf 3
      have f4 := nf 4
      have f5 := nf 5
      have f6 := nf 6
      have f7 := nf 7
      have HNB := Lib.hid hnn
      have HBE := Lib.hid (rd_below HB2.out (by have := HZ2.out; omega) hrd.but)
      clear hrd hnn nf jf
      go_wp2
      refine bodyPost_ret (jd_res2 _ 2 3 rfl _ _ N _ _ _ _ _ _ _ _ _ rfl rfl (heap_set8 HNB.out)) rfl ?_
      exact rdTo_bad HKN.out (by rw [HNN.out]; exact set8_below HBE.out (Nat.le_refl _))
end Go.Proofs.Ytpllbojmonfeiaa
