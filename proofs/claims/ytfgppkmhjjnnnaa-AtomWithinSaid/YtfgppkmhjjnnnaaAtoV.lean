/- The document's Normal. -/
import Derived.Test.YtfgppkmhjjnnnaaAtoU
import Derived.Test.YtfgppkmhjjnnnaaAtoW
import Derived.Test.YtfgppkmhjjnnnaaAtoX
namespace Go.Proofs.Ytfgppkmhjjnnnaa
open Go.RowKit
set_option linter.unusedVariables false
attribute [local go_sem] Oper.semAt_some

set_option maxRecDepth 100000 in
set_option maxHeartbeats 16000000 in
theorem refNormal_any (a : Option Addr) (n c : Nat) (zs : List Ent) (hok : ∀ x ∈ zs, okS x.1) (hlen : zs.length ≤ 10000) (w : World) (hz : EnsP w.heap.size w (.slice a n c) zs) :
    Calls Try.prog 10 #[.slice a n c] w fun e w' => ∃ oa oc, e = .returned (.slice oa (refN zs zs.length).length oc) ∧ EnsP w'.heap.size w' (.slice oa (refN zs zs.length).length oc) (refN zs zs.length) ∧ Below w.heap.size w w' := by
  obtain ⟨i0, hi, hz0, hz1, hz2⟩ := info_parts infoTE
  have hn := hz.len
  have HZ := Lib.hid hz
  have HN := Lib.hid hn.symm
  have HOK := Lib.hid hok
  have hn0 : n ≤ 10000 := by omega
  rw [← hn]
  clear hz hn hok hlen
  go_enter Try.func10, Try.ntmps10
  go_wp2
  go_loopw [3, 4] (fun ov i wr => ∃ (m : Nat) (oa : Option Addr) (oc : Nat), ov = .slice oa (refN zs m).length oc ∧ i = .int .i64 m ∧ m ≤ n ∧ EnsP wr.heap.size wr (.slice oa (refN zs m).length oc) (refN zs m) ∧ Below w.heap.size w wr) (fun _ i _ => n - (intOf i).toNat)
  case atStart => exact ⟨0, _, _, rfl, rfl, Nat.zero_le _, .inl ⟨rfl, _, _, rfl⟩, (Below.refl _ _).alloc (Nat.le_refl _) _⟩
  case round =>
    obtain ⟨m, oa, oc, rfl, rfl, hm, hE, hB⟩ := hrel
    obtain ⟨wo, rfl⟩ : ∃ x, x = wr := ⟨wr, rfl⟩
    by_cases hlt : m < n
    · obtain ⟨⟨k, u⟩, hk⟩ : ∃ x, zs[m]? = some x := ⟨_, List.getElem?_eq_getElem (by rw [HN.out]; exact hlt)⟩
      obtain ⟨b, off, rfl, hb, f0, f1⟩ := HZ.out.at_ hk
      have hkok := HOK.out _ (List.mem_of_getElem? hk)
      have hnx := refN_next hk
      have d0 := (hB.cell (p := ⟨b, off + m * 2, none⟩) hb).trans f0
      have d1 := (hB.cell (p := ⟨b, off + m * 2 + 1, none⟩) hb).trans f1
      simp only at d0 d1 hkok
      have g1 : (0 : Int) ≤ m := by omega
      have g2 : (m : Int) < n := by omega
      obtain ⟨W1, hW1⟩ : ∃ W1, wo.alloc (.cells #[.int .u64 (k : Nat), .int .i64 u] 26) = W1 := ⟨_, rfl⟩
      have hb01 : Below wo.heap.size wo W1 := by rw [← hW1]; exact (Below.refl _ _).alloc (Nat.le_refl _) _
      have hnew : W1.heap[wo.heap.size]? = some (.cells #[.int .u64 (k : Nat), .int .i64 u] 26) := by rw [← hW1]; exact World.alloc_heap_new wo _
      have hBlt : wo.heap.size < W1.heap.size := by rw [← hW1]; simp
      have c0 : W1.cell? ⟨wo.heap.size, 0, none⟩ = some (.int .u64 (k : Nat)) := cell_of_row W1 _ 0 _ _ _ hnew
      have c1 : W1.cell? ⟨wo.heap.size, 1, none⟩ = some (.int .i64 u) := cell_of_row W1 _ 1 _ _ _ hnew
      have HRG := Lib.hid (refRight_any (k, u) W1 hkok)
      have HW1 := Lib.hid hW1
      have HE1 : Hid (EnsP W1.heap.size W1 (.slice oa (refN zs m).length oc) (refN zs m)) := Lib.hid ((hE.below hb01 (Nat.le_refl _)).mono hb01.size)
      have HB1 : Hid (Below w.heap.size w W1) := Lib.hid (hB.trans (hb01.mono hB.size))
      have HNEW := Lib.hid hnew
      have HNX := Lib.hid hnx
      have HK := Lib.hid hk
      have hol : (refN zs m).length ≤ 10000 := by have := refN_len (zs := zs) m; omega
      clear hE hB hW1 hnew hk f0 f1 hb01 hnx
      have hOLK : ∀ x ∈ refN zs m, okS x.1 := fun x hx => by
        obtain ⟨i, _, h2, _⟩ := (refN_mem m x).1 hx
        exact HOK.out x (List.mem_of_getElem? h2)
      obtain ⟨ol, hol2⟩ : ∃ ol, refN zs m = ol := ⟨_, rfl⟩
      rw [hol2] at HE1 HNX hol hOLK ⊢
      have HOLK := Lib.hid hOLK
      clear hol2 hOLK
      go_upto_region 6 with fail
      rw [HW1.out]
      go_wp2_with fail
      refine HRG.out.mono ?_
      rintro e W2 ⟨rfl, hW2⟩
      have hb12 : Below W1.heap.size W1 W2 := by rw [hW2]; exact (Below.refl _ _).alloc (Nat.le_refl _) _
      have HE2 : Hid (EnsP W2.heap.size W2 (.slice oa ol.length oc) ol) := Lib.hid ((HE1.out.below hb12 (Nat.le_refl _)).mono hb12.size)
      have HB2 : Hid (Below w.heap.size w W2) := Lib.hid (HB1.out.trans (hb12.mono HB1.out.size))
      have e0 := (hb12.cell (p := ⟨wo.heap.size, 0, none⟩) hBlt).trans c0
      have e1 := (hb12.cell (p := ⟨wo.heap.size, 1, none⟩) hBlt).trans c1
      have hBlt2 : wo.heap.size < W2.heap.size := Nat.lt_of_lt_of_le hBlt hb12.size
      have hk0 : rightA 1099511627776 (k, u) = keepB zs m (k, u) 0 := rfl
      rw [hk0]
      clear hW2 c0 c1 hb12 hBlt HE1 HB1 HRG d0 d1 hk0
      have H0 := Lib.hid e0
      have H1 := Lib.hid e1
      clear e0 e1
      go_wp2_with fail
      go_loopw [6, 7] (fun kp q wr2 => ∃ q' : Nat, kp = .bool (keepB zs m (k, u) q') ∧ q = .int .i64 q' ∧ q' ≤ n ∧ Below W2.heap.size W2 wr2) (fun _ q _ => n - (intOf q).toNat)
      case atStart => exact ⟨0, rfl, rfl, Nat.zero_le _, Below.refl _ _⟩
      case round =>
        obtain ⟨q', rfl, rfl, hq, hB3⟩ := hrel
        obtain ⟨wr2, rfl⟩ : ∃ x, x = wr := ⟨wr, rfl⟩
        have HKN := Lib.hid HK.out
        cases hkp : keepB zs m (k, u) q' with
        | false =>
          have hkn := keepB_false hkp zs.length (by rw [HN.out]; exact hq)
          have hnn : refN zs (m + 1) = ol := by rw [HNX.out, hkn]; rfl
          have HNN := Lib.hid hnn
          have HEE : Hid (EnsP wr2.heap.size wr2 (.slice oa ol.length oc) ol) := Lib.hid ((HE2.out.below hB3 (Nat.le_refl _)).mono hB3.size)
          have HBB : Hid (Below w.heap.size w wr2) := Lib.hid (HB2.out.trans (hB3.mono HB2.out.size))
          clear hkp hkn hnn hB3 HKN
          by_cases hql : q' < n
          · have g3 : (q' : Int) < n := by omega
            go_wp2
            go_roundw
            case rel => exact ⟨m + 1, oa, oc, by rw [HNN.out], by go_num, by omega, by rw [HNN.out]; exact HEE.out, HBB.out⟩
            case measure => simp [intOf]; omega
          · have g3 : ¬ (q' : Int) < n := by omega
            go_wp2
            go_roundw
            case rel => exact ⟨m + 1, oa, oc, by rw [HNN.out], by go_num, by omega, by rw [HNN.out]; exact HEE.out, HBB.out⟩
            case measure => simp [intOf]; omega
        | true =>
          by_cases hql : q' < n
          · obtain ⟨⟨k', u'⟩, hk'⟩ : ∃ x, zs[q']? = some x := ⟨_, List.getElem?_eq_getElem (by rw [HN.out]; exact hql)⟩
            obtain ⟨b', off', hadr, hb', f0', f1'⟩ := HZ.out.at_ hk'
            cases hadr
            have hkok' := HOK.out _ (List.mem_of_getElem? hk')
            have hBw2 : Below w.heap.size w wr2 := HB2.out.trans (hB3.mono HB2.out.size)
            have d0' := (hBw2.cell (p := ⟨b, off + q' * 2, none⟩) hb').trans f0'
            have d1' := (hBw2.cell (p := ⟨b, off + q' * 2 + 1, none⟩) hb').trans f1'
            simp only at d0' d1' hkok'
            have g3 : (0 : Int) ≤ q' := by omega
            have g4 : (q' : Int) < n := by omega
            have y0 := (hB3.cell (p := ⟨wo.heap.size, 0, none⟩) hBlt2).trans H0.out
            have y1 := (hB3.cell (p := ⟨wo.heap.size, 1, none⟩) hBlt2).trans H1.out
            have hBlt3 : wo.heap.size < wr2.heap.size := Nat.lt_of_lt_of_le hBlt2 hB3.size
            obtain ⟨W4, hW4⟩ : ∃ W4, wr2.alloc (.cells #[.int .u64 (k' : Nat), .int .i64 u'] 26) = W4 := ⟨_, rfl⟩
            have hb34 : Below wr2.heap.size wr2 W4 := by rw [← hW4]; exact (Below.refl _ _).alloc (Nat.le_refl _) _
            have hnew4 : W4.heap[wr2.heap.size]? = some (.cells #[.int .u64 (k' : Nat), .int .i64 u'] 26) := by rw [← hW4]; exact World.alloc_heap_new wr2 _
            have hClt : wr2.heap.size < W4.heap.size := by rw [← hW4]; simp
            have hBlt4 : wo.heap.size < W4.heap.size := by omega
            have c0' : W4.cell? ⟨wr2.heap.size, 0, none⟩ = some (.int .u64 (k' : Nat)) := cell_of_row W4 _ 0 _ _ _ hnew4
            have c1' : W4.cell? ⟨wr2.heap.size, 1, none⟩ = some (.int .i64 u') := cell_of_row W4 _ 1 _ _ _ hnew4
            have a0' := (hb34.cell (p := ⟨wo.heap.size, 0, none⟩) hBlt3).trans y0
            have a1' := (hb34.cell (p := ⟨wo.heap.size, 1, none⟩) hBlt3).trans y1
            have HB4 : Hid (Below W2.heap.size W2 W4) := Lib.hid (hB3.trans (hb34.mono hB3.size))
            have HR3 := Lib.hid (refRight_any (k', u') W4 hkok')
            have HWI := Lib.hid (fun W => refWithin_any k' k W hkok' hkok)
            have HW4 := Lib.hid hW4
            have C0 := Lib.hid c0'
            have C1 := Lib.hid c1'
            have A0 := Lib.hid a0'
            have A1 := Lib.hid a1'
            have HKQ := Lib.hid hk'
            have HKP := Lib.hid hkp
            clear hBw2 f0' f1' hk' y0 y1 hW4 hb34 hnew4 c0' c1' a0' a1' hkp hB3 HNX HKN
            by_cases hqm : q' = m
            · subst hqm
              have g5 : ((q' : Int) == (q' : Int)) = true := by simp
              go_upto_region 11 with fail
              rw [HW4.out]
              go_wp2
              go_roundw
              case rel => exact ⟨q' + 1, by rw [keepB_next HKQ.out, HKP.out]; simp [fairB], by go_num, by omega, HB4.out⟩
              case measure => simp [intOf]; omega
            · have g5 : ((q' : Int) == (m : Int)) = false := by rw [beq_eq_false_iff_ne]; omega
              have h5 : decide (q' = m) = false := decide_eq_false hqm
              have c0' := C0.out
              have c1' := C1.out
              go_upto_region 11 with fail
              rw [HW4.out]
              cases hra : rightA 1099511627776 (k', u') with
              | false =>
                rw [hra] at HR3
                have HRA := Lib.hid hra
                clear hra
                go_wp2_with fail
                refine HR3.out.mono ?_
                rintro e W5 ⟨rfl, hW5⟩
                have hb45 : Below W4.heap.size W4 W5 := by rw [hW5]; exact (Below.refl _ _).alloc (Nat.le_refl _) _
                have HBW : Hid (Below W2.heap.size W2 W5) := Lib.hid (HB4.out.trans (hb45.mono HB4.out.size))
                have x0 := (hb45.cell (p := ⟨wr2.heap.size, 0, none⟩) hClt).trans C0.out
                have x1 := (hb45.cell (p := ⟨wr2.heap.size, 1, none⟩) hClt).trans C1.out
                have x2 := (hb45.cell (p := ⟨wo.heap.size, 0, none⟩) hBlt4).trans A0.out
                have x3 := (hb45.cell (p := ⟨wo.heap.size, 1, none⟩) hBlt4).trans A1.out
                clear hW5 hb45
                go_wp2
                go_roundw
                case rel => exact ⟨q' + 1, by rw [keepB_next HKQ.out, HKP.out]; simp [fairB, HRA.out], by go_num, by omega, HBW.out⟩
                case measure => simp [intOf]; omega
              | true =>
                rw [hra] at HR3
                have HRA := Lib.hid hra
                clear hra
                cases hwi : withinB k' k with
                | false =>
                  rw [hwi] at HWI
                  have HWB := Lib.hid hwi
                  clear hwi
                  go_wp2_with fail
                  refine HR3.out.mono ?_
                  rintro e W5 ⟨rfl, hW5⟩
                  have hb45 : Below W4.heap.size W4 W5 := by rw [hW5]; exact (Below.refl _ _).alloc (Nat.le_refl _) _
                  have HBW : Hid (Below W2.heap.size W2 W5) := Lib.hid (HB4.out.trans (hb45.mono HB4.out.size))
                  have x0 := (hb45.cell (p := ⟨wr2.heap.size, 0, none⟩) hClt).trans C0.out
                  have x1 := (hb45.cell (p := ⟨wr2.heap.size, 1, none⟩) hClt).trans C1.out
                  have x2 := (hb45.cell (p := ⟨wo.heap.size, 0, none⟩) hBlt4).trans A0.out
                  have x3 := (hb45.cell (p := ⟨wo.heap.size, 1, none⟩) hBlt4).trans A1.out
                  clear hW5 hb45
                  go_wp2_with fail
                  refine (HWI.out _).mono ?_
                  rintro e W6 ⟨rfl, hx⟩
                  obtain rfl := hx
                  go_wp2
                  go_roundw
                  case rel => exact ⟨q' + 1, by rw [keepB_next HKQ.out, HKP.out]; simp [fairB, HWB.out], by go_num, by omega, HBW.out⟩
                  case measure => simp [intOf]; omega
                | true =>
                  rw [hwi] at HWI
                  have HWB := Lib.hid hwi
                  clear hwi
                  by_cases hlu : u' < u
                  · have g6 : decide (u' < u) = true := decide_eq_true hlu
                    go_wp2_with fail
                    refine HR3.out.mono ?_
                    rintro e W5 ⟨rfl, hW5⟩
                    have hb45 : Below W4.heap.size W4 W5 := by rw [hW5]; exact (Below.refl _ _).alloc (Nat.le_refl _) _
                    have HBW : Hid (Below W2.heap.size W2 W5) := Lib.hid (HB4.out.trans (hb45.mono HB4.out.size))
                    have x0 := (hb45.cell (p := ⟨wr2.heap.size, 0, none⟩) hClt).trans C0.out
                    have x1 := (hb45.cell (p := ⟨wr2.heap.size, 1, none⟩) hClt).trans C1.out
                    have x2 := (hb45.cell (p := ⟨wo.heap.size, 0, none⟩) hBlt4).trans A0.out
                    have x3 := (hb45.cell (p := ⟨wo.heap.size, 1, none⟩) hBlt4).trans A1.out
                    clear hW5 hb45
                    go_wp2_with fail
                    refine (HWI.out _).mono ?_
                    rintro e W6 ⟨rfl, hx⟩
                    obtain rfl := hx
                    go_wp2
                    go_roundw
                    case rel => exact ⟨q' + 1, by rw [keepB_next HKQ.out, HKP.out]; simp [fairB, hlu], by go_num, by omega, HBW.out⟩
                    case measure => simp [intOf]; omega
                  · have g6 : decide (u' < u) = false := decide_eq_false hlu
                    by_cases hkk : k' = k
                    · subst hkk
                      have g7 : ((k' : Int) == (k' : Int)) = true := by simp
                      by_cases huu : u' = u
                      · subst huu
                        have g8 : (u' == u') = true := by simp
                        by_cases hmq : m < q'
                        · have g9 : (m : Int) < q' := by omega
                          have g10 : decide ((m : Int) < q') = true := decide_eq_true g9
                          go_wp2_with fail
                          refine HR3.out.mono ?_
                          rintro e W5 ⟨rfl, hW5⟩
                          have hb45 : Below W4.heap.size W4 W5 := by rw [hW5]; exact (Below.refl _ _).alloc (Nat.le_refl _) _
                          have HBW : Hid (Below W2.heap.size W2 W5) := Lib.hid (HB4.out.trans (hb45.mono HB4.out.size))
                          have x0 := (hb45.cell (p := ⟨wr2.heap.size, 0, none⟩) hClt).trans C0.out
                          have x1 := (hb45.cell (p := ⟨wr2.heap.size, 1, none⟩) hClt).trans C1.out
                          have x2 := (hb45.cell (p := ⟨wo.heap.size, 0, none⟩) hBlt4).trans A0.out
                          have x3 := (hb45.cell (p := ⟨wo.heap.size, 1, none⟩) hBlt4).trans A1.out
                          clear hW5 hb45
                          go_wp2_with fail
                          refine (HWI.out _).mono ?_
                          rintro e W6 ⟨rfl, hx⟩
                          obtain rfl := hx
                          go_wp2
                          go_roundw
                          case rel => exact ⟨q' + 1, by rw [keepB_next HKQ.out, HKP.out]; simp [fairB, hmq], by go_num, by omega, HBW.out⟩
                          case measure => simp [intOf]; omega
                        · have g9 : ¬ (m : Int) < q' := by omega
                          have g10 : decide ((m : Int) < q') = false := decide_eq_false g9
                          go_wp2_with fail
                          refine HR3.out.mono ?_
                          rintro e W5 ⟨rfl, hW5⟩
                          have hb45 : Below W4.heap.size W4 W5 := by rw [hW5]; exact (Below.refl _ _).alloc (Nat.le_refl _) _
                          have HBW : Hid (Below W2.heap.size W2 W5) := Lib.hid (HB4.out.trans (hb45.mono HB4.out.size))
                          have x0 := (hb45.cell (p := ⟨wr2.heap.size, 0, none⟩) hClt).trans C0.out
                          have x1 := (hb45.cell (p := ⟨wr2.heap.size, 1, none⟩) hClt).trans C1.out
                          have x2 := (hb45.cell (p := ⟨wo.heap.size, 0, none⟩) hBlt4).trans A0.out
                          have x3 := (hb45.cell (p := ⟨wo.heap.size, 1, none⟩) hBlt4).trans A1.out
                          clear hW5 hb45
                          go_wp2_with fail
                          refine (HWI.out _).mono ?_
                          rintro e W6 ⟨rfl, hx⟩
                          obtain rfl := hx
                          go_wp2
                          go_roundw
                          case rel => exact ⟨q' + 1, by rw [keepB_next HKQ.out, HKP.out]; simp [fairB, HRA.out, HWB.out, h5, hmq], by go_num, by omega, HBW.out⟩
                          case measure => simp [intOf]; omega
                      · have g8 : (u' == u) = false := by rw [beq_eq_false_iff_ne]; exact huu
                        go_wp2_with fail
                        refine HR3.out.mono ?_
                        rintro e W5 ⟨rfl, hW5⟩
                        have hb45 : Below W4.heap.size W4 W5 := by rw [hW5]; exact (Below.refl _ _).alloc (Nat.le_refl _) _
                        have HBW : Hid (Below W2.heap.size W2 W5) := Lib.hid (HB4.out.trans (hb45.mono HB4.out.size))
                        have x0 := (hb45.cell (p := ⟨wr2.heap.size, 0, none⟩) hClt).trans C0.out
                        have x1 := (hb45.cell (p := ⟨wr2.heap.size, 1, none⟩) hClt).trans C1.out
                        have x2 := (hb45.cell (p := ⟨wo.heap.size, 0, none⟩) hBlt4).trans A0.out
                        have x3 := (hb45.cell (p := ⟨wo.heap.size, 1, none⟩) hBlt4).trans A1.out
                        clear hW5 hb45
                        go_wp2_with fail
                        refine (HWI.out _).mono ?_
                        rintro e W6 ⟨rfl, hx⟩
                        obtain rfl := hx
                        go_wp2
                        go_roundw
                        case rel => exact ⟨q' + 1, by rw [keepB_next HKQ.out, HKP.out]; simp [fairB, HRA.out, HWB.out, h5, hlu, huu], by go_num, by omega, HBW.out⟩
                        case measure => simp [intOf]; omega
                    · have g7 : ((k' : Int) == (k : Int)) = false := by rw [beq_eq_false_iff_ne]; omega
                      go_wp2_with fail
                      refine HR3.out.mono ?_
                      rintro e W5 ⟨rfl, hW5⟩
                      have hb45 : Below W4.heap.size W4 W5 := by rw [hW5]; exact (Below.refl _ _).alloc (Nat.le_refl _) _
                      have HBW : Hid (Below W2.heap.size W2 W5) := Lib.hid (HB4.out.trans (hb45.mono HB4.out.size))
                      have x0 := (hb45.cell (p := ⟨wr2.heap.size, 0, none⟩) hClt).trans C0.out
                      have x1 := (hb45.cell (p := ⟨wr2.heap.size, 1, none⟩) hClt).trans C1.out
                      have x2 := (hb45.cell (p := ⟨wo.heap.size, 0, none⟩) hBlt4).trans A0.out
                      have x3 := (hb45.cell (p := ⟨wo.heap.size, 1, none⟩) hBlt4).trans A1.out
                      clear hW5 hb45
                      go_wp2_with fail
                      refine (HWI.out _).mono ?_
                      rintro e W6 ⟨rfl, hx⟩
                      obtain rfl := hx
                      go_wp2
                      go_roundw
                      case rel => exact ⟨q' + 1, by rw [keepB_next HKQ.out, HKP.out]; simp [fairB, HRA.out, HWB.out, h5, hlu, hkk], by go_num, by omega, HBW.out⟩
                      case measure => simp [intOf]; omega
          · obtain rfl : q' = n := by omega
            have hnn : refN zs (m + 1) = insE ltS (k, u) ol := by rw [HNX.out, if_pos (by rw [HN.out]; exact hkp)]
            have HNN := Lib.hid hnn
            have hBw2 : Below w.heap.size w wr2 := HB2.out.trans (hB3.mono HB2.out.size)
            have HBW2 := Lib.hid hBw2
            have HE3 : Hid (EnsP wr2.heap.size wr2 (.slice oa ol.length oc) ol) := Lib.hid ((HE2.out.below hB3 (Nat.le_refl _)).mono hB3.size)
            have y0 := (hB3.cell (p := ⟨wo.heap.size, 0, none⟩) hBlt2).trans H0.out
            have y1 := (hB3.cell (p := ⟨wo.heap.size, 1, none⟩) hBlt2).trans H1.out
            have hBlt3 : wo.heap.size < wr2.heap.size := Nat.lt_of_lt_of_le hBlt2 hB3.size
            have HOKL : Hid (∀ x ∈ ol, okS x.1) := HOLK
            have Y0 := Lib.hid y0
            have Y1 := Lib.hid y1
            have g3 : ¬ (q' : Int) < q' := by omega
            clear hkp hnn hBw2 hB3 y0 y1 HKN HNX HE2 H0 H1
            obtain ⟨L, hL⟩ : ∃ L, ol.length = L := ⟨_, rfl⟩
            have HL := Lib.hid hL
            rw [hL] at HE3 hol ⊢
            clear hL
            go_wp2
            go_loopw [9, 10, 11] (fun v d i wr3 => ∃ (q : Nat) (al : List Ent) (dn : Bool), d = .bool dn ∧ i = .int .i64 q ∧ q ≤ L ∧ RowE wr2 v al wr3 ∧ al ++ (if dn = true then ol.drop q else insE ltS (k, u) (ol.drop q)) = insE ltS (k, u) ol) (fun _ _ i _ => L - (intOf i).toNat)
            case atStart => exact ⟨0, [], false, rfl, rfl, Nat.zero_le _, RowE.start wr2, rfl⟩
            case round =>
              obtain ⟨q, al, dn, rfl, rfl, hqL, hR, hal⟩ := hrel
              obtain ⟨wr3, rfl⟩ : ∃ x, x = wr := ⟨wr, rfl⟩
              have hall : al.length ≤ 10001 := by
                have h1 := congrArg List.length hal
                rw [List.length_append, insE_len, HL.out] at h1
                omega
              by_cases hlt3 : q < L
              · obtain ⟨⟨y, z⟩, hy⟩ : ∃ x, ol[q]? = some x := ⟨_, List.getElem?_eq_getElem (by rw [HL.out]; exact hlt3)⟩
                obtain ⟨b', off', rfl, hb', f0', f1'⟩ := HE3.out.at_ hy
                have hyok := HOKL.out _ (List.mem_of_getElem? hy)
                have d0' := (hR.bel.cell (p := ⟨b', off' + q * 2, none⟩) hb').trans f0'
                have d1' := (hR.bel.cell (p := ⟨b', off' + q * 2 + 1, none⟩) hb').trans f1'
                rw [drop_consE hy] at hal
                simp only at d0' d1' hyok f0' f1'
                have g4 : (0 : Int) ≤ q := by omega
                have g5 : (q : Int) < L := by omega
                have z0 := (hR.bel.cell (p := ⟨wo.heap.size, 0, none⟩) hBlt3).trans Y0.out
                have z1 := (hR.bel.cell (p := ⟨wo.heap.size, 1, none⟩) hBlt3).trans Y1.out
                have hlt5 : b' < wr3.heap.size := Nat.lt_of_lt_of_le hb' hR.bel.size
                have hlt6 : wo.heap.size < wr3.heap.size := Nat.lt_of_lt_of_le hBlt3 hR.bel.size
                have p0 := BelW.cell (w := wr3) (a := ⟨wo.heap.size, 0, none⟩) hlt6 z0
                have p1 := BelW.cell (w := wr3) (a := ⟨b', off' + q * 2, none⟩) hlt5 d0'
                have HC : Hid (∀ p : BelW wr3, Calls Try.prog 24 #[.int .u64 (k : Nat), .int .u64 (y : Nat)] p.W fun e w' => e = .returned (.int .i64 (cmpS k y)) ∧ Below p.W.heap.size p.W w') := Lib.hid (fun p => refCmp_any k y p.W hkok hyok)
                have hRR : ∀ W3, Below wr3.heap.size wr3 W3 → RowE wr2 u9 al W3 ∧ W3.cell? ⟨wo.heap.size, 0, none⟩ = some (.int .u64 (k : Nat)) ∧ W3.cell? ⟨wo.heap.size, 1, none⟩ = some (.int .i64 u) ∧ W3.cell? ⟨b', off' + q * 2, none⟩ = some (.int .u64 (y : Nat)) ∧ W3.cell? ⟨b', off' + q * 2 + 1, none⟩ = some (.int .i64 z) := fun W3 hb3 =>
                  ⟨hR.below hb3, (hb3.cell (p := ⟨wo.heap.size, 0, none⟩) hlt6).trans z0, (hb3.cell (p := ⟨wo.heap.size, 1, none⟩) hlt6).trans z1, (hb3.cell (p := ⟨b', off' + q * 2, none⟩) hlt5).trans d0', (hb3.cell (p := ⟨b', off' + q * 2 + 1, none⟩) hlt5).trans d1'⟩
                have HRR := Lib.hid hRR
                have F0 := Lib.hid f0'
                have F1 := Lib.hid f1'
                clear hRR hR hy f0' f1' z0 z1 d0' d1'
                cases dn with
                | true =>
                  rw [if_pos rfl] at hal
                  have HO : Hid ((al ++ [(y, z)]) ++ (if true = true then ol.drop (q + 1) else insE ltS (k, u) (ol.drop (q + 1))) = insE ltS (k, u) ol) := Lib.hid (by rw [if_pos rfl, List.append_assoc]; exact hal)
                  clear hal
                  have hr0 := HRR.out (wr3.drewN 0) (below_dr wr3 0)
                  have HRQ := Lib.hid (fun nq => HRR.out (wr3.drewN nq) (below_dr wr3 nq))
                  clear hr0 p0 p1 HC HRR
                  go_upto_region 19 with fail
                  go_quiet (fail)
                  obtain ⟨hr3, k0, k1, k2, k3⟩ := HRQ.out nq
                  have HR3 := Lib.hid hr3
                  obtain ⟨W3, hW3⟩ : ∃ W3, wr3.drewN nq = W3 := ⟨_, rfl⟩
                  rw [hW3] at HR3 k0 k1 k2 k3 ⊢
                  clear hW3 hr3 HRQ
                  go_wp2_with (at_builtin; refine wpList_append_own_at _ rfl _ _ 22 rfl wr2.heap.size 26 i0 (.agg #[.int .u64 0, .int .i64 0]) 2 16 Try.underlying22 hi hz0 hz1 hz2 rfl (by decide) _ _ _ rfl (HR3.out.row.alloc _) ⟨W3.heap.size, 0, none⟩ 1 1 [.int .u64 (y : Nat), .int .i64 z] rfl rfl (World.news_of_block (World.alloc_heap_new W3 _)) (by simp [Value.oneCell']) (by unfold maxLen; omega) (by have := HR3.out.bel.size; omega) (by have := HR3.out.bel.size; simp; omega) ?_; intro v' A hown' hgrow _ _; have HA := Lib.hid (HR3.out.app y z _ hown' hgrow); clear hown' hgrow)
                  go_roundw
                  case rel => exact ⟨q + 1, al ++ [(y, z)], true, rfl, by go_num, by omega, HA.out, HO.out⟩
                  case measure => simp [intOf]; omega
                | false =>
                  rw [if_neg (by decide), insE] at hal
                  obtain ⟨cv, hcv⟩ : ∃ cv, cmpS k y = cv := ⟨_, rfl⟩
                  have hlts : ltS k y = decide (cv < 0) := by unfold ltS; rw [hcv]
                  rw [hcv] at HC
                  simp only [hlts] at hal
                  by_cases hlc : cv < 0
                  · have g6 : decide (cv < 0) = true := decide_eq_true hlc
                    rw [g6, if_pos rfl] at hal
                    have HO : Hid ((al ++ [(k, u)] ++ [(y, z)]) ++ (if true = true then ol.drop (q + 1) else insE ltS (k, u) (ol.drop (q + 1))) = insE ltS (k, u) ol) := Lib.hid (by rw [if_pos rfl, List.append_assoc, List.append_assoc]; exact hal)
                    have hall2 : (al ++ [(k, u)]).length ≤ 10002 := by simp; omega
                    clear hal hcv hlts
                    go_upto_region 19 with fail
                    refine wp_region_bel (by kernel_rfl) (by kernel_rfl) ?_
                    repeat (quiet_step ((go_at_call 24; exact Calls.bel_of (HC.out _))))
                    refine wpQuiet_nil ?_
                    intro W3 hw'
                    have hb3 : Below wr3.heap.size wr3 W3 := by
                      obtain ⟨p, hp⟩ := hw'
                      rw [hp]
                      exact p.h
                    obtain ⟨hr3, k0, k1, k2, k3⟩ := HRR.out W3 hb3
                    have HR3 := Lib.hid hr3
                    have HX : Hid (∀ A, RowE wr2 u9 al W3 → ∀ v', RowE wr2 v' (al ++ [(k, u)]) A → A.cell? ⟨b', off' + q * 2, none⟩ = some (.int .u64 (y : Nat)) ∧ A.cell? ⟨b', off' + q * 2 + 1, none⟩ = some (.int .i64 z)) := Lib.hid (fun A _ v' h => by
                      exact ⟨(h.bel.cell (p := ⟨b', off' + q * 2, none⟩) hb').trans F0.out, (h.bel.cell (p := ⟨b', off' + q * 2 + 1, none⟩) hb').trans F1.out⟩)
                    clear hw' hb3 hr3 p0 p1 HC HRR
                    go_wp2_with (first | (at_builtin; refine wpList_append_own_at _ rfl _ _ 22 rfl wr2.heap.size 26 i0 (.agg #[.int .u64 0, .int .i64 0]) 2 16 Try.underlying22 hi hz0 hz1 hz2 rfl (by decide) _ _ _ rfl (HR3.out.row.alloc _) ⟨W3.heap.size, 0, none⟩ 1 1 [.int .u64 (k : Nat), .int .i64 u] rfl rfl (World.news_of_block (World.alloc_heap_new W3 _)) (by simp [Value.oneCell']) (by unfold maxLen; omega) (by have := HR3.out.bel.size; omega) (by have := HR3.out.bel.size; simp; omega) ?_; intro v' A hown' hgrow _ _; have HA := Lib.hid (HR3.out.app k u _ hown' hgrow); clear hown' hgrow; obtain ⟨t0, t1⟩ := HX.out A HR3.out v' HA.out) | (at_builtin; refine wpList_append_own_at _ rfl _ _ 22 rfl wr2.heap.size 26 i0 (.agg #[.int .u64 0, .int .i64 0]) 2 16 Try.underlying22 hi hz0 hz1 hz2 rfl (by decide) _ _ _ rfl (HA.out.row.alloc _) ⟨A.heap.size, 0, none⟩ 1 1 [.int .u64 (y : Nat), .int .i64 z] rfl rfl (World.news_of_block (World.alloc_heap_new A _)) (by simp [Value.oneCell']) (by unfold maxLen; omega) (by have := HA.out.bel.size; omega) (by have := HA.out.bel.size; simp; omega) ?_; intro v' A2 hown' hgrow _ _; have HA2 := Lib.hid (HA.out.app y z _ hown' hgrow); clear hown' hgrow))
                    go_roundw
                    case rel => exact ⟨q + 1, al ++ [(k, u)] ++ [(y, z)], true, rfl, by go_num, by omega, HA2.out, HO.out⟩
                    case measure => simp [intOf]; omega
                  · have g6 : decide (cv < 0) = false := decide_eq_false hlc
                    rw [g6, if_neg (by decide)] at hal
                    have HO : Hid ((al ++ [(y, z)]) ++ (if false = true then ol.drop (q + 1) else insE ltS (k, u) (ol.drop (q + 1))) = insE ltS (k, u) ol) := Lib.hid (by rw [if_neg (by decide), List.append_assoc]; exact hal)
                    clear hal hcv hlts
                    go_upto_region 19 with fail
                    refine wp_region_bel (by kernel_rfl) (by kernel_rfl) ?_
                    repeat (quiet_step ((go_at_call 24; exact Calls.bel_of (HC.out _))))
                    refine wpQuiet_nil ?_
                    intro W3 hw'
                    have hb3 : Below wr3.heap.size wr3 W3 := by
                      obtain ⟨p, hp⟩ := hw'
                      rw [hp]
                      exact p.h
                    obtain ⟨hr3, k0, k1, k2, k3⟩ := HRR.out W3 hb3
                    have HR3 := Lib.hid hr3
                    clear hw' hb3 hr3 p0 p1 HC HRR
                    go_wp2_with (at_builtin; refine wpList_append_own_at _ rfl _ _ 22 rfl wr2.heap.size 26 i0 (.agg #[.int .u64 0, .int .i64 0]) 2 16 Try.underlying22 hi hz0 hz1 hz2 rfl (by decide) _ _ _ rfl (HR3.out.row.alloc _) ⟨W3.heap.size, 0, none⟩ 1 1 [.int .u64 (y : Nat), .int .i64 z] rfl rfl (World.news_of_block (World.alloc_heap_new W3 _)) (by simp [Value.oneCell']) (by unfold maxLen; omega) (by have := HR3.out.bel.size; omega) (by have := HR3.out.bel.size; simp; omega) ?_; intro v' A hown' hgrow _ _; have HA := Lib.hid (HR3.out.app y z _ hown' hgrow); clear hown' hgrow)
                    go_roundw
                    case rel => exact ⟨q + 1, al ++ [(y, z)], false, rfl, by go_num, by omega, HA.out, HO.out⟩
                    case measure => simp [intOf]; omega
              · obtain rfl : q = L := by omega
                have hdr : ol.drop q = [] := List.drop_of_length_le (by rw [HL.out]; exact Nat.le_refl _)
                rw [hdr] at hal
                have z0 := (hR.bel.cell (p := ⟨wo.heap.size, 0, none⟩) hBlt3).trans Y0.out
                have z1 := (hR.bel.cell (p := ⟨wo.heap.size, 1, none⟩) hBlt3).trans Y1.out
                have HR := Lib.hid hR
                have g5 : ¬ (q : Int) < q := by omega
                cases dn with
                | true =>
                  rw [if_pos rfl, List.append_nil] at hal
                  have HO := Lib.hid (HNN.out.trans hal.symm)
                  clear hal hR hdr
                  go_wp2
                  go_roundw
                  case rel =>
                    obtain ⟨oa', oc', rfl⟩ := own_form HR.out.row
                    exact ⟨m + 1, oa', oc', by rw [HO.out], by go_num, by omega, by rw [HO.out]; exact EnsP.of_owns HR.out.row, HBW2.out.trans (HR.out.bel.mono HBW2.out.size)⟩
                  case measure => simp [intOf]; omega
                | false =>
                  rw [if_neg (by decide), insE] at hal
                  have HO := Lib.hid (HNN.out.trans hal.symm)
                  clear hal hR hdr
                  go_wp2_with (at_builtin; refine wpList_append_own_at _ rfl _ _ 22 rfl wr2.heap.size 26 i0 (.agg #[.int .u64 0, .int .i64 0]) 2 16 Try.underlying22 hi hz0 hz1 hz2 rfl (by decide) _ _ _ rfl (HR.out.row.alloc _) ⟨wr3.heap.size, 0, none⟩ 1 1 [.int .u64 (k : Nat), .int .i64 u] rfl rfl (World.news_of_block (World.alloc_heap_new wr3 _)) (by simp [Value.oneCell']) (by unfold maxLen; omega) (by have := HR.out.bel.size; omega) (by have := HR.out.bel.size; simp; omega) ?_; intro v' A hown' hgrow _ _; have HA := Lib.hid (HR.out.app k u _ hown' hgrow); clear hown' hgrow)
                  go_roundw
                  case rel =>
                    obtain ⟨oa', oc', rfl⟩ := own_form HA.out.row
                    exact ⟨m + 1, oa', oc', by rw [HO.out], by go_num, by omega, by rw [HO.out]; exact EnsP.of_owns HA.out.row, HBW2.out.trans (HA.out.bel.mono HBW2.out.size)⟩
                  case measure => simp [intOf]; omega
    · obtain rfl : m = n := by omega
      have HE := Lib.hid hE
      have HB := Lib.hid hB
      have g3 : ¬ (m : Int) < m := by omega
      clear hE hB
      go_wp2
      go_ret
      exact ⟨oa, oc, rfl, HE.out, HB.out⟩
end Go.Proofs.Ytfgppkmhjjnnnaa
