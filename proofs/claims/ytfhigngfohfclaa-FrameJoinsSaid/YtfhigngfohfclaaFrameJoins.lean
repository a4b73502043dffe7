/- For whatever frames and cut law FrameJoins answers true: frames one behind the other, and a beginning of another one, are scanned as they are. No condition. -/
import Derived.Test.YtfhigngfohfclaaFrameJ
namespace Go.Proofs.Ytfhigngfohfclaa.frameJoins
open Go.ChangeShapes Go.WideShapes Go.ChangeAt Go.RowKit Go.Proofs.Ytfhigngfohfclaa Go.Proofs.Ytfhigngfohfclaa.SumM
set_option linter.unusedVariables false
open Go.Shelf
attribute [local go_sem] Oper.semAt_some

set_option maxRecDepth 100000 in
set_option maxHeartbeats 2000000 in
theorem walk (w : World) (p0 : Option Addr) (n0 c0 : Nat) (l0 : List (Int × List Nat)) (S0 : Frs w.heap.size w (.slice p0 n0 c0) l0) (b0 : ∀ x ∈ l0, ∀ y ∈ x.2, y < 256) (a1 : Int) (w1 : (Lit.int .i64 a1).wf = true) :
    Calls Try.prog 13 #[.slice p0 n0 c0, .int .i64 a1] w fun e w' => e = .returned (.bool true) ∧ Below w.heap.size w w' := by
  obtain rfl := S0.len
  have HS := Lib.hid S0
  have H0 := Lib.hid b0
  clear S0 b0 w1
  obtain ⟨n, hn⟩ : ∃ n, l0.length = n := ⟨_, rfl⟩
  have HN := Lib.hid hn
  rw [hn] at HS ⊢
  clear hn
  have hz := zframe
  obtain ⟨i1, hi1, hy0, hy1, hy2⟩ := info_parts infoF
  refine (callsIn_wide (n := 3)).1 ?_
  refine callsIn_of_wp_marks Try.func13 rfl trivial ?_ rfl
  simp only [Try.ntmps13, List.size_toArray, List.length_cons, List.length_nil, Nat.reduceAdd, Nat.reduceSub, Array.replicate_succ, Array.replicate_zero, List.push_toArray, List.append_toArray, List.nil_append, List.cons_append]
  refine wpIn_wide.2 ?_
  by_cases g0 : (n : Int) > 10
  · go_wp2_with (go_at_call 51; refine (frameAlive_any _).mono ?_; rintro e w1 ⟨rfl, hb1⟩; have y1 : Boxed w1 w.heap.size 4 (.bool false) := (hb1.block w.heap.size (by simp)).trans (Boxed.new w 4 (.bool false)); have c1 := y1.cell; have f1 := y1.frozen)
    refine ⟨_, bool_res _ _ w.heap.size _ rfl (y1.set _).cell, rfl, ?_⟩
    exact ((((Below.refl _ w).alloc (Nat.le_refl _) _).trans (hb1.mono (by simp)))).setCell (p := ⟨w.heap.size, 0, none⟩) (Nat.le_refl _) _
  · go_wp2_with fail
    refine (frameAlive_any _).mono ?_
    rintro e w1 ⟨rfl, hb1⟩
    have y1 : Boxed w1 w.heap.size 4 (.bool false) := (hb1.block w.heap.size (by simp)).trans (Boxed.new w 4 (.bool false))
    have hB1 : Below w.heap.size w w1 := ((Below.refl _ w).alloc (Nat.le_refl _) _).trans (hb1.mono (by simp))
    have hw1 := y1.lt
    have hN := HN.out
    have hst : JI w w.heap.size (w1.heap.size + 1 + 1) l0 0 (.slice (some ⟨w1.heap.size, 0, none⟩) 0 0) (((w1.alloc (.cells #[] 5)).alloc (.cells #[] 80)).alloc (.cells #[.slice (some ⟨w1.heap.size + 1, 0, none⟩) 0 0] 102)) := by
      refine ⟨((y1.alloc _).alloc _).alloc _, ?_, ⟨.slice (some ⟨w1.heap.size + 1, 0, none⟩) 0 0, [], ?_, ?_, rfl, fun y hy => by cases hy⟩, ?_, fun x hx => by simp at hx⟩
      · exact ((own_base (ownsRow_empty w1 5) hB1.size).alloc _).alloc _
      · have := Boxed.new ((w1.alloc (.cells #[] 5)).alloc (.cells #[] 80)) 102 (.slice (some ⟨w1.heap.size + 1, 0, none⟩) 0 0)
        simp only [World.size_alloc] at this; exact this
      · have := ownsRow_empty2 (w1.alloc (.cells #[] 5)) 80
        rw [World.size_alloc] at this
        exact (own_base this (by have := hB1.size; omega)).alloc _
      · exact ((hB1.alloc hB1.size _).alloc (by have := hB1.size; simp; omega) _).alloc (by have := hB1.size; simp; omega) _
    have HST := Lib.hid hst
    clear hst y1 hb1
    go_wp2
    go_loopw [5, 28] (fun v i wr => ∃ k : Nat, k ≤ n ∧ i = .int .i64 k ∧ JI w w.heap.size (w1.heap.size + 1 + 1) l0 k v wr) (fun _ i _ => n - (intOf i).toNat)
    case atStart => exact ⟨0, Nat.zero_le _, rfl, HST.out⟩
    case round =>
      obtain ⟨k, hk, rfl, hJ⟩ := hrel
      by_cases hlt : k < n
      · obtain ⟨⟨kd, bd⟩, hx⟩ : ∃ x, l0[k]? = some x := ⟨l0[k]'(by rw [HN.out]; exact hlt), List.getElem?_eq_getElem _⟩
        obtain ⟨b, off, va, vc, rfl, hbw, e1, e2, e3⟩ := HS.out.at_ hx
        dsimp only at e1 e2 e3
        have c1 := (hJ.b.cell (p := ⟨b, off + k * 2, none⟩) hbw).trans e1
        have c2 := (hJ.b.cell (p := ⟨b, off + k * 2 + 1, none⟩) hbw).trans e2
        obtain ⟨q, hq⟩ : ∃ q, bd.length = q := ⟨_, rfl⟩
        rw [hq] at e2 e3 c2
        have cr := hJ.res.cell
        have fr := hJ.res.frozen
        have lr := hJ.res.lt
        by_cases hq5 : (q : Int) > 500
        · go_wp2
          refine ⟨_, bool_res _ _ w.heap.size _ rfl ((hJ.res.set _).alloc _).cell, rfl, ?_⟩
          exact (hJ.b.setCell (p := ⟨w.heap.size, 0, none⟩) (Nat.le_refl _) _).alloc (by have := hJ.b.size; simp; omega) _
        · have hq6 : bd.length ≤ 500 := by rw [hq]; omega
          have hbd : Bytes bd := ⟨by omega, H0.out (kd, bd) (List.mem_of_getElem? hx)⟩
          have hba : Below wr.heap.size wr (wr.alloc (.cells #[.int .i64 kd, .slice va q vc] 80)) := (Below.refl _ _).alloc (Nat.le_refl _) _
          have hSa := (e3.below (hJ.b.trans (hba.mono hJ.b.size))).mono (Nat.le_trans hJ.b.size hba.size)
          have HWR := Lib.hid (write_any kd va q vc bd hbd _ hSa)
          obtain ⟨E, hE⟩ : ∃ E, writeE kd bd = E := ⟨_, rfl⟩
          have HBD := Lib.hid hbd
          have HJ := Lib.hid hJ
          have HX := Lib.hid hx
          have HQ := Lib.hid hq
          clear hSa hba cr fr lr hbd hJ hx hq e1 e2
          by_cases hE0 : E = 0
          · subst hE0
            obtain ⟨k1, k2, k3⟩ := writeE_zero hE
            obtain ⟨t, rfl⟩ : ∃ t : Nat, kd = (t : Int) := ⟨kd.toNat, by omega⟩
            rw [writeL_zero hE, Int.toNat_natCast, hE] at HWR
            have HFL : Hid ((frameL t bd).length = q + 7) := Lib.hid (by rw [frame_len, HQ.out])
            obtain ⟨X, hX⟩ : ∃ X, frameL t bd = X := ⟨_, rfl⟩
            rw [hX] at HWR HFL
            have HXE := Lib.hid hX
            have HE := Lib.hid hE
            clear hE hX
            go_wp2_with fail
            refine HWR.out.mono ?_
            rintro e w2 ⟨v2, rfl, hS2, hb2⟩
            obtain ⟨x2, y2, rfl⟩ := hS2.form
            have hba : Below wr.heap.size wr w2 := ((Below.refl _ _).alloc (Nat.le_refl _) _).trans (hb2.mono (by simp))
            have hfb : w2.heap[wr.heap.size]? = some (.cells #[.int .i64 t, .slice va q vc] 80 (0, 0)) := (hb2.block wr.heap.size (by simp)).trans (World.alloc_heap_new wr _)
            obtain ⟨kv, ys, hk1, hk2, hk3, hk4⟩ := HJ.out.kept
            have hA2 := own_below HJ.out.all hba (Nat.le_refl _)
            have hK2 := own_below hk2 hba (Nat.le_refl _)
            have hbK2 := boxed_below hk1 hba hk1.lt
            have hbR2 := boxed_below HJ.out.res hba HJ.out.res.lt
            have hB2 := HJ.out.b.trans (hba.mono HJ.out.b.size)
            have hsl := short_len HJ.out.short (by omega)
            obtain ⟨Y, hY⟩ : ∃ Y, joinF (keepF (l0.take k)) = Y := ⟨_, rfl⟩
            rw [hY] at hA2 hsl
            have HYE := Lib.hid hY
            have HS2 := Lib.hid hS2
            have HA2 := Lib.hid hA2
            have HB2 := Lib.hid hB2
            clear hS2 hb2 hba hY hA2 hB2
            go_wp2_with (at_builtin; refine wpList_append_bytes _ rfl (.tmp 43) (.tmp 44) rfl w.heap.size _ Y.length (Y.map encY) rfl HA2.out _ _ X rfl HS2.out (by rw [HFL.out]; omega) HB2.out.size ?_)
            intro v3 w3 hown3 hg3
            have hK3 := own_grown hK2 hg3 (own_ne hK2 HA2.out (by decide))
            have hbK3 := boxed_grown hbK2 hg3 (own_box HA2.out hbK2 (by decide))
            have hbR3 := boxed_grown hbR2 hg3 (own_box HA2.out hbR2 (by decide))
            have hf3 := (hg3.block wr.heap.size (Array.getElem?_eq_some_iff.1 hfb).1 (fun e => own_nb HA2.out hfb (by decide) e.symm)).trans hfb
            have hB3 := below_grown2 HA2.out HB2.out.size HB2.out hg3
            have hA3 := hown3
            obtain ⟨ka, kc, rfl⟩ := own_form hK3
            have hkc := hbK3.cell
            have hkf := hbK3.frozen
            have hklt := hbK3.lt
            obtain ⟨f1, f2, f3, f4⟩ := cell2 hf3
            have hflt := (Array.getElem?_eq_some_iff.1 hf3).1
            have hylen : ys.length ≤ 10 := by have e1 := congrArg List.length hk3; rw [List.length_map] at e1; have e2 := keepF_len (l0.take k); rw [List.length_take] at e2; omega
            have hz3 := hB3.size
            have HA3 := Lib.hid hA3
            have HK3 := Lib.hid hK3
            have HBK3 := Lib.hid hbK3
            have HBR3 := Lib.hid hbR3
            have HB3 := Lib.hid hB3
            have HYS := Lib.hid hk3
            have HSY := Lib.hid hk4
            clear hown3 hg3 hK2 hbK2 hbR2 hfb HA2 HB2 HS2 hA3 hK3 hbK3 hbR3 hB3 hk3 hk4 hk1 hk2 hf3
            go_wp2_with (at_builtin; refine wpList_append_own _ rfl (.tmp 46) (.tmp 48) 102 rfl w.heap.size 80 i1 (.agg #[.int .i64 0, .slice none 0 0]) 2 32 Try.underlying102 hi1 hy0 hy1 hy2 rfl (by decide) _ _ _ rfl (HK3.out.alloc _) ⟨w3.heap.size, 0, none⟩ 1 1 [.int .i64 t, .slice va q vc] rfl rfl (new_cells2 _ _ _ _) (by intro u hu; simp at hu; rcases hu with rfl | rfl <;> rfl) (by unfold maxLen; omega) (by omega) (by simp; omega) ?_)
            intro v4 w4 hown4 hg4 _
            have hA4 := own_grown (HA3.out.alloc _) hg4 (own_ne (HA3.out.alloc (.cells #[.int .i64 t, .slice va q vc] 80)) (HK3.out.alloc _) (by decide))
            have hbK4 := boxed_grown (HBK3.out.alloc _) hg4 (own_box (HK3.out.alloc (.cells #[.int .i64 t, .slice va q vc] 80)) (HBK3.out.alloc _) (by decide))
            have hbR4 := boxed_grown (HBR3.out.alloc _) hg4 (own_box (HK3.out.alloc (.cells #[.int .i64 t, .slice va q vc] 80)) (HBR3.out.alloc _) (by decide))
            have hB4 := below_grown2 (HK3.out.alloc _) (by simp; omega) (HB3.out.alloc hz3 _) hg4
            obtain ⟨va4, vc4, rfl⟩ := own_form hown4
            have hkc4 := hbK4.cell
            have hkf4 := hbK4.frozen
            have HJN : Hid (JI w w.heap.size (w1.heap.size + 1 + 1) l0 (k + 1) v3 (w4.setCell ⟨w1.heap.size + 1 + 1, 0, none⟩ (.slice va4 (ys.length + 1) vc4))) := Lib.hid (HJ.out.keep HX.out HE.out hq6 (by omega) hbR4 (by rw [HYE.out, HXE.out]; exact hA4) hbK4 HYS.out hown4 HSY.out e3 hB4 (by omega))
            clear hown4 hg4 hA4 hbK4 hbR4 hB4 HK3 HA3 HBK3 HBR3 HB3
            go_wp2
            go_roundw
            case rel => exact ⟨k + 1, by omega, by go_num, HJN.out⟩
            case measure => simp [intOf]; omega
          · have hEi : ((E : Int) == 0) = false := beq_eq_false_iff_ne.2 (by omega)
            have hz0 : writeE kd bd ≠ 0 := by rw [hE]; exact hE0
            rw [writeL_bad hz0, hE] at HWR
            have HZ0 := Lib.hid hz0
            clear hE hE0 hz0
            go_wp2_with (go_at_call 52; refine HWR.out.mono ?_; rintro e w2 ⟨v2, rfl, hS2, hb2⟩; obtain ⟨x2, y2, rfl⟩ := hS2.form; have hba : Below wr.heap.size wr w2 := ((Below.refl _ _).alloc (Nat.le_refl _) _).trans (hb2.mono (by simp)))
            go_roundw
            case rel => exact ⟨k + 1, by omega, by go_num, HJ.out.skip HX.out HZ0.out hq6 hba⟩
            case measure => simp [intOf]; omega
      · obtain rfl : k = n := by omega
        have htk : l0.take k = l0 := List.take_of_length_le (by rw [HN.out]; exact Nat.le_refl _)
        obtain ⟨kv, ys, hk1, hk2, hk3, hk4⟩ := hJ.kept
        have hall := hJ.all
        have hsl := short_len hJ.short (by omega)
        rw [htk] at hall hk3 hsl
        have hok := keepF_ok H0.out
        have hR1 := hJ.res
        have hBJ := hJ.b
        have hyl : ys.length = (keepF l0).length := by rw [← hk3, List.length_map]
        have hys10 : ys.length ≤ 10 := by have := keepF_len l0; rw [HN.out] at this; omega
        obtain ⟨ks, hks⟩ : ∃ ks, keepF l0 = ks := ⟨_, rfl⟩
        rw [hks] at hall hk3 hsl hok hyl
        obtain ⟨Y, hY⟩ : ∃ Y, joinF ks = Y := ⟨_, rfl⟩
        have hYb : ∀ y ∈ Y, y < 256 := by rw [← hY]; exact joinF_bytes hok
        have hSC := fun rest n hr => scanW_join ks rest n hr hok
        have hSE := fun rest hr => scan_join0 ks rest hr hok
        rw [hY] at hall hsl hSC hSE
        obtain ⟨ya, yc, rfl⟩ := own_form hall
        obtain ⟨ka, kc, rfl⟩ := own_form hk2
        obtain ⟨m, hm⟩ : ∃ m, Y.length = m := ⟨_, rfl⟩
        have HM := Lib.hid hm
        rw [hm] at hall hsl ⊢
        obtain ⟨c', hc1, hc2⟩ := and1023 a1
        obtain ⟨r, hr1, hr2⟩ : ∃ r : Nat, (c' : Int) % 11 = (r : Int) ∧ r < 11 := ⟨c' % 11, by push_cast; rfl, Nat.mod_lt _ (by omega)⟩
        have htm : (c' : Int).tmod 11 = (r : Int) := by rw [Int.tmod_eq_emod_of_nonneg (by omega)]; exact hr1
        have HSC := Lib.hid hSC
        have HSE := Lib.hid hSE
        have HYB := Lib.hid hYb
        have HAL := Lib.hid hall
        have HK1 := Lib.hid hk1
        have HK2 := Lib.hid hk2
        have HK3 := Lib.hid hk3
        have HK4 := Lib.hid hk4
        have HR1 := Lib.hid hR1
        have HBJ := Lib.hid hBJ
        have HYL := Lib.hid hyl
        have hwr := hBJ.size
        have hcv := fun (w : World) (C : Array Value) (n c : Nat) => Lib.run_convert_bytes_const (P := Try.prog) w 22 5 C n c Try.underlying22 Try.underlying5
        clear hlt htk hks hY hSC hSE hYb hall hk1 hk2 hk3 hk4 hR1 hBJ hJ hyl hm hr1
        go_wp2_with fail
        have hBl : Below wr.heap.size wr (wr.alloc (.cells #[.int .u8 109, .int .u8 111, .int .u8 114, .int .u8 101] 5 (4, 5))) := (Below.refl _ _).alloc (Nat.le_refl _) _
        refine (write_any 1 _ 4 4 [109, 111, 114, 101] ⟨by decide, by decide⟩ _ (lit_at _ wr rfl [109, 111, 114, 101] 4 rfl #[.int .u8 109, .int .u8 111, .int .u8 114, .int .u8 101] (4, 5) rfl)).mono ?_
        rintro e w2 ⟨v2, rfl, hS2, hb2⟩
        have hb02 := hBl.trans (hb2.mono hBl.size)
        rw [show writeE 1 [109, 111, 114, 101] = 0 by decide]
        rw [show writeL 1 [109, 111, 114, 101] = frameL 1 [109, 111, 114, 101] from rfl] at hS2
        have hfl : (frameL 1 [109, 111, 114, 101]).length = 11 := frame_len 1 [109, 111, 114, 101]
        have hcut := read_cut 1 [109, 111, 114, 101] r (by decide) hr2
        have hfb := frame_bytes (k := 1) (l := [109, 111, 114, 101]) (by decide) (by decide) (by decide)
        obtain ⟨X, hX⟩ : ∃ X, frameL 1 [109, 111, 114, 101] = X := ⟨_, rfl⟩
        rw [hX] at hS2 hfl hcut hfb
        obtain ⟨x2, y2, rfl⟩ := hS2.form
        rw [hfl] at hS2 ⊢
        have hc11 := hS2.capb
        have hST := hS2.take (k := r) (by omega)
        have htl : (X.take r).length = r := by rw [List.length_take, hfl]; omega
        have hfr : ∀ y ∈ X.take r, y < 256 := fun y hy => hfb y (List.mem_of_mem_take hy)
        have hr0 : r = 0 → X.take r = [] := fun h => by rw [h]; rfl
        obtain ⟨R, hR⟩ : ∃ R, X.take r = R := ⟨_, rfl⟩
        rw [hR] at htl hST hfr hcut hr0
        have HTL := Lib.hid htl
        have HST := Lib.hid hST
        have HR0 := Lib.hid hr0
        have HA2 := Lib.hid (own_below HAL.out hb02 (Nat.le_refl _))
        have HB2 := Lib.hid (HBJ.out.trans (hb02.mono hwr))
        have HK12 := Lib.hid (boxed_below HK1.out hb02 HK1.out.lt)
        have HK22 := Lib.hid (own_below HK2.out hb02 (Nat.le_refl _))
        have HR12 := Lib.hid (boxed_below HR1.out hb02 HR1.out.lt)
        have HCU := Lib.hid hcut
        have HFB := Lib.hid hfr
        have hrc : r ≤ y2 := by omega
        clear hb2 hb02 hBl hS2 hST htl hfl hcut hfb hX hR hfr hr0 HAL HBJ HK1 HK2 HR1
        show _
        go_wp2_with (at_builtin; refine wpList_append_bytes _ rfl (.tmp 60) (.tmp 67) rfl w.heap.size _ m (Y.map encY) rfl HA2.out _ _ R rfl HST.out (by rw [HTL.out]; omega) HB2.out.size ?_)
        intro v3 w3 hown3 hg3
        have HA3 : Hid (w3.ownsRow w.heap.size 5 1 v3 (Y ++ R).length ((Y ++ R).map encY)) := Lib.hid (by rw [List.length_append, List.map_append, HM.out]; exact hown3)
        have HB3 := Lib.hid (below_grown2 HA2.out HB2.out.size HB2.out hg3)
        have HK13 := Lib.hid (boxed_grown HK12.out hg3 (own_box HA2.out HK12.out (by decide)))
        have HK23 := Lib.hid (own_grown HK22.out hg3 (own_ne HK22.out HA2.out (by decide)))
        have HR13 := Lib.hid (boxed_grown HR12.out hg3 (own_box HA2.out HR12.out (by decide)))
        have hall2 : (Y ++ R).length = m + r := by rw [List.length_append, HM.out, HTL.out]
        have hAb : Bytes (Y ++ R) := ⟨by rw [hall2]; omega, fun y hy => by rcases List.mem_append.1 hy with h | h; exact HYB.out y h; exact HFB.out y h⟩
        have hcase : (R = [] ∧ r = 0) ∨ (R ≠ [] ∧ r ≠ 0) := by
          by_cases h0 : r = 0
          · exact .inl ⟨HR0.out h0, h0⟩
          · exact .inr ⟨fun e => h0 (by have := HTL.out; rw [e] at this; exact this.symm), h0⟩
        have hSE2 := HSE.out R (hcase.imp (fun h => h.1) (fun h => by rw [HCU.out]; decide))
        have HSE2 := Lib.hid hSE2
        have HSC0 := Lib.hid (fun (h : r = 0) => HSC.out R 0 (.inl ⟨HR0.out h, rfl⟩))
        have HSC1 := Lib.hid (fun (h : r ≠ 0) => HSC.out R 21 (.inr ⟨by rcases hcase with h1 | h1; exact absurd h1.2 h; exact h1.1, HCU.out, by decide⟩))
        have hS3 := Sl.of_owns HA3.out
        obtain ⟨AL, hAL⟩ : ∃ AL, Y ++ R = AL := ⟨_, rfl⟩
        rw [hAL] at hS3 hall2 hAb HSE2 HSC0 HSC1
        obtain ⟨x3, y3, rfl⟩ := hS3.form
        rw [hall2] at hS3 ⊢
        have HAB := Lib.hid hAb
        have HAL2 := Lib.hid hall2
        have h34 : Below w3.heap.size w3 (w3.alloc (.cells #[.int .i64 0] 3)) := (Below.refl _ _).alloc (Nat.le_refl _) _
        have HSCN := Lib.hid (scan_any _ _ _ AL hAb.1 _ ((hS3.below h34).mono h34.size))
        rw [hall2] at HSCN
        have HS3 := Lib.hid hS3
        clear hown3 hg3 hcase hSE2 hS3 hall2 hAb hAL h34 HA2 HB2 HK12 HK22 HR12 HST HA3 HSE HSC HCU
        go_wp2_with fail
        refine HSCN.out.mono ?_
        rintro e w10 ⟨Bs, g, vsa, vsc, rfl, hs1, hs2, hs3, hs4, hcB, hSB, hkB, hb10⟩
        rw [World.size_alloc] at hs1 hs3
        have hbA : Below w3.heap.size w3 w10 := ((Below.refl _ _).alloc (Nat.le_refl _) _).trans (hb10.mono (by simp))
        have hy0 : Boxed w10 w3.heap.size 3 (.int .i64 0) := (hb10.block w3.heap.size (by simp)).trans (Boxed.new w3 3 (.int .i64 0))
        clear hb10 HSCN
        go_wp2_with fail
        have hkv : KeptV 0 [Bs, g] (.slice vsa (m + r) vsc) := fun ad n c e h0 => by
          rcases hkB ad n c e h0 with h | h
          · exact .inl h
          · exact .inr (by simp at h; simp [h])
        rename_i K hKQ
        refine (wpIn_wide (n := 3)).1 ?_
        refine wpIn_act ?_
        intro A hA
        refine rangeS rfl (by omega) (gf := 100) (lb := #[.pointer (some ⟨Bs, 0, none⟩)]) (by rw [hA]; rfl) trivial (enters_of Try.func100 (by kernel_rfl) rfl)
          (frames1 Bs 0 [Bs, g] AL HAB.out vsa (m + r) vsc w10 (Nat.zero_le _) (fun k hk => by simp at hk; omega) (.inr (by simp)) hkv hcB hSB) (joA A w10.heap.size)
          (fun x a' W l o r hl ⟨Bx, va, vc, h1, h2, h3, h4, h5⟩ => ⟨Bx, va, vc, h1, h2, h3.putObj hl, by have := h4.putObj (o := o) hl; simpa using this, h5⟩) (fun r h => by simp at h; omega) (Nat.zero_le _) (Below.refl _ _) (fun _ => rfl)
          (joI w3) (fun _ _ _ => False) (joI_own (by omega)) (fun _ _ _ _ _ h _ _ => h)
          (fun s W r v hr ⟨h1, h2⟩ => by simp at hr; exact ⟨h1.other (by omega) v, h2.setCell (by show w3.heap.size ≤ r; omega) v⟩) (fun _ _ _ _ _ _ h => h)
          ⟨hy0, hbA⟩ ?assign ?body ?done ?stop
        case assign =>
          rintro l pre ⟨⟨p, kk, bd⟩, v⟩ W K hi hry hz2 hK
          obtain ⟨va, vc, hv⟩ := (show Sl encY _ W v bd from hry).form
          subst hv
          dsimp only [encF]
          have hryA := (hry.below ((Below.refl W.heap.size W).alloc (Nat.le_refl _) (.cells #[.int .i64 kk, .slice va bd.length vc] 80))).mono (m := (W.alloc (.cells #[.int .i64 kk, .slice va bd.length vc] 80)).heap.size) (by simp)
          have HRY := Lib.hid hryA
          clear hryA hry
          rw [hA]
          gi_wp2
          refine hK _ _ ((KeepsOthers.alloc _ _).from _) ⟨(Below.refl _ W).alloc (Nat.zero_le _) _, fun k h1 h2 => by omega, fun k hk => Below.heap_alloc W _ _ (by simp at hk; omega)⟩ ⟨hi.1.alloc _, hi.2.alloc (by omega) _⟩ ?_
          exact ⟨W.heap.size, va, vc, by omega, rfl, World.alloc_heap_new W _, HRY.out, by rw [hA]; rfl⟩
        case body =>
          rintro l pre ⟨⟨p, kk, bd⟩, v⟩ a' W ⟨h1, h2⟩ hp hz2 ⟨Bx, va2, vc2, hBx, hv, hF, hSv, rfl⟩
          dsimp only at hv
          subst hv
          rw [HSE2.out.1] at hp
          obtain ⟨hjl, hjk⟩ := next_pos hp
          dsimp only at hjk
          have hjy : pre.length < ys.length := by rw [HYL.out]; exact hjl
          obtain ⟨⟨⟨k0, b0⟩, yv⟩, hy⟩ : ∃ y, ys[pre.length]? = some y := ⟨_, List.getElem?_eq_getElem hjy⟩
          have hyk : (k0, b0) = (kk, bd) := by
            have : (ys.map Prod.fst)[pre.length]? = some (k0, b0) := by rw [List.getElem?_map, hy]; rfl
            rw [HK3.out, hjk] at this
            exact (Option.some.inj this).symm
          cases hyk
          have hSy := HK4.out _ (List.mem_of_getElem? hy)
          have hb3W := HB3.out.trans (h2.mono HB3.out.size)
          have hSyW := (hSy.below hb3W).mono hb3W.size
          obtain ⟨ya2, yc2, hyv⟩ := hSyW.form
          dsimp only at hyv hSyW
          subst hyv
          obtain ⟨g1, g2⟩ := cellsK_get ys _ _ hy
          have hKW := own_below HK23.out h2 (Nat.le_refl _)
          obtain ⟨gk, rfl, e1⟩ := own_cell hKW g1
          obtain ⟨gk', e0, e2⟩ := own_cell hKW g2
          cases e0
          have hbW := boxed_below HK13.out h2 HK13.out.lt
          have ck := hbW.cell
          have ci := h1.cell
          have fi := h1.frozen
          unfold FrameAt at hF
          dsimp only at hF hSv e1 e2
          obtain ⟨f1, f2, f3, f4⟩ := cell2 hF
          have hbl : bd.length ≤ 1048576 := by have := hok _ (List.mem_of_getElem? hjk); have := this.2.2.1; dsimp only at this; omega
          have hsq : ∀ k, Calls Try.prog 27 #[.slice va2 bd.length vc2, .slice ya2 bd.length yc2] (W.drewN k) fun e w' => e = .returned (.bool (decide (bd = bd))) ∧ ∃ q, w' = (W.drewN k).drewN q := fun k => sameQ_any _ _ _ _ _ _ bd bd (W.drewN k) hbl hbl hSv hSyW
          rw [decide_eq_true rfl] at hsq
          obtain ⟨j, hj⟩ : ∃ j, pre.length = j := ⟨_, rfl⟩
          obtain ⟨bl, hbl2⟩ : ∃ bl, bd.length = bl := ⟨_, rfl⟩
          have HPL : Hid ((pre ++ [(((p, kk, bd), Value.slice va2 bd.length vc2) : FX)]).length = j + 1) := Lib.hid (by rw [List.length_append, hj]; rfl)
          rw [hbl2] at hsq f2 e2 HPL ⊢
          rw [hj] at ci hjy e1 e2
          have HSQ := Lib.hid hsq
          have H1 := Lib.hid h1
          have hge : decide (ys.length ≤ j) = false := decide_eq_false (by omega)
          have hji : (j : Int) < (ys.length : Int) := by omega
          have hj0 : (0 : Int) ≤ j := by omega
          have hj10 : (j : Int) ≤ 10 := by omega
          clear hsq h1 hp hjk hjl hy hSy hSyW hKW hbW hF hSv g1 g2 hbl hbl2 hj
          rw [hA]
          gi_wp2
          refine quiet_round (by kernel_rfl) (by kernel_rfl) (by kernel_rfl) (fun ⟨_, _, hq⟩ => hq) ?_
          repeat (go_big_quiet_step ((go_at_call 27; exact Calls.quiet_of (HSQ.out _))))
          refine wpQuiet_nil ?_
          intro _ hw'
          obtain ⟨nq, hw''⟩ := hw'
          subst hw''
          gi_wp2
          refine ⟨((⟨Nat.le_refl _, fun _ _ h _ => h⟩ : KeepsOthers W (W.drewN nq)).from _).trans ((KeepsOthers.setCell _ _ _).from _), ⟨(Below.drewN_r (Below.refl _ W) nq).setCell (p := ⟨w3.heap.size, 0, none⟩) (Nat.zero_le _) _, fun k h1 h2 => by omega, fun k hk => Below.heap_setCell _ _ _ _ (by simp at hk; show k ≠ w3.heap.size; omega)⟩, ?_, (Below.drewN_r h2 nq).setCell (p := ⟨w3.heap.size, 0, none⟩) (Nat.le_refl _) _⟩
          rw [HPL.out]
          exact (show Boxed (W.drewN nq) _ _ _ from H1.out).set _
        case done =>
          rintro D zs W hD hzs ⟨h1, h2⟩ hK
          rw [hA]
          refine hKQ _ _ ?_
          have hlz : zs.length = ys.length := by
            have := congrArg List.length hzs
            rw [List.length_map, HSE2.out.1, posF_len] at this
            rw [this, HYL.out]
          rw [hlz] at h1
          have hb3W := HB3.out.trans (h2.mono HB3.out.size)
          have hSW := (HS3.out.below h2).mono h2.size
          have HEN := Lib.hid (end_any _ _ _ AL HAB.out W hSW)
          obtain ⟨wy, hwy⟩ : ∃ wy, scanW AL = wy := ⟨_, rfl⟩
          rw [HSE2.out.2, HM.out, hwy] at HEN
          have hw0 : r = 0 → wy = 0 := fun h => by rw [← hwy]; exact HSC0.out h
          have hw1 : r ≠ 0 → wy = 21 := fun h => by rw [← hwy]; exact HSC1.out h
          have hRW := boxed_below HR13.out h2 HR13.out.lt
          have hKW := boxed_below HK13.out h2 HK13.out.lt
          have hDl := (Array.getElem?_eq_some_iff.1 hK).1
          have H1 := Lib.hid h1
          have HRW := Lib.hid hRW
          have HKW := Lib.hid hKW
          have HK := Lib.hid hK
          have HBW := Lib.hid hb3W
          have hrD : w.heap.size < D := by have := HR13.out.lt; omega
          clear hwy h1 hRW hKW hK hSW hb3W
          go_wp2_with fail
          refine HEN.out.mono ?_
          rintro e w13 ⟨rfl, hb13⟩
          have y1 := boxed_below H1.out hb13 H1.out.lt
          have y2' := boxed_below HRW.out hb13 HRW.out.lt
          have y3' := boxed_below HKW.out hb13 HKW.out.lt
          have c1 := y1.cell
          have c2 := y2'.cell
          have c3 := y3'.cell
          have f2 := y2'.frozen
          have HKD := Lib.hid ((hb13.block D hDl).trans HK.out)
          have HB13 := Lib.hid (HBW.out.trans (hb13.mono HBW.out.size))
          have HY2 := Lib.hid y2'
          clear y1 y2' y3' hb13 HEN H1 HRW HKW
          have hmm : ((m : Int) == (m : Int)) = true := by simp
          by_cases hr0 : r = 0
          · obtain rfl := hw0 hr0
            have e1 : (((m + r : Nat) : Int) == (m : Int)) = true := by rw [hr0]; simp
            clear hw0 hw1
            go_wp2
            have hKD2 := (Below.heap_setCell w13 ⟨w.heap.size, 0, none⟩ (.bool true) D (by show D ≠ w.heap.size; omega)).trans HKD.out
            refine ⟨by simp, .inl ⟨_, _, rfl, run_takeDeferred hKD2, ?_⟩⟩
            exact ⟨_, bool_res _ _ w.heap.size _ rfl ((HY2.out.set _).kept (grownBy_putObj' _ D (.deferred none)) (fun e => by cases e; omega)).cell, rfl, (HB13.out.setCell (p := ⟨w.heap.size, 0, none⟩) (Nat.le_refl _) _).trans (belowK_b (w := w) (Nat.le_refl _) _ D _ (.deferred none) (by omega) hKD2 rfl rfl)⟩
          · obtain rfl := hw1 hr0
            have e1 : (((m + r : Nat) : Int) == (m : Int)) = false := beq_eq_false_iff_ne.2 (by omega)
            have e2 : ((m : Int) + (r : Int) == (m : Int)) = false := beq_eq_false_iff_ne.2 (by omega)
            clear hw0 hw1
            go_wp2
            have hKD2 := (Below.heap_setCell w13 ⟨w.heap.size, 0, none⟩ (.bool true) D (by show D ≠ w.heap.size; omega)).trans HKD.out
            refine ⟨by simp, .inl ⟨_, _, rfl, run_takeDeferred hKD2, ?_⟩⟩
            exact ⟨_, bool_res _ _ w.heap.size _ rfl ((HY2.out.set _).kept (grownBy_putObj' _ D (.deferred none)) (fun e => by cases e; omega)).cell, rfl, (HB13.out.setCell (p := ⟨w.heap.size, 0, none⟩) (Nat.le_refl _) _).trans (belowK_b (w := w) (Nat.le_refl _) _ D _ (.deferred none) (by omega) hKD2 rfl rfl)⟩
        case stop =>
          rintro D c' pre W _ _ h _
          exact h.elim

set_option maxRecDepth 100000 in
theorem lifted (os : Os) (started : os.Started) (H : Type) (enc : TypeId × Value → H) :
    ReturnsInHanded {} Try.checked os 13 .any (Rows.frameJoinsSpec.pre6 enc Try.prog Try.f13 Rows.frameJoinsRow.domain false) (Rows.frameJoinsSpec.post enc Try.prog Try.f13 false true false false) := by
  refine returnsInHanded_of_change (C := Try.checked) own started (by kernel_rfl) Try.func13
    (ChangeSpec.witness6 (enc := enc) (C := Try.checked) false ⟨#[], #[.slice none 0 0, .int .i64 0], []⟩ 8 (by kernel_rfl) (by kernel_rfl) (by kernel_rfl) (by kernel_rfl)) ?_
  intro W base args ds gs before hval0 hW hcnd _
  have hval : ∀ (j : Nat) t v, Try.f13.params[j]? = some t → args[j]? = some v → Value.okWide Try.prog W .any base t v := hval0
  have hW' := hW
  obtain ⟨p, q, hA0, hV, rfl, hfz, hnd⟩ := hW
  have hA : DataW.TrodAll enc Try.prog W 0 (fun _ => true) true Try.f13.params.toList args.toList ds p := hA0
  rw [Try.params13] at hA hval
  have hAk := hA
  obtain ⟨v0, vs0, d0, ds0, p0', q0, hargs, rfl, rfl, h0, r0⟩ := trodAll_cons hA
  obtain ⟨v1, vs1, d1, ds1, p1', q1, rfl, rfl, rfl, h1, r1⟩ := trodAll_cons r0
  obtain ⟨rfl, rfl, rfl⟩ := trodAll_nil r1
  obtain rfl : args = #[v0, v1] := by cases args; simp_all
  obtain ⟨rfl, rfl⟩ := trodVars_none hV
  simp only [List.append_nil] at hW' hAk
  have hlt := fun x hx => hW'.lt x hx
  clear hA0 hval0
  obtain ⟨p0, n0, c0, l0, rfl, S0, b0⟩ := open_frames (okWide_slice Try.underlying102 (hval 0 102 v0 rfl rfl)) h0
  obtain ⟨a1, rfl, rfl, rfl, w1⟩ := open_int Try.underlying3 (hval 1 3 v1 rfl rfl) h1
  refine (walk W p0 n0 c0 l0 S0 b0 a1 w1).mono fun e W' ⟨he, hg⟩ => ?_
  subst he
  have hargs := trodAll_below hg _ _ _ _ (by intro t ht; simp only [List.mem_cons, List.not_mem_nil, or_false] at ht; revert t; rintro t (rfl | rfl) <;> exact ⟨by kernel_rfl, of_decide_eq_true (by kernel_rfl)⟩) hAk (fun x hx => by simpa using hlt x hx)
  exact ⟨_, rfl, _, _, _, [], _, [], hW', (trodAll_cons_mk (shut_bool Try.underlying4 _) trodAll_mk0), hargs, rfl, hg.frame _, fun h => by cases h⟩

theorem over : Rows.frameJoinsRow.holds Try.pinned (OpenSpec.ofChange Rows.frameJoinsSpec) :=
  OpenClaim.holds_of_wide 13 Try.f13 rfl rfl rfl rfl rfl rfl rfl ⟨rfl, rfl, rfl, rfl, rfl⟩ rfl rfl rfl rfl rfl (by kernel_rfl) Try.func13 (by kernel_rfl)
    (of_decide_eq_true (by kernel_rfl)) (by unfold Func.isWrapper; first | (rw [if_pos (by decide +kernel)]; kernel_rfl) | (rw [if_neg (by decide +kernel)]; exact ⟨rfl, rfl⟩))
    (fun os started H enc _ => lifted os started H enc)

theorem proved : Rows.FrameJoinsSaid :=
  over
end Go.Proofs.Ytfhigngfohfclaa.frameJoins
