/- From whatever bytes, for whatever region and count law JournalLooks answers true: what journal.Look tells of a region is what the document says, as far as is asked for. Condition: the library's tables that the row lists hold what their text lays. -/
import Derived.Test.YtocmfdahnekboaaDoorLookL
import Derived.Test.YtocmfdahnekboaaDoorOpenP
import Derived.Test.YtocmfdahnekboaaDoorCards
import Derived.Test.YtocmfdahnekboaaDoorTie
import Derived.ProofKit
import Derived.ChangeMaps5
import Derived.OpenShut
import Derived.Carry
import Derived.Lay
import Derived.Deep.DeepHandedRow
import Derived.Deep.DeepWitnessRowRef
namespace Go.Proofs.YtocmfdahnekboaaDoor.journalLooks
open Go.ChangeShapes Go.WideShapes Go.ChangeAt Go.RowKit
set_option linter.unusedVariables false
open Go.Shelf Go.Proofs.YtocmfdahnekboaaDoor Go.Proofs.YtocmfdahnekboaaDoor.SumM
attribute [local go_sem] Oper.semAt_some

theorem own : ownKnob Tryd.prog.godebug = none := by kernel_rfl

set_option maxRecDepth 100000 in
set_option maxHeartbeats 2000000 in
theorem walk (w : World) (hE : Env w) (p0 : Option Addr) (n0 c0 : Nat) (l0 : List Nat) (S0 : Sl encY w.heap.size w (.slice p0 n0 c0) l0) (b0 : ∀ x ∈ l0, x < 256) (a1 : Int) (w1 : (Lit.int .i64 a1).wf = true) (a2 : Int) (w2 : (Lit.int .i64 a2).wf = true) :
    Calls Tryd.prog 3 #[.slice p0 n0 c0, .int .i64 a1, .int .i64 a2] w fun e w' => e = .returned (.bool true) ∧ Below w.heap.size w w' := by
  obtain rfl := S0.len
  have HS := Lib.hid S0
  have H0 := Lib.hid b0
  obtain ⟨oT, hoT, hTT⟩ := Tens.obj hE
  have hgT : gT < w.heap.size := (Array.getElem?_eq_some_iff.1 hoT).1
  have HOT := Lib.hid hoT
  have HTT := Lib.hid hTT
  clear S0 b0 hoT hTT hE
  obtain ⟨n, hn⟩ : ∃ n, l0.length = n := ⟨_, rfl⟩
  have HN := Lib.hid hn
  rw [hn] at HS ⊢
  clear hn
  have hz := zframe
  have hz2 := zrefF
  refine (callsIn_wide (n := 4)).1 ?_
  refine callsIn_of_wp_marks Tryd.func3 rfl trivial ?_ rfl
  simp only [Tryd.ntmps3, List.size_toArray, List.length_cons, List.length_nil, Nat.reduceAdd, Nat.reduceSub, Array.replicate_succ, Array.replicate_zero, List.push_toArray, List.append_toArray, List.nil_append, List.cons_append]
  refine wpIn_wide.2 ?_
  obtain ⟨W0, hW0⟩ : ∃ W0, (w.alloc (.cells #[.int .i64 a2] 3)).alloc (.cells #[.bool false] 4) = W0 := ⟨_, rfl⟩
  have z0 : W0.heap.size = w.heap.size + 1 + 1 := by rw [← hW0]; simp
  have y3 : Boxed W0 w.heap.size 3 (.int .i64 a2) := by rw [← hW0]; exact (Boxed.new w _ _).alloc _
  have y4 : Boxed W0 (w.heap.size + 1) 4 (.bool false) := by
    rw [← hW0]
    have := Boxed.new (w.alloc (.cells #[.int .i64 a2] 3)) 4 (.bool false)
    rw [World.size_alloc] at this; exact this
  have b00 : Below w.heap.size w W0 := by rw [← hW0]; exact ((Below.refl _ w).alloc (Nat.le_refl _) _).alloc (by simp) _
  have HW0 := Lib.hid hW0
  clear hW0
  go_upto_region 1 with fail
  rw [HW0.out]
  clear HW0
  go_wp2_with fail
  refine (jAlive_any _).mono ?_
  rintro e w1 ⟨rfl, hb1⟩
  have hB1 := b00.trans (hb1.mono b00.size)
  have Y3 := Lib.hid (boxed_below y3 hb1 y3.lt)
  have Y4 := Lib.hid (boxed_below y4 hb1 y4.lt)
  have hw1 := Y4.out.lt
  clear y3 y4 hb1 b00 z0
  by_cases g0 : (n : Int) > 3000
  · have c4 := Y4.out.cell
    have f4 := Y4.out.frozen
    go_wp2
    exact ⟨_, bool_res6 _ _ (w.heap.size + 1) _ rfl (Y4.out.set _).cell, rfl, hB1.setCell (p := ⟨w.heap.size + 1, 0, none⟩) (Nat.le_succ _) _⟩
  · have B0 : Bytes l0 := ⟨by rw [HN.out]; omega, H0.out⟩
    have HB0 := Lib.hid B0
    have HB1 := Lib.hid hB1
    clear B0 hB1
    go_wp2_with fail
    refine (new_any 4000 w1).mono ?_
    rintro e w2 ⟨rfl, hD2, hb2⟩
    have hB2 := step_below HB1.out hb2
    have HL2 := Lib.hid (load_any a1 p0 n c0 l0 HB0.out w2 hD2 (hS_step HS.out hB2))
    have Y32 := Lib.hid (boxed_below Y3.out hb2 Y3.out.lt)
    have Y42 := Lib.hid (boxed_below Y4.out hb2 Y4.out.lt)
    have HB2 := Lib.hid hB2
    have hz12 := hb2.size
    clear hb2 hD2 hB2 Y3 Y4 HB1
    go_wp2_with fail
    refine HL2.out.mono ?_
    rintro e w3 ⟨rfl, own3, x3, y3, d3, bt3, s3⟩
    have hlo3 : ∀ k ∈ own3, w1.heap.size ≤ k := fun k hk => by
      rcases s3 k hk with h | h
      · simp at h; omega
      · omega
    have hb13 : Below w1.heap.size w2 w3 := bt3.below (n := w1.heap.size) (fun k hk => by simp at hk; omega) hz12
    have hB3 : Below w.heap.size w w3 := HB2.out.trans (hb13.mono (by omega))
    have Y33 := Lib.hid (boxed_below Y32.out hb13 (by omega))
    have Y43 := Lib.hid (boxed_below Y42.out hb13 (by omega))
    obtain ⟨D, hD⟩ : ∃ D, loadS (newD 4000) a1 l0 = D := ⟨_, rfl⟩
    have hrow : ∃ (p : Option Addr) (m c : Nat), Sl encY w3.heap.size w3 (.slice p m c) (D.row a1) ∧ (if a1 = 0 ∨ a1 = 1 then Value.slice p0 n c0 = .slice p m c else .slice none 0 0 = Value.slice p m c) := by
      by_cases hi : a1 = 0 ∨ a1 = 1
      · refine ⟨p0, n, c0, ?_, by rw [if_pos hi]⟩
        rw [← hD, regB_row hi (by rw [HN.out]; show n ≤ 4000; omega)]
        exact hS_step HS.out hB3
      · refine ⟨none, 0, 0, ?_, by rw [if_neg hi]⟩
        rw [← hD, regB_row0 hi]
        exact Sl.nil _ _ _
    rw [hD] at d3
    have hLB : Bytes (D.row a1) := ⟨Nat.le_trans (d3.ok.row a1).1 d3.ok.cap, (d3.ok.row a1).2⟩
    obtain ⟨q0, m0, k0, hSR, hpick⟩ := hrow
    have HLK := Lib.hid (fun (W : World) (hb : But [w.heap.size] w3 W) => look_any a1 W (d3.but hb (fun k hk hm => by simp at hm; have := hlo3 k hk; omega)))
    obtain ⟨L, hL⟩ : ∃ L, D.row a1 = L := ⟨_, rfl⟩
    rw [hL] at HLK hLB hSR
    have HLB := Lib.hid hLB
    have HSR := Lib.hid hSR
    have HPK := Lib.hid hpick
    have HB3 := Lib.hid hB3
    have hz13 : w1.heap.size ≤ w3.heap.size := Nat.le_trans hz12 bt3.size
    clear bt3 s3 hb13 hB3 d3 hLB hSR hpick hL hD HL2 Y32 Y42 hlo3 HB2 hz12
    go_upto_region 7 with fail
    go_cut [34] from 29 to 33 (fun cv wx => cv = .bool (decide (¬ (a1 = 0 ∨ a1 = 1))) ∧ wx = w3)
    case first =>
      by_cases h0 : a1 = 0
      · have h0b : (a1 != (0 : Int)) = false := by rw [h0]; rfl
        have HDC : Hid (decide (¬ (a1 = 0 ∨ a1 = 1)) = false) := Lib.hid (decide_eq_false (fun h => h (.inl h0)))
        clear h0
        go_wp2_with fail
        go_meet
        exact ⟨by rw [HDC.out], rfl⟩
      · have h0b : (a1 != (0 : Int)) = true := bne_iff_ne.2 h0
        by_cases h1 : a1 = 1
        · have h1b : (a1 != (1 : Int)) = false := by rw [h1]; rfl
          have HDC : Hid (decide (¬ (a1 = 0 ∨ a1 = 1)) = false) := Lib.hid (decide_eq_false (fun h => h (.inr h1)))
          clear h0 h1
          go_wp2_with fail
          go_meet
          exact ⟨by rw [HDC.out], rfl⟩
        · have h1b : (a1 != (1 : Int)) = true := bne_iff_ne.2 h1
          have HDC : Hid (decide (¬ (a1 = 0 ∨ a1 = 1)) = true) := Lib.hid (decide_eq_true (fun h => h.elim h0 h1))
          clear h0 h1
          go_wp2_with fail
          go_meet
          exact ⟨by rw [HDC.out], rfl⟩
    case rest =>
    obtain ⟨rfl, hwc⟩ := hcut
    rw [hwc]
    clear hwc
    go_upto_if 34 with fail
    go_cut [0] from 34 to 34 (fun v0 wx => v0 = .slice q0 m0 k0 ∧ wx = w3)
    case first =>
      by_cases hi : a1 = 0 ∨ a1 = 1
      · have HP := Lib.hid ((if_pos hi).mp HPK.out)
        rw [decide_eq_false (not_not_intro hi)]
        go_wp2_with fail
        go_meet
        exact ⟨HP.out, rfl⟩
      · have HP := Lib.hid ((if_neg hi).mp HPK.out)
        rw [decide_eq_true hi]
        go_wp2_with fail
        go_meet
        exact ⟨HP.out, rfl⟩
    case rest =>
    obtain ⟨rfl, hwc⟩ := hcut
    rw [hwc]
    clear hwc HPK
    have HRS := Lib.hid (refScan_any _ _ _ L HLB.out w3 HSR.out)
    have HWI := Lib.hid (scanW_iff L)
    have HLL : Hid (lookL L = (scanL L 0).map lookF ++ lookR L) := Lib.hid rfl
    have HLR : Hid (lookR L = if scanE L 0 < L.length then [(scanE L 0, toldB restB (L.length - scanE L 0))] else []) := Lib.hid rfl
    have hle := (scanE_le L L.length 0 (by omega) (Nat.zero_le _)).2
    have hLl := HLB.out.1
    have hm0 : m0 = L.length := HSR.out.len
    subst hm0
    obtain ⟨E0, hE0⟩ : ∃ E0, scanE L 0 = E0 := ⟨_, rfl⟩
    obtain ⟨V0, hV0⟩ : ∃ V0, scanW L = V0 := ⟨_, rfl⟩
    obtain ⟨N0, hN0⟩ : ∃ N0, L.length = N0 := ⟨_, rfl⟩
    rw [hE0, hV0] at HRS
    rw [hE0, hV0] at HWI
    rw [hE0] at HLR hle
    rw [hN0] at HRS HWI HLR hle hLl HSR ⊢
    have HN0 := Lib.hid hN0
    clear hE0 hV0 hN0
    go_wp2_with fail
    refine HRS.out.mono ?_
    rintro e w4 ⟨v4, ys, rfl, hown4, hys4, hsl4, hb34⟩
    obtain ⟨ka, kc, rfl⟩ := own_form hown4
    have hB4 := step_below HB3.out hb34
    have Y34 := Lib.hid (boxed_below Y33.out hb34 Y33.out.lt)
    have Y44 := Lib.hid (boxed_below Y43.out hb34 Y43.out.lt)
    have HB4 := Lib.hid hB4
    have HB34 := Lib.hid hb34
    have HO4 := Lib.hid hown4
    have HYS := Lib.hid hys4
    have HSL4 := Lib.hid hsl4
    have hz34 := hb34.size
    have hw4 : w.heap.size + 1 < w4.heap.size := Y44.out.lt
    obtain ⟨W5, hW5⟩ : ∃ W5, ((((w4.alloc (.cells #[] 3)).alloc (.cells #[] 9)).alloc (.cells #[.slice (some ⟨w4.heap.size, 0, none⟩) 0 0] 30)).alloc (.cells #[.slice (some ⟨w4.heap.size + 1, 0, none⟩) 0 0] 31)) = W5 := ⟨_, rfl⟩
    have hT5 := Two.start w4
    rw [hW5] at hT5
    have HT5 := Lib.hid hT5
    have HW5 := Lib.hid hW5
    clear hb34 hown4 hys4 hsl4 hB4 hT5 hW5 HRS Y33 Y43
    go_upto_region 11 with fail
    rw [HW5.out]
    obtain ⟨b7, hb7e⟩ : ∃ b7, w4.heap.size + 1 + 1 = b7 := ⟨_, rfl⟩
    obtain ⟨b8, hb8e⟩ : ∃ b8, b7 + 1 = b8 := ⟨_, rfl⟩
    rw [hb7e] at HT5 ⊢
    rw [hb8e] at HT5 ⊢
    have hne78 : b7 ≠ b8 := by omega
    have hl7 : w4.heap.size ≤ b7 := by omega
    have hl8 : w4.heap.size ≤ b8 := by omega
    obtain ⟨N, hN⟩ : ∃ N, ys.length = N := ⟨_, rfl⟩
    have hNs : (scanL L 0).length = N := by rw [← HYS.out, List.length_map, hN]
    have HNS := Lib.hid hNs
    rw [hN] at HO4 ⊢
    have HNY := Lib.hid hN
    have hNm : N ≤ 1048576 := by
      have h := scan_few L L.length 0 (by omega)
      rw [HNS.out, HN0.out] at h
      omega
    clear HW5 hb7e hb8e hN hNs
    go_wp2_with fail
    go_loopw [45] (fun i wr => ∃ k : Nat, k ≤ N ∧ i = .int .i64 k ∧ Two w4 b7 b8 (((scanL L 0).take k).map lookF) wr) (fun i _ => N - (intOf i).toNat)
    case atStart => exact ⟨0, Nat.zero_le _, rfl, HT5.out⟩
    case round =>
      obtain ⟨k, hk, rfl, hT⟩ := hrel
      obtain ⟨wo, hwo⟩ : ∃ wo, wo = wr := ⟨_, rfl⟩
      subst hwo
      clear HT5
      by_cases hlt : k < N
      · have hki : (k : Int) < N := by omega
        have hk0 : (0 : Int) ≤ k := by omega
        obtain ⟨y, hy⟩ : ∃ y, ys[k]? = some y := ⟨ys[k]'(by rw [HNY.out]; exact hlt), List.getElem?_eq_getElem _⟩
        obtain ⟨⟨p, kk, bd⟩, yv⟩ := y
        have hxk : (scanL L 0)[k]? = some (p, kk, bd) := by rw [← HYS.out, List.getElem?_map, hy]; rfl
        have hSy := HSL4.out _ (List.mem_of_getElem? hy)
        dsimp only at hSy
        obtain ⟨ya, yc, rfl⟩ := hSy.form
        obtain ⟨g1, g2, g3⟩ := cellsR_get ys _ _ hy
        have hKW := own_below HO4.out hT.b (Nat.le_refl _)
        obtain ⟨gk, rfl, e1⟩ := own_cell hKW g1
        obtain ⟨gk', e0, e2⟩ := own_cell hKW g2
        cases e0
        obtain ⟨gk'', e0, e3⟩ := own_cell hKW g3
        cases e0
        dsimp only at e1 e2 e3
        have hmem := List.mem_of_getElem? hxk
        have hkk := scan_kind L HLB.out.2 L.length 0 (by omega) _ hmem
        have hbd := (scan_bound L L.length 0 (by omega) _ hmem).2
        dsimp only at hkk hbd
        rw [HN0.out] at hbd
        have hpl : p ≤ 1048576 := by omega
        have hbl : bd.length ≤ 1048576 := by omega
        have htk : (((scanL L 0).take (k + 1)).map lookF) = (((scanL L 0).take k).map lookF) ++ [(p, toldB (nameB kk) bd.length)] := by
          rw [List.take_add_one, hxk, List.map_append]; rfl
        have hlk : (((scanL L 0).take k).map lookF).length = k := by rw [List.length_map, List.length_take, HNS.out]; omega
        obtain ⟨xs, hxs⟩ : ∃ xs, ((scanL L 0).take k).map lookF = xs := ⟨_, rfl⟩
        rw [hxs] at hT htk hlk
        have HTK := Lib.hid htk
        have HLK2 := Lib.hid hlk
        have HTWO := Lib.hid hT
        have HTOL : Hid (toldB (nameB kk) bd.length = nameB kk ++ ⟨#[32]⟩ ++ numB bd.length) := Lib.hid rfl
        obtain ⟨q, hq⟩ : ∃ q, bd.length = q := ⟨_, rfl⟩
        rw [hq] at e3 hbl hbd HTK HTOL
        obtain ⟨wA, hwA⟩ : ∃ wA, wo.alloc (.cells #[.int .i64 (p : Nat), .int .i64 (kk : Nat), .slice ya q yc] 33) = wA := ⟨_, rfl⟩
        have hbA : Below wo.heap.size wo wA := by rw [← hwA]; exact (Below.refl _ _).alloc (Nat.le_refl _) _
        have hFA : wA.heap[wo.heap.size]? = some (.cells #[.int .i64 (p : Nat), .int .i64 (kk : Nat), .slice ya q yc] 33 (0, 0)) := by rw [← hwA]; exact World.alloc_heap_new _ _
        have HWA := Lib.hid hwA
        have HBA := Lib.hid hbA
        have HFA := Lib.hid hFA
        clear hT hy hxk hSy g1 g2 g3 hKW hmem htk hlk hxs hq hwA hbA hFA
        go_upto_region 14 with fail
        rw [HWA.out]
        clear HWA e1 e2 e3
        obtain ⟨f1, f2, f3, _⟩ := cell3 HFA.out
        go_upto_if 51 with fail
        go_cut [15] from 52 to 56 (fun v15 wx => v15 = .string (nameB kk) ∧ Below wA.heap.size wA wx)
        case first =>
          by_cases hk4 : kk ≤ 4
          · have hkr : kk = 1 ∨ kk = 2 ∨ kk = 3 ∨ kk = 4 := by have := hkk.1; omega
            have HBB : Hid (Below wA.heap.size wA (wA.alloc (.cells #[.string ⟨#[]⟩, .string ⟨#[104, 101, 97, 100]⟩, .string ⟨#[112, 105, 101, 99, 101]⟩, .string ⟨#[114, 101, 97, 100, 121]⟩, .string ⟨#[114, 101, 99, 111, 114, 100]⟩] 9))) := Lib.hid ((Below.refl _ _).alloc (Nat.le_refl _) _)
            have f2' := (cell3 ((HBB.out.block _ (Array.getElem?_eq_some_iff.1 HFA.out).1).trans HFA.out)).2.1
            rcases hkr with rfl | rfl | rfl | rfl
            all_goals clear hk4
            all_goals go_wp2_with fail
            all_goals go_meet
            all_goals exact ⟨rfl, HBB.out⟩
          · have hk4i : ¬ (kk : Int) ≤ 4 := by omega
            have HNB : Hid ((⟨#[111, 116, 104, 101, 114]⟩ : ByteArray) = nameB kk) := Lib.hid (by unfold nameB; rw [if_neg (by omega), if_neg (by omega), if_neg (by omega), if_neg (by omega)])
            clear hk4
            go_wp2_with fail
            go_meet
            exact ⟨by rw [HNB.out], Below.refl _ _⟩
        case rest =>
        obtain ⟨rfl, hbC⟩ := hcut
        obtain ⟨wB, hwB⟩ : ∃ x, x = wc := ⟨_, rfl⟩
        subst hwB
        have hbAB := HBA.out.trans (hbC.mono HBA.out.size)
        have hTB := HTWO.out.below hbAB
        have hFB := (hbC.block _ (Array.getElem?_eq_some_iff.1 HFA.out).1).trans HFA.out
        obtain ⟨v1, hx1, ho1⟩ := hTB.it
        obtain ⟨v2, hx2, ho2⟩ := hTB.tx
        have hbw4 := hTB.b
        rw [HLK2.out] at ho1 ho2
        obtain ⟨xs1, hxs1⟩ : ∃ xs1, xs.map atV = xs1 := ⟨_, rfl⟩
        obtain ⟨xs2, hxs2⟩ : ∃ xs2, xs.map txV = xs2 := ⟨_, rfl⟩
        rw [hxs1] at ho1
        rw [hxs2] at ho2
        have hoB : wo.heap.size < wB.heap.size := (Array.getElem?_eq_some_iff.1 hFB).1
        have hn1 : v1.ownBlock ≠ some wo.heap.size := fun e => by
          obtain ⟨_, cur, hc⟩ := own_at ho1 e
          rw [hFB] at hc; cases hc
        have hn2 : v2.ownBlock ≠ some wo.heap.size := fun e => by
          obtain ⟨_, cur, hc⟩ := own_at ho2 e
          rw [hFB] at hc; cases hc
        have hb7o : wo.heap.size ≠ b7 := by have := (HTWO.out.it).choose_spec.1.lt; omega
        have hb8o : wo.heap.size ≠ b8 := by have := (HTWO.out.tx).choose_spec.1.lt; omega
        have hTOL := HTOL.out
        obtain ⟨T, hT2⟩ : ∃ T, toldB (nameB kk) q = T := ⟨_, rfl⟩
        rw [hT2] at hTOL HTK
        obtain ⟨nm, hnm⟩ : ∃ nm, nameB kk = nm := ⟨_, rfl⟩
        have hnms : nm.size ≤ 6 := by rw [← hnm]; exact nameB_size kk
        rw [hnm] at hTOL ⊢
        have hnums := numB_size q hbl
        have hspz : (nm ++ (⟨#[32]⟩ : ByteArray)).size ≤ 7 := by rw [ByteArray.size_append]; exact Nat.add_le_add_right hnms 1
        obtain ⟨i1v, hi1v⟩ : ∃ i1v, Value.int .i64 (p : Nat) = i1v := ⟨_, rfl⟩
        obtain ⟨i2v, hi2v⟩ : ∃ i2v, Value.string T = i2v := ⟨_, rfl⟩
        have HI1 := Lib.hid hi1v.symm
        have HI2 := Lib.hid hi2v.symm
        clear hi1v hi2v
        have HG0 : Hid (R17.RG w4 wB b7 b8 [] v1 v2 k xs1 xs2 i1v i2v (fun _ => false) wB.drew) := Lib.hid (R17.RG.drew ⟨Nat.le_refl _, hbw4, KeepsOthers.refl wB, fun _ _ _ _ _ _ => rfl, fun _ => ho1, fun _ => ho2, fun _ => hx1, fun _ => hx2, (fun e => by cases e), (fun e => by cases e), (fun e => by cases e), (fun e => by cases e)⟩)
        have HL1 : Hid (∀ g, v1.ownBlock = some g → g < wB.heap.size) := Lib.hid (fun g hg => (World.ownsRow.lt ho1 g hg).2)
        have HL2 : Hid (∀ g, v2.ownBlock = some g → g < wB.heap.size) := Lib.hid (fun g hg => (World.ownsRow.lt ho2 g hg).2)
        have HFB := Lib.hid hFB
        have HXS1 := Lib.hid hxs1
        have HXS2 := Lib.hid hxs2
        have HTE := Lib.hid hTOL
        have HITO := Lib.hid (fun (V : World) (hT : Tens V) => itoa_any q hbl V hT)
        have HTN : Hid (∀ V : World, Below w4.heap.size w4 V → Tens V) := Lib.hid (fun V hV => HTT.out V (((HB4.out.trans (hV.mono (by omega))).block gT hgT).trans HOT.out))
        obtain ⟨i1, hi1, hz0, hz1, hz2'⟩ := info_parts (show (Tryd.prog.info? 3).map (fun i => (i.zero, i.size, i.bytes)) = some (some (.int .i64 0), 1, 8) by kernel_rfl)
        obtain ⟨i2, hi2, hy0, hy1, hy2⟩ := info_parts (show (Tryd.prog.info? 9).map (fun i => (i.zero, i.size, i.bytes)) = some (some (.string ⟨#[]⟩), 1, 16) by kernel_rfl)
        clear hbC hbAB hTB hFB hx1 ho1 hx2 ho2 hbw4 hxs1 hxs2 hTOL hT2 hnm f1 f2 f3 HFA
        go_upto_region 17 with fail
        refine region_inv (l := _) (by kernel_rfl) (by decide +kernel) (fun v => { tmps := #[Value.slice q0 N0 k0, Value.int IntKind.i64 a1, Value.int IntKind.i64 a2, undef, undef, Value.pointer (some ⟨w.heap.size, 0, none⟩), Value.pointer (some ⟨w.heap.size + 1, 0, none⟩), Value.pointer (some ⟨w1.heap.size, 0, none⟩), Value.slice (some ⟨gk, 0, none⟩) N kc, Value.int IntKind.i64 (E0 : Int), Value.int IntKind.i64 (V0 : Int), Value.pointer (some ⟨b7, 0, none⟩), Value.pointer (some ⟨b8, 0, none⟩), undef, Value.pointer (some ⟨wo.heap.size, 0, none⟩), Value.string nm, undef, undef, undef, Value.bool true, Value.bool false, Value.slice p0 n c0, Value.int IntKind.i64 (n : Int), Value.bool (decide (3000 < (n : Int))), Value.pointer (some ⟨w1.heap.size, 0, none⟩), Value.pointer (some ⟨w1.heap.size, 0, none⟩), Value.int IntKind.i64 a1, Value.slice p0 n c0, Value.tuple #[], u29, u30, u31, u32, u33, u34, Value.tuple #[Value.slice (some ⟨gk, 0, none⟩) N kc, Value.int IntKind.i64 (E0 : Int), Value.int IntKind.i64 (V0 : Int)], Value.slice q0 N0 k0, Value.tuple #[Value.slice (some ⟨gk, 0, none⟩) N kc, Value.int IntKind.i64 (E0 : Int), Value.int IntKind.i64 (V0 : Int)], Value.slice (some ⟨gk, 0, none⟩) N kc, Value.int IntKind.i64 (E0 : Int), Value.int IntKind.i64 (V0 : Int), Value.slice (some ⟨w4.heap.size, 0, none⟩) 0 0, Value.slice (some ⟨w4.heap.size + 1, 0, none⟩) 0 0, Value.slice (some ⟨gk, 0, none⟩) N kc, Value.int IntKind.i64 (N : Int), Value.int IntKind.i64 (k : Int), Value.bool true, Value.pointer (some ⟨gk, k * 3, none⟩), Value.agg #[Value.int IntKind.i64 (p : Int), Value.int IntKind.i64 (kk : Int), Value.slice ya q yc], Value.pointer (some ⟨wo.heap.size, 1, none⟩), Value.int IntKind.i64 (kk : Int), Value.bool (decide ((kk : Int) ≤ 4)), u52, u53, u54, u55, u56, v 0, v 1, v 2, v 3, v 4, v 5, v 6, v 7, v 8, v 9, v 10, v 11, v 12, v 13, v 14, u72, undef, undef, undef, undef, undef, undef, undef, undef, undef, undef, undef, undef, undef, undef, undef, undef, undef, undef, undef, undef, undef, undef, undef, undef, undef, undef, undef, undef, undef, undef, undef, undef, undef, undef, undef, undef, undef, undef, undef, undef, undef, undef, undef, undef, undef, undef, undef, undef, undef, undef, undef, undef, undef, undef], defers := [] }) (R17.RG w4 wB b7 b8 [] v1 v2 k xs1 xs2 i1v i2v) (R17.RV w4 wB [] v1 v2 k xs1 xs2 i1v i2v wo.heap.size nm ya q yc) (R17.RE wB) R17.RV.keep (fun j => [u57, u58, u59, u60, u61, u62, u63, u64, u65, u66, u67, u68, u69, u70, u71].getD j undef) HG0.out ?hop ?hend
        case hop =>
          simp only [AllDoI]
          refine ⟨?o0, ?o1, ?o2, ?o3, ?o4, ?o5, ?o6, ?o7, ?o8, ?o9, ?o10, ?o11, ?o12, ?o13, ?o14, ?o15, ?o16, trivial⟩
          all_goals intro L v W2 hG hLf hd Q hQ
          all_goals simp [Region.binds] at hd
          all_goals rw [if_pos (show Region.wanted _ _ = true from rfl)]
          case o0 =>
            have hs : L 15 = false := by
              cases e : L 15 with
              | false => rfl
              | true => have h0 : L 0 = false := hLf; rw [hG.z1 e] at h0; cases h0
            have c7 := (hG.x1 hs).cell
            go_wp2
            first | exact ⟨_, rfl, R17.RE.refl _ _ _, rfl, hG.upd (by decide) (by decide) (by decide) (by decide)⟩ | (refine ⟨v1, ?_, R17.RE.refl _ _ _, rfl, hG.upd (by decide) (by decide) (by decide) (by decide)⟩; simp [updV])
          case o1 =>
            go_wp2
            exact ⟨_, rfl, R17.RE.refl _ _ _, rfl, hG.upd (by decide) (by decide) (by decide) (by decide)⟩
          case o2 =>
            have hsz := hG.sz
            obtain ⟨f1, f2, f3, _⟩ := cell3 ((hG.kp wo.heap.size hoB hb7o hb8o hn1 hn2).trans HFB.out)
            have hv1 : v 1 = .pointer (some ⟨wo.heap.size, 0, none⟩) := hd.2
            rw [hv1]
            go_wp2
            refine ⟨.int .i64 (p : Nat), ?_, R17.RE.refl _ _ _, HI1.out.symm, hG.upd (by decide) (by decide) (by decide) (by decide)⟩
            simp [updV, hv1]
          case o3 =>
            have hA2 : (W2.alloc (.cells #[.int .i64 (p : Nat)] 3)).heap[W2.heap.size]? = some (.cells #[.int .i64 (p : Nat)] 3 (0, 0)) := World.alloc_heap_new W2 _
            have hsz := hG.sz
            have hv1 : v 2 = .int .i64 (p : Nat) := hd.2.trans HI1.out
            rw [hv1]
            go_wp2
            refine ⟨.slice (some ⟨W2.heap.size, 0, none⟩) 1 1, ?_, R17.RE.alloc _ _ _ _, ⟨W2.heap.size, rfl, hsz, by rw [HI1.out]; exact hA2⟩, (hG.alloc _).upd (by decide) (by decide) (by decide) (by decide)⟩
            simp [updV, hv1]
          case o4 =>
            obtain ⟨⟨_, hv0'⟩, _, b, hv2, hbz, hbc⟩ := hd
            have hv0 : v 0 = v1 := hv0'
            have hv2 : v 3 = .slice (some ⟨b, 0, none⟩) 1 1 := hv2
            rw [HI1.out] at hbc
            have hsz := hG.sz
            have hbl := hG.bel.size
            have ho := hG.o1 hLf
            refine wpList_append_own_at _ rfl _ _ 30 rfl w4.heap.size 3 i1 (.int .i64 0) 1 8 Tryd.underlying30 hi1 hz0 hz1 hz2' rfl (by decide) (v 0) k xs1 rfl (by rw [hv0]; exact ho) ⟨b, 0, none⟩ 1 1 [.int .i64 (p : Nat)] hv2 rfl (one_cell hbc) (by simp [Value.oneCell']) (by unfold maxLen; omega) (by omega) (by omega) ?_
            intro v' W3 q1 q2 _ q3
            rw [hv0] at q2 q3
            go_wp2
            refine ⟨v', by simp [updV, hv0, hv2], R17.RE.app1 ho HL1.out q2, ⟨by rw [HI1.out]; exact q1, fun g' hg' hm => (by cases hm)⟩, hG.app1 hLf q2⟩
          case o5 =>
            have hs : L 16 = false := by
              cases e : L 16 with
              | false => rfl
              | true => have h0 : L 5 = false := hLf; rw [hG.z2 e] at h0; cases h0
            have c7 := (hG.x2 hs).cell
            go_wp2
            first | exact ⟨_, rfl, R17.RE.refl _ _ _, rfl, hG.upd (by decide) (by decide) (by decide) (by decide)⟩ | (refine ⟨v2, ?_, R17.RE.refl _ _ _, rfl, hG.upd (by decide) (by decide) (by decide) (by decide)⟩; simp [updV])
          case o6 =>
            go_wp2
            exact ⟨_, rfl, R17.RE.refl _ _ _, rfl, hG.upd (by decide) (by decide) (by decide) (by decide)⟩
          case o7 =>
            have hv1 : v 6 = .string nm := hd.2
            rw [hv1]
            go_wp2
            refine ⟨.string (nm ++ (⟨#[32]⟩ : ByteArray)), ?_, R17.RE.refl _ _ _, rfl, hG.upd (by decide) (by decide) (by decide) (by decide)⟩
            simp [updV, hv1]
          case o8 =>
            go_wp2
            exact ⟨_, rfl, R17.RE.refl _ _ _, rfl, hG.upd (by decide) (by decide) (by decide) (by decide)⟩
          case o9 =>
            have hsz := hG.sz
            obtain ⟨f1, f2, f3, _⟩ := cell3 ((hG.kp wo.heap.size hoB hb7o hb8o hn1 hn2).trans HFB.out)
            have hv1 : v 8 = .pointer (some ⟨wo.heap.size, 2, none⟩) := hd.2
            rw [hv1]
            go_wp2
            refine ⟨.slice ya q yc, ?_, R17.RE.refl _ _ _, rfl, hG.upd (by decide) (by decide) (by decide) (by decide)⟩
            simp [updV, hv1]
          case o10 =>
            have hv1 : v 9 = .slice ya q yc := hd.2
            rw [hv1]
            go_wp2
            refine ⟨.int .i64 (q : Nat), ?_, R17.RE.refl _ _ _, rfl, hG.upd (by decide) (by decide) (by decide) (by decide)⟩
            simp [updV, hv1]
          case o11 =>
            have hv1 : v 10 = .int .i64 (q : Nat) := hd.1.2
            have HIT := Lib.hid (HITO.out W2 (HTN.out W2 hG.bel))
            rw [hv1]
            clear hd
            go_wp2_with (go_at_call 8; refine HIT.out.mono ?_; rintro e w' ⟨rfl, hb'⟩)
            refine ⟨.string (numB q), ?_, R17.RE.below _ _ hb', rfl, (hG.below hb').upd (by decide) (by decide) (by decide) (by decide)⟩
            simp [updV, hv1]
          case o12 =>
            obtain ⟨⟨_, h7'⟩, _, h11'⟩ := hd
            have h7 : v 7 = .string (nm ++ ⟨#[32]⟩) := h7'
            have h11 : v 11 = .string (numB q) := h11'
            have HTE2 := HTE.out
            rw [h7, h11]
            go_wp2
            refine ⟨.string T, ?_, R17.RE.refl _ _ _, HI2.out.symm, hG.upd (by decide) (by decide) (by decide) (by decide)⟩
            simp [updV, h7, h11, HTE2]
          case o13 =>
            have hA2 : (W2.alloc (.cells #[.string T] 9)).heap[W2.heap.size]? = some (.cells #[.string T] 9 (0, 0)) := World.alloc_heap_new W2 _
            have hsz := hG.sz
            have hv1 : v 12 = .string T := hd.2.trans HI2.out
            rw [hv1]
            go_wp2
            refine ⟨.slice (some ⟨W2.heap.size, 0, none⟩) 1 1, ?_, R17.RE.alloc _ _ _ _, ⟨W2.heap.size, rfl, hsz, by rw [HI2.out]; exact hA2⟩, (hG.alloc _).upd (by decide) (by decide) (by decide) (by decide)⟩
            simp [updV, hv1]
          case o14 =>
            obtain ⟨⟨_, hv0'⟩, ⟨_, b, hv2, hbz, hbc⟩, _⟩ := hd
            have hv0 : v 5 = v2 := hv0'
            have hv2 : v 13 = .slice (some ⟨b, 0, none⟩) 1 1 := hv2
            rw [HI2.out] at hbc
            have hsz := hG.sz
            have hbl := hG.bel.size
            have ho := hG.o2 hLf
            refine wpList_append_own_at _ rfl _ _ 31 rfl w4.heap.size 9 i2 (.string ⟨#[]⟩) 1 16 Tryd.underlying31 hi2 hy0 hy1 hy2 rfl (by decide) (v 5) k xs2 rfl (by rw [hv0]; exact ho) ⟨b, 0, none⟩ 1 1 [.string T] hv2 rfl (one_cell hbc) (by simp [Value.oneCell']) (by unfold maxLen; omega) (by omega) (by omega) ?_
            intro v' W3 q1 q2 _ q3
            rw [hv0] at q2 q3
            go_wp2
            refine ⟨v', by simp [updV, hv0, hv2], R17.RE.app2 ho HL2.out q2, ⟨by rw [HI2.out]; exact q1, fun g' hg' hm => (by cases hm)⟩, hG.app2 hLf q2⟩
          case o15 =>
            obtain ⟨⟨h3, hv3, hav3⟩, _, ⟨h0, _⟩, _⟩ := hd
            have x8 := hG.x1 hLf
            obtain ⟨ea, ec, e3⟩ := own_form hv3
            rw [e3] at hv3 hav3 ⊢
            have c7 := x8.cell
            have f7 := x8.frozen
            go_wp2
            refine ⟨undef, ?_, R17.RE.st1 x8, trivial, hG.st1 hLf h3 h0 hne78 hl7 hv3 hav3⟩
            simp [updV, e3]
          case o16 =>
            obtain ⟨⟨h3, hv3, hav3⟩, _, _, _, _, _, _,  ⟨h0, _⟩, _⟩ := hd
            have x8 := hG.x2 hLf
            obtain ⟨ea, ec, e3⟩ := own_form hv3
            rw [e3] at hv3 hav3 ⊢
            have c7 := x8.cell
            have f7 := x8.frozen
            go_wp2
            refine ⟨undef, ?_, R17.RE.st2 x8, trivial, hG.st2 hLf h3 h0 hne78 hl8 hv3 hav3⟩
            simp [updV, e3]
        case hend =>
          intro Lb v W2 hG hv
          obtain ⟨_, u1, x1', r1, _⟩ := hG.y1 (hv 15 (by decide)).1
          obtain ⟨_, u2, x2', r2, _⟩ := hG.y2 (hv 16 (by decide)).1
          have hbl := hG.bel
          have hT2 : Two w4 b7 b8 (((scanL L 0).take (k + 1)).map lookF) W2 := by
            rw [HTK.out]
            exact ⟨⟨u1, x1', by rw [List.length_append, List.map_append, HLK2.out, HXS1.out]; have h := r1; rw [HI1.out] at h; exact h⟩, ⟨u2, x2', by rw [List.length_append, List.map_append, HLK2.out, HXS2.out]; have h := r2; rw [HI2.out] at h; exact h⟩, hbl⟩
          have HT2 := Lib.hid hT2
          clear hT2 x1' r1 x2' r2 hbl hG hv
          go_wp2_with fail
          go_roundw
          case rel => exact ⟨k + 1, by omega, by go_num, HT2.out⟩
          case measure => simp [intOf]; omega
      · obtain rfl : k = N := by omega
        have hki : ¬ (k : Int) < k := by omega
        have hall : (scanL L 0).take k = scanL L 0 := List.take_of_length_le (Nat.le_of_eq HNS.out)
        rw [hall] at hT
        have HTA := Lib.hid hT
        clear hT hall
        have hle2 := hle
        go_upto_if 74 with fail
        go_cut [10] from 74 to 87 (fun v10 wx => v10 = .int .i64 (V0 : Nat) ∧ Two w4 b7 b8 (lookL L) wx)
        case first =>
          by_cases hV : V0 = 0
          · have hVb : ((V0 : Int) != (0 : Int)) = false := by rw [hV]; rfl
            have hnl := HWI.out.1 hV
            have HTF : Hid (Two w4 b7 b8 (lookL L) wo) := Lib.hid (by
              rw [HLL.out, HLR.out, if_neg hnl, List.append_nil]; exact HTA.out)
            clear hV hnl
            go_wp2_with fail
            go_meet
            exact ⟨rfl, HTF.out⟩
          have hVb : ((V0 : Int) != (0 : Int)) = true := bne_iff_ne.2 (by omega)
          have hnl : E0 < N0 := Decidable.byContradiction (fun h => hV (HWI.out.2 h))
          obtain ⟨v1, hx1, ho1⟩ := HTA.out.it
          obtain ⟨v2, hx2, ho2⟩ := HTA.out.tx
          have hbw4 := HTA.out.b
          have hxl : ((scanL L 0).map lookF).length = k := by rw [List.length_map, HNS.out]
          rw [hxl] at ho1 ho2
          have HXL := Lib.hid hxl
          obtain ⟨xs1, hxs1⟩ : ∃ xs1, ((scanL L 0).map lookF).map atV = xs1 := ⟨_, rfl⟩
          obtain ⟨xs2, hxs2⟩ : ∃ xs2, ((scanL L 0).map lookF).map txV = xs2 := ⟨_, rfl⟩
          rw [hxs1] at ho1
          rw [hxs2] at ho2
          have HXS1 := Lib.hid hxs1
          have HXS2 := Lib.hid hxs2
          obtain ⟨q, hq⟩ : ∃ q, N0 - E0 = q := ⟨_, rfl⟩
          have hsub : ((N0 : Int) - (E0 : Int)) = ((q : Nat) : Int) := by omega
          have hbl : q ≤ 1048576 := by omega
          have hnums := numB_size q hbl
          obtain ⟨T, hT2⟩ : ∃ T, toldB restB q = T := ⟨_, rfl⟩
          have HTE : Hid (T = (⟨#[114, 101, 115, 116, 32]⟩ : ByteArray) ++ numB q) := Lib.hid (by rw [← hT2]; rfl)
          have HLA : Hid (lookL L = (scanL L 0).map lookF ++ [(E0, T)]) := Lib.hid (by rw [HLL.out, HLR.out, if_pos hnl, hq, hT2])
          obtain ⟨i1v, hi1v⟩ : ∃ i1v, Value.int .i64 (E0 : Nat) = i1v := ⟨_, rfl⟩
          obtain ⟨i2v, hi2v⟩ : ∃ i2v, Value.string T = i2v := ⟨_, rfl⟩
          have HI1 := Lib.hid hi1v.symm
          have HI2 := Lib.hid hi2v.symm
          obtain ⟨wB, hwB⟩ : ∃ x, x = wo := ⟨_, rfl⟩
          subst hwB
          have HG0 : Hid (R20.RG w4 wB b7 b8 [] v1 v2 k xs1 xs2 i1v i2v (fun _ => false) wB.drew) := Lib.hid (R20.RG.drew ⟨Nat.le_refl _, hbw4, KeepsOthers.refl wB, fun _ _ _ _ _ _ => rfl, fun _ => ho1, fun _ => ho2, fun _ => hx1, fun _ => hx2, (fun e => by cases e), (fun e => by cases e), (fun e => by cases e), (fun e => by cases e)⟩)
          have HL1 : Hid (∀ g, v1.ownBlock = some g → g < wB.heap.size) := Lib.hid (fun g hg => (World.ownsRow.lt ho1 g hg).2)
          have HL2 : Hid (∀ g, v2.ownBlock = some g → g < wB.heap.size) := Lib.hid (fun g hg => (World.ownsRow.lt ho2 g hg).2)
          have HITO := Lib.hid (fun (V : World) (hT : Tens V) => itoa_any q hbl V hT)
          have HTN : Hid (∀ V : World, Below w4.heap.size w4 V → Tens V) := Lib.hid (fun V hV => HTT.out V (((HB4.out.trans (hV.mono (by omega))).block gT hgT).trans HOT.out))
          obtain ⟨i1, hi1, hz0, hz1, hz2'⟩ := info_parts (show (Tryd.prog.info? 3).map (fun i => (i.zero, i.size, i.bytes)) = some (some (.int .i64 0), 1, 8) by kernel_rfl)
          obtain ⟨i2, hi2, hy0, hy1, hy2⟩ := info_parts (show (Tryd.prog.info? 9).map (fun i => (i.zero, i.size, i.bytes)) = some (some (.string ⟨#[]⟩), 1, 16) by kernel_rfl)
          clear hx1 ho1 hx2 ho2 hbw4 hxl hxs1 hxs2 hq hT2 hi1v hi2v hV hnl HTA
          go_upto_region 20 with fail
          obtain ⟨bz, hbz⟩ : ∃ bz, ((V0 : Int) != (0 : Int)) = bz := ⟨_, rfl⟩
          rw [hbz]
          clear hbz hVb
          refine region_inv (l := _) (by kernel_rfl) (by decide +kernel) (fun v => { tmps := #[Value.slice q0 N0 k0, Value.int IntKind.i64 a1, Value.int IntKind.i64 a2, undef, undef, Value.pointer (some ⟨w.heap.size, 0, none⟩), Value.pointer (some ⟨w.heap.size + 1, 0, none⟩), Value.pointer (some ⟨w1.heap.size, 0, none⟩), Value.slice ka k kc, Value.int IntKind.i64 (E0 : Int), Value.int IntKind.i64 (V0 : Int), Value.pointer (some ⟨b7, 0, none⟩), Value.pointer (some ⟨b8, 0, none⟩), undef, u14, u15, undef, undef, undef, Value.bool true, Value.bool false, Value.slice p0 n c0, Value.int IntKind.i64 (n : Int), Value.bool (decide (3000 < (n : Int))), Value.pointer (some ⟨w1.heap.size, 0, none⟩), Value.pointer (some ⟨w1.heap.size, 0, none⟩), Value.int IntKind.i64 a1, Value.slice p0 n c0, Value.tuple #[], u29, u30, u31, u32, u33, u34, Value.tuple #[Value.slice ka k kc, Value.int IntKind.i64 (E0 : Int), Value.int IntKind.i64 (V0 : Int)], Value.slice q0 N0 k0, Value.tuple #[Value.slice ka k kc, Value.int IntKind.i64 (E0 : Int), Value.int IntKind.i64 (V0 : Int)], Value.slice ka k kc, Value.int IntKind.i64 (E0 : Int), Value.int IntKind.i64 (V0 : Int), Value.slice (some ⟨w4.heap.size, 0, none⟩) 0 0, Value.slice (some ⟨w4.heap.size + 1, 0, none⟩) 0 0, Value.slice ka k kc, Value.int IntKind.i64 (k : Int), Value.int IntKind.i64 (k : Int), Value.bool false, u47, u48, u49, u50, u51, u52, u53, u54, u55, u56, u57, u58, u59, u60, u61, u62, u63, u64, u65, u66, u67, u68, u69, u70, u71, u72, Value.int IntKind.i64 (V0 : Int), Value.bool bz, v 0, v 1, v 2, v 3, v 4, v 5, v 6, v 7, v 8, v 9, v 10, v 11, v 12, undef, undef, undef, undef, undef, undef, undef, undef, undef, undef, undef, undef, undef, undef, undef, undef, undef, undef, undef, undef, undef, undef, undef, undef, undef, undef, undef, undef, undef, undef, undef, undef, undef, undef, undef, undef, undef, undef, undef], defers := [] }) (R20.RG w4 wB b7 b8 [] v1 v2 k xs1 xs2 i1v i2v) (R20.RV w4 wB [] v1 v2 k xs1 xs2 i1v i2v q (⟨#[]⟩ : ByteArray) q0 N0 k0) (R20.RE wB) R20.RV.keep (fun _ => undef) HG0.out ?hop ?hend
          case hop =>
            simp only [AllDoI]
            refine ⟨?o0, ?o1, ?o2, ?o3, ?o4, ?o5, ?o6, ?o7, ?o8, ?o9, ?o10, ?o11, ?o12, ?o13, ?o14, trivial⟩
            all_goals intro L v W2 hG hLf hd Q hQ
            all_goals simp [Region.binds] at hd
            all_goals rw [if_pos (show Region.wanted _ _ = true from rfl)]
            case o0 =>
              have hs : L 13 = false := by
                cases e : L 13 with
                | false => rfl
                | true => have h0 : L 0 = false := hLf; rw [hG.z1 e] at h0; cases h0
              have c7 := (hG.x1 hs).cell
              go_wp2
              first | exact ⟨_, rfl, R20.RE.refl _ _ _, rfl, hG.upd (by decide) (by decide) (by decide) (by decide)⟩ | (refine ⟨v1, ?_, R20.RE.refl _ _ _, rfl, hG.upd (by decide) (by decide) (by decide) (by decide)⟩; simp [updV])
            case o1 =>
              go_wp2
              refine ⟨.int .i64 (E0 : Nat), ?_, R20.RE.refl _ _ _, HI1.out.symm, hG.upd (by decide) (by decide) (by decide) (by decide)⟩
              simp [updV]
            case o2 =>
              have hA2 : (W2.alloc (.cells #[.int .i64 (E0 : Nat)] 3)).heap[W2.heap.size]? = some (.cells #[.int .i64 (E0 : Nat)] 3 (0, 0)) := World.alloc_heap_new W2 _
              have hsz := hG.sz
              have hv1 : v 1 = .int .i64 (E0 : Nat) := hd.2.trans HI1.out
              rw [hv1]
              go_wp2
              refine ⟨.slice (some ⟨W2.heap.size, 0, none⟩) 1 1, ?_, R20.RE.alloc _ _ _ _, ⟨W2.heap.size, rfl, hsz, by rw [HI1.out]; exact hA2⟩, (hG.alloc _).upd (by decide) (by decide) (by decide) (by decide)⟩
              simp [updV, hv1]
            case o3 =>
              obtain ⟨⟨_, hv0'⟩, _, b, hv2, hbz, hbc⟩ := hd
              have hv0 : v 0 = v1 := hv0'
              have hv2 : v 2 = .slice (some ⟨b, 0, none⟩) 1 1 := hv2
              rw [HI1.out] at hbc
              have hsz := hG.sz
              have hbl := hG.bel.size
              have ho := hG.o1 hLf
              refine wpList_append_own_at _ rfl _ _ 30 rfl w4.heap.size 3 i1 (.int .i64 0) 1 8 Tryd.underlying30 hi1 hz0 hz1 hz2' rfl (by decide) (v 0) k xs1 rfl (by rw [hv0]; exact ho) ⟨b, 0, none⟩ 1 1 [.int .i64 (E0 : Nat)] hv2 rfl (one_cell hbc) (by simp [Value.oneCell']) (by unfold maxLen; omega) (by omega) (by omega) ?_
              intro v' W3 q1 q2 _ q3
              rw [hv0] at q2 q3
              go_wp2
              refine ⟨v', by simp [updV, hv0, hv2], R20.RE.app1 ho HL1.out q2, ⟨by rw [HI1.out]; exact q1, fun g' hg' hm => (by cases hm)⟩, hG.app1 hLf q2⟩
            case o4 =>
              have hs : L 14 = false := by
                cases e : L 14 with
                | false => rfl
                | true => have h0 : L 4 = false := hLf; rw [hG.z2 e] at h0; cases h0
              have c7 := (hG.x2 hs).cell
              go_wp2
              first | exact ⟨_, rfl, R20.RE.refl _ _ _, rfl, hG.upd (by decide) (by decide) (by decide) (by decide)⟩ | (refine ⟨v2, ?_, R20.RE.refl _ _ _, rfl, hG.upd (by decide) (by decide) (by decide) (by decide)⟩; simp [updV])
            case o5 =>
              go_wp2
              refine ⟨.slice q0 N0 k0, ?_, R20.RE.refl _ _ _, rfl, hG.upd (by decide) (by decide) (by decide) (by decide)⟩
              simp [updV]
            case o6 =>
              have hv1 : v 5 = .slice q0 N0 k0 := hd.2
              rw [hv1]
              go_wp2
              refine ⟨.int .i64 (N0 : Nat), ?_, R20.RE.refl _ _ _, rfl, hG.upd (by decide) (by decide) (by decide) (by decide)⟩
              simp [updV, hv1]
            case o7 =>
              go_wp2
              refine ⟨.int .i64 (E0 : Nat), ?_, R20.RE.refl _ _ _, HI1.out.symm, hG.upd (by decide) (by decide) (by decide) (by decide)⟩
              simp [updV]
            case o8 =>
              obtain ⟨⟨_, h6'⟩, _, h7'⟩ := hd
              have h6 : v 6 = .int .i64 (N0 : Nat) := h6'
              have h7 : v 7 = .int .i64 (E0 : Nat) := h7'.trans HI1.out
              rw [h6, h7]
              go_wp2
              refine ⟨.int .i64 (q : Nat), ?_, R20.RE.refl _ _ _, rfl, hG.upd (by decide) (by decide) (by decide) (by decide)⟩
              simp [updV, h6, h7, hsub]
            case o9 =>
              have hv1 : v 8 = .int .i64 (q : Nat) := hd.1.2
              have HIT := Lib.hid (HITO.out W2 (HTN.out W2 hG.bel))
              rw [hv1]
              clear hd
              go_wp2_with (go_at_call 8; refine HIT.out.mono ?_; rintro e w' ⟨rfl, hb'⟩)
              refine ⟨.string (numB q), ?_, R20.RE.below _ _ hb', rfl, (hG.below hb').upd (by decide) (by decide) (by decide) (by decide)⟩
              simp [updV, hv1]
            case o10 =>
              have h11 : v 9 = .string (numB q) := hd.2
              have HTE2 := HTE.out
              rw [h11]
              go_wp2
              refine ⟨.string T, ?_, R20.RE.refl _ _ _, HI2.out.symm, hG.upd (by decide) (by decide) (by decide) (by decide)⟩
              simp [updV, h11, HTE2]
            case o11 =>
              have hA2 : (W2.alloc (.cells #[.string T] 9)).heap[W2.heap.size]? = some (.cells #[.string T] 9 (0, 0)) := World.alloc_heap_new W2 _
              have hsz := hG.sz
              have hv1 : v 10 = .string T := hd.2.trans HI2.out
              rw [hv1]
              go_wp2
              refine ⟨.slice (some ⟨W2.heap.size, 0, none⟩) 1 1, ?_, R20.RE.alloc _ _ _ _, ⟨W2.heap.size, rfl, hsz, by rw [HI2.out]; exact hA2⟩, (hG.alloc _).upd (by decide) (by decide) (by decide) (by decide)⟩
              simp [updV, hv1]
            case o12 =>
              obtain ⟨⟨_, hv0'⟩, ⟨_, b, hv2, hbz, hbc⟩, _⟩ := hd
              have hv0 : v 4 = v2 := hv0'
              have hv2 : v 11 = .slice (some ⟨b, 0, none⟩) 1 1 := hv2
              rw [HI2.out] at hbc
              have hsz := hG.sz
              have hbl := hG.bel.size
              have ho := hG.o2 hLf
              refine wpList_append_own_at _ rfl _ _ 31 rfl w4.heap.size 9 i2 (.string ⟨#[]⟩) 1 16 Tryd.underlying31 hi2 hy0 hy1 hy2 rfl (by decide) (v 4) k xs2 rfl (by rw [hv0]; exact ho) ⟨b, 0, none⟩ 1 1 [.string T] hv2 rfl (one_cell hbc) (by simp [Value.oneCell']) (by unfold maxLen; omega) (by omega) (by omega) ?_
              intro v' W3 q1 q2 _ q3
              rw [hv0] at q2 q3
              go_wp2
              refine ⟨v', by simp [updV, hv0, hv2], R20.RE.app2 ho HL2.out q2, ⟨by rw [HI2.out]; exact q1, fun g' hg' hm => (by cases hm)⟩, hG.app2 hLf q2⟩
            case o13 =>
              obtain ⟨⟨h3, hv3, hav3⟩, _, ⟨h0, _⟩, _⟩ := hd
              have x8 := hG.x1 hLf
              obtain ⟨ea, ec, e3⟩ := own_form hv3
              rw [e3] at hv3 hav3 ⊢
              have c7 := x8.cell
              have f7 := x8.frozen
              go_wp2
              refine ⟨undef, ?_, R20.RE.st1 x8, trivial, hG.st1 hLf h3 h0 hne78 hl7 hv3 hav3⟩
              simp [updV, e3]
            case o14 =>
              obtain ⟨⟨h3, hv3, hav3⟩, _, _, _, _, _,  ⟨h0, _⟩, _⟩ := hd
              have x8 := hG.x2 hLf
              obtain ⟨ea, ec, e3⟩ := own_form hv3
              rw [e3] at hv3 hav3 ⊢
              have c7 := x8.cell
              have f7 := x8.frozen
              go_wp2
              refine ⟨undef, ?_, R20.RE.st2 x8, trivial, hG.st2 hLf h3 h0 hne78 hl8 hv3 hav3⟩
              simp [updV, e3]
          case hend =>
            intro Lb v W2 hG hv
            obtain ⟨_, u1, x1', r1, _⟩ := hG.y1 (hv 13 (by decide)).1
            obtain ⟨_, u2, x2', r2, _⟩ := hG.y2 (hv 14 (by decide)).1
            have hbl := hG.bel
            have hT2 : Two w4 b7 b8 (lookL L) W2 := by
              rw [HLA.out]
              exact ⟨⟨u1, x1', by rw [List.length_append, List.map_append, HXL.out, HXS1.out]; have h := r1; rw [HI1.out] at h; exact h⟩, ⟨u2, x2', by rw [List.length_append, List.map_append, HXL.out, HXS2.out]; have h := r2; rw [HI2.out] at h; exact h⟩, hbl⟩
            have HT2 := Lib.hid hT2
            clear hT2 x1' r1 x2' r2 hbl hG hv
            go_wp2_with fail
            go_meet
            exact ⟨rfl, HT2.out⟩
        case rest =>
        obtain ⟨rfl, hT⟩ := hcut
        obtain ⟨wE, hwE⟩ : ∃ x, x = wc := ⟨_, rfl⟩
        subst hwE
        obtain ⟨M, hM⟩ : ∃ M, (lookL L).length = M := ⟨_, rfl⟩
        obtain ⟨v1, hx1, ho1⟩ := hT.it
        obtain ⟨v2, hx2, ho2⟩ := hT.tx
        have hb4E := hT.b
        rw [hM] at ho1 ho2
        have HM := Lib.hid hM
        obtain ⟨ra, rc, rfl⟩ := own_form ho1
        obtain ⟨ta, tc, rfl⟩ := own_form ho2
        have hMl : M ≤ 1048577 := by
          rw [← hM]
          unfold lookL
          rw [List.length_append, List.length_map, HNS.out]
          have : (lookR L).length ≤ 1 := by unfold lookR; split <;> simp
          omega
        have y36 := boxed_below Y34.out hb4E Y34.out.lt
        have y46 := boxed_below Y44.out hb4E Y44.out.lt
        obtain ⟨c', hc1, hc2⟩ := and1023 a2
        obtain ⟨q, hq⟩ : ∃ q, 1 + c' = q := ⟨_, rfl⟩
        have hqi : (1 : Int) + (c' : Int) = (q : Int) := by omega
        have hq1 : 1 ≤ q := by omega
        have hq2 : q ≤ 1024 := by omega
        have hzE := hb4E.size
        obtain ⟨w7, hw7⟩ : ∃ w7, wE.setCell ⟨w.heap.size, 0, none⟩ (.int .i64 (q : Int)) = w7 := ⟨_, rfl⟩
        have z7 : w7.heap.size = wE.heap.size := by rw [← hw7]; simp
        have Y37 : Hid (Boxed w7 w.heap.size 3 (.int .i64 (q : Int))) := Lib.hid (by rw [← hw7]; exact y36.set _)
        have Y47 : Hid (Boxed w7 (w.heap.size + 1) 4 (.bool false)) := Lib.hid (by rw [← hw7]; exact y46.other (by omega) _)
        have X17 : Hid (Boxed w7 b7 30 (.slice ra M rc)) := Lib.hid (by rw [← hw7]; exact hx1.other (by omega) _)
        have X27 : Hid (Boxed w7 b8 31 (.slice ta M tc)) := Lib.hid (by rw [← hw7]; exact hx2.other (by omega) _)
        have O17 : Hid (w7.ownsRow w4.heap.size 3 1 (.slice ra M rc) M ((lookL L).map atV)) := Lib.hid (by rw [← hw7]; exact own_low ho1 (by omega) _)
        have O27 : Hid (w7.ownsRow w4.heap.size 9 1 (.slice ta M tc) M ((lookL L).map txV)) := Lib.hid (by rw [← hw7]; exact own_low ho2 (by omega) _)
        have hB7 : Below w.heap.size w w7 := by rw [← hw7]; exact (HB4.out.trans (hb4E.mono (by omega))).setCell (p := ⟨w.heap.size, 0, none⟩) (Nat.le_refl _) _
        have h78 : Below w7.heap.size w7 (w7.alloc (.cells #[.int .i64 0] 3)) := (Below.refl _ _).alloc (Nat.le_refl _) _
        have hbt : But [w.heap.size] w3 (w7.alloc (.cells #[.int .i64 0] 3)) := by
          have h1 : But [w.heap.size] w3 w7 := by rw [← hw7]; exact (But.of_below (HB34.out.trans (hb4E.mono hz34))).set (by simp) _
          exact h1.trans' (But.of_below h78)
        have HLO := Lib.hid (HLK.out _ hbt)
        have c36 := y36.cell
        have f36 := y36.frozen
        have HW7 := Lib.hid hw7
        have HB7 := Lib.hid hB7
        have hw0 : w.heap.size + 1 < w7.heap.size := Y47.out.lt
        clear hT hx1 hx2 ho1 ho2 hb4E hM y36 y46 hw7 hB7 h78 hbt hzE
        go_upto_region 23 with fail
        rw [HW7.out, ← z7]
        have Z7 := Lib.hid z7
        clear HW7 z7 c36 f36
        go_wp2_with fail
        refine HLO.out.mono ?_
        rintro e w10 ⟨X, S, Bs, g, va, vc, rfl, hbod, hb10⟩
        have hbA : Below w7.heap.size w7 w10 := ((Below.refl _ _).alloc (Nat.le_refl _) _).trans (hb10.mono (by simp))
        have hy0 : Boxed w10 w7.heap.size 3 (.int .i64 0) := (hb10.block w7.heap.size (by simp)).trans (Boxed.new w7 3 (.int .i64 0))
        have hg1 := hbod.l1
        have hg2 := hbod.l2
        have hg3 := hbod.sc.l1
        have hg4 := hbod.sc.l2
        have hg5 := hbod.bx.lt
        have hg6 := hbod.bk.lt
        have hg7 := hbod.sc.hs
        have hg8 := hbod.sc.hg
        rw [World.size_alloc] at hg1 hg2 hg3 hg4
        have hbod0 : BodAt w.heap.size w10 X S Bs g va vc L.length L := hbod.le (by rw [World.size_alloc]; omega)
        have hT10 : w10.heap[gT]? = some oT := ((HB7.out.trans (hbA.mono (by omega))).block gT hgT).trans HOT.out
        clear hb10 HLO hbod
        go_wp2_with fail
        rename_i K' hKQ
        refine (wpIn_wide (n := 4)).1 ?_
        refine wpIn_act ?_
        intro A hA
        refine rangeA rfl (by omega) (gf := 26) (lb := #[.pointer (some ⟨X, 0, none⟩), .pointer (some ⟨S, 0, none⟩)]) (by rw [hA]; rfl) trivial (enters_of Tryd.func26 (by kernel_rfl) rfl)
          (look1 X S Bs g w.heap.size va vc L HLB.out w10 (by omega) hbod0 oT hT10 HTT.out hgT)
          (fun x W l o r hl h => h) (fun r h => by simp at h; omega) (by omega) (Below.refl _ _) (fun _ => rfl)
          (lcI w7 q) (lcX w7 q) (lcI_own (by omega)) (lcX_own (by omega))
          (fun s W r v hr ⟨h1, h0, h2⟩ => by simp at hr; exact ⟨h1.other (by omega) v, h0, h2.setCell (by show w7.heap.size ≤ r; omega) v⟩) (fun c s W r v hr ⟨hc, h1, h0, h2⟩ => by simp at hr; exact ⟨hc, h1.other (by omega) v, h0, h2.setCell (by show w7.heap.size ≤ r; omega) v⟩)
          (fun s W r v hr1 hr2 ⟨h1, h0, h2⟩ => ⟨h1.other (by omega) v, h0, h2.setCell (by show w7.heap.size ≤ r; omega) v⟩) (fun c s W r v hr1 hr2 ⟨hc, h1, h0, h2⟩ => ⟨hc, h1.other (by omega) v, h0, h2.setCell (by show w7.heap.size ≤ r; omega) v⟩)
          ⟨hy0, (show 0 < q by omega), hbA⟩ (fun x => { tmps := ((((A.tmps.setIfInBounds 94 (.int .i64 (x.1 : Nat))).setIfInBounds 95 (.string x.2)).setIfInBounds 17 (.int .i64 (x.1 : Nat))).setIfInBounds 18 (.string x.2)), defers := [] }) ?assign ?body ?done ?stop
        case assign =>
          rintro l2 ⟨pa, tx⟩ Wa KK hK
          rw [hA] at hK ⊢
          dsimp only [encX] at hK ⊢
          gi_wp2
          exact hK
        case body =>
          rintro l2 pre ⟨pa, tx⟩ W ⟨h1, h0q, h2⟩ hp hz3 _
          have hjx : (lookL L)[pre.length]? = some (pa, tx) ∧ pre.length < M := by
            obtain ⟨t, ht⟩ := hp
            have e : (lookL L)[pre.length]? = some (pa, tx) := by
              rw [← ht, List.append_assoc, List.getElem?_append_right (Nat.le_refl _), Nat.sub_self]; rfl
            exact ⟨e, by rw [← HM.out]; exact (List.getElem?_eq_some_iff.1 e).1⟩
          obtain ⟨hjx, hjl⟩ := hjx
          obtain ⟨j, hj⟩ : ∃ j, pre.length = j := ⟨_, rfl⟩
          have HPL : Hid ((pre ++ [((pa, tx) : LX)]).length = j + 1) := Lib.hid (by rw [List.length_append, hj]; rfl)
          rw [hj] at hjx hjl h1 h0q
          obtain ⟨ga, rfl, e1⟩ := own_cell (own_below O17.out h2 (Nat.le_refl _)) (show ((lookL L).map atV)[j]? = some (atV (pa, tx)) by rw [List.getElem?_map, hjx]; rfl)
          obtain ⟨gt, rfl, e2⟩ := own_cell (own_below O27.out h2 (Nat.le_refl _)) (show ((lookL L).map txV)[j]? = some (txV (pa, tx)) by rw [List.getElem?_map, hjx]; rfl)
          replace e1 : W.cell? ⟨ga, j, none⟩ = some (.int .i64 (pa : Nat)) := e1
          replace e2 : W.cell? ⟨gt, j, none⟩ = some (.string tx) := e2
          have cx1 := (boxed_below X17.out h2 X17.out.lt).cell
          have cx2 := (boxed_below X27.out h2 X27.out.lt).cell
          have cq := (boxed_below Y37.out h2 Y37.out.lt).cell
          have ci := h1.cell
          have fi := h1.frozen
          have H1 := Lib.hid h1
          have H2 := Lib.hid h2
          have hge : decide (M ≤ j) = false := decide_eq_false (by omega)
          have hji : (j : Int) < (M : Int) := by omega
          have hj0 : (0 : Int) ≤ j := by omega
          have hj10 : (j : Int) ≤ 1024 := by omega
          have hW3 : w.heap.size ≠ w7.heap.size := by omega
          have hn1 : ((pa : Int) != (pa : Int)) = false := by simp
          have HKF : Hid (∀ u, KeepsFrom w10.heap.size W (W.setCell ⟨w7.heap.size, 0, none⟩ u)) := Lib.hid (fun u => (KeepsOthers.setCell _ _ _).from _)
          have HBX : Hid (∀ u, Boxed (W.setCell ⟨w7.heap.size, 0, none⟩ u) w7.heap.size 3 u) := Lib.hid (fun u => H1.out.set u)
          have HKA : Hid (∀ u, KpA w.heap.size 2 [S, X, Bs, g] w10 W (W.setCell ⟨w7.heap.size, 0, none⟩ u)) := Lib.hid (fun u => ⟨(Below.refl _ W).setCell (p := ⟨w7.heap.size, 0, none⟩) (by show w.heap.size ≤ w7.heap.size; omega) _, fun k h1 h2 => Below.heap_setCell _ _ _ _ (by show k ≠ w7.heap.size; omega), fun k hk => Below.heap_setCell _ _ _ _ (by simp at hk; show k ≠ w7.heap.size; omega)⟩)
          clear h1 h2 hp hjx hj
          rw [hA]
          dsimp only
          by_cases hjq : j + 1 = q
          · have hji2 : (((j : Int) + 1) == (q : Int)) = true := by rw [← hjq]; simp
            have hji3 : ((((j + 1 : Nat)) : Int) == (q : Int)) = true := by rw [hjq]; simp
            gi_wp2
            have hE : ((j : Int) + 1) = ((pre ++ [((pa, tx) : LX)]).length : Nat) := by rw [HPL.out]; push_cast; rfl
            refine ⟨HKF.out _, rfl, ?_, HPL.out.trans hjq, H2.out.setCell (p := ⟨w7.heap.size, 0, none⟩) (Nat.le_refl _) _⟩
            rw [hE]
            exact HBX.out _
          · have hji2 : (((j : Int) + 1) == (q : Int)) = false := beq_eq_false_iff_ne.2 (by omega)
            have hji3 : ((((j + 1 : Nat)) : Int) == (q : Int)) = false := beq_eq_false_iff_ne.2 (by omega)
            gi_wp2
            have hE : ((j : Int) + 1) = ((pre ++ [((pa, tx) : LX)]).length : Nat) := by rw [HPL.out]; push_cast; rfl
            refine ⟨HKF.out _, HKA.out _, ?_, (by rw [HPL.out]; omega), H2.out.setCell (p := ⟨w7.heap.size, 0, none⟩) (Nat.le_refl _) _⟩
            rw [hE]
            exact HBX.out _
        case done =>
          rintro D zs W hD hzs ⟨h1, h0, h2⟩ hK
          rw [hA]
          refine hKQ _ _ ?_
          have hlz : zs.length = M := by rw [hzs, HM.out]
          rw [hlz] at h1 h0
          have hmin : min (q : Int) (M : Int) = (M : Int) := by omega
          have heq : ((M : Int) == (M : Int)) = true := by simp
          have hQW := boxed_below Y37.out h2 Y37.out.lt
          have hTW := boxed_below Y47.out h2 Y47.out.lt
          have hKW := boxed_below X17.out h2 X17.out.lt
          have hDl := (Array.getElem?_eq_some_iff.1 hK).1
          have c1 := h1.cell
          have c2 := hQW.cell
          have c3 := hTW.cell
          have c4 := hKW.cell
          have f3 := hTW.frozen
          have HTW := Lib.hid hTW
          have HKD := Lib.hid hK
          have HBW := Lib.hid (HB7.out.trans (h2.mono HB7.out.size))
          have hDt : w.heap.size + 1 < D := by omega
          clear h1 hQW hTW hKW hK hzs
          go_wp2
          have hKD2 := (Below.heap_setCell W ⟨w.heap.size + 1, 0, none⟩ (.bool true) D (by show D ≠ w.heap.size + 1; omega)).trans HKD.out
          refine ⟨by simp, .inl ⟨_, _, rfl, run_takeDeferred hKD2, ?_⟩⟩
          exact ⟨_, bool_res6 _ _ (w.heap.size + 1) _ rfl ((HTW.out.set _).kept (grownBy_putObj' _ D (.deferred none)) (fun e => by cases e; omega)).cell, rfl, (HBW.out.setCell (p := ⟨w.heap.size + 1, 0, none⟩) (Nat.le_succ _) _).trans (belowK_b (w := w) (Nat.le_refl _) _ D _ (.deferred none) (by omega) hKD2 rfl rfl)⟩
        case stop =>
          rintro D c' pre W hD hp ⟨rfl, h1, h0, h2⟩ hK
          have hpl : pre.length ≤ M := by rw [← HM.out]; exact hp.length_le
          rw [hA]
          refine wpIn_exit ?_
          show Exit.inBlock 2 _ (.exit 2) _ _
          simp only [Exit.inBlock, if_pos]
          simp only [Exit.then]
          refine hKQ _ _ ?_
          rw [h0] at h1 hpl
          have hmin : min (q : Int) (M : Int) = (q : Int) := by omega
          have heq : ((q : Int) == (q : Int)) = true := by simp
          have hQW := boxed_below Y37.out h2 Y37.out.lt
          have hTW := boxed_below Y47.out h2 Y47.out.lt
          have hKW := boxed_below X17.out h2 X17.out.lt
          have hDl := (Array.getElem?_eq_some_iff.1 hK).1
          have c1 := h1.cell
          have c2 := hQW.cell
          have c3 := hTW.cell
          have c4 := hKW.cell
          have f3 := hTW.frozen
          have HTW := Lib.hid hTW
          have HKD := Lib.hid hK
          have HBW := Lib.hid (HB7.out.trans (h2.mono HB7.out.size))
          have hDt : w.heap.size + 1 < D := by omega
          clear h1 hQW hTW hKW hK hp
          go_wp2
          have hKD2 := (Below.heap_setCell W ⟨w.heap.size + 1, 0, none⟩ (.bool true) D (by show D ≠ w.heap.size + 1; omega)).trans HKD.out
          refine ⟨by simp, .inl ⟨_, _, rfl, run_takeDeferred hKD2, ?_⟩⟩
          exact ⟨_, bool_res6 _ _ (w.heap.size + 1) _ rfl ((HTW.out.set _).kept (grownBy_putObj' _ D (.deferred none)) (fun e => by cases e; omega)).cell, rfl, (HBW.out.setCell (p := ⟨w.heap.size + 1, 0, none⟩) (Nat.le_succ _) _).trans (belowK_b (w := w) (Nat.le_refl _) _ D _ (.deferred none) (by omega) hKD2 rfl rfl)⟩

theorem laidOut : laidOutB Tryd.prog = true := by kernel_rfl
/-- All arguments read behind the call as they did. -/
theorem trodAll_below {H : Type} {enc : TypeId × Value → H} {W W' : World} (hb : Below W.heap.size W W') : ∀ (ts : List TypeId) (vs : List Value) (ds : List (DataW H)) (ps : List MemPlace),
    (∀ t ∈ ts, Tryd.prog.readableRec t = true ∧ t < Tryd.prog.types.size) → DataW.TrodAll enc Tryd.prog W 0 (fun _ => true) true ts vs ds ps → (∀ x ∈ ps, x.block < W.heap.size) →
    DataW.TrodAll enc Tryd.prog W' 0 (fun b => decide (b < W.heap.size)) true ts vs ds ps
  | [], vs, ds, ps, _, h, _ => by
    obtain ⟨rfl, rfl, rfl⟩ := trodAll_nil h
    exact trodAll_mk0
  | t :: ts, vs, ds, ps, hr, h, hlt => by
    obtain ⟨v, vs', d, ds', p, q, rfl, rfl, rfl, h1, h2⟩ := trodAll_cons h
    exact trodAll_cons_mk (Below.trod laidOut (hr t (by simp)).1 (hr t (by simp)).2 h1 hb (fun x hx => hlt x (by simp [hx]))) (trodAll_below hb ts vs' ds' q (fun t ht => hr t (by simp [ht])) h2 (fun x hx => hlt x (by simp [hx])))

set_option maxRecDepth 100000 in
theorem contract (H : Type) (enc : TypeId × Value → H) (W : World) (base : Nat) (args : Array Value) (ds gs : List (DataW H)) (before : List MemPlace)
    (hval0 : ∀ (j : Nat) t v, Tryd.f3.params[j]? = some t → args[j]? = some v → Value.okWide Tryd.prog W .any base t v)
    (hW : DataW.Whole enc Tryd.prog Tryd.f3.params.toList Rows.journalLooksSpec.vars false W args.toList ds gs before) (hL : laidMetH Tryd.prog Rows.journalLooksRow.laid W) :
    Calls Tryd.prog 3 args W fun e W' => ∃ v, e = .returned v ∧ Rows.journalLooksSpec.post enc Tryd.prog Tryd.f3 false true false false W args v W' := by
  have hval : ∀ (j : Nat) t v, Tryd.f3.params[j]? = some t → args[j]? = some v → Value.okWide Tryd.prog W .any base t v := hval0
  have hW' := hW
  obtain ⟨p, q, hA0, hV, rfl, hfz, hnd⟩ := hW
  have hA : DataW.TrodAll enc Tryd.prog W 0 (fun _ => true) true Tryd.f3.params.toList args.toList ds p := hA0
  rw [Tryd.params3] at hA hval
  have hAk := hA
  obtain ⟨v0, vs0, d0, ds0, p0', q0, hargs, rfl, rfl, h0, r0⟩ := trodAll_cons hA
  obtain ⟨v1, vs1, d1, ds1, p1', q1, rfl, rfl, rfl, h1, r1⟩ := trodAll_cons r0
  obtain ⟨v2, vs2, d2, ds2, p2', q2, rfl, rfl, rfl, h2, r2⟩ := trodAll_cons r1
  obtain ⟨rfl, rfl, rfl⟩ := trodAll_nil r2
  obtain rfl : args = #[v0, v1, v2] := by cases args; simp_all
  obtain ⟨rfl, rfl⟩ := trodVars_none hV
  simp only [List.append_nil] at hW' hAk
  have hlt := fun x hx => hW'.lt x hx
  have hE : Env W := env_of hL
  clear hA0 hval0
  obtain ⟨p0, n0, c0, l0, rfl, S0, b0⟩ := open_bytes (okWide_slice Tryd.underlying22 (hval 0 22 v0 rfl rfl)) h0
  obtain ⟨a1, rfl, rfl, rfl, w1⟩ := open_int Tryd.underlying3 (hval 1 3 v1 rfl rfl) h1
  obtain ⟨a2, rfl, rfl, rfl, w2⟩ := open_int Tryd.underlying3 (hval 2 3 v2 rfl rfl) h2
  refine (walk W hE p0 n0 c0 l0 S0 b0 a1 w1 a2 w2).mono fun e W' ⟨he, hg⟩ => ?_
  subst he
  have hargs := trodAll_below hg _ _ _ _ (by intro t ht; simp only [List.mem_cons, List.not_mem_nil, or_false] at ht; revert t; rintro t (rfl | rfl | rfl) <;> exact ⟨by kernel_rfl, of_decide_eq_true (by kernel_rfl)⟩) hAk (fun x hx => by simpa using hlt x hx)
  exact ⟨_, rfl, _, _, _, [], _, [], hW', (trodAll_cons_mk (shut_bool Tryd.underlying4 _) trodAll_mk0), hargs, rfl, hg.frame _, fun h => by cases h⟩

noncomputable def laidWorld (os : Os) : World := World.laidAll Tryd.prog os Rows.journalLooksRow.laid
theorem laid_met (os : Os) : laidMet Tryd.prog Rows.journalLooksRow.laid ((laidWorld os).forCall (fun _ _ => 0) ⟨#[], #[.slice none 0 0, .int .i64 0, .int .i64 0], []⟩).memory :=
  laidMet_laidAll _ (by kernel_rfl) (by kernel_rfl)
theorem reads (os : Os) {H : Type} (enc : TypeId × Value → H) : ∃ places, DataW.whole enc Tryd.prog ((laidWorld os).forCall (fun _ _ => 0) ⟨#[], #[.slice none 0 0, .int .i64 0, .int .i64 0], []⟩).memory Tryd.f3.params.toList Rows.journalLooksSpec.vars false (#[.slice none 0 0, .int .i64 0, .int .i64 0] : Array Value).toList 8 = some ([.nil, .lit (.int .i64 0), .lit (.int .i64 0)], [], places) :=
  ⟨[], by kernel_rfl⟩

set_option maxRecDepth 100000 in
theorem lifted (os : Os) (started : os.Started) (H : Type) (enc : TypeId × Value → H) (F : Stop.Interp) :
    ReturnsInHanded {} Tryd.checked os 3 .any ((OpenSpec.ofChange Rows.journalLooksSpec).preRow enc Tryd.prog Tryd.f3 Rows.journalLooksRow.domain false Rows.journalLooksRow.laid) (((OpenSpec.ofChange Rows.journalLooksSpec).at F).post enc Tryd.prog Tryd.f3 false true false false) := by
  obtain ⟨places, hx⟩ := reads os enc
  refine returnsInHanded_of_row (C := Tryd.checked) (s := OpenSpec.ofChange Rows.journalLooksSpec) own started (by kernel_rfl) Tryd.func3
    (witness_row_at (enc := enc) (C := Tryd.checked) false (laidWorld os) #[.slice none 0 0, .int .i64 0, .int .i64 0] (World.laidAll_os _ _ _) (by kernel_rfl) (by kernel_rfl) (by kernel_rfl)
      (OpenSpec.preRow_of_cond 8 hx (by kernel_rfl) (fun k hk => by cases hk) (by kernel_rfl) (laid_met os))) ?_
  intro W base args ds gs before hval hW _ _ _ hL _ _
  exact contract H enc W base args ds gs before hval hW hL

theorem said : Rows.JournalLooksSaid :=
  OpenClaim.holds_of_cond 3 Tryd.f3 rfl rfl rfl rfl rfl rfl rfl ⟨rfl, rfl, rfl, rfl, rfl⟩ rfl rfl rfl rfl rfl (by kernel_rfl) Tryd.func3 (by kernel_rfl)
    (of_decide_eq_true (by kernel_rfl)) (by unfold Func.isWrapper; first | (rw [if_pos (by decide +kernel)]; kernel_rfl) | (rw [if_neg (by decide +kernel)]; exact ⟨rfl, rfl⟩))
    (fun os started H enc _ F => by rw [OpenClaim.pre_eq_preRow]; exact lifted os started H enc F)

theorem plain (f : FuncId) (fn : Func) (hf : Tryd.pinned.checked.prog.funcNamed "saleroom/saleroomlaw07.JournalLooks" = some f) (hfn : Tryd.pinned.checked.prog.funcs[f]? = some fn) :
    false = Tryd.pinned.checked.prog.looks [] ∧ ∀ (j : Nat) t, fn.params[j]? = some t → Tryd.pinned.checked.prog.wantsStandIn t = false := by
  obtain rfl : f = 3 := Option.some.inj ((show Tryd.prog.funcNamed "saleroom/saleroomlaw07.JournalLooks" = some 3 by kernel_rfl).symm.trans hf) |>.symm
  obtain rfl : fn = Tryd.f3 := (Option.some.inj (Tryd.func3.symm.trans hfn)).symm
  refine ⟨by kernel_rfl, fun j t ht => ?_⟩
  rw [Tryd.params3] at ht
  have hm := Array.mem_of_getElem? ht
  simp only [List.mem_toArray, List.mem_cons, List.not_mem_nil, or_false] at hm
  revert hm
  rintro (rfl | rfl | rfl)
  · exact (show Tryd.prog.wantsStandIn 22 = false by kernel_rfl)
  · exact (show Tryd.prog.wantsStandIn 3 = false by kernel_rfl)
  · exact (show Tryd.prog.wantsStandIn 3 = false by kernel_rfl)

theorem card : Rows.JournalLooksCardSaid :=
  Claim7.holds_tied_plain_at .later [] _ _ _ _ said (fun _ h => by cases h) (by kernel_rfl) (fun _ h => by cases h) journalLooks_row_tie rfl ⟨rfl, rfl⟩ (by kernel_rfl) rfl plain (by kernel_rfl)
end Go.Proofs.YtocmfdahnekboaaDoor.journalLooks
