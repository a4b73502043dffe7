/- For whatever atoms, set and count law AtomAdds answers true: atom.Adds tells, of each item of a right atom that the set lacks, by how much it raises the value, as far as is asked for. Condition: the library's table that the row lists holds what its text lays. -/
import Derived.Test.YtfgppkmhjjnnnaaDoorAddL
import Derived.Test.YtfgppkmhjjnnnaaDoorCards
import Derived.Test.YtfgppkmhjjnnnaaDoorTie
import Derived.ProofKit
import Derived.ChangeMaps5
import Derived.OpenShut
import Derived.Carry
import Derived.Lay
import Derived.Deep.DeepHandedRow
import Derived.Deep.DeepWitnessRowRef
namespace Go.Proofs.YtfgppkmhjjnnnaaDoor.atomAdds
open Go.ChangeShapes Go.WideShapes Go.ChangeAt Go.RowKit
set_option linter.unusedVariables false
open Go.Shelf
attribute [local go_sem] Oper.semAt_some

theorem own : ownKnob Tryd.prog.godebug = none := by kernel_rfl

set_option maxRecDepth 100000 in
set_option maxHeartbeats 2000000 in
theorem walk (w : World) (hE : Env w) (p0 : Option Addr) (n0 c0 : Nat) (l0 : List Ent) (S0 : EnsP w.heap.size w (.slice p0 n0 c0) l0) (b0 : (∀ x ∈ l0, okS x.1 ∧ In64 x.2) ∧ l0.length ≤ Go.maxLen) (a1 : Int) (w1 : (Lit.int .u64 a1).wf = true) (a2 : Int) (w2 : (Lit.int .i64 a2).wf = true) :
    Calls Tryd.prog 3 #[.slice p0 n0 c0, .int .u64 a1, .int .i64 a2] w fun e w' => e = .returned (.bool true) ∧ Below w.heap.size w w' := by
  obtain ⟨s, rfl, hs⟩ := u64_bd w1
  have hn := S0.len
  have HOK : Hid (∀ x ∈ l0, okS x.1) := Lib.hid (fun x hx => (b0.1 x hx).1)
  have HN := Lib.hid hn.symm
  have HZ := Lib.hid S0
  have HS := Lib.hid hs
  have HE := Lib.hid hE
  clear S0 b0 hn w1 hs hE
  refine (callsIn_wide (n := 3)).1 ?_
  refine callsIn_of_wp_marks Tryd.func3 rfl trivial ?_ rfl
  simp only [Tryd.ntmps3, List.size_toArray, List.length_cons, List.length_nil, Nat.reduceAdd, Nat.reduceSub, Array.replicate_succ, Array.replicate_zero, List.push_toArray, List.append_toArray, List.nil_append, List.cons_append]
  refine wpIn_wide.2 ?_
  obtain ⟨W0, hW0⟩ : ∃ W0, (w.alloc (.cells #[.int .i64 a2] 3)).alloc (.cells #[.bool false] 4) = W0 := ⟨_, rfl⟩
  have z0 : W0.heap.size = w.heap.size + 1 + 1 := by rw [← hW0]; simp
  have y3 : Boxed W0 w.heap.size 3 (.int .i64 a2) := by rw [← hW0]; exact (Boxed.new w _ _).alloc _
  have y4 : Boxed W0 (w.heap.size + 1) 4 (.bool false) := by
    rw [← hW0]
    have := Boxed.new (w.alloc (.cells #[.int .i64 a2] 3)) 4 (.bool false)
    rw [World.size_alloc] at this; exact this
  have b00 : Below w.heap.size w W0 := by rw [← hW0]; exact ((Below.refl _ w).alloc (Nat.le_refl _) _).alloc (by simp) _
  have HW0 := Lib.hid hW0
  clear hW0
  go_upto_region 1 with fail
  rw [HW0.out]
  clear HW0
  go_wp2_with fail
  refine (atomAlive_any _).mono ?_
  rintro e w4 ⟨rfl, hb1⟩
  have hB1 := b00.trans (hb1.mono b00.size)
  have hw4 : w.heap.size + 1 < w4.heap.size := by have := hb1.size; omega
  have Y3 : Hid (Boxed w4 w.heap.size 3 (.int .i64 a2)) := Lib.hid ((hb1.block _ y3.lt).trans y3)
  have Y4 : Hid (Boxed w4 (w.heap.size + 1) 4 (.bool false)) := Lib.hid ((hb1.block _ y4.lt).trans y4)
  have HB1 := Lib.hid hB1
  clear y3 y4 hb1 b00 z0 hB1
  by_cases h40 : 40 < n0
  · have g0 : decide ((40 : Int) < (n0 : Int)) = true := decide_eq_true (by omega)
    have c4 := Y4.out.cell
    have f4 := Y4.out.frozen
    go_wp2
    exact ⟨_, bool_res6 _ _ (w.heap.size + 1) _ rfl (Y4.out.set _).cell, rfl, HB1.out.setCell (p := ⟨w.heap.size + 1, 0, none⟩) (Nat.le_succ _) _⟩
  have g0 : decide ((40 : Int) < (n0 : Int)) = false := decide_eq_false (by omega)
  have h40' : n0 ≤ 40 := by omega
  clear h40
  obtain ⟨W5, hW5⟩ : ∃ W5, ((((w4.alloc (.cells #[] 3)).alloc (.cells #[] 2)).alloc (.cells #[.slice (some ⟨w4.heap.size, 0, none⟩) 0 0] 25)).alloc (.cells #[.slice (some ⟨w4.heap.size + 1, 0, none⟩) 0 0] 26)) = W5 := ⟨_, rfl⟩
  have hT5 := TwoA.start w4
  rw [hW5] at hT5
  have HT5 := Lib.hid hT5
  have HW5 := Lib.hid hW5
  clear hT5 hW5
  go_upto_region 6 with fail
  rw [HW5.out]
  obtain ⟨b7, hb7e⟩ : ∃ b7, w4.heap.size + 1 + 1 = b7 := ⟨_, rfl⟩
  obtain ⟨b8, hb8e⟩ : ∃ b8, b7 + 1 = b8 := ⟨_, rfl⟩
  rw [hb7e] at HT5 ⊢
  rw [hb8e] at HT5 ⊢
  have hne78 : b7 ≠ b8 := by omega
  have hl7 : w4.heap.size ≤ b7 := by omega
  have hl8 : w4.heap.size ≤ b8 := by omega
  clear HW5 hb7e hb8e
  obtain ⟨F, hF⟩ : ∃ F, l0.filter (rightA 1099511627776) = F := ⟨_, rfl⟩
  obtain ⟨U, hU⟩ : ∃ U, umax (l0.filter (inA 18446744073709551615)) = U := ⟨_, rfl⟩
  have HF := Lib.hid hF
  have HU := Lib.hid hU
  clear hF hU
  go_wp2_with fail
  go_loopw [9] (fun i wr => ∃ k : Nat, k ≤ 64 ∧ i = .int .i64 k ∧ TwoA w4 b7 b8 (addL F U s k) wr) (fun i _ => 64 - (intOf i).toNat)
  case atStart => exact ⟨0, Nat.zero_le _, rfl, HT5.out⟩
  case round =>
    obtain ⟨k, hk, rfl, hT⟩ := hrel
    obtain ⟨wo, hwo⟩ : ∃ x, x = wr := ⟨wr, rfl⟩
    subst hwo
    clear HT5
    by_cases hlt : k < 64
    · have hki : (k : Int) < 64 := by omega
      have HT := Lib.hid hT
      have HBo := Lib.hid hT.b
      have HHA := Lib.hid (fun (x : Nat) W (hx : okS x) => refHas_nat x k W hx hlt)
      clear hT
      go_wp2_with fail
      go_loopw [10, 29] (fun b i wi => ∃ m : Nat, b = .bool (inR (l0.take m) k) ∧ i = .int .i64 m ∧ m ≤ n0 ∧ Below wo.heap.size wo wi) (fun _ i _ => n0 - (intOf i).toNat)
      case atStart => exact ⟨0, rfl, rfl, Nat.zero_le _, Below.refl _ _⟩
      case round =>
        obtain ⟨m, rfl, rfl, hm, hbi⟩ := hrel
        obtain ⟨wi1, hwi1⟩ : ∃ x, x = wr := ⟨wr, rfl⟩
        subst hwi1
        by_cases hlm : m < n0
        · obtain ⟨⟨k1, u1⟩, hkm⟩ : ∃ x, l0[m]? = some x := ⟨_, List.getElem?_eq_getElem (by rw [HN.out]; exact hlm)⟩
          obtain ⟨b, off, rfl, hb, f0, f1⟩ := HZ.out.at_ hkm
          have hkok := HOK.out _ (List.mem_of_getElem? hkm)
          have hnx := inR_next (i := k) hkm
          have hBw : Below w.heap.size w wi1 := (HB1.out.trans (HBo.out.mono (by omega))).trans (hbi.mono (by have := HBo.out.size; omega))
          have d0 := (hBw.cell (p := ⟨b, off + m * 2, none⟩) hb).trans f0
          have d1 := (hBw.cell (p := ⟨b, off + m * 2 + 1, none⟩) hb).trans f1
          simp only at d0 d1 hkok hnx
          have g1 : (0 : Int) ≤ m := by omega
          have g2 : (m : Int) < n0 := by omega
          obtain ⟨W1, hW1⟩ : ∃ W1, wi1.alloc (.cells #[.int .u64 (k1 : Nat), .int .i64 u1] 28) = W1 := ⟨_, rfl⟩
          have hb01 : Below wi1.heap.size wi1 W1 := by rw [← hW1]; exact (Below.refl _ _).alloc (Nat.le_refl _) _
          have hnew : W1.heap[wi1.heap.size]? = some (.cells #[.int .u64 (k1 : Nat), .int .i64 u1] 28) := by rw [← hW1]; exact World.alloc_heap_new wi1 _
          have hBlt : wi1.heap.size < W1.heap.size := by rw [← hW1]; simp
          have e0 : W1.cell? ⟨wi1.heap.size, 0, none⟩ = some (.int .u64 (k1 : Nat)) := cell_of_row W1 _ 0 _ _ _ hnew
          have e1 : W1.cell? ⟨wi1.heap.size, 1, none⟩ = some (.int .i64 u1) := cell_of_row W1 _ 1 _ _ _ hnew
          have HW1 := Lib.hid hW1
          have HNX := Lib.hid hnx
          have HBI := Lib.hid (hbi.trans (hb01.mono hbi.size))
          have HRG := Lib.hid (refRight_any (k1, u1) W1 hkok)
          clear hbi hBw hkm f0 f1 hnx hW1 hnew hb01
          go_upto_region 13 with fail
          rw [HW1.out]
          cases hin0 : inR (l0.take m) k with
          | true =>
            rw [hin0, Bool.true_or] at HNX
            clear hin0
            go_wp2_with fail
            go_roundw
            case rel => exact ⟨m + 1, by rw [HNX.out], by go_num, by omega, HBI.out⟩
            case measure => simp [intOf]; omega
          | false =>
            rw [hin0, Bool.false_or] at HNX
            clear hin0
            cases hra : rightA 1099511627776 (k1, u1) with
            | false =>
              rw [hra] at HRG HNX
              rw [Bool.false_and] at HNX
              clear hra
              go_wp2_with fail
              refine HRG.out.mono ?_
              rintro e W2 ⟨rfl, hW2⟩
              have hb12 : Below W1.heap.size W1 W2 := by rw [hW2]; exact (Below.refl _ _).alloc (Nat.le_refl _) _
              have HB2 := Lib.hid (HBI.out.trans (hb12.mono HBI.out.size))
              clear hW2 hb12
              go_wp2_with fail
              go_roundw
              case rel => exact ⟨m + 1, by rw [HNX.out], by go_num, by omega, HB2.out⟩
              case measure => simp [intOf]; omega
            | true =>
              rw [hra] at HRG HNX
              rw [Bool.true_and] at HNX
              clear hra
              have HHK := Lib.hid (fun W => HHA.out k1 W hkok)
              go_wp2_with fail
              refine HRG.out.mono ?_
              rintro e W2 ⟨rfl, hW2⟩
              have hb12 : Below W1.heap.size W1 W2 := by rw [hW2]; exact (Below.refl _ _).alloc (Nat.le_refl _) _
              have HB2 := Lib.hid (HBI.out.trans (hb12.mono HBI.out.size))
              have k0 := (hb12.cell (p := ⟨wi1.heap.size, 0, none⟩) hBlt).trans e0
              clear hW2 hb12 e0 e1
              go_wp2_with fail
              refine (HHK.out _).mono ?_
              rintro e W3 ⟨rfl, hx⟩
              obtain rfl := hx
              go_wp2_with fail
              go_roundw
              case rel => exact ⟨m + 1, by rw [HNX.out], by go_num, by omega, HB2.out⟩
              case measure => simp [intOf]; omega
        · obtain rfl : m = n0 := by omega
          have hmi : ¬ (m : Int) < m := by omega
          have hin : inR (l0.take m) k = U.testBit k := by
            rw [List.take_of_length_le (Nat.le_of_eq HN.out), inR_umax l0 k HOK.out, HU.out]
          rw [hin]
          clear hin
          have HTW := Lib.hid (HT.out.below hbi)
          clear hbi HT
          have HSU := Lib.hid (addL_succ F U s k)
          cases hub : U.testBit k with
          | false =>
            rw [hub, Bool.false_and, if_neg (by decide), List.append_nil] at HSU
            clear hub
            go_wp2_with fail
            go_roundw
            case rel => exact ⟨k + 1, by omega, by go_num, by rw [HSU.out]; exact HTW.out⟩
            case measure => simp [intOf]; omega
          | true =>
            rw [hub, Bool.true_and] at HSU
            clear hub
            cases hsb : s.testBit k with
            | true =>
              rw [hsb, Bool.not_true, if_neg (by decide), List.append_nil] at HSU
              have HHS := Lib.hid (fun W => HHA.out s W HS.out)
              rw [hsb] at HHS
              clear hsb
              go_wp2_with fail
              refine (HHS.out _).mono ?_
              rintro e W3 ⟨rfl, hx⟩
              obtain rfl := hx
              go_wp2_with fail
              go_roundw
              case rel => exact ⟨k + 1, by omega, by go_num, by rw [HSU.out]; exact HTW.out⟩
              case measure => simp [intOf]; omega
            | false =>
              rw [hsb, Bool.not_false, if_pos rfl] at HSU
              have HHS := Lib.hid (fun W => HHA.out s W HS.out)
              rw [hsb] at HHS
              have hor := or_new (k := k) HS.out hlt hsb
              have HOR := Lib.hid hor
              clear hsb hor
              go_wp2_with fail
              refine (HHS.out _).mono ?_
              rintro e W3 ⟨rfl, hx⟩
              obtain ⟨wB, hwB⟩ : ∃ x, x = W3 := ⟨W3, rfl⟩
              subst hwB
              rw [hx] at HTW
              clear hx
              go_upto_region 16 with fail
              obtain ⟨v1, hx1, ho1⟩ := HTW.out.it
              obtain ⟨v2, hx2, ho2⟩ := HTW.out.va
              have hbw4 := HTW.out.b
              obtain ⟨xs, hxs⟩ : ∃ xs, addL F U s k = xs := ⟨_, rfl⟩
              have hkl64 := addL_len F U s k
              rw [hxs] at ho1 ho2 HSU hkl64
              obtain ⟨kl, hkl⟩ : ∃ kl, xs.length = kl := ⟨_, rfl⟩
              have HKL := Lib.hid hkl
              rw [hkl] at ho1 ho2 hkl64
              obtain ⟨xs1, hxs1⟩ : ∃ xs1, xs.map itV = xs1 := ⟨_, rfl⟩
              obtain ⟨xs2, hxs2⟩ : ∃ xs2, xs.map vaV = xs2 := ⟨_, rfl⟩
              rw [hxs1] at ho1
              rw [hxs2] at ho2
              have HXS1 := Lib.hid hxs1
              have HXS2 := Lib.hid hxs2
              have hk64 : kl ≤ 64 := by omega
              obtain ⟨sp, hsp⟩ : ∃ sp, s ||| 2 ^ k = sp := ⟨_, rfl⟩
              have hspok : okS sp := by rw [← hsp]; exact or_lt HS.out hlt
              have hgr := grow_bd l0 s k
              have hm1 := ask_most l0 sp
              have hm0 := ask_most l0 s
              rw [HF.out] at hgr hm1 hm0
              have hn1 := askL_nonneg (wi := withinB) F sp
              have hn0' := askL_nonneg (wi := withinB) F s
              have HGE : Hid (growV F s k = askL withinB F sp - askL withinB F s) := Lib.hid (by unfold growV; rw [hsp])
              have HVAL : Hid (∀ (x : Nat) W, okS x → Below w4.heap.size w4 W → Calls Tryd.prog 7 #[.slice p0 m c0, .int .u64 (x : Nat)] W fun e w' => e = .returned (.int .i64 (askL withinB F x)) ∧ Below W.heap.size W w') := Lib.hid (fun x W hx hb => by
                have hbw : Below w.heap.size w W := HB1.out.trans (hb.mono (by omega))
                have h := refValue_any p0 m c0 x l0 hx HOK.out (by have := HN.out; omega) W ((HZ.out.below hbw (Nat.le_refl _)).mono hbw.size)
                rw [HF.out] at h
                exact h)
              have HV1 := Lib.hid (fun W hb => HVAL.out sp W hspok hb)
              have HV0 := Lib.hid (fun W hb => HVAL.out s W HS.out hb)
              obtain ⟨V1, hV1⟩ : ∃ V, askL withinB F sp = V := ⟨_, rfl⟩
              obtain ⟨V0, hV0⟩ : ∃ V, askL withinB F s = V := ⟨_, rfl⟩
              rw [hV1, hV0] at HGE
              rw [hV1] at HV1 hn1 hm1
              rw [hV0] at HV0 hn0' hm0
              have HONE := Lib.hid (fun W => one_any k W hlt)
              obtain ⟨pw, hpw⟩ : ∃ pw, 2 ^ k = pw := ⟨_, rfl⟩
              have hspw : s + pw = sp := by rw [← hsp, HOR.out, hpw]
              have hspi : (s : Int) + (pw : Int) = (sp : Int) := by omega
              rw [hpw] at HONE
              have hspb : (sp : Int) ≤ 18446744073709551615 := by unfold okS at hspok; omega
              have hsp0 : (0 : Int) ≤ (sp : Int) := by omega
              obtain ⟨dv, hdv⟩ : ∃ dv : Int, V1 - V0 = dv := ⟨_, rfl⟩
              have hdv1 : -9223372036854775808 ≤ dv := by omega
              have hdv2 : dv ≤ 9223372036854775807 := by omega
              have HDV : Hid (growV F s k = dv) := Lib.hid (by rw [HGE.out, hdv])
              obtain ⟨i1v, hi1v⟩ : ∃ i1v, Value.int .i64 (k : Nat) = i1v := ⟨_, rfl⟩
              obtain ⟨i2v, hi2v⟩ : ∃ i2v, Value.int .i64 dv = i2v := ⟨_, rfl⟩
              have HI1 := Lib.hid hi1v.symm
              have HI2 := Lib.hid hi2v.symm
              have HG0 : Hid (R16.RG w4 wB b7 b8 [] v1 v2 kl xs1 xs2 i1v i2v (fun _ => false) wB.drew) := Lib.hid (R16.RG.drew ⟨Nat.le_refl _, hbw4, KeepsOthers.refl wB, fun _ _ _ _ _ _ => rfl, fun _ => ho1, fun _ => ho2, fun _ => hx1, fun _ => hx2, (fun e => by cases e), (fun e => by cases e), (fun e => by cases e), (fun e => by cases e)⟩)
              have HL1 : Hid (∀ g, v1.ownBlock = some g → g < wB.heap.size) := Lib.hid (fun g hg => (World.ownsRow.lt ho1 g hg).2)
              have HL2 : Hid (∀ g, v2.ownBlock = some g → g < wB.heap.size) := Lib.hid (fun g hg => (World.ownsRow.lt ho2 g hg).2)
              obtain ⟨i1, hi1, hz0, hz1, hz2'⟩ := info_parts (show (Tryd.prog.info? 3).map (fun i => (i.zero, i.size, i.bytes)) = some (some (.int .i64 0), 1, 8) by kernel_rfl)
              obtain ⟨i2, hi2, hy0, hy1, hy2⟩ := info_parts (show (Tryd.prog.info? 2).map (fun i => (i.zero, i.size, i.bytes)) = some (some (.int .i64 0), 1, 8) by kernel_rfl)
              clear hi1v hi2v hxs hkl hxs1 hxs2 hsp hV1 hV0 hpw hx1 ho1 hx2 ho2 hbw4 HTW HVAL hgr HGE hspok HOR hspw hkl64
              refine region_inv (l := _) (by kernel_rfl) (by decide +kernel) (fun v => { tmps := #[Value.slice p0 m c0, Value.int IntKind.u64 (s : Int), Value.int IntKind.i64 a2, undef, undef, Value.pointer (some ⟨w.heap.size, 0, none⟩), Value.pointer (some ⟨w.heap.size + 1, 0, none⟩), Value.pointer (some ⟨b7, 0, none⟩), Value.pointer (some ⟨b8, 0, none⟩), Value.int IntKind.i64 (k : Int), Value.bool true, undef, u12, undef, undef, undef, Value.bool true, Value.bool false, Value.slice p0 m c0, Value.int IntKind.i64 (m : Int), Value.bool false, Value.slice (some ⟨w4.heap.size, 0, none⟩) 0 0, Value.slice (some ⟨w4.heap.size + 1, 0, none⟩) 0 0, Value.int IntKind.i64 (k : Int), Value.bool true, u25, u26, Value.slice p0 m c0, Value.int IntKind.i64 (m : Int), Value.int IntKind.i64 (m : Int), Value.bool false, u31, u32, u33, u34, u35, u36, u37, u38, u39, u40, u41, u42, u43, u44, Value.bool true, Value.bool true, Value.int IntKind.u64 (s : Int), Value.int IntKind.i64 (k : Int), Value.bool false, Value.bool true, Value.bool true, v 0, v 1, v 2, v 3, v 4, v 5, v 6, v 7, v 8, v 9, v 10, v 11, v 12, v 13, v 14, v 15, v 16, undef, undef, undef, undef, undef, undef, undef, undef, undef, undef, undef, undef, undef, undef, undef, undef, undef, undef, undef, undef, undef, undef, undef, undef, undef, undef, undef, undef, undef, undef, undef, undef, undef, undef, undef, undef, undef, undef, undef, undef, undef, undef, undef], defers := [] }) (R16.RG w4 wB b7 b8 [] v1 v2 kl xs1 xs2 i1v i2v) (R16.RV w4 wB [] v1 v2 kl xs1 xs2 i1v i2v (addF (.slice p0 m c0) s k pw sp V1 V0)) (R16.RE wB) R16.RV.keep (fun j => [u52, u53, u54, u55, u56, u57, u58, u59, u60, u61, u62, u63, u64, u65, u66, u67, u68].getD j undef) HG0.out ?hop ?hend
              case hop =>
                simp only [AllDoI]
                refine ⟨?o0, ?o1, ?o2, ?o3, ?o4, ?o5, ?o6, ?o7, ?o8, ?o9, ?o10, ?o11, ?o12, ?o13, ?o14, ?o15, ?o16, ?o17, ?o18, trivial⟩
                all_goals intro L v W2 hG hLf hd Q hQ
                all_goals simp [Region.binds] at hd
                all_goals rw [if_pos (show Region.wanted _ _ = true from rfl)]
                case o0 =>
                  have hs : L 17 = false := by
                    cases e : L 17 with
                    | false => rfl
                    | true => have h0 : L 0 = false := hLf; rw [hG.z1 e] at h0; cases h0
                  have c7 := (hG.x1 hs).cell
                  go_wp2
                  first | exact ⟨_, rfl, R16.RE.refl _ _ _, rfl, hG.upd (by decide) (by decide) (by decide) (by decide)⟩ | (refine ⟨v1, ?_, R16.RE.refl _ _ _, rfl, hG.upd (by decide) (by decide) (by decide) (by decide)⟩; simp [updV])
                case o1 =>
                  go_wp2
                  refine ⟨.int .i64 (k : Nat), ?_, R16.RE.refl _ _ _, HI1.out.symm, hG.upd (by decide) (by decide) (by decide) (by decide)⟩
                  simp [updV]
                case o2 =>
                  have hA2 : (W2.alloc (.cells #[.int .i64 (k : Nat)] 3)).heap[W2.heap.size]? = some (.cells #[.int .i64 (k : Nat)] 3 (0, 0)) := World.alloc_heap_new W2 _
                  have hsz := hG.sz
                  have hv1 : v 1 = .int .i64 (k : Nat) := hd.2.trans HI1.out
                  rw [hv1]
                  go_wp2
                  refine ⟨.slice (some ⟨W2.heap.size, 0, none⟩) 1 1, ?_, R16.RE.alloc _ _ _ _, ⟨W2.heap.size, rfl, hsz, by rw [HI1.out]; exact hA2⟩, (hG.alloc _).upd (by decide) (by decide) (by decide) (by decide)⟩
                  simp [updV, hv1]
                case o3 =>
                  obtain ⟨⟨_, hv0'⟩, _, b, hv2, hbz, hbc⟩ := hd
                  have hv0 : v 0 = v1 := hv0'
                  have hv2 : v 2 = .slice (some ⟨b, 0, none⟩) 1 1 := hv2
                  rw [HI1.out] at hbc
                  have hsz := hG.sz
                  have hbl := hG.bel.size
                  have ho := hG.o1 hLf
                  refine wpList_append_own_at _ rfl _ _ 25 rfl w4.heap.size 3 i1 (.int .i64 0) 1 8 Tryd.underlying25 hi1 hz0 hz1 hz2' rfl (by decide) (v 0) kl xs1 rfl (by rw [hv0]; exact ho) ⟨b, 0, none⟩ 1 1 [.int .i64 (k : Nat)] hv2 rfl (one_cell hbc) (by simp [Value.oneCell']) (by unfold maxLen; omega) (by omega) (by omega) ?_
                  intro v' W3 q1 q2 _ q3
                  rw [hv0] at q2 q3
                  go_wp2
                  refine ⟨v', by simp [updV, hv0, hv2], R16.RE.app1 ho HL1.out q2, ⟨by rw [HI1.out]; exact q1, fun g' hg' hm => (by cases hm)⟩, hG.app1 hLf q2⟩
                case o4 =>
                  have hs : L 18 = false := by
                    cases e : L 18 with
                    | false => rfl
                    | true => have h0 : L 4 = false := hLf; rw [hG.z2 e] at h0; cases h0
                  have c7 := (hG.x2 hs).cell
                  go_wp2
                  first | exact ⟨_, rfl, R16.RE.refl _ _ _, rfl, hG.upd (by decide) (by decide) (by decide) (by decide)⟩ | (refine ⟨v2, ?_, R16.RE.refl _ _ _, rfl, hG.upd (by decide) (by decide) (by decide) (by decide)⟩; simp [updV])
                case o5 =>
                  go_wp2
                  exact ⟨_, rfl, R16.RE.refl _ _ _, rfl, hG.upd (by decide) (by decide) (by decide) (by decide)⟩
                case o6 =>
                  go_wp2
                  exact ⟨_, rfl, R16.RE.refl _ _ _, rfl, hG.upd (by decide) (by decide) (by decide) (by decide)⟩
                case o7 =>
                  go_wp2
                  exact ⟨_, rfl, R16.RE.refl _ _ _, rfl, hG.upd (by decide) (by decide) (by decide) (by decide)⟩
                case o8 =>
                  have hv1 : v 7 = .int .i64 (k : Nat) := hd.1.2
                  rw [hv1]
                  clear hd
                  go_wp2_with (go_at_call 8; refine (HONE.out _).mono ?_; rintro e w' ⟨rfl, hx⟩; obtain rfl := hx)
                  refine ⟨.int .u64 (pw : Nat), ?_, R16.RE.refl _ _ _, rfl, hG.upd (by decide) (by decide) (by decide) (by decide)⟩
                  simp [updV, hv1]
                case o9 =>
                  have hv1 : v 6 = .int .u64 (s : Nat) := hd.1.2
                  have hv2 : v 8 = .int .u64 (pw : Nat) := hd.2.2
                  rw [hv1, hv2]
                  go_wp2
                  refine ⟨.int .u64 (sp : Nat), ?_, R16.RE.refl _ _ _, rfl, hG.upd (by decide) (by decide) (by decide) (by decide)⟩
                  simp [updV, hv1, hv2]
                case o10 =>
                  have hv1 : v 5 = .slice p0 m c0 := hd.1.2
                  have hv2 : v 9 = .int .u64 (sp : Nat) := hd.2.1.2
                  rw [hv1, hv2]
                  have hbel := hG.bel
                  have HVV := Lib.hid (HV1.out W2 hbel)
                  clear hd
                  go_wp2_with (go_at_call 7; refine HVV.out.mono ?_; rintro e w' ⟨rfl, hb'⟩)
                  refine ⟨.int .i64 V1, ?_, R16.RE.below _ _ hb', rfl, (hG.below hb').upd (by decide) (by decide) (by decide) (by decide)⟩
                  simp [updV, hv1, hv2]
                case o11 =>
                  go_wp2
                  exact ⟨_, rfl, R16.RE.refl _ _ _, rfl, hG.upd (by decide) (by decide) (by decide) (by decide)⟩
                case o12 =>
                  go_wp2
                  exact ⟨_, rfl, R16.RE.refl _ _ _, rfl, hG.upd (by decide) (by decide) (by decide) (by decide)⟩
                case o13 =>
                  have hv1 : v 11 = .slice p0 m c0 := hd.1.2
                  have hv2 : v 12 = .int .u64 (s : Nat) := hd.2.1.2
                  rw [hv1, hv2]
                  have hbel := hG.bel
                  have HVV := Lib.hid (HV0.out W2 hbel)
                  clear hd
                  go_wp2_with (go_at_call 7; refine HVV.out.mono ?_; rintro e w' ⟨rfl, hb'⟩)
                  refine ⟨.int .i64 V0, ?_, R16.RE.below _ _ hb', rfl, (hG.below hb').upd (by decide) (by decide) (by decide) (by decide)⟩
                  simp [updV, hv1, hv2]
                case o14 =>
                  have hv1 : v 10 = .int .i64 V1 := hd.1.2
                  have hv2 : v 13 = .int .i64 V0 := hd.2.2
                  rw [hv1, hv2]
                  go_wp2
                  refine ⟨.int .i64 dv, ?_, R16.RE.refl _ _ _, HI2.out.symm, hG.upd (by decide) (by decide) (by decide) (by decide)⟩
                  simp [updV, hv1, hv2]
                case o15 =>
                  have hA2 : (W2.alloc (.cells #[.int .i64 dv] 2)).heap[W2.heap.size]? = some (.cells #[.int .i64 dv] 2 (0, 0)) := World.alloc_heap_new W2 _
                  have hsz := hG.sz
                  have hv1 : v 14 = .int .i64 dv := hd.2.trans HI2.out
                  rw [hv1]
                  go_wp2
                  refine ⟨.slice (some ⟨W2.heap.size, 0, none⟩) 1 1, ?_, R16.RE.alloc _ _ _ _, ⟨W2.heap.size, rfl, hsz, by rw [HI2.out]; exact hA2⟩, (hG.alloc _).upd (by decide) (by decide) (by decide) (by decide)⟩
                  simp [updV, hv1]
                case o16 =>
                  obtain ⟨⟨_, hv0'⟩, ⟨_, b, hv2, hbz, hbc⟩, _⟩ := hd
                  have hv0 : v 4 = v2 := hv0'
                  have hv2 : v 15 = .slice (some ⟨b, 0, none⟩) 1 1 := hv2
                  rw [HI2.out] at hbc
                  have hsz := hG.sz
                  have hbl := hG.bel.size
                  have ho := hG.o2 hLf
                  refine wpList_append_own_at _ rfl _ _ 26 rfl w4.heap.size 2 i2 (.int .i64 0) 1 8 Tryd.underlying26 hi2 hy0 hy1 hy2 rfl (by decide) (v 4) kl xs2 rfl (by rw [hv0]; exact ho) ⟨b, 0, none⟩ 1 1 [.int .i64 dv] hv2 rfl (one_cell hbc) (by simp [Value.oneCell']) (by unfold maxLen; omega) (by omega) (by omega) ?_
                  intro v' W3 q1 q2 _ q3
                  rw [hv0] at q2 q3
                  go_wp2
                  refine ⟨v', by simp [updV, hv0, hv2], R16.RE.app2 ho HL2.out q2, ⟨by rw [HI2.out]; exact q1, fun g' hg' hm => (by cases hm)⟩, hG.app2 hLf q2⟩
                case o17 =>
                  obtain ⟨⟨h3, hv3, hav3⟩, _, ⟨h0, _⟩, _⟩ := hd
                  have x8 := hG.x1 hLf
                  obtain ⟨ea, ec, e3⟩ := own_form hv3
                  rw [e3] at hv3 hav3 ⊢
                  have c7 := x8.cell
                  have f7 := x8.frozen
                  go_wp2
                  refine ⟨undef, ?_, R16.RE.st1 x8, trivial, hG.st1 hLf h3 h0 hne78 hl7 hv3 hav3⟩
                  simp [updV, e3]
                case o18 =>
                  obtain ⟨⟨h3, hv3, hav3⟩, _, _, _, _, _,  ⟨h0, _⟩, _⟩ := hd
                  have x8 := hG.x2 hLf
                  obtain ⟨ea, ec, e3⟩ := own_form hv3
                  rw [e3] at hv3 hav3 ⊢
                  have c7 := x8.cell
                  have f7 := x8.frozen
                  go_wp2
                  refine ⟨undef, ?_, R16.RE.st2 x8, trivial, hG.st2 hLf h3 h0 hne78 hl8 hv3 hav3⟩
                  simp [updV, e3]
              case hend =>
                intro Lb v W2 hG hv
                obtain ⟨_, u1, x1', r1, _⟩ := hG.y1 (hv 17 (by decide)).1
                obtain ⟨_, u2, x2', r2, _⟩ := hG.y2 (hv 18 (by decide)).1
                have hbl := hG.bel
                have hT2 : TwoA w4 b7 b8 (addL F U s (k + 1)) W2 := by
                  rw [HSU.out, HDV.out]
                  exact ⟨⟨u1, x1', by rw [List.length_append, List.map_append, HKL.out, HXS1.out]; have h := r1; rw [HI1.out] at h; exact h⟩, ⟨u2, x2', by rw [List.length_append, List.map_append, HKL.out, HXS2.out]; have h := r2; rw [HI2.out] at h; exact h⟩, hbl⟩
                have HT2 := Lib.hid hT2
                clear hT2 x1' r1 x2' r2 hbl hG hv
                go_wp2_with fail
                go_roundw
                case rel => exact ⟨k + 1, by omega, by go_num, HT2.out⟩
                case measure => simp [intOf]; omega
    · have hki : ¬ (k : Int) < 64 := by omega
      have hk64 : k = 64 := by omega
      rw [hk64] at hT
      have hal := addL_len F U s 64
      obtain ⟨all, hall⟩ : ∃ all, addL F U s 64 = all := ⟨_, rfl⟩
      have hapos : ∀ x ∈ all, 0 ≤ x.2 ∧ x.1 < 64 := fun x hx => by rw [← hall, ← HF.out] at hx; exact addL_pos hx
      rw [hall] at hT hal
      have HALL := Lib.hid hall
      have HAP := Lib.hid hapos
      have hyM : Boxed wo w.heap.size 3 (.int .i64 a2) := (hT.b.block _ (by omega)).trans Y3.out
      have hyR : Boxed wo (w.heap.size + 1) 4 (.bool false) := (hT.b.block _ hw4).trans Y4.out
      obtain ⟨tt, htt, ht1⟩ := and127 a2
      obtain ⟨q, hq⟩ : ∃ q : Nat, 1 + tt = q := ⟨_, rfl⟩
      have hqi : (1 : Int) + (tt : Int) = (q : Int) := by omega
      have hq1 : 1 ≤ q := by omega
      have hq2 : q ≤ 128 := by omega
      have hTs := hT.b.size
      have c36 := hyM.cell
      have f36 := hyM.frozen
      obtain ⟨w5, hw5⟩ : ∃ w5, wo.setCell ⟨w.heap.size, 0, none⟩ (.int .i64 (q : Nat)) = w5 := ⟨_, rfl⟩
      have z5 : w5.heap.size = wo.heap.size := by rw [← hw5]; simp [World.setCell]
      have hM5 : Boxed w5 w.heap.size 3 (.int .i64 (q : Nat)) := by rw [← hw5]; exact hyM.set _
      have hR5 : Boxed w5 (w.heap.size + 1) 4 (.bool false) := by rw [← hw5]; exact hyR.other (by omega) _
      obtain ⟨r1, hx1, ho1⟩ := hT.it
      obtain ⟨r2, hx2, ho2⟩ := hT.va
      have hX15 : Boxed w5 b7 25 r1 := by rw [← hw5]; exact hx1.other (by omega) _
      have hX25 : Boxed w5 b8 26 r2 := by rw [← hw5]; exact hx2.other (by omega) _
      have hO15 : w5.ownsRow w.heap.size 3 1 r1 all.length (all.map itV) := by
        rw [← hw5]
        exact R16.own_base (R16.own_grown ho1 (grownBy_setCell' wo w.heap.size _) (fun g hg e => by cases e; have := (R16.own_at ho1 hg).1; omega)) (by omega)
      have hO25 : w5.ownsRow w.heap.size 2 1 r2 all.length (all.map vaV) := by
        rw [← hw5]
        exact R16.own_base (R16.own_grown ho2 (grownBy_setCell' wo w.heap.size _) (fun g hg e => by cases e; have := (R16.own_at ho2 hg).1; omega)) (by omega)
      have hB5 : Below w.heap.size w w5 := by rw [← hw5]; exact (HB1.out.trans (hT.b.mono (by omega))).setCell (p := ⟨w.heap.size, 0, none⟩) (Nat.le_refl _) _
      obtain ⟨w6, hw6⟩ : ∃ w6, w5.alloc (.cells #[.int .i64 0] 3) = w6 := ⟨_, rfl⟩
      have h56 : Below w5.heap.size w5 w6 := by rw [← hw6]; exact (Below.refl _ _).alloc (Nat.le_refl _) _
      have z6 : w6.heap.size = w5.heap.size + 1 := by rw [← hw6]; simp
      have hI6 : Boxed w6 w5.heap.size 3 (.int .i64 0) := by rw [← hw6]; exact Boxed.new w5 _ _
      have hnil : p0 = none → l0 = [] := fun e => by
        subst e
        rcases HZ.out with ⟨h, _⟩ | ⟨b, off, cap, h, _⟩
        · exact h
        · cases h
      have hB6 : Below w.heap.size w w6 := hB5.trans (h56.mono hB5.size)
      have hl40 : l0.length ≤ 40 := by rw [HN.out]; exact h40'
      have HAD := Lib.hid (addsOf p0 n0 c0 s l0 w6 (by omega) ((HZ.out.below hB6 (Nat.le_refl _)).mono hB6.size) hnil)
      have HW5 := Lib.hid hw5
      have HW6 := Lib.hid hw6
      have HL4 := Lib.hid hl40
      have HM5 := Lib.hid hM5
      have HR5 := Lib.hid hR5
      have HX15 := Lib.hid hX15
      have HX25 := Lib.hid hX25
      have HO15 := Lib.hid hO15
      have HO25 := Lib.hid hO25
      have HB6 := Lib.hid hB6
      have H56 := Lib.hid h56
      have HI6 := Lib.hid hI6
      have hxb7 := hX15.lt
      have hxb8 := hX25.lt
      have HZ5 := Lib.hid z5
      have HZ6 := Lib.hid z6
      clear z5 z6 hT hall hapos hyM hyR hw5 hM5 hR5 hx1 ho1 hx2 ho2 hX15 hX25 hO15 hO25 hB5 hw6 h56 hI6 hnil hB6 hl40
      go_upto_region 18 with fail
      rw [HW5.out]
      clear c36 f36
      go_upto_region 19 with fail
      rw [HW6.out]
      go_wp2_with fail
      refine HAD.out.mono ?_
      rintro e w8 ⟨B1, B2, sa, sc, rfl, hx1, hx2, hE8, hge, hb68, hB1, hB2, hB1l, hB2l⟩
      have hz68 := hb68.size
      have z5 := HZ5.out
      have z6 := HZ6.out
      have hb58 : Below w5.heap.size w5 w8 := H56.out.trans (hb68.mono (by omega))
      have hBel8 : Below w.heap.size w w8 := HB6.out.trans (hb68.mono HB6.out.size)
      have hK8 : AdK w w8 b7 b8 w5.heap.size B1 B2 q s (.slice sa n0 sc) l0 all :=
        { most := (hb58.block _ HM5.out.lt).trans HM5.out, res := ⟨_, (hb58.block _ HR5.out.lt).trans HR5.out⟩,
          it := ⟨r1, (hb58.block _ hxb7).trans HX15.out, R16.own_below HO15.out hb58 (Nat.le_refl _), fun g hg => by have := (World.ownsRow.lt HO15.out g hg).2; omega⟩,
          va := ⟨r2, (hb58.block _ hxb8).trans HX25.out, R16.own_below HO25.out hb58 (Nat.le_refl _), fun g hg => by have := (World.ownsRow.lt HO25.out g hg).2; omega⟩,
          x1 := hx1, x2 := hx2, row := hE8.mono (by omega), off := fun ad n c e hn hk => by (cases e; have := hge ad rfl; simp at hk; omega), env := HE.out.below hBel8,
          i := (hb68.block _ HI6.out.lt).trans HI6.out, ne := by omega, g := HE.out.size, bel := hBel8 }
      obtain ⟨ra, rc, ta, tc, hls⟩ := hK8.lists (by omega) (by omega)
      have HK8 := Lib.hid hK8
      have HLS := Lib.hid hls
      have hn1 : B1 ≠ w5.heap.size := by omega
      have hn2 : B2 ≠ w5.heap.size := by omega
      have hz8 : w5.heap.size < w8.heap.size := by omega
      have hr0 : all = (items (umax (l0.filter (inA 18446744073709551615)) &&& (18446744073709551615 - s))).map (fun i => (i, growV (l0.filter (rightA 1099511627776)) s i)) := by
        rw [HU.out, HF.out, addL_all F U s HS.out]; exact HALL.out.symm
      have HR0 := Lib.hid hr0
      clear z5 z6 hx1 hx2 hE8 hge hb68 hB1 hB2 hB1l hB2l hb58 hBel8 hK8 hls hr0 HAD HM5 HR5 HX15 HX25 HO15 HO25 HB6 H56 HI6 HW5 HW6
      go_wp2_with fail
      rename_i K' hKQ
      refine (wpIn_wide (n := 3)).1 ?_
      refine wpIn_actG ?_
      intro A hA
      have tail : ∀ (kk : Nat) (W : World), But [w5.heap.size] w8 W → Boxed W w5.heap.size 3 (.int .i64 (kk : Nat)) → min (q : Int) (all.length : Int) = (kk : Int) → W.heap[w8.heap.size]? = some (.deferred (some [])) →
          K' { A with defers := { target := .collected w8.heap.size, args := #[] } :: A.defers } W := by
        intro kk W hbW hiW hmin hD
        rw [hA]
        refine hKQ _ _ ?_
        obtain ⟨ru, hru⟩ := HK8.out.res
        have hQW : Boxed W w.heap.size 3 (.int .i64 (q : Nat)) := (hbW.block _ HK8.out.most.lt (by simp; omega)).trans HK8.out.most
        have hTW : Boxed W (w.heap.size + 1) 4 ru := (hbW.block _ hru.lt (by simp; omega)).trans hru
        have c1 := hiW.cell
        have c2 := hQW.cell
        have c3 := hTW.cell
        have f3 := hTW.frozen
        have c4 := (HLS.out W hbW).1
        have heq : ((kk : Int) == (kk : Int)) = true := by simp
        have HTW := Lib.hid hTW
        have HKD := Lib.hid hD
        have hDl := (Array.getElem?_eq_some_iff.1 hD).1
        have HBW : Hid (Below w.heap.size w W) := Lib.hid (HK8.out.bel.trans (hbW.below (fun k hk => by simp at hk; omega) HK8.out.bel.size))
        obtain ⟨M, hM⟩ : ∃ M, all.length = M := ⟨_, rfl⟩
        rw [hM] at hmin c4
        clear hbW hiW hQW hTW hD hru
        go_wp2
        have hKD2 := (Below.heap_setCell W ⟨w.heap.size + 1, 0, none⟩ (.bool true) w8.heap.size (by show w8.heap.size ≠ w.heap.size + 1; omega)).trans HKD.out
        refine ⟨by simp, .inl ⟨_, _, rfl, run_takeDeferred hKD2, ?_⟩⟩
        have hp := But.putObj (W.setCell ⟨w.heap.size + 1, 0, none⟩ (.bool true)) w8.heap.size (.deferred none)
        have ht2 := HTW.out.set (.bool true)
        have ht3 : Boxed ((W.setCell ⟨w.heap.size + 1, 0, none⟩ (.bool true)).putObj w8.heap.size (.deferred none)) (w.heap.size + 1) 4 (.bool true) := (hp.block _ ht2.lt (by simp; omega)).trans ht2
        have hbs := HBW.out.setCell (p := ⟨w.heap.size + 1, 0, none⟩) (Nat.le_succ _) (.bool true)
        exact ⟨_, bool_res6 _ _ (w.heap.size + 1) _ rfl ht3.cell, rfl, hbs.trans (hp.below (fun k hk => by simp at hk; omega) hbs.size)⟩
      have HTAIL := Lib.hid tail
      clear tail
      refine rangeH rfl (by omega) (gf := 20) (lb := #[.pointer (some ⟨B1, 0, none⟩), .pointer (some ⟨B2, 0, none⟩)]) (by rw [hA]; rfl) trivial (enters_of Tryd.func20 (by kernel_rfl) rfl) (encs := fun (x : Nat × Int) => #[.int .i64 (x.1 : Nat), .int .i64 x.2]) (fun _ => rfl)
        (AJ w8 w5.heap.size q all) (AJm w8 w5.heap.size q all)
        (fun (st : World × List (Nat × Int)) (x : Nat × Int) a1 W => AJm w8 w5.heap.size q all st x W ∧ a1 = { tmps := (((A.tmps.setIfInBounds 75 (.int .i64 (x.1 : Nat))).setIfInBounds 76 (.int .i64 x.2)).setIfInBounds 14 (.int .i64 (x.1 : Nat))).setIfInBounds 15 (.int .i64 x.2), defers := [] })
        (AJx w8 w5.heap.size q all (.exit 4)) AJf (fun st _ => st.2 = []) (w8, all)
        (AJ.noRec hz8)
        (fun st x a1 W o k hk ⟨⟨h1, hg⟩, h5⟩ => ⟨⟨AJ.noRec hz8 st W o k hk h1, hg⟩, h5⟩)
        (AJx.noRec hz8) (fun _ _ _ _ _ h => h)
        (fun r => ⟨((But.refl _ w8).alloc _).alloc _, by simp, ((But.refl _ w8).alloc _).alloc _, 0, rfl, Nat.zero_le _, ((HK8.out.i.alloc _).alloc _), by omega⟩)
        (adds1 HS.out HOK.out (by have := HL4.out; omega) (HK8.out.addC ⟨hn1, hn2⟩ (.exit 4)) (Nat.le_refl _) HR0.out)
        ?assign ?body ?done ?stop
      case assign =>
        rintro l9 st ⟨x, u⟩ W K9 hj hzW hK
        rw [hA] at hK ⊢
        gi_wp2
        exact hK _ _ ⟨hj, rfl⟩ ⟨rfl, rfl⟩
      case body =>
        rintro l9 ⟨wd, rem⟩ ⟨x, u⟩ a1 V ⟨⟨⟨hb1, hz, hb2, j, hj, hjl, hi, hjq⟩, r, hr⟩, rfl⟩ hzV
        simp only at hb1 hj hr
        subst hr
        have hxj : all[j]? = some (x, u) := by
          have h := congrArg (fun l : List (Nat × Int) => l[0]?) hj
          simp only [List.getElem?_drop] at h
          simpa using h
        have hdr : all.drop (j + 1) = r := by
          have h := congrArg List.tail hj
          simpa [List.tail_drop] using h
        have hjl2 : j < all.length := (List.getElem?_eq_some_iff.1 hxj).1
        have hpos := (HAP.out _ (List.mem_of_getElem? hxj)).1
        obtain ⟨c7, c8, hcs⟩ := HLS.out V hb2
        obtain ⟨g1, g2, rfl, e1, rfl, e2⟩ := hcs j _ hxj
        simp only at e1 e2 hpos
        have hQV : Boxed V w.heap.size 3 (.int .i64 (q : Nat)) := (hb2.block _ HK8.out.most.lt (by simp; omega)).trans HK8.out.most
        have cq := hQV.cell
        have ci := hi.cell
        have fi := hi.frozen
        have hne : w.heap.size ≠ w5.heap.size := by omega
        have HBX : Hid (∀ y : Nat, (AJ w8 w5.heap.size q all (wd, r) (V.setCell ⟨w5.heap.size, 0, none⟩ (.int .i64 (y : Nat))) ∨ y ≠ j + 1 ∨ ¬ y < q) ∧ SameRec w8.heap.size V (V.setCell ⟨w5.heap.size, 0, none⟩ (.int .i64 (y : Nat))) ∧ But [w5.heap.size, w8.heap.size, w8.heap.size + 1] wd (V.setCell ⟨w5.heap.size, 0, none⟩ (.int .i64 (y : Nat))) ∧ w8.heap.size + 2 ≤ (V.setCell ⟨w5.heap.size, 0, none⟩ (.int .i64 (y : Nat))).heap.size ∧ But [w5.heap.size] w8 (V.setCell ⟨w5.heap.size, 0, none⟩ (.int .i64 (y : Nat))) ∧ Boxed (V.setCell ⟨w5.heap.size, 0, none⟩ (.int .i64 (y : Nat))) w5.heap.size 3 (.int .i64 (y : Nat))) := Lib.hid (fun y => by
          have k1 := hb1.set (p := ⟨w5.heap.size, 0, none⟩) (.inl (by simp)) (.int .i64 (y : Nat))
          have k2 := hb2.set (p := ⟨w5.heap.size, 0, none⟩) (.inl (by simp)) (.int .i64 (y : Nat))
          have k3 : w8.heap.size + 2 ≤ (V.setCell ⟨w5.heap.size, 0, none⟩ (.int .i64 (y : Nat))).heap.size := by simpa [World.setCell] using hz
          have k4 := hi.set (.int .i64 (y : Nat))
          refine ⟨?_, ⟨Below.heap_setCell _ _ _ _ (by show w8.heap.size ≠ w5.heap.size; omega), Below.heap_setCell _ _ _ _ (by show w8.heap.size + 1 ≠ w5.heap.size; omega)⟩, k1, k3, k2, k4⟩
          by_cases h : y = j + 1 ∧ y < q
          · exact .inl ⟨k1, k3, k2, y, by rw [h.1]; exact hdr, by omega, k4, h.2⟩
          · exact .inr (by omega))
        obtain ⟨M, hM⟩ : ∃ M, all.length = M := ⟨_, rfl⟩
        have HM := Lib.hid hM
        rw [hM] at c7 c8 hjl2
        have hge : decide (M ≤ j) = false := decide_eq_false (by omega)
        have hji : (j : Int) < (M : Int) := by omega
        have hj0 : (0 : Int) ≤ j := by omega
        have hx0 : ((x : Int) != (x : Int)) = false := by simp
        have hu0 : (u != u) = false := by simp
        have hult : decide (u < 0) = false := decide_eq_false (by omega)
        clear hb1 hz hb2 hj hi hcs hxj hdr hQV hM hjl
        rw [hA]
        dsimp only
        by_cases hq9 : j + 1 = q
        · have hb9 : (((j : Int) + 1) == (q : Int)) = true := by rw [← hq9]; simp
          have hb9' : ((((j + 1 : Nat)) : Int) == (q : Int)) = true := by rw [hq9]; simp
          gi_wp2
          have hE : ((j : Int) + 1) = (q : Int) := by omega
          rw [hE]
          obtain ⟨_, h2, h3, h4, h5, h6⟩ := HBX.out q
          exact ⟨h2, h3, h4, h5, rfl, h6, by rw [HM.out]; omega⟩
        · have hb9 : (((j : Int) + 1) == (q : Int)) = false := beq_eq_false_iff_ne.2 (by omega)
          have hb9' : ((((j + 1 : Nat)) : Int) == (q : Int)) = false := beq_eq_false_iff_ne.2 (by omega)
          gi_wp2
          have hE : ((j : Int) + 1) = ((j + 1 : Nat) : Int) := by push_cast; rfl
          rw [hE]
          obtain ⟨h1, h2, _⟩ := HBX.out (j + 1)
          refine ⟨h2, (wd, r), ⟨rfl, rfl⟩, ?_⟩
          rcases h1 with h1 | h1 | h1
          · exact h1
          · exact absurd rfl h1
          · omega
      case done =>
        rintro ⟨wd, rem⟩ W ⟨_, _, hb2, j, hj, hjl, hi, hjq⟩ he hD
        simp only at hj he
        subst he
        have hjM : j = all.length := by
          have := congrArg List.length hj
          rw [List.length_drop] at this
          simp at this
          omega
        exact HTAIL.out j W hb2 hi (by omega) hD
      case stop =>
        rintro ⟨wd, rem⟩ c W ⟨_, _, hb2, rfl, hi, hql⟩ hD
        refine wpIn_exit ?_
        simp only [Exit.inBlock, if_pos, Exit.then]
        exact HTAIL.out q W hb2 hi (by omega) hD

theorem laidOut : laidOutB Tryd.prog = true := by kernel_rfl
/-- All arguments read behind the call as they did. -/
theorem trodAll_below {H : Type} {enc : TypeId × Value → H} {W W' : World} (hb : Below W.heap.size W W') : ∀ (ts : List TypeId) (vs : List Value) (ds : List (DataW H)) (ps : List MemPlace),
    (∀ t ∈ ts, Tryd.prog.readableRec t = true ∧ t < Tryd.prog.types.size) → DataW.TrodAll enc Tryd.prog W 0 (fun _ => true) true ts vs ds ps → (∀ x ∈ ps, x.block < W.heap.size) →
    DataW.TrodAll enc Tryd.prog W' 0 (fun b => decide (b < W.heap.size)) true ts vs ds ps
  | [], vs, ds, ps, _, h, _ => by
    obtain ⟨rfl, rfl, rfl⟩ := trodAll_nil h
    exact trodAll_mk0
  | t :: ts, vs, ds, ps, hr, h, hlt => by
    obtain ⟨v, vs', d, ds', p, q, rfl, rfl, rfl, h1, h2⟩ := trodAll_cons h
    exact trodAll_cons_mk (Below.trod laidOut (hr t (by simp)).1 (hr t (by simp)).2 h1 hb (fun x hx => hlt x (by simp [hx]))) (trodAll_below hb ts vs' ds' q (fun t ht => hr t (by simp [ht])) h2 (fun x hx => hlt x (by simp [hx])))

set_option maxRecDepth 100000 in
theorem contract (H : Type) (enc : TypeId × Value → H) (W : World) (base : Nat) (args : Array Value) (ds gs : List (DataW H)) (before : List MemPlace)
    (hval0 : ∀ (j : Nat) t v, Tryd.f3.params[j]? = some t → args[j]? = some v → Value.okWide Tryd.prog W .any base t v)
    (hW : DataW.Whole enc Tryd.prog Tryd.f3.params.toList Rows.atomAddsSpec.vars false W args.toList ds gs before) (hL : laidMetH Tryd.prog Rows.atomAddsRow.laid W) :
    Calls Tryd.prog 3 args W fun e W' => ∃ v, e = .returned v ∧ Rows.atomAddsSpec.post enc Tryd.prog Tryd.f3 false true false false W args v W' := by
  have hval : ∀ (j : Nat) t v, Tryd.f3.params[j]? = some t → args[j]? = some v → Value.okWide Tryd.prog W .any base t v := hval0
  have hW' := hW
  obtain ⟨p, q, hA0, hV, rfl, hfz, hnd⟩ := hW
  have hA : DataW.TrodAll enc Tryd.prog W 0 (fun _ => true) true Tryd.f3.params.toList args.toList ds p := hA0
  rw [Tryd.params3] at hA hval
  have hAk := hA
  obtain ⟨v0, vs0, d0, ds0, p0', q0, hargs, rfl, rfl, h0, r0⟩ := trodAll_cons hA
  obtain ⟨v1, vs1, d1, ds1, p1', q1, rfl, rfl, rfl, h1, r1⟩ := trodAll_cons r0
  obtain ⟨v2, vs2, d2, ds2, p2', q2, rfl, rfl, rfl, h2, r2⟩ := trodAll_cons r1
  obtain ⟨rfl, rfl, rfl⟩ := trodAll_nil r2
  obtain rfl : args = #[v0, v1, v2] := by cases args; simp_all
  obtain ⟨rfl, rfl⟩ := trodVars_none hV
  simp only [List.append_nil] at hW' hAk
  have hlt := fun x hx => hW'.lt x hx
  have hE : Env W := env_of hL
  clear hA0 hval0
  obtain ⟨p0, n0, c0, l0, rfl, S0, b0⟩ := open_atoms (okWide_slice Tryd.underlying22 (hval 0 22 v0 rfl rfl)) h0
  obtain ⟨a1, rfl, rfl, rfl, w1⟩ := open_int Tryd.underlying23 (hval 1 23 v1 rfl rfl) h1
  obtain ⟨a2, rfl, rfl, rfl, w2⟩ := open_int Tryd.underlying3 (hval 2 3 v2 rfl rfl) h2
  refine (walk W hE p0 n0 c0 l0 S0 b0 a1 w1 a2 w2).mono fun e W' ⟨he, hg⟩ => ?_
  subst he
  have hargs := trodAll_below hg _ _ _ _ (by intro t ht; simp only [List.mem_cons, List.not_mem_nil, or_false] at ht; revert t; rintro t (rfl | rfl | rfl) <;> exact ⟨by kernel_rfl, of_decide_eq_true (by kernel_rfl)⟩) hAk (fun x hx => by simpa using hlt x hx)
  exact ⟨_, rfl, _, _, _, [], _, [], hW', (trodAll_cons_mk (shut_bool Tryd.underlying4 _) trodAll_mk0), hargs, rfl, hg.frame _, fun h => by cases h⟩

noncomputable def laidWorld (os : Os) : World := World.laidAll Tryd.prog os Rows.atomAddsRow.laid
theorem laid_met (os : Os) : laidMet Tryd.prog Rows.atomAddsRow.laid ((laidWorld os).forCall (fun _ _ => 0) ⟨#[], #[.slice none 0 0, .int .u64 0, .int .i64 0], []⟩).memory :=
  laidMet_laidAll _ (by kernel_rfl) (by kernel_rfl)
theorem reads (os : Os) {H : Type} (enc : TypeId × Value → H) : ∃ places, DataW.whole enc Tryd.prog ((laidWorld os).forCall (fun _ _ => 0) ⟨#[], #[.slice none 0 0, .int .u64 0, .int .i64 0], []⟩).memory Tryd.f3.params.toList Rows.atomAddsSpec.vars false (#[.slice none 0 0, .int .u64 0, .int .i64 0] : Array Value).toList 8 = some ([.nil, .lit (.int .u64 0), .lit (.int .i64 0)], [], places) :=
  ⟨[], by kernel_rfl⟩

set_option maxRecDepth 100000 in
theorem lifted (os : Os) (started : os.Started) (H : Type) (enc : TypeId × Value → H) (F : Stop.Interp) :
    ReturnsInHanded {} Tryd.checked os 3 .any ((OpenSpec.ofChange Rows.atomAddsSpec).preRow enc Tryd.prog Tryd.f3 Rows.atomAddsRow.domain false Rows.atomAddsRow.laid) (((OpenSpec.ofChange Rows.atomAddsSpec).at F).post enc Tryd.prog Tryd.f3 false true false false) := by
  obtain ⟨places, hx⟩ := reads os enc
  refine returnsInHanded_of_row (C := Tryd.checked) (s := OpenSpec.ofChange Rows.atomAddsSpec) own started (by kernel_rfl) Tryd.func3
    (witness_row_at (enc := enc) (C := Tryd.checked) false (laidWorld os) #[.slice none 0 0, .int .u64 0, .int .i64 0] (World.laidAll_os _ _ _) (by kernel_rfl) (by kernel_rfl) (by kernel_rfl)
      (OpenSpec.preRow_of_cond 8 hx (by kernel_rfl) (fun k hk => by cases hk) (by kernel_rfl) (laid_met os))) ?_
  intro W base args ds gs before hval hW _ _ _ hL _ _
  exact contract H enc W base args ds gs before hval hW hL

theorem said : Rows.AtomAddsSaid :=
  OpenClaim.holds_of_cond 3 Tryd.f3 rfl rfl rfl rfl rfl rfl rfl ⟨rfl, rfl, rfl, rfl, rfl⟩ rfl rfl rfl rfl rfl (by kernel_rfl) Tryd.func3 (by kernel_rfl)
    (of_decide_eq_true (by kernel_rfl)) (by unfold Func.isWrapper; first | (rw [if_pos (by decide +kernel)]; kernel_rfl) | (rw [if_neg (by decide +kernel)]; exact ⟨rfl, rfl⟩))
    (fun os started H enc _ F => by rw [OpenClaim.pre_eq_preRow]; exact lifted os started H enc F)

theorem plain (f : FuncId) (fn : Func) (hf : Tryd.pinned.checked.prog.funcNamed "saleroom/saleroomlaw09.AtomAdds" = some f) (hfn : Tryd.pinned.checked.prog.funcs[f]? = some fn) :
    false = Tryd.pinned.checked.prog.looks [] ∧ ∀ (j : Nat) t, fn.params[j]? = some t → Tryd.pinned.checked.prog.wantsStandIn t = false := by
  obtain rfl : f = 3 := Option.some.inj ((show Tryd.prog.funcNamed "saleroom/saleroomlaw09.AtomAdds" = some 3 by kernel_rfl).symm.trans hf) |>.symm
  obtain rfl : fn = Tryd.f3 := (Option.some.inj (Tryd.func3.symm.trans hfn)).symm
  refine ⟨by kernel_rfl, fun j t ht => ?_⟩
  rw [Tryd.params3] at ht
  have hm := Array.mem_of_getElem? ht
  simp only [List.mem_toArray, List.mem_cons, List.not_mem_nil, or_false] at hm
  revert hm
  rintro (rfl | rfl | rfl)
  · exact (show Tryd.prog.wantsStandIn 22 = false by kernel_rfl)
  · exact (show Tryd.prog.wantsStandIn 23 = false by kernel_rfl)
  · exact (show Tryd.prog.wantsStandIn 3 = false by kernel_rfl)

theorem card : Rows.AtomAddsCardSaid :=
  Claim7.holds_tied_plain_at .later [] _ _ _ _ said (fun _ h => by cases h) (by kernel_rfl) (fun _ h => by cases h) atomAdds_row_tie rfl ⟨rfl, rfl⟩ (by kernel_rfl) rfl plain (by kernel_rfl)
end Go.Proofs.YtfgppkmhjjnnnaaDoor.atomAdds
