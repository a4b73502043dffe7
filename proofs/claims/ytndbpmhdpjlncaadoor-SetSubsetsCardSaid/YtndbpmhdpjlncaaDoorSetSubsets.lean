/- For every set and whatever count law SetSubsets answers true: set.Subsets tells the subsets by rising numbers, and no more are made than are asked for. Condition: the library's tables that the row lists hold what their text lays. -/
import Derived.Test.YtndbpmhdpjlncaaDoorSetAlive
import Derived.Test.YtndbpmhdpjlncaaDoorSetEnv
import Derived.Test.YtndbpmhdpjlncaaDoorSetOrd
import Derived.Test.YtndbpmhdpjlncaaDoorSetFirst
import Derived.Test.YtndbpmhdpjlncaaDoorRefSub
import Derived.Test.YtndbpmhdpjlncaaDoorSubsX
import Derived.Test.YtndbpmhdpjlncaaDoorSame
import Derived.Test.YtndbpmhdpjlncaaDoorCards
import Derived.Test.YtndbpmhdpjlncaaDoorTie
import Derived.ProofKit
import Derived.ChangeMaps5
import Derived.OpenShut
import Derived.Carry
import Derived.Deep.DeepHandedRow
import Derived.Deep.DeepWitnessRowRef
namespace Go.Proofs.YtndbpmhdpjlncaaDoor.setSubsets
open Go.ChangeShapes Go.WideShapes Go.ChangeAt Go.RowKit
set_option linter.unusedVariables false
open Go.Shelf
attribute [local go_sem] Oper.semAt_some

theorem own : ownKnob Tryd.prog.godebug = none := by kernel_rfl

set_option maxRecDepth 100000 in
set_option maxHeartbeats 2000000 in
theorem walk (w : World) (hE : Env w) (a0 : Int) (w0 : (Lit.int .u64 a0).wf = true) (a1 : Int) (w1 : (Lit.int .i64 a1).wf = true) :
    Calls Tryd.prog 5 #[.int .u64 a0, .int .i64 a1] w fun e w' => e = .returned (.bool true) ∧ Below w.heap.size w w' := by
  obtain ⟨s0, rfl, hs0⟩ := u64_bd w0
  have HA := Lib.hid (fun W h => alive_any W (hE.below h hE.size))
  have HEN := Lib.hid hE
  clear w0 w1
  refine (callsIn_wide (n := 3)).1 ?_
  refine callsIn_of_wp_marks Tryd.func5 rfl trivial ?_ rfl
  simp only [Tryd.ntmps5, List.size_toArray, List.length_cons, List.length_nil, Nat.reduceAdd, Nat.reduceSub, Array.replicate_succ, Array.replicate_zero, List.push_toArray, List.append_toArray, List.nil_append, List.cons_append]
  refine wpIn_wide.2 ?_
  obtain ⟨W0, hW0⟩ : ∃ W0, w.alloc (.cells #[.int .i64 a1] 3) = W0 := ⟨_, rfl⟩
  have y5 : Boxed W0 w.heap.size 3 (.int .i64 a1) := by rw [← hW0]; exact Boxed.new w _ _
  have b00 : Below w.heap.size w W0 := by rw [← hW0]; exact (Below.refl _ w).alloc (Nat.le_refl _) _
  have HW0 := Lib.hid hW0
  clear hW0
  go_upto_region 1 with fail
  rw [HW0.out]
  clear HW0
  go_wp2_with fail
  refine (HA.out _ b00).mono ?_
  rintro e w1 ⟨rfl, hb1⟩
  have hB1 := b00.trans (hb1.mono b00.size)
  have Y5 := Lib.hid (boxed_below y5 hb1 y5.lt)
  have HB1 := Lib.hid hB1
  have h5l : w.heap.size < w1.heap.size := Y5.out.lt
  clear y5 b00 hb1 HA hB1
  go_wp2
  go_loopw [0] (fun v wr => ∃ s : Nat, s < 18446744073709551616 ∧ v = .int .u64 s ∧ wr = w1) (fun v _ => (intOf v).toNat)
  case atStart => exact ⟨s0, hs0, rfl, rfl⟩
  case round =>
    obtain ⟨s, hs, rfl, rfl⟩ := hrel
    by_cases hc : (cnt s : Int) > 10
    · have hc' : (10 : Int) < (cnt s : Int) := hc
      have hrw := rest_walk hs
      have HRW := Lib.hid hrw
      have hpos : 0 < s := by
        rcases Nat.eq_zero_or_pos s with h | h
        · subst h; exact absurd hc' (by decide)
        · exact h
      have hless : s &&& (s - 1) ≤ s - 1 := Nat.and_le_right
      clear hrw hc
      have HRL := Lib.hid (rest_less hs hpos)
      clear HRW
      go_wp2_with (go_at_call 14; refine (count_any s _ hs).mono ?_; rintro e w' ⟨rfl, rfl⟩)
      rw [HRL.out]
      exact ⟨⟨s &&& (s - 1), by omega, rfl, trivial⟩, by simp [intOf]; omega⟩
    · have hc' : ¬ (10 : Int) < (cnt s : Int) := hc
      have hcn : cnt s ≤ 10 := by omega
      have hsN : subsN s ≤ 1024 := Nat.le_trans (Nat.pow_le_pow_right (by decide) hcn) (by decide)
      have hlen : (subs s).length = subsN s := by simp [subs]
      have HCOL := Lib.hid (fun (W2 W3 : World) (hBs : W2.heap.size < W3.heap.size) (hcb : W3.cell? ⟨W2.heap.size, 0, none⟩ = some (.int .u64 s)) => collectU 54 #[.pointer (some ⟨W2.heap.size, 0, none⟩)] (enters_of Tryd.func54 (by kernel_rfl) rfl) (subsN s) (subs s) (by omega) W3 (subsets_stops Fence.wide 2 (fun _ => trivial) rfl (by decide) W2.heap.size W3.heap.size s hs hBs W3 hBs hcb))
      have HSB := Lib.hid (fun W => callsIn_wide.1 (subsets_in Fence.wide 3 (fun _ => trivial) rfl s W))
      go_wp2_with (go_at_call 14; refine (count_any s _ hs).mono ?_; rintro e w' ⟨rfl, rfl⟩)
      refine (refSubsets_any s _ hs hcn).mono ?_
      rintro e w2 ⟨v2, rfl, own2, hb2⟩
      obtain ⟨p2, c2, rfl⟩ := own_form own2
      obtain ⟨g2, rfl⟩ := own_some own2 (subsN_pos s)
      obtain ⟨n, hn⟩ : ∃ n, subsN s = n := ⟨_, rfl⟩
      have hn1 : 1 ≤ n := by rw [← hn]; exact subsN_pos s
      rw [hn] at own2 hlen hsN ⊢
      have HNE := Lib.hid hn
      have OWN2 := Lib.hid own2
      clear own2 hn
      go_wp2_with fail
      refine (HSB.out _).mono ?_
      rintro e w' ⟨rfl, rfl⟩
      have hcb : (w2.alloc (.cells #[.int .u64 s] 22)).cell? ⟨w2.heap.size, 0, none⟩ = some (.int .u64 s) := cell_new_row _ _ _ 0
      have hb3 : Below w2.heap.size w2 (w2.alloc (.cells #[.int .u64 s] 22)) := (Below.refl _ _).alloc (Nat.le_refl _) _
      have HC3 := Lib.hid (HCOL.out w2 (w2.alloc (.cells #[.int .u64 s] 22)) (by simp) hcb)
      have HB3 := Lib.hid hb3
      clear hcb hb3
      go_wp2_with fail
      refine HC3.out.mono ?_
      rintro e w4 ⟨v4, rfl, own4, _, hb4⟩
      obtain ⟨p4, c4, rfl⟩ := own_form own4
      have hb24 : Below w2.heap.size w2 w4 := HB3.out.trans (hb4.mono HB3.out.size)
      have own2 := own_below OWN2.out hb24 (Nat.le_refl _)
      have sl2 : Sl (Value.int .u64) w4.heap.size w4 (.slice (some ⟨g2, 0, none⟩) n c2) ((subs s).map fun x => ((x : Nat) : Int)) := Sl.map (f := fun x : Nat => ((x : Nat) : Int)) (enc := Value.int .u64) (Sl.of_owns (xs := subs s) (by rw [hlen]; exact own2))
      have sl4 : Sl (Value.int .u64) w4.heap.size w4 (.slice p4 (subs s).length c4) ((subs s).map fun x => ((x : Nat) : Int)) := Sl.map (f := fun x : Nat => ((x : Nat) : Int)) (enc := Value.int .u64) (Sl.of_owns own4)
      have eU : decide (((subs s).map fun x => ((x : Nat) : Int)) = (subs s).map fun x => ((x : Nat) : Int)) = true := decide_eq_true rfl
      have HSU := Lib.hid (sameU_any p4 (some ⟨g2, 0, none⟩) (subs s).length c4 n c2 _ _ w4 (by rw [List.length_map]; omega) (by rw [List.length_map]; omega) sl4 sl2)
      rw [eU, hlen] at HSU
      rw [hlen]
      have OWN24 := Lib.hid own2
      have HB24 := Lib.hid (HB1.out.trans ((hb2.mono HB1.out.size).trans (hb24.mono (Nat.le_trans HB1.out.size hb2.size))))
      have Y54 := Lib.hid (boxed_below Y5.out (hb2.trans (hb24.mono hb2.size)) Y5.out.lt)
      clear own4 hb4 hb24 own2 sl2 sl4 eU HC3
      go_wp2_with fail
      refine HSU.out.mono ?_
      rintro e w5 ⟨rfl, hb5⟩
      obtain ⟨t, ht, htl⟩ := and1023 a1
      obtain ⟨q, hq⟩ : ∃ q, 1 + t = q := ⟨_, rfl⟩
      have hqi : (1 : Int) + (t : Int) = (q : Int) := by omega
      have hq1 : 1 ≤ q ∧ q ≤ 1024 := by omega
      have Y55 := Lib.hid (boxed_below Y54.out hb5 Y54.out.lt)
      have c5 := Y55.out.cell
      have f5 := Y55.out.frozen
      go_upto_region 9 with fail
      obtain ⟨V, hV⟩ : ∃ V, w5.setCell ⟨w.heap.size, 0, none⟩ (.int .i64 (q : Nat)) = V := ⟨_, rfl⟩
      have mV : Boxed V w.heap.size 3 (.int .i64 (q : Nat)) := by rw [← hV]; exact Y55.out.set _
      have bV : Below w.heap.size w V := by rw [← hV]; exact (HB24.out.trans (hb5.mono HB24.out.size)).setCell (p := ⟨w.heap.size, 0, none⟩) (Nat.le_refl _) _
      have oV := own_set (w := .int .i64 (q : Nat)) (own_below OWN24.out hb5 (Nat.le_refl _)) Y55.out (by decide)
      rw [hV] at oV ⊢
      have MV := Lib.hid mV
      have BV := Lib.hid bV
      have OV := Lib.hid oV
      clear hV mV bV oV c5 f5 Y55 hb5 HSU Y54 HB24 OWN24 HB3 OWN2 hb2 ht
      go_upto_region 10 with fail
      have hP6 := PS.start (V := V) [V.heap.size + 1 + 1] (by simp; omega)
      obtain ⟨A6, hA6⟩ : ∃ A6, (V.alloc (.cells #[] 22)).alloc (.cells #[.slice (some ⟨V.heap.size, 0, none⟩) 0 0] 42) = A6 := ⟨_, rfl⟩
      have z6 : A6.heap.size = V.heap.size + 1 + 1 := by rw [← hA6]; simp
      have HZ6 := Lib.hid z6
      rw [hA6] at hP6 ⊢
      have HP6 := Lib.hid hP6
      clear hA6 z6 hP6
      go_wp2_with fail
      refine (HSB.out _).mono ?_
      rintro e w' ⟨rfl, rfl⟩
      have hc7 : (A6.alloc (.cells #[.int .u64 s] 22)).cell? ⟨A6.heap.size, 0, none⟩ = some (.int .u64 s) := cell_new_row _ _ _ 0
      have hb7 : Below A6.heap.size A6 (A6.alloc (.cells #[.int .u64 s] 22)) := (Below.refl _ _).alloc (Nat.le_refl _) _
      obtain ⟨A7, hA7⟩ : ∃ A7, A6.alloc (.cells #[.int .u64 s] 22) = A7 := ⟨_, rfl⟩
      have z7 : A7.heap.size = A6.heap.size + 1 := by rw [← hA7]; simp
      rw [hA7] at hc7 hb7 ⊢
      have HP7 := Lib.hid (HP6.out.below hb7)
      obtain ⟨Bs, hBs⟩ : ∃ Bs, A6.heap.size = Bs := ⟨_, rfl⟩
      obtain ⟨b6, hb6⟩ : ∃ b6, V.heap.size + 1 = b6 := ⟨_, rfl⟩
      have hVB : b6 + 1 = Bs := by have := HZ6.out; omega
      have hVb : V.heap.size < b6 := by omega
      have hBA : Bs < A7.heap.size := by omega
      rw [hb6, hVB] at HP7
      rw [hBs] at hc7 ⊢
      rw [hb6]
      have HC7 := Lib.hid hc7
      clear hA7 hc7 hb7 z7 hBs hb6 HP6 HZ6
      go_wp2_with fail
      rename_i K' hKQ
      refine (wpIn_wide (n := 3)).1 ?_
      refine wpIn_act ?_
      intro A hA
      have hVs := BV.out.size
      have hwV := MV.out.lt
      have tail : ∀ (D : Nat) (pre : List Nat) (W : World), A7.heap.size ≤ D → PS V b6 [Bs] pre W → pre = (subs s).take q → W.heap[D]? = some (.deferred (some [])) → K' { A with defers := { target := .collected D, args := #[] } :: A.defers } W := by
        intro D pre W hD hP hpre hDW
        refine hKQ _ _ ?_
        rw [hA]
        obtain ⟨⟨y, by6, oy, _⟩, hbW⟩ := hP
        obtain ⟨ya, yc, rfl⟩ := own_form oy
        have c6 := by6.cell
        have cm : W.cell? ⟨w.heap.size, 0, none⟩ = some (.int .i64 (q : Nat)) := (hbW.cell (p := ⟨w.heap.size, 0, none⟩) hwV).trans MV.out.cell
        have oW := own_below OV.out hbW (Nat.le_refl _)
        obtain ⟨m, hm⟩ : ∃ m, min q n = m := ⟨_, rfl⟩
        have hml : m ≤ n := by omega
        have hmi : min (q : Int) (n : Int) = (m : Int) := by omega
        have hpm : pre = (subs s).take m := by
          rw [hpre, ← hm]
          by_cases h : q ≤ n
          · rw [Nat.min_eq_left h]
          · rw [Nat.min_eq_right (by omega), List.take_of_length_le (by omega), List.take_of_length_le (by omega)]
        have slW : Sl (Value.int .u64) W.heap.size W (.slice (some ⟨g2, 0, none⟩) m c2) (((subs s).take m).map fun x => ((x : Nat) : Int)) := by
          have h0 : Sl encU W.heap.size W (.slice (some ⟨g2, 0, none⟩) (subs s).length c2) (subs s) := Sl.of_owns (by rw [hlen]; exact oW)
          have h := Sl.takeX (m := m) h0 (by rw [hlen]; exact hml)
          exact Sl.map (f := fun x : Nat => ((x : Nat) : Int)) (enc := Value.int .u64) h
        have hmc : m ≤ c2 := by
          rcases oW.2 with ⟨e, _⟩ | ⟨g', cap, cur, e, _, _, hnn, _⟩
          · cases e
          · cases e; omega
        have slY : Sl (Value.int .u64) W.heap.size W (.slice ya pre.length yc) (pre.map fun x => ((x : Nat) : Int)) := Sl.map (f := fun x : Nat => ((x : Nat) : Int)) (enc := Value.int .u64) (Sl.of_owns oy)
        have hplen : pre.length ≤ 1024 := by rw [hpm, List.length_take]; omega
        have HSU := Lib.hid (fun (W3 : World) (hb : Below W.heap.size W W3) => sameU_any ya (some ⟨g2, 0, none⟩) pre.length yc m c2 _ _ W3 (by rw [List.length_map]; omega) (by rw [List.length_map, List.length_take]; omega) ((slY.below hb).mono hb.size) ((slW.below hb).mono hb.size))
        rw [show decide ((pre.map fun x => ((x : Nat) : Int)) = ((subs s).take m).map fun x => ((x : Nat) : Int)) = true from decide_eq_true (by rw [hpm])] at HSU
        have HDL := Lib.hid (Array.getElem?_eq_some_iff.1 hDW).1
        have HDW := Lib.hid hDW
        have HBW := Lib.hid (BV.out.trans (hbW.mono BV.out.size))
        obtain ⟨P, hPl⟩ : ∃ P, pre.length = P := ⟨_, rfl⟩
        rw [hPl] at c6 HSU
        have B6 := Lib.hid (fun (W3 : World) (hb : Below W.heap.size W W3) => (boxed_below by6 hb by6.lt).cell)
        rw [hPl] at B6
        have BM := Lib.hid (fun (W3 : World) (hb : Below W.heap.size W W3) => (hb.cell (p := ⟨w.heap.size, 0, none⟩) (Nat.lt_of_lt_of_le hwV hbW.size)).trans cm)
        clear hpre hm hpm slW slY oy by6 c6 cm oW hbW hDW hPl hplen
        go_upto_region 14 with fail
        refine region_rel (l := _) (by kernel_rfl) (by decide +kernel) (fun v => { tmps := #[Value.int IntKind.u64 (s : Int), Value.int IntKind.i64 a1, undef, Value.pointer (some ⟨w.heap.size, 0, none⟩), v 8, Value.slice (some ⟨g2, 0, none⟩) n c2, Value.pointer (some ⟨b6, 0, none⟩), undef, Value.bool true, Value.bool false, Value.int IntKind.u64 (s : Int), Value.int IntKind.i64 ((cnt s : Nat) : Int), Value.bool (decide (10 < ((cnt s : Nat) : Int))), u13, u14, u15, u16, Value.int IntKind.u64 (s : Int), Value.slice (some ⟨g2, 0, none⟩) n c2, Value.int IntKind.u64 (s : Int), Value.func (Fn.func 54) #[] #[Value.pointer (some ⟨w2.heap.size, 0, none⟩)], Value.slice p4 n c4, Value.slice (some ⟨g2, 0, none⟩) n c2, Value.bool true, Value.bool false, Value.int IntKind.i64 a1, Value.int IntKind.i64 (t : Int), Value.int IntKind.i64 (q : Int), Value.slice (some ⟨V.heap.size, 0, none⟩) 0 0, Value.int IntKind.u64 (s : Int), Value.func (Fn.func 54) #[] #[Value.pointer (some ⟨Bs, 0, none⟩)], undef, undef, undef, undef, undef, undef, undef, undef, undef, v 0, v 1, v 2, v 3, v 4, v 5, v 6, v 7], defers := [{ target := Target.collected D, args := #[] }] }) (fun W3 => Below W.heap.size W W3) (fun i u _ => u = (([.slice ya P yc, .slice (some ⟨g2, 0, none⟩) n c2, .int .i64 (q : Nat), .slice (some ⟨g2, 0, none⟩) n c2, .int .i64 (n : Nat), .int .i64 (m : Nat), .slice (some ⟨g2, 0, none⟩) m c2, .bool true, .bool true] : List Value).getD i undef)) (fun A C => Below A.heap.size A C) (fun A C h1 h2 => h1.trans (h2.mono h1.size)) (fun _ _ _ _ h _ => h) (fun j => ([undef, undef, undef, undef, undef, undef, undef, undef, .bool false] : List Value).getD j undef) (Below.refl _ _).drew ?hop ?hend
        case hop =>
          simp only [AllDo]
          refine ⟨?o0, ?o1, ?o2, ?o3, ?o4, ?o5, ?o6, ?o7, ?o8, trivial⟩
          all_goals intro v W3 hC hd Q hQ
          all_goals simp [Region.binds] at hd
          all_goals rw [if_pos (show Region.wanted _ _ = true from rfl)]
          case o0 =>
            have c6 := B6.out W3 hC
            go_wp2
            exact ⟨_, rfl, Below.refl _ _, rfl⟩
          case o1 =>
            go_wp2
            exact ⟨_, rfl, Below.refl _ _, rfl⟩
          case o2 =>
            have cm := BM.out W3 hC
            go_wp2
            exact ⟨_, rfl, Below.refl _ _, rfl⟩
          case o3 =>
            go_wp2
            exact ⟨_, rfl, Below.refl _ _, rfl⟩
          case o4 =>
            rw [hd]
            go_wp2
            refine ⟨.int .i64 (n : Nat), ?_, Below.refl _ _, rfl⟩
            simp [updV, hd]
          case o5 =>
            obtain ⟨h2, h4⟩ := hd
            rw [h2, h4]
            go_wp2
            refine ⟨.int .i64 (m : Nat), ?_, Below.refl _ _, rfl⟩
            simp [updV, h2, h4, hmi]
          case o6 =>
            obtain ⟨h1, h5⟩ := hd
            rw [h1, h5]
            go_wp2
            refine ⟨.slice (some ⟨g2, 0, none⟩) m c2, ?_, Below.refl _ _, rfl⟩
            simp [updV, h1, h5]
          case o7 =>
            obtain ⟨h0, h6⟩ := hd
            rw [h0, h6]
            go_wp2_with fail
            refine (HSU.out W3 hC).mono ?_
            rintro e W4 ⟨rfl, hb4⟩
            go_wp2
            refine ⟨.bool true, ?_, hb4, rfl⟩
            simp [updV, h0, h6]
          case o8 =>
            have h7 := hd.1
            rw [h7]
            go_wp2
            refine ⟨.bool true, ?_, Below.refl _ _, rfl⟩
            simp [updV, h7]
        case hend =>
          intro v W3 hC hv
          have h8 : v 8 = .bool true := hv 8 (by decide)
          have hKD2 := (hC.block D HDL.out).trans HDW.out
          have hBW3 := HBW.out.trans (hC.mono HBW.out.size)
          rw [h8]
          go_wp2
          refine ⟨by simp, .inl ⟨_, _, rfl, run_takeDeferred hKD2, ?_⟩⟩
          exact ⟨_, results_tmp rfl _ _ _, rfl, hBW3.trans (belowK_b (w := w) (Nat.le_refl _) W3 D _ (.deferred none) (by omega) hKD2 rfl rfl)⟩
      refine rangeO rfl (by omega) (gf := 54) (lb := #[.pointer (some ⟨Bs, 0, none⟩)]) (by rw [hA]; rfl) trivial (enters_of Tryd.func54 (by kernel_rfl) rfl)
        (subsets_seqB Fence.wide 2 (fun _ => trivial) rfl (by decide) Bs V.heap.size s hs A7 hBA HC7.out) (fun r h => by simp at h; omega) (by omega) (Below.refl _ _) (fun _ => rfl)
        (fun pre W => PS V b6 [Bs] pre W ∧ pre.length < q) (fun c pre W => c = .exit 2 ∧ PS V b6 [Bs] pre W ∧ pre.length = q)
        (fun pre A C row h hg hr => ⟨PS.own (by omega) pre A C row h.1 hg hr, h.2⟩) (fun c pre A C row h hg hr => ⟨h.1, PS.own (by omega) pre A C row h.2.1 hg hr, h.2.2⟩)
        (fun pre W r v hr h => ⟨PS.abides (bs := [Bs]) (fun k hk => by simp at hk; subst hk; refine ⟨by simp, by omega, by omega⟩) pre W r v hr h.1, h.2⟩) (fun c pre W r v hr h => ⟨h.1, PS.abides (bs := [Bs]) (fun k hk => by simp at hk; subst hk; refine ⟨by simp, by omega, by omega⟩) pre W r v hr h.2.1, h.2.2⟩)
        ⟨HP7.out, by show 0 < q; omega⟩ (fun x => { tmps := ((A.tmps.setIfInBounds 31 (.int .u64 (x : Nat))).setIfInBounds 7 (.int .u64 (x : Nat))), defers := [] }) ?assign ?body ?done ?stop
      case assign =>
        intro l x W K hK
        rw [hA] at hK ⊢
        gi_wp2
        exact hK
      case body =>
        rintro l pre x W ⟨hP, hlq⟩ hp hzW
        obtain ⟨⟨v1, k1, k2, k3⟩, hbw⟩ := hP
        obtain ⟨ua, uc, rfl⟩ := own_form k2
        have hc := k1.cell
        have cm : W.cell? ⟨w.heap.size, 0, none⟩ = some (.int .i64 (q : Nat)) := (hbw.cell (p := ⟨w.heap.size, 0, none⟩) hwV).trans MV.out.cell
        obtain ⟨i0, hi, hz0, hz1, hz2⟩ := info_parts infoU
        have HBW := Lib.hid hbw
        have K1 := Lib.hid k1
        have K2 := Lib.hid k2
        have K3 := Lib.hid k3
        have HCM := Lib.hid cm
        have hwV2 := hbw.size
        clear hbw k1 k3 cm hp
        rw [hA]
        have hfin : ∀ (w1 : World) (v' : Value), w1.ownsRow V.heap.size 22 1 v' (pre.length + 1) (pre.map encU ++ [.int .u64 (x : Nat)]) → (W.alloc (.cells #[.int .u64 (x : Nat)] 22)).grownBy w1 (Value.slice ua pre.length uc).ownBlock → (v'.ownBlock = (Value.slice ua pre.length uc).ownBlock ∨ v'.ownBlock = some (W.alloc (.cells #[.int .u64 (x : Nat)] 22)).heap.size) →
            Boxed w1 b6 42 (.slice ua pre.length uc) ∧ Boxed (w1.setCell ⟨b6, 0, none⟩ v') b6 42 v' ∧ PS V b6 [Bs] (pre ++ [x]) (w1.setCell ⟨b6, 0, none⟩ v') ∧ KeepsFrom A7.heap.size W (w1.setCell ⟨b6, 0, none⟩ v') ∧ KpO V.heap.size 0 [Bs] A7 W (w1.setCell ⟨b6, 0, none⟩ v') ∧ (w1.setCell ⟨b6, 0, none⟩ v').cell? ⟨w.heap.size, 0, none⟩ = some (.int .i64 (q : Nat)) := by
          intro w1 v' h1 h2 h3
          obtain ⟨q1, q2, q3, q4, q5, q6⟩ := PS.push (x := x) K1.out K2.out K3.out HBW.out h1 h2 h3 (by omega) (fun k hk => by simp at hk; omega)
          exact ⟨q1, q2, q3, q4.from _, ⟨q5, fun k h1 h2 => by omega, q6⟩, (q5.cell (p := ⟨w.heap.size, 0, none⟩) hwV).trans HCM.out⟩
        have HF := Lib.hid hfin
        clear hfin
        by_cases hq : pre.length + 1 = q
        · have hqe : ((pre.length + 1 : Nat) : Int) = (q : Int) := by omega
          have HQ := Lib.hid hq
          clear hq
          gi_wp2_with (gi_at_builtin; refine wpListIn_append_own_at _ rfl _ _ 42 rfl V.heap.size 22 i0 (.int .u64 0) 1 8 Tryd.underlying42 hi hz0 hz1 hz2 rfl (by decide) _ _ _ rfl (K2.out.alloc _) ⟨W.heap.size, 0, none⟩ 1 1 [.int .u64 x] rfl rfl (cell_one_new _ _ _) (by simp [Value.oneCell']) (by unfold maxLen; omega) (by omega) (by simp; omega) ?_; intro v' w1 hown' hgrow _ hfive; obtain ⟨hv1, hv2, hP2, hko, hkp, hcm⟩ := HF.out w1 v' hown' hgrow hfive; obtain ⟨va, vc, rfl⟩ := own_form hown'; have hc1 := hv1.cell; have hf1 := hv1.frozen; have hc2 := hv2.cell)
          exact ⟨hko, rfl, hP2, by rw [List.length_append]; exact HQ.out⟩
        · have hqe : ¬ ((pre.length + 1 : Nat) : Int) = (q : Int) := by omega
          have HQ := Lib.hid hq
          clear hq
          gi_wp2_with (gi_at_builtin; refine wpListIn_append_own_at _ rfl _ _ 42 rfl V.heap.size 22 i0 (.int .u64 0) 1 8 Tryd.underlying42 hi hz0 hz1 hz2 rfl (by decide) _ _ _ rfl (K2.out.alloc _) ⟨W.heap.size, 0, none⟩ 1 1 [.int .u64 x] rfl rfl (cell_one_new _ _ _) (by simp [Value.oneCell']) (by unfold maxLen; omega) (by omega) (by simp; omega) ?_; intro v' w1 hown' hgrow _ hfive; obtain ⟨hv1, hv2, hP2, hko, hkp, hcm⟩ := HF.out w1 v' hown' hgrow hfive; obtain ⟨va, vc, rfl⟩ := own_form hown'; have hc1 := hv1.cell; have hf1 := hv1.frozen; have hc2 := hv2.cell)
          exact ⟨hko, hkp, hP2, by rw [List.length_append]; show pre.length + 1 < q; have := HQ.out; omega⟩
      case done =>
        rintro D xs W hD rfl ⟨hP, hlq⟩ hDW
        exact tail D _ W hD hP (List.take_of_length_le (Nat.le_of_lt hlq)).symm hDW
      case stop =>
        rintro D c pre W hD hp ⟨rfl, hP, hlq⟩ hDW
        refine wpIn_exit ?_
        simp only [Exit.inBlock, if_pos]
        exact tail D _ W hD hP (by rw [← hlq]; exact List.prefix_iff_eq_take.1 hp) hDW

theorem laidOut : laidOutB Tryd.prog = true := by kernel_rfl
/-- All arguments read behind the call as they did. -/
theorem trodAll_below {H : Type} {enc : TypeId × Value → H} {W W' : World} (hb : Below W.heap.size W W') : ∀ (ts : List TypeId) (vs : List Value) (ds : List (DataW H)) (ps : List MemPlace),
    (∀ t ∈ ts, Tryd.prog.readableRec t = true ∧ t < Tryd.prog.types.size) → DataW.TrodAll enc Tryd.prog W 0 (fun _ => true) true ts vs ds ps → (∀ x ∈ ps, x.block < W.heap.size) →
    DataW.TrodAll enc Tryd.prog W' 0 (fun b => decide (b < W.heap.size)) true ts vs ds ps
  | [], vs, ds, ps, _, h, _ => by
    obtain ⟨rfl, rfl, rfl⟩ := trodAll_nil h
    exact trodAll_mk0
  | t :: ts, vs, ds, ps, hr, h, hlt => by
    obtain ⟨v, vs', d, ds', p, q, rfl, rfl, rfl, h1, h2⟩ := trodAll_cons h
    exact trodAll_cons_mk (Below.trod laidOut (hr t (by simp)).1 (hr t (by simp)).2 h1 hb (fun x hx => hlt x (by simp [hx]))) (trodAll_below hb ts vs' ds' q (fun t ht => hr t (by simp [ht])) h2 (fun x hx => hlt x (by simp [hx])))

set_option maxRecDepth 100000 in
theorem contract (H : Type) (enc : TypeId × Value → H) (W : World) (base : Nat) (args : Array Value) (ds gs : List (DataW H)) (before : List MemPlace)
    (hval0 : ∀ (j : Nat) t v, Tryd.f5.params[j]? = some t → args[j]? = some v → Value.okWide Tryd.prog W .any base t v)
    (hW : DataW.Whole enc Tryd.prog Tryd.f5.params.toList Rows.setSubsetsSpec.vars false W args.toList ds gs before) (hL : laidMetH Tryd.prog Rows.setSubsetsRow.laid W) :
    Calls Tryd.prog 5 args W fun e W' => ∃ v, e = .returned v ∧ Rows.setSubsetsSpec.post enc Tryd.prog Tryd.f5 false true false false W args v W' := by
  have hval : ∀ (j : Nat) t v, Tryd.f5.params[j]? = some t → args[j]? = some v → Value.okWide Tryd.prog W .any base t v := hval0
  have hW' := hW
  obtain ⟨p, q, hA0, hV, rfl, hfz, hnd⟩ := hW
  have hA : DataW.TrodAll enc Tryd.prog W 0 (fun _ => true) true Tryd.f5.params.toList args.toList ds p := hA0
  rw [Tryd.params5] at hA hval
  have hAk := hA
  obtain ⟨v0, vs0, d0, ds0, p0', q0, hargs, rfl, rfl, h0, r0⟩ := trodAll_cons hA
  obtain ⟨v1, vs1, d1, ds1, p1', q1, rfl, rfl, rfl, h1, r1⟩ := trodAll_cons r0
  obtain ⟨rfl, rfl, rfl⟩ := trodAll_nil r1
  obtain rfl : args = #[v0, v1] := by cases args; simp_all
  obtain ⟨rfl, rfl⟩ := trodVars_none hV
  simp only [List.append_nil] at hW' hAk
  have hlt := fun x hx => hW'.lt x hx
  have hE : Env W := env_of hL
  clear hA0 hval0
  obtain ⟨a0, rfl, rfl, rfl, w0⟩ := open_int Tryd.underlying22 (hval 0 22 v0 rfl rfl) h0
  obtain ⟨a1, rfl, rfl, rfl, w1⟩ := open_int Tryd.underlying3 (hval 1 3 v1 rfl rfl) h1
  refine (walk W hE a0 w0 a1 w1).mono fun e W' ⟨he, hg⟩ => ?_
  subst he
  have hargs := trodAll_below hg _ _ _ _ (by intro t ht; simp only [List.mem_cons, List.not_mem_nil, or_false] at ht; revert t; rintro t (rfl | rfl) <;> exact ⟨by kernel_rfl, of_decide_eq_true (by kernel_rfl)⟩) hAk (fun x hx => by simpa using hlt x hx)
  exact ⟨_, rfl, _, _, _, [], _, [], hW', (trodAll_cons_mk (shut_bool Tryd.underlying4 _) trodAll_mk0), hargs, rfl, hg.frame _, fun h => by cases h⟩

noncomputable def laidWorld (os : Os) : World := World.laidAll Tryd.prog os Rows.setSubsetsRow.laid
theorem laid_met (os : Os) : laidMet Tryd.prog Rows.setSubsetsRow.laid ((laidWorld os).forCall (fun _ _ => 0) ⟨#[], #[.int .u64 0, .int .i64 0], []⟩).memory :=
  laidMet_laidAll _ (by kernel_rfl) (by kernel_rfl)
theorem reads (os : Os) {H : Type} (enc : TypeId × Value → H) : ∃ places, DataW.whole enc Tryd.prog ((laidWorld os).forCall (fun _ _ => 0) ⟨#[], #[.int .u64 0, .int .i64 0], []⟩).memory Tryd.f5.params.toList Rows.setSubsetsSpec.vars false (#[.int .u64 0, .int .i64 0] : Array Value).toList 8 = some ([.lit (.int .u64 0), .lit (.int .i64 0)], [], places) :=
  ⟨[], by kernel_rfl⟩

set_option maxRecDepth 100000 in
theorem lifted (os : Os) (started : os.Started) (H : Type) (enc : TypeId × Value → H) (F : Stop.Interp) :
    ReturnsInHanded {} Tryd.checked os 5 .any ((OpenSpec.ofChange Rows.setSubsetsSpec).preRow enc Tryd.prog Tryd.f5 Rows.setSubsetsRow.domain false Rows.setSubsetsRow.laid) (((OpenSpec.ofChange Rows.setSubsetsSpec).at F).post enc Tryd.prog Tryd.f5 false true false false) := by
  obtain ⟨places, hx⟩ := reads os enc
  refine returnsInHanded_of_row (C := Tryd.checked) (s := OpenSpec.ofChange Rows.setSubsetsSpec) own started (by kernel_rfl) Tryd.func5
    (witness_row_at (enc := enc) (C := Tryd.checked) false (laidWorld os) #[.int .u64 0, .int .i64 0] (World.laidAll_os _ _ _) (by kernel_rfl) (by kernel_rfl) (by kernel_rfl)
      (OpenSpec.preRow_of_cond 8 hx (by kernel_rfl) (fun k hk => by cases hk) (by kernel_rfl) (laid_met os))) ?_
  intro W base args ds gs before hval hW _ _ _ hL _ _
  exact contract H enc W base args ds gs before hval hW hL

theorem said : Rows.SetSubsetsSaid :=
  OpenClaim.holds_of_cond 5 Tryd.f5 rfl rfl rfl rfl rfl rfl rfl ⟨rfl, rfl, rfl, rfl, rfl⟩ rfl rfl rfl rfl rfl (by kernel_rfl) Tryd.func5 (by kernel_rfl)
    (of_decide_eq_true (by kernel_rfl)) (by unfold Func.isWrapper; first | (rw [if_pos (by decide +kernel)]; kernel_rfl) | (rw [if_neg (by decide +kernel)]; exact ⟨rfl, rfl⟩))
    (fun os started H enc _ F => by rw [OpenClaim.pre_eq_preRow]; exact lifted os started H enc F)

theorem plain (f : FuncId) (fn : Func) (hf : Tryd.pinned.checked.prog.funcNamed "saleroom/saleroomlaw02.SetSubsets" = some f) (hfn : Tryd.pinned.checked.prog.funcs[f]? = some fn) :
    true = Tryd.pinned.checked.prog.looks [] ∧ ∀ (j : Nat) t, fn.params[j]? = some t → Tryd.pinned.checked.prog.wantsStandIn t = false := by
  obtain rfl : f = 5 := Option.some.inj ((show Tryd.prog.funcNamed "saleroom/saleroomlaw02.SetSubsets" = some 5 by kernel_rfl).symm.trans hf) |>.symm
  obtain rfl : fn = Tryd.f5 := (Option.some.inj (Tryd.func5.symm.trans hfn)).symm
  refine ⟨by kernel_rfl, fun j t ht => ?_⟩
  rw [Tryd.params5] at ht
  have hm := Array.mem_of_getElem? ht
  simp only [List.mem_toArray, List.mem_cons, List.not_mem_nil, or_false] at hm
  revert hm
  rintro (rfl | rfl)
  · exact (show Tryd.prog.wantsStandIn 22 = false by kernel_rfl)
  · exact (show Tryd.prog.wantsStandIn 3 = false by kernel_rfl)

theorem card : Rows.SetSubsetsCardSaid :=
  Claim7.holds_tied_plain_at .later [] _ _ _ _ said (fun _ h => by cases h) (by kernel_rfl) (fun _ h => by cases h) setSubsets_row_tie rfl ⟨rfl, rfl⟩ (by kernel_rfl) rfl plain (by kernel_rfl)
end Go.Proofs.YtndbpmhdpjlncaaDoor.setSubsets
