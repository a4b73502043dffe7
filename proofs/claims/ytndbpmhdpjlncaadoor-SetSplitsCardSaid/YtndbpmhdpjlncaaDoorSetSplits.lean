/- For every set, whatever count of items and whatever count law SetSplits answers true: set.Splits tells all pairs of sets that are the set together, set.Choose its subsets of so many items, and no more are made than are asked for. Condition: the library's tables that the row lists hold what their text lays. -/
import Derived.Test.YtndbpmhdpjlncaaDoorSetAlive
import Derived.Test.YtndbpmhdpjlncaaDoorSetEnv
import Derived.Test.YtndbpmhdpjlncaaDoorSetOrd
import Derived.Test.YtndbpmhdpjlncaaDoorSetFirst
import Derived.Test.YtndbpmhdpjlncaaDoorRefSub
import Derived.Test.YtndbpmhdpjlncaaDoorSplX
import Derived.Test.YtndbpmhdpjlncaaDoorSplS
import Derived.Test.YtndbpmhdpjlncaaDoorSame
import Derived.Test.YtndbpmhdpjlncaaDoorCards
import Derived.Test.YtndbpmhdpjlncaaDoorTie
import Derived.ProofKit
import Derived.ChangeMaps5
import Derived.OpenShut
import Derived.Carry
import Derived.Deep.DeepHandedRow
import Derived.Deep.DeepWitnessRowRef
namespace Go.Proofs.YtndbpmhdpjlncaaDoor.setSplits
open Go.ChangeShapes Go.WideShapes Go.ChangeAt Go.RowKit
set_option linter.unusedVariables false
open Go.Shelf
attribute [local go_sem] Oper.semAt_some

theorem own : ownKnob Tryd.prog.godebug = none := by kernel_rfl

set_option maxRecDepth 100000 in
set_option maxHeartbeats 2000000 in
theorem walk (w : World) (hE : Env w) (a0 : Int) (w0 : (Lit.int .u64 a0).wf = true) (a1 : Int) (w1 : (Lit.int .i64 a1).wf = true) (a2 : Int) (w2 : (Lit.int .i64 a2).wf = true) :
    Calls Tryd.prog 9 #[.int .u64 a0, .int .i64 a1, .int .i64 a2] w fun e w' => e = .returned (.bool true) ∧ Below w.heap.size w w' := by
  obtain ⟨s0, rfl, hs0⟩ := u64_bd w0
  have HA := Lib.hid (fun W h => alive_any W (hE.below h hE.size))
  have HEN := Lib.hid hE
  have HW1 := Lib.hid w1
  clear w0 w1 w2
  refine (callsIn_wide (n := 3)).1 ?_
  refine callsIn_of_wp_marks Tryd.func9 rfl trivial ?_ rfl
  simp only [Tryd.ntmps9, List.size_toArray, List.length_cons, List.length_nil, Nat.reduceAdd, Nat.reduceSub, Array.replicate_succ, Array.replicate_zero, List.push_toArray, List.append_toArray, List.nil_append, List.cons_append]
  refine wpIn_wide.2 ?_
  obtain ⟨B1, hB1⟩ : ∃ W, w.alloc (.cells #[.int .u64 s0] 22) = W := ⟨_, rfl⟩
  obtain ⟨B2, hB2⟩ : ∃ W, B1.alloc (.cells #[.int .i64 a2] 3) = W := ⟨_, rfl⟩
  obtain ⟨W0, hW0⟩ : ∃ W, B2.alloc (.cells #[.bool false] 4) = W := ⟨_, rfl⟩
  have z1 : B1.heap.size = w.heap.size + 1 := by rw [← hB1]; simp
  have z2 : B2.heap.size = w.heap.size + 1 + 1 := by rw [← hB2]; simp [z1]
  have e1 : Boxed B1 w.heap.size 22 (.int .u64 s0) := by rw [← hB1]; exact Boxed.new w _ _
  have e2 : Boxed B2 (w.heap.size + 1) 3 (.int .i64 a2) := by rw [← hB2, ← z1]; exact Boxed.new B1 _ _
  have e3 : Boxed W0 (w.heap.size + 1 + 1) 4 (.bool false) := by rw [← hW0, ← z2]; exact Boxed.new B2 _ _
  have k2 : Below B1.heap.size B1 B2 := by rw [← hB2]; exact (Below.refl _ _).alloc (Nat.le_refl _) _
  have k3 : Below B2.heap.size B2 W0 := by rw [← hW0]; exact (Below.refl _ _).alloc (Nat.le_refl _) _
  have k1 : Below w.heap.size w B1 := by rw [← hB1]; exact (Below.refl _ _).alloc (Nat.le_refl _) _
  have b00 : Below w.heap.size w W0 := k1.trans ((k2.mono k1.size).trans (k3.mono (by omega)))
  have y0 : Boxed W0 w.heap.size 22 (.int .u64 s0) := boxed_below e1 (k2.trans (k3.mono k2.size)) e1.lt
  have y1 : Boxed W0 (w.heap.size + 1) 3 (.int .i64 a2) := boxed_below e2 k3 e2.lt
  have HW0 := Lib.hid hW0
  have HB2 := Lib.hid hB2
  have HB1 := Lib.hid hB1
  have HZ1 := Lib.hid z1
  have HZ2 := Lib.hid z2
  clear hB1 hB2 hW0 z1 z2 e1 e2 k1 k2 k3
  obtain ⟨b1, hb1⟩ : ∃ b, w.heap.size + 1 = b := ⟨_, rfl⟩
  obtain ⟨b2, hb2⟩ : ∃ b, b1 + 1 = b := ⟨_, rfl⟩
  rw [hb1] at HZ1 HZ2 e3 y1
  rw [hb2] at HZ2 e3
  have HBB : Hid (w.heap.size < b1 ∧ b1 < b2) := Lib.hid (by omega)
  have HBE1 := Lib.hid hb1
  have HBE2 := Lib.hid hb2
  clear hb1 hb2
  have Y0 := Lib.hid y0
  have Y1 := Lib.hid y1
  have Y2 := Lib.hid e3
  clear y0 y1 e3
  go_upto_region 1 with fail
  rw [HB1.out, HB2.out, HW0.out, HBE1.out, HBE2.out]
  clear HB1 HB2 HW0 HZ1 HZ2 HBE1 HBE2
  go_wp2_with fail
  refine (HA.out _ b00).mono ?_
  rintro e w1 ⟨rfl, hb1⟩
  have hB1 := b00.trans (hb1.mono b00.size)
  have y0 := boxed_below Y0.out hb1 Y0.out.lt
  have y1 := boxed_below Y1.out hb1 Y1.out.lt
  have y2 := boxed_below Y2.out hb1 Y2.out.lt
  clear Y0 Y1 Y2 b00 hb1 HA
  have c2 := y2.cell
  have f2 := y2.frozen
  go_wp2
  clear c2 f2
  have HB1 := Lib.hid hB1
  clear hB1
  go_loopw [] (fun wr => ∃ s : Nat, s < 18446744073709551616 ∧ Boxed wr w.heap.size 22 (.int .u64 s) ∧ Boxed wr b1 3 (.int .i64 a2) ∧ Boxed wr b2 4 (.bool false) ∧ Below w.heap.size w wr) (fun wr => (intOf ((wr.cell? ⟨w.heap.size, 0, none⟩).getD undef)).toNat)
  case atStart => exact ⟨s0, hs0, y0, y1, y2, HB1.out⟩
  clear y0 y1 y2 HB1
  case round =>
    obtain ⟨s, hs, y0, y1, y2, hbr⟩ := hrel
    have c0 := y0.cell
    have f0 := y0.frozen
    by_cases hc : (cnt s : Int) > 9
    · have hc' : (9 : Int) < (cnt s : Int) := hc
      have hrw := rest_walk hs
      have hpos : 0 < s := by
        rcases Nat.eq_zero_or_pos s with h | h
        · subst h; exact absurd hc' (by decide)
        · exact h
      have hless : s &&& (s - 1) ≤ s - 1 := Nat.and_le_right
      clear hrw hc
      have hrl := rest_less hs hpos
      have hsn := y0.set (.int .u64 ((s &&& (s - 1) : Nat) : Int))
      have h1n := y1.other (show b1 ≠ w.heap.size by have := HBB.out; omega) (.int .u64 ((s &&& (s - 1) : Nat) : Int))
      have h2n := y2.other (show b2 ≠ w.heap.size by have := HBB.out; omega) (.int .u64 ((s &&& (s - 1) : Nat) : Int))
      have hbn := hbr.setCell (p := ⟨w.heap.size, 0, none⟩) (Nat.le_refl _) (.int .u64 ((s &&& (s - 1) : Nat) : Int))
      obtain ⟨r, hr⟩ : ∃ r, s &&& (s - 1) = r := ⟨_, rfl⟩
      rw [hr] at hrl hless hsn h1n h2n hbn
      obtain ⟨wn, hwn⟩ : ∃ wn, wr.setCell ⟨w.heap.size, 0, none⟩ (.int .u64 (r : Nat)) = wn := ⟨_, rfl⟩
      rw [hwn] at hsn h1n h2n hbn
      have HWN := Lib.hid hwn
      have HSN := Lib.hid hsn
      have H1N := Lib.hid h1n
      have H2N := Lib.hid h2n
      have HBN := Lib.hid hbn
      clear hr hwn hsn h1n h2n hbn y0 y1 y2 hbr
      go_wp2_with (go_at_call 14; refine (count_any s _ hs).mono ?_; rintro e w' ⟨rfl, rfl⟩)
      rw [HWN.out]
      refine ⟨⟨r, by omega, HSN.out, H1N.out, H2N.out, HBN.out⟩, ?_⟩
      rw [c0, HSN.out.cell]
      simp [intOf]; omega
    · have hc' : ¬ (9 : Int) < (cnt s : Int) := hc
      have hcn : cnt s ≤ 9 := by omega
      have hsN : subsN s ≤ 512 := Nat.le_trans (Nat.pow_le_pow_right (by decide) hcn) (by decide)
      have hlen : (subs s).length = subsN s := by simp [subs]
      obtain ⟨wr1, hwr1⟩ : ∃ a, a = wr := ⟨_, rfl⟩
      subst hwr1
      obtain ⟨t, ht, htl⟩ := and1023 a2
      obtain ⟨q, hq⟩ : ∃ q, 1 + t = q := ⟨_, rfl⟩
      have hqi : (1 : Int) + (t : Int) = (q : Int) := by omega
      have hq1 : 1 ≤ q ∧ q ≤ 1024 := by omega
      have c1 := y1.cell
      have f1 := y1.frozen
      clear hc
      go_upto_region 6 with (go_at_call 14; refine (count_any s _ hs).mono ?_; rintro e w' ⟨rfl, rfl⟩)
      have x0 := y0.other (show w.heap.size ≠ b1 by have := HBB.out; omega) (.int .i64 (q : Nat))
      have x1 := y1.set (.int .i64 (q : Nat))
      have x2 := y2.other (show b2 ≠ b1 by have := HBB.out; omega) (.int .i64 (q : Nat))
      have xb := hbr.setCell (p := ⟨b1, 0, none⟩) (show w.heap.size ≤ b1 by have := HBB.out; omega) (.int .i64 (q : Nat))
      obtain ⟨V0, hV0⟩ : ∃ V, wr1.setCell ⟨b1, 0, none⟩ (.int .i64 (q : Nat)) = V := ⟨_, rfl⟩
      rw [hV0] at x0 x1 x2 xb ⊢
      have X0 := Lib.hid x0
      have X1 := Lib.hid x1
      have X2 := Lib.hid x2
      have XB := Lib.hid xb
      clear hV0 x0 x1 x2 xb y0 y1 y2 hbr c0 f0 c1 f1 ht hqi
      obtain ⟨V1, hV1⟩ : ∃ V, (V0.alloc (.cells #[] 22)).alloc (.cells #[] 22) = V := ⟨_, rfl⟩
      have zV : V1.heap.size = V0.heap.size + 1 + 1 := by rw [← hV1]; simp
      have b0 : Below V0.heap.size V0 V1 := by rw [← hV1]; exact ((Below.refl _ _).alloc (Nat.le_refl _) _).alloc (by simp) _
      have own1 : V1.ownsRow V0.heap.size 22 1 (.slice (some ⟨V0.heap.size, 0, none⟩) 0 0) 0 [] := by rw [← hV1]; exact own_grown (ownsRow_empty V0 22) (World.grownBy_alloc _ _ none) (fun _ _ h => by cases h)
      have own2 : V1.ownsRow V0.heap.size 22 1 (.slice (some ⟨V0.heap.size + 1, 0, none⟩) 0 0) 0 [] := by
        rw [← hV1]
        have h := ownsRow_empty (V0.alloc (.cells #[] 22)) 22
        rw [World.size_alloc] at h
        exact own_base h (Nat.le_succ _)
      go_upto_region 7 with fail
      have c0 := (boxed_below X0.out b0 X0.out.lt).cell
      clear hV1
      go_wp2_with (go_at_call 31; refine (refSubsets_any s _ hs (by omega)).mono ?_; rintro e V2 ⟨lv, rfl, hl1, hb1⟩; obtain ⟨la, lc, rfl⟩ := own_form hl1)
      obtain ⟨g2, rfl⟩ := own_some hl1 (subsN_pos s)
      obtain ⟨N, hN⟩ : ∃ N, subsN s = N := ⟨_, rfl⟩
      rw [hN] at hl1 hlen hsN ⊢
      have hg2 : V1.heap.size ≤ g2 ∧ g2 < V2.heap.size := World.ownsRow.lt hl1 g2 rfl
      have hV2 := hb1.size
      have hT0 : TR V2 V0.heap.size [g2] (.slice (some ⟨V0.heap.size, 0, none⟩) 0 0) (.slice (some ⟨V0.heap.size + 1, 0, none⟩) 0 0) [] [] V2 :=
        ⟨own_below own1 hb1 (Nat.le_refl _), own_below own2 hb1 (Nat.le_refl _), fun g' h1 h2 => (by have e1 : V0.heap.size = g' := Option.some.inj h1; have e2 : V0.heap.size + 1 = g' := Option.some.inj h2; omega), fun g' h1 => (by have e1 : V0.heap.size = g' := Option.some.inj h1; simp; omega), fun g' h1 => (by have e1 : V0.heap.size + 1 = g' := Option.some.inj h1; simp; omega), Below.refl _ _, fun k hk => by simp at hk; subst hk; exact ⟨hg2.2, rfl⟩⟩
      have HT0 := Lib.hid hT0
      have HCELL : Hid (∀ k x, (subs s)[k]? = some x → V2.cell? ⟨g2, 0 + k, none⟩ = some (.int .u64 (x : Nat))) := Lib.hid (fun k x hx => own_cell (n := N) (xs := (subs s).map encU) hl1 (by rw [List.getElem?_map, hx]; rfl))
      have hb02 := b0.trans (hb1.mono b0.size)
      have HB02 := Lib.hid hb02
      have HX := Lib.hid (fun (W : World) (hb : Below V0.heap.size V2 W) => (⟨boxed_below X0.out (hb02.trans hb) X0.out.lt, boxed_below X1.out (hb02.trans hb) X1.out.lt, boxed_below X2.out (hb02.trans hb) X2.out.lt, XB.out.trans ((hb02.trans hb).mono XB.out.size)⟩ : Boxed W w.heap.size 22 (.int .u64 s) ∧ Boxed W b1 3 (.int .i64 (q : Nat)) ∧ Boxed W b2 4 (.bool false) ∧ Below w.heap.size w W))
      have HLEN := Lib.hid hlen
      have HNE := Lib.hid hN
      obtain ⟨G0, hG0⟩ : ∃ G, V0.heap.size = G := ⟨_, rfl⟩
      have hGV : G0 ≤ V2.heap.size := by omega
      rw [hG0] at HT0 HX ⊢
      have HGE := Lib.hid hG0
      clear hG0 hN hl1 own1 own2 zV b0 hb1 hb02 hT0 hg2 c0 hV2 hlen
      go_loopw [7, 8, 33] (fun r1 r2 i wr => ∃ k : Nat, k ≤ N ∧ i = .int .i64 k ∧ TR V2 G0 [g2] r1 r2 (accL (fun x => decide (x &&& sub s 1 ≠ 0)) (subs s) q k) (accL (fun x => decide ((cnt x : Int) = a1)) (subs s) q k) wr) (fun _ _ i _ => N - (intOf i).toNat)
      case atStart => exact ⟨0, Nat.zero_le _, rfl, by rw [accL_zero, accL_zero]; exact HT0.out⟩
      case round =>
        obtain ⟨k, hk, rfl, hT⟩ := hrel
        obtain ⟨P1, hP1⟩ : ∃ P, P = (fun x => decide (x &&& sub s 1 ≠ 0)) := ⟨_, rfl⟩
        obtain ⟨P2, hP2⟩ : ∃ P, P = (fun x => decide ((cnt x : Int) = a1)) := ⟨_, rfl⟩
        rw [← hP1, ← hP2] at hT ⊢
        obtain ⟨y0, y1, y2, hbw⟩ := HX.out wr hT.bel
        have c0 := y0.cell
        have c1 := y1.cell
        have hGr : G0 ≤ wr.heap.size := Nat.le_trans hGV hT.bel.size
        clear y0 y1 y2 hbw
        by_cases hlt : k < N
        · obtain ⟨x, hxk⟩ : ∃ x, (subs s)[k]? = some x := ⟨(subs s)[k]'(by rw [HLEN.out]; exact hlt), List.getElem?_eq_getElem _⟩
          have hxl : x < 18446744073709551616 := by
            have hm : x ∈ subs s := List.mem_of_getElem? hxk
            obtain ⟨j, _, rfl⟩ := List.mem_map.1 hm
            exact sub_lt hs
          have hcx : wr.cell? ⟨g2, k, none⟩ = some (.int .u64 (x : Nat)) := (World.cell?_of_block (a := ⟨g2, k, none⟩) (hT.keep g2 (by simp)).2).trans (by have h := HCELL.out k x hxk; rw [Nat.zero_add] at h; exact h)
          obtain ⟨ua, uc, rfl⟩ := own_form hT.o1
          obtain ⟨ub, ud, rfl⟩ := own_form hT.o2
          have hl1 := accL_len (P := P1) (l := subs s) (q := q) (k := k)
          have hl2 := accL_len (P := P2) (l := subs s) (q := q) (k := k)
          obtain ⟨x1, hx1⟩ : ∃ l, accL P1 (subs s) q k = l := ⟨_, rfl⟩
          obtain ⟨x2, hx2⟩ : ∃ l, accL P2 (subs s) q k = l := ⟨_, rfl⟩
          have hit1 : P1 x = true → x1.length < q → accL P1 (subs s) q (k + 1) = x1 ++ [x] := fun h1 h2 => by rw [← hx1] at h2 ⊢; exact accL_hit hxk h1 h2
          have mis1 : P1 x = false → accL P1 (subs s) q (k + 1) = x1 := fun h1 => by rw [← hx1]; exact accL_miss hxk h1
          have ful1 : ¬ x1.length < q → accL P1 (subs s) q (k + 1) = x1 := fun h2 => by rw [← hx1] at h2 ⊢; exact accL_full hxk h2
          have hit2 : P2 x = true → x2.length < q → accL P2 (subs s) q (k + 1) = x2 ++ [x] := fun h1 h2 => by rw [← hx2] at h2 ⊢; exact accL_hit hxk h1 h2
          have mis2 : P2 x = false → accL P2 (subs s) q (k + 1) = x2 := fun h1 => by rw [← hx2]; exact accL_miss hxk h1
          have ful2 : ¬ x2.length < q → accL P2 (subs s) q (k + 1) = x2 := fun h2 => by rw [← hx2] at h2 ⊢; exact accL_full hxk h2
          rw [hx1] at hT hl1 ⊢
          rw [hx2] at hT hl2 ⊢
          obtain ⟨M1, hM1⟩ : ∃ m, x1.length = m := ⟨_, rfl⟩
          obtain ⟨M2, hM2⟩ : ∃ m, x2.length = m := ⟨_, rfl⟩
          rw [hM1] at hl1 hit1 ful1 ⊢
          rw [hM2] at hl2 hit2 ful2 ⊢
          have HM1 := Lib.hid hM1
          have HM2 := Lib.hid hM2
          rw [hM1, hM2] at hT
          have HT := Lib.hid hT
          have HI1 := Lib.hid hit1
          have HS1 := Lib.hid mis1
          have HU1 := Lib.hid ful1
          have HI2 := Lib.hid hit2
          have HS2 := Lib.hid mis2
          have HU2 := Lib.hid ful2
          have HPA : Hid (P1 x = decide (x &&& sub s 1 ≠ 0)) := Lib.hid (by rw [hP1])
          have HPB : Hid (P2 x = decide ((cnt x : Int) = a1)) := Lib.hid (by rw [hP2])
          have hneg := neg_low hs
          have hlol := sub_lt (k := 1) hs
          obtain ⟨lo, hlo⟩ : ∃ lo, sub s 1 = lo := ⟨_, rfl⟩
          have hl0 : s = 0 → lo = 0 := fun h => by rw [← hlo, h]; exact Nat.le_zero.1 (dep_le 64 0 1)
          rw [hlo] at hneg hlol HPA
          have hand := u64_and_nat x lo hxl hlol
          obtain ⟨y, hy⟩ : ∃ y, x &&& lo = y := ⟨_, rfl⟩
          rw [hy] at hand HPA
          have hl0' : s = 0 → y = 0 := fun h => by rw [← hy, hl0 h, Nat.and_zero]
          obtain ⟨i0, hi, hz0, hz1, hz2⟩ := info_parts infoU
          have HKN := Lib.hid hlt
          clear hT hit1 mis1 ful1 hit2 mis2 ful2 hM1 hM2 hx1 hx2 hlo hl0 hy hP1 hP2 hxk
          have hk1 : wr.ownsRow G0 22 1 (.slice ua M1 uc) M1 (x1.map encU) := by have h := HT.out.o1; rw [HM1.out] at h; exact h
          have K1 := Lib.hid hk1
          have HF0 := Lib.hid (fun (w1 : World) (v' : Value) (h1 : w1.ownsRow G0 22 1 v' (M1 + 1) (x1.map encU ++ [.int .u64 (x : Nat)])) (h2 : (wr.alloc (.cells #[.int .u64 (x : Nat)] 22)).grownBy w1 (Value.slice ua M1 uc).ownBlock) (h3 : v'.ownBlock = (Value.slice ua M1 uc).ownBlock ∨ v'.ownBlock = some (wr.alloc (.cells #[.int .u64 (x : Nat)] 22)).heap.size) => (HT.out.app1 hGr (by rw [HM1.out]; exact h1) h2 h3 : TR V2 G0 [g2] v' (.slice ub M2 ud) (x1 ++ [x]) x2 w1))
          clear hk1
          go_upto_region 10 with fail
          go_cut [53] from 37 to 52 (fun v wx => v = .bool (P1 x && decide ((M1 : Int) < (q : Int))) ∧ wx = wr)
          case first =>
            by_cases h0 : s = 0
            · have hy0 : ((s : Int) != (0 : Int)) = false := by subst h0; rfl
              have hP : P1 x = false := by rw [HPA.out, hl0' h0]; rfl
              have HP := Lib.hid hP
              clear hP h0
              go_wp2_with fail
              go_meet
              exact ⟨by rw [HP.out]; rfl, rfl⟩
            · have hy0 : ((s : Int) != (0 : Int)) = true := bne_iff_ne.2 (by omega)
              clear h0
              by_cases h1 : y = 0
              · have hy1 : ((y : Int) != (0 : Int)) = false := by subst h1; rfl
                have hP : P1 x = false := by rw [HPA.out, h1]; rfl
                have HP := Lib.hid hP
                clear hP h1
                go_wp2_with fail
                go_meet
                exact ⟨by rw [HP.out]; rfl, rfl⟩
              · have hy1 : ((y : Int) != (0 : Int)) = true := bne_iff_ne.2 (by omega)
                have hP : P1 x = true := by rw [HPA.out]; exact decide_eq_true h1
                have HP := Lib.hid hP
                clear hP h1
                go_wp2_with fail
                go_meet
                exact ⟨by rw [HP.out, Bool.true_and]; congr 1; exact decide_eq_decide.2 (by omega), rfl⟩
          case rest =>
            obtain ⟨rfl, hwc⟩ := hcut
            rw [hwc]
            clear hwc
            go_upto_if 53 with fail
            go_cut [7] from 53 to 57 (fun v wx => TR V2 G0 [g2] v (.slice ub M2 ud) (accL P1 (subs s) q (k + 1)) x2 wx)
            case first =>
              by_cases h1 : P1 x = true ∧ M1 < q
              · obtain ⟨h1, h2⟩ := h1
                have HR := Lib.hid (HI1.out h1 h2)
                have hq2 : (P1 x && decide ((M1 : Int) < (q : Int))) = true := by rw [h1, decide_eq_true (by omega : (M1 : Int) < (q : Int))]; rfl
                rw [hq2]
                clear h1 hq2
                go_wp2_with (at_builtin; refine wpList_append_own_at _ rfl _ _ 42 rfl G0 22 i0 (.int .u64 0) 1 8 Tryd.underlying42 hi hz0 hz1 hz2 rfl (by decide) _ M1 _ rfl (K1.out.alloc _) ⟨wr.heap.size, 0, none⟩ 1 1 [.int .u64 x] rfl rfl (cell_one_new _ _ _) (by simp [Value.oneCell']) (by unfold maxLen; omega) (by omega) (by simp; omega) ?_; intro v' w1 hown' hgrow _ hfive; have HF := Lib.hid (HF0.out w1 v' hown' hgrow hfive); obtain ⟨va, vc, rfl⟩ := own_form hown'; clear hown' hgrow hfive)
                go_meet
                rw [HR.out]; exact HF.out
              · have HR : Hid (accL P1 (subs s) q (k + 1) = x1) := Lib.hid (by
                  by_cases h2 : M1 < q
                  · exact HS1.out (by cases e : P1 x with | false => rfl | true => exact absurd ⟨e, h2⟩ h1)
                  · exact HU1.out h2)
                have hq2 : (P1 x && decide ((M1 : Int) < (q : Int))) = false := by
                  cases e : P1 x with
                  | false => rfl
                  | true => rw [decide_eq_false (by intro h; exact h1 ⟨e, by omega⟩ : ¬ (M1 : Int) < (q : Int))]; rfl
                rw [hq2]
                clear h1 hq2
                go_wp2_with fail
                go_meet
                rw [HR.out]; exact HT.out
            case rest =>
              have hGc : G0 ≤ wc.heap.size := Nat.le_trans hGV hcut.bel.size
              obtain ⟨nx, hnx⟩ : ∃ n, (items x).length = n := ⟨_, rfl⟩
              have hpb : P2 x = decide ((nx : Int) = a1) := by rw [HPB.out]; unfold cnt; rw [hnx]
              have HT2 := Lib.hid hcut
              have HLI := Lib.hid (refList_any x · hxl)
              have hcell0 := (HX.out wc hcut.bel).1.cell
              clear hcut HF0 K1 HT HI1 HS1 HU1 HPA HPB c0 c1 hcx
              go_upto_region 12 with fail
              go_wp2_with fail
              refine (HLI.out _).mono ?_
              rintro e V3 ⟨lv3, rfl, hl3, hb3⟩
              obtain ⟨l3a, l3c, rfl⟩ := own_form hl3
              rw [hnx]
              have hT3 := HT2.out.below hb3 hGc
              have hG3 : G0 ≤ V3.heap.size := Nat.le_trans hGc hb3.size
              have c1 := (HX.out V3 hT3.bel).2.1.cell
              have hk3 : V3.ownsRow G0 22 1 (.slice ub M2 ud) M2 (x2.map encU) := by have h := hT3.o2; rw [HM2.out] at h; exact h
              have K3 := Lib.hid hk3
              have HF3 := Lib.hid (fun (w1 : World) (v' : Value) (h1 : w1.ownsRow G0 22 1 v' (M2 + 1) (x2.map encU ++ [.int .u64 (x : Nat)])) (h2 : (V3.alloc (.cells #[.int .u64 (x : Nat)] 22)).grownBy w1 (Value.slice ub M2 ud).ownBlock) (h3 : v'.ownBlock = (Value.slice ub M2 ud).ownBlock ∨ v'.ownBlock = some (V3.alloc (.cells #[.int .u64 (x : Nat)] 22)).heap.size) => ((hT3.swap.app1 hG3 (by rw [HM2.out]; exact h1) h2 h3).swap : TR V2 G0 [g2] u7 v' (accL P1 (subs s) q (k + 1)) (x2 ++ [x]) w1))
              have HT3 := Lib.hid hT3
              clear hl3 hb3 hT3 hk3 hnx hcell0
              by_cases h1 : (nx : Int) = a1
              · have hP : P2 x = true := by rw [hpb]; exact decide_eq_true h1
                by_cases h2 : M2 < q
                · have hq2 : ((M2 : Int) < (q : Int)) := by omega
                  have HR := Lib.hid (HI2.out hP h2)
                  have h1b : ((nx : Int) == a1) = true := beq_iff_eq.2 h1
                  clear hP hpb
                  go_wp2_with (at_builtin; refine wpList_append_own_at _ rfl _ _ 42 rfl G0 22 i0 (.int .u64 0) 1 8 Tryd.underlying42 hi hz0 hz1 hz2 rfl (by decide) _ M2 _ rfl (K3.out.alloc _) ⟨V3.heap.size, 0, none⟩ 1 1 [.int .u64 x] rfl rfl (cell_one_new _ _ _) (by simp [Value.oneCell']) (by unfold maxLen; omega) (by omega) (by simp; omega) ?_; intro v' w1 hown' hgrow _ hfive; have HF := Lib.hid (HF3.out w1 v' hown' hgrow hfive); obtain ⟨va, vc, rfl⟩ := own_form hown'; clear hown' hgrow hfive)
                  go_roundw
                  case rel => exact ⟨k + 1, by omega, by go_num, by rw [HR.out]; exact HF.out⟩
                  case measure => simp [intOf]; omega
                · have hq2 : ¬ ((M2 : Int) < (q : Int)) := by omega
                  have HR := Lib.hid (HU2.out h2)
                  have h1b : ((nx : Int) == a1) = true := beq_iff_eq.2 h1
                  clear hP hpb
                  go_wp2_with fail
                  go_roundw
                  case rel => exact ⟨k + 1, by omega, by go_num, by rw [HR.out]; exact HT3.out⟩
                  case measure => simp [intOf]; omega
              · have hP : P2 x = false := by rw [hpb]; exact decide_eq_false h1
                have HR := Lib.hid (HS2.out hP)
                have h1b : ((nx : Int) == a1) = false := beq_eq_false_iff_ne.2 h1
                clear hP hpb
                go_wp2_with fail
                go_roundw
                case rel => exact ⟨k + 1, by omega, by go_num, by rw [HR.out]; exact HT3.out⟩
                case measure => simp [intOf]; omega
        · obtain rfl : k = N := by omega
          obtain ⟨V, hV⟩ : ∃ V, V = wr := ⟨_, rfl⟩
          rw [← hV] at hT c0 c1 hGr ⊢
          clear hV
          have hw1 : accL P1 (subs s) q k = ((splitsL s).map Prod.fst).take q := by rw [accL_all (by rw [HLEN.out]; exact Nat.le_refl _), hP1, want_splits hs]
          have hw2 : accL P2 (subs s) q k = (chooseI s a1).take q := by rw [accL_all (by rw [HLEN.out]; exact Nat.le_refl _), hP2]; rfl
          rw [hw1, hw2] at hT
          have hml1 : (((splitsL s).map Prod.fst).take q).length ≤ 1024 := by rw [List.length_take]; omega
          have hml2 : ((chooseI s a1).take q).length ≤ 1024 := by rw [List.length_take]; omega
          obtain ⟨ua, uc, rfl⟩ := own_form hT.o1
          obtain ⟨ub, ud, rfl⟩ := own_form hT.o2
          obtain ⟨y0, y1, y2, hbV⟩ := HX.out V hT.bel
          have OV1 := Lib.hid hT.o1
          have OV2 := Lib.hid hT.o2
          have HL1 : Hid (∀ l, l = ((splitsL s).map Prod.fst).take q → l = ((splitsL s).map Prod.fst).take q) := Lib.hid (fun l h => h)
          have HML1 := Lib.hid hml1
          have HML2 := Lib.hid hml2
          have hVb2 : b2 < V.heap.size := y2.lt
          have hVb1 : b1 < V.heap.size := y1.lt
          have hVb0 : w.heap.size < V.heap.size := y0.lt
          have Y0 := Lib.hid y0
          have Y1 := Lib.hid y1
          have Y2 := Lib.hid y2
          have BV := Lib.hid hbV
          obtain ⟨M1, hM1⟩ : ∃ m, (((splitsL s).map Prod.fst).take q).length = m := ⟨_, rfl⟩
          obtain ⟨M2, hM2⟩ : ∃ m, ((chooseI s a1).take q).length = m := ⟨_, rfl⟩
          rw [hM1] at OV1 HML1 ⊢
          rw [hM2] at OV2 HML2 ⊢
          have HM1 := Lib.hid hM1
          have HM2 := Lib.hid hM2
          clear hT hw1 hw2 hP1 hP2 c0 c1 y0 y1 y2 hbV hM1 hM2 hml1 hml2 HCELL HX HB02 HT0 HL1
          have HSB := Lib.hid (fun W => callsIn_wide.1 (splits_in Fence.wide 3 (fun _ => trivial) rfl s W))
          go_upto_region 16 with fail
          have hP6 := PS.start (V := V) [V.heap.size + 1 + 1, V.heap.size + 1 + 1 + 1 + 2, V.heap.size + 1 + 1 + 1 + 3, V.heap.size + 1 + 1 + 1 + 4] (by simp; omega)
          obtain ⟨A6, hA6⟩ : ∃ A6, (V.alloc (.cells #[] 22)).alloc (.cells #[.slice (some ⟨V.heap.size, 0, none⟩) 0 0] 42) = A6 := ⟨_, rfl⟩
          have z6 : A6.heap.size = V.heap.size + 1 + 1 := by rw [← hA6]; simp
          have HZ6 := Lib.hid z6
          rw [hA6] at hP6 ⊢
          have HP6 := Lib.hid hP6
          have c0 : A6.cell? ⟨w.heap.size, 0, none⟩ = some (.int .u64 (s : Nat)) := (boxed_below Y0.out hP6.b hVb0).cell
          clear hA6 z6 hP6
          go_wp2_with fail
          refine (HSB.out _).mono ?_
          rintro e w' ⟨rfl, rfl⟩
          have hc7 : (A6.alloc (.cells #[.int .u64 s] 22)).cell? ⟨A6.heap.size, 0, none⟩ = some (.int .u64 s) := cell_new_row _ _ _ 0
          have hb7 : Below A6.heap.size A6 (A6.alloc (.cells #[.int .u64 s] 22)) := (Below.refl _ _).alloc (Nat.le_refl _) _
          obtain ⟨A7, hA7⟩ : ∃ A7, A6.alloc (.cells #[.int .u64 s] 22) = A7 := ⟨_, rfl⟩
          have z7 : A7.heap.size = A6.heap.size + 1 := by rw [← hA7]; simp
          rw [hA7] at hc7 hb7 ⊢
          have HP7 := Lib.hid (HP6.out.below hb7)
          obtain ⟨Bs, hBs⟩ : ∃ Bs, A6.heap.size = Bs := ⟨_, rfl⟩
          obtain ⟨b6, hb6⟩ : ∃ b6, V.heap.size + 1 = b6 := ⟨_, rfl⟩
          have hVB : b6 + 1 = Bs := by have := HZ6.out; omega
          have hVb : V.heap.size < b6 := by omega
          have hBA : A7.heap.size = Bs + 1 := by omega
          rw [hb6, hVB, show Bs + 1 = A7.heap.size from hBA.symm] at HP7
          rw [hBs] at hc7 ⊢
          rw [hb6]
          have HC7 := Lib.hid hc7
          have HBA := Lib.hid hBA
          clear hA7 hc7 hb7 z7 hBs hb6 HP6 HZ6 c0 hBA
          go_wp2_with fail
          rename_i K' hKQ
          refine (wpIn_wide (n := 3)).1 ?_
          refine wpIn_act ?_
          intro A hA
          have hA7 := HBA.out
          have tail : ∀ (D : Nat) (pre : List (Nat × Nat)) (W : World), A7.heap.size ≤ D → PS V b6 [Bs, A7.heap.size + 2, A7.heap.size + 3, A7.heap.size + 4] (pre.map Prod.fst) W → pre = (splitsL s).take q → W.heap[D]? = some (.deferred (some [])) → K' { A with defers := { target := .collected D, args := #[] } :: A.defers } W := by
            intro D pre W hD hP hpre hDW
            refine hKQ _ _ ?_
            rw [hA]
            obtain ⟨⟨y, by6, oy, _⟩, hbW⟩ := hP
            rw [show pre.map Prod.fst = ((splitsL s).map Prod.fst).take q from by rw [hpre, List.map_take], HM1.out] at oy
            obtain ⟨ya, yc, rfl⟩ := own_form oy
            have hWs := hbW.size
            have hDlt := (Array.getElem?_eq_some_iff.1 hDW).1
            have HDW := Lib.hid hDW
            have BY6 := Lib.hid by6
            have OY := Lib.hid oy
            have HBW := Lib.hid hbW
            clear by6 oy hbW hDW hpre
            have HCB := Lib.hid (fun W => callsIn_wide.1 (choose_in Fence.wide 3 (fun _ => trivial) rfl s a1 W))
            go_upto_region 24 with fail
            have hP6 := PS.start (V := W) [W.heap.size + 1 + 1, W.heap.size + 1 + 1 + 1] (by simp; omega)
            obtain ⟨A8, hA8⟩ : ∃ A8, (W.alloc (.cells #[] 22)).alloc (.cells #[.slice (some ⟨W.heap.size, 0, none⟩) 0 0] 42) = A8 := ⟨_, rfl⟩
            have z6 : A8.heap.size = W.heap.size + 1 + 1 := by rw [← hA8]; simp
            have HZ6 := Lib.hid z6
            rw [hA8] at hP6 ⊢
            have HP6 := Lib.hid hP6
            have c0 : A8.cell? ⟨w.heap.size, 0, none⟩ = some (.int .u64 (s : Nat)) := (boxed_below Y0.out (HBW.out.trans (hP6.b.mono hWs)) hVb0).cell
            clear hA8 z6 hP6
            go_wp2_with fail
            refine (HCB.out _).mono ?_
            rintro e w' ⟨rfl, rfl⟩
            obtain ⟨A0, hA0⟩ : ∃ A0, A8.alloc (.cells #[.int .u64 s] 22) = A0 := ⟨_, rfl⟩
            obtain ⟨A9, hA9⟩ : ∃ A9, A0.alloc (.cells #[.int .i64 a1] 3) = A9 := ⟨_, rfl⟩
            have z0 : A0.heap.size = A8.heap.size + 1 := by rw [← hA0]; simp
            have z9 : A9.heap.size = A8.heap.size + 1 + 1 := by rw [← hA9]; simp [z0]
            have hb9 : Below A0.heap.size A0 A9 := by rw [← hA9]; exact (Below.refl _ _).alloc (Nat.le_refl _) _
            have hb0 : Below A8.heap.size A8 A0 := by rw [← hA0]; exact (Below.refl _ _).alloc (Nat.le_refl _) _
            have hc9 : A9.cell? ⟨A8.heap.size, 0, none⟩ = some (.int .u64 s) := (hb9.cell (p := ⟨A8.heap.size, 0, none⟩) (show A8.heap.size < A0.heap.size by omega)).trans (by rw [← hA0]; exact cell_new_row _ _ _ 0)
            have hd9 : A9.cell? ⟨A8.heap.size + 1, 0, none⟩ = some (.int .i64 a1) := by rw [← z0, ← hA9]; exact cell_new_row _ _ _ 0
            rw [hA0, hA9]
            have HP9 := Lib.hid (HP6.out.below (hb0.trans (hb9.mono hb0.size)))
            obtain ⟨Bs2, hBs2⟩ : ∃ B, A8.heap.size = B := ⟨_, rfl⟩
            obtain ⟨b9, hb9e⟩ : ∃ b, W.heap.size + 1 = b := ⟨_, rfl⟩
            have hVB2 : b9 + 1 = Bs2 := by have := HZ6.out; omega
            have hVb9 : W.heap.size < b9 := by omega
            have hBA9 : A9.heap.size = Bs2 + 1 + 1 := by omega
            rw [hb9e, hVB2] at HP9
            rw [hBs2] at hc9 hd9 ⊢
            rw [hb9e]
            have HC9 := Lib.hid hc9
            have HD9 := Lib.hid hd9
            have HBA9 := Lib.hid hBA9
            clear hA0 hA9 hc9 hd9 hb9 hb0 z0 z9 hBs2 hb9e HP6 HZ6 c0 hBA9
            go_wp2_with fail
            rename_i K2' hKQ2
            refine (wpIn_wide (n := 3)).1 ?_
            refine wpIn_act ?_
            intro A2 hA2
            have hA9 := HBA9.out
            have tail2 : ∀ (D2 : Nat) (pre2 : List Nat) (W2 : World), A9.heap.size ≤ D2 → PS W b9 [Bs2, Bs2 + 1] pre2 W2 → pre2 = (chooseI s a1).take q → W2.heap[D2]? = some (.deferred (some [])) → K2' { A2 with defers := { target := .collected D2, args := #[] } :: A2.defers } W2 := by
              intro D2 pre2 W2 hD2 hP2 hpre2 hDW2
              refine hKQ2 _ _ ?_
              rw [hA2]
              obtain ⟨⟨z, bz9, oz, _⟩, hbW2⟩ := hP2
              rw [hpre2, HM2.out] at oz
              obtain ⟨za, zc, rfl⟩ := own_form oz
              have hW2s := hbW2.size
              have hVW2 := HBW.out.trans (hbW2.mono hWs)
              have oV1 := own_below OV1.out hVW2 (Nat.le_refl _)
              have oV2 := own_below OV2.out hVW2 (Nat.le_refl _)
              have oY := own_below OY.out hbW2 (Nat.le_refl _)
              have hm1 := HM1.out
              have hm2 := HM2.out
              have sl1 : Sl (Value.int .u64) W2.heap.size W2 (.slice ya M1 yc) ((((splitsL s).map Prod.fst).take q).map fun x => ((x : Nat) : Int)) := Sl.map (f := fun x : Nat => ((x : Nat) : Int)) (enc := Value.int .u64) (Sl.of_owns (enc := encU) (xs := ((splitsL s).map Prod.fst).take q) (by rw [hm1]; exact oY))
              have sl2 : Sl (Value.int .u64) W2.heap.size W2 (.slice ua M1 uc) ((((splitsL s).map Prod.fst).take q).map fun x => ((x : Nat) : Int)) := Sl.map (f := fun x : Nat => ((x : Nat) : Int)) (enc := Value.int .u64) (Sl.of_owns (enc := encU) (xs := ((splitsL s).map Prod.fst).take q) (by rw [hm1]; exact oV1))
              have sl3 : Sl (Value.int .u64) W2.heap.size W2 (.slice za M2 zc) (((chooseI s a1).take q).map fun x => ((x : Nat) : Int)) := Sl.map (f := fun x : Nat => ((x : Nat) : Int)) (enc := Value.int .u64) (Sl.of_owns (enc := encU) (xs := (chooseI s a1).take q) (by rw [hm2]; exact oz))
              have sl4 : Sl (Value.int .u64) W2.heap.size W2 (.slice ub M2 ud) (((chooseI s a1).take q).map fun x => ((x : Nat) : Int)) := Sl.map (f := fun x : Nat => ((x : Nat) : Int)) (enc := Value.int .u64) (Sl.of_owns (enc := encU) (xs := (chooseI s a1).take q) (by rw [hm2]; exact oV2))
              have HS1 := Lib.hid (sameU_any ya ua M1 yc M1 uc _ _ W2 (by rw [List.length_map, hm1]; have := HML1.out; omega) (by rw [List.length_map, hm1]; have := HML1.out; omega) sl1 sl2)
              have HS2 := Lib.hid (fun (W3 : World) (hb : Below W2.heap.size W2 W3) => sameU_any za ub M2 zc M2 ud _ _ W3 (by rw [List.length_map, hm2]; have := HML2.out; omega) (by rw [List.length_map, hm2]; have := HML2.out; omega) ((sl3.below hb).mono hb.size) ((sl4.below hb).mono hb.size))
              rw [decide_eq_true rfl] at HS1
              simp only [decide_true] at HS2
              have bY := boxed_below BY6.out hbW2 BY6.out.lt
              have c6 := bY.cell
              have b2W := boxed_below Y2.out hVW2 hVb2
              have hwW2 := BV.out.trans (hVW2.mono BV.out.size)
              have hDW' := (hbW2.block D hDlt).trans HDW.out
              have B9 := Lib.hid bz9
              have B2 := Lib.hid b2W
              have HWW := Lib.hid hwW2
              have HD1 := Lib.hid hDW'
              have HD2 := Lib.hid hDW2
              have hD2lt := (Array.getElem?_eq_some_iff.1 hDW2).1
              clear sl1 sl2 sl3 sl4 oV1 oV2 oY oz bY bz9 b2W hwW2 hDW' hDW2 hm1 hm2 hpre2 hVW2 hbW2
              go_wp2_with fail
              refine HS1.out.mono ?_
              rintro e W3 ⟨rfl, hb3⟩
              have c9 := (boxed_below B9.out hb3 B9.out.lt).cell
              have HS3 := Lib.hid (HS2.out W3 hb3)
              go_wp2_with fail
              refine HS3.out.mono ?_
              rintro e W4 ⟨rfl, hb4⟩
              have hb24 := hb3.trans (hb4.mono hb3.size)
              have x2 := boxed_below B2.out hb24 B2.out.lt
              have c2 := x2.cell
              have f2 := x2.frozen
              have x2' := x2.set (.bool true)
              have hwb2 : w.heap.size < b2 := by have := HBB.out; omega
              have hbw5 := (HWW.out.trans (hb24.mono HWW.out.size)).setCell (p := ⟨b2, 0, none⟩) (Nat.le_of_lt hwb2) (.bool true)
              have hd2 : (W4.setCell ⟨b2, 0, none⟩ (.bool true)).heap[D2]? = some (.deferred (some [])) := (Below.heap_setCell _ _ _ _ (by show D2 ≠ b2; omega)).trans ((hb24.block D2 hD2lt).trans HD2.out)
              have hd1 : (W4.setCell ⟨b2, 0, none⟩ (.bool true)).heap[D]? = some (.deferred (some [])) := (Below.heap_setCell _ _ _ _ (by show D ≠ b2; omega)).trans ((hb24.block D (by omega)).trans HD1.out)
              have X2 := Lib.hid x2'
              have HBW5 := Lib.hid hbw5
              have HDD2 := Lib.hid hd2
              have HDD1 := Lib.hid hd1
              clear x2 x2' hbw5 hd2 hd1 c6 c9 hb24 hb3 hb4
              go_wp2
              obtain ⟨W5, hW5⟩ : ∃ W5, W4.setCell ⟨b2, 0, none⟩ (.bool true) = W5 := ⟨_, rfl⟩
              rw [hW5] at X2 HBW5 HDD1 HDD2
              refine ⟨by simp, .inl ⟨_, _, rfl, run_takeDeferred (by rw [hW5]; exact HDD2.out), ?_⟩⟩
              rw [hW5]
              have hdd : (W5.putObj D2 (.deferred none)).heap[D]? = some (.deferred (some [])) := (World.putObj_heap_other (by omega)).trans HDD1.out
              refine ⟨by simp, .inl ⟨_, _, rfl, run_takeDeferred hdd, ?_⟩⟩
              have x5 := (X2.out.kept (grownBy_putObj' W5 D2 (.deferred none)) (fun e => by cases e; omega)).kept (grownBy_putObj' (W5.putObj D2 (.deferred none)) D (.deferred none)) (fun e => by cases e; omega)
              exact ⟨_, res_splits _ _ b2 (.bool true) rfl x5.cell, rfl, (HBW5.out.trans (belowK_b (w := w) (Nat.le_refl _) W5 D2 _ (.deferred none) (by omega) HDD2.out rfl rfl)).trans (belowK_b (w := w) (Nat.le_refl _) _ D _ (.deferred none) (by omega) hdd rfl rfl)⟩
            refine rangeQ rfl (by omega) (gf := 63) (lb := #[.pointer (some ⟨Bs2 + 1, 0, none⟩), .pointer (some ⟨Bs2, 0, none⟩)]) (by rw [hA2]; rfl) trivial (enters_of Tryd.func63 (by kernel_rfl) rfl)
              (choose1 Bs2 (Bs2 + 1) W.heap.size s a1 hs HW1.out A9 (by omega) (by omega) HC9.out HD9.out) (fun r h => by simp at h; omega) (by omega) (Below.refl _ _) (fun _ => rfl)
              (fun pre W2 => PS W b9 [Bs2, Bs2 + 1] pre W2 ∧ pre.length < q) (fun c pre W2 => c = .exit 6 ∧ PS W b9 [Bs2, Bs2 + 1] pre W2 ∧ pre.length = q)
              (fun pre A C row h hg hr => ⟨PS.own (by omega) pre A C row h.1 hg hr, h.2⟩) (fun c pre A C row h hg hr => ⟨h.1, PS.own (by omega) pre A C row h.2.1 hg hr, h.2.2⟩)
              ⟨HP9.out, by show 0 < q; omega⟩ (fun x => { tmps := ((A2.tmps.setIfInBounds 102 (.int .u64 (x : Nat))).setIfInBounds 15 (.int .u64 (x : Nat))), defers := [] }) ?assign ?body ?done ?stop
            case assign =>
              intro l x W K hK
              rw [hA2] at hK ⊢
              gi_wp2
              exact hK
            case body =>
              rintro l pre2 x W2 ⟨hP, hlq⟩ hp hzW
              obtain ⟨⟨v1, k1, k2, k3⟩, hbw⟩ := hP
              obtain ⟨va, vc, rfl⟩ := own_form k2
              have hc := k1.cell
              have c1 : W2.cell? ⟨b1, 0, none⟩ = some (.int .i64 (q : Nat)) := ((HBW.out.trans (hbw.mono hWs)).cell (p := ⟨b1, 0, none⟩) hVb1).trans Y1.out.cell
              obtain ⟨i0, hi, hz0, hz1, hz2⟩ := info_parts infoU
              have HBW2 := Lib.hid hbw
              have K1 := Lib.hid k1
              have K2 := Lib.hid k2
              have K3 := Lib.hid k3
              have hwV2 := hbw.size
              clear hbw k1 k2 k3 hp
              have HF0 := Lib.hid (fun (w1 : World) (v' : Value) (h1 : w1.ownsRow W.heap.size 22 1 v' (pre2.length + 1) (pre2.map encU ++ [.int .u64 (x : Nat)])) (h2 : (W2.alloc (.cells #[.int .u64 (x : Nat)] 22)).grownBy w1 (Value.slice va pre2.length vc).ownBlock) (h3 : v'.ownBlock = (Value.slice va pre2.length vc).ownBlock ∨ v'.ownBlock = some (W2.alloc (.cells #[.int .u64 (x : Nat)] 22)).heap.size) =>
                (by
                  obtain ⟨q1, q2, q3, q4, q5, q6⟩ := PS.push (x := x) (av := [Bs2, Bs2 + 1]) (pre := pre2) K1.out K2.out K3.out HBW2.out h1 h2 h3 (by omega) (fun k hk => by simp at hk; omega)
                  exact ⟨q1, q2, q3, q4.from _, ⟨q5, fun k h1 h2 => by omega, fun k hk => q6 k hk⟩, (q5.cell (p := ⟨b1, 0, none⟩) (show b1 < W.heap.size by omega)).trans c1⟩ :
                Boxed w1 b9 42 (.slice va pre2.length vc) ∧ Boxed (w1.setCell ⟨b9, 0, none⟩ v') b9 42 v' ∧ PS W b9 [Bs2, Bs2 + 1] (pre2 ++ [x]) (w1.setCell ⟨b9, 0, none⟩ v') ∧ KeepsFrom A9.heap.size W2 (w1.setCell ⟨b9, 0, none⟩ v') ∧ KpO W.heap.size 0 [Bs2, Bs2 + 1] A9 W2 (w1.setCell ⟨b9, 0, none⟩ v') ∧ (w1.setCell ⟨b9, 0, none⟩ v').cell? ⟨b1, 0, none⟩ = some (.int .i64 (q : Nat))))
              rw [hA2]
              by_cases hq : pre2.length + 1 = q
              · have hqe : ((pre2.length + 1 : Nat) : Int) = (q : Int) := by omega
                have HQ := Lib.hid hq
                clear hq
                gi_wp2_with (gi_at_builtin; refine wpListIn_append_own_at _ rfl _ _ 42 rfl W.heap.size 22 i0 (.int .u64 0) 1 8 Tryd.underlying42 hi hz0 hz1 hz2 rfl (by decide) _ _ _ rfl (K2.out.alloc _) ⟨W2.heap.size, 0, none⟩ 1 1 [.int .u64 x] rfl rfl (cell_one_new _ _ _) (by simp [Value.oneCell']) (by unfold maxLen; omega) (by omega) (by simp; omega) ?_; intro v' w1 hown' hgrow _ hfive; obtain ⟨hv1, hv2, hP2, hko, hkp, hcm⟩ := HF0.out w1 v' hown' hgrow hfive; obtain ⟨va2, vc2, rfl⟩ := own_form hown'; have hc1 := hv1.cell; have hf1 := hv1.frozen; have hc2 := hv2.cell)
                exact ⟨hko, rfl, hP2, by rw [List.length_append]; exact HQ.out⟩
              · have hqe : ¬ ((pre2.length + 1 : Nat) : Int) = (q : Int) := by omega
                have HQ := Lib.hid hq
                clear hq
                gi_wp2_with (gi_at_builtin; refine wpListIn_append_own_at _ rfl _ _ 42 rfl W.heap.size 22 i0 (.int .u64 0) 1 8 Tryd.underlying42 hi hz0 hz1 hz2 rfl (by decide) _ _ _ rfl (K2.out.alloc _) ⟨W2.heap.size, 0, none⟩ 1 1 [.int .u64 x] rfl rfl (cell_one_new _ _ _) (by simp [Value.oneCell']) (by unfold maxLen; omega) (by omega) (by simp; omega) ?_; intro v' w1 hown' hgrow _ hfive; obtain ⟨hv1, hv2, hP2, hko, hkp, hcm⟩ := HF0.out w1 v' hown' hgrow hfive; obtain ⟨va2, vc2, rfl⟩ := own_form hown'; have hc1 := hv1.cell; have hf1 := hv1.frozen; have hc2 := hv2.cell)
                exact ⟨hko, hkp, hP2, by rw [List.length_append]; show pre2.length + 1 < q; have := HQ.out; omega⟩
            case done =>
              rintro D2 xs W2 hD2 rfl ⟨hP, hlq⟩ hDW2
              exact tail2 D2 _ W2 hD2 hP (List.take_of_length_le (Nat.le_of_lt hlq)).symm hDW2
            case stop =>
              rintro D2 c pre2 W2 hD2 hp ⟨rfl, hP, hlq⟩ hDW2
              refine wpIn_exit ?_
              simp only [Exit.inBlock, if_pos]
              exact tail2 D2 _ W2 hD2 hP (by rw [← hlq]; exact List.prefix_iff_eq_take.1 hp) hDW2
          refine rangeQ rfl (by omega) (gf := 61) (lb := #[.pointer (some ⟨Bs, 0, none⟩)]) (by rw [hA]; rfl) trivial (enters_of Tryd.func61 (by kernel_rfl) rfl)
            (splits1 Bs V.heap.size s hs A7 (by omega) HC7.out) (fun r h => by simp at h; omega) (by omega) (Below.refl _ _) (fun _ => rfl)
            (fun pre W => PS V b6 [Bs, A7.heap.size + 2, A7.heap.size + 3, A7.heap.size + 4] (pre.map Prod.fst) W ∧ pre.length < q) (fun c pre W => c = .exit 4 ∧ PS V b6 [Bs, A7.heap.size + 2, A7.heap.size + 3, A7.heap.size + 4] (pre.map Prod.fst) W ∧ pre.length = q)
            (fun pre A C row h hg hr => ⟨PS.own (by omega) (pre.map Prod.fst) A C row h.1 hg hr, h.2⟩) (fun c pre A C row h hg hr => ⟨h.1, PS.own (by omega) (pre.map Prod.fst) A C row h.2.1 hg hr, h.2.2⟩)
            ⟨HP7.out, by show 0 < q; omega⟩ (fun x => { tmps := ((((A.tmps.setIfInBounds 77 (.int .u64 (x.1 : Nat))).setIfInBounds 78 (.int .u64 (x.2 : Nat))).setIfInBounds 12 (.int .u64 (x.1 : Nat))).setIfInBounds 13 (.int .u64 (x.2 : Nat))), defers := [] }) ?assign ?body ?done ?stop
          case assign =>
            intro l x W K hK
            rw [hA] at hK ⊢
            gi_wp2
            exact hK
          case body =>
            rintro l pre x W ⟨hP, hlq⟩ hp hzW
            obtain ⟨hx1, hx2, hxa, hxo⟩ := split_pair hs hp
            have hban := u64_and_nat x.1 x.2 hx1 hx2
            have hbor := u64_or_nat x.1 x.2 hx1 hx2
            rw [hxa] at hban
            rw [hxo] at hbor
            obtain ⟨x1, x2⟩ := x
            dsimp only at hx1 hx2 hban hbor ⊢
            obtain ⟨⟨v1, k1, k2, k3⟩, hbw⟩ := hP
            rw [List.length_map] at k2
            obtain ⟨va, vc, rfl⟩ := own_form k2
            have hc := k1.cell
            have c0 : W.cell? ⟨w.heap.size, 0, none⟩ = some (.int .u64 (s : Nat)) := (hbw.cell (p := ⟨w.heap.size, 0, none⟩) hVb0).trans Y0.out.cell
            have c1 : W.cell? ⟨b1, 0, none⟩ = some (.int .i64 (q : Nat)) := (hbw.cell (p := ⟨b1, 0, none⟩) hVb1).trans Y1.out.cell
            obtain ⟨i0, hi, hz0, hz1, hz2⟩ := info_parts infoU
            obtain ⟨m, hm⟩ : ∃ m, pre.length = m := ⟨_, rfl⟩
            have HBW := Lib.hid hbw
            have HM := Lib.hid hm
            have hk2' := k2
            rw [hm] at hk2' k1 hlq hc k3
            have K1 := Lib.hid k1
            have K2 := Lib.hid hk2'
            have K3 := Lib.hid k3
            have hwV2 := hbw.size
            clear hbw k1 k2 k3 hk2' hp hm hxa hxo
            have HF0 := Lib.hid (fun (w1 : World) (v' : Value) (h1 : w1.ownsRow V.heap.size 22 1 v' (m + 1) ((pre.map Prod.fst).map encU ++ [.int .u64 (x1 : Nat)])) (h2 : (W.alloc (.cells #[.int .u64 (x1 : Nat)] 22)).grownBy w1 (Value.slice va m vc).ownBlock) (h3 : v'.ownBlock = (Value.slice va m vc).ownBlock ∨ v'.ownBlock = some (W.alloc (.cells #[.int .u64 (x1 : Nat)] 22)).heap.size) =>
              (by
                have hlen : (pre.map Prod.fst).length = m := by rw [List.length_map]; exact HM.out
                obtain ⟨q1, q2, q3, q4, q5, q6⟩ := PS.push (x := x1) (av := [Bs, A7.heap.size + 2, A7.heap.size + 3, A7.heap.size + 4]) (pre := pre.map Prod.fst) K1.out (by rw [hlen]; exact K2.out) K3.out HBW.out (by rw [hlen]; exact h1) h2 h3 (by omega) (fun k hk => by simp at hk; omega)
                exact ⟨q1, q2, by rw [List.map_append]; exact q3, q4.from _, ⟨q5, fun k h1 h2 => q6 k (by simp; omega), fun k hk => q6 k (by simp at hk; simp [hk])⟩, (q5.cell (p := ⟨b1, 0, none⟩) hVb1).trans c1⟩ :
              Boxed w1 b6 42 (.slice va m vc) ∧ Boxed (w1.setCell ⟨b6, 0, none⟩ v') b6 42 v' ∧ PS V b6 [Bs, A7.heap.size + 2, A7.heap.size + 3, A7.heap.size + 4] ((pre ++ [(x1, x2)]).map Prod.fst) (w1.setCell ⟨b6, 0, none⟩ v') ∧ KeepsFrom A7.heap.size W (w1.setCell ⟨b6, 0, none⟩ v') ∧ KpO V.heap.size 3 [Bs] A7 W (w1.setCell ⟨b6, 0, none⟩ v') ∧ (w1.setCell ⟨b6, 0, none⟩ v').cell? ⟨b1, 0, none⟩ = some (.int .i64 (q : Nat))))
            rw [hA]
            have hne0 : ((0 : Int) != (0 : Int)) = false := rfl
            have hnes : ((s : Int) != (s : Int)) = false := by simp
            by_cases hq : m + 1 = q
            · have hqe : ((m + 1 : Nat) : Int) = (q : Int) := by omega
              have HQ := Lib.hid hq
              clear hq
              gi_wp2_with (gi_at_builtin; refine wpListIn_append_own_at _ rfl _ _ 42 rfl V.heap.size 22 i0 (.int .u64 0) 1 8 Tryd.underlying42 hi hz0 hz1 hz2 rfl (by decide) _ _ _ rfl (K2.out.alloc _) ⟨W.heap.size, 0, none⟩ 1 1 [.int .u64 x1] rfl rfl (cell_one_new _ _ _) (by simp [Value.oneCell']) (by unfold maxLen; omega) (by omega) (by simp; omega) ?_; intro v' w1 hown' hgrow _ hfive; obtain ⟨hv1, hv2, hP2, hko, hkp, hcm⟩ := HF0.out w1 v' hown' hgrow hfive; obtain ⟨va2, vc2, rfl⟩ := own_form hown'; have hc1 := hv1.cell; have hf1 := hv1.frozen; have hc2 := hv2.cell)
              exact ⟨hko, rfl, hP2, by rw [List.length_append, HM.out]; exact HQ.out⟩
            · have hqe : ¬ ((m + 1 : Nat) : Int) = (q : Int) := by omega
              have HQ := Lib.hid hq
              clear hq
              gi_wp2_with (gi_at_builtin; refine wpListIn_append_own_at _ rfl _ _ 42 rfl V.heap.size 22 i0 (.int .u64 0) 1 8 Tryd.underlying42 hi hz0 hz1 hz2 rfl (by decide) _ _ _ rfl (K2.out.alloc _) ⟨W.heap.size, 0, none⟩ 1 1 [.int .u64 x1] rfl rfl (cell_one_new _ _ _) (by simp [Value.oneCell']) (by unfold maxLen; omega) (by omega) (by simp; omega) ?_; intro v' w1 hown' hgrow _ hfive; obtain ⟨hv1, hv2, hP2, hko, hkp, hcm⟩ := HF0.out w1 v' hown' hgrow hfive; obtain ⟨va2, vc2, rfl⟩ := own_form hown'; have hc1 := hv1.cell; have hf1 := hv1.frozen; have hc2 := hv2.cell)
              exact ⟨hko, hkp, hP2, by rw [List.length_append, HM.out]; show m + 1 < q; have := HQ.out; omega⟩
          case done =>
            rintro D xs W hD rfl ⟨hP, hlq⟩ hDW
            exact tail D _ W hD hP (List.take_of_length_le (Nat.le_of_lt hlq)).symm hDW
          case stop =>
            rintro D c pre W hD hp ⟨rfl, hP, hlq⟩ hDW
            refine wpIn_exit ?_
            simp only [Exit.inBlock, if_pos]
            exact tail D _ W hD hP (by rw [← hlq]; exact List.prefix_iff_eq_take.1 hp) hDW

theorem laidOut : laidOutB Tryd.prog = true := by kernel_rfl
/-- All arguments read behind the call as they did. -/
theorem trodAll_below {H : Type} {enc : TypeId × Value → H} {W W' : World} (hb : Below W.heap.size W W') : ∀ (ts : List TypeId) (vs : List Value) (ds : List (DataW H)) (ps : List MemPlace),
    (∀ t ∈ ts, Tryd.prog.readableRec t = true ∧ t < Tryd.prog.types.size) → DataW.TrodAll enc Tryd.prog W 0 (fun _ => true) true ts vs ds ps → (∀ x ∈ ps, x.block < W.heap.size) →
    DataW.TrodAll enc Tryd.prog W' 0 (fun b => decide (b < W.heap.size)) true ts vs ds ps
  | [], vs, ds, ps, _, h, _ => by
    obtain ⟨rfl, rfl, rfl⟩ := trodAll_nil h
    exact trodAll_mk0
  | t :: ts, vs, ds, ps, hr, h, hlt => by
    obtain ⟨v, vs', d, ds', p, q, rfl, rfl, rfl, h1, h2⟩ := trodAll_cons h
    exact trodAll_cons_mk (Below.trod laidOut (hr t (by simp)).1 (hr t (by simp)).2 h1 hb (fun x hx => hlt x (by simp [hx]))) (trodAll_below hb ts vs' ds' q (fun t ht => hr t (by simp [ht])) h2 (fun x hx => hlt x (by simp [hx])))

set_option maxRecDepth 100000 in
theorem contract (H : Type) (enc : TypeId × Value → H) (W : World) (base : Nat) (args : Array Value) (ds gs : List (DataW H)) (before : List MemPlace)
    (hval0 : ∀ (j : Nat) t v, Tryd.f9.params[j]? = some t → args[j]? = some v → Value.okWide Tryd.prog W .any base t v)
    (hW : DataW.Whole enc Tryd.prog Tryd.f9.params.toList Rows.setSplitsSpec.vars false W args.toList ds gs before) (hL : laidMetH Tryd.prog Rows.setSplitsRow.laid W) :
    Calls Tryd.prog 9 args W fun e W' => ∃ v, e = .returned v ∧ Rows.setSplitsSpec.post enc Tryd.prog Tryd.f9 false true false false W args v W' := by
  have hval : ∀ (j : Nat) t v, Tryd.f9.params[j]? = some t → args[j]? = some v → Value.okWide Tryd.prog W .any base t v := hval0
  have hW' := hW
  obtain ⟨p, q, hA0, hV, rfl, hfz, hnd⟩ := hW
  have hA : DataW.TrodAll enc Tryd.prog W 0 (fun _ => true) true Tryd.f9.params.toList args.toList ds p := hA0
  rw [Tryd.params9] at hA hval
  have hAk := hA
  obtain ⟨v0, vs0, d0, ds0, p0', q0, hargs, rfl, rfl, h0, r0⟩ := trodAll_cons hA
  obtain ⟨v1, vs1, d1, ds1, p1', q1, rfl, rfl, rfl, h1, r1⟩ := trodAll_cons r0
  obtain ⟨v2, vs2, d2, ds2, p2', q2, rfl, rfl, rfl, h2, r2⟩ := trodAll_cons r1
  obtain ⟨rfl, rfl, rfl⟩ := trodAll_nil r2
  obtain rfl : args = #[v0, v1, v2] := by cases args; simp_all
  obtain ⟨rfl, rfl⟩ := trodVars_none hV
  simp only [List.append_nil] at hW' hAk
  have hlt := fun x hx => hW'.lt x hx
  have hE : Env W := env_of hL
  clear hA0 hval0
  obtain ⟨a0, rfl, rfl, rfl, w0⟩ := open_int Tryd.underlying22 (hval 0 22 v0 rfl rfl) h0
  obtain ⟨a1, rfl, rfl, rfl, w1⟩ := open_int Tryd.underlying3 (hval 1 3 v1 rfl rfl) h1
  obtain ⟨a2, rfl, rfl, rfl, w2⟩ := open_int Tryd.underlying3 (hval 2 3 v2 rfl rfl) h2
  refine (walk W hE a0 w0 a1 w1 a2 w2).mono fun e W' ⟨he, hg⟩ => ?_
  subst he
  have hargs := trodAll_below hg _ _ _ _ (by intro t ht; simp only [List.mem_cons, List.not_mem_nil, or_false] at ht; revert t; rintro t (rfl | rfl | rfl) <;> exact ⟨by kernel_rfl, of_decide_eq_true (by kernel_rfl)⟩) hAk (fun x hx => by simpa using hlt x hx)
  exact ⟨_, rfl, _, _, _, [], _, [], hW', (trodAll_cons_mk (shut_bool Tryd.underlying4 _) trodAll_mk0), hargs, rfl, hg.frame _, fun h => by cases h⟩

noncomputable def laidWorld (os : Os) : World := World.laidAll Tryd.prog os Rows.setSplitsRow.laid
theorem laid_met (os : Os) : laidMet Tryd.prog Rows.setSplitsRow.laid ((laidWorld os).forCall (fun _ _ => 0) ⟨#[], #[.int .u64 0, .int .i64 0, .int .i64 0], []⟩).memory :=
  laidMet_laidAll _ (by kernel_rfl) (by kernel_rfl)
theorem reads (os : Os) {H : Type} (enc : TypeId × Value → H) : ∃ places, DataW.whole enc Tryd.prog ((laidWorld os).forCall (fun _ _ => 0) ⟨#[], #[.int .u64 0, .int .i64 0, .int .i64 0], []⟩).memory Tryd.f9.params.toList Rows.setSplitsSpec.vars false (#[.int .u64 0, .int .i64 0, .int .i64 0] : Array Value).toList 8 = some ([.lit (.int .u64 0), .lit (.int .i64 0), .lit (.int .i64 0)], [], places) :=
  ⟨[], by kernel_rfl⟩

set_option maxRecDepth 100000 in
theorem lifted (os : Os) (started : os.Started) (H : Type) (enc : TypeId × Value → H) (F : Stop.Interp) :
    ReturnsInHanded {} Tryd.checked os 9 .any ((OpenSpec.ofChange Rows.setSplitsSpec).preRow enc Tryd.prog Tryd.f9 Rows.setSplitsRow.domain false Rows.setSplitsRow.laid) (((OpenSpec.ofChange Rows.setSplitsSpec).at F).post enc Tryd.prog Tryd.f9 false true false false) := by
  obtain ⟨places, hx⟩ := reads os enc
  refine returnsInHanded_of_row (C := Tryd.checked) (s := OpenSpec.ofChange Rows.setSplitsSpec) own started (by kernel_rfl) Tryd.func9
    (witness_row_at (enc := enc) (C := Tryd.checked) false (laidWorld os) #[.int .u64 0, .int .i64 0, .int .i64 0] (World.laidAll_os _ _ _) (by kernel_rfl) (by kernel_rfl) (by kernel_rfl)
      (OpenSpec.preRow_of_cond 8 hx (by kernel_rfl) (fun k hk => by cases hk) (by kernel_rfl) (laid_met os))) ?_
  intro W base args ds gs before hval hW _ _ _ hL _ _
  exact contract H enc W base args ds gs before hval hW hL

theorem said : Rows.SetSplitsSaid :=
  OpenClaim.holds_of_cond 9 Tryd.f9 rfl rfl rfl rfl rfl rfl rfl ⟨rfl, rfl, rfl, rfl, rfl⟩ rfl rfl rfl rfl rfl (by kernel_rfl) Tryd.func9 (by kernel_rfl)
    (of_decide_eq_true (by kernel_rfl)) (by unfold Func.isWrapper; first | (rw [if_pos (by decide +kernel)]; kernel_rfl) | (rw [if_neg (by decide +kernel)]; exact ⟨rfl, rfl⟩))
    (fun os started H enc _ F => by rw [OpenClaim.pre_eq_preRow]; exact lifted os started H enc F)

theorem plain (f : FuncId) (fn : Func) (hf : Tryd.pinned.checked.prog.funcNamed "saleroom/saleroomlaw02.SetSplits" = some f) (hfn : Tryd.pinned.checked.prog.funcs[f]? = some fn) :
    true = Tryd.pinned.checked.prog.looks [] ∧ ∀ (j : Nat) t, fn.params[j]? = some t → Tryd.pinned.checked.prog.wantsStandIn t = false := by
  obtain rfl : f = 9 := Option.some.inj ((show Tryd.prog.funcNamed "saleroom/saleroomlaw02.SetSplits" = some 9 by kernel_rfl).symm.trans hf) |>.symm
  obtain rfl : fn = Tryd.f9 := (Option.some.inj (Tryd.func9.symm.trans hfn)).symm
  refine ⟨by kernel_rfl, fun j t ht => ?_⟩
  rw [Tryd.params9] at ht
  have hm := Array.mem_of_getElem? ht
  simp only [List.mem_toArray, List.mem_cons, List.not_mem_nil, or_false] at hm
  revert hm
  rintro (rfl | rfl | rfl)
  · exact (show Tryd.prog.wantsStandIn 22 = false by kernel_rfl)
  · exact (show Tryd.prog.wantsStandIn 3 = false by kernel_rfl)
  · exact (show Tryd.prog.wantsStandIn 3 = false by kernel_rfl)

theorem card : Rows.SetSplitsCardSaid :=
  Claim7.holds_tied_plain_at .later [] _ _ _ _ said (fun _ h => by cases h) (by kernel_rfl) (fun _ h => by cases h) setSplits_row_tie rfl ⟨rfl, rfl⟩ (by kernel_rfl) rfl plain (by kernel_rfl)
end Go.Proofs.YtndbpmhdpjlncaaDoor.setSplits
