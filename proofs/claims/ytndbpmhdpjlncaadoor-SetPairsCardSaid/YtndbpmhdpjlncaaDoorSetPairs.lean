/- For every set, whatever numbers and whatever count law SetPairs answers true: set.Pairs tells the items that have a place among the numbers, each with the number that stands there, as far as is asked for. Condition: the library's tables that the row lists hold what their text lays. -/
import Derived.Test.YtndbpmhdpjlncaaDoorSetAlive
import Derived.Test.YtndbpmhdpjlncaaDoorSetEnv
import Derived.Test.YtndbpmhdpjlncaaDoorSetOrd
import Derived.Test.YtndbpmhdpjlncaaDoorSetPx
import Derived.Test.YtndbpmhdpjlncaaDoorSetPy
import Derived.Test.YtndbpmhdpjlncaaDoorPairs1R
import Derived.Test.YtndbpmhdpjlncaaDoorCards
import Derived.Test.YtndbpmhdpjlncaaDoorTie
import Derived.ProofKit
import Derived.ChangeMaps5
import Derived.OpenShut
import Derived.Carry
import Derived.Deep.DeepHandedRow
import Derived.Deep.DeepWitnessRowRef
namespace Go.Proofs.YtndbpmhdpjlncaaDoor.setPairs
open Go.ChangeShapes Go.WideShapes Go.ChangeAt Go.RowKit
set_option linter.unusedVariables false
open Go.Shelf
attribute [local go_sem] Oper.semAt_some

theorem own : ownKnob Tryd.prog.godebug = none := by kernel_rfl

set_option maxRecDepth 100000 in
set_option maxHeartbeats 2000000 in
theorem walk (w : World) (hE : Env w) (a0 : Int) (w0 : (Lit.int .u64 a0).wf = true) (p1 : Option Addr) (n1 c1 : Nat) (x1 : List Int) (w1 : Nums w p1 n1 c1 x1) (a2 : Int) (w2 : (Lit.int .i64 a2).wf = true) :
    Calls Tryd.prog 6 #[.int .u64 a0, .slice p1 n1 c1, .int .i64 a2] w fun e w' => e = .returned (.bool true) ∧ Below w.heap.size w w' := by
  obtain ⟨s, rfl, hs⟩ := u64_bd w0
  have HNM := Lib.hid w1
  have hxl : x1.length = n1 := w1.1
  have HXL := Lib.hid hxl
  have HA := Lib.hid (fun W h => alive_any W (hE.below h hE.size))
  have HEN := Lib.hid hE
  clear w0 w1 w2 hxl
  refine (callsIn_wide (n := 3)).1 ?_
  refine callsIn_of_wp_marks Tryd.func6 rfl trivial ?_ rfl
  simp only [Tryd.ntmps6, List.size_toArray, List.length_cons, List.length_nil, Nat.reduceAdd, Nat.reduceSub, Array.replicate_succ, Array.replicate_zero, List.push_toArray, List.append_toArray, List.nil_append, List.cons_append]
  refine wpIn_wide.2 ?_
  obtain ⟨W0, hW0⟩ : ∃ W0, w.alloc (.cells #[.int .i64 a2] 3) = W0 := ⟨_, rfl⟩
  have y5 : Boxed W0 w.heap.size 3 (.int .i64 a2) := by rw [← hW0]; exact Boxed.new w _ _
  have b00 : Below w.heap.size w W0 := by rw [← hW0]; exact (Below.refl _ w).alloc (Nat.le_refl _) _
  have HW0 := Lib.hid hW0
  clear hW0
  go_upto_region 1 with fail
  rw [HW0.out]
  clear HW0
  go_wp2_with fail
  refine (HA.out _ b00).mono ?_
  rintro e w1 ⟨rfl, hb1⟩
  have hB1 := b00.trans (hb1.mono b00.size)
  have Y5 := Lib.hid (boxed_below y5 hb1 y5.lt)
  have h5l : w.heap.size < w1.heap.size := Y5.out.lt
  clear y5 b00 hb1 HA
  by_cases hn : (n1 : Int) > 100
  · have hn' : (100 : Int) < n1 := hn
    go_wp2
    exact ⟨_, results_tmp rfl _ _ _, rfl, hB1⟩
  · have hn' : ¬ (100 : Int) < n1 := hn
    obtain ⟨t, ht, htl⟩ := and127 a2
    obtain ⟨q, hq⟩ : ∃ q, 1 + t = q := ⟨_, rfl⟩
    have hqi : (1 : Int) + (t : Int) = (q : Int) := by omega
    have hq1 : 1 ≤ q ∧ q ≤ 128 := by omega
    have c5 := Y5.out.cell
    have f5 := Y5.out.frozen
    go_upto_region 6 with fail
    obtain ⟨A0, hA0⟩ : ∃ A0, w1.setCell ⟨w.heap.size, 0, none⟩ (.int .i64 (q : Nat)) = A0 := ⟨_, rfl⟩
    rw [hA0]
    have m0 : Boxed A0 w.heap.size 3 (.int .i64 (q : Nat)) := by rw [← hA0]; exact Y5.out.set _
    have b0 : Below w.heap.size w A0 := by rw [← hA0]; exact hB1.setCell (p := ⟨w.heap.size, 0, none⟩) (Nat.le_refl _) _
    have HA0L : Hid (w.heap.size < A0.heap.size) := Lib.hid m0.lt
    clear hA0 c5 f5 Y5 hB1 h5l ht
    go_upto_region 7 with fail
    have hz6 : ∀ (o1 o2 o3 o4 : Obj), ((((A0.alloc o1).alloc o2).alloc o3).alloc o4).heap.size = A0.heap.size + 1 + 1 + 1 + 1 := fun o1 o2 o3 o4 => by simp
    have hP6 := PI.start (av := [A0.heap.size + 1 + 1 + 1 + 1]) m0 b0 (by simp; omega)
    obtain ⟨A6, hA6⟩ : ∃ A6, (((A0.alloc (.cells #[] 3)).alloc (.cells #[] 2)).alloc (.cells #[.slice (some ⟨A0.heap.size, 0, none⟩) 0 0] 27)).alloc (.cells #[.slice (some ⟨A0.heap.size + 1, 0, none⟩) 0 0] 49) = A6 := ⟨_, rfl⟩
    have z6 : A6.heap.size = A0.heap.size + 1 + 1 + 1 + 1 := by rw [← hA6]; simp
    rw [hA6] at hP6 ⊢
    have hPR := pairs_nums (s := s) hs (HNM.out.below hP6.b) (by omega)
    have HPR := Lib.hid hPR
    clear hA6 m0 b0 hz6 hPR
    go_wp2_with fail
    refine HPR.out.mono ?_
    rintro e w7 ⟨Bk, v, rfl, hBk1, hBk2, hcs, hck, hv, hb7, hnew⟩
    clear HPR
    have h67 := hb7.size
    have hfz : (x1.take (Lib.bitLen s)).length ≤ 1048576 := by rw [List.length_take]; have := HXL.out; omega
    obtain ⟨g, hg1, hg2, hvg⟩ : ∃ g, A6.heap.size ≤ g ∧ g < w7.heap.size ∧ ∀ b off m c, v = .slice (some ⟨b, off, none⟩) m c → b = g := by
      rcases hv with ⟨rfl, _⟩ | ⟨b, off, cap, rfl, hb, _⟩
      · exact ⟨A6.heap.size, Nat.le_refl _, by omega, fun b off m c e => by cases e⟩
      · exact ⟨b, Nat.le_of_lt (hnew _ _ _ _ rfl), hb, fun b' off' m' c' e => by cases e; rfl⟩
    have hP7 := (hP6.off (av' := [A6.heap.size, Bk, g, w7.heap.size + 2]) (fun k hk => by simp at hk; omega)).below hb7
    have hE7 := HEN.out.below hP7.b HEN.out.size
    have h87 : 8 ≤ w7.heap.size := Nat.le_trans HEN.out.size hP7.b.size
    have HPP := Lib.hid (pairs1R A6.heap.size Bk g s v _ hs w7 h87 (by omega) hBk2 hg2 hvg hfz hcs hck hv hE7)
    rw [pl_fit hs] at HPP
    have HP7 := Lib.hid hP7
    have hA0l := hP7.b.size
    have hw6 := hP6.b.size
    have hm6 := hP6.most.lt
    obtain ⟨b7, hb7e⟩ : ∃ b7, A0.heap.size + 1 + 1 = b7 := ⟨_, rfl⟩
    have hb8e : A0.heap.size + 1 + 1 + 1 = b7 + 1 := by omega
    rw [hb8e, hb7e] at HP7 ⊢
    have h0w : w.heap.size < A0.heap.size := HA0L.out
    have HZ6 := Lib.hid z6
    have HB7E := Lib.hid hb7e
    clear hP6 hP7 hE7 hcs hck hv hb7 hnew hfz hvg z6 hb7e hb8e
    have hlt1 : w.heap.size < b7 := by have := HB7E.out; omega
    have hlt2 : b7 + 1 < A6.heap.size := by have := HB7E.out; have := HZ6.out; omega
    go_wp2_with fail
    rename_i K' hKQ
    refine (wpIn_wide (n := 3)).1 ?_
    refine wpIn_act ?_
    intro A hA
    have tail : ∀ (D : Nat) (pre : List (Nat × Int)) (W : World), w7.heap.size ≤ D → PI w b7 (b7 + 1) q [A6.heap.size, Bk, g, w7.heap.size + 2] pre W → pre = ((fitL s x1.length).map (at_ x1)).take q → W.heap[D]? = some (.deferred (some [])) → K' { A with defers := { target := .collected D, args := #[] } :: A.defers } W := by
      intro D pre W hD hP hpre hDW
      refine hKQ _ _ ?_
      rw [hA]
      have c5 := hP.most.cell
      have hPm := hP.b.size
      obtain ⟨V0, hV0⟩ : ∃ V0, (W.alloc (.cells #[] 3)).alloc (.cells #[] 2) = V0 := ⟨_, rfl⟩
      have zV : V0.heap.size = W.heap.size + 1 + 1 := by rw [← hV0]; simp
      have b0 : Below W.heap.size W V0 := by rw [← hV0]; exact ((Below.refl _ _).alloc (Nat.le_refl _) _).alloc (by simp) _
      have own1 : V0.ownsRow W.heap.size 3 1 (.slice (some ⟨W.heap.size, 0, none⟩) 0 0) 0 [] := by rw [← hV0]; exact own_grown (ownsRow_empty W 3) (World.grownBy_alloc _ _ none) (fun _ _ h => by cases h)
      have own2 : V0.ownsRow W.heap.size 2 1 (.slice (some ⟨W.heap.size + 1, 0, none⟩) 0 0) 0 [] := by
        rw [← hV0]
        have h := ownsRow_empty (W.alloc (.cells #[] 3)) 2
        rw [World.size_alloc] at h
        exact own_base h (Nat.le_succ _)
      go_upto_region 13 with fail
      clear hV0
      go_wp2_with (go_at_call 15; refine (refList_any s _ hs).mono ?_; rintro e V1 ⟨lv, rfl, hl1, hb1⟩; obtain ⟨la, lc, rfl⟩ := own_form hl1)
      have hV1 := hb1.size
      obtain ⟨N, hN⟩ : ∃ N, (items s).length = N := ⟨_, rfl⟩
      have hN64 : N ≤ 64 := by rw [← hN]; exact cnt_le s
      have hl1' := hl1
      rw [hN] at hl1 ⊢
      have HN := Lib.hid hN
      have hT0 : TI W V1 W.heap.size V0.heap.size V1.heap.size (.slice (some ⟨W.heap.size, 0, none⟩) 0 0) (.slice (some ⟨W.heap.size + 1, 0, none⟩) 0 0) 0 [] [] V1 :=
        ⟨own_below own1 hb1 (Nat.le_refl _), own_below own2 hb1 (Nat.le_refl _), fun g' e => by cases e; left; show W.heap.size < V0.heap.size; omega, fun g' e => by cases e; left; show W.heap.size + 1 < V0.heap.size; omega, Nat.le_refl _, b0.trans (hb1.mono b0.size), fun _ _ _ => rfl⟩
      have HT0 := Lib.hid hT0
      have HPb := Lib.hid hP.b
      have HP := Lib.hid hP
      have HPRE := Lib.hid hpre
      have HDW := Lib.hid hDW
      have HDL := Lib.hid (Array.getElem?_eq_some_iff.1 hDW).1
      have HC5 := Lib.hid (show w.heap.size < W.heap.size from hP.most.lt)
      have hC1 : ∀ k' x, (items s)[k']? = some x → ∃ b off, la = some ⟨b, off, none⟩ ∧ V0.heap.size ≤ b ∧ b < V1.heap.size ∧ V1.cell? ⟨b, off + k', none⟩ = some (encI x) := by
        intro k' x hx
        rcases Sl.of_owns hl1' with ⟨_, e2⟩ | ⟨b, off, cap, e, hb, hcap, hc⟩
        · rw [e2] at hx; simp at hx
        · cases e
          exact ⟨b, off, rfl, (own_at hl1' rfl).1, hb, hc k' x hx⟩
      have HC1 := Lib.hid hC1
      clear hN hl1' hT0 hC1 own1 own2 zV hP hpre hDW
      go_loopw [11, 12, 47] (fun r1 r2 i wr => ∃ k : Nat, k ≤ N ∧ i = .int .i64 k ∧ TI W V1 W.heap.size V0.heap.size V1.heap.size r1 r2 (wantL s x1.length q k).length ((wantL s x1.length q k).map encI) ((wantL s x1.length q k).map (fun x => Value.int .i64 (at_ x1 x).2)) wr) (fun _ _ i _ => N - (intOf i).toNat)
      case atStart => exact ⟨0, Nat.zero_le _, rfl, by have h := HT0.out; simpa [wantL] using h⟩
      case round =>
        obtain ⟨k, hk, rfl, hT⟩ := hrel
        have hwl := wantL_len s x1.length q k
        have c5' : wr.cell? ⟨w.heap.size, 0, none⟩ = some (.int .i64 (q : Nat)) := (hT.bel.cell (p := ⟨w.heap.size, 0, none⟩) HC5.out).trans c5
        by_cases hlt : k < N
        · obtain ⟨x, hxk⟩ : ∃ x, (items s)[k]? = some x := ⟨(items s)[k]'(by rw [HN.out]; exact hlt), List.getElem?_eq_getElem _⟩
          obtain ⟨lb, lo, rfl, hb1', hb2', hcx⟩ := HC1.out k x hxk
          have hcw : wr.cell? ⟨lb, lo + k, none⟩ = some (.int .i64 (x : Nat)) := (World.cell?_of_block (a := ⟨lb, lo + k, none⟩) (hT.mid lb hb1' hb2')).trans hcx
          obtain ⟨M, hM⟩ : ∃ M, (wantL s x1.length q k).length = M := ⟨_, rfl⟩
          obtain ⟨ua, uc, rfl⟩ := own_form hT.o1
          have HT := Lib.hid hT
          have HXK := Lib.hid hxk
          have HM2 := Lib.hid hM
          rw [hM] at hwl ⊢
          clear hT hcx hb1' hb2' hxk hM
          by_cases hin : x < n1 ∧ M < q
          · obtain ⟨hi1, hi2⟩ := hin
            have hi1' : (x : Int) < (n1 : Int) := by omega
            have hi2' : (M : Int) < (q : Int) := by omega
            obtain ⟨ab, ao, hpe, habl, hac⟩ : ∃ ab ao, p1 = some ⟨ab, ao, none⟩ ∧ ab < w.heap.size ∧ ∀ j y, x1[j]? = some y → w.cell? ⟨ab, ao + j, none⟩ = some (.int .i64 y) := by
              rcases HNM.out.2.2 with e0 | e0 | ⟨b, off, cap, e, hb, hcap, hc⟩
              · have := HXL.out; rw [e0] at this; simp at this; omega
              · have := HXL.out; rw [e0.2] at this; simp at this; omega
              · injection e with e1 e2 e3
                exact ⟨b, off, e1, hb, hc⟩
            subst hpe
            obtain ⟨z, hz⟩ : ∃ z, x1[x]? = some z := ⟨x1[x]'(by rw [HXL.out]; exact hi1), List.getElem?_eq_getElem _⟩
            have hzc := hac x z hz
            have hzw : ∀ W2, Below W.heap.size W W2 → W2.cell? ⟨ab, ao + x, none⟩ = some (.int .i64 z) := fun W2 hb2 => (hb2.cell (p := ⟨ab, ao + x, none⟩) (Nat.lt_trans habl HC5.out)).trans ((HPb.out.cell (p := ⟨ab, ao + x, none⟩) habl).trans hzc)
            have HZW := Lib.hid hzw
            have hatz : (at_ x1 x).2 = z := by unfold at_; rw [hz]; rfl
            have HATZ := Lib.hid hatz
            clear hac hzc hzw hz hatz
            obtain ⟨xl1, hxl1⟩ : ∃ xl1, (wantL s x1.length q k).map encI = xl1 := ⟨_, rfl⟩
            obtain ⟨xl2, hxl2⟩ : ∃ xl2, (wantL s x1.length q k).map (fun x => Value.int .i64 (at_ x1 x).2) = xl2 := ⟨_, rfl⟩
            have HXL1 := Lib.hid hxl1
            have HXL2 := Lib.hid hxl2
            have hT := HT.out
            rw [HM2.out, hxl1, hxl2] at hT
            obtain ⟨p1', n1', p2', n2', k4, k5, k6⟩ := hT
            have hl1 : ∀ g', (Value.slice ua M uc).ownBlock = some g' → g' < wr.heap.size := fun g' hg => (World.ownsRow.lt p1' g' hg).2
            have hl2 : ∀ g', u12.ownBlock = some g' → g' < wr.heap.size := fun g' hg => (World.ownsRow.lt n1' g' hg).2
            have HL1 := Lib.hid hl1
            have HL2 := Lib.hid hl2
            have HF1 := Lib.hid p2'
            have HF2 := Lib.hid n2'
            have hwsz := Nat.le_trans (Nat.le_trans b0.size hV1) k4
            have hG0 : TG W V1 wr.heap.size W.heap.size V0.heap.size V1.heap.size (.slice ua M uc) u12 M xl1 xl2 (encI x) (.int .i64 z) (fun _ => false) (fun j => [u61, u62, u63, u64, u65, u66, u67, u68, u69, u70, u71, .slice ua M uc, u12].getD j undef) wr :=
              ⟨k4, Nat.le_refl _, hwsz, k5, k6, fun _ => p1', fun _ => n1', fun _ => rfl, fun _ => rfl, (fun e => by cases e), (fun e => by cases e), (fun e => by cases e), (fun e => by cases e)⟩
            have HG0 := Lib.hid hG0
            obtain ⟨i1, hi, hz0, hz1, hz2⟩ := info_parts (show (Tryd.prog.info? 3).map (fun i => (i.zero, i.size, i.bytes)) = some (some (.int .i64 0), 1, 8) by kernel_rfl)
            obtain ⟨i2, hj, hy0, hy1, hy2⟩ := info_parts infoCN
            clear hG0 hl1 hl2 p1' n1' p2' n2' hxl1 hxl2 k6
            go_upto_region 17 with fail
            refine region_invV (l := _) (by kernel_rfl) (by decide +kernel) (fun v => { tmps := #[Value.int IntKind.u64 (s : Int), Value.slice (some ⟨ab, ao, none⟩) n1 c1, Value.int IntKind.i64 a2, undef, undef, Value.pointer (some ⟨w.heap.size, 0, none⟩), Value.bool false, Value.pointer (some ⟨b7, 0, none⟩), Value.pointer (some ⟨b7 + 1, 0, none⟩), undef, undef, v 11, v 12, undef, Value.int IntKind.i64 (x : Int), Value.bool true, Value.bool false, Value.slice (some ⟨ab, ao, none⟩) n1 c1, Value.int IntKind.i64 (n1 : Int), Value.bool (decide (100 < (n1 : Int))), Value.int IntKind.i64 a2, Value.int IntKind.i64 (t : Int), Value.int IntKind.i64 (q : Int), Value.slice (some ⟨A0.heap.size, 0, none⟩) 0 0, Value.slice (some ⟨A0.heap.size + 1, 0, none⟩) 0 0, Value.int IntKind.u64 (s : Int), Value.slice (some ⟨ab, ao, none⟩) n1 c1, Value.func (Fn.func 57) #[] #[Value.pointer (some ⟨A6.heap.size, 0, none⟩), Value.pointer (some ⟨Bk, 0, none⟩)], undef, undef, undef, undef, undef, undef, undef, undef, undef, undef, undef, undef, undef, undef, Value.slice (some ⟨W.heap.size, 0, none⟩) 0 0, Value.slice (some ⟨W.heap.size + 1, 0, none⟩) 0 0, Value.int IntKind.u64 (s : Int), Value.slice (some ⟨lb, lo, none⟩) N lc, Value.int IntKind.i64 (N : Int), Value.int IntKind.i64 (k : Int), Value.bool true, Value.pointer (some ⟨lb, lo + k, none⟩), Value.int IntKind.i64 (x : Int), Value.int IntKind.i64 (x : Int), Value.slice (some ⟨ab, ao, none⟩) n1 c1, Value.int IntKind.i64 (n1 : Int), Value.bool true, Value.bool true, Value.slice ua M uc, Value.int IntKind.i64 (M : Int), Value.int IntKind.i64 (q : Int), Value.bool true, Value.bool true, v 0, v 1, v 2, v 3, v 4, v 5, v 6, v 7, v 8, v 9, v 10, u72, undef, undef, undef, undef, undef, undef, undef, undef], defers := [{ target := Target.collected D, args := #[] }] }) (TG W V1 wr.heap.size W.heap.size V0.heap.size V1.heap.size (.slice ua M uc) u12 M xl1 xl2 (encI x) (.int .i64 z)) (TV wr.heap.size W.heap.size V0.heap.size V1.heap.size (.slice ua M uc) u12 (.slice (some ⟨ab, ao, none⟩) n1 c1) ⟨ab, ao + x, none⟩ M xl1 xl2 (encI x) (.int .i64 z)) (TE wr.heap.size) TV.keep (fun j => [u61, u62, u63, u64, u65, u66, u67, u68, u69, u70, u71, .slice ua M uc, u12].getD j undef) HG0.out.drew ?hop ?hend
            case hop =>
              simp only [AllDoV]
              refine ⟨?o0, ?o1, ?o2, ?o3, ?o4, ?o5, ?o6, ?o7, ?o8, ?o9, ?o10, ?o11, ?o12, trivial⟩
              all_goals intro L v W2 hG hLf hd Q hQ
              all_goals simp [Region.binds] at hd
              all_goals rw [if_pos (show Region.wanted _ _ = true from rfl)]
              case o0 =>
                have h11 : L 11 = false := by
                  cases e : L 11 with
                  | false => rfl
                  | true => have h0 : L 0 = false := hLf; rw [hG.z1 e] at h0; cases h0
                have HPp := Lib.hid (hG.p1 h11)
                go_wp2
                exact ⟨_, rfl, TE.refl _ _ _, HPp.out, hG.upd _ (by decide) (by decide) (by decide) (by decide)⟩
              case o1 =>
                go_wp2
                exact ⟨_, rfl, TE.refl _ _ _, rfl, hG.upd _ (by decide) (by decide) (by decide) (by decide)⟩
              case o2 =>
                have hA2 : (W2.alloc (.cells #[encI x] 3)).heap[W2.heap.size]? = some (.cells #[encI x] 3 (0, 0)) := World.alloc_heap_new W2 _
                have hsz : wr.heap.size ≤ W2.heap.size := hG.bsz
                have hv1 : v 1 = encI x := hd.2
                rw [hv1]
                unfold encI at hA2 ⊢
                go_wp2
                refine ⟨.slice (some ⟨W2.heap.size, 0, none⟩) 1 1, ?_, TE.alloc _ _ _ _, ⟨W2.heap.size, rfl, hsz, hA2⟩, (hG.alloc _).upd _ (by decide) (by decide) (by decide) (by decide)⟩
                simp [updV, hv1, encI]
              case o3 =>
                obtain ⟨⟨_, hv0'⟩, _, b, hv2, hbz, hbc⟩ := hd
                have hv0 : v 0 = .slice ua M uc := hv0'
                have hsz := hG.sz
                have hbsz := hG.bsz
                have hbs0 := hG.bs0
                have ho := hG.o1 hLf
                refine wpList_append_own_at _ rfl _ _ 27 rfl W.heap.size 3 i1 (.int .i64 0) 1 8 Tryd.underlying27 hi hz0 hz1 hz2 rfl (by decide) (v 0) M xl1 rfl (by rw [hv0]; exact ho) ⟨b, 0, none⟩ 1 1 [encI x] hv2 rfl (one_cell hbc) (by simp [Value.oneCell', encI]) (by unfold maxLen; omega) (by omega) (by omega) ?_
                intro v' W3 q1 q2 _ q3
                rw [hv0] at q2 q3
                go_wp2
                refine ⟨v', by simp [updV, hv0, hv2], TE.app1 ho HL1.out q2, ⟨q1, fun g' hg' => ?_⟩, hG.app1 v' hLf HF1.out q2⟩
                rcases q3 with q3 | q3
                · exact HF1.out g' (by rw [← q3]; exact hg')
                · rw [q3] at hg'
                  cases hg'
                  right; exact hsz
              case o4 =>
                have h12 : L 12 = false := by
                  cases e : L 12 with
                  | false => rfl
                  | true => have h0 : L 4 = false := hLf; rw [hG.z2 e] at h0; cases h0
                have HPp := Lib.hid (hG.p2 h12)
                go_wp2
                exact ⟨_, rfl, TE.refl _ _ _, HPp.out, hG.upd _ (by decide) (by decide) (by decide) (by decide)⟩
              case o5 =>
                go_wp2
                exact ⟨_, rfl, TE.refl _ _ _, rfl, hG.upd _ (by decide) (by decide) (by decide) (by decide)⟩
              case o6 =>
                go_wp2
                exact ⟨_, rfl, TE.refl _ _ _, rfl, hG.upd _ (by decide) (by decide) (by decide) (by decide)⟩
              case o7 =>
                obtain ⟨⟨_, h5'⟩, _, h6'⟩ := hd
                have h5 : v 5 = .slice (some ⟨ab, ao, none⟩) n1 c1 := h5'
                have h6 : v 6 = encI x := h6'
                rw [h5, h6]
                unfold encI
                go_wp2
                refine ⟨.pointer (some ⟨ab, ao + x, none⟩), ?_, TE.refl _ _ _, rfl, hG.upd _ (by decide) (by decide) (by decide) (by decide)⟩
                simp [updV, h5, h6, encI]
              case o8 =>
                have h7 : v 7 = .pointer (some ⟨ab, ao + x, none⟩) := hd.2
                have hcz := HZW.out W2 hG.bel
                rw [h7]
                go_wp2
                refine ⟨.int .i64 z, ?_, TE.refl _ _ _, rfl, hG.upd _ (by decide) (by decide) (by decide) (by decide)⟩
                simp [updV, h7]
              case o9 =>
                have hA2 : (W2.alloc (.cells #[.int .i64 z] 2)).heap[W2.heap.size]? = some (.cells #[.int .i64 z] 2 (0, 0)) := World.alloc_heap_new W2 _
                have hsz : wr.heap.size ≤ W2.heap.size := hG.bsz
                have hv8 : v 8 = .int .i64 z := hd.2
                rw [hv8]
                go_wp2
                refine ⟨.slice (some ⟨W2.heap.size, 0, none⟩) 1 1, ?_, TE.alloc _ _ _ _, ⟨W2.heap.size, rfl, hsz, hA2⟩, (hG.alloc _).upd _ (by decide) (by decide) (by decide) (by decide)⟩
                simp [updV, hv8]
              case o10 =>
                obtain ⟨⟨_, hv4'⟩, ⟨_, b, hv9, hbz, hbc⟩, _⟩ := hd
                have hv4 : v 4 = u12 := hv4'
                have hsz := hG.sz
                have hbsz := hG.bsz
                have hbs0 := hG.bs0
                have ho := hG.o2 hLf
                refine wpList_append_own_at _ rfl _ _ 49 rfl W.heap.size 2 i2 (.int .i64 0) 1 8 Tryd.underlying49 hj hy0 hy1 hy2 rfl (by decide) (v 4) M xl2 rfl (by rw [hv4]; exact ho) ⟨b, 0, none⟩ 1 1 [.int .i64 z] hv9 rfl (one_cell hbc) (by simp [Value.oneCell']) (by unfold maxLen; omega) (by omega) (by omega) ?_
                intro v' W3 q1 q2 _ q3
                rw [hv4] at q2 q3
                go_wp2
                refine ⟨v', by simp [updV, hv4, hv9], TE.app2 ho HL2.out q2, ⟨q1, fun g' hg' => ?_⟩, hG.app2 v' hLf HF2.out q2⟩
                rcases q3 with q3 | q3
                · exact HF2.out g' (by rw [← q3]; exact hg')
                · rw [q3] at hg'
                  cases hg'
                  right; exact hsz
              case o11 =>
                obtain ⟨⟨h3, hv3, hf3⟩, _, ⟨h0, _⟩, _⟩ := hd
                go_wp2
                exact ⟨v 3, rfl, TE.refl _ _ _, trivial, hG.set1 _ h0 h3 hv3 hf3⟩
              case o12 =>
                obtain ⟨⟨h10, hv10, hf10⟩, _, _, _, _, _, ⟨h4, _⟩, _⟩ := hd
                go_wp2
                exact ⟨v 10, rfl, TE.refl _ _ _, trivial, hG.set2 _ h4 h10 hv10 hf10⟩
            case hend =>
              intro L v W2 hG hv
              obtain ⟨_, r1, f1⟩ := hG.y1 (hv 11 (by decide)).1
              obtain ⟨_, r2, f2⟩ := hG.y2 (hv 12 (by decide)).1
              have hwh : wantL s x1.length q (k + 1) = wantL s x1.length q k ++ [x] := wantL_hit HXK.out (by rw [HXL.out]; exact hi1) (by rw [HM2.out]; exact hi2)
              have hrel2 : TI W V1 W.heap.size V0.heap.size V1.heap.size (v 11) (v 12) (wantL s x1.length q (k + 1)).length ((wantL s x1.length q (k + 1)).map encI) ((wantL s x1.length q (k + 1)).map (fun x => Value.int .i64 (at_ x1 x).2)) W2 := by
                rw [hwh, List.length_append, List.map_append, List.map_append, HM2.out, HXL1.out, HXL2.out]
                exact ⟨r1, by rw [show List.map (fun x => Value.int .i64 (at_ x1 x).2) [x] = [Value.int .i64 z] from by rw [← HATZ.out]; rfl]; exact r2, f1, f2, hG.sz, hG.bel, hG.mid⟩
              have HR2 := Lib.hid hrel2
              clear hrel2 hwh r1 f1 r2 f2 hG hv
              go_wp2
              go_roundw
              case rel => exact ⟨k + 1, by omega, by go_num, HR2.out⟩
              case measure => simp [intOf]; omega
          · have hms : ¬ (x < x1.length ∧ (wantL s x1.length q k).length < q) := by rw [HM2.out, HXL.out]; exact hin
            have hrel2 : TI W V1 W.heap.size V0.heap.size V1.heap.size (.slice ua M uc) u12 (wantL s x1.length q (k + 1)).length ((wantL s x1.length q (k + 1)).map encI) ((wantL s x1.length q (k + 1)).map (fun x => Value.int .i64 (at_ x1 x).2)) wr := by
              rw [wantL_miss HXK.out hms, ← HM2.out]; exact HT.out
            have HR2 := Lib.hid hrel2
            clear hrel2 hms
            by_cases hi1 : x < n1
            · have hi1' : (x : Int) < (n1 : Int) := by omega
              have hi2' : ¬ (M : Int) < (q : Int) := by omega
              go_wp2
              go_roundw
              case rel => exact ⟨k + 1, by omega, by go_num, HR2.out⟩
              case measure => simp [intOf]; omega
            · have hi1' : ¬ (x : Int) < (n1 : Int) := by omega
              go_wp2
              go_roundw
              case rel => exact ⟨k + 1, by omega, by go_num, HR2.out⟩
              case measure => simp [intOf]; omega
        · obtain rfl : k = N := by omega
          have hPr : PI w b7 (b7 + 1) q [A6.heap.size, Bk, g, w7.heap.size + 2] pre wr := HP.out.below hT.bel
          have hDr : wr.heap[D]? = some (.deferred (some [])) := (hT.bel.block D HDL.out).trans HDW.out
          have hBr : Below w.heap.size w wr := HP.out.b.trans (hT.bel.mono HP.out.b.size)
          obtain ⟨ua, uc, rfl⟩ := own_form hT.o1
          obtain ⟨ub, ud, rfl⟩ := own_form hT.o2
          obtain ⟨y1, bx1, oy1, _⟩ := hPr.it
          obtain ⟨y2, bx2, oy2, _⟩ := hPr.va
          obtain ⟨ya, yc, rfl⟩ := own_form oy1
          obtain ⟨yb, yd, rfl⟩ := own_form oy2
          have c7 := bx1.cell
          have c8 := bx2.cell
          have hwl' : wantL s x1.length q k = (fitL s x1.length).take q := by rw [← HN.out]; exact wantL_all s x1.length q
          have hpw : pre = (wantL s x1.length q k).map (at_ x1) := by rw [HPRE.out, hwl', List.map_take]
          have hpl : pre.length ≤ 64 := by rw [hpw, List.length_map]; exact hwl
          have sI1 : Sl (Value.int .i64) wr.heap.size wr (.slice ya pre.length yc) (pre.map fun x => ((x.1 : Nat) : Int)) := Sl.map (f := fun x : Nat × Int => ((x.1 : Nat) : Int)) (Sl.of_owns oy1)
          have sI2 : Sl (Value.int .i64) wr.heap.size wr (.slice ua (wantL s x1.length q k).length uc) ((wantL s x1.length q k).map fun x => ((x : Nat) : Int)) := Sl.map (f := fun x : Nat => ((x : Nat) : Int)) (Sl.of_owns hT.o1)
          have sN1 : Sl (Value.int .i64) wr.heap.size wr (.slice yb pre.length yd) (pre.map fun x => x.2) := Sl.map (f := fun x : Nat × Int => x.2) (Sl.of_owns oy2)
          have sN2 : Sl (Value.int .i64) wr.heap.size wr (.slice ub (wantL s x1.length q k).length ud) ((wantL s x1.length q k).map fun x => (at_ x1 x).2) := Sl.map (f := fun x : Nat => (at_ x1 x).2) (Sl.of_owns hT.o2)
          have eI : decide ((pre.map fun x => ((x.1 : Nat) : Int)) = (wantL s x1.length q k).map fun x => ((x : Nat) : Int)) = true := decide_eq_true (by rw [hpw, List.map_map]; rfl)
          have eN : decide ((pre.map fun x => x.2) = (wantL s x1.length q k).map fun x => (at_ x1 x).2) = true := decide_eq_true (by rw [hpw, List.map_map]; rfl)
          have HSI := Lib.hid (sameI_any ya ua pre.length yc (wantL s x1.length q k).length uc _ _ wr (by rw [List.length_map]; omega) (by rw [List.length_map]; omega) sI1 sI2)
          rw [eI] at HSI
          have HSN := Lib.hid (fun (W3 : World) (hb : Below wr.heap.size wr W3) => sameN_any yb ub pre.length yd (wantL s x1.length q k).length ud _ _ W3 (by rw [List.length_map]; omega) (by rw [List.length_map]; omega) ((sN1.below hb).mono hb.size) ((sN2.below hb).mono hb.size))
          rw [eN] at HSN
          have BX2 := Lib.hid bx2
          have HDR := Lib.hid hDr
          have HBR := Lib.hid hBr
          obtain ⟨P, hPl⟩ : ∃ P, pre.length = P := ⟨_, rfl⟩
          obtain ⟨M, hM⟩ : ∃ M, (wantL s x1.length q k).length = M := ⟨_, rfl⟩
          rw [hPl] at c7 c8 HSI HSN BX2
          rw [hM] at HSI HSN ⊢
          clear hPr hT bx1 bx2 oy1 oy2 hDr hBr sI1 sI2 sN1 sN2 eI eN hpw hwl' hPl hM
          go_wp2_with fail
          refine HSI.out.mono ?_
          rintro e W3 ⟨rfl, hb3⟩
          have c8' := (hb3.cell (p := ⟨b7 + 1, 0, none⟩) BX2.out.lt).trans c8
          have HSN3 := Lib.hid (HSN.out W3 hb3)
          go_wp2_with fail
          refine HSN3.out.mono ?_
          rintro e W4 ⟨rfl, hb4⟩
          have hb5 := hb3.trans (hb4.mono hb3.size)
          have hKD2 := (hb5.block D (Array.getElem?_eq_some_iff.1 HDR.out).1).trans HDR.out
          have hBW4 := HBR.out.trans (hb5.mono HBR.out.size)
          go_wp2
          refine ⟨by simp, .inl ⟨_, _, rfl, run_takeDeferred hKD2, ?_⟩⟩
          exact ⟨_, results_tmp rfl _ _ _, rfl, hBW4.trans (belowK_b (w := w) (Nat.le_refl _) W4 D _ (.deferred none) (by omega) hKD2 rfl rfl)⟩
    refine rangeO rfl (by omega) (gf := 57) (lb := #[.pointer (some ⟨A6.heap.size, 0, none⟩), .pointer (some ⟨Bk, 0, none⟩)]) (by rw [hA]; rfl) trivial (enters_of Tryd.func57 (by kernel_rfl) rfl)
      HPP.out (fun r h => by simp at h; omega) h87 (Below.refl _ _) (fun _ => rfl)
      (fun pre W => PI w b7 (b7 + 1) q [A6.heap.size, Bk, g, w7.heap.size + 2] pre W ∧ pre.length < q) (fun c pre W => c = .exit 0 ∧ PI w b7 (b7 + 1) q [A6.heap.size, Bk, g, w7.heap.size + 2] pre W ∧ pre.length = q)
      (fun pre A C row h hg hr => ⟨PI.own (by omega) pre A C row h.1 hg hr, h.2⟩) (fun c pre A C row h hg hr => ⟨h.1, PI.own (by omega) pre A C row h.2.1 hg hr, h.2.2⟩)
      (fun pre W r v hr h => ⟨PI.abides (bs := [A6.heap.size, Bk, g]) (fun k hk => by simp at hk; refine ⟨by simp; omega, by omega, by omega, by omega⟩) pre W r v hr h.1, h.2⟩) (fun c pre W r v hr h => ⟨h.1, PI.abides (bs := [A6.heap.size, Bk, g]) (fun k hk => by simp at hk; refine ⟨by simp; omega, by omega, by omega, by omega⟩) pre W r v hr h.2.1, h.2.2⟩)
      ⟨HP7.out, by show 0 < q; omega⟩ (fun x => { tmps := (((A.tmps.setIfInBounds 28 (encI x.1)).setIfInBounds 29 (.int .i64 x.2)).setIfInBounds 9 (encI x.1)).setIfInBounds 10 (.int .i64 x.2), defers := [] }) ?assign ?body ?done ?stop
    case assign =>
      intro l x W K hK
      rw [hA] at hK ⊢
      gi_wp2
      exact hK
    case body =>
      rintro l pre ⟨i, z⟩ W ⟨hP, hlq⟩ hp hzW
      obtain ⟨hm, ⟨v1, k1, k2, k3⟩, ⟨v2, k4, k5, k6⟩, hbw⟩ := hP
      have hl1 : ∀ g, v1.ownBlock = some g → g < W.heap.size := fun g hg => (World.ownsRow.lt k2 g hg).2
      have hl2 : ∀ g, v2.ownBlock = some g → g < W.heap.size := fun g hg => (World.ownsRow.lt k5 g hg).2
      have HL1 := Lib.hid hl1
      have HL2 := Lib.hid hl2
      have HK3 := Lib.hid k3
      have HK6 := Lib.hid k6
      have HM := Lib.hid hm
      have HBW := Lib.hid hbw
      have HPI := Lib.hid hp
      have hwW := hbw.size
      obtain ⟨i1, hi, hz0, hz1, hz2⟩ := info_parts (show (Tryd.prog.info? 3).map (fun i => (i.zero, i.size, i.bytes)) = some (some (.int .i64 0), 1, 8) by kernel_rfl)
      obtain ⟨i2, hi2, hy0, hy1, hy2⟩ := info_parts infoCN
      have h2u := k2
      have h5u := k5
      obtain ⟨k, hk⟩ : ∃ k, pre.length = k := ⟨_, rfl⟩
      obtain ⟨xs1, hx1⟩ : ∃ xs1, pre.map (fun x => encI x.1) = xs1 := ⟨_, rfl⟩
      obtain ⟨xs2, hx2⟩ : ∃ xs2, pre.map (fun x => Value.int .i64 x.2) = xs2 := ⟨_, rfl⟩
      rw [hk, hx1] at k2
      rw [hk, hx2] at k5
      rw [hk] at hlq
      have HKK := Lib.hid hk
      have HX1 := Lib.hid hx1
      have HX2 := Lib.hid hx2
      have hG0 : RG w W b7 (b7 + 1) [A6.heap.size, Bk, g, w7.heap.size + 2] v1 v2 k xs1 xs2 (encI i) (.int .i64 z) (fun _ => false) W := ⟨Nat.le_refl _, hbw, KeepsOthers.refl W, fun _ _ _ _ _ _ => rfl, fun _ => k2, fun _ => k5, fun _ => k1, fun _ => k4, (fun e => by cases e), (fun e => by cases e), (fun e => by cases e), (fun e => by cases e)⟩
      have HG0 := Lib.hid hG0
      clear hm k1 k2 k3 k4 k5 k6 hbw hp hk hx1 hx2 h2u h5u hG0 hl1 hl2
      rw [hA]
      gi_wp2
      refine region_inv_round (l := _) (by kernel_rfl) (by decide +kernel) (by kernel_rfl) (by exact fun ⟨_, _, hq⟩ => hq) (fun v => { tmps := #[Value.int IntKind.u64 (s : Int), Value.slice p1 n1 c1, Value.int IntKind.i64 a2, undef, undef, Value.pointer (some ⟨w.heap.size, 0, none⟩), Value.bool false, Value.pointer (some ⟨b7, 0, none⟩), Value.pointer (some ⟨b7 + 1, 0, none⟩), encI i, Value.int IntKind.i64 z, undef, undef, undef, undef, Value.bool true, Value.bool false, Value.slice p1 n1 c1, Value.int IntKind.i64 (n1 : Int), Value.bool (decide (100 < (n1 : Int))), Value.int IntKind.i64 a2, Value.int IntKind.i64 (t : Int), Value.int IntKind.i64 (q : Int), Value.slice (some ⟨A0.heap.size, 0, none⟩) 0 0, Value.slice (some ⟨A0.heap.size + 1, 0, none⟩) 0 0, Value.int IntKind.u64 (s : Int), Value.slice p1 n1 c1, Value.func (Fn.func 57) #[] #[Value.pointer (some ⟨A6.heap.size, 0, none⟩), Value.pointer (some ⟨Bk, 0, none⟩)], encI i, Value.int IntKind.i64 z, v 0, v 1, v 2, v 3, v 4, v 5, v 6, v 7, undef, undef, undef, undef, undef, undef, undef, undef, undef, undef, undef, undef, undef, undef, undef, undef, undef, undef, undef, undef, undef, undef, undef, undef, undef, undef, undef, undef, undef, undef, undef, undef, undef, undef, undef, undef, undef, undef, undef, undef, undef, undef, undef], defers := [] }) (RG w W b7 (b7 + 1) [A6.heap.size, Bk, g, w7.heap.size + 2] v1 v2 k xs1 xs2 (encI i) (.int .i64 z)) (RV w W [A6.heap.size, Bk, g, w7.heap.size + 2] v1 v2 k xs1 xs2 (encI i) (.int .i64 z)) (RE W) RV.keep (fun _ => undef) HG0.out.drew ?hop ?hend
      case hop =>
        simp only [AllDoI]
        refine ⟨?o0, ?o1, ?o2, ?o3, ?o4, ?o5, ?o6, ?o7, ?o8, ?o9, trivial⟩
        all_goals intro L v W2 hG hLf hd Q hQ
        all_goals simp [Region.binds] at hd
        all_goals rw [if_pos (show Region.wanted _ _ = true from rfl)]
        case o0 =>
          have h8 : L 8 = false := by
            cases e : L 8 with
            | false => rfl
            | true => have h0 : L 0 = false := hLf; rw [hG.z1 e] at h0; cases h0
          have c7 := (hG.x1 h8).cell
          go_wp2
          exact ⟨_, rfl, RE.refl _ _ _, rfl, hG.upd (by decide) (by decide) (by decide) (by decide)⟩
        case o1 =>
          go_wp2
          exact ⟨_, rfl, RE.refl _ _ _, rfl, hG.upd (by decide) (by decide) (by decide) (by decide)⟩
        case o2 =>
          have hA2 : (W2.alloc (.cells #[encI i] 3)).heap[W2.heap.size]? = some (.cells #[encI i] 3 (0, 0)) := World.alloc_heap_new W2 _
          have hsz := hG.sz
          have hv1 : v 1 = encI i := hd.2
          rw [hv1]
          unfold encI at hA2 ⊢
          go_wp2
          refine ⟨.slice (some ⟨W2.heap.size, 0, none⟩) 1 1, ?_, RE.alloc _ _ _ _, ⟨W2.heap.size, rfl, hsz, hA2⟩, (hG.alloc _).upd (by decide) (by decide) (by decide) (by decide)⟩
          simp [updV, hv1, encI]
        case o3 =>
          obtain ⟨⟨_, hv0'⟩, _, b, hv2, hbz, hbc⟩ := hd
          have hv0 : v 0 = v1 := hv0'
          have hsz := hG.sz
          have hbl := hG.bel.size
          have ho := hG.o1 hLf
          refine wpList_append_own_at _ rfl _ _ 27 rfl (w.heap.size + 1) 3 i1 (.int .i64 0) 1 8 Tryd.underlying27 hi hz0 hz1 hz2 rfl (by decide) (v 0) k xs1 rfl (by rw [hv0]; exact ho) ⟨b, 0, none⟩ 1 1 [encI i] hv2 rfl (one_cell hbc) (by simp [Value.oneCell', encI]) (by unfold maxLen; omega) (by omega) (by omega) ?_
          intro v' W3 q1 q2 _ q3
          rw [hv0] at q2 q3
          go_wp2
          refine ⟨v', by simp [updV, hv0, hv2], RE.app1 ho HL1.out q2, ⟨q1, fun g' hg' => ?_⟩, hG.app1 hLf q2⟩
          rcases q3 with q3 | q3
          · exact HK3.out g' (by rw [← q3]; exact hg')
          · rw [q3] at hg'
            cases hg'
            intro hm
            simp at hm
            omega
        case o4 =>
          have h9 : L 9 = false := by
            cases e : L 9 with
            | false => rfl
            | true => have h0 : L 4 = false := hLf; rw [hG.z2 e] at h0; cases h0
          have c8 := (hG.x2 h9).cell
          go_wp2
          exact ⟨_, rfl, RE.refl _ _ _, rfl, hG.upd (by decide) (by decide) (by decide) (by decide)⟩
        case o5 =>
          go_wp2
          exact ⟨_, rfl, RE.refl _ _ _, rfl, hG.upd (by decide) (by decide) (by decide) (by decide)⟩
        case o6 =>
          have hA2 : (W2.alloc (.cells #[.int .i64 z] 2)).heap[W2.heap.size]? = some (.cells #[.int .i64 z] 2 (0, 0)) := World.alloc_heap_new W2 _
          have hsz := hG.sz
          have hv5 : v 5 = .int .i64 z := hd.2
          rw [hv5]
          go_wp2
          refine ⟨.slice (some ⟨W2.heap.size, 0, none⟩) 1 1, ?_, RE.alloc _ _ _ _, ⟨W2.heap.size, rfl, hsz, hA2⟩, (hG.alloc _).upd (by decide) (by decide) (by decide) (by decide)⟩
          simp [updV, hv5]
        case o7 =>
          obtain ⟨⟨_, hv4'⟩, ⟨_, b, hv6, hbz, hbc⟩, _⟩ := hd
          have hv4 : v 4 = v2 := hv4'
          have hsz := hG.sz
          have hbl := hG.bel.size
          have ho := hG.o2 hLf
          refine wpList_append_own_at _ rfl _ _ 49 rfl (w.heap.size + 1) 2 i2 (.int .i64 0) 1 8 Tryd.underlying49 hi2 hy0 hy1 hy2 rfl (by decide) (v 4) k xs2 rfl (by rw [hv4]; exact ho) ⟨b, 0, none⟩ 1 1 [.int .i64 z] hv6 rfl (one_cell hbc) (by simp [Value.oneCell']) (by unfold maxLen; omega) (by omega) (by omega) ?_
          intro v' W3 q1 q2 _ q3
          rw [hv4] at q2 q3
          go_wp2
          refine ⟨v', by simp [updV, hv4, hv6], RE.app2 ho HL2.out q2, ⟨q1, fun g' hg' => ?_⟩, hG.app2 hLf q2⟩
          rcases q3 with q3 | q3
          · exact HK6.out g' (by rw [← q3]; exact hg')
          · rw [q3] at hg'
            cases hg'
            intro hm
            simp at hm
            omega
        case o8 =>
          obtain ⟨⟨h3, hv3, hav3⟩, _, ⟨h0, _⟩, _⟩ := hd
          have x8 := hG.x1 hLf
          obtain ⟨ea, ec, e3⟩ := own_form hv3
          rw [e3] at hv3 hav3 ⊢
          have c7 := x8.cell
          have f7 := x8.frozen
          go_wp2
          refine ⟨undef, ?_, RE.st1 x8, trivial, hG.st1 hLf h3 h0 (by omega) (by omega) hv3 hav3⟩
          simp [updV, e3]
        case o9 =>
          obtain ⟨⟨h7, hv7, hav7⟩, _, _, _, _, _, ⟨h4, _⟩, _⟩ := hd
          have x9 := hG.x2 hLf
          obtain ⟨ea, ec, e7⟩ := own_form hv7
          rw [e7] at hv7 hav7 ⊢
          have c8 := x9.cell
          have f8 := x9.frozen
          go_wp2
          refine ⟨undef, ?_, RE.st2 x9, trivial, hG.st2 hLf h7 h4 (by omega) (by omega) hv7 hav7⟩
          simp [updV, e7]
      case hend =>
        intro L v W2 hG hv
        have h8 : L 8 = true := (hv 8 (by decide)).1
        have h9 : L 9 = true := (hv 9 (by decide)).1
        obtain ⟨_, u1, x1', r1, n1'⟩ := hG.y1 h8
        obtain ⟨_, u2, x2', r2, n2'⟩ := hG.y2 h9
        have hL1 := HG0.out.o1 rfl
        have hL2 := HG0.out.o2 rfl
        have el : (pre ++ [(i, z)]).length = k + 1 := by rw [List.length_append, HKK.out]; rfl
        have hkp : ∀ j, j < W.heap.size → j ≠ b7 → j ≠ b7 + 1 → (∀ g', v1.ownBlock = some g' → g' ≠ j) → (∀ g', v2.ownBlock = some g' → g' ≠ j) → W2.heap[j]? = W.heap[j]? := fun j q1 q2 q3 q4 q5 => hG.kp j q1 q2 q3 (fun e => q4 _ e rfl) (fun e => q5 _ e rfl)
        have hm2 : Boxed W2 w.heap.size 3 (.int .i64 (q : Nat)) := (hkp w.heap.size HM.out.lt (by omega) (by omega) (fun g' e => by have := (own_at hL1 e).1; omega) (fun g' e => by have := (own_at hL2 e).1; omega)).trans HM.out
        have hP2 : PI w b7 (b7 + 1) q [A6.heap.size, Bk, g, w7.heap.size + 2] (pre ++ [(i, z)]) W2 := ⟨hm2, ⟨u1, x1', by rw [el, List.map_append, HX1.out]; exact r1, n1'⟩, ⟨u2, x2', by rw [el, List.map_append, HX2.out]; exact r2, n2'⟩, hG.bel⟩
        have h8w : 8 ≤ w.heap.size := HEN.out.size
        have hKp : KpO 8 1 [A6.heap.size, Bk, g] w7 W W2 := by
          refine ⟨⟨hG.bel.os.trans HBW.out.os.symm, hG.bel.tape.trans HBW.out.tape.symm, hG.bel.output.trans HBW.out.output.symm, hG.sz, fun j hj => hkp j (by omega) (by omega) (by omega) (fun g' e => by have := (own_at hL1 e).1; omega) (fun g' e => by have := (own_at hL2 e).1; omega)⟩, fun j q1 q2 => hkp j (by omega) (by omega) (by omega) (fun g' e e2 => HK3.out g' e (by simp; omega)) (fun g' e e2 => HK6.out g' e (by simp; omega)), fun j hj => ?_⟩
          simp at hj
          exact hkp j (by omega) (by omega) (by omega) (fun g' e e2 => HK3.out g' e (by simp; omega)) (fun g' e e2 => HK6.out g' e (by simp; omega))
        have hKo : KeepsFrom w7.heap.size W W2 := hG.ko.from _
        obtain ⟨ua, uc, rfl⟩ := own_form r1
        have c7 := x1'.cell
        have c5 := hm2.cell
        have HP2 := Lib.hid hP2
        have HKp := Lib.hid hKp
        have HKo := Lib.hid hKo
        have EL := Lib.hid el
        clear hP2 hKp hKo hkp el hG hv hL1 hL2 x1' x2' r1 r2 n1' n2' hm2
        by_cases hq : k + 1 = q
        · have hqe : ((k + 1 : Nat) : Int) = (q : Int) := by omega
          gi_wp2
          refine ⟨HKo.out, rfl, HP2.out, by rw [EL.out]; exact hq⟩
        · have hqe : ¬ ((k + 1 : Nat) : Int) = (q : Int) := by omega
          gi_wp2
          exact ⟨HKo.out, HKp.out, HP2.out, by rw [EL.out]; omega⟩
    case done =>
      rintro D xs W hD rfl ⟨hP, hlq⟩ hDW
      exact tail D _ W hD hP (List.take_of_length_le (Nat.le_of_lt hlq)).symm hDW
    case stop =>
      rintro D c pre W hD hp ⟨rfl, hP, hlq⟩ hDW
      refine wpIn_exit ?_
      simp only [Exit.inBlock, if_pos]
      exact tail D _ W hD hP (by rw [← hlq]; exact List.prefix_iff_eq_take.1 hp) hDW

theorem laidOut : laidOutB Tryd.prog = true := by kernel_rfl
/-- All arguments read behind the call as they did. -/
theorem trodAll_below {H : Type} {enc : TypeId × Value → H} {W W' : World} (hb : Below W.heap.size W W') : ∀ (ts : List TypeId) (vs : List Value) (ds : List (DataW H)) (ps : List MemPlace),
    (∀ t ∈ ts, Tryd.prog.readableRec t = true ∧ t < Tryd.prog.types.size) → DataW.TrodAll enc Tryd.prog W 0 (fun _ => true) true ts vs ds ps → (∀ x ∈ ps, x.block < W.heap.size) →
    DataW.TrodAll enc Tryd.prog W' 0 (fun b => decide (b < W.heap.size)) true ts vs ds ps
  | [], vs, ds, ps, _, h, _ => by
    obtain ⟨rfl, rfl, rfl⟩ := trodAll_nil h
    exact trodAll_mk0
  | t :: ts, vs, ds, ps, hr, h, hlt => by
    obtain ⟨v, vs', d, ds', p, q, rfl, rfl, rfl, h1, h2⟩ := trodAll_cons h
    exact trodAll_cons_mk (Below.trod laidOut (hr t (by simp)).1 (hr t (by simp)).2 h1 hb (fun x hx => hlt x (by simp [hx]))) (trodAll_below hb ts vs' ds' q (fun t ht => hr t (by simp [ht])) h2 (fun x hx => hlt x (by simp [hx])))

set_option maxRecDepth 100000 in
theorem contract (H : Type) (enc : TypeId × Value → H) (W : World) (base : Nat) (args : Array Value) (ds gs : List (DataW H)) (before : List MemPlace)
    (hval0 : ∀ (j : Nat) t v, Tryd.f6.params[j]? = some t → args[j]? = some v → Value.okWide Tryd.prog W .any base t v)
    (hW : DataW.Whole enc Tryd.prog Tryd.f6.params.toList Rows.setPairsSpec.vars false W args.toList ds gs before) (hL : laidMetH Tryd.prog Rows.setPairsRow.laid W) :
    Calls Tryd.prog 6 args W fun e W' => ∃ v, e = .returned v ∧ Rows.setPairsSpec.post enc Tryd.prog Tryd.f6 false true false false W args v W' := by
  have hval : ∀ (j : Nat) t v, Tryd.f6.params[j]? = some t → args[j]? = some v → Value.okWide Tryd.prog W .any base t v := hval0
  have hW' := hW
  obtain ⟨p, q, hA0, hV, rfl, hfz, hnd⟩ := hW
  have hA : DataW.TrodAll enc Tryd.prog W 0 (fun _ => true) true Tryd.f6.params.toList args.toList ds p := hA0
  rw [Tryd.params6] at hA hval
  have hAk := hA
  obtain ⟨v0, vs0, d0, ds0, p0', q0, hargs, rfl, rfl, h0, r0⟩ := trodAll_cons hA
  obtain ⟨v1, vs1, d1, ds1, p1', q1, rfl, rfl, rfl, h1, r1⟩ := trodAll_cons r0
  obtain ⟨v2, vs2, d2, ds2, p2', q2, rfl, rfl, rfl, h2, r2⟩ := trodAll_cons r1
  obtain ⟨rfl, rfl, rfl⟩ := trodAll_nil r2
  obtain rfl : args = #[v0, v1, v2] := by cases args; simp_all
  obtain ⟨rfl, rfl⟩ := trodVars_none hV
  simp only [List.append_nil] at hW' hAk
  have hlt := fun x hx => hW'.lt x hx
  have hE : Env W := env_of hL
  clear hA0 hval0
  obtain ⟨a0, rfl, rfl, rfl, w0⟩ := open_int Tryd.underlying22 (hval 0 22 v0 rfl rfl) h0
  obtain ⟨p1, n1, c1, x1, rfl, w1⟩ := open_numsI (okWide_slice Tryd.underlying49 (hval 1 49 v1 rfl rfl)) h1
  obtain ⟨a2, rfl, rfl, rfl, w2⟩ := open_int Tryd.underlying3 (hval 2 3 v2 rfl rfl) h2
  refine (walk W hE a0 w0 p1 n1 c1 x1 w1 a2 w2).mono fun e W' ⟨he, hg⟩ => ?_
  subst he
  have hargs := trodAll_below hg _ _ _ _ (by intro t ht; simp only [List.mem_cons, List.not_mem_nil, or_false] at ht; revert t; rintro t (rfl | rfl | rfl) <;> exact ⟨by kernel_rfl, of_decide_eq_true (by kernel_rfl)⟩) hAk (fun x hx => by simpa using hlt x hx)
  exact ⟨_, rfl, _, _, _, [], _, [], hW', (trodAll_cons_mk (shut_bool Tryd.underlying4 _) trodAll_mk0), hargs, rfl, hg.frame _, fun h => by cases h⟩

noncomputable def laidWorld (os : Os) : World := World.laidAll Tryd.prog os Rows.setPairsRow.laid
theorem laid_met (os : Os) : laidMet Tryd.prog Rows.setPairsRow.laid ((laidWorld os).forCall (fun _ _ => 0) ⟨#[], #[.int .u64 0, .slice none 0 0, .int .i64 0], []⟩).memory :=
  laidMet_laidAll _ (by kernel_rfl) (by kernel_rfl)
theorem reads (os : Os) {H : Type} (enc : TypeId × Value → H) : ∃ places, DataW.whole enc Tryd.prog ((laidWorld os).forCall (fun _ _ => 0) ⟨#[], #[.int .u64 0, .slice none 0 0, .int .i64 0], []⟩).memory Tryd.f6.params.toList Rows.setPairsSpec.vars false (#[.int .u64 0, .slice none 0 0, .int .i64 0] : Array Value).toList 8 = some ([.lit (.int .u64 0), .nil, .lit (.int .i64 0)], [], places) :=
  ⟨[], by kernel_rfl⟩

set_option maxRecDepth 100000 in
theorem lifted (os : Os) (started : os.Started) (H : Type) (enc : TypeId × Value → H) (F : Stop.Interp) :
    ReturnsInHanded {} Tryd.checked os 6 .any ((OpenSpec.ofChange Rows.setPairsSpec).preRow enc Tryd.prog Tryd.f6 Rows.setPairsRow.domain false Rows.setPairsRow.laid) (((OpenSpec.ofChange Rows.setPairsSpec).at F).post enc Tryd.prog Tryd.f6 false true false false) := by
  obtain ⟨places, hx⟩ := reads os enc
  refine returnsInHanded_of_row (C := Tryd.checked) (s := OpenSpec.ofChange Rows.setPairsSpec) own started (by kernel_rfl) Tryd.func6
    (witness_row_at (enc := enc) (C := Tryd.checked) false (laidWorld os) #[.int .u64 0, .slice none 0 0, .int .i64 0] (World.laidAll_os _ _ _) (by kernel_rfl) (by kernel_rfl) (by kernel_rfl)
      (OpenSpec.preRow_of_cond 8 hx (by kernel_rfl) (fun k hk => by cases hk) (by kernel_rfl) (laid_met os))) ?_
  intro W base args ds gs before hval hW _ _ _ hL _ _
  exact contract H enc W base args ds gs before hval hW hL

theorem said : Rows.SetPairsSaid :=
  OpenClaim.holds_of_cond 6 Tryd.f6 rfl rfl rfl rfl rfl rfl rfl ⟨rfl, rfl, rfl, rfl, rfl⟩ rfl rfl rfl rfl rfl (by kernel_rfl) Tryd.func6 (by kernel_rfl)
    (of_decide_eq_true (by kernel_rfl)) (by unfold Func.isWrapper; first | (rw [if_pos (by decide +kernel)]; kernel_rfl) | (rw [if_neg (by decide +kernel)]; exact ⟨rfl, rfl⟩))
    (fun os started H enc _ F => by rw [OpenClaim.pre_eq_preRow]; exact lifted os started H enc F)

theorem plain (f : FuncId) (fn : Func) (hf : Tryd.pinned.checked.prog.funcNamed "saleroom/saleroomlaw02.SetPairs" = some f) (hfn : Tryd.pinned.checked.prog.funcs[f]? = some fn) :
    true = Tryd.pinned.checked.prog.looks [] ∧ ∀ (j : Nat) t, fn.params[j]? = some t → Tryd.pinned.checked.prog.wantsStandIn t = false := by
  obtain rfl : f = 6 := Option.some.inj ((show Tryd.prog.funcNamed "saleroom/saleroomlaw02.SetPairs" = some 6 by kernel_rfl).symm.trans hf) |>.symm
  obtain rfl : fn = Tryd.f6 := (Option.some.inj (Tryd.func6.symm.trans hfn)).symm
  refine ⟨by kernel_rfl, fun j t ht => ?_⟩
  rw [Tryd.params6] at ht
  have hm := Array.mem_of_getElem? ht
  simp only [List.mem_toArray, List.mem_cons, List.not_mem_nil, or_false] at hm
  revert hm
  rintro (rfl | rfl | rfl)
  · exact (show Tryd.prog.wantsStandIn 22 = false by kernel_rfl)
  · exact (show Tryd.prog.wantsStandIn 49 = false by kernel_rfl)
  · exact (show Tryd.prog.wantsStandIn 3 = false by kernel_rfl)

theorem card : Rows.SetPairsCardSaid :=
  Claim7.holds_tied_plain_at .later [] _ _ _ _ said (fun _ h => by cases h) (by kernel_rfl) (fun _ h => by cases h) setPairs_row_tie rfl ⟨rfl, rfl⟩ (by kernel_rfl) rfl plain (by kernel_rfl)
end Go.Proofs.YtndbpmhdpjlncaaDoor.setPairs
