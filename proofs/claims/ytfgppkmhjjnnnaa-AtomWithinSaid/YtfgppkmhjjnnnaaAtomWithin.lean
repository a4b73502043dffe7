/- For whatever row of atoms, sets and number law AtomWithin answers true: the atoms within a set come in order, and no set is worth more than one that it lies within. No condition. -/
import Derived.Test.YtfgppkmhjjnnnaaAtoY
import Derived.Test.YtfgppkmhjjnnnaaRegionSeq
namespace Go.Proofs.Ytfgppkmhjjnnnaa.atomWithin
open Go.ChangeShapes Go.WideShapes Go.ChangeAt Go.RowKit Go.Proofs.Ytfgppkmhjjnnnaa
set_option linter.unusedVariables false
attribute [local go_sem] Oper.semAt_some
theorem takeF_next (s mo : Nat) {zs : List Ent} {m k : Nat} {u : Int} (hx : zs[m]? = some (k, u)) : ((zs.take (m + 1)).filter (inA s)).take mo = if ((rightA 1099511627776 (k, u) && withinB k s) && decide ((((zs.take m).filter (inA s)).take mo).length < mo)) = true then ((zs.take m).filter (inA s)).take mo ++ [(k, u)] else ((zs.take m).filter (inA s)).take mo := by
  rw [take_snoc hx, List.filter_append]
  have e : inA s (k, u) = (rightA 1099511627776 (k, u) && withinB k s) := rfl
  cases h : (rightA 1099511627776 (k, u) && withinB k s) with
  | false =>
    rw [h] at e
    simp [List.filter_cons, e]
  | true =>
    rw [h] at e
    rw [show [(k, u)].filter (inA s) = [(k, u)] from by simp [List.filter_cons, e], List.take_append]
    by_cases hl : ((zs.take m).filter (inA s)).length < mo
    · have h1 : (((zs.take m).filter (inA s)).take mo).length < mo := by rw [List.length_take]; omega
      rw [if_pos (by rw [decide_eq_true h1]; rfl)]
      congr 1
      rw [List.take_of_length_le (by simp; omega)]
    · have h1 : ¬ (((zs.take m).filter (inA s)).take mo).length < mo := by rw [List.length_take]; omega
      rw [if_neg (by rw [decide_eq_false h1]; decide), show mo - ((zs.take m).filter (inA s)).length = 0 from by omega]
      simp
theorem apG {W6 W2 A : World} {g2 N0 e n : Nat} {nv v' : Value} {ys : List Value} {o : Obj} (hb : But [g2] W6 W2) (ho : ∀ g, nv.ownBlock = some g → g = g2 ∨ W6.heap.size ≤ g) (hz : W6.heap.size ≤ W2.heap.size) (hown : A.ownsRow N0 e 2 v' n ys) (hg : (W2.alloc o).grownBy A nv.ownBlock) (hat : v'.ownBlock = nv.ownBlock ∨ v'.ownBlock = some (W2.alloc o).heap.size) :
    But [g2] W6 A ∧ ∀ g, v'.ownBlock = some g → g = g2 ∨ W6.heap.size ≤ g := by
  refine ⟨(hb.alloc o).grown hg (fun j hj => ?_), fun g hg' => ?_⟩
  · rcases ho j hj with h | h
    · exact .inl (by simp [h])
    · exact .inr h
  · rcases hat with h | h
    · exact ho g (h ▸ hg')
    · rw [hg'] at h
      have : g = W2.heap.size + 1 := by simpa using h
      exact .inr (by omega)

set_option maxRecDepth 100000 in
set_option maxHeartbeats 16000000 in
theorem walk (w : World) (p0 : Option Addr) (n0 c0 : Nat) (l0 : List Ent) (S0 : EnsP w.heap.size w (.slice p0 n0 c0) l0) (b0 : (∀ x ∈ l0, okS x.1 ∧ In64 x.2) ∧ l0.length ≤ Go.maxLen) (a1 : Int) (w1 : (Lit.int .u64 a1).wf = true) (a2 : Int) (w2 : (Lit.int .u64 a2).wf = true) (a3 : Int) (w3 : (Lit.int .i64 a3).wf = true) :
    Calls Try.prog 6 #[.slice p0 n0 c0, .int .u64 a1, .int .u64 a2, .int .i64 a3] w fun e w' => e = .returned (.bool true) ∧ Below w.heap.size w w' := by
  obtain ⟨s, rfl, hs⟩ := u64_bd w1
  obtain ⟨t, rfl, ht⟩ := u64_bd w2
  have hn := S0.len
  have HAL := Lib.hid (fun W => atomAlive_any W)
  have HOK : Hid (∀ x ∈ l0, okS x.1) := Lib.hid (fun x hx => (b0.1 x hx).1)
  have HN := Lib.hid hn.symm
  have HZ := Lib.hid S0
  have HS := Lib.hid hs
  have HT := Lib.hid ht
  clear S0 b0 hn w1 w2 w3 hs ht
  obtain ⟨wa, hwa⟩ : ∃ wa, w.alloc (Obj.cells #[.int .i64 a3] 3) = wa := ⟨_, rfl⟩
  have hba : Below w.heap.size w wa := by rw [← hwa]; exact (Below.refl _ _).alloc (Nat.le_refl _) _
  have hza : wa.heap.size = w.heap.size + 1 := by rw [← hwa]; simp
  have hMA : Boxed wa w.heap.size 3 (.int .i64 a3) := by rw [← hwa]; exact Boxed.new w _ _
  have HBA := Lib.hid hba
  have HZA := Lib.hid hza
  have HMA := Lib.hid hMA
  have HWA := Lib.hid hwa
  clear hba hza hMA hwa
  by_cases h80 : 80 < n0
  · have g0 : decide ((80 : Int) < (n0 : Int)) = true := decide_eq_true (by omega)
    go_enter Try.func6, Try.ntmps6
    go_upto_region 1 with fail
    rw [HWA.out]
    go_wp2_with (go_at_call 7; refine (HAL.out _).mono ?_; rintro e w2 ⟨rfl, hb2⟩; have HB2 := Lib.hid hb2; clear hb2)
    go_ret
    exact ⟨rfl, HBA.out.trans (HB2.out.mono HBA.out.size)⟩
  have g0 : decide ((80 : Int) < (n0 : Int)) = false := decide_eq_false (by omega)
  have h80' : n0 ≤ 80 := by omega
  obtain ⟨tt, htt, ht1⟩ := and127 a3
  clear h80
  refine (callsIn_wide (n := 3)).1 ?_
  refine callsIn_of_wp_marks Try.func6 rfl trivial ?_ rfl
  simp only [Try.ntmps6, List.size_toArray, List.length_cons, List.length_nil, Nat.reduceAdd, Nat.reduceSub, Array.replicate_succ, Array.replicate_zero, List.push_toArray, List.append_toArray, List.nil_append, List.cons_append]
  refine wpIn_wide.2 ?_
  go_upto_region 1 with fail
  rw [HWA.out]
  go_upto_region 5 with (go_at_call 7; refine (HAL.out _).mono ?_; rintro e w2 ⟨rfl, hb2⟩; have HB2 := Lib.hid hb2; clear hb2)
  have hM2 : Boxed w2 w.heap.size 3 (.int .i64 a3) := (HB2.out.block _ HMA.out.lt).trans HMA.out
  obtain ⟨mo, hmo⟩ : ∃ mo : Nat, 1 + tt = mo := ⟨_, rfl⟩
  have hmi : (1 : Int) + (tt : Int) = (mo : Int) := by omega
  have hM3 := hM2.set (.int .i64 (mo : Nat))
  have q1 := hM2.cell
  have z1 := hM2.frozen
  obtain ⟨w3, hw3⟩ : ∃ w3, w2.setCell ⟨w.heap.size, 0, none⟩ (.int .i64 (mo : Nat)) = w3 := ⟨_, rfl⟩
  rw [hw3] at hM3
  have hz3 : w3.heap.size = w2.heap.size := by rw [← hw3]; simp [World.setCell]
  have HB3 : Hid (Below w.heap.size w w3) := Lib.hid (by rw [← hw3]; exact (HBA.out.trans (HB2.out.mono HBA.out.size)).setCell (by simp) _)
  have HM3 := Lib.hid hM3
  have HW3 := Lib.hid hw3
  have HZ3 : Hid (w.heap.size < w3.heap.size) := Lib.hid hM3.lt
  clear hM2 hM3 hw3 hz3
  go_upto_region 6 with fail
  rw [HW3.out]
  clear q1 z1
  go_upto_region 7 with fail
  obtain ⟨N0, hN0⟩ : ∃ N0, w3.heap.size = N0 := ⟨_, rfl⟩
  obtain ⟨w4, hw4⟩ : ∃ w4, ((w3.alloc (Obj.cells #[] 26)).alloc (Obj.cells #[] 26)).alloc (Obj.cells #[.slice (some ⟨w3.heap.size, 0, none⟩) 0 0] 22) = w4 := ⟨_, rfl⟩
  rw [hw4]
  have hb34 : Below w3.heap.size w3 w4 := by rw [← hw4]; exact (((Below.refl _ _).alloc (Nat.le_refl _) _).alloc (by simp) _).alloc (by simp; omega) _
  have hz4 : w4.heap.size = N0 + 3 := by rw [← hw4]; simp [hN0]
  have hG4 : Boxed w4 (N0 + 2) 22 (.slice (some ⟨N0, 0, none⟩) 0 0) := by
    have h := Boxed.new ((w3.alloc (Obj.cells #[] 26)).alloc (Obj.cells #[] 26)) 22 (.slice (some ⟨w3.heap.size, 0, none⟩) 0 0)
    rw [World.size_alloc, World.size_alloc, hw4, hN0] at h
    exact h
  have hr1 : w4.ownsRow N0 26 2 (.slice (some ⟨N0, 0, none⟩) 0 0) 0 [] := by
    have h := own_empty w3 26 2 w3.heap.size (Nat.le_refl _)
    have h2 := (h.alloc (Obj.cells #[] 26)).alloc (Obj.cells #[.slice (some ⟨w3.heap.size, 0, none⟩) 0 0] 22)
    rw [hw4, hN0] at h2
    exact h2
  have hr2 : w4.ownsRow N0 26 2 (.slice (some ⟨N0 + 1, 0, none⟩) 0 0) 0 [] := by
    have h := own_empty (w3.alloc (Obj.cells #[] 26)) 26 2 w3.heap.size (by simp)
    have h2 := h.alloc (Obj.cells #[.slice (some ⟨w3.heap.size, 0, none⟩) 0 0] 22)
    rw [hw4, World.size_alloc, hN0] at h2
    exact h2
  have hNW : w.heap.size < N0 := by have := HZ3.out; omega
  have hB4 : Below w.heap.size w w4 := HB3.out.trans (hb34.mono (by omega))
  have hM4 : Boxed w4 w.heap.size 3 (.int .i64 (mo : Nat)) := (hb34.block _ HM3.out.lt).trans HM3.out
  have hnil : p0 = none → l0 = [] := fun e => by
    subst e
    rcases HZ.out with ⟨h, _⟩ | ⟨b, off, cap, h, _⟩
    · exact h
    · cases h
  have hl80 : l0.length ≤ 80 := by rw [HN.out]; exact h80'
  have HWN := Lib.hid (withinNew p0 n0 c0 s l0 w4 (by omega) ((HZ.out.below hB4 (Nat.le_refl _)).mono hB4.size) hnil)
  have HL8 := Lib.hid hl80
  have HNW := Lib.hid hNW
  have HB4 := Lib.hid hB4
  have HM4 := Lib.hid hM4
  have HG4 := Lib.hid hG4
  have HR1 := Lib.hid hr1
  have HR2 := Lib.hid hr2
  have HZ4 := Lib.hid hz4
  rw [hN0, show N0 + 1 + 1 = N0 + 2 from rfl]
  clear hw4 hb34 hz4 hG4 hr1 hr2 hB4 hM4 hnil hl80 hNW hN0 HW3 HZ3 HM3 HB3
  go_wp2_with fail
  refine HWN.out.mono ?_
  rintro e w5 ⟨B1, B2, sv, rfl, hx1, hx2, hES, hge, hb45, hB1, rfl, hz5⟩
  obtain ⟨sa, sn, sc, rfl⟩ : ∃ a n c, sv = .slice a n c := by
    rcases hES with ⟨_, a, c, e⟩ | ⟨b, off, cap, e, _⟩
    · exact ⟨_, _, _, e⟩
    · exact ⟨_, _, _, e⟩
  have hz4 := HZ4.out
  have hWN : WiN w5 (N0 + 2) N0 N0 := ⟨Nat.le_refl _, by omega, by omega⟩
  obtain ⟨L, hL⟩ : ∃ L, l0.filter (inA s) = L := ⟨_, rfl⟩
  have hWi0 : WiJ w5 (N0 + 2) N0 N0 mo L (L, []) w5 := ⟨⟨But.refl _ _, .slice (some ⟨N0, 0, none⟩) 0 0, (hb45.block _ HG4.out.lt).trans HG4.out, row_but HR1.out (own2 := []) (But.of_below hb45) (fun _ _ h => nomatch h), fun g hg => .inl (by simpa [Value.ownBlock] using hg.symm)⟩, rfl, by simp only [List.length_nil]; omega⟩
  have hM5 : Boxed w5 w.heap.size 3 (.int .i64 (mo : Nat)) := (hb45.block _ HM4.out.lt).trans HM4.out
  have hR5 : w5.ownsRow N0 26 2 (.slice (some ⟨N0 + 1, 0, none⟩) 0 0) 0 [] := row_but HR2.out (own2 := []) (But.of_below hb45) (fun _ _ h => nomatch h)
  have hoff : OffE [N0 + 2, N0] (.slice sa sn sc) := fun ad n c e hn hk => by
    have := hge ad n c e
    simp at hk
    omega
  have n1 : B1 ∉ [N0 + 2, N0] := by simp; omega
  have n2 : B1 + 1 ∉ [N0 + 2, N0] := by simp; omega
  have hwin := wiC (mo := mo) (L := L) hWN hx1 hx2 hES hoff n1 n2
  have hz5' : N0 + 3 ≤ w5.heap.size := by omega
  have HB5 : Hid (Below w.heap.size w w5) := Lib.hid (HB4.out.trans (hb45.mono HB4.out.size))
  have HWNN := Lib.hid hWN
  have HWI0 := Lib.hid hWi0
  have HM5 := Lib.hid hM5
  have HR5 := Lib.hid hR5
  have HWIN := Lib.hid hwin
  have HL := Lib.hid hL
  have HZ5 := Lib.hid hz5'
  clear hz4 hWN hWi0 hM5 hR5 hoff n1 n2 hwin hz5' hz5 hx1 hx2 hES hge hb45 hB1 hL HWN HM4 HG4 HR1 HR2 HB4 HZ4
  go_wp2_with fail
  rename_i K hKQ
  refine (wpIn_wide (n := 3)).1 ?_
  refine wpIn_actG ?_
  intro A hA
  have tail : ∀ (out : List Ent) (W : World), WiK w5 (N0 + 2) N0 N0 out W → out = L.take mo → W.heap[w5.heap.size]? = some (.deferred (some [])) →
      K { A with defers := { target := .collected w5.heap.size, args := #[] } :: A.defers } W := by
    intro out W hj htk hD
    rw [hA]
    refine hKQ _ _ ?_
    obtain ⟨vo, hvo, hrow, hne⟩ := hj.row
    have hz5 := HZ5.out
    have hnw := HNW.out
    have hbw6 : Below w.heap.size w W := HB5.out.trans (hj.but.below (fun k hk => by simp at hk; omega) HB5.out.size)
    have hW6s : w5.heap.size + 1 ≤ W.heap.size := by have := (Array.getElem?_eq_some_iff.1 hD).1; omega
    have hM6 : Boxed W w.heap.size 3 (.int .i64 (mo : Nat)) := (hj.but.block _ HM5.out.lt (by simp; omega)).trans HM5.out
    have hR6 : W.ownsRow N0 26 2 (.slice (some ⟨N0 + 1, 0, none⟩) 0 0) 0 [] := row_but HR5.out hj.but (fun g hg hk => by simp [Value.ownBlock] at hg; simp at hk; omega)
    have hEG : EnsP W.heap.size W vo out := EnsP.of_owns hrow
    obtain ⟨ga, gc, rfl⟩ := own_form hrow
    have hgo : OffE [N0 + 1] (.slice ga out.length gc) := fun ad n c e hn hk => by
      cases e
      have := hne ad.block rfl
      simp at hk
      omega
    have hlo : out.length ≤ 128 := by rw [htk, List.length_take]; omega
    have HW6 := Lib.hid hbw6
    have HM6 := Lib.hid hM6
    have HR6 := Lib.hid hR6
    have HEG := Lib.hid hEG
    have HGO := Lib.hid hgo
    have HVO := Lib.hid hvo
    have HTK := Lib.hid htk
    have HD6 := Lib.hid hD
    have HLO := Lib.hid hlo
    have HWS := Lib.hid hW6s
    clear hj hvo hrow hne hbw6 hM6 hR6 hEG hgo htk hD hz5 hnw hlo hW6s
    obtain ⟨i0, hi, hz0, hz1, hz2⟩ := info_parts infoTE
    obtain ⟨W6, hW6⟩ : ∃ x, x = W := ⟨W, rfl⟩
    subst hW6
    go_wp2
    go_loopw [10, 39] (fun wv i wr => ∃ (m : Nat) (oe : List Ent), i = .int .i64 m ∧ m ≤ n0 ∧ But [N0 + 1] W6 wr ∧ wr.ownsRow N0 26 2 wv oe.length (flatVE oe) ∧ (∀ g, wv.ownBlock = some g → g = N0 + 1 ∨ W6.heap.size ≤ g) ∧ oe = ((l0.take m).filter (inA s)).take mo) (fun _ i _ => n0 - (intOf i).toNat)
    case atStart => exact ⟨0, [], rfl, Nat.zero_le _, But.refl _ _, HR6.out, fun g hg => .inl (by simpa [Value.ownBlock] using hg.symm), by simp⟩
    case round =>
      obtain ⟨m, oe, rfl, hm, hBu, hrow, hown, hoe⟩ := hrel
      obtain ⟨wr1, hwr1⟩ : ∃ x, x = wr := ⟨wr, rfl⟩
      subst hwr1
      obtain ⟨wa2, wc2, hwv⟩ := own_form hrow
      have hol : oe.length ≤ 128 := by rw [hoe, List.length_take]; omega
      have hBe : Below w.heap.size w wr1 := HW6.out.trans (hBu.below (fun k hk => by simp at hk; have := HNW.out; omega) HW6.out.size)
      have hM7 : Boxed wr1 w.heap.size 3 (.int .i64 (mo : Nat)) := (hBu.block _ HM6.out.lt (by have := HNW.out; simp; omega)).trans HM6.out
      by_cases hlt : m < n0
      · obtain ⟨⟨k, u⟩, hk⟩ : ∃ x, l0[m]? = some x := ⟨_, List.getElem?_eq_getElem (by rw [HN.out]; exact hlt)⟩
        obtain ⟨b, off, rfl, hb, f0, f1⟩ := HZ.out.at_ hk
        have hkok := HOK.out _ (List.mem_of_getElem? hk)
        have hnx := takeF_next s mo hk
        rw [← hoe] at hnx
        have d0 := (hBe.cell (p := ⟨b, off + m * 2, none⟩) hb).trans f0
        have d1 := (hBe.cell (p := ⟨b, off + m * 2 + 1, none⟩) hb).trans f1
        simp only at d0 d1 hkok
        have g1 : (0 : Int) ≤ m := by omega
        have g2 : (m : Int) < n0 := by omega
        obtain ⟨W1, hW1⟩ : ∃ W1, wr1.alloc (.cells #[.int .u64 (k : Nat), .int .i64 u] 26) = W1 := ⟨_, rfl⟩
        have hb01 : Below wr1.heap.size wr1 W1 := by rw [← hW1]; exact (Below.refl _ _).alloc (Nat.le_refl _) _
        have hnew : W1.heap[wr1.heap.size]? = some (.cells #[.int .u64 (k : Nat), .int .i64 u] 26) := by rw [← hW1]; exact World.alloc_heap_new wr1 _
        have hBlt : wr1.heap.size < W1.heap.size := by rw [← hW1]; simp
        have c0 : W1.cell? ⟨wr1.heap.size, 0, none⟩ = some (.int .u64 (k : Nat)) := cell_of_row W1 _ 0 _ _ _ hnew
        have c1 : W1.cell? ⟨wr1.heap.size, 1, none⟩ = some (.int .i64 u) := cell_of_row W1 _ 1 _ _ _ hnew
        have HKP : Hid (∀ W2, Below wr1.heap.size wr1 W2 → But [N0 + 1] W6 W2 ∧ W2.ownsRow N0 26 2 (.slice wa2 oe.length wc2) oe.length (flatVE oe) ∧ W2.cell? ⟨w.heap.size, 0, none⟩ = some (.int .i64 (mo : Nat))) := Lib.hid (fun W2 hb2 => by
          have hm2 : Boxed W2 w.heap.size 3 (.int .i64 (mo : Nat)) := (hb2.block _ hM7.lt).trans hM7
          rw [← hwv]
          exact ⟨hBu.trans' (But.of_below hb2), row_but hrow (own2 := []) (But.of_below hb2) (fun _ _ h => nomatch h), hm2.cell⟩)
        rw [hwv] at hown
        have HOW := Lib.hid hown
        have HRG := Lib.hid (refRight_any (k, u) W1 hkok)
        have HRW := Lib.hid (fun W => refWithin_any k s W hkok HS.out)
        have HW1 := Lib.hid hW1
        have HNX := Lib.hid hnx
        have HB01 := Lib.hid hb01
        have HBU6 := Lib.hid hBu.size
        rw [hwv]
        clear hBu hrow hown hoe hBe hM7 hk f0 f1 hnx hW1 hnew hb01 hwv
        obtain ⟨ol, hol2⟩ : ∃ ol, oe.length = ol := ⟨_, rfl⟩
        have HOL := Lib.hid hol2
        rw [hol2] at HKP HNX HOW hol ⊢
        clear hol2
        go_upto_region 14 with fail
        rw [HW1.out]
        cases hra : rightA 1099511627776 (k, u) with
        | false =>
          rw [hra] at HRG HNX
          simp only [Bool.false_and, Bool.false_eq_true, if_false] at HNX
          clear hra
          go_wp2_with fail
          refine HRG.out.mono ?_
          rintro e W2 ⟨rfl, hW2⟩
          have hb12 : Below W1.heap.size W1 W2 := by rw [hW2]; exact (Below.refl _ _).alloc (Nat.le_refl _) _
          have HF := Lib.hid (HKP.out W2 (HB01.out.trans (hb12.mono HB01.out.size)))
          clear hW2 hb12
          go_wp2
          go_roundw
          case rel => exact ⟨m + 1, oe, by go_num, by omega, HF.out.1, by rw [HOL.out]; exact HF.out.2.1, HOW.out, HNX.out.symm⟩
          case measure => simp [intOf]; omega
        | true =>
          rw [hra] at HRG HNX
          cases hwi : withinB k s with
          | false =>
            rw [hwi] at HRW HNX
            simp only [Bool.and_false, Bool.false_and, Bool.false_eq_true, if_false] at HNX
            clear hra hwi
            go_wp2_with fail
            refine HRG.out.mono ?_
            rintro e W2 ⟨rfl, hW2⟩
            have hb12 : Below W1.heap.size W1 W2 := by rw [hW2]; exact (Below.refl _ _).alloc (Nat.le_refl _) _
            have HF := Lib.hid (HKP.out W2 (HB01.out.trans (hb12.mono HB01.out.size)))
            have k0 := (hb12.cell (p := ⟨wr1.heap.size, 0, none⟩) hBlt).trans c0
            clear hW2 hb12 c0 c1
            go_wp2_with fail
            refine (HRW.out _).mono ?_
            rintro e W3 ⟨rfl, hx⟩
            obtain rfl := hx
            go_wp2
            go_roundw
            case rel => exact ⟨m + 1, oe, by go_num, by omega, HF.out.1, by rw [HOL.out]; exact HF.out.2.1, HOW.out, HNX.out.symm⟩
            case measure => simp [intOf]; omega
          | true =>
            rw [hwi] at HRW HNX
            clear hra hwi
            by_cases hlm : ol < mo
            · have gl : decide (ol < mo) = true := decide_eq_true hlm
              simp only [Bool.and_true, Bool.true_and, gl, if_true] at HNX
              go_wp2_with fail
              refine HRG.out.mono ?_
              rintro e W2 ⟨rfl, hW2⟩
              have hb12 : Below W1.heap.size W1 W2 := by rw [hW2]; exact (Below.refl _ _).alloc (Nat.le_refl _) _
              have hF := HKP.out W2 (HB01.out.trans (hb12.mono HB01.out.size))
              have hfm := hF.2.2
              have HF := Lib.hid hF
              have k0 := (hb12.cell (p := ⟨wr1.heap.size, 0, none⟩) hBlt).trans c0
              have k1 := (hb12.cell (p := ⟨wr1.heap.size, 1, none⟩) hBlt).trans c1
              have hz2w : W6.heap.size ≤ W2.heap.size := hF.1.size
              clear hW2 hb12 c0 c1 hF
              go_upto_region 15 with (go_at_call 21; refine (HRW.out _).mono ?_; rintro e W3 ⟨rfl, hx⟩; obtain rfl := hx)
              obtain ⟨nv, hnv⟩ : ∃ nv, Value.slice wa2 ol wc2 = nv := ⟨_, rfl⟩
              rw [hnv] at HF HOW ⊢
              clear hnv
              have hN0W : N0 ≤ W2.heap.size := by have := HZ5.out; have := HWS.out; omega
              have HAP : Hid (∀ (v' : Value) (A2 : World), A2.ownsRow N0 26 2 v' (ol + 1) (flatVE oe ++ [.int .u64 (k : Nat), .int .i64 u]) → (W2.alloc (.cells #[.int .u64 (k : Nat), .int .i64 u] 26)).grownBy A2 nv.ownBlock → (v'.ownBlock = nv.ownBlock ∨ v'.ownBlock = some (W2.alloc (.cells #[.int .u64 (k : Nat), .int .i64 u] 26)).heap.size) → But [N0 + 1] W6 A2 ∧ ∀ g, v'.ownBlock = some g → g = N0 + 1 ∨ W6.heap.size ≤ g) := Lib.hid (fun v' A2 h1 h2 h3 => apG (n := ol + 1) HF.out.1 HOW.out hz2w h1 h2 h3)
              go_wp2_with (at_builtin; refine wpList_append_own_at _ rfl _ _ 22 rfl N0 26 i0 (.agg #[.int .u64 0, .int .i64 0]) 2 16 Try.underlying22 hi hz0 hz1 hz2 rfl (by decide) _ _ _ rfl (HF.out.2.1.alloc _) ⟨W2.heap.size, 0, none⟩ 1 1 [.int .u64 (k : Nat), .int .i64 u] rfl rfl (World.news_of_block (World.alloc_heap_new W2 _)) (by simp [Value.oneCell']) (by unfold maxLen; omega) (by omega) (by simp; omega) ?_; intro v' A2 hown' hgrow _ hat; have harm := HAP.out v' A2 hown' hgrow hat; have HA := Lib.hid harm; clear harm; have HAO := Lib.hid hown'; clear hown' hgrow hat)
              go_roundw
              case rel => exact ⟨m + 1, oe ++ [(k, u)], by go_num, by omega, HA.out.1, by rw [List.length_append, flatVE_app, HOL.out]; exact HAO.out, HA.out.2, HNX.out.symm⟩
              case measure => simp [intOf]; omega
            · have gl : decide (ol < mo) = false := decide_eq_false hlm
              simp only [Bool.and_true, Bool.true_and, gl, Bool.false_eq_true, if_false] at HNX
              go_wp2_with fail
              refine HRG.out.mono ?_
              rintro e W2 ⟨rfl, hW2⟩
              have hb12 : Below W1.heap.size W1 W2 := by rw [hW2]; exact (Below.refl _ _).alloc (Nat.le_refl _) _
              have hF := HKP.out W2 (HB01.out.trans (hb12.mono HB01.out.size))
              have hfm := hF.2.2
              have HF := Lib.hid hF
              have k0 := (hb12.cell (p := ⟨wr1.heap.size, 0, none⟩) hBlt).trans c0
              clear hW2 hb12 c0 c1 hF
              go_wp2_with fail
              refine (HRW.out _).mono ?_
              rintro e W3 ⟨rfl, hx⟩
              obtain rfl := hx
              go_wp2
              go_roundw
              case rel => exact ⟨m + 1, oe, by go_num, by omega, HF.out.1, by rw [HOL.out]; exact HF.out.2.1, HOW.out, HNX.out.symm⟩
              case measure => simp [intOf]; omega
      · obtain rfl : m = n0 := by omega
        rw [List.take_of_length_le (show l0.length ≤ m by rw [HN.out]; exact Nat.le_refl _), HL.out, ← HTK.out] at hoe
        subst hoe
        have hE7 : EnsP wr1.heap.size wr1 (.slice ga oe.length gc) oe := (HEG.out.but hBu HGO.out (Nat.le_refl _)).mono hBu.size
        have hV7 : Boxed wr1 (N0 + 2) 22 (.slice ga oe.length gc) := (hBu.block _ HVO.out.lt (by simp)).trans HVO.out
        subst hwv
        have hEW := EnsP.of_owns hrow
        have hD7 : wr1.heap[w5.heap.size]? = some (.deferred (some [])) := (hBu.block _ (Array.getElem?_eq_some_iff.1 HD6.out).1 (by have := HZ5.out; simp; omega)).trans HD6.out
        have HE7 : Hid (∀ W, Below wr1.heap.size wr1 W → EnsP W.heap.size W (.slice ga oe.length gc) oe ∧ EnsP W.heap.size W (.slice wa2 oe.length wc2) oe ∧ W.cell? ⟨N0 + 2, 0, none⟩ = some (.slice ga oe.length gc) ∧ W.heap[w5.heap.size]? = some (.deferred (some [])) ∧ Below w.heap.size w W) := Lib.hid (fun W hb => by
          have hv8 : Boxed W (N0 + 2) 22 (.slice ga oe.length gc) := (hb.block _ hV7.lt).trans hV7
          exact ⟨(hE7.below hb (Nat.le_refl _)).mono hb.size, (hEW.below hb (Nat.le_refl _)).mono hb.size, hv8.cell, (hb.block _ (Array.getElem?_eq_some_iff.1 hD7).1).trans hD7, hBe.trans (hb.mono hBe.size)⟩)
        have HAS : Hid (∀ W, Below wr1.heap.size wr1 W → EnsP W.heap.size W (.slice p0 m c0) l0) := Lib.hid (fun W hb => (HZ.out.below (HE7.out W hb).2.2.2.2 (Nat.le_refl _)).mono (HE7.out W hb).2.2.2.2.size)
        have hand := u64_and_nat s t HS.out HT.out
        have hso : okS (s &&& t) := by
          have h1 : s &&& t ≤ s := Nat.and_le_left
          have h2 := HS.out
          unfold okS at h2 ⊢
          omega
        obtain ⟨F, hF⟩ : ∃ F, l0.filter (rightA 1099511627776) = F := ⟨_, rfl⟩
        have HV : Hid (∀ x W, okS x → Below wr1.heap.size wr1 W → Calls Try.prog 16 #[.slice p0 m c0, .int .u64 (x : Nat)] W fun e w' => e = .returned (.int .i64 (askL withinB F x)) ∧ Below W.heap.size W w') := Lib.hid (fun x W hx hb => by
          have h := value_any p0 m c0 x l0 hx HOK.out (by have := HL8.out; omega) W (HAS.out W hb)
          rw [hF] at h
          exact h)
        have hsub := ask_sub F s t
        have hze : askL withinB F 0 = 0 := by rw [← hF]; exact ask_zero HOK.out
        have hmo' : askL withinB F (s &&& t) ≤ 1099511627776 := by rw [← hF]; exact ask_most l0 _
        have hnn : 0 ≤ askL withinB F (s &&& t) := askL_nonneg _ _
        have HV1 := Lib.hid (HV.out (s &&& t) wr1 hso (Below.refl _ _))
        have HV2 := Lib.hid (fun W hb => HV.out s W HS.out hb)
        have HV3 := Lib.hid (fun W hb => HV.out t W HT.out hb)
        have HV4 := Lib.hid (fun W hb => HV.out 0 W (by unfold okS; decide) hb)
        obtain ⟨v0, hv0⟩ : ∃ v, askL withinB F (s &&& t) = v := ⟨_, rfl⟩
        obtain ⟨v1, hv1⟩ : ∃ v, askL withinB F s = v := ⟨_, rfl⟩
        obtain ⟨v2, hv2⟩ : ∃ v, askL withinB F t = v := ⟨_, rfl⟩
        rw [hv0] at HV1 hsub hmo' hnn
        rw [hv1] at HV2 hsub
        rw [hv2] at HV3 hsub
        rw [hze] at HV4
        have gle1 : decide (v0 ≤ v1) = true := decide_eq_true hsub.1
        have gle2 : decide (v0 ≤ v2) = true := decide_eq_true hsub.2
        have HRR := Lib.hid (fun W => ref01Right_any v0 W)
        rw [show (decide (0 ≤ v0) && decide (v0 ≤ 1099511627776)) = true from by rw [decide_eq_true hnn, decide_eq_true hmo']; rfl] at HRR
        obtain ⟨st, hst⟩ : ∃ st, s &&& t = st := ⟨_, rfl⟩
        rw [hst] at hand HV1
        have hlo2 : oe.length ≤ 128 := hol
        obtain ⟨ol, hol2⟩ : ∃ ol, oe.length = ol := ⟨_, rfl⟩
        have HOL := Lib.hid hol2
        rw [hol2] at HE7 ⊢
        have gm : ¬ (m : Int) < m := by omega
        clear hol2 hst hso hF HV hsub hze hmo' hnn hv0 hv1 hv2 hEW hE7 hV7 hD7 hBe hM7 hBu hrow hown hol
        go_wp2_with fail
        refine HV1.out.mono ?_
        rintro e w10 ⟨rfl, hb10⟩
        have HB10 := Lib.hid hb10
        have HX10 := Lib.hid (HE7.out w10 hb10)
        have x9 := HX10.out.2.2.1
        have HSM := Lib.hid (refSame2_any ga wa2 ol ol gc wc2 oe oe (by omega) (by omega) w10 HX10.out.1 HX10.out.2.1)
        rw [show decide (oe = oe) = true from by simp] at HSM
        clear hb10
        go_wp2_with fail
        refine HSM.out.mono ?_
        rintro e w11 ⟨rfl, hb11⟩
        have HB11 := Lib.hid (HB10.out.trans (hb11.mono HB10.out.size))
        clear hb11
        go_wp2_with fail
        refine (HV2.out w11 HB11.out).mono ?_
        rintro e w12 ⟨rfl, hb12⟩
        have HB12 := Lib.hid (HB11.out.trans (hb12.mono HB11.out.size))
        clear hb12
        go_wp2_with fail
        refine (HV3.out w12 HB12.out).mono ?_
        rintro e w13 ⟨rfl, hb13⟩
        have HB13 := Lib.hid (HB12.out.trans (hb13.mono HB12.out.size))
        clear hb13
        go_wp2_with fail
        refine (HV4.out w13 HB13.out).mono ?_
        rintro e w14 ⟨rfl, hb14⟩
        have HB14 := Lib.hid (HB13.out.trans (hb14.mono HB13.out.size))
        clear hb14
        go_wp2_with fail
        refine (HRR.out w14).mono ?_
        rintro e w15 ⟨rfl, hx⟩
        obtain rfl := hx
        have HX14 := Lib.hid (HE7.out _ HB14.out)
        have HD14 := Lib.hid HX14.out.2.2.2.1
        have HFIN : Hid (Below w.heap.size w (w15.putObj w5.heap.size (.deferred none))) := Lib.hid (by
          have hb := But.putObj w15 w5.heap.size (.deferred none)
          have h5 := HX14.out.2.2.2.2
          exact h5.trans (hb.below (fun k hk => by simp at hk; have := HB5.out.size; omega) h5.size))
        go_wp2_with fail
        refine ⟨by simp, .inl ⟨_, _, rfl, run_takeDeferred HD14.out, ?_⟩⟩
        exact ⟨_, results_tmp rfl _ _ _, rfl, HFIN.out⟩
  have HTAIL := Lib.hid tail
  clear tail
  refine rangeG rfl (by omega) (gf := 41) (lb := #[.pointer (some ⟨B1, 0, none⟩), .pointer (some ⟨B1 + 1, 0, none⟩)]) (by rw [hA]; rfl) trivial (enters_of Try.func41 (by kernel_rfl) rfl) (encs := fun (x : Ent) => #[.agg #[.int .u64 (x.1 : Nat), .int .i64 x.2]]) (fun _ => rfl)
    (WiJ w5 (N0 + 2) N0 N0 mo L) (fun st x W => WiJ w5 (N0 + 2) N0 N0 mo L st W ∧ ∃ r, st.1 = x :: r)
    (fun (st : List Ent × List Ent) (x : Ent) a1 W => (WiJ w5 (N0 + 2) N0 N0 mo L st W ∧ ∃ r, st.1 = x :: r) ∧ ∃ Bx, w5.heap.size + 2 ≤ Bx ∧ W.heap[Bx]? = some (.cells #[.int .u64 (x.1 : Nat), .int .i64 x.2] 26 (0, 0)) ∧ a1 = { tmps := ((A.tmps.setIfInBounds 28 (.agg #[.int .u64 (x.1 : Nat), .int .i64 x.2])).setIfInBounds 11 (.pointer (some ⟨Bx, 0, none⟩))), defers := [] })
    (fun c W => c = .exit 0 ∧ ∃ out, WiK w5 (N0 + 2) N0 N0 out W ∧ out = L.take mo) (fun st st' => st'.1 = st.1.tail) (fun st _ => st.1 = []) (L, [])
    (fun st W o k hk h => ⟨WiK.noRec HWNN.out W o k hk h.1, h.2⟩)
    (fun st x a1 W o k hk ⟨⟨h1, hg⟩, Bx, h2, h3, h5⟩ => ⟨⟨⟨WiK.noRec HWNN.out W o k hk h1.1, h1.2⟩, hg⟩, Bx, h2, (World.putObj_heap_other (by omega)).trans h3, h5⟩)
    (fun c W o k hk ⟨h0, out, h, h2⟩ => ⟨h0, out, WiK.noRec HWNN.out W o k hk h, h2⟩) (fun _ _ _ _ _ h => h) (fun r => ⟨HWI0.out.1.below HWNN.out (((Below.refl w5.heap.size w5).alloc (Nat.le_refl _) (.deferred (some []))).alloc (by simp) (.loop r)), HWI0.out.2⟩)
    (within1 (s := s) HS.out HOK.out (by have := HL8.out; omega) HWIN.out HL.out.symm)
    ?assign ?body ?done ?stop
  case assign =>
    rintro l9 st ⟨x, u⟩ W K' ⟨hj, hg⟩ hzW hK
    rw [hA] at hK ⊢
    have hb := (Below.refl W.heap.size W).alloc (Nat.le_refl _) (.cells #[.int .u64 (x : Nat), .int .i64 u] 26)
    have hj2 : WiJ w5 (N0 + 2) N0 N0 mo L st (W.alloc (.cells #[.int .u64 (x : Nat), .int .i64 u] 26)) := ⟨hj.1.below HWNN.out hb, hj.2⟩
    have HH : Hid ((WiJ w5 (N0 + 2) N0 N0 mo L st (W.alloc (.cells #[.int .u64 (x : Nat), .int .i64 u] 26)) ∧ ∃ r, st.1 = (x, u) :: r) ∧ SameRec w5.heap.size W (W.alloc (.cells #[.int .u64 (x : Nat), .int .i64 u] 26)) ∧ (W.alloc (.cells #[.int .u64 (x : Nat), .int .i64 u] 26)).heap[W.heap.size]? = some (.cells #[.int .u64 (x : Nat), .int .i64 u] 26 (0, 0)) ∧ w5.heap.size + 2 ≤ W.heap.size) := Lib.hid ⟨⟨hj2, hg⟩, ⟨hb.block _ (by omega), hb.block _ (by omega)⟩, World.alloc_heap_new W _, by omega⟩
    clear hj hg hj2 hb
    gi_wp2
    exact hK _ _ ⟨HH.out.1, W.heap.size, HH.out.2.2.2, HH.out.2.2.1, rfl⟩ HH.out.2.1
  case body =>
    rintro l9 ⟨rem, out⟩ ⟨x, u⟩ a1 V ⟨⟨⟨hj, hh, hlt⟩, r, hr⟩, Bx, hBx, hx, rfl⟩ hzV
    simp only at hj hh hlt hr
    subst hr
    obtain ⟨vo, hvo, hrow, hne⟩ := hj.row
    obtain ⟨i0, hi, hz0, hz1, hz2⟩ := info_parts infoTE
    have hc := hvo.cell
    have e0 : V.cell? ⟨Bx, 0, none⟩ = some (.int .u64 (x : Nat)) := cell_of_row V Bx 0 _ _ _ hx
    have e1 : V.cell? ⟨Bx, 1, none⟩ = some (.int .i64 u) := cell_of_row V Bx 1 _ _ _ hx
    have hMV : Boxed V w.heap.size 3 (.int .i64 (mo : Nat)) := (hj.but.block _ HM5.out.lt (by have := HNW.out; simp; omega)).trans HM5.out
    have HJ := Lib.hid hj
    have HHH := Lib.hid hh
    have HVO := Lib.hid hvo
    have HROW := Lib.hid hrow
    have HMV := Lib.hid hMV
    have hzV2 : N0 ≤ V.heap.size := by have := HZ5.out; omega
    have hlo : out.length ≤ 128 := by omega
    have gne1 : ¬ (w.heap.size = N0 + 2) := by have := HNW.out; omega
    have gne2 : ¬ (N0 + 2 = w.heap.size) := by have := HNW.out; omega
    have HARM : Hid (∀ (v' : Value) (w6 : World), w6.ownsRow N0 26 2 v' (out.length + 1) (flatVE out ++ [.int .u64 (x : Nat), .int .i64 u]) → (V.alloc (.cells #[.int .u64 (x : Nat), .int .i64 u] 26)).grownBy w6 vo.ownBlock → (v'.ownBlock = vo.ownBlock ∨ v'.ownBlock = some (V.alloc (.cells #[.int .u64 (x : Nat), .int .i64 u] 26)).heap.size) →
      (WiK w5 (N0 + 2) N0 N0 (out ++ [(x, u)]) (w6.setCell ⟨N0 + 2, 0, none⟩ v') ∧ SameRec w5.heap.size V (w6.setCell ⟨N0 + 2, 0, none⟩ v')) ∧ w6.cell? ⟨N0 + 2, 0, none⟩ = some vo ∧ w6.frozen? ⟨N0 + 2, 0, none⟩ = false ∧ w6.cell? ⟨w.heap.size, 0, none⟩ = some (.int .i64 (mo : Nat))) := Lib.hid (by
      intro v' w6 hown' hgrow hat
      have hb5 : Boxed w6 (N0 + 2) 22 vo := (HVO.out.alloc _).kept hgrow (fun e => HVO.out.not_row (by decide) HROW.out e)
      have hn5 : Boxed w6 w.heap.size 3 (.int .i64 (mo : Nat)) := (HMV.out.alloc _).kept hgrow (fun e => HMV.out.not_row (by decide) HROW.out e)
      exact ⟨HJ.out.app HWNN.out (by omega) HVO.out _ hown' hgrow hat, hb5.cell, hb5.frozen, hn5.cell⟩)
    clear hj hne hrow hvo hMV hx hh
    rw [hA]
    by_cases hb : out.length + 1 = mo
    · have hbq : (((out.length + 1 : Nat) : Int) == (mo : Int)) = true := by rw [hb]; simp
      gi_wp2_with (gi_at_builtin; refine wpListIn_append_own_at _ rfl _ _ 22 rfl N0 26 i0 (.agg #[.int .u64 0, .int .i64 0]) 2 16 Try.underlying22 hi hz0 hz1 hz2 rfl (by decide) _ _ _ rfl (HROW.out.alloc _) ⟨V.heap.size, 0, none⟩ 1 1 [.int .u64 (x : Nat), .int .i64 u] rfl rfl (World.news_of_block (World.alloc_heap_new V _)) (by simp [Value.oneCell']) (by unfold maxLen; omega) (by omega) (by simp; omega) ?_; intro v' w6 hown' hgrow _ hat; have harm := HARM.out v' w6 hown' hgrow hat; obtain ⟨ha1, hc3, hf3, hn3⟩ := harm; have HA1 := Lib.hid ha1; obtain ⟨g', cap', rfl⟩ := ownsRow_succ hown'; clear ha1 hgrow hat hown')
      have h := HA1.out
      rw [hb] at h
      exact ⟨h.2, rfl, out ++ [(x, u)], h.1, by rw [← HHH.out, List.take_append, List.take_of_length_le (by omega), show mo - out.length = 1 from by omega]; rfl⟩
    · have hbq : (((out.length + 1 : Nat) : Int) == (mo : Int)) = false := by simp; omega
      gi_wp2_with (gi_at_builtin; refine wpListIn_append_own_at _ rfl _ _ 22 rfl N0 26 i0 (.agg #[.int .u64 0, .int .i64 0]) 2 16 Try.underlying22 hi hz0 hz1 hz2 rfl (by decide) _ _ _ rfl (HROW.out.alloc _) ⟨V.heap.size, 0, none⟩ 1 1 [.int .u64 (x : Nat), .int .i64 u] rfl rfl (World.news_of_block (World.alloc_heap_new V _)) (by simp [Value.oneCell']) (by unfold maxLen; omega) (by omega) (by simp; omega) ?_; intro v' w6 hown' hgrow _ hat; have harm := HARM.out v' w6 hown' hgrow hat; obtain ⟨ha1, hc3, hf3, hn3⟩ := harm; have HA1 := Lib.hid ha1; obtain ⟨g', cap', rfl⟩ := ownsRow_succ hown'; clear ha1 hgrow hat hown')
      exact ⟨HA1.out.2, (r, out ++ [(x, u)]), rfl, HA1.out.1, by rw [← HHH.out]; simp, by simp; omega⟩
  case done =>
    rintro ⟨rem, out⟩ W ⟨hj, hh, hlt⟩ he hD
    simp only at hj hh hlt he
    subst he
    rw [List.append_nil] at hh
    subst hh
    exact HTAIL.out out W hj (List.take_of_length_le (by omega)).symm hD
  case stop =>
    rintro c W ⟨rfl, out, hj, ho⟩ hD
    refine wpIn_exit ?_
    simp only [Exit.inBlock, if_pos]
    exact HTAIL.out out W hj ho hD


set_option maxRecDepth 100000 in
theorem lifted (os : Os) (started : os.Started) (H : Type) (enc : TypeId × Value → H) :
    ReturnsInHanded {} Try.checked os 6 .any (Rows.atomWithinSpec.pre6 enc Try.prog Try.f6 Rows.atomWithinRow.domain false) (Rows.atomWithinSpec.post enc Try.prog Try.f6 false true false false) := by
  refine returnsInHanded_of_change (C := Try.checked) own started (by kernel_rfl) Try.func6
    (ChangeSpec.witness6 (enc := enc) (C := Try.checked) false ⟨#[], #[.slice none 0 0, .int .u64 0, .int .u64 0, .int .i64 0], []⟩ 8 (by kernel_rfl) (by kernel_rfl) (by kernel_rfl) (by kernel_rfl)) ?_
  intro W base args ds gs before hval0 hW hcnd _
  have hval : ∀ (j : Nat) t v, Try.f6.params[j]? = some t → args[j]? = some v → Value.okWide Try.prog W .any base t v := hval0
  have hW' := hW
  obtain ⟨p, q, hA0, hV, rfl, hfz, hnd⟩ := hW
  have hA : DataW.TrodAll enc Try.prog W 0 (fun _ => true) true Try.f6.params.toList args.toList ds p := hA0
  rw [Try.params6] at hA hval
  have hAk := hA
  obtain ⟨v0, vs0, d0, ds0, p0', q0, hargs, rfl, rfl, h0, r0⟩ := trodAll_cons hA
  obtain ⟨v1, vs1, d1, ds1, p1', q1, rfl, rfl, rfl, h1, r1⟩ := trodAll_cons r0
  obtain ⟨v2, vs2, d2, ds2, p2', q2, rfl, rfl, rfl, h2, r2⟩ := trodAll_cons r1
  obtain ⟨v3, vs3, d3, ds3, p3', q3, rfl, rfl, rfl, h3, r3⟩ := trodAll_cons r2
  obtain ⟨rfl, rfl, rfl⟩ := trodAll_nil r3
  obtain rfl : args = #[v0, v1, v2, v3] := by cases args; simp_all
  obtain ⟨rfl, rfl⟩ := trodVars_none hV
  simp only [List.append_nil] at hW' hAk
  have hlt := fun x hx => hW'.lt x hx
  clear hA0 hval0
  obtain ⟨p0, n0, c0, l0, rfl, S0, b0⟩ := open_atoms (okWide_slice Try.underlying22 (hval 0 22 v0 rfl rfl)) h0
  obtain ⟨a1, rfl, rfl, rfl, w1⟩ := open_int Try.underlying23 (hval 1 23 v1 rfl rfl) h1
  obtain ⟨a2, rfl, rfl, rfl, w2⟩ := open_int Try.underlying23 (hval 2 23 v2 rfl rfl) h2
  obtain ⟨a3, rfl, rfl, rfl, w3⟩ := open_int Try.underlying3 (hval 3 3 v3 rfl rfl) h3
  refine (walk W p0 n0 c0 l0 S0 b0 a1 w1 a2 w2 a3 w3).mono fun e W' ⟨he, hg⟩ => ?_
  subst he
  have hargs := trodAll_below hg _ _ _ _ (by intro t ht; simp only [List.mem_cons, List.not_mem_nil, or_false] at ht; revert t; rintro t (rfl | rfl | rfl | rfl) <;> exact ⟨by kernel_rfl, of_decide_eq_true (by kernel_rfl)⟩) hAk (fun x hx => by simpa using hlt x hx)
  exact ⟨_, rfl, _, _, _, [], _, [], hW', (trodAll_cons_mk (shut_bool Try.underlying4 _) trodAll_mk0), hargs, rfl, hg.frame _, fun h => by cases h⟩

theorem over : Rows.atomWithinRow.holds Try.pinned (OpenSpec.ofChange Rows.atomWithinSpec) :=
  OpenClaim.holds_of_wide 6 Try.f6 rfl rfl rfl rfl rfl rfl rfl ⟨rfl, rfl, rfl, rfl, rfl⟩ rfl rfl rfl rfl rfl (by kernel_rfl) Try.func6 (by kernel_rfl)
    (of_decide_eq_true (by kernel_rfl)) (by unfold Func.isWrapper; first | (rw [if_pos (by decide +kernel)]; kernel_rfl) | (rw [if_neg (by decide +kernel)]; exact ⟨rfl, rfl⟩))
    (fun os started H enc _ => lifted os started H enc)

theorem proved : Rows.AtomWithinSaid :=
  over
end Go.Proofs.Ytfgppkmhjjnnnaa.atomWithin
