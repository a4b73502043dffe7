/- atom.Most, atom.Union's range, and the document's own Right and Value. -/
import Derived.Test.YtfgppkmhjjnnnaaDoorAtoB
import Derived.Test.YtfgppkmhjjnnnaaDoorSetD
namespace Go.Proofs.YtfgppkmhjjnnnaaDoor
open Go.RowKit
set_option linter.unusedVariables false
attribute [local go_sem] Oper.semAt_some

theorem full64 : fullN 64 = 18446744073709551615 := by unfold fullN; decide +kernel
set_option maxRecDepth 100000 in
theorem most_any (a : Option Addr) (n c : Nat) (zs : List Ent) (hok : ∀ x ∈ zs, okS x.1) (hlen : zs.length ≤ 1000000) (w : World) (hz : EnsP w.heap.size w (.slice a n c) zs) :
    Calls Tryd.prog 16 #[.slice a n c] w fun e w' => e = .returned (.int .i64 (askL withinB (zs.filter (rightA 1099511627776)) 18446744073709551615)) ∧ Below w.heap.size w w' := by
  have HF := Lib.hid (full_any 64 w (by decide) (by decide))
  rw [full64] at HF
  have HV := Lib.hid (value_any a n c 18446744073709551615 zs (by unfold okS; decide) hok hlen w hz)
  clear hz hok
  go_enter Tryd.func16, Tryd.ntmps16
  go_wp2_with fail
  refine HF.out.mono ?_
  rintro e wx ⟨rfl, hx⟩
  obtain rfl := hx
  go_wp2_with fail
  refine HV.out.mono ?_
  rintro e w2 ⟨rfl, hb⟩
  have HB := Lib.hid hb
  clear hb
  go_wp2_with fail
  go_ret
  exact ⟨rfl, HB.out⟩
set_option maxRecDepth 100000 in
set_option maxHeartbeats 1000000 in
theorem refRight_any (x : Ent) (w : World) (hs : okS x.1) : Calls Tryd.prog 5 #[.agg #[.int .u64 (x.1 : Nat), .int .i64 x.2]] w fun e w' => e = .returned (.bool (rightA 1099511627776 x)) ∧ w' = w.alloc (.cells #[.int .u64 (x.1 : Nat), .int .i64 x.2] 28) := by
  obtain ⟨s, v⟩ := x
  have hnew := World.alloc_heap_new w (.cells #[.int .u64 (s : Nat), .int .i64 v] 28)
  have hrr : rightA 1099511627776 (s, v) = (decide (s ≠ 0) && (decide (1 ≤ v) && decide (v ≤ 1099511627776))) := by
    unfold rightA
    simp only [Bool.and_assoc]
  rw [hrr]
  clear hrr hs
  go_enter Tryd.func5, Tryd.ntmps5
  go_upto_region 1 with fail
  obtain ⟨w1, hw1⟩ : ∃ w1, w.alloc (.cells #[.int .u64 (s : Nat), .int .i64 v] 28) = w1 := ⟨_, rfl⟩
  have HW1 := Lib.hid hw1
  rw [hw1] at hnew
  have c0 : w1.cell? ⟨w.heap.size, 0, none⟩ = some (.int .u64 s) := cell_of_row w1 _ 0 _ _ _ hnew
  have c1 : w1.cell? ⟨w.heap.size, 1, none⟩ = some (.int .i64 v) := cell_of_row w1 _ 1 _ _ _ hnew
  rw [HW1.out]
  clear hw1 hnew
  by_cases h1 : s = 0
  · subst h1
    go_wp2_with fail
    go_ret
    exact ⟨by simp, HW1.out.symm⟩
  · have d1 : ((s : Int) != 0) = true := by rw [bne_iff_ne]; omega
    by_cases h2 : 1 ≤ v
    · have d2 : decide (1 ≤ v) = true := decide_eq_true h2
      go_wp2_with fail
      go_ret
      exact ⟨by simp [h1, d2], HW1.out.symm⟩
    · have d2 : decide (1 ≤ v) = false := decide_eq_false h2
      go_wp2_with fail
      go_ret
      exact ⟨by simp [d2], HW1.out.symm⟩
theorem ask_next (zs : List Ent) (s m : Nat) {x : Ent} (hx : zs[m]? = some x) : askL withinB ((zs.take (m + 1)).filter (rightA 1099511627776)) s = if (rightA 1099511627776 x && withinB x.1 s) = true then max (askL withinB ((zs.take m).filter (rightA 1099511627776)) s) x.2 else askL withinB ((zs.take m).filter (rightA 1099511627776)) s := by
  have h0 := askL_nonneg (wi := withinB) ((zs.take m).filter (rightA 1099511627776)) s
  rw [take_snoc hx, List.filter_append, askL_app]
  cases h1 : rightA 1099511627776 x with
  | false =>
    have : [x].filter (rightA 1099511627776) = [] := by simp [h1]
    rw [this, askL_nil]
    simp; omega
  | true =>
    have : [x].filter (rightA 1099511627776) = [x] := by simp [h1]
    rw [this, askL_one]
    cases h2 : withinB x.1 s with
    | false => simp; omega
    | true =>
      have h3 : 1 ≤ x.2 := by
        unfold rightA at h1
        simp only [Bool.and_eq_true, decide_eq_true_eq] at h1
        exact h1.1.2
      simp; omega
set_option maxRecDepth 100000 in
set_option maxHeartbeats 4000000 in
theorem refValue_any (a : Option Addr) (n c s : Nat) (zs : List Ent) (hs : okS s) (hok : ∀ x ∈ zs, okS x.1) (hlen : zs.length ≤ 1000000) (w : World) (hz : EnsP w.heap.size w (.slice a n c) zs) :
    Calls Tryd.prog 7 #[.slice a n c, .int .u64 (s : Nat)] w fun e w' => e = .returned (.int .i64 (askL withinB (zs.filter (rightA 1099511627776)) s)) ∧ Below w.heap.size w w' := by
  have hn := hz.len
  have HZ := Lib.hid hz
  have HN := Lib.hid hn.symm
  have HOK := Lib.hid hok
  have hn0 : n ≤ 1000000 := by omega
  clear hz hn hok hlen
  go_enter Tryd.func7, Tryd.ntmps7
  go_wp2
  go_loopw [5, 6] (fun o i wr => ∃ m : Nat, o = .int .i64 (askL withinB ((zs.take m).filter (rightA 1099511627776)) s) ∧ i = .int .i64 m ∧ m ≤ n ∧ Below w.heap.size w wr) (fun _ i _ => n - (intOf i).toNat)
  case atStart => exact ⟨0, rfl, rfl, Nat.zero_le _, Below.refl _ _⟩
  case round =>
    obtain ⟨m, rfl, rfl, hm, hB⟩ := hrel
    by_cases hlt : m < n
    · obtain ⟨⟨k, v⟩, hk⟩ : ∃ x, zs[m]? = some x := ⟨_, List.getElem?_eq_getElem (by rw [HN.out]; exact hlt)⟩
      obtain ⟨b, off, rfl, hb, f0, f1⟩ := HZ.out.at_ hk
      have hkok := HOK.out _ (List.mem_of_getElem? hk)
      have hnx := ask_next zs s m hk
      have d0 := (hB.cell (p := ⟨b, off + m * 2, none⟩) hb).trans f0
      have d1 := (hB.cell (p := ⟨b, off + m * 2 + 1, none⟩) hb).trans f1
      simp only at d0 d1 hkok hnx
      have g1 : (0 : Int) ≤ m := by omega
      have g2 : (m : Int) < n := by omega
      have HRG := Lib.hid (refRight_any (k, v) wr hkok)
      have HRW := Lib.hid (fun W => refWithin_any k s W hkok hs)
      obtain ⟨o, ho⟩ : ∃ o, askL withinB ((zs.take m).filter (rightA 1099511627776)) s = o := ⟨_, rfl⟩
      rw [ho] at hnx ⊢
      have HB := Lib.hid hB
      have hbz : b < wr.heap.size := Nat.lt_of_lt_of_le hb hB.size
      clear hB hk f0 f1 ho
      cases hra : rightA 1099511627776 (k, v) with
      | false =>
        rw [hra] at hnx HRG
        simp only [Bool.false_and, Bool.false_eq_true, if_false] at hnx
        have HNX := Lib.hid hnx
        clear hnx hra
        go_wp2_with fail
        refine HRG.out.mono ?_
        rintro e W1 ⟨rfl, hW1⟩
        have hb1 : Below wr.heap.size wr W1 := by rw [hW1]; exact (Below.refl _ _).alloc (Nat.le_refl _) _
        have HB1 : Hid (Below w.heap.size w W1) := Lib.hid (HB.out.trans (hb1.mono HB.out.size))
        clear hW1 hb1
        go_wp2_with fail
        go_roundw
        case rel => exact ⟨m + 1, by rw [HNX.out], by go_num, by omega, HB1.out⟩
        case measure => simp [intOf]; omega
      | true =>
        rw [hra] at hnx HRG
        cases hwi : withinB k s with
        | false =>
          rw [hwi] at hnx HRW
          simp only [Bool.and_false, Bool.false_eq_true, if_false] at hnx
          have HNX := Lib.hid hnx
          clear hnx hra hwi
          go_wp2_with fail
          refine HRG.out.mono ?_
          rintro e W1 ⟨rfl, hW1⟩
          have hb1 : Below wr.heap.size wr W1 := by rw [hW1]; exact (Below.refl _ _).alloc (Nat.le_refl _) _
          have HB1 : Hid (Below w.heap.size w W1) := Lib.hid (HB.out.trans (hb1.mono HB.out.size))
          have e0 := (hb1.cell (p := ⟨b, off + m * 2, none⟩) hbz).trans d0
          have e1 := (hb1.cell (p := ⟨b, off + m * 2 + 1, none⟩) hbz).trans d1
          clear hW1 hb1
          go_wp2_with fail
          refine (HRW.out _).mono ?_
          rintro e W2 ⟨rfl, hx⟩
          obtain rfl := hx
          go_wp2_with fail
          go_roundw
          case rel => exact ⟨m + 1, by rw [HNX.out], by go_num, by omega, HB1.out⟩
          case measure => simp [intOf]; omega
        | true =>
          rw [hwi] at hnx HRW
          simp only [Bool.and_true, if_true] at hnx
          by_cases hov : o < v
          · have g3 : decide (o < v) = true := decide_eq_true hov
            rw [show Max.max o v = v by omega] at hnx
            have HNX := Lib.hid hnx
            clear hnx hra hwi
            go_wp2_with fail
            refine HRG.out.mono ?_
            rintro e W1 ⟨rfl, hW1⟩
            have hb1 : Below wr.heap.size wr W1 := by rw [hW1]; exact (Below.refl _ _).alloc (Nat.le_refl _) _
            have HB1 : Hid (Below w.heap.size w W1) := Lib.hid (HB.out.trans (hb1.mono HB.out.size))
            have e0 := (hb1.cell (p := ⟨b, off + m * 2, none⟩) hbz).trans d0
            have e1 := (hb1.cell (p := ⟨b, off + m * 2 + 1, none⟩) hbz).trans d1
            clear hW1 hb1
            go_wp2_with fail
            refine (HRW.out _).mono ?_
            rintro e W2 ⟨rfl, hx⟩
            obtain rfl := hx
            go_wp2_with fail
            go_roundw
            case rel => exact ⟨m + 1, by rw [HNX.out], by go_num, by omega, HB1.out⟩
            case measure => simp [intOf]; omega
          · have g3 : decide (o < v) = false := decide_eq_false hov
            rw [show Max.max o v = o by omega] at hnx
            have HNX := Lib.hid hnx
            clear hnx hra hwi
            go_wp2_with fail
            refine HRG.out.mono ?_
            rintro e W1 ⟨rfl, hW1⟩
            have hb1 : Below wr.heap.size wr W1 := by rw [hW1]; exact (Below.refl _ _).alloc (Nat.le_refl _) _
            have HB1 : Hid (Below w.heap.size w W1) := Lib.hid (HB.out.trans (hb1.mono HB.out.size))
            have e0 := (hb1.cell (p := ⟨b, off + m * 2, none⟩) hbz).trans d0
            have e1 := (hb1.cell (p := ⟨b, off + m * 2 + 1, none⟩) hbz).trans d1
            clear hW1 hb1
            go_wp2_with fail
            refine (HRW.out _).mono ?_
            rintro e W2 ⟨rfl, hx⟩
            obtain rfl := hx
            go_wp2_with fail
            go_roundw
            case rel => exact ⟨m + 1, by rw [HNX.out], by go_num, by omega, HB1.out⟩
            case measure => simp [intOf]; omega
    · obtain rfl : m = n := by omega
      rw [List.take_of_length_le (by rw [HN.out]; exact Nat.le_refl _)]
      have HB := Lib.hid hB
      clear hB
      go_wp2
      go_ret
      exact ⟨rfl, HB.out⟩
end Go.Proofs.YtfgppkmhjjnnnaaDoor
