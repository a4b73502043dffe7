/- atom.Check and the document's. -/
import Derived.Test.YtfgppkmhjjnnnaaDoorAtoD
namespace Go.Proofs.YtfgppkmhjjnnnaaDoor
open Go.RowKit
set_option linter.unusedVariables false
attribute [local go_sem] Oper.semAt_some

/-- Nothing is wrong with an atom; what is wrong with a list. -/
def goodA (items : Nat) (x : Ent) : Bool := withinB x.1 items && (decide (0 ≤ x.2) && decide (x.2 ≤ 1099511627776))
def checkV (zs : List Ent) (items : Nat) : Int := if 64 < zs.length then 3 else if zs.all (goodA items) = true then 0 else 1
theorem all_next {zs : List Ent} {items m : Nat} {x : Ent} (hx : zs[m]? = some x) (h : (zs.take m).all (goodA items) = true) (hg : goodA items x = true) : (zs.take (m + 1)).all (goodA items) = true := by
  rw [take_snoc hx, List.all_append, h]
  simpa using hg
theorem all_not {zs : List Ent} {items m : Nat} {x : Ent} (hx : zs[m]? = some x) (hg : goodA items x = false) : zs.all (goodA items) = false := by
  cases h : zs.all (goodA items) with
  | false => rfl
  | true => rw [List.all_eq_true] at h; have := h x (List.mem_of_getElem? hx); rw [hg] at this; cases this
set_option maxRecDepth 100000 in
set_option maxHeartbeats 4000000 in
theorem check_any (a : Option Addr) (n c items : Nat) (zs : List Ent) (hs : okS items) (hok : ∀ x ∈ zs, okS x.1) (hlen : zs.length ≤ 1000000) (w : World) (hz : EnsP w.heap.size w (.slice a n c) zs) :
    Calls Tryd.prog 14 #[.slice a n c, .int .u64 (items : Nat)] w fun e w' => e = .returned (.int .i64 (checkV zs items)) ∧ Below w.heap.size w w' := by
  have hn := hz.len
  have HZ := Lib.hid hz
  have HN := Lib.hid hn.symm
  have HOK := Lib.hid hok
  have hn0 : n ≤ 1000000 := by omega
  clear hz hn hok hlen
  by_cases h64 : 64 < n
  · rw [show checkV zs items = 3 from if_pos (by rw [HN.out]; exact h64)]
    have g0 : decide ((64 : Int) < (n : Int)) = true := decide_eq_true (by omega)
    go_enter Tryd.func14, Tryd.ntmps14
    go_wp2
    go_ret
    exact ⟨rfl, Below.refl _ _⟩
  have g0 : decide ((64 : Int) < (n : Int)) = false := decide_eq_false (by omega)
  have hcv : checkV zs items = if zs.all (goodA items) = true then 0 else 1 := if_neg (by rw [HN.out]; exact h64)
  rw [hcv]
  clear hcv
  obtain ⟨r, hr⟩ : ∃ r : Int, (if zs.all (goodA items) = true then (0 : Int) else 1) = r := ⟨_, rfl⟩
  rw [hr]
  have HR := Lib.hid hr
  clear hr
  go_enter Tryd.func14, Tryd.ntmps14
  go_wp2
  go_loopw [12] (fun i wr => ∃ m : Nat, i = .int .i64 m ∧ m ≤ n ∧ (zs.take m).all (goodA items) = true ∧ Below w.heap.size w wr) (fun i _ => n - (intOf i).toNat)
  case atStart => exact ⟨0, rfl, Nat.zero_le _, rfl, Below.refl _ _⟩
  case round =>
    obtain ⟨m, rfl, hm, hall, hB⟩ := hrel
    by_cases hlt : m < n
    · obtain ⟨⟨k, v⟩, hk⟩ : ∃ x, zs[m]? = some x := ⟨_, List.getElem?_eq_getElem (by rw [HN.out]; exact hlt)⟩
      obtain ⟨b, off, rfl, hb, f0, f1⟩ := HZ.out.at_ hk
      have hkok := HOK.out _ (List.mem_of_getElem? hk)
      have d0 := (hB.cell (p := ⟨b, off + m * 2, none⟩) hb).trans f0
      have d1 := (hB.cell (p := ⟨b, off + m * 2 + 1, none⟩) hb).trans f1
      simp only at d0 d1 hkok
      have g1 : (0 : Int) ≤ m := by omega
      have g2 : (m : Int) < n := by omega
      have HB := Lib.hid hB
      have hgd : goodA items (k, v) = (withinB k items && (decide (0 ≤ v) && decide (v ≤ 1099511627776))) := rfl
      have HNX := Lib.hid (all_next (items := items) hk hall)
      have HNO := Lib.hid (all_not (items := items) hk)
      rw [hgd] at HNX HNO
      clear f0 f1 hall hgd hk
      have HWI := Lib.hid (fun W => within_any k items W hkok hs)
      have hb1 : Below wr.heap.size wr (wr.alloc (.cells #[.int .u64 (k : Nat), .int .i64 v] 28)) := (Below.refl _ _).alloc (Nat.le_refl _) _
      have HB1 := Lib.hid (HB.out.trans (hb1.mono HB.out.size))
      clear hb1 hB
      cases hwi : withinB k items with
      | false =>
        rw [hwi] at HWI HNO
        have HNO' := Lib.hid (HNO.out (by simp))
        clear HNO HNX hwi
        go_wp2_with (go_at_call 28; refine (HWI.out _).mono ?_; rintro e w' ⟨rfl, rfl⟩)
        go_ret
        exact ⟨by rw [← HR.out, if_neg (by rw [HNO'.out]; decide)]; rfl, HB1.out⟩
      | true =>
        rw [hwi] at HWI HNO HNX
        by_cases hv0 : v < 0
        · have g3 : decide (v < 0) = true := decide_eq_true hv0
          have HNO' := Lib.hid (HNO.out (by rw [decide_eq_false (show ¬ 0 ≤ v by omega)]; rfl))
          clear HNO HNX hwi
          go_wp2_with (go_at_call 28; refine (HWI.out _).mono ?_; rintro e w' ⟨rfl, rfl⟩)
          go_ret
          exact ⟨by rw [← HR.out, if_neg (by rw [HNO'.out]; decide)]; rfl, HB1.out⟩
        · have g3 : decide (v < 0) = false := decide_eq_false hv0
          by_cases hvb : 1099511627776 < v
          · have g4 : decide (1099511627776 < v) = true := decide_eq_true hvb
            have HNO' := Lib.hid (HNO.out (by rw [decide_eq_false (show ¬ v ≤ 1099511627776 by omega)]; simp))
            clear HNO HNX hwi
            go_wp2_with (go_at_call 28; refine (HWI.out _).mono ?_; rintro e w' ⟨rfl, rfl⟩)
            go_ret
            exact ⟨by rw [← HR.out, if_neg (by rw [HNO'.out]; decide)]; rfl, HB1.out⟩
          · have g4 : decide (1099511627776 < v) = false := decide_eq_false hvb
            have HNX' := Lib.hid (HNX.out (by rw [decide_eq_true (show 0 ≤ v by omega), decide_eq_true (show v ≤ 1099511627776 by omega)]; rfl))
            clear HNO HNX hwi
            go_wp2_with (go_at_call 28; refine (HWI.out _).mono ?_; rintro e w' ⟨rfl, rfl⟩)
            go_roundw
            case rel => exact ⟨m + 1, by go_num, by omega, HNX'.out, HB1.out⟩
            case measure => simp [intOf]; omega
    · obtain rfl : m = n := by omega
      rw [List.take_of_length_le (by rw [HN.out]; exact Nat.le_refl _)] at hall
      have HB := Lib.hid hB
      have HALL := Lib.hid hall
      clear hB hall
      go_wp2
      go_ret
      exact ⟨by rw [← HR.out, if_pos HALL.out]; rfl, HB.out⟩
end Go.Proofs.YtfgppkmhjjnnnaaDoor