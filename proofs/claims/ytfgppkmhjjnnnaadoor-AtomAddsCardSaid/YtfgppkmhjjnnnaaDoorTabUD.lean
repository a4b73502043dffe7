/- A table's nodes: the node of a side at the top; even. -/
import Derived.Test.YtfgppkmhjjnnnaaDoorTabUC
namespace Go.Proofs.YtfgppkmhjjnnnaaDoor
open Go.RowKit
set_option linter.unusedVariables false

section
variable {t s : TrN} {b : Bool}
theorem with_side (hn : t.isNode = true) : (t.with_ b s).side b = s := by
  cases t with
  | nil => cases hn
  | node k v l r => cases b <;> rfl
theorem with_isNode (hn : t.isNode = true) : (t.with_ b s).isNode = true := by
  cases t with
  | nil => cases hn
  | node k v l r => cases b <;> rfl
theorem with_size_le : (t.with_ b s).size ≤ t.size + s.size := by
  cases t with
  | nil => exact Nat.zero_le _
  | node k v l r => cases b <;> simp [Tr.with_, Tr.size] <;> omega
theorem side_le : (t.side b).size ≤ t.size := by
  cases t with
  | nil => exact Nat.le_refl _
  | node k v l r => cases b <;> simp [Tr.side, Tr.size] <;> omega
end
theorem AtN.side {W : World} {t : TrN} {p : Value} (h : AtN W t p) (hn : t.isNode = true) (b : Bool) : ∃ g aa, p = .pointer (some ⟨g, 0, none⟩) ∧ AtN W (t.side b) (.pointer aa) ∧ W.cell? ⟨g, 3 + (bitI b).toNat, none⟩ = some (.pointer aa) := by
  obtain ⟨g, k, v, cnt, la, ra, e, hb, hl, hr, c3, c4⟩ := h.sides hn
  cases b with
  | false => exact ⟨g, la, e, hl, c3⟩
  | true => exact ⟨g, ra, e, hr, c4⟩

set_option maxRecDepth 100000 in
set_option maxHeartbeats 2000000 in
theorem liftFalseN (t : TrN) (p : Value) (w : World) (h : AtN w t p) (hn : (t.side false).isNode = true) (ht : t.size ≤ 500000) : Calls Tryd.prog 74 #[p, .int .i64 0] w fun e w' => ∃ p', e = .returned p' ∧ AtN w' (t.lift false) p' ∧ Below w.heap.size w w' := by
  have htn : t.isNode = true := by
    cases t with
    | nil => cases hn
    | node => rfl
  obtain ⟨g, aa, rfl, hs, c3⟩ := h.side htn false
  obtain ⟨g', ai, e', hi, d3⟩ := hs.side hn true
  have c3 : w.cell? ⟨g, 3, none⟩ = some (.pointer aa) := c3
  have d3 : w.cell? ⟨g', 4, none⟩ = some (.pointer ai) := d3
  have hs1 := side_le (t := t) (b := false)
  have hs2 := side_le (t := t.side false) (b := true)
  have HW1 := Lib.hid (withN false t ((t.side false).side true) _ _ w h hi htn (by omega) (by omega))
  have hws := with_size_le (t := t) (s := (t.side false).side true) (b := false)
  have HW2 := Lib.hid (fun (W : World) (q : Value) (hb : Below w.heap.size w W) (hq : AtN W (t.with_ false ((t.side false).side true)) q) => withN true (t.side false) _ _ q W (hs.below hb) hq hn (by omega) (by omega))
  rw [show bitI false = 0 from rfl] at HW1
  rw [show bitI true = 1 from rfl] at HW2
  cases e'
  clear h hs hi hn htn hs1 hs2 hws ht
  go_enter Tryd.func74, Tryd.ntmps74
  go_wp2_with fail
  refine HW1.out.mono ?_
  rintro e w1 ⟨p1, rfl, h1, hb1⟩
  obtain ⟨a1, rfl⟩ := h1.form
  have HW3 := Lib.hid (HW2.out _ _ hb1 h1)
  have B1 := Lib.hid hb1
  clear h1 hb1 HW1 HW2
  go_wp2_with fail
  refine HW3.out.mono ?_
  rintro e w2 ⟨p2, rfl, h2, hb2⟩
  obtain ⟨a2, rfl⟩ := h2.form
  have H2 := Lib.hid h2
  have B2 := Lib.hid hb2
  clear h2 hb2 HW3
  go_wp2_with fail
  go_ret
  exact ⟨_, rfl, H2.out, B1.out.trans (B2.out.mono B1.out.size)⟩

set_option maxRecDepth 100000 in
set_option maxHeartbeats 2000000 in
theorem liftTrueN (t : TrN) (p : Value) (w : World) (h : AtN w t p) (hn : (t.side true).isNode = true) (ht : t.size ≤ 500000) : Calls Tryd.prog 74 #[p, .int .i64 1] w fun e w' => ∃ p', e = .returned p' ∧ AtN w' (t.lift true) p' ∧ Below w.heap.size w w' := by
  have htn : t.isNode = true := by
    cases t with
    | nil => cases hn
    | node => rfl
  obtain ⟨g, aa, rfl, hs, c3⟩ := h.side htn true
  obtain ⟨g', ai, e', hi, d3⟩ := hs.side hn false
  have c3 : w.cell? ⟨g, 4, none⟩ = some (.pointer aa) := c3
  have d3 : w.cell? ⟨g', 3, none⟩ = some (.pointer ai) := d3
  have hs1 := side_le (t := t) (b := true)
  have hs2 := side_le (t := t.side true) (b := false)
  have HW1 := Lib.hid (withN true t ((t.side true).side false) _ _ w h hi htn (by omega) (by omega))
  have hws := with_size_le (t := t) (s := (t.side true).side false) (b := true)
  have HW2 := Lib.hid (fun (W : World) (q : Value) (hb : Below w.heap.size w W) (hq : AtN W (t.with_ true ((t.side true).side false)) q) => withN false (t.side true) _ _ q W (hs.below hb) hq hn (by omega) (by omega))
  rw [show bitI true = 1 from rfl] at HW1
  rw [show bitI false = 0 from rfl] at HW2
  cases e'
  clear h hs hi hn htn hs1 hs2 hws ht
  go_enter Tryd.func74, Tryd.ntmps74
  go_wp2_with fail
  refine HW1.out.mono ?_
  rintro e w1 ⟨p1, rfl, h1, hb1⟩
  obtain ⟨a1, rfl⟩ := h1.form
  have HW3 := Lib.hid (HW2.out _ _ hb1 h1)
  have B1 := Lib.hid hb1
  clear h1 hb1 HW1 HW2
  go_wp2_with fail
  refine HW3.out.mono ?_
  rintro e w2 ⟨p2, rfl, h2, hb2⟩
  obtain ⟨a2, rfl⟩ := h2.form
  have H2 := Lib.hid h2
  have B2 := Lib.hid hb2
  clear h2 hb2 HW3
  go_wp2_with fail
  go_ret
  exact ⟨_, rfl, H2.out, B1.out.trans (B2.out.mono B1.out.size)⟩

theorem below_dr (w : World) (n : Nat) : Below w.heap.size w (w.drewN n) :=
  have h := Below.refl w.heap.size w
  ⟨h.os, h.tape, h.output, h.size, h.block⟩
theorem dr_trans {w w3 : World} {n : Nat} (h : Below (w.drewN n).heap.size (w.drewN n) w3) : Below w.heap.size w w3 := (below_dr w n).trans h
set_option maxRecDepth 100000 in
set_option maxHeartbeats 8000000 in
theorem evenN (t : TrN) (p : Value) (w : World) (h : AtN w t p) (htn : t.isNode = true) (ht : t.size ≤ 200000) : Calls Tryd.prog 67 #[p] w fun e w' => ∃ p', e = .returned p' ∧ AtN w' t.even p' ∧ Below w.heap.size w w' := by
  obtain ⟨g0, k0, v0, cnt, la, ra, rfl, hb, hl0, hr0, c3, c4⟩ := h.sides htn
  have H := Lib.hid h
  have HTN := Lib.hid htn
  have HTT := Lib.hid ht
  have PA := Lib.hid c3
  have PB := Lib.hid c4
  clear h htn ht hb hl0 hr0
  go_enter Tryd.func67, Tryd.ntmps67
  go_wp2
  go_loopw [0, 10] (fun a q wr => ∃ i : Nat, a = .pointer (some ⟨g0, 0, none⟩) ∧ q = .int .i64 i ∧ i ≤ 2 ∧ (∀ j : Nat, j < i → t.heavy (j == 1) = false) ∧ w = wr) (fun _ q _ => 2 - (intOf q).toNat)
  case atStart => exact ⟨0, rfl, rfl, by omega, fun j hj => by omega, rfl⟩
  case round =>
    obtain ⟨i, rfl, rfl, hi, hv, rfl⟩ := hrel
    match i, hi, hv with
    | 0, hi, hv =>
      obtain ⟨g, aa, e, hs, c3⟩ := H.out.side HTN.out false
      obtain ⟨g2, ab, e2, hr, c4⟩ := H.out.side HTN.out true
      have c3 : w.cell? ⟨g, 3, none⟩ = some (.pointer aa) := c3
      have c4 : w.cell? ⟨g2, 4, none⟩ = some (.pointer ab) := c4
      obtain rfl : g0 = g := by cases e; rfl
      obtain rfl : g0 = g2 := by cases e2; rfl
      have HLS := Lib.hid (fun n => tlenN _ _ (w.drewN n) (at_drew hs n))
      have HLR := Lib.hid (tlenN _ _ w hr)
      have HLS0 := Lib.hid (tlenN _ _ w hs)
      have hsz1 := side_le (t := t) (b := false)
      have hsz2 := side_le (t := t) (b := true)
      have htt := HTT.out
      obtain ⟨ns, hns⟩ : ∃ n, (t.side false).size = n := ⟨_, rfl⟩
      obtain ⟨nr, hnr⟩ : ∃ n, (t.side true).size = n := ⟨_, rfl⟩
      have hheavy : t.heavy false = !(decide (ns + nr < 2) || decide (ns ≤ 3 * nr)) := by rw [← hns, ← hnr]; rfl
      have ix : ∀ w, (Instr.index 78 (.agg #[.pointer la, .pointer ra]) (.int .i64 0)).run Tryd.prog w = .ok (.pointer la) w := fun w => by kernel_rfl
      have HNS := Lib.hid hns
      have HSS := Lib.hid hs
      rw [hns] at HLS0 hsz1
      rw [hnr] at HLR hsz2
      have harr : (.pointer aa : Value) = .pointer la := by have e3 := PA.out; rw [c3] at e3; exact Option.some.inj e3
      have harr2 : (.pointer ab : Value) = .pointer ra := by have e3 := PB.out; rw [c4] at e3; exact Option.some.inj e3
      cases harr
      cases harr2
      clear hs hr hns hnr HLS e e2
      have hb1 : (0 : Int) ≤ ns := by omega
      have hb2 : (ns : Int) ≤ 200000 := by omega
      have hb3 : (0 : Int) ≤ nr := by omega
      have hb4 : (nr : Int) ≤ 200000 := by omega
      by_cases q1 : ns + nr < 2
      · have d1 : decide ((ns : Int) + (nr : Int) < 2) = true := decide_eq_true (by omega)
        have hv' : ∀ j : Nat, j < 1 → t.heavy (j == 1) = false := fun j hj => by
          have hj2 : j = 0 ∨ j < 0 := by omega
          rcases hj2 with rfl | hj2
          · show t.heavy false = false
            rw [hheavy, decide_eq_true q1]; rfl
          · exact hv j hj2
        have HV := Lib.hid hv'
        clear hheavy hv hv' q1
        go_wp2_with (first | (with_reducible refine HLR.out.mono ?_; rintro e w' ⟨rfl, rfl⟩) | (with_reducible refine HLS0.out.mono ?_; rintro e w' ⟨rfl, rfl⟩))
        go_roundw
        case rel => exact ⟨1, rfl, rfl, by omega, HV.out, by first | rfl | trivial⟩
        case measure => simp [intOf]
      · have d1 : decide ((ns : Int) + (nr : Int) < 2) = false := decide_eq_false (by omega)
        by_cases q2 : ns ≤ 3 * nr
        · have d2 : decide ((ns : Int) ≤ 3 * (nr : Int)) = true := decide_eq_true (by omega)
          have hv' : ∀ j : Nat, j < 1 → t.heavy (j == 1) = false := fun j hj => by
            have hj2 : j = 0 ∨ j < 0 := by omega
            rcases hj2 with rfl | hj2
            · show t.heavy false = false
              rw [hheavy, decide_eq_true q2]; simp
            · exact hv j hj2
          have HV := Lib.hid hv'
          clear hheavy hv hv' q1 q2
          go_wp2_with (first | (with_reducible refine HLR.out.mono ?_; rintro e w' ⟨rfl, rfl⟩) | (with_reducible refine HLS0.out.mono ?_; rintro e w' ⟨rfl, rfl⟩))
          go_roundw
          case rel => exact ⟨1, rfl, rfl, by omega, HV.out, by first | rfl | trivial⟩
          case measure => simp [intOf]
        · have d2 : decide ((ns : Int) ≤ 3 * (nr : Int)) = false := decide_eq_false (by omega)
          have hhv : t.heavy false = true := by rw [hheavy, decide_eq_false q1, decide_eq_false q2]; rfl
          have hev : t.even = t.mend false := by
            unfold Tr.even
            rw [if_pos hhv]
          have hsn : (t.side false).isNode = true := Tr.pos_node (by have := Tr.heavy_node hhv; omega)
          obtain ⟨gs, ai, es, hin, f3⟩ := HSS.out.side hsn true
          obtain ⟨gs2, ao, es2, hou, f4⟩ := HSS.out.side hsn false
          have f3 : w.cell? ⟨gs, 4, none⟩ = some (.pointer ai) := f3
          have f4 : w.cell? ⟨gs2, 3, none⟩ = some (.pointer ao) := f4
          obtain rfl : gs = gs2 := by rw [es] at es2; cases es2; rfl
          cases es
          have HLI := Lib.hid (fun n => tlenN _ _ (w.drewN n) (at_drew hin n))
          have HLO := Lib.hid (fun n => tlenN _ _ (w.drewN n) (at_drew hou n))
          have hz1 := side_le (t := t.side false) (b := true)
          have hz2 := side_le (t := t.side false) (b := false)
          have hz3 := HNS.out
          obtain ⟨ni, hni⟩ : ∃ n, ((t.side false).side true).size = n := ⟨_, rfl⟩
          obtain ⟨no, hno⟩ : ∃ n, ((t.side false).side false).size = n := ⟨_, rfl⟩
          have hinner : t.inner false = decide (2 * no ≤ ni) := by rw [← hni, ← hno]; rfl
          rw [hni] at HLI hz1
          rw [hno] at HLO hz2
          have hb5 : (0 : Int) ≤ ni := by omega
          have hb6 : (ni : Int) ≤ 200000 := by omega
          have hb7 : (0 : Int) ≤ no := by omega
          have hb8 : (no : Int) ≤ 200000 := by omega
          have HEV := Lib.hid hev
          have HHV := Lib.hid hhv
          have HSN := Lib.hid hsn
          clear hheavy hv q1 q2 hhv hev hsn hin hou es2 hz1 hz2 hz3 hni hno
          by_cases q3 : 2 * no ≤ ni
          · have d3 : decide (2 * (no : Int) ≤ (ni : Int)) = true := decide_eq_true (by omega)
            have hit : t.inner false = true := by rw [hinner]; exact decide_eq_true q3
            have hinn := Tr.pos_node (Tr.inner_node HHV.out hit)
            have HLF := Lib.hid (fun n => liftTrueN (t.side false) _ (w.drewN n) (at_drew HSS.out n) hinn (by have := HNS.out; omega))
            have hls : ((t.side false).lift true).size = (t.side false).size := Tr.lift_size hinn
            have HWT := Lib.hid (fun (n : Nat) (W : World) (q : Value) (hb : Below (w.drewN n).heap.size (w.drewN n) W) (hq : AtN W ((t.side false).lift true) q) => withN false t _ _ q W ((at_drew H.out n).below hb) hq HTN.out (by omega) (by have := HNS.out; omega))
            have hme : t.mend false = (t.with_ false ((t.side false).lift true)).lift false := by
              unfold Tr.mend
              rw [if_pos hit]; rfl
            have hwz := with_size_le (t := t) (s := (t.side false).lift true) (b := false)
            have HLT := Lib.hid (fun (W : World) (q : Value) (hq : AtN W (t.with_ false ((t.side false).lift true)) q) => liftFalseN _ q W hq (by rw [with_side HTN.out]; exact Tr.pos_node (by rw [hls]; exact Tr.node_pos HSN.out)) (by have := HNS.out; omega))
            rw [show bitI false = 0 from rfl] at HWT
            have HME := Lib.hid hme
            clear hit hinn hls hme hwz hinner q3
            go_upto_region 6 with (first | (with_reducible refine HLR.out.mono ?_; rintro e w' ⟨rfl, rfl⟩) | (with_reducible refine HLS0.out.mono ?_; rintro e w' ⟨rfl, rfl⟩))
            go_quiet (first | (with_reducible refine (HLI.out _).mono ?_; exact (fun e w' h => ⟨h.1, _, h.2⟩)) | (with_reducible refine (HLO.out _).mono ?_; exact (fun e w' h => ⟨h.1, _, h.2⟩)))
            go_wp2_with fail
            refine (HLF.out _).mono ?_
            rintro e w1 ⟨p1, rfl, h1, hb1'⟩
            obtain ⟨a1, rfl⟩ := h1.form
            have HW3 := Lib.hid (HWT.out _ _ _ hb1' h1)
            have B1 := Lib.hid hb1'
            clear h1 hb1' HLF HWT HLI HLO HLR HLS0
            go_wp2_with fail
            refine HW3.out.mono ?_
            rintro e w2 ⟨p2, rfl, h2, hb2'⟩
            obtain ⟨a2, rfl⟩ := h2.form
            have HL3 := Lib.hid (HLT.out _ _ h2)
            have B2 := Lib.hid hb2'
            clear h2 hb2' HW3 HLT
            go_wp2_with fail
            refine HL3.out.mono ?_
            rintro e w3 ⟨p3, rfl, h3, hb3'⟩
            obtain ⟨a3, rfl⟩ := h3.form
            have H3 := Lib.hid h3
            have B3 := Lib.hid hb3'
            clear h3 hb3' HL3
            go_wp2_with fail
            go_ret
            refine ⟨_, rfl, by rw [HEV.out, HME.out]; exact H3.out, ?_⟩
            exact dr_trans (B1.out.trans ((B2.out.mono B1.out.size).trans (B3.out.mono (Nat.le_trans B1.out.size B2.out.size))))
          · have d3 : decide (2 * (no : Int) ≤ (ni : Int)) = false := decide_eq_false (by omega)
            have hit : t.inner false = false := by rw [hinner]; exact decide_eq_false q3
            have hme : t.mend false = t.lift false := by
              unfold Tr.mend
              rw [if_neg (by rw [hit]; decide)]
            have HLT := Lib.hid (fun n => liftFalseN t _ (w.drewN n) (at_drew H.out n) HSN.out (by omega))
            have HME := Lib.hid hme
            clear hit hme hinner q3
            go_upto_region 6 with (first | (with_reducible refine HLR.out.mono ?_; rintro e w' ⟨rfl, rfl⟩) | (with_reducible refine HLS0.out.mono ?_; rintro e w' ⟨rfl, rfl⟩))
            go_quiet (first | (with_reducible refine (HLI.out _).mono ?_; exact (fun e w' h => ⟨h.1, _, h.2⟩)) | (with_reducible refine (HLO.out _).mono ?_; exact (fun e w' h => ⟨h.1, _, h.2⟩)))
            go_wp2_with (refine (HLT.out _).mono ?_; rintro e w3 ⟨p3, rfl, h3, hb3'⟩; obtain ⟨a3, rfl⟩ := h3.form; have H3 := Lib.hid h3; have B3 := Lib.hid hb3'; clear h3 hb3')
            go_ret
            exact ⟨_, rfl, by rw [HEV.out, HME.out]; exact H3.out, dr_trans B3.out⟩
    | 1, hi, hv =>
      obtain ⟨g, aa, e, hs, c3⟩ := H.out.side HTN.out true
      obtain ⟨g2, ab, e2, hr, c4⟩ := H.out.side HTN.out false
      have c3 : w.cell? ⟨g, 4, none⟩ = some (.pointer aa) := c3
      have c4 : w.cell? ⟨g2, 3, none⟩ = some (.pointer ab) := c4
      obtain rfl : g0 = g := by cases e; rfl
      obtain rfl : g0 = g2 := by cases e2; rfl
      have HLS := Lib.hid (fun n => tlenN _ _ (w.drewN n) (at_drew hs n))
      have HLR := Lib.hid (tlenN _ _ w hr)
      have HLS0 := Lib.hid (tlenN _ _ w hs)
      have hsz1 := side_le (t := t) (b := true)
      have hsz2 := side_le (t := t) (b := false)
      have htt := HTT.out
      obtain ⟨ns, hns⟩ : ∃ n, (t.side true).size = n := ⟨_, rfl⟩
      obtain ⟨nr, hnr⟩ : ∃ n, (t.side false).size = n := ⟨_, rfl⟩
      have hheavy : t.heavy true = !(decide (ns + nr < 2) || decide (ns ≤ 3 * nr)) := by rw [← hns, ← hnr]; rfl
      have ix : ∀ w, (Instr.index 78 (.agg #[.pointer la, .pointer ra]) (.int .i64 1)).run Tryd.prog w = .ok (.pointer ra) w := fun w => by kernel_rfl
      have HNS := Lib.hid hns
      have HSS := Lib.hid hs
      rw [hns] at HLS0 hsz1
      rw [hnr] at HLR hsz2
      have harr : (.pointer aa : Value) = .pointer ra := by have e3 := PB.out; rw [c3] at e3; exact Option.some.inj e3
      have harr2 : (.pointer ab : Value) = .pointer la := by have e3 := PA.out; rw [c4] at e3; exact Option.some.inj e3
      cases harr
      cases harr2
      clear hs hr hns hnr HLS e e2
      have hb1 : (0 : Int) ≤ ns := by omega
      have hb2 : (ns : Int) ≤ 200000 := by omega
      have hb3 : (0 : Int) ≤ nr := by omega
      have hb4 : (nr : Int) ≤ 200000 := by omega
      by_cases q1 : ns + nr < 2
      · have d1 : decide ((ns : Int) + (nr : Int) < 2) = true := decide_eq_true (by omega)
        have hv' : ∀ j : Nat, j < 2 → t.heavy (j == 1) = false := fun j hj => by
          have hj2 : j = 1 ∨ j < 1 := by omega
          rcases hj2 with rfl | hj2
          · show t.heavy true = false
            rw [hheavy, decide_eq_true q1]; rfl
          · exact hv j hj2
        have HV := Lib.hid hv'
        clear hheavy hv hv' q1
        go_wp2_with (first | (with_reducible refine HLR.out.mono ?_; rintro e w' ⟨rfl, rfl⟩) | (with_reducible refine HLS0.out.mono ?_; rintro e w' ⟨rfl, rfl⟩))
        go_roundw
        case rel => exact ⟨2, rfl, rfl, by omega, HV.out, by first | rfl | trivial⟩
        case measure => simp [intOf]
      · have d1 : decide ((ns : Int) + (nr : Int) < 2) = false := decide_eq_false (by omega)
        by_cases q2 : ns ≤ 3 * nr
        · have d2 : decide ((ns : Int) ≤ 3 * (nr : Int)) = true := decide_eq_true (by omega)
          have hv' : ∀ j : Nat, j < 2 → t.heavy (j == 1) = false := fun j hj => by
            have hj2 : j = 1 ∨ j < 1 := by omega
            rcases hj2 with rfl | hj2
            · show t.heavy true = false
              rw [hheavy, decide_eq_true q2]; simp
            · exact hv j hj2
          have HV := Lib.hid hv'
          clear hheavy hv hv' q1 q2
          go_wp2_with (first | (with_reducible refine HLR.out.mono ?_; rintro e w' ⟨rfl, rfl⟩) | (with_reducible refine HLS0.out.mono ?_; rintro e w' ⟨rfl, rfl⟩))
          go_roundw
          case rel => exact ⟨2, rfl, rfl, by omega, HV.out, by first | rfl | trivial⟩
          case measure => simp [intOf]
        · have d2 : decide ((ns : Int) ≤ 3 * (nr : Int)) = false := decide_eq_false (by omega)
          have hhv : t.heavy true = true := by rw [hheavy, decide_eq_false q1, decide_eq_false q2]; rfl
          have hev : t.even = t.mend true := by
            unfold Tr.even
            rw [if_neg (by rw [show t.heavy false = false from hv 0 (by omega)]; decide), if_pos hhv]
          have hsn : (t.side true).isNode = true := Tr.pos_node (by have := Tr.heavy_node hhv; omega)
          obtain ⟨gs, ai, es, hin, f3⟩ := HSS.out.side hsn false
          obtain ⟨gs2, ao, es2, hou, f4⟩ := HSS.out.side hsn true
          have f3 : w.cell? ⟨gs, 3, none⟩ = some (.pointer ai) := f3
          have f4 : w.cell? ⟨gs2, 4, none⟩ = some (.pointer ao) := f4
          obtain rfl : gs = gs2 := by rw [es] at es2; cases es2; rfl
          cases es
          have HLI := Lib.hid (fun n => tlenN _ _ (w.drewN n) (at_drew hin n))
          have HLO := Lib.hid (fun n => tlenN _ _ (w.drewN n) (at_drew hou n))
          have hz1 := side_le (t := t.side true) (b := false)
          have hz2 := side_le (t := t.side true) (b := true)
          have hz3 := HNS.out
          obtain ⟨ni, hni⟩ : ∃ n, ((t.side true).side false).size = n := ⟨_, rfl⟩
          obtain ⟨no, hno⟩ : ∃ n, ((t.side true).side true).size = n := ⟨_, rfl⟩
          have hinner : t.inner true = decide (2 * no ≤ ni) := by rw [← hni, ← hno]; rfl
          rw [hni] at HLI hz1
          rw [hno] at HLO hz2
          have hb5 : (0 : Int) ≤ ni := by omega
          have hb6 : (ni : Int) ≤ 200000 := by omega
          have hb7 : (0 : Int) ≤ no := by omega
          have hb8 : (no : Int) ≤ 200000 := by omega
          have HEV := Lib.hid hev
          have HHV := Lib.hid hhv
          have HSN := Lib.hid hsn
          clear hheavy hv q1 q2 hhv hev hsn hin hou es2 hz1 hz2 hz3 hni hno
          by_cases q3 : 2 * no ≤ ni
          · have d3 : decide (2 * (no : Int) ≤ (ni : Int)) = true := decide_eq_true (by omega)
            have hit : t.inner true = true := by rw [hinner]; exact decide_eq_true q3
            have hinn := Tr.pos_node (Tr.inner_node HHV.out hit)
            have HLF := Lib.hid (fun n => liftFalseN (t.side true) _ (w.drewN n) (at_drew HSS.out n) hinn (by have := HNS.out; omega))
            have hls : ((t.side true).lift false).size = (t.side true).size := Tr.lift_size hinn
            have HWT := Lib.hid (fun (n : Nat) (W : World) (q : Value) (hb : Below (w.drewN n).heap.size (w.drewN n) W) (hq : AtN W ((t.side true).lift false) q) => withN true t _ _ q W ((at_drew H.out n).below hb) hq HTN.out (by omega) (by have := HNS.out; omega))
            have hme : t.mend true = (t.with_ true ((t.side true).lift false)).lift true := by
              unfold Tr.mend
              rw [if_pos hit]; rfl
            have hwz := with_size_le (t := t) (s := (t.side true).lift false) (b := true)
            have HLT := Lib.hid (fun (W : World) (q : Value) (hq : AtN W (t.with_ true ((t.side true).lift false)) q) => liftTrueN _ q W hq (by rw [with_side HTN.out]; exact Tr.pos_node (by rw [hls]; exact Tr.node_pos HSN.out)) (by have := HNS.out; omega))
            rw [show bitI true = 1 from rfl] at HWT
            have HME := Lib.hid hme
            clear hit hinn hls hme hwz hinner q3
            go_upto_region 6 with (first | (with_reducible refine HLR.out.mono ?_; rintro e w' ⟨rfl, rfl⟩) | (with_reducible refine HLS0.out.mono ?_; rintro e w' ⟨rfl, rfl⟩))
            go_quiet (first | (with_reducible refine (HLI.out _).mono ?_; exact (fun e w' h => ⟨h.1, _, h.2⟩)) | (with_reducible refine (HLO.out _).mono ?_; exact (fun e w' h => ⟨h.1, _, h.2⟩)))
            go_wp2_with fail
            refine (HLF.out _).mono ?_
            rintro e w1 ⟨p1, rfl, h1, hb1'⟩
            obtain ⟨a1, rfl⟩ := h1.form
            have HW3 := Lib.hid (HWT.out _ _ _ hb1' h1)
            have B1 := Lib.hid hb1'
            clear h1 hb1' HLF HWT HLI HLO HLR HLS0
            go_wp2_with fail
            refine HW3.out.mono ?_
            rintro e w2 ⟨p2, rfl, h2, hb2'⟩
            obtain ⟨a2, rfl⟩ := h2.form
            have HL3 := Lib.hid (HLT.out _ _ h2)
            have B2 := Lib.hid hb2'
            clear h2 hb2' HW3 HLT
            go_wp2_with fail
            refine HL3.out.mono ?_
            rintro e w3 ⟨p3, rfl, h3, hb3'⟩
            obtain ⟨a3, rfl⟩ := h3.form
            have H3 := Lib.hid h3
            have B3 := Lib.hid hb3'
            clear h3 hb3' HL3
            go_wp2_with fail
            go_ret
            refine ⟨_, rfl, by rw [HEV.out, HME.out]; exact H3.out, ?_⟩
            exact dr_trans (B1.out.trans ((B2.out.mono B1.out.size).trans (B3.out.mono (Nat.le_trans B1.out.size B2.out.size))))
          · have d3 : decide (2 * (no : Int) ≤ (ni : Int)) = false := decide_eq_false (by omega)
            have hit : t.inner true = false := by rw [hinner]; exact decide_eq_false q3
            have hme : t.mend true = t.lift true := by
              unfold Tr.mend
              rw [if_neg (by rw [hit]; decide)]
            have HLT := Lib.hid (fun n => liftTrueN t _ (w.drewN n) (at_drew H.out n) HSN.out (by omega))
            have HME := Lib.hid hme
            clear hit hme hinner q3
            go_upto_region 6 with (first | (with_reducible refine HLR.out.mono ?_; rintro e w' ⟨rfl, rfl⟩) | (with_reducible refine HLS0.out.mono ?_; rintro e w' ⟨rfl, rfl⟩))
            go_quiet (first | (with_reducible refine (HLI.out _).mono ?_; exact (fun e w' h => ⟨h.1, _, h.2⟩)) | (with_reducible refine (HLO.out _).mono ?_; exact (fun e w' h => ⟨h.1, _, h.2⟩)))
            go_wp2_with (refine (HLT.out _).mono ?_; rintro e w3 ⟨p3, rfl, h3, hb3'⟩; obtain ⟨a3, rfl⟩ := h3.form; have H3 := Lib.hid h3; have B3 := Lib.hid hb3'; clear h3 hb3')
            go_ret
            exact ⟨_, rfl, by rw [HEV.out, HME.out]; exact H3.out, dr_trans B3.out⟩
    | 2, hi, hv =>
      have hev : t.even = t := by
        unfold Tr.even
        rw [if_neg (by rw [show t.heavy false = false from hv 0 (by omega)]; decide), if_neg (by rw [show t.heavy true = false from hv 1 (by omega)]; decide)]
      have HEV := Lib.hid hev
      clear hv hev
      go_wp2
      go_ret
      exact ⟨_, rfl, by rw [HEV.out]; exact H.out, Below.refl _ _⟩
end Go.Proofs.YtfgppkmhjjnnnaaDoor
