/- For whatever capacity and row of steps law JournalFull answers true: a record that has no room, or is too long, is refused, and turns nothing; each that is kept takes its weight; what was handed in may be written over. No condition. -/
import Derived.Test.YtpllbojmonfeiaaJrnIn
import Derived.Test.YtpllbojmonfeiaaRefF
import Derived.Test.YtpllbojmonfeiaaRegionRel
import Derived.Test.YtpllbojmonfeiaaOpen
namespace Go.Proofs.Ytpllbojmonfeiaa.journalFull
open Go.ChangeShapes Go.WideShapes Go.ChangeAt Go.RowKit Go.Proofs.Ytpllbojmonfeiaa Go.Proofs.Ytpllbojmonfeiaa.SumM
set_option linter.unusedVariables false
attribute [local go_sem] Oper.semAt_some
theorem frs_up {w W : World} {sv : Value} {xs : List (Int × List Nat)} (hb : Below w.heap.size w W) (h : Frs w.heap.size w sv xs) : Frs W.heap.size W sv xs := by
  rcases h.below hb with h | ⟨b, off, cap, e, hl, hc⟩
  · exact .inl h
  · exact .inr ⟨b, off, cap, e, Nat.lt_of_lt_of_le hl hb.size, fun j x hj => by
      obtain ⟨a, c, h1, h2, h3⟩ := hc j x hj
      exact ⟨a, c, h1, h2, h3.mono hb.size⟩⟩

/-- A row of rows that is one's own, its rows whosoever's. -/
theorem parts_row {n : Nat} {W : World} {rv : Value} {ys : List CX} (h3 : W.ownsRow n yssT 1 rv ys.length (ys.map Prod.snd)) (h4 : ∀ y ∈ ys, Sl encY W.heap.size W y.2 y.1) : Parts W.heap.size W rv (ys.map Prod.fst) := by
  rcases Nat.eq_zero_or_pos ys.length with h0 | h0
  · obtain ⟨a, c, hv⟩ := own_form h3
    rw [h0] at hv
    obtain rfl := List.eq_nil_of_length_eq_zero h0
    exact .inl ⟨rfl, a, c, hv⟩
  · rcases h3.2 with ⟨_, e⟩ | ⟨g, cap, cur, hv, hg, hcur, _⟩
    · omega
    · refine .inr ⟨g, 0, cap, by rw [List.length_map]; exact hv, (Array.getElem?_eq_some_iff.1 hcur).1, fun j l hj => ?_⟩
      rw [List.getElem?_map] at hj
      cases hy : ys[j]? with
      | none => rw [hy] at hj; cases hj
      | some y =>
        rw [hy] at hj
        cases hj
        rw [hv] at h3
        obtain ⟨g', hg', hc'⟩ := own_cell h3 (i := j) (u := y.2) (by rw [List.getElem?_map, hy]; rfl)
        cases hg'
        exact ⟨y.2, by rw [Nat.zero_add]; exact hc', h4 y (List.mem_of_getElem? hy)⟩
/-- The document's Same of what a journal has and of what was set together by hand. -/
theorem same_mix {n : Nat} {W : World} {sv rv : Value} {sa ra : Option Addr} {sn sc rn rc : Nat} {S S' : List Nat} {rs rs' : List (List Nat)} (h : HasAt n W sv rv S rs) (hS' : Sl encY W.heap.size W (.slice sa sn sc) S') (hP' : Parts W.heap.size W (.slice ra rn rc) rs') (hf : FewL S rs) (hf' : FewL S' rs') :
    Calls Try.prog 14 #[hasV sv rv, hasV (.slice sa sn sc) (.slice ra rn rc)] W fun e w' => e = .returned (.bool (decide (S = S') && decide (rs = rs'))) ∧ Below W.heap.size W w' := by
  have hS := Sl.of_owns h.1
  have hP := recs_parts h.2
  obtain ⟨a1, c1, rfl⟩ := hS.form
  obtain ⟨a3, c3, rfl⟩ := hP.form
  exact rsame_any none 0 0 none 0 0 0 0 0 0 none 0 0 none 0 0 0 0 0 0 a1 sa S.length c1 sn sc a3 ra rs.length c3 rn rc S S' rs rs' W hS hS' hP hP' hf.1 hf'.1 hf.2.1 hf'.2.1 hf.2.2 hf'.2.2

set_option maxRecDepth 100000 in
set_option maxHeartbeats 2000000 in
theorem walk (w : World) (a0 : Int) (w0 : (Lit.int .i64 a0).wf = true) (p1 : Option Addr) (n1 c1 : Nat) (l1 : List (Int × List Nat)) (S1 : Frs w.heap.size w (.slice p1 n1 c1) l1) (b1 : (∀ x ∈ l1, ∀ y ∈ x.2, y < 256) ∧ l1.length ≤ Go.maxLen) :
    Calls Try.prog 4 #[.int .i64 a0, .slice p1 n1 c1] w fun e w' => e = .returned (.bool true) ∧ Below w.heap.size w w' := by
  obtain rfl := S1.len
  have HS := Lib.hid S1
  have HOK := Lib.hid b1.1
  have HSM := Lib.hid (fun (W : World) (hb : Below w.heap.size w W) => jsmall_any p1 c1 l1 b1.2 W (frs_up hb S1))
  have hmx : l1.length ≤ 9223372036854775807 := by have := b1.2; unfold Go.maxLen at this; omega
  obtain ⟨n, hn⟩ : ∃ n, l1.length = n := ⟨_, rfl⟩
  have HN := Lib.hid hn
  rw [hn] at HS HSM hmx ⊢
  clear hn S1 b1
  obtain ⟨i1, hi1, hy0, hy1, hy2⟩ := info_parts infoB
  go_enter Try.func4, Try.ntmps4
  go_wp2_with fail
  refine (jAlive_any _).mono ?_
  rintro e w1 ⟨rfl, hb1⟩
  have HSM1 := Lib.hid (HSM.out w1 hb1)
  clear HSM
  go_wp2_with fail
  refine HSM1.out.mono ?_
  rintro e w2 ⟨sb, rfl, hsm, hb2⟩
  have hB2 := hb1.trans (hb2.mono hb1.size)
  clear hb1 hb2 HSM1
  cases sb with
  | false =>
    go_wp2
    go_ret
    exact ⟨rfl, hB2⟩
  | true =>
    obtain ⟨h30, hdl⟩ := hsm rfl
    have HDL := Lib.hid hdl
    clear hsm hdl h30
    have hw2 := hB2.size
    have HB2 := Lib.hid hB2
    go_wp2_with fail
    refine (new_any a0 w2).mono ?_
    rintro e w3 ⟨rfl, d3, hb3⟩
    have hB3 := HB2.out.trans (hb3.mono hw2)
    have HNW := Lib.hid (new_st (w := w) hB3 d3 (fun k hk => by simp at hk; omega) rfl rfl rfl (by show 16 ≤ 9223372036854775807; decide))
    have hz3 := hB3.size
    clear hB2 hB3 d3 hb3
    go_wp2_with fail
    refine HNW.out.mono ?_
    rintro e w4 (⟨_, rfl, own4, D4, hst4, _, _, hc4, hl4⟩ | ⟨hc16, rfl, hbw, own', x', y', d', hcp⟩)
    rotate_left
    · have HCP := Lib.hid (capacity_any w4 d'.blk)
      rw [hcp] at HCP
      have hcn : (newD a0).cap < 16 := hc16
      obtain ⟨C, hC⟩ : ∃ C, (newD a0).cap = C := ⟨_, rfl⟩
      rw [hC] at HCP hcn
      have hci : (C : Int) < 16 := by omega
      clear d' hcp hC HNW hc16
      go_wp2_with fail
      refine HCP.out.mono ?_
      rintro e w' ⟨rfl, rfl⟩
      go_wp2
      go_ret
      exact ⟨rfl, hbw⟩
    have hfu : FulI w w3.heap.size w2.heap.size D4.cap w4 := ⟨own4, D4, 0, 16, hst4, rfl, by have h : 9223372036854775807 ≤ D4.left + 16 := hl4; exact h⟩
    have HFU := Lib.hid hfu
    obtain ⟨C, hC⟩ : ∃ C, D4.cap = C := ⟨_, rfl⟩
    rw [hC] at HFU
    clear hfu hst4 hc4 hl4 HNW hC
    go_wp2
    go_loopw [37] (fun i wr => ∃ k : Nat, k ≤ n ∧ i = .int .i64 k ∧ FulI w w3.heap.size w2.heap.size C wr) (fun i _ => n - (intOf i).toNat)
    case atStart => exact ⟨0, Nat.zero_le _, rfl, HFU.out⟩
    case round =>
      obtain ⟨k, hk, rfl, hP⟩ := hrel
      obtain ⟨wo, hwo⟩ : ∃ wo, wo = wr := ⟨_, rfl⟩
      subst hwo
      by_cases hlt : k < n
      rotate_left
      · obtain rfl : k = n := by omega
        have hki : ¬ (k : Int) < k := by omega
        obtain ⟨_, _, _, _, hst, _⟩ := hP
        have HBL := Lib.hid hst.bel
        clear hst
        go_wp2
        go_ret
        exact ⟨rfl, HBL.out⟩
      obtain ⟨own, D, c, f, hst, hcap, hlf⟩ := hP
      obtain ⟨x, hx⟩ : ∃ x, l1[k]? = some x := ⟨l1[k]'(by rw [HN.out]; exact hlt), List.getElem?_eq_getElem _⟩
      obtain ⟨xb, off, va, vc, rfl, hxb, e0, e1, eS⟩ := HS.out.at_ hx
      have hxm := List.mem_of_getElem? hx
      have hbr := hst.bel
      have c0 := (hbr.cell (p := ⟨xb, off + k * 2, none⟩) hxb).trans e0
      have c1' := (hbr.cell (p := ⟨xb, off + k * 2 + 1, none⟩) hxb).trans e1
      have hki : (k : Int) < n := by omega
      have hk0 : (0 : Int) ≤ k := by omega
      obtain ⟨kd, dt⟩ := x
      have hq20 : dt.length ≤ 20000 := Nat.le_trans (sum_mem (List.mem_map.2 ⟨(kd, dt), hxm, rfl⟩)) HDL.out
      have HDB : Hid (Bytes dt) := Lib.hid ⟨by omega, HOK.out (kd, dt) hxm⟩
      dsimp only at eS c0 c1'
      obtain ⟨q, hq⟩ : ∃ q, dt.length = q := ⟨_, rfl⟩
      rw [hq] at c1' eS hq20
      have HQ := Lib.hid hq
      obtain ⟨hfc1, hfc2, hfc3⟩ := cnt_le hst.dok hst.ok
      have hA : Below wo.heap.size wo (wo.alloc (.cells #[.int .i64 kd, .slice va q vc] 43)) := (Below.refl _ _).alloc (Nat.le_refl _) _
      obtain ⟨wA, hwA⟩ : ∃ wA, wo.alloc (.cells #[.int .i64 kd, .slice va q vc] 43) = wA := ⟨_, rfl⟩
      have hEA : wA.heap[wo.heap.size]? = some (.cells #[.int .i64 kd, .slice va q vc] 43 (0, 0)) := by rw [← hwA]; exact World.alloc_heap_new _ _
      rw [hwA] at hA
      have hAz : wo.heap.size < wA.heap.size := (Array.getElem?_eq_some_iff.1 hEA).1
      have hstA := hst.below hA
      have hRM := room_st hstA
      rw [hcap] at hRM
      have HRM := Lib.hid hRM
      have HST := Lib.hid hstA
      have HWA := Lib.hid hwA
      have HEA := Lib.hid hEA
      have HES := Lib.hid eS
      have HLO : Hid (∀ k ∈ w3.heap.size :: own, k < wo.heap.size) := Lib.hid (fun k hk => by
        rcases List.mem_cons.1 hk with rfl | hk
        · exact hst.jrn.lt
        · obtain ⟨x, y, d⟩ := hst.dev; exact d.lt k hk)
      have HCAP := Lib.hid hcap
      clear hx e0 e1 eS hxm hbr hA hEA hwA hq hstA hRM hst HFU hcap
      go_wp2_with fail
      rw [HWA.out]
      refine HRM.out.mono ?_
      rintro e wB ⟨rfl, hbB⟩
      have hstB := HST.out.below hbB
      have HTU := Lib.hid (by obtain ⟨x, y, d⟩ := hstB.dev; exact turned_any wB d.blk : Calls Try.prog 13 #[.pointer (some ⟨w2.heap.size, 0, none⟩)] wB _)
      have HHS := Lib.hid (has_st hstB)
      have HFW := Lib.hid (few_of hstB.row)
      obtain ⟨SN, hSN⟩ : ∃ SN, snapL (D.row ((0 : Nat) : Int)) = SN := ⟨_, rfl⟩
      obtain ⟨RC, hRC⟩ : ∃ RC, recsL (D.row ((0 : Nat) : Int)) = RC := ⟨_, rfl⟩
      rw [hSN, hRC] at HHS HFW
      have HSN := Lib.hid hSN
      have HRC := Lib.hid hRC
      have HSTB := Lib.hid hstB
      have hEB := (hbB.block _ hAz).trans HEA.out
      have HEB := Lib.hid hEB
      have hBz : wA.heap.size ≤ wB.heap.size := hbB.size
      clear hstB hSN hRC hbB hEB HRM HST HEA HWA
      go_wp2_with fail
      refine HTU.out.mono ?_
      rintro e w' ⟨rfl, rfl⟩
      go_wp2_with fail
      refine HHS.out.mono ?_
      rintro e w5 ⟨sv, rv, rfl, hh, hb5⟩
      have hst5 := HSTB.out.below hb5
      have hE5 := (hb5.block _ (by omega)).trans HEB.out
      have hb6 : Below w5.heap.size w5 (w5.alloc (.cells (hasC sv rv) rjT)) := (Below.refl _ _).alloc (Nat.le_refl _) _
      have hX6 : (w5.alloc (.cells (hasC sv rv) rjT)).heap[w5.heap.size]? = some (.cells (hasC sv rv) rjT (0, 0)) := World.alloc_heap_new w5 _
      have hz5 := hb5.size
      obtain ⟨sa, sc, rfl⟩ := own_form hh.1
      obtain ⟨ra, rc, rfl⟩ := (recs_parts hh.2).form
      obtain ⟨w6, hw6⟩ : ∃ w6, w5.alloc (.cells (hasC (.slice sa SN.length sc) (.slice ra RC.length rc)) rjT) = w6 := ⟨_, rfl⟩
      rw [hw6] at hb6 hX6
      have hz6 : w5.heap.size < w6.heap.size := (Array.getElem?_eq_some_iff.1 hX6).1
      have hE6 := (hb6.block _ (by omega)).trans hE5
      have o0 : w5.cell? ⟨wo.heap.size, 0, none⟩ = some (.int .i64 kd) := cell_of_row w5 _ 0 _ _ _ hE5
      have o1 : w5.cell? ⟨wo.heap.size, 1, none⟩ = some (.slice va q vc) := cell_of_row w5 _ 1 _ _ _ hE5
      have hne5 : w5.heap.size ≠ wo.heap.size := by omega
      have hlt5 : wo.heap.size < w5.heap.size := by omega
      have p1 : (w5.alloc (.cells (hasC (.slice sa SN.length sc) (.slice ra RC.length rc)) rjT)).cell? ⟨wo.heap.size, 1, none⟩ = some (.slice va q vc) := (World.cell?_of_block (a := ⟨wo.heap.size, 1, none⟩) (Below.heap_alloc _ _ _ (by show wo.heap.size < w5.heap.size; omega))).trans o1
      have hst6 := hst5.below hb6
      have HH6 := Lib.hid (hh.below hb6)
      have HX6 := Lib.hid hX6
      have HE6 := Lib.hid hE6
      have HST6 := Lib.hid hst6
      have hzw6 := hst6.bel.size
      have HW6 := Lib.hid hw6
      have HCY := Lib.hid (copyY_any va q vc dt (by rw [HQ.out]; omega) w6 ((HES.out.below hst6.bel).mono hst6.bel.size))
      rw [HQ.out] at HCY
      clear hh hb5 hst5 hE5 hb6 hX6 hE6 hw6 hst6 HTU HHS HSTB HEB
      go_wp2_with fail
      rw [HW6.out]
      refine HCY.out.mono ?_
      rintro e w7 ⟨mv, rfl, hmv, hb7⟩
      obtain ⟨ma, mc, rfl⟩ := own_form hmv
      have hst7 := HST6.out.below hb7
      have hS7 : Sl encY w7.heap.size w7 (.slice ma q mc) dt := Sl.of_owns (by rw [HQ.out]; exact hmv)
      have HAP := Lib.hid (append_all hst7 ma mc dt HDB.out (by rw [HQ.out]; exact hS7) (by rw [HQ.out]; omega))
      rw [HQ.out] at HAP
      have HMV := Lib.hid hmv
      have HST7 := Lib.hid hst7
      have HB7 := Lib.hid hb7
      have hz7 := hb7.size
      clear hmv hb7 hst7 hS7 o0 o1 HCY HST6 HW6
      go_wp2_with fail
      refine HAP.out.mono ?_
      rintro e w8 ⟨er, own8, D8, c8, f8, rfl, hst8, hb8, hs8, hcs⟩
      rw [HQ.out] at hcs
      have hmlt : ∀ g, (Value.slice ma q mc).ownBlock = some g → w6.heap.size ≤ g ∧ g < w7.heap.size := fun g hg => World.ownsRow.lt HMV.out g hg
      have hM8 : w8.ownsRow w6.heap.size 5 1 (.slice ma q mc) q (dt.map encY) := own_butG HMV.out hb8 (fun g hg hm => by
        have h1 := (hmlt g hg).1
        have h2 := HLO.out g hm
        omega)
      have hkp8 : ∀ j, j < w6.heap.size → wo.heap.size ≤ j → w8.heap[j]? = w6.heap[j]? := fun j h1 h2 => (hb8.block j (by omega) (fun hm => by have := HLO.out j hm; omega)).trans (HB7.out.block j h1)
      have HKP8 := Lib.hid hkp8
      have hInc : IncJ w6.heap.size (.slice ma q mc) q w8 w8 := IncJ.start HDB.out.2 HQ.out hM8
      have HIN := Lib.hid hInc
      have HST8 := Lib.hid hst8
      have HML := Lib.hid hmlt
      have HCS := Lib.hid hcs
      have HS8 := Lib.hid hs8
      have hz8 := hb8.size
      clear hst8 hb8 hs8 hcs hmlt hM8 hkp8 hInc HAP HMV HST7 HB7
      go_wp2
      go_loopw [55] (fun i wr => ∃ j : Nat, j ≤ q ∧ i = .int .i64 j ∧ IncJ w6.heap.size (.slice ma q mc) q w8 wr) (fun i _ => q - (intOf i).toNat)
      case atStart => exact ⟨0, Nat.zero_le _, rfl, HIN.out⟩
      case round =>
        obtain ⟨j, hj, rfl, hI⟩ := hrel
        by_cases hjq : j < q
        · obtain ⟨g, y, rfl, hy, cg, fg, hnx⟩ := hI.step hjq
          obtain ⟨z, hzl, hz1, hz2⟩ := incr8J y
          have HNX := Lib.hid (hnx z hzl)
          have hji : (j : Int) < q := by omega
          have hj0 : (0 : Int) ≤ j := by omega
          have hmc : q ≤ mc := by
            rcases hI.row with ⟨xs, _, _, hr⟩
            rcases hr.2 with ⟨e, _⟩ | ⟨_, _, _, e, _, _, hn, _⟩
            · cases e
            · cases e; exact hn
          clear hI hnx HIN
          go_wp2
          exact ⟨⟨j + 1, by omega, by go_num, by first | exact HNX.out | simpa [hz1, hz2] using HNX.out⟩, by simp [intOf]; omega⟩
        · obtain rfl : j = q := by omega
          have hji : ¬ (j : Int) < j := by omega
          have hbi := hI.but
          have hzi := hI.size
          have hst9 : St w wr own8 w3.heap.size w2.heap.size D8 0 1 c8 f8 := HST8.out.but hbi (fun g hg hm => by
            have h1 := HML.out g (by simpa using hm)
            rcases HS8.out g hg with h2 | h2
            · have := HLO.out g (List.mem_cons_of_mem _ h2); omega
            · omega) (fun hm => by
            have h1 := HML.out _ (by simpa using hm)
            have := HLO.out w3.heap.size (List.mem_cons_self ..); omega) (fun g hg => by
            have h1 := HML.out g (by simpa using hg)
            omega)
          have hkp : ∀ i, i < w6.heap.size → wo.heap.size ≤ i → wr.heap[i]? = w6.heap[i]? := fun i h1 h2 => (hbi.block i (by omega) (fun hm => by have h3 := HML.out i (by simpa using hm); omega)).trans (HKP8.out i h1 h2)
          have hE9 := (hkp _ (by omega) (Nat.le_refl _)).trans HE6.out
          have hX9 := (hkp _ hz6 (by omega)).trans HX6.out
          have hH9 := HH6.out.keep (W' := wr) (by omega) (fun i h1 h2 => hkp i h2 (by omega))
          have o0 : wr.cell? ⟨wo.heap.size, 0, none⟩ = some (.int .i64 kd) := cell_of_row wr _ 0 _ _ _ hE9
          have o1 : wr.cell? ⟨wo.heap.size, 1, none⟩ = some (.slice va j vc) := cell_of_row wr _ 1 _ _ _ hE9
          obtain ⟨s, hs⟩ : ∃ s, j + 7 = s := ⟨_, rfl⟩
          have HWG := Lib.hid (jweight_any j s (by omega) hs wr)
          have hrw := refWeight_any (j : Int) wr (by omega)
          rw [show max (j : Int) 0 + 7 = (s : Int) from by omega] at hrw
          have HRW := Lib.hid hrw
          have HST9 := Lib.hid hst9
          have HE9 := Lib.hid hE9
          have HX9 := Lib.hid hX9
          have HH9 := Lib.hid hH9
          have hcs := HCS.out
          have HSS := Lib.hid hs
          clear hI hbi hzi hst9 hkp hE9 hX9 hH9 hrw HIN HST8 HKP8 HCS hs
          go_wp2_with fail
          refine HWG.out.mono ?_
          rintro e w' ⟨rfl, rfl⟩
          go_wp2_with fail
          refine HRW.out.mono ?_
          rintro e w' ⟨rfl, rfl⟩
          by_cases h4 : 4096 < j
          · rw [if_pos h4] at hcs
            obtain ⟨rfl, rfl, rfl, rfl⟩ := hcs
            have h4i : (4096 : Int) < j := by omega
            go_wp2_with fail
            have hXlt : w5.heap.size < wr.heap.size := (Array.getElem?_eq_some_iff.1 HX9.out).1
            refine region_rel (l := _) (by kernel_rfl) (by decide +kernel) (fun v => { tmps := #[Value.int IntKind.i64 a0, Value.slice (some ⟨xb, off, none⟩) n c1, undef, undef, u4, Value.pointer (some ⟨w2.heap.size, 0, none⟩), Value.pointer (some ⟨w3.heap.size, 0, none⟩), Value.int IntKind.i64 0, undef, Value.pointer (some ⟨wo.heap.size, 0, none⟩), Value.int IntKind.i64 ((C : Int) - (f8 : Int)), Value.int IntKind.i64 (D8.turned : Int), Value.pointer (some ⟨w5.heap.size, 0, none⟩), Value.slice ma j mc, Value.int IntKind.i64 2, u15, Value.int IntKind.i64 (s : Int), Value.int IntKind.i64 2, Value.bool true, Value.bool false, Value.slice (some ⟨xb, off, none⟩) n c1, Value.bool true, Value.bool false, Value.int IntKind.i64 a0, Value.pointer (some ⟨w2.heap.size, 0, none⟩), Value.tuple #[Value.pointer (some ⟨w3.heap.size, 0, none⟩), Value.int IntKind.i64 0], Value.pointer (some ⟨w2.heap.size, 0, none⟩), Value.tuple #[Value.pointer (some ⟨w3.heap.size, 0, none⟩), Value.int IntKind.i64 0], Value.pointer (some ⟨w3.heap.size, 0, none⟩), Value.int IntKind.i64 0, Value.int IntKind.i64 0, Value.bool false, undef, undef, undef, Value.slice (some ⟨xb, off, none⟩) n c1, Value.int IntKind.i64 (n : Int), Value.int IntKind.i64 (k : Int), Value.bool true, Value.pointer (some ⟨xb, off + k * 2, none⟩), Value.agg #[Value.int IntKind.i64 kd, Value.slice va j vc], Value.pointer (some ⟨w3.heap.size, 0, none⟩), Value.int IntKind.i64 ((C : Int) - (f8 : Int)), Value.pointer (some ⟨w2.heap.size, 0, none⟩), Value.int IntKind.i64 (D8.turned : Int), Value.pointer (some ⟨w3.heap.size, 0, none⟩), hasV (Value.slice sa SN.length sc) (Value.slice ra RC.length rc), Value.pointer (some ⟨wo.heap.size, 1, none⟩), Value.slice va j vc, Value.slice ma j mc, Value.pointer (some ⟨w3.heap.size, 0, none⟩), Value.slice ma j mc, Value.int IntKind.i64 2, Value.slice ma j mc, Value.int IntKind.i64 (j : Int), Value.int IntKind.i64 (j : Int), Value.bool false, u57, u58, u59, u60, u61, u62, u63, u64, Value.pointer (some ⟨wo.heap.size, 1, none⟩), Value.slice va j vc, Value.int IntKind.i64 (j : Int), Value.int IntKind.i64 (s : Int), Value.int IntKind.i64 (s : Int), Value.pointer (some ⟨wo.heap.size, 1, none⟩), Value.slice va j vc, Value.int IntKind.i64 (j : Int), Value.int IntKind.i64 (s : Int), Value.bool false, Value.pointer (some ⟨wo.heap.size, 1, none⟩), Value.slice va j vc, Value.int IntKind.i64 (j : Int), Value.bool true, Value.bool true, undef, undef, undef, Value.bool true, Value.pointer (some ⟨wo.heap.size, 1, none⟩), Value.slice va j vc, Value.int IntKind.i64 (j : Int), Value.bool true, v 0, v 1, v 2, v 3, v 4, v 5, v 6, v 7, v 8, v 9, v 10, v 11, v 12, v 13, v 14, v 15, u104, u105, u106, u107, u108, u109, u110, u111, u112, u113, u114, u115, u116, u117, u118, u119, u120, u121, u122, u123, u124, u125, u126, u127, u128], defers := [] }) (fun W => Below wr.heap.size wr W) (fun i' u W => match i' with
              | 0 => u = .int .i64 2
              | 1 => u = .int .i64 2
              | 2 => u = .bool false
              | 3 => u = .bool false
              | 4 => u = .pointer (some ⟨w2.heap.size, 0, none⟩)
              | 5 => u = .int .i64 (D8.turned : Int)
              | 6 => u = .int .i64 (D8.turned : Int)
              | 7 => u = .bool false
              | 8 => u = .bool false
              | 9 => u = .bool false
              | 10 => u = .pointer (some ⟨w3.heap.size, 0, none⟩)
              | 11 => ∃ m sv rv, u = hasV sv rv ∧ HasAt m W sv rv SN RC
              | 12 => u = hasV (.slice sa SN.length sc) (.slice ra RC.length rc)
              | 13 => u = .bool true
              | 14 => u = .bool false
              | 15 => u = .bool false
              | _ => True) (fun A B => Below A.heap.size A B) ?hC ?hV (fun i' => [u88, u89, u90, u91, u92, u93, u94, u95, u96, u97, u98, u99, u100, u101, u102, u103].getD i' undef) ?h0 ?hop ?hend
            case hC => exact fun A B h h2 => h.trans (h2.mono h.size)
            case h0 => exact (Below.refl _ _).drew
            case hV =>
              intro i' u A B h hx
              match i', h with
              | 11, ⟨m, sv, rv, e, h⟩ => exact ⟨m, sv, rv, e, h.below hx⟩
              | 0, h => exact h
              | 1, h => exact h
              | 2, h => exact h
              | 3, h => exact h
              | 4, h => exact h
              | 5, h => exact h
              | 6, h => exact h
              | 7, h => exact h
              | 8, h => exact h
              | 9, h => exact h
              | 10, h => exact h
              | 12, h => exact h
              | 13, h => exact h
              | 14, h => exact h
              | 15, h => exact h
              | n + 16, h => trivial
            case hop =>
              simp only [AllDo]
              refine ⟨?o0, ?o1, ?o2, ?o3, ?o4, ?o5, ?o6, ?o7, ?o8, ?o9, ?o10, ?o11, ?o12, ?o13, ?o14, ?o15, trivial⟩
              all_goals intro v W hc hd Q hQ
              all_goals simp [Region.binds] at hd
              case o0 => rw [if_pos (show Region.wanted _ _ = true from rfl)]; go_wp2; first | exact ⟨_, rfl, Below.refl _ _, rfl⟩ | (refine ⟨_, ?_, Below.refl _ _, rfl⟩; simp [updV, hd]) | exact ⟨by simp_all [updV], Below.refl _ _⟩
              case o1 => rw [if_pos (show Region.wanted _ _ = true from rfl)]; go_wp2; first | exact ⟨_, rfl, Below.refl _ _, rfl⟩ | (refine ⟨_, ?_, Below.refl _ _, rfl⟩; simp [updV, hd]) | exact ⟨by simp_all [updV], Below.refl _ _⟩
              case o2 => rw [if_pos (show Region.wanted _ _ = true from rfl)]; go_wp2; first | exact ⟨_, rfl, Below.refl _ _, rfl⟩ | (refine ⟨_, ?_, Below.refl _ _, rfl⟩; simp [updV, hd]) | exact ⟨by simp_all [updV], Below.refl _ _⟩
              case o3 => rw [if_pos (show Region.wanted _ _ = true from rfl)]; go_wp2; first | exact ⟨_, rfl, Below.refl _ _, rfl⟩ | (refine ⟨_, ?_, Below.refl _ _, rfl⟩; simp [updV, hd]) | exact ⟨by simp_all [updV], Below.refl _ _⟩
              case o8 => rw [if_pos (show Region.wanted _ _ = true from rfl)]; go_wp2; first | exact ⟨_, rfl, Below.refl _ _, rfl⟩ | (refine ⟨_, ?_, Below.refl _ _, rfl⟩; simp [updV, hd]) | exact ⟨by simp_all [updV], Below.refl _ _⟩
              case o9 => rw [if_pos (show Region.wanted _ _ = true from rfl)]; go_wp2; first | exact ⟨_, rfl, Below.refl _ _, rfl⟩ | (refine ⟨_, ?_, Below.refl _ _, rfl⟩; simp [updV, hd]) | exact ⟨by simp_all [updV], Below.refl _ _⟩
              case o15 => rw [if_pos (show Region.wanted _ _ = true from rfl)]; go_wp2; first | exact ⟨_, rfl, Below.refl _ _, rfl⟩ | (refine ⟨_, ?_, Below.refl _ _, rfl⟩; simp [updV, hd]) | exact ⟨by simp_all [updV], Below.refl _ _⟩
              case o4 =>
                first | rw [hd] | (obtain ⟨h1, hd⟩ := hd; rw [hd]) | (obtain ⟨h1, h2, hd⟩ := hd; rw [hd]) | (obtain ⟨⟨h1, h2⟩, hd⟩ := hd; rw [hd])
                rw [if_pos (show Region.wanted _ _ = true from rfl)]
                go_wp2
                first | exact ⟨_, rfl, Below.refl _ _, rfl⟩ | (refine ⟨_, ?_, Below.refl _ _, rfl⟩; simp [updV, hd]) | exact ⟨by simp_all [updV], Below.refl _ _⟩
              case o6 =>
                first | rw [hd] | (obtain ⟨h1, hd⟩ := hd; rw [hd]) | (obtain ⟨h1, h2, hd⟩ := hd; rw [hd]) | (obtain ⟨⟨h1, h2⟩, hd⟩ := hd; rw [hd])
                rw [if_pos (show Region.wanted _ _ = true from rfl)]
                go_wp2
                first | exact ⟨_, rfl, Below.refl _ _, rfl⟩ | (refine ⟨_, ?_, Below.refl _ _, rfl⟩; simp [updV, hd]) | exact ⟨by simp_all [updV], Below.refl _ _⟩
              case o7 =>
                first | rw [hd] | (obtain ⟨h1, hd⟩ := hd; rw [hd]) | (obtain ⟨h1, h2, hd⟩ := hd; rw [hd]) | (obtain ⟨⟨h1, h2⟩, hd⟩ := hd; rw [hd])
                rw [if_pos (show Region.wanted _ _ = true from rfl)]
                go_wp2
                first | exact ⟨_, rfl, Below.refl _ _, rfl⟩ | (refine ⟨_, ?_, Below.refl _ _, rfl⟩; simp [updV, hd]) | exact ⟨by simp_all [updV], Below.refl _ _⟩
              case o10 =>
                first | rw [hd] | (obtain ⟨h1, hd⟩ := hd; rw [hd]) | (obtain ⟨h1, h2, hd⟩ := hd; rw [hd]) | (obtain ⟨⟨h1, h2⟩, hd⟩ := hd; rw [hd])
                rw [if_pos (show Region.wanted _ _ = true from rfl)]
                go_wp2
                first | exact ⟨_, rfl, Below.refl _ _, rfl⟩ | (refine ⟨_, ?_, Below.refl _ _, rfl⟩; simp [updV, hd]) | exact ⟨by simp_all [updV], Below.refl _ _⟩
              case o14 =>
                first | rw [hd] | (obtain ⟨h1, hd⟩ := hd; rw [hd]) | (obtain ⟨h1, h2, hd⟩ := hd; rw [hd]) | (obtain ⟨⟨h1, h2⟩, hd⟩ := hd; rw [hd])
                rw [if_pos (show Region.wanted _ _ = true from rfl)]
                go_wp2
                first | exact ⟨_, rfl, Below.refl _ _, rfl⟩ | (refine ⟨_, ?_, Below.refl _ _, rfl⟩; simp [updV, hd]) | exact ⟨by simp_all [updV], Below.refl _ _⟩
              case o5 =>
                obtain ⟨h1, hd⟩ := hd
                rw [hd]
                have HTU := Lib.hid (by obtain ⟨x, y, d⟩ := (HST9.out.below hc).dev; exact turned_any W d.blk : Calls Try.prog 13 #[.pointer (some ⟨w2.heap.size, 0, none⟩)] W _)
                rw [if_pos (show Region.wanted _ _ = true from rfl)]
                go_wp2_with fail
                refine HTU.out.mono ?_
                rintro e W' ⟨rfl, rfl⟩
                go_wp2
                first | (refine ⟨_, ?_, Below.refl _ _, rfl⟩; simp [updV, hd, h1]) | exact ⟨by simp_all [updV], Below.refl _ _⟩
              case o11 =>
                obtain ⟨h1, hd⟩ := hd
                rw [hd]
                have HHS := Lib.hid (has_st (HST9.out.below hc))
                rw [HSN.out, HRC.out] at HHS
                rw [if_pos (show Region.wanted _ _ = true from rfl)]
                go_wp2_with fail
                refine HHS.out.mono ?_
                rintro e W' ⟨sv, rv, rfl, hh, hb'⟩
                go_wp2
                refine ⟨hasV sv rv, ?_, hb', _, sv, rv, rfl, hh⟩
                simp [updV, hd, h1]
              case o12 =>
                rw [hd]
                have rW := (hc.block w5.heap.size hXlt).trans HX9.out
                have k0 : W.cell? ⟨w5.heap.size, 0, none⟩ = some (.slice none 0 0) := cell_of_row W _ 0 _ _ _ rW
                have k1 : W.cell? ⟨w5.heap.size, 1, none⟩ = some (.slice none 0 0) := cell_of_row W _ 1 _ _ _ rW
                have k2 : W.cell? ⟨w5.heap.size, 2, none⟩ = some (.int .i64 0) := cell_of_row W _ 2 _ _ _ rW
                have k3 : W.cell? ⟨w5.heap.size, 3, none⟩ = some (.int .i64 0) := cell_of_row W _ 3 _ _ _ rW
                have k4 : W.cell? ⟨w5.heap.size, 4, none⟩ = some (.int .u64 0) := cell_of_row W _ 4 _ _ _ rW
                have k5 : W.cell? ⟨w5.heap.size, 5, none⟩ = some (.slice sa SN.length sc) := cell_of_row W _ 5 _ _ _ rW
                have k6 : W.cell? ⟨w5.heap.size, 6, none⟩ = some (.slice ra RC.length rc) := cell_of_row W _ 6 _ _ _ rW
                have k7 : W.cell? ⟨w5.heap.size, 7, none⟩ = some (.int .i64 0) := cell_of_row W _ 7 _ _ _ rW
                clear rW
                rw [if_pos (show Region.wanted _ _ = true from rfl)]
                go_wp2
                first | exact ⟨_, rfl, Below.refl _ _, rfl⟩ | (refine ⟨_, ?_, Below.refl _ _, rfl⟩; simp [updV, hd]) | exact ⟨by simp_all [updV], Below.refl _ _⟩
              case o13 =>
                obtain ⟨⟨m, sv, rv, h1, h2⟩, h3, _, hd⟩ := hd
                rw [hd]
                have HSM := Lib.hid (same_has h2 (HH9.out.below hc) HFW.out HFW.out)
                rw [decide_eq_true rfl, decide_eq_true rfl] at HSM
                rw [h1]
                rw [if_pos (show Region.wanted _ _ = true from rfl)]
                go_wp2_with fail
                refine HSM.out.mono ?_
                rintro e W' ⟨rfl, hb'⟩
                go_wp2
                refine ⟨.bool true, ?_, hb', rfl⟩
                simp [updV, h1, h3, hd]
            case hend =>
              intro v W hc hv
              have h15 : v 15 = .bool false := hv 15 (by decide)
              have HFU9 : Hid (FulI w w3.heap.size w2.heap.size C W) := Lib.hid ⟨own8, D8, c8, f8, HST9.out.below hc, HCAP.out, hlf⟩
              clear hv hc
              dsimp only
              rw [h15]
              go_wp2_with fail
              go_roundw
              case rel => first | exact ⟨k + 1, hlt, by go_num, HFU9.out⟩ | ((repeat apply Exists.intro); exact ⟨⟨k + 1, hlt, by go_num, HFU9.out⟩, rfl⟩)
              case measure => simp [intOf]; omega

          · rw [if_neg h4] at hcs
            have h4i : ¬ (4096 : Int) < j := by omega
            by_cases hfl : D.cap < f + (j + 7)
            · rw [if_pos hfl] at hcs
              obtain ⟨rfl, rfl, rfl, rfl⟩ := hcs
              have hwi : (C : Int) - (f8 : Nat) < (s : Nat) := by
                have h1 := HCAP.out
                have h2 := HSS.out
                omega
              go_wp2_with fail
              have hXlt : w5.heap.size < wr.heap.size := (Array.getElem?_eq_some_iff.1 HX9.out).1
              refine region_rel (l := _) (by kernel_rfl) (by decide +kernel) (fun v => { tmps := #[Value.int IntKind.i64 a0, Value.slice (some ⟨xb, off, none⟩) n c1, undef, undef, u4, Value.pointer (some ⟨w2.heap.size, 0, none⟩), Value.pointer (some ⟨w3.heap.size, 0, none⟩), Value.int IntKind.i64 0, undef, Value.pointer (some ⟨wo.heap.size, 0, none⟩), Value.int IntKind.i64 ((C : Int) - (f8 : Int)), Value.int IntKind.i64 (D8.turned : Int), Value.pointer (some ⟨w5.heap.size, 0, none⟩), Value.slice ma j mc, Value.int IntKind.i64 6, u15, Value.int IntKind.i64 (s : Int), Value.int IntKind.i64 6, Value.bool true, Value.bool false, Value.slice (some ⟨xb, off, none⟩) n c1, Value.bool true, Value.bool false, Value.int IntKind.i64 a0, Value.pointer (some ⟨w2.heap.size, 0, none⟩), Value.tuple #[Value.pointer (some ⟨w3.heap.size, 0, none⟩), Value.int IntKind.i64 0], Value.pointer (some ⟨w2.heap.size, 0, none⟩), Value.tuple #[Value.pointer (some ⟨w3.heap.size, 0, none⟩), Value.int IntKind.i64 0], Value.pointer (some ⟨w3.heap.size, 0, none⟩), Value.int IntKind.i64 0, Value.int IntKind.i64 0, Value.bool false, undef, undef, undef, Value.slice (some ⟨xb, off, none⟩) n c1, Value.int IntKind.i64 (n : Int), Value.int IntKind.i64 (k : Int), Value.bool true, Value.pointer (some ⟨xb, off + k * 2, none⟩), Value.agg #[Value.int IntKind.i64 kd, Value.slice va j vc], Value.pointer (some ⟨w3.heap.size, 0, none⟩), Value.int IntKind.i64 ((C : Int) - (f8 : Int)), Value.pointer (some ⟨w2.heap.size, 0, none⟩), Value.int IntKind.i64 (D8.turned : Int), Value.pointer (some ⟨w3.heap.size, 0, none⟩), hasV (Value.slice sa SN.length sc) (Value.slice ra RC.length rc), Value.pointer (some ⟨wo.heap.size, 1, none⟩), Value.slice va j vc, Value.slice ma j mc, Value.pointer (some ⟨w3.heap.size, 0, none⟩), Value.slice ma j mc, Value.int IntKind.i64 6, Value.slice ma j mc, Value.int IntKind.i64 (j : Int), Value.int IntKind.i64 (j : Int), Value.bool false, u57, u58, u59, u60, u61, u62, u63, u64, Value.pointer (some ⟨wo.heap.size, 1, none⟩), Value.slice va j vc, Value.int IntKind.i64 (j : Int), Value.int IntKind.i64 (s : Int), Value.int IntKind.i64 (s : Int), Value.pointer (some ⟨wo.heap.size, 1, none⟩), Value.slice va j vc, Value.int IntKind.i64 (j : Int), Value.int IntKind.i64 (s : Int), Value.bool false, Value.pointer (some ⟨wo.heap.size, 1, none⟩), Value.slice va j vc, Value.int IntKind.i64 (j : Int), Value.bool (decide (4096 < (j : Int))), Value.bool (decide (4096 < (j : Int))), Value.int IntKind.i64 (s : Int), Value.int IntKind.i64 ((C : Int) - (f8 : Int)), Value.bool true, Value.bool true, Value.pointer (some ⟨wo.heap.size, 1, none⟩), Value.slice va j vc, Value.int IntKind.i64 (j : Int), Value.bool (decide (4096 < (j : Int))), v 0, v 1, v 2, v 3, v 4, v 5, v 6, v 7, v 8, v 9, v 10, v 11, v 12, v 13, v 14, v 15, u104, u105, u106, u107, u108, u109, u110, u111, u112, u113, u114, u115, u116, u117, u118, u119, u120, u121, u122, u123, u124, u125, u126, u127, u128], defers := [] }) (fun W => Below wr.heap.size wr W) (fun i' u W => match i' with
                | 0 => u = .int .i64 6
                | 1 => u = .int .i64 6
                | 2 => u = .bool false
                | 3 => u = .bool false
                | 4 => u = .pointer (some ⟨w2.heap.size, 0, none⟩)
                | 5 => u = .int .i64 (D8.turned : Int)
                | 6 => u = .int .i64 (D8.turned : Int)
                | 7 => u = .bool false
                | 8 => u = .bool false
                | 9 => u = .bool false
                | 10 => u = .pointer (some ⟨w3.heap.size, 0, none⟩)
                | 11 => ∃ m sv rv, u = hasV sv rv ∧ HasAt m W sv rv SN RC
                | 12 => u = hasV (.slice sa SN.length sc) (.slice ra RC.length rc)
                | 13 => u = .bool true
                | 14 => u = .bool false
                | 15 => u = .bool false
                | _ => True) (fun A B => Below A.heap.size A B) ?hC ?hV (fun i' => [u88, u89, u90, u91, u92, u93, u94, u95, u96, u97, u98, u99, u100, u101, u102, u103].getD i' undef) ?h0 ?hop ?hend
              case hC => exact fun A B h h2 => h.trans (h2.mono h.size)
              case h0 => exact (Below.refl _ _).drew
              case hV =>
                intro i' u A B h hx
                match i', h with
                | 11, ⟨m, sv, rv, e, h⟩ => exact ⟨m, sv, rv, e, h.below hx⟩
                | 0, h => exact h
                | 1, h => exact h
                | 2, h => exact h
                | 3, h => exact h
                | 4, h => exact h
                | 5, h => exact h
                | 6, h => exact h
                | 7, h => exact h
                | 8, h => exact h
                | 9, h => exact h
                | 10, h => exact h
                | 12, h => exact h
                | 13, h => exact h
                | 14, h => exact h
                | 15, h => exact h
                | n + 16, h => trivial
              case hop =>
                simp only [AllDo]
                refine ⟨?o0, ?o1, ?o2, ?o3, ?o4, ?o5, ?o6, ?o7, ?o8, ?o9, ?o10, ?o11, ?o12, ?o13, ?o14, ?o15, trivial⟩
                all_goals intro v W hc hd Q hQ
                all_goals simp [Region.binds] at hd
                case o0 => rw [if_pos (show Region.wanted _ _ = true from rfl)]; go_wp2; first | exact ⟨_, rfl, Below.refl _ _, rfl⟩ | (refine ⟨_, ?_, Below.refl _ _, rfl⟩; simp [updV, hd]) | exact ⟨by simp_all [updV], Below.refl _ _⟩
                case o1 => rw [if_pos (show Region.wanted _ _ = true from rfl)]; go_wp2; first | exact ⟨_, rfl, Below.refl _ _, rfl⟩ | (refine ⟨_, ?_, Below.refl _ _, rfl⟩; simp [updV, hd]) | exact ⟨by simp_all [updV], Below.refl _ _⟩
                case o2 => rw [if_pos (show Region.wanted _ _ = true from rfl)]; go_wp2; first | exact ⟨_, rfl, Below.refl _ _, rfl⟩ | (refine ⟨_, ?_, Below.refl _ _, rfl⟩; simp [updV, hd]) | exact ⟨by simp_all [updV], Below.refl _ _⟩
                case o3 => rw [if_pos (show Region.wanted _ _ = true from rfl)]; go_wp2; first | exact ⟨_, rfl, Below.refl _ _, rfl⟩ | (refine ⟨_, ?_, Below.refl _ _, rfl⟩; simp [updV, hd]) | exact ⟨by simp_all [updV], Below.refl _ _⟩
                case o8 => rw [if_pos (show Region.wanted _ _ = true from rfl)]; go_wp2; first | exact ⟨_, rfl, Below.refl _ _, rfl⟩ | (refine ⟨_, ?_, Below.refl _ _, rfl⟩; simp [updV, hd]) | exact ⟨by simp_all [updV], Below.refl _ _⟩
                case o9 => rw [if_pos (show Region.wanted _ _ = true from rfl)]; go_wp2; first | exact ⟨_, rfl, Below.refl _ _, rfl⟩ | (refine ⟨_, ?_, Below.refl _ _, rfl⟩; simp [updV, hd]) | exact ⟨by simp_all [updV], Below.refl _ _⟩
                case o15 => rw [if_pos (show Region.wanted _ _ = true from rfl)]; go_wp2; first | exact ⟨_, rfl, Below.refl _ _, rfl⟩ | (refine ⟨_, ?_, Below.refl _ _, rfl⟩; simp [updV, hd]) | exact ⟨by simp_all [updV], Below.refl _ _⟩
                case o4 =>
                  first | rw [hd] | (obtain ⟨h1, hd⟩ := hd; rw [hd]) | (obtain ⟨h1, h2, hd⟩ := hd; rw [hd]) | (obtain ⟨⟨h1, h2⟩, hd⟩ := hd; rw [hd])
                  rw [if_pos (show Region.wanted _ _ = true from rfl)]
                  go_wp2
                  first | exact ⟨_, rfl, Below.refl _ _, rfl⟩ | (refine ⟨_, ?_, Below.refl _ _, rfl⟩; simp [updV, hd]) | exact ⟨by simp_all [updV], Below.refl _ _⟩
                case o6 =>
                  first | rw [hd] | (obtain ⟨h1, hd⟩ := hd; rw [hd]) | (obtain ⟨h1, h2, hd⟩ := hd; rw [hd]) | (obtain ⟨⟨h1, h2⟩, hd⟩ := hd; rw [hd])
                  rw [if_pos (show Region.wanted _ _ = true from rfl)]
                  go_wp2
                  first | exact ⟨_, rfl, Below.refl _ _, rfl⟩ | (refine ⟨_, ?_, Below.refl _ _, rfl⟩; simp [updV, hd]) | exact ⟨by simp_all [updV], Below.refl _ _⟩
                case o7 =>
                  first | rw [hd] | (obtain ⟨h1, hd⟩ := hd; rw [hd]) | (obtain ⟨h1, h2, hd⟩ := hd; rw [hd]) | (obtain ⟨⟨h1, h2⟩, hd⟩ := hd; rw [hd])
                  rw [if_pos (show Region.wanted _ _ = true from rfl)]
                  go_wp2
                  first | exact ⟨_, rfl, Below.refl _ _, rfl⟩ | (refine ⟨_, ?_, Below.refl _ _, rfl⟩; simp [updV, hd]) | exact ⟨by simp_all [updV], Below.refl _ _⟩
                case o10 =>
                  first | rw [hd] | (obtain ⟨h1, hd⟩ := hd; rw [hd]) | (obtain ⟨h1, h2, hd⟩ := hd; rw [hd]) | (obtain ⟨⟨h1, h2⟩, hd⟩ := hd; rw [hd])
                  rw [if_pos (show Region.wanted _ _ = true from rfl)]
                  go_wp2
                  first | exact ⟨_, rfl, Below.refl _ _, rfl⟩ | (refine ⟨_, ?_, Below.refl _ _, rfl⟩; simp [updV, hd]) | exact ⟨by simp_all [updV], Below.refl _ _⟩
                case o14 =>
                  first | rw [hd] | (obtain ⟨h1, hd⟩ := hd; rw [hd]) | (obtain ⟨h1, h2, hd⟩ := hd; rw [hd]) | (obtain ⟨⟨h1, h2⟩, hd⟩ := hd; rw [hd])
                  rw [if_pos (show Region.wanted _ _ = true from rfl)]
                  go_wp2
                  first | exact ⟨_, rfl, Below.refl _ _, rfl⟩ | (refine ⟨_, ?_, Below.refl _ _, rfl⟩; simp [updV, hd]) | exact ⟨by simp_all [updV], Below.refl _ _⟩
                case o5 =>
                  obtain ⟨h1, hd⟩ := hd
                  rw [hd]
                  have HTU := Lib.hid (by obtain ⟨x, y, d⟩ := (HST9.out.below hc).dev; exact turned_any W d.blk : Calls Try.prog 13 #[.pointer (some ⟨w2.heap.size, 0, none⟩)] W _)
                  rw [if_pos (show Region.wanted _ _ = true from rfl)]
                  go_wp2_with fail
                  refine HTU.out.mono ?_
                  rintro e W' ⟨rfl, rfl⟩
                  go_wp2
                  first | (refine ⟨_, ?_, Below.refl _ _, rfl⟩; simp [updV, hd, h1]) | exact ⟨by simp_all [updV], Below.refl _ _⟩
                case o11 =>
                  obtain ⟨h1, hd⟩ := hd
                  rw [hd]
                  have HHS := Lib.hid (has_st (HST9.out.below hc))
                  rw [HSN.out, HRC.out] at HHS
                  rw [if_pos (show Region.wanted _ _ = true from rfl)]
                  go_wp2_with fail
                  refine HHS.out.mono ?_
                  rintro e W' ⟨sv, rv, rfl, hh, hb'⟩
                  go_wp2
                  refine ⟨hasV sv rv, ?_, hb', _, sv, rv, rfl, hh⟩
                  simp [updV, hd, h1]
                case o12 =>
                  rw [hd]
                  have rW := (hc.block w5.heap.size hXlt).trans HX9.out
                  have k0 : W.cell? ⟨w5.heap.size, 0, none⟩ = some (.slice none 0 0) := cell_of_row W _ 0 _ _ _ rW
                  have k1 : W.cell? ⟨w5.heap.size, 1, none⟩ = some (.slice none 0 0) := cell_of_row W _ 1 _ _ _ rW
                  have k2 : W.cell? ⟨w5.heap.size, 2, none⟩ = some (.int .i64 0) := cell_of_row W _ 2 _ _ _ rW
                  have k3 : W.cell? ⟨w5.heap.size, 3, none⟩ = some (.int .i64 0) := cell_of_row W _ 3 _ _ _ rW
                  have k4 : W.cell? ⟨w5.heap.size, 4, none⟩ = some (.int .u64 0) := cell_of_row W _ 4 _ _ _ rW
                  have k5 : W.cell? ⟨w5.heap.size, 5, none⟩ = some (.slice sa SN.length sc) := cell_of_row W _ 5 _ _ _ rW
                  have k6 : W.cell? ⟨w5.heap.size, 6, none⟩ = some (.slice ra RC.length rc) := cell_of_row W _ 6 _ _ _ rW
                  have k7 : W.cell? ⟨w5.heap.size, 7, none⟩ = some (.int .i64 0) := cell_of_row W _ 7 _ _ _ rW
                  clear rW
                  rw [if_pos (show Region.wanted _ _ = true from rfl)]
                  go_wp2
                  first | exact ⟨_, rfl, Below.refl _ _, rfl⟩ | (refine ⟨_, ?_, Below.refl _ _, rfl⟩; simp [updV, hd]) | exact ⟨by simp_all [updV], Below.refl _ _⟩
                case o13 =>
                  obtain ⟨⟨m, sv, rv, h1, h2⟩, h3, _, hd⟩ := hd
                  rw [hd]
                  have HSM := Lib.hid (same_has h2 (HH9.out.below hc) HFW.out HFW.out)
                  rw [decide_eq_true rfl, decide_eq_true rfl] at HSM
                  rw [h1]
                  rw [if_pos (show Region.wanted _ _ = true from rfl)]
                  go_wp2_with fail
                  refine HSM.out.mono ?_
                  rintro e W' ⟨rfl, hb'⟩
                  go_wp2
                  refine ⟨.bool true, ?_, hb', rfl⟩
                  simp [updV, h1, h3, hd]
              case hend =>
                intro v W hc hv
                have h15 : v 15 = .bool false := hv 15 (by decide)
                have HFU9 : Hid (FulI w w3.heap.size w2.heap.size C W) := Lib.hid ⟨own8, D8, c8, f8, HST9.out.below hc, HCAP.out, hlf⟩
                clear hv hc
                dsimp only
                rw [h15]
                go_wp2_with fail
                go_roundw
                case rel => first | exact ⟨k + 1, hlt, by go_num, HFU9.out⟩ | ((repeat apply Exists.intro); exact ⟨⟨k + 1, hlt, by go_num, HFU9.out⟩, rfl⟩)
                case measure => simp [intOf]; omega

            · rw [if_neg hfl] at hcs
              obtain ⟨rfl, rfl, rfl, hap⟩ := hcs
              have hwi : ¬ (C : Int) - (f : Nat) < (s : Nat) := by
                have h1 := HCAP.out
                have h2 := HSS.out
                omega
              have HAO := Lib.hid hap
              obtain ⟨hSn, ys, hys, hrw9, hall⟩ := HH9.out
              have hyl : ys.length = RC.length := by rw [← hys, List.length_map]
              rw [hyl] at hrw9
              have hRCl := HFW.out.2.1
              have HSN9 := Lib.hid hSn
              have HYS := Lib.hid hys
              have HYL := Lib.hid hyl
              have HRW9 := Lib.hid hrw9
              have HALL := Lib.hid hall
              have hXlt : w5.heap.size < wr.heap.size := (Array.getElem?_eq_some_iff.1 HX9.out).1
              have hB5 : wB.heap.size ≤ w5.heap.size := hz5
              have hbwr : wB.heap.size ≤ wr.heap.size := by omega
              have x6 : wr.cell? ⟨w5.heap.size, 6, none⟩ = some (.slice ra RC.length rc) := cell_of_row wr _ 6 _ _ _ HX9.out
              clear hap hSn hys hrw9 hall hyl
              go_wp2_with (at_builtin; refine wpList_append_own _ rfl (.tmp 105) (.tmp 108) 34 rfl wB.heap.size yssT i1 (.slice none 0 0) 1 24 Try.underlying34 hi1 hy0 hy1 hy2 rfl (by decide) (.slice ra RC.length rc) RC.length (ys.map Prod.snd) rfl (HRW9.out.alloc _) ⟨wr.heap.size, 0, none⟩ 1 1 [.slice va j vc] rfl rfl (new_cell1 _ _ _) (by intro u hu; simp at hu; subst hu; rfl) (by unfold maxLen; omega) (by omega) (by simp; omega) ?_)
              intro v' w10 hown' hgrow _
              obtain ⟨va', vc', hvf'⟩ := own_form hown'
              subst hvf'
              have hneX : (Value.slice ra RC.length rc).ownBlock ≠ some w5.heap.size := fun e => by
                obtain ⟨_, cur, hcur⟩ := own_at HRW9.out e
                rw [HX9.out] at hcur
                cases hcur
              have hX10 : w10.heap[w5.heap.size]? = some (.cells (hasC (.slice sa SN.length sc) (.slice ra RC.length rc)) rjT (0, 0)) := (hgrow.block _ (by simp; omega) (fun e => hneX e.symm)).trans ((Below.heap_alloc _ _ _ (by omega)).trans HX9.out)
              have hc10 := cell_of_row w10 _ 6 _ _ _ hX10
              have hf10 := frozen_of_row w10 w5.heap.size 6 _ _ hX10
              have hbA : Below wr.heap.size wr (wr.alloc (.cells #[.slice va j vc] yssT)) := (Below.refl _ _).alloc (Nat.le_refl _) _
              have hbt : But (w5.heap.size :: (Value.slice ra RC.length rc).ownBlock.toList) wr (w10.setCell ⟨w5.heap.size, 6, none⟩ (.slice va' (RC.length + 1) vc')) := ((But.of_below hbA : But (w5.heap.size :: (Value.slice ra RC.length rc).ownBlock.toList) wr _).grown hgrow (fun gg e => by rw [e]; simp)).set (by simp) _
              have HBT := Lib.hid hbt
              have HOW := Lib.hid hown'
              have HX10 := Lib.hid hX10
              have HNX := Lib.hid hneX
              clear hgrow hX10 hbA hbt hown' hneX x6
              go_wp2_with fail
              have hgr : ∀ g, (Value.slice ra RC.length rc).ownBlock = some g → wB.heap.size ≤ g ∧ g < w6.heap.size := fun g hg => by
                obtain ⟨_, ys', hys', hr', _⟩ := HH6.out
                exact World.ownsRow.lt hr' g hg
              have hlist : ∀ g ∈ (w5.heap.size :: (Value.slice ra RC.length rc).ownBlock.toList), wB.heap.size ≤ g ∧ g < w6.heap.size := fun g hg => by
                rcases List.mem_cons.1 hg with h | h
                · omega
                · exact hgr g (by simpa using h)
              have hoT : ∀ k ∈ (w5.heap.size :: (Value.slice ra RC.length rc).ownBlock.toList), ∀ (cs : Array Value) (fr : Nat × Nat), wr.heap[k]? ≠ some (Obj.cells cs 5 fr) := fun k hk cs fr e => by
                rcases List.mem_cons.1 hk with h | h
                · subst h; rw [HX9.out] at e; cases e
                · obtain ⟨_, cur, hcur⟩ := own_at HRW9.out (by simpa using h)
                  rw [hcur] at e; cases e
              have HXS : Hid ((w10.setCell ⟨w5.heap.size, 6, none⟩ (.slice va' (RC.length + 1) vc')).heap[w5.heap.size]? = some (.cells (hasC (.slice sa SN.length sc) (.slice va' (RC.length + 1) vc')) rjT (0, 0))) := Lib.hid (heap_setCell_same w10 w5.heap.size 6 _ _ _ HX10.out)
              have HOS : Hid ((w10.setCell ⟨w5.heap.size, 6, none⟩ (.slice va' (RC.length + 1) vc')).ownsRow wB.heap.size yssT 1 (.slice va' (RC.length + 1) vc') (RC.length + 1) (ys.map Prod.snd ++ [.slice va j vc])) := Lib.hid (own_butG HOW.out (own := [w5.heap.size]) ((But.refl _ _).set (by simp) _) (fun gg hg hm => by
                obtain ⟨_, cur, hcur⟩ := own_at HOW.out hg
                simp at hm
                subst hm
                rw [HX10.out] at hcur
                cases hcur))
              obtain ⟨wz, hwz⟩ : ∃ wz, w10.setCell ⟨w5.heap.size, 6, none⟩ (.slice va' (RC.length + 1) vc') = wz := ⟨_, rfl⟩
              rw [hwz] at HXS HOS HBT ⊢
              clear hwz hc10 hf10 HX10 HOW HNX
              have hSTZ : St w wz own8 w3.heap.size w2.heap.size D8 0 1 (c + 1) (f + (j + 7)) := HST9.out.but HBT.out (fun g hg hm => by
                have h1 := hlist g hm
                rcases HS8.out g hg with h2 | h2
                · have := HLO.out g (List.mem_cons_of_mem _ h2); omega
                · omega) (fun hm => by
                have h1 := hlist _ hm
                have := HLO.out w3.heap.size (List.mem_cons_self ..); omega) (fun g hg => by
                have h1 := hlist g hg
                have := HLO.out w3.heap.size (List.mem_cons_self ..)
                omega)
              have hzb := HBT.out.size
              have hXz : w5.heap.size < wz.heap.size := by omega
              have HXZ := HXS
              have HSLZ : Hid (Sl encY wz.heap.size wz (.slice sa SN.length sc) SN) := Lib.hid (Sl.of_owns (own_butG HSN9.out HBT.out (fun gg hg hm => by
                rcases List.mem_cons.1 hm with h | h
                · subst h
                  obtain ⟨_, cur, hcur⟩ := own_at HSN9.out hg
                  rw [HX9.out] at hcur; cases hcur
                · obtain ⟨_, cur, hcur⟩ := own_at HSN9.out hg
                  obtain ⟨_, cur', hcur'⟩ := own_at HRW9.out (by simpa using h)
                  rw [hcur'] at hcur; cases hcur)))
              have hbw := hSTZ.bel
              have HPZ : Hid (Parts wz.heap.size wz (.slice va' (RC.length + 1) vc') (RC ++ [dt])) := Lib.hid (by
                have h := parts_row (ys := ys ++ [(dt, .slice va j vc)]) (n := wB.heap.size) (W := wz) (rv := .slice va' (RC.length + 1) vc') (by rw [List.length_append, List.length_singleton, HYL.out, List.map_append]; exact HOS.out) (fun y hy => by
                  rcases List.mem_append.1 hy with h | h
                  · exact (RyB.but (n := wB.heap.size) (x := y) (HALL.out y h) HBT.out hoT).1
                  · simp at h
                    subst h
                    exact (HES.out.below hbw).mono hbw.size)
                rw [List.map_append, HYS.out] at h
                exact h)
              have HSZ : Hid (snapL (D8.row ((0 : Nat) : Int)) = SN) := Lib.hid (HAO.out.snap.trans HSN.out)
              have HRZ : Hid (recsL (D8.row ((0 : Nat) : Int)) = RC ++ [dt]) := Lib.hid (HAO.out.recs.trans (by rw [HRC.out]))
              have HFZ : Hid (FewL SN (RC ++ [dt])) := Lib.hid (by have := few_of HST9.out.row; rw [HSZ.out, HRZ.out] at this; exact this)
              have HCZ : Hid (D8.cap = C) := Lib.hid (HAO.out.cap.trans HCAP.out)
              have HLZ : Hid (9223372036854775807 ≤ D8.left + (f + (j + 7))) := Lib.hid (by have h := HAO.out.left; rw [HQ.out] at h; omega)
              have HRMV : Hid (((D8.cap : Nat) : Int) - ((f + (j + 7) : Nat) : Int) = (C : Int) - (f : Nat) - (s : Nat)) := Lib.hid (by rw [HCZ.out]; have := HSS.out; omega)
              have hC1 : C ≤ 1048576 := by have h1 := HST9.out.dok.cap; rw [HCZ.out] at h1; omega
              have hs1 : s ≤ 20007 := by have := HSS.out; omega
              have HSTZ := Lib.hid hSTZ
              clear hSTZ hbw hoT hlist hgr HXS HOS HBT HALL HYS HYL HRW9 HSN9
              refine region_rel (l := _) (by kernel_rfl) (by decide +kernel) (fun v => { tmps := #[Value.int IntKind.i64 a0, Value.slice (some ⟨xb, off, none⟩) n c1, undef, undef, u4, Value.pointer (some ⟨w2.heap.size, 0, none⟩), Value.pointer (some ⟨w3.heap.size, 0, none⟩), Value.int IntKind.i64 0, undef, Value.pointer (some ⟨wo.heap.size, 0, none⟩), Value.int IntKind.i64 ((C : Int) - (f : Int)), Value.int IntKind.i64 (D.turned : Int), Value.pointer (some ⟨w5.heap.size, 0, none⟩), Value.slice ma j mc, Value.int IntKind.i64 0, u15, Value.int IntKind.i64 (s : Int), u17, Value.bool true, Value.bool false, Value.slice (some ⟨xb, off, none⟩) n c1, Value.bool true, Value.bool false, Value.int IntKind.i64 a0, Value.pointer (some ⟨w2.heap.size, 0, none⟩), Value.tuple #[Value.pointer (some ⟨w3.heap.size, 0, none⟩), Value.int IntKind.i64 0], Value.pointer (some ⟨w2.heap.size, 0, none⟩), Value.tuple #[Value.pointer (some ⟨w3.heap.size, 0, none⟩), Value.int IntKind.i64 0], Value.pointer (some ⟨w3.heap.size, 0, none⟩), Value.int IntKind.i64 0, Value.int IntKind.i64 0, Value.bool false, undef, undef, undef, Value.slice (some ⟨xb, off, none⟩) n c1, Value.int IntKind.i64 (n : Int), Value.int IntKind.i64 (k : Int), Value.bool true, Value.pointer (some ⟨xb, off + k * 2, none⟩), Value.agg #[Value.int IntKind.i64 kd, Value.slice va j vc], Value.pointer (some ⟨w3.heap.size, 0, none⟩), Value.int IntKind.i64 ((C : Int) - (f : Int)), Value.pointer (some ⟨w2.heap.size, 0, none⟩), Value.int IntKind.i64 (D.turned : Int), Value.pointer (some ⟨w3.heap.size, 0, none⟩), hasV (Value.slice sa SN.length sc) (Value.slice ra RC.length rc), Value.pointer (some ⟨wo.heap.size, 1, none⟩), Value.slice va j vc, Value.slice ma j mc, Value.pointer (some ⟨w3.heap.size, 0, none⟩), Value.slice ma j mc, Value.int IntKind.i64 0, Value.slice ma j mc, Value.int IntKind.i64 (j : Int), Value.int IntKind.i64 (j : Int), Value.bool false, u57, u58, u59, u60, u61, u62, u63, u64, Value.pointer (some ⟨wo.heap.size, 1, none⟩), Value.slice va j vc, Value.int IntKind.i64 (j : Int), Value.int IntKind.i64 (s : Int), Value.int IntKind.i64 (s : Int), Value.pointer (some ⟨wo.heap.size, 1, none⟩), Value.slice va j vc, Value.int IntKind.i64 (j : Int), Value.int IntKind.i64 (s : Int), Value.bool false, Value.pointer (some ⟨wo.heap.size, 1, none⟩), Value.slice va j vc, Value.int IntKind.i64 (j : Int), Value.bool (decide (4096 < (j : Int))), Value.bool (decide (4096 < (j : Int))), Value.int IntKind.i64 (s : Int), Value.int IntKind.i64 ((C : Int) - (f : Int)), Value.bool (decide ((C : Int) - (f : Int) < (s : Int))), Value.bool (decide (4096 < (j : Int)) || decide ((C : Int) - (f : Int) < (s : Int))), u84, u85, u86, u87, u88, u89, u90, u91, u92, u93, u94, u95, u96, u97, u98, u99, u100, u101, u102, u103, Value.pointer (some ⟨w5.heap.size, 6, none⟩), Value.slice ra RC.length rc, Value.pointer (some ⟨wo.heap.size, 1, none⟩), Value.slice va j vc, Value.slice (some ⟨wr.heap.size, 0, none⟩) 1 1, Value.slice va' (RC.length + 1) vc', Value.pointer (some ⟨w5.heap.size, 6, none⟩), v 0, v 1, v 2, v 3, v 4, v 5, v 6, v 7, v 8, v 9, v 10, v 11, v 12, v 13, v 14, v 15, v 16, u128], defers := [] }) (fun W => Below wz.heap.size wz W) (fun i' u W => match i' with
                | 0 => u = .int .i64 0
                | 1 => u = .bool false
                | 2 => u = .bool false
                | 3 => u = .pointer (some ⟨w3.heap.size, 0, none⟩)
                | 4 => u = .int .i64 ((C : Int) - (f : Nat) - (s : Nat))
                | 5 => u = .int .i64 ((C : Int) - (f : Nat))
                | 6 => u = .int .i64 (s : Nat)
                | 7 => u = .int .i64 ((C : Int) - (f : Nat) - (s : Nat))
                | 8 => u = .bool false
                | 9 => u = .bool false
                | 10 => u = .bool false
                | 11 => u = .pointer (some ⟨w3.heap.size, 0, none⟩)
                | 12 => ∃ m sv rv, u = hasV sv rv ∧ HasAt m W sv rv SN (RC ++ [dt])
                | 13 => u = hasV (.slice sa SN.length sc) (.slice va' (RC.length + 1) vc')
                | 14 => u = .bool true
                | 15 => u = .bool false
                | 16 => u = .bool false
                | _ => True) (fun A B => Below A.heap.size A B) ?hC ?hV (fun i' => [u111, u112, u113, u114, u115, u116, u117, u118, u119, u120, u121, u122, u123, u124, u125, u126, u127].getD i' undef) ?h0 ?hop ?hend
              case hC => exact fun A B h h2 => h.trans (h2.mono h.size)
              case h0 => exact (Below.refl _ _).drew
              case hV =>
                intro i' u A B h hx
                match i', h with
                | 12, ⟨m, sv, rv, e, h⟩ => exact ⟨m, sv, rv, e, h.below hx⟩
                | 0, h => exact h
                | 1, h => exact h
                | 2, h => exact h
                | 3, h => exact h
                | 4, h => exact h
                | 5, h => exact h
                | 6, h => exact h
                | 7, h => exact h
                | 8, h => exact h
                | 9, h => exact h
                | 10, h => exact h
                | 11, h => exact h
                | 13, h => exact h
                | 14, h => exact h
                | 15, h => exact h
                | 16, h => exact h
                | n + 17, h => trivial
              case hop =>
                simp only [AllDo]
                refine ⟨?o0, ?o1, ?o2, ?o3, ?o4, ?o5, ?o6, ?o7, ?o8, ?o9, ?o10, ?o11, ?o12, ?o13, ?o14, ?o15, ?o16, trivial⟩
                all_goals intro v W hc hd Q hQ
                all_goals simp [Region.binds] at hd
                case o0 => rw [if_pos (show Region.wanted _ _ = true from rfl)]; go_wp2; first | exact ⟨_, rfl, Below.refl _ _, rfl⟩ | (refine ⟨_, ?_, Below.refl _ _, rfl⟩; simp [updV, hd]) | exact ⟨by simp_all [updV], Below.refl _ _⟩
                case o1 => rw [if_pos (show Region.wanted _ _ = true from rfl)]; go_wp2; first | exact ⟨_, rfl, Below.refl _ _, rfl⟩ | (refine ⟨_, ?_, Below.refl _ _, rfl⟩; simp [updV, hd]) | exact ⟨by simp_all [updV], Below.refl _ _⟩
                case o2 => rw [if_pos (show Region.wanted _ _ = true from rfl)]; go_wp2; first | exact ⟨_, rfl, Below.refl _ _, rfl⟩ | (refine ⟨_, ?_, Below.refl _ _, rfl⟩; simp [updV, hd]) | exact ⟨by simp_all [updV], Below.refl _ _⟩
                case o9 => rw [if_pos (show Region.wanted _ _ = true from rfl)]; go_wp2; first | exact ⟨_, rfl, Below.refl _ _, rfl⟩ | (refine ⟨_, ?_, Below.refl _ _, rfl⟩; simp [updV, hd]) | exact ⟨by simp_all [updV], Below.refl _ _⟩
                case o10 => rw [if_pos (show Region.wanted _ _ = true from rfl)]; go_wp2; first | exact ⟨_, rfl, Below.refl _ _, rfl⟩ | (refine ⟨_, ?_, Below.refl _ _, rfl⟩; simp [updV, hd]) | exact ⟨by simp_all [updV], Below.refl _ _⟩
                case o16 => rw [if_pos (show Region.wanted _ _ = true from rfl)]; go_wp2; first | exact ⟨_, rfl, Below.refl _ _, rfl⟩ | (refine ⟨_, ?_, Below.refl _ _, rfl⟩; simp [updV, hd]) | exact ⟨by simp_all [updV], Below.refl _ _⟩
                case o3 =>
                  first | rw [hd] | (obtain ⟨h1, hd⟩ := hd; rw [hd]) | (obtain ⟨h1, h2, hd⟩ := hd; rw [hd]) | (obtain ⟨⟨h1, h2⟩, hd⟩ := hd; rw [hd])
                  rw [if_pos (show Region.wanted _ _ = true from rfl)]
                  go_wp2
                  first | exact ⟨_, rfl, Below.refl _ _, rfl⟩ | (refine ⟨_, ?_, Below.refl _ _, rfl⟩; simp [updV, hd]) | exact ⟨by simp_all [updV], Below.refl _ _⟩
                case o5 =>
                  first | rw [hd] | (obtain ⟨h1, hd⟩ := hd; rw [hd]) | (obtain ⟨h1, h2, hd⟩ := hd; rw [hd]) | (obtain ⟨⟨h1, h2⟩, hd⟩ := hd; rw [hd])
                  rw [if_pos (show Region.wanted _ _ = true from rfl)]
                  go_wp2
                  first | exact ⟨_, rfl, Below.refl _ _, rfl⟩ | (refine ⟨_, ?_, Below.refl _ _, rfl⟩; simp [updV, hd]) | exact ⟨by simp_all [updV], Below.refl _ _⟩
                case o6 =>
                  first | rw [hd] | (obtain ⟨h1, hd⟩ := hd; rw [hd]) | (obtain ⟨h1, h2, hd⟩ := hd; rw [hd]) | (obtain ⟨⟨h1, h2⟩, hd⟩ := hd; rw [hd])
                  rw [if_pos (show Region.wanted _ _ = true from rfl)]
                  go_wp2
                  first | exact ⟨_, rfl, Below.refl _ _, rfl⟩ | (refine ⟨_, ?_, Below.refl _ _, rfl⟩; simp [updV, hd]) | exact ⟨by simp_all [updV], Below.refl _ _⟩
                case o7 =>
                  first | rw [hd] | (obtain ⟨h1, hd⟩ := hd; rw [hd]) | (obtain ⟨h1, h2, hd⟩ := hd; rw [hd]) | (obtain ⟨⟨h1, h2⟩, hd⟩ := hd; rw [hd])
                  rw [if_pos (show Region.wanted _ _ = true from rfl)]
                  go_wp2
                  first | exact ⟨_, rfl, Below.refl _ _, rfl⟩ | (refine ⟨_, ?_, Below.refl _ _, rfl⟩; simp [updV, hd]) | exact ⟨by simp_all [updV], Below.refl _ _⟩
                case o8 =>
                  first | rw [hd] | (obtain ⟨h1, hd⟩ := hd; rw [hd]) | (obtain ⟨h1, h2, hd⟩ := hd; rw [hd]) | (obtain ⟨⟨h1, h2⟩, hd⟩ := hd; rw [hd])
                  rw [if_pos (show Region.wanted _ _ = true from rfl)]
                  go_wp2
                  first | exact ⟨_, rfl, Below.refl _ _, rfl⟩ | (refine ⟨_, ?_, Below.refl _ _, rfl⟩; simp [updV, hd]) | exact ⟨by simp_all [updV], Below.refl _ _⟩
                case o11 =>
                  first | rw [hd] | (obtain ⟨h1, hd⟩ := hd; rw [hd]) | (obtain ⟨h1, h2, hd⟩ := hd; rw [hd]) | (obtain ⟨⟨h1, h2⟩, hd⟩ := hd; rw [hd])
                  rw [if_pos (show Region.wanted _ _ = true from rfl)]
                  go_wp2
                  first | exact ⟨_, rfl, Below.refl _ _, rfl⟩ | (refine ⟨_, ?_, Below.refl _ _, rfl⟩; simp [updV, hd]) | exact ⟨by simp_all [updV], Below.refl _ _⟩
                case o15 =>
                  first | rw [hd] | (obtain ⟨h1, hd⟩ := hd; rw [hd]) | (obtain ⟨h1, h2, hd⟩ := hd; rw [hd]) | (obtain ⟨⟨h1, h2⟩, hd⟩ := hd; rw [hd])
                  rw [if_pos (show Region.wanted _ _ = true from rfl)]
                  go_wp2
                  first | exact ⟨_, rfl, Below.refl _ _, rfl⟩ | (refine ⟨_, ?_, Below.refl _ _, rfl⟩; simp [updV, hd]) | exact ⟨by simp_all [updV], Below.refl _ _⟩
                case o4 =>
                  obtain ⟨h1, hd⟩ := hd
                  rw [hd]
                  have HRM := Lib.hid (room_st (HSTZ.out.below hc))
                  rw [HRMV.out] at HRM
                  rw [if_pos (show Region.wanted _ _ = true from rfl)]
                  go_wp2_with fail
                  refine HRM.out.mono ?_
                  rintro e W' ⟨rfl, hb'⟩
                  go_wp2
                  refine ⟨.int .i64 ((C : Int) - (f : Nat) - (s : Nat)), ?_, hb', rfl⟩
                  simp [updV, hd, h1]
                case o12 =>
                  obtain ⟨h1, hd⟩ := hd
                  rw [hd]
                  have HHS := Lib.hid (has_st (HSTZ.out.below hc))
                  rw [HSZ.out, HRZ.out] at HHS
                  rw [if_pos (show Region.wanted _ _ = true from rfl)]
                  go_wp2_with fail
                  refine HHS.out.mono ?_
                  rintro e W' ⟨sv, rv, rfl, hh, hb'⟩
                  go_wp2
                  refine ⟨hasV sv rv, ?_, hb', _, sv, rv, rfl, hh⟩
                  simp [updV, hd, h1]
                case o13 =>
                  rw [hd]
                  have rW := (hc.block w5.heap.size hXz).trans HXZ.out
                  have k0 : W.cell? ⟨w5.heap.size, 0, none⟩ = some (.slice none 0 0) := cell_of_row W _ 0 _ _ _ rW
                  have k1 : W.cell? ⟨w5.heap.size, 1, none⟩ = some (.slice none 0 0) := cell_of_row W _ 1 _ _ _ rW
                  have k2 : W.cell? ⟨w5.heap.size, 2, none⟩ = some (.int .i64 0) := cell_of_row W _ 2 _ _ _ rW
                  have k3 : W.cell? ⟨w5.heap.size, 3, none⟩ = some (.int .i64 0) := cell_of_row W _ 3 _ _ _ rW
                  have k4 : W.cell? ⟨w5.heap.size, 4, none⟩ = some (.int .u64 0) := cell_of_row W _ 4 _ _ _ rW
                  have k5 : W.cell? ⟨w5.heap.size, 5, none⟩ = some (.slice sa SN.length sc) := cell_of_row W _ 5 _ _ _ rW
                  have k6 : W.cell? ⟨w5.heap.size, 6, none⟩ = some (.slice va' (RC.length + 1) vc') := cell_of_row W _ 6 _ _ _ rW
                  have k7 : W.cell? ⟨w5.heap.size, 7, none⟩ = some (.int .i64 0) := cell_of_row W _ 7 _ _ _ rW
                  clear rW
                  rw [if_pos (show Region.wanted _ _ = true from rfl)]
                  go_wp2
                  first | exact ⟨_, rfl, Below.refl _ _, rfl⟩ | (refine ⟨_, ?_, Below.refl _ _, rfl⟩; simp [updV, hd]) | exact ⟨by simp_all [updV], Below.refl _ _⟩
                case o14 =>
                  obtain ⟨⟨m, sv, rv, h1, h2⟩, h3, _, hd⟩ := hd
                  rw [hd]
                  have HSM := Lib.hid (same_mix h2 ((HSLZ.out.below hc).mono hc.size) ((HPZ.out.below hc).mono hc.size) HFZ.out HFZ.out)
                  rw [decide_eq_true rfl, decide_eq_true rfl] at HSM
                  rw [h1]
                  rw [if_pos (show Region.wanted _ _ = true from rfl)]
                  go_wp2_with fail
                  refine HSM.out.mono ?_
                  rintro e W' ⟨rfl, hb'⟩
                  go_wp2
                  refine ⟨.bool true, ?_, hb', rfl⟩
                  simp [updV, h1, h3, hd]
              case hend =>
                intro v W hc hv
                have h16 : v 16 = .bool false := hv 16 (by decide)
                have HFU9 : Hid (FulI w w3.heap.size w2.heap.size C W) := Lib.hid ⟨own8, D8, c + 1, f + (j + 7), HSTZ.out.below hc, HCZ.out, HLZ.out⟩
                clear hv hc
                dsimp only
                rw [h16]
                go_wp2_with fail
                go_roundw
                case rel => first | exact ⟨k + 1, hlt, by go_num, HFU9.out⟩ | ((repeat apply Exists.intro); exact ⟨⟨k + 1, hlt, by go_num, HFU9.out⟩, rfl⟩)
                case measure => simp [intOf]; omega



set_option maxRecDepth 100000 in
theorem lifted (os : Os) (started : os.Started) (H : Type) (enc : TypeId × Value → H) :
    ReturnsInHanded {} Try.checked os 4 .any (Rows.journalFullSpec.pre6 enc Try.prog Try.f4 Rows.journalFullRow.domain false) (Rows.journalFullSpec.post enc Try.prog Try.f4 false true false false) := by
  refine returnsInHanded_of_change (C := Try.checked) own started (by kernel_rfl) Try.func4
    (ChangeSpec.witness6 (enc := enc) (C := Try.checked) false ⟨#[], #[.int .i64 0, .slice none 0 0], []⟩ 8 (by kernel_rfl) (by kernel_rfl) (by kernel_rfl) (by kernel_rfl)) ?_
  intro W base args ds gs before hval0 hW hcnd _
  have hval : ∀ (j : Nat) t v, Try.f4.params[j]? = some t → args[j]? = some v → Value.okWide Try.prog W .any base t v := hval0
  have hW' := hW
  obtain ⟨p, q, hA0, hV, rfl, hfz, hnd⟩ := hW
  have hA : DataW.TrodAll enc Try.prog W 0 (fun _ => true) true Try.f4.params.toList args.toList ds p := hA0
  rw [Try.params4] at hA hval
  have hAk := hA
  obtain ⟨v0, vs0, d0, ds0, p0', q0, hargs, rfl, rfl, h0, r0⟩ := trodAll_cons hA
  obtain ⟨v1, vs1, d1, ds1, p1', q1, rfl, rfl, rfl, h1, r1⟩ := trodAll_cons r0
  obtain ⟨rfl, rfl, rfl⟩ := trodAll_nil r1
  obtain rfl : args = #[v0, v1] := by cases args; simp_all
  obtain ⟨rfl, rfl⟩ := trodVars_none hV
  simp only [List.append_nil] at hW' hAk
  have hlt := fun x hx => hW'.lt x hx
  clear hA0 hval0
  obtain ⟨a0, rfl, rfl, rfl, w0⟩ := open_int Try.underlying3 (hval 0 3 v0 rfl rfl) h0
  obtain ⟨p1, n1, c1, l1, rfl, S1, b1⟩ := open_jops (okWide_slice Try.underlying40 (hval 1 40 v1 rfl rfl)) h1
  refine (walk W a0 w0 p1 n1 c1 l1 S1 b1).mono fun e W' ⟨he, hg⟩ => ?_
  subst he
  have hargs := trodAll_below hg _ _ _ _ (by intro t ht; simp only [List.mem_cons, List.not_mem_nil, or_false] at ht; revert t; rintro t (rfl | rfl) <;> exact ⟨by kernel_rfl, of_decide_eq_true (by kernel_rfl)⟩) hAk (fun x hx => by simpa using hlt x hx)
  exact ⟨_, rfl, _, _, _, [], _, [], hW', (trodAll_cons_mk (shut_bool Try.underlying4 _) trodAll_mk0), hargs, rfl, hg.frame _, fun h => by cases h⟩

theorem over : Rows.journalFullRow.holds Try.pinned (OpenSpec.ofChange Rows.journalFullSpec) :=
  OpenClaim.holds_of_wide 4 Try.f4 rfl rfl rfl rfl rfl rfl rfl ⟨rfl, rfl, rfl, rfl, rfl⟩ rfl rfl rfl rfl rfl (by kernel_rfl) Try.func4 (by kernel_rfl)
    (of_decide_eq_true (by kernel_rfl)) (by unfold Func.isWrapper; first | (rw [if_pos (by decide +kernel)]; kernel_rfl) | (rw [if_neg (by decide +kernel)]; exact ⟨rfl, rfl⟩))
    (fun os started H enc _ => lifted os started H enc)

theorem proved : Rows.JournalFullSaid :=
  over
end Go.Proofs.Ytpllbojmonfeiaa.journalFull
