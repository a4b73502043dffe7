/- For whatever capacity and row of steps law DeviceKeeps answers true: no region has more bytes than the capacity, what is told and what was handed in may be written over, and a clone goes its own way. No condition. -/
import Derived.Test.YtdimjeppcfacdaaDevKp
namespace Go.Proofs.Ytdimjeppcfacdaa.deviceKeeps
open Go.ChangeShapes Go.WideShapes Go.ChangeAt Go.RowKit Go.Proofs.Ytdimjeppcfacdaa Go.Proofs.Ytdimjeppcfacdaa.SumM
set_option linter.unusedVariables false
attribute [local go_sem] Oper.semAt_some

set_option maxRecDepth 100000 in
set_option maxHeartbeats 2000000 in
theorem walk (w : World) (a0 : Int) (w0 : (Lit.int .i64 a0).wf = true) (p1 : Option Addr) (n1 c1 : Nat) (l1 : List OpS) (S1 : Ops w.heap.size w (.slice p1 n1 c1) l1) (b1 : (∀ x ∈ l1, x.Ok) ∧ l1.length ≤ Go.maxLen) :
    Calls Try.prog 5 #[.int .i64 a0, .slice p1 n1 c1] w fun e w' => e = .returned (.bool true) ∧ Below w.heap.size w w' := by
  obtain rfl := S1.len
  have HS := Lib.hid S1
  have HOK := Lib.hid b1.1
  have HSM := Lib.hid (fun (W : World) (hb : Below w.heap.size w W) => dsmall_any p1 c1 l1 b1.2 W (Ops.mono hb.size (S1.below hb)))
  have hmx : l1.length ≤ 9223372036854775807 := by have := b1.2; unfold Go.maxLen at this; omega
  obtain ⟨n, hn⟩ : ∃ n, l1.length = n := ⟨_, rfl⟩
  have HN := Lib.hid hn
  rw [hn] at HS HSM hmx ⊢
  clear hn S1 b1
  have hz := zrd
  go_enter Try.func5, Try.ntmps5
  go_wp2_with fail
  refine (devAlive_any _).mono ?_
  rintro e w1 ⟨rfl, hb1⟩
  have HSM1 := Lib.hid (HSM.out w1 hb1)
  clear HSM
  go_wp2_with fail
  refine HSM1.out.mono ?_
  rintro e w2 ⟨sb, rfl, hsm, hb2⟩
  have hB2 := hb1.trans (hb2.mono hb1.size)
  clear hb1 hb2 HSM1
  cases sb with
  | false =>
    go_wp2
    go_ret
    exact ⟨rfl, hB2⟩
  | true =>
    obtain ⟨h40, hdl⟩ := hsm rfl
    have HDL := Lib.hid hdl
    clear hsm hdl h40
    go_wp2_with fail
    refine (new_any a0 w2).mono ?_
    rintro e w3 ⟨rfl, d3, hb3⟩
    have hB3 := hB2.trans (hb3.mono hB2.size)
    have hw2 := hB2.size
    have hki0 : KeepI w w2.heap.size w3 := ⟨⟨_, _, _, _, d3, fun k hk => by simp at hk; omega⟩, hB3⟩
    have HKI := Lib.hid hki0
    obtain ⟨b, hb⟩ : ∃ b, w2.heap.size = b := ⟨_, rfl⟩
    rw [hb] at HKI ⊢
    clear hki0 hb hB3 d3 hb3 hB2 hw2
    go_wp2
    go_loopw [23] (fun i wr => ∃ k : Nat, k ≤ n ∧ i = .int .i64 k ∧ KeepI w b wr) (fun i _ => n - (intOf i).toNat)
    case atStart => exact ⟨0, Nat.zero_le _, rfl, HKI.out⟩
    case round =>
      obtain ⟨k, hk, rfl, hP⟩ := hrel
      obtain ⟨wo, hwo⟩ : ∃ wo, wo = wr := ⟨_, rfl⟩
      subst hwo
      have HP := Lib.hid hP
      clear hP HKI
      by_cases hlt : k < n
      · obtain ⟨x, hx⟩ : ∃ x, l1[k]? = some x := ⟨l1[k]'(by rw [HN.out]; exact hlt), List.getElem?_eq_getElem _⟩
        obtain ⟨xb, off, va, vc, rfl, hxb, e0, e1, e2, e3, eS⟩ := HS.out.at_ hx
        have hxm := List.mem_of_getElem? hx
        have hdx := HDL.out x hxm
        have HXO := Lib.hid (HOK.out x hxm)
        have hbr := HP.out.below
        have c0 := (hbr.cell (p := ⟨xb, off + k * 4, none⟩) hxb).trans e0
        have c1' := (hbr.cell (p := ⟨xb, off + k * 4 + 1, none⟩) hxb).trans e1
        have c2 := (hbr.cell (p := ⟨xb, off + k * 4 + 2, none⟩) hxb).trans e2
        have c3 := (hbr.cell (p := ⟨xb, off + k * 4 + 3, none⟩) hxb).trans e3
        have hki : (k : Int) < n := by omega
        have hk0 : (0 : Int) ≤ k := by omega
        obtain ⟨own, D, v0, v1, hD, hge⟩ := HP.out.has
        obtain ⟨kd, rg, nn, dt⟩ := x
        dsimp only at hdx eS c0 c1' c2 c3
        obtain ⟨q, hq⟩ : ∃ q, dt.length = q := ⟨_, rfl⟩
        rw [hq] at c3 eS hdx
        have HQ := Lib.hid hq
        have hA : Below wo.heap.size wo (wo.alloc (.cells #[.int .i64 kd, .int .i64 rg, .int .i64 nn, .slice va q vc] 36)) := (Below.refl _ _).alloc (Nat.le_refl _) _
        obtain ⟨wA, hwA⟩ : ∃ wA, wo.alloc (.cells #[.int .i64 kd, .int .i64 rg, .int .i64 nn, .slice va q vc] 36) = wA := ⟨_, rfl⟩
        have hEA : wA.heap[wo.heap.size]? = some (.cells #[.int .i64 kd, .int .i64 rg, .int .i64 nn, .slice va q vc] 36 (0, 0)) := by rw [← hwA]; exact World.alloc_heap_new _ _
        have hAz : wA.heap.size = wo.heap.size + 1 := by rw [← hwA]; simp
        rw [hwA] at hA
        have HWA := Lib.hid hwA
        have HEA := Lib.hid hEA
        have HAZ := Lib.hid hAz
        have HA := Lib.hid hA
        have HES := Lib.hid eS
        have HCL := Lib.hid (clone_any wA (hD.below hA))
        have HD := Lib.hid hD
        have HGE := Lib.hid hge
        have HBR := Lib.hid hbr
        have hbW := hD.blk.lt
        have HCP := Lib.hid (fun (W : World) (hb : Below w.heap.size w W) => copyY_any va q vc dt (by omega) W ((eS.below hb).mono hb.size))
        clear hx e0 e1 e2 e3 eS hxm hbr hD hge hA hEA hAz hwA hq
        go_wp2_with fail
        rw [HWA.out]
        clear HWA
        refine HCL.out.mono ?_
        rintro e w2' ⟨ownc, xc, yc, rfl, hC2, hb2, hgc⟩
        have hE2 := (hb2.block wo.heap.size (by have := HAZ.out; omega)).trans HEA.out
        have k0 : w2'.cell? ⟨wo.heap.size, 0, none⟩ = some (.int .i64 kd) := cell_of_row w2' _ 0 _ _ _ hE2
        have k1 : w2'.cell? ⟨wo.heap.size, 1, none⟩ = some (.int .i64 rg) := cell_of_row w2' _ 1 _ _ _ hE2
        have k2 : w2'.cell? ⟨wo.heap.size, 2, none⟩ = some (.int .i64 nn) := cell_of_row w2' _ 2 _ _ _ hE2
        have k3 : w2'.cell? ⟨wo.heap.size, 3, none⟩ = some (.slice va q vc) := cell_of_row w2' _ 3 _ _ _ hE2
        have hE2b := (Array.getElem?_eq_some_iff.1 hE2).1
        have HE2 := Lib.hid hE2
        have HC2 := Lib.hid hC2
        have HB2 := Lib.hid hb2
        have HGC := Lib.hid hgc
        clear hE2 hC2 hb2 hgc HCL HEA
        go_wp2_with fail
        have s12 : wo.heap.size < wA.heap.size := by have := HAZ.out; omega
        have s23 : wA.heap.size < w2'.heap.size := HC2.out.blk.lt
        obtain ⟨w3', hw3⟩ : ∃ w3', w2'.alloc (.cells #[.int .i64 kd, .int .i64 rg, .int .i64 nn, .slice va q vc] 36) = w3' := ⟨_, rfl⟩
        rw [hw3]
        have hb3 : Below w2'.heap.size w2' w3' := by rw [← hw3]; exact (Below.refl _ _).alloc (Nat.le_refl _) _
        have hM3 : w3'.heap[w2'.heap.size]? = some (.cells #[.int .i64 kd, .int .i64 rg, .int .i64 nn, .slice va q vc] 36 (0, 0)) := by rw [← hw3]; exact World.alloc_heap_new _ _
        have s34 : w2'.heap.size < w3'.heap.size := (Array.getElem?_eq_some_iff.1 hM3).1
        have hB3 : Below w.heap.size w w3' := ((HBR.out.trans (HA.out.mono HBR.out.size)).trans (HB2.out.mono (Nat.le_trans HBR.out.size HA.out.size))).trans (hb3.mono (Nat.le_trans (Nat.le_trans HBR.out.size HA.out.size) HB2.out.size))
        have HB3 := Lib.hid hB3
        have HM3 := Lib.hid hM3
        have Hb3 := Lib.hid hb3
        have HCPY := Lib.hid (HCP.out w3' hB3)
        clear hw3 hb3 hM3 hB3 HCP k0 k1 k2 k3
        refine HCPY.out.mono ?_
        rintro e w4 ⟨cv, rfl, hcv, hb4⟩
        rw [HQ.out] at hcv
        obtain ⟨cp, cc, hcvf⟩ := sl_row hcv
        subst hcvf
        have s45 := hb4.size
        have hE4 := (hb4.block wo.heap.size (by omega)).trans ((Hb3.out.block wo.heap.size (by omega)).trans HE2.out)
        have hM4 := (hb4.block w2'.heap.size s34).trans HM3.out
        have k0 : w4.cell? ⟨wo.heap.size, 0, none⟩ = some (.int .i64 kd) := cell_of_row w4 _ 0 _ _ _ hE4
        have k1 : w4.cell? ⟨wo.heap.size, 1, none⟩ = some (.int .i64 rg) := cell_of_row w4 _ 1 _ _ _ hE4
        have k2 : w4.cell? ⟨wo.heap.size, 2, none⟩ = some (.int .i64 nn) := cell_of_row w4 _ 2 _ _ _ hE4
        have k3 : w4.cell? ⟨wo.heap.size, 3, none⟩ = some (.slice va q vc) := cell_of_row w4 _ 3 _ _ _ hE4
        have m3 : w4.cell? ⟨w2'.heap.size, 3, none⟩ = some (.slice va q vc) := cell_of_row w4 _ 3 _ _ _ hM4
        have f3 := frozen_of_row w4 w2'.heap.size 3 _ _ hM4
        have hEM : wo.heap.size ≠ w2'.heap.size := by omega
        have hME : w2'.heap.size ≠ wo.heap.size := by omega
        have hB4 := HB3.out.trans (hb4.mono HB3.out.size)
        have HB4 := Lib.hid hB4
        have HCV := Lib.hid hcv
        have Hb4 := Lib.hid hb4
        have HE4 := Lib.hid hE4
        have HM4 := Lib.hid hM4
        clear hB4 hcv hb4 hE4 hM4 HCPY HM3 HE2
        go_wp2_with fail
        obtain ⟨w5, hw5⟩ : ∃ w5, w4.setCell ⟨w2'.heap.size, 3, none⟩ (.slice cp q cc) = w5 := ⟨_, rfl⟩
        rw [hw5]
        have hbM : But [w2'.heap.size] w4 w5 := by rw [← hw5]; exact (But.refl _ _).set (by simp) _
        have hM5 : w5.heap[w2'.heap.size]? = some (.cells #[.int .i64 kd, .int .i64 rg, .int .i64 nn, .slice cp q cc] 36 (0, 0)) := by rw [← hw5]; exact heap_setCell_same w4 _ 3 _ _ _ HM4.out
        have s56 : w4.heap.size = w5.heap.size := by rw [← hw5]; simp [World.setCell]
        have hE5 := (hbM.block wo.heap.size (by omega) (by simp; omega)).trans HE4.out
        have hcv5 := own_keep HCV.out hbM (fun k hk hk2 => by simp at hk2; have := row_block HCV.out k hk; omega)
        have hD5 := ((((HD.out.below HA.out).below HB2.out).below Hb3.out).below Hb4.out).but hbM (fun k hk hk2 => by simp at hk2; have := HD.out.lt k hk; omega)
        have hC5 := (((HC2.out.below Hb3.out).below Hb4.out)).but hbM (fun k hk hk2 => by simp at hk2; have := HC2.out.lt k hk; omega)
        have hB5 : Below w.heap.size w w5 := but_keeps HB4.out (fun k hk => by simp at hk; have := HBR.out.size; omega) hbM
        have HM5 := Lib.hid hM5
        have HE5 := Lib.hid hE5
        have HCV5 := Lib.hid hcv5
        have HD5 := Lib.hid hD5
        have HC5 := Lib.hid hC5
        have HB5 := Lib.hid hB5
        have HLO := Lib.hid HD.out.lt
        have HLC := Lib.hid HC2.out.lt
        have HRB := Lib.hid (row_block HCV.out)
        have S56 := Lib.hid s56
        clear hw5 hbM hM5 hE5 hcv5 hD5 hC5 hB5 k0 k1 k2 k3 m3 f3 HCV HE4 HM4 HB4 Hb4 Hb3 HC2 HD HA HB2 s56
        have HBY := Lib.hid (bytes_any rg w5 HD5.out)
        refine HBY.out.mono ?_
        rintro e w6 ⟨bv, rfl, hbv, hb6⟩
        obtain ⟨bp, bq, hbvf⟩ := sl_row hbv
        subst hbvf
        obtain ⟨L0, hL0⟩ : ∃ L, (D.row rg).length = L := ⟨_, rfl⟩
        have hrb := HD5.out.ok.row rg
        rw [hL0] at hbv hrb ⊢
        have hL0b : L0 ≤ 1048576 := by have := HD5.out.ok.cap; omega
        have s67 := hb6.size
        have s5 : w4.heap.size ≤ w5.heap.size := by have := S56.out; omega
        have hM6 := (hb6.block w2'.heap.size (by omega)).trans HM5.out
        have hE6 := (hb6.block wo.heap.size (by omega)).trans HE5.out
        have m0 : w6.cell? ⟨w2'.heap.size, 0, none⟩ = some (.int .i64 kd) := cell_of_row w6 _ 0 _ _ _ hM6
        have m1 : w6.cell? ⟨w2'.heap.size, 1, none⟩ = some (.int .i64 rg) := cell_of_row w6 _ 1 _ _ _ hM6
        have m2 : w6.cell? ⟨w2'.heap.size, 2, none⟩ = some (.int .i64 nn) := cell_of_row w6 _ 2 _ _ _ hM6
        have m3 : w6.cell? ⟨w2'.heap.size, 3, none⟩ = some (.slice cp q cc) := cell_of_row w6 _ 3 _ _ _ hM6
        have hcv6 := own_keep HCV5.out (But.of_below (own := []) hb6) (fun k hk hk2 => by cases hk2)
        have hS6 : Sl encY w6.heap.size w6 (.slice cp q cc) dt := Sl.of_owns (by rw [HQ.out]; exact hcv6)
        have hoff6 : Off own (.slice cp q cc) := off_row (W0 := w3') hcv6 own (fun k hk => by have := HLO.out k hk; omega)
        have hdo := do_any ⟨kd, rg, nn, dt⟩ HXO.out (by show dt.length ≤ _; rw [HQ.out]; omega) (by decide : R0.tn ≤ 1099511627776) cp cc w6 (HD5.out.below hb6) (r0_at w6) (off_none _) (off_none _) (by show Sl encY _ _ (.slice cp dt.length cc) dt; rw [HQ.out]; exact hS6) (by show Off own (.slice cp dt.length cc); rw [HQ.out]; exact hoff6)
        dsimp only [OpS.val, RefS.val, R0] at hdo
        rw [HQ.out] at hdo
        have HDO := Lib.hid hdo
        have HBV := Lib.hid hbv
        have HM6 := Lib.hid hM6
        have HE6 := Lib.hid hE6
        have HCV6 := Lib.hid hcv6
        have HC6 := Lib.hid (HC5.out.below hb6)
        have HB6 := Lib.hid (HB5.out.trans (hb6.mono HB5.out.size))
        have HBB := Lib.hid (row_block hbv)
        have HL0 := Lib.hid hL0
        clear hbv hM6 hE6 hcv6 hS6 hoff6 hdo hb6 hL0 HBY HD5 HC5 HB5 HCV5 HM5 HE5
        go_wp2_with fail
        refine HDO.out.mono ?_
        rintro e w7 ⟨own', x', y', A', B', rfl, hD7, _, _, _, hb7, hs7⟩
        have s78 := hb7.size
        have ho6 : ∀ k ∈ own, k < wo.heap.size := HLO.out
        have hM7 := (hb7.block w2'.heap.size (by omega) (fun hk => by have := ho6 _ hk; omega)).trans HM6.out
        have hE7 := (hb7.block wo.heap.size (by omega) (fun hk => by have := ho6 _ hk; omega)).trans HE6.out
        have hcv7 := own_keep HCV6.out hb7 (fun k hk hk2 => by have := HRB.out k (by simpa using hk); have := ho6 k hk2; omega)
        have hbv7 := own_keep HBV.out hb7 (fun k hk hk2 => by have := HBB.out k (by simpa using hk); have := ho6 k hk2; omega)
        have hC7 := HC6.out.but hb7 (fun k hk hk2 => by have := HGC.out k hk; have := ho6 k hk2; omega)
        have hB7 := but_keeps HB6.out HGE.out hb7
        have hge7 : ∀ k ∈ own', w.heap.size ≤ k := fun k hk => (hs7 k hk).elim (HGE.out k) (fun h => by have := HB6.out.size; omega)
        have hr7 : ∀ k ∈ own', k < wo.heap.size ∨ w6.heap.size ≤ k := fun k hk => (hs7 k hk).imp (ho6 k) id
        have m3 : w7.cell? ⟨w2'.heap.size, 3, none⟩ = some (.slice cp q cc) := cell_of_row w7 _ 3 _ _ _ hM7
        have hinc := IncI.start HXO.out.data HQ.out hcv7
        have hlcv : ∀ k ∈ (Value.slice cp q cc).ownBlock.toList, w3'.heap.size ≤ k ∧ k < w4.heap.size := fun k hk => HRB.out k hk
        have HM7 := Lib.hid hM7
        have HE7 := Lib.hid hE7
        have HBV7 := Lib.hid hbv7
        have HD7 := Lib.hid hD7
        have HC7 := Lib.hid hC7
        have HB7 := Lib.hid hB7
        have HGE7 := Lib.hid hge7
        have HR7 := Lib.hid hr7
        have HINC := Lib.hid hinc
        have HLCV := Lib.hid hlcv
        clear hM7 hE7 hcv7 hbv7 hD7 hC7 hB7 hge7 hr7 hinc hlcv hb7 hs7 ho6 HDO HCV6 HM6 HE6 HC6 HB6 m0 m1 m2 HBV
        go_wp2
        go_loopw [45] (fun i wr2 => ∃ j : Nat, j ≤ q ∧ i = .int .i64 j ∧ IncI w3'.heap.size (.slice cp q cc) q w7 wr2) (fun i _ => q - (intOf i).toNat)
        case atStart => exact ⟨0, Nat.zero_le _, rfl, HINC.out⟩
        case round =>
          obtain ⟨j, hj, rfl, hI⟩ := hrel
          by_cases hjq : j < q
          · obtain ⟨g, y, hcp, hy, hcl, hfr, hst⟩ := hI.step hjq
            have hMw := (hI.but.block w2'.heap.size (by omega) (fun hk => by have := HLCV.out _ hk; omega)).trans HM7.out
            have m3' : wr.cell? ⟨w2'.heap.size, 3, none⟩ = some (.slice cp q cc) := cell_of_row wr _ 3 _ _ _ hMw
            subst hcp
            obtain ⟨z, hz256, hz1, hz2⟩ := incr8 y
            have HST := Lib.hid (hst z hz256)
            have hji : (j : Int) < q := by omega
            have hj0 : (0 : Int) ≤ j := by omega
            clear hI hst hMw m3
            go_wp2
            exact ⟨⟨j + 1, hjq, by go_num, HST.out⟩, by simp [intOf]; omega⟩
          · obtain rfl : j = q := by omega
            have hji : ¬ (j : Int) < j := by omega
            obtain ⟨w8, hw8⟩ : ∃ w8, w8 = wr := ⟨_, rfl⟩
            subst hw8
            have hb8 := hI.but
            have s89 : w7.heap.size ≤ w8.heap.size := hb8.size
            have hsw := HBR.out.size
            have hD8 := HD7.out.but hb8 (fun k hk hk2 => by have := HR7.out k hk; have := HLCV.out k hk2; omega)
            have hC8 := HC7.out.but hb8 (fun k hk hk2 => by have := HLC.out k hk; have := HLCV.out k hk2; omega)
            have hE8 := (hb8.block wo.heap.size (by omega) (fun hk => by have := HLCV.out _ hk; omega)).trans HE7.out
            have hbv8 := own_keep HBV7.out hb8 (fun k hk hk2 => by have := HBB.out k hk; have := HLCV.out k hk2; omega)
            have hB8 := but_keeps HB7.out (fun k hk => by have := HLCV.out k hk; omega) hb8
            have e0 : w8.cell? ⟨wo.heap.size, 0, none⟩ = some (.int .i64 kd) := cell_of_row w8 _ 0 _ _ _ hE8
            have e1 : w8.cell? ⟨wo.heap.size, 1, none⟩ = some (.int .i64 rg) := cell_of_row w8 _ 1 _ _ _ hE8
            have e2 : w8.cell? ⟨wo.heap.size, 2, none⟩ = some (.int .i64 nn) := cell_of_row w8 _ 2 _ _ _ hE8
            have e3 : w8.cell? ⟨wo.heap.size, 3, none⟩ = some (.slice va j vc) := cell_of_row w8 _ 3 _ _ _ hE8
            have hoffc : Off ownc (.slice va j vc) := off_old HES.out ownc (fun k hk => by have := HGC.out k hk; omega)
            have hSd : Sl encY w8.heap.size w8 (.slice va j vc) dt := (HES.out.below hB8).mono hB8.size
            have hdo := do_any ⟨kd, rg, nn, dt⟩ HXO.out (by show dt.length ≤ _; rw [HQ.out]; omega) (by decide : R0.tn ≤ 1099511627776) va vc w8 hC8 (r0_at w8) (off_none _) (off_none _) (by show Sl encY _ _ (.slice va dt.length vc) dt; rw [HQ.out]; exact hSd) (by show Off ownc (.slice va dt.length vc); rw [HQ.out]; exact hoffc)
            dsimp only [OpS.val, RefS.val, R0] at hdo
            rw [HQ.out] at hdo
            have HDO := Lib.hid hdo
            have HD8 := Lib.hid hD8
            have HE8 := Lib.hid hE8
            have HBV8 := Lib.hid hbv8
            have HB8 := Lib.hid hB8
            clear hb8 hD8 hC8 hE8 hbv8 hB8 hoffc hSd hdo hI HINC HD7 HC7 HE7 HBV7 HB7 HM7 m3
            go_wp2_with fail
            refine HDO.out.mono ?_
            rintro e w9 ⟨ownc', xc', yc', A2, B2, rfl, hC9, _, _, _, hb9, hs9⟩
            have s90 := hb9.size
            have hD9 := HD8.out.but hb9 (fun k hk hk2 => by have := HR7.out k hk; have := HGC.out k hk2; have := HLC.out k hk2; omega)
            have hE9 := (hb9.block wo.heap.size (by omega) (fun hk => by have := HGC.out _ hk; omega)).trans HE8.out
            have hbv9 := own_keep HBV8.out hb9 (fun k hk hk2 => by have := HBB.out k hk; have := HLC.out k hk2; omega)
            have hB9 := but_keeps HB8.out (fun k hk => by have := HGC.out k hk; omega) hb9
            have hr9 : ∀ k ∈ ownc', (wA.heap.size ≤ k ∧ k < w2'.heap.size) ∨ w8.heap.size ≤ k := fun k hk => (hs9 k hk).imp (fun h => ⟨HGC.out k h, HLC.out k h⟩) id
            obtain ⟨DD, hDD⟩ : ∃ DD, doD D ⟨kd, rg, nn, dt⟩ = DD := ⟨_, rfl⟩
            rw [hDD] at hD9 hC9
            have HD9 := Lib.hid hD9
            have HC9 := Lib.hid hC9
            have HE9 := Lib.hid hE9
            have HBV9 := Lib.hid hbv9
            have HB9 := Lib.hid hB9
            have HR9 := Lib.hid hr9
            clear hD9 hC9 hE9 hbv9 hB9 hr9 hb9 hs9 hDD HDO HD8 HE8 HBV8 HB8 e0 e1 e2 e3
            go_wp2
            go_loopw [12] (fun i wr => ∃ j : Nat, j ≤ 2 ∧ i = .int .i64 j ∧ Below w9.heap.size w9 wr) (fun i _ => 2 - (intOf i).toNat)
            case atStart => exact ⟨0, by omega, rfl, Below.refl _ _⟩
            case round =>
              obtain ⟨i3, hi3, rfl, hI3⟩ := hrel
              by_cases hi2 : i3 < 2
              · have hDw := HD9.out.below hI3
                have hCw := HC9.out.below hI3
                have hrow := hDw.ok.row (i3 : Int)
                have LD := len_any (i3 : Int) wr hDw
                have LC := capacity_any wr hDw.blk
                have HY := Lib.hid (bytes_any (i3 : Int) wr hDw)
                obtain ⟨XL, hXL⟩ : ∃ XL, DD.row (i3 : Int) = XL := ⟨_, rfl⟩
                rw [hXL] at LD HY hrow
                obtain ⟨L, hL⟩ : ∃ L, XL.length = L := ⟨_, rfl⟩
                obtain ⟨CP, hCP⟩ : ∃ CP, DD.cap = CP := ⟨_, rfl⟩
                have hcp2 := hDw.ok.cap
                rw [hL] at LD HY hrow
                rw [hCP] at LC hrow hcp2
                have hle : ¬ (CP : Int) < (L : Int) := by omega
                have HLD := Lib.hid LD
                have HLC' := Lib.hid LC
                have HXL := Lib.hid hXL
                have HL := Lib.hid hL
                have HI3 := Lib.hid hI3
                have HCW := Lib.hid hCw
                have hi2i : (i3 : Int) < 2 := by omega
                have hL1 : L ≤ 1048576 := by omega
                clear hDw hCw LD LC hXL hL hCP hI3 hrow hcp2
                go_wp2_with fail
                refine HLD.out.mono ?_
                rintro e w' ⟨rfl, rfl⟩
                go_wp2_with fail
                refine HLC'.out.mono ?_
                rintro e w' ⟨rfl, rfl⟩
                go_wp2_with fail
                refine HY.out.mono ?_
                rintro e wa ⟨v1, rfl, hv1, hba⟩
                obtain ⟨p1', q1', hv1f⟩ := sl_row hv1
                subst hv1f
                have HY2 := Lib.hid (bytes_any (i3 : Int) wa (HCW.out.below hba))
                rw [HXL.out, HL.out] at HY2
                have HV1 := Lib.hid hv1
                have HBA := Lib.hid hba
                clear hv1 hba HY HLD HLC'
                go_wp2_with fail
                refine HY2.out.mono ?_
                rintro e wb ⟨v2, rfl, hv2, hbb⟩
                obtain ⟨p2', q2', hv2f⟩ := sl_row hv2
                subst hv2f
                have HSM := Lib.hid (sameY_any p1' p2' L q1' L q2' XL XL wb (by rw [HL.out]; exact hL1) (by rw [HL.out]; exact hL1) (hS_step (Sl.of_owns (by rw [HL.out]; exact HV1.out)) hbb) (Sl.of_owns (by rw [HL.out]; exact hv2)))
                rw [decide_eq_true rfl] at HSM
                have HBW := Lib.hid ((HI3.out.trans (HBA.out.mono HI3.out.size)).trans (hbb.mono (Nat.le_trans HI3.out.size HBA.out.size)))
                clear hv2 hbb HY2 HV1 HBA
                go_wp2_with fail
                refine HSM.out.mono ?_
                rintro e wc ⟨rfl, hbc⟩
                have HBC := Lib.hid (HBW.out.trans (hbc.mono HBW.out.size))
                clear hbc HSM HBW
                go_wp2
                exact ⟨⟨i3 + 1, by omega, by go_num, HBC.out⟩, by simp [intOf]; omega⟩
              · obtain rfl : i3 = 2 := by omega
                have hi2i : ¬ ((2 : Nat) : Int) < 2 := by omega
                obtain ⟨w10, hw10⟩ : ∃ w10, w10 = wr := ⟨_, rfl⟩
                subst hw10
                have hbv10 := own_keep HBV9.out (But.of_below (own := []) hI3) (fun k hk hk2 => by cases hk2)
                have hinc := IncI.start hrb.2 HL0.out hbv10
                have HINC4 := Lib.hid hinc
                have HD10 := Lib.hid (HD9.out.below hI3)
                have HC10 := Lib.hid (HC9.out.below hI3)
                have HE10 := Lib.hid ((hI3.block wo.heap.size (by omega)).trans HE9.out)
                have HB10 := Lib.hid (HB9.out.trans (hI3.mono HB9.out.size))
                have s1011 := hI3.size
                clear hbv10 hinc hI3 HD9 HC9 HE9 HBV9 HB9
                go_wp2
                go_loopw [82] (fun i wr => ∃ j : Nat, j ≤ L0 ∧ i = .int .i64 j ∧ IncI w5.heap.size (.slice bp L0 bq) L0 w10 wr) (fun i _ => L0 - (intOf i).toNat)
                case atStart => exact ⟨0, Nat.zero_le _, rfl, HINC4.out⟩
                case round =>
                  obtain ⟨j4, hj4, rfl, hI4⟩ := hrel
                  by_cases hjq4 : j4 < L0
                  · obtain ⟨g, y, hcp, hy, hcl, hfr, hst⟩ := hI4.step hjq4
                    subst hcp
                    obtain ⟨z, hz256, hz1, hz2⟩ := incr8 y
                    have HST := Lib.hid (hst z hz256)
                    have hji4 : (j4 : Int) < L0 := by omega
                    have hj04 : (0 : Int) ≤ j4 := by omega
                    clear hI4 hst
                    go_wp2
                    exact ⟨⟨j4 + 1, hjq4, by go_num, HST.out⟩, by simp [intOf]; omega⟩
                  · obtain ⟨w11, hw11⟩ : ∃ w11, w11 = wr := ⟨_, rfl⟩
                    subst hw11
                    have hji4 : ¬ (j4 : Int) < L0 := by omega
                    have hb11 := hI4.but
                    have hD11 := HD10.out.but hb11 (fun k hk hk2 => by have := HR7.out k hk; have := HBB.out k hk2; omega)
                    have hC11 := HC10.out.but hb11 (fun k hk hk2 => by have := HR9.out k hk; have := HBB.out k hk2; omega)
                    have hE11 := (hb11.block wo.heap.size (by omega) (fun hk => by have := HBB.out _ hk; omega)).trans HE10.out
                    have hB11 := but_keeps HB10.out (fun k hk => by have := HBB.out k hk; omega) hb11
                    have hrowD := hD11.ok.row rg
                    have hcapD := hD11.ok.cap
                    have hxb11 := (Array.getElem?_eq_some_iff.1 hE11).1
                    obtain ⟨XL, hXL⟩ : ∃ XL, DD.row rg = XL := ⟨_, rfl⟩
                    obtain ⟨L, hL⟩ : ∃ L, XL.length = L := ⟨_, rfl⟩
                    rw [hXL, hL] at hrowD
                    have hL1 : L ≤ 1048576 := by omega
                    have HXL := Lib.hid hXL
                    have HL := Lib.hid hL
                    have HD11 := Lib.hid hD11
                    have HC11 := Lib.hid hC11
                    have HE11 := Lib.hid hE11
                    have HB11 := Lib.hid hB11
                    clear hb11 hD11 hC11 hE11 hB11 hrowD hcapD hXL hL hI4 HINC4 HD10 HC10 HE10 HB10
                    go_wp2_with fail
                    refine region_rel (l := _) (by kernel_rfl) (by decide +kernel) (fun v => { tmps := #[.int .i64 a0, .slice (some ⟨xb, off, none⟩) n c1, undef, undef, u4, .pointer (some ⟨b, 0, none⟩), undef, .pointer (some ⟨wo.heap.size, 0, none⟩), .pointer (some ⟨wA.heap.size, 0, none⟩), .pointer (some ⟨w2'.heap.size, 0, none⟩), .slice bp L0 bq, u11, .int .i64 2, u13, .bool true, .bool false, .slice (some ⟨xb, off, none⟩) n c1, .bool true, .bool false, .int .i64 a0, .pointer (some ⟨b, 0, none⟩), .slice (some ⟨xb, off, none⟩) n c1, .int .i64 n, .int .i64 k, .bool true, .pointer (some ⟨xb, off + k * 4, none⟩),
                      .agg #[.int .i64 kd, .int .i64 rg, .int .i64 nn, .slice va j vc], .pointer (some ⟨b, 0, none⟩), .pointer (some ⟨wA.heap.size, 0, none⟩), .agg #[.int .i64 kd, .int .i64 rg, .int .i64 nn, .slice va j vc], .pointer (some ⟨wo.heap.size, 3, none⟩), .slice va j vc, .slice cp j cc, .pointer (some ⟨w2'.heap.size, 3, none⟩), .pointer (some ⟨b, 0, none⟩), .pointer (some ⟨wo.heap.size, 1, none⟩), .int .i64 rg, .slice bp L0 bq, .pointer (some ⟨b, 0, none⟩),
                      .agg #[.slice none 0 0, .slice none 0 0, .int .i64 0, .int .i64 0, .bool false, .int .i64 0], .agg #[.int .i64 kd, .int .i64 rg, .int .i64 nn, .slice cp j cc], .tuple #[(doR ⟨0, [], [], false, 0, 0⟩ ⟨kd, rg, nn, dt⟩).val A' B', .bool (doB D ⟨0, [], [], false, 0, 0⟩ ⟨kd, rg, nn, dt⟩)], .pointer (some ⟨w2'.heap.size, 3, none⟩), .slice cp j cc, .int .i64 j, .int .i64 j, .bool false, u47, u48, u49, u50, u51, u52, u53, u54, u55, .pointer (some ⟨wA.heap.size, 0, none⟩),
                      .agg #[.slice none 0 0, .slice none 0 0, .int .i64 0, .int .i64 0, .bool false, .int .i64 0], .agg #[.int .i64 kd, .int .i64 rg, .int .i64 nn, .slice va j vc], .tuple #[(doR ⟨0, [], [], false, 0, 0⟩ ⟨kd, rg, nn, dt⟩).val A2 B2, .bool (doB D ⟨0, [], [], false, 0, 0⟩ ⟨kd, rg, nn, dt⟩)], .int .i64 2, .bool false, u62, u63, u64, u65, u66, u67, u68, u69, u70, u71, u72, u73, u74, u75, u76, u77, u78, u79, .slice bp L0 bq, .int .i64 L0, .int .i64 j4, .bool false, u84, u85, u86, u87, u88, u89, u90, u91, v 0, v 1, v 2, v 3, v 4, v 5, v 6, v 7, v 8, v 9, u102], defers := [] }) (fun W => Below w11.heap.size w11 W) (fun i' u W => match i' with
                      | 0 => u = .pointer (some ⟨b, 0, none⟩)
                      | 1 => u = .pointer (some ⟨wo.heap.size, 1, none⟩)
                      | 2 => u = .int .i64 rg
                      | 3 => ∃ p c, u = .slice p L c ∧ Sl encY W.heap.size W u XL
                      | 4 => u = .pointer (some ⟨wA.heap.size, 0, none⟩)
                      | 5 => u = .pointer (some ⟨wo.heap.size, 1, none⟩)
                      | 6 => u = .int .i64 rg
                      | 7 => ∃ p c, u = .slice p L c ∧ Sl encY W.heap.size W u XL
                      | 8 => u = .bool true
                      | 9 => u = .bool false
                      | _ => True) (fun A B => Below A.heap.size A B) ?hC ?hV (fun i' => [u92, u93, u94, u95, u96, u97, u98, u99, u100, u101].getD i' undef) ?h0 ?hop ?hend
                    case hC => exact fun A B h h2 => h.trans (h2.mono h.size)
                    case h0 => exact (Below.refl _ _).drew
                    case hV =>
                      intro i' u A B h hx
                      match i', h with
                      | 3, ⟨p, c, e, h⟩ => exact ⟨p, c, e, (h.below hx).mono hx.size⟩
                      | 7, ⟨p, c, e, h⟩ => exact ⟨p, c, e, (h.below hx).mono hx.size⟩
                      | 0, h => exact h
                      | 1, h => exact h
                      | 2, h => exact h
                      | 4, h => exact h
                      | 5, h => exact h
                      | 6, h => exact h
                      | 8, h => exact h
                      | 9, h => exact h
                      | n + 10, h => trivial
                    case hop =>
                      simp only [AllDo]
                      refine ⟨?o0, ?o1, ?o2, ?o3, ?o4, ?o5, ?o6, ?o7, ?o8, ?o9, trivial⟩
                      all_goals intro v W hc hd Q hQ
                      all_goals simp [Region.binds] at hd
                      all_goals rw [if_pos (show Region.wanted _ _ = true from rfl)]
                      case o0 => go_wp2; exact ⟨_, rfl, Below.refl _ _, rfl⟩
                      case o1 => go_wp2; exact ⟨_, rfl, Below.refl _ _, rfl⟩
                      case o2 =>
                        have rW := (hc.block wo.heap.size hxb11).trans HE11.out
                        have k1 : W.cell? ⟨wo.heap.size, 1, none⟩ = some (.int .i64 rg) := cell_of_row W _ 1 _ _ _ rW
                        clear rW
                        go_wp2
                        first | exact ⟨_, rfl, Below.refl _ _, rfl⟩ | (refine ⟨_, ?_, Below.refl _ _, rfl⟩; simp [updV, hd]) | exact ⟨by simp_all [updV], Below.refl _ _⟩
                      case o3 =>
                        obtain ⟨h1, h2⟩ := hd
                        have HBY := Lib.hid (bytes_any rg W (HD11.out.below hc))
                        rw [HXL.out, HL.out] at HBY
                        go_wp2_with fail
                        refine HBY.out.mono ?_
                        rintro e W' ⟨v', rfl, hown, hb'⟩
                        have hS' : Sl encY W'.heap.size W' v' XL := Sl.of_owns (by rw [HL.out]; exact hown)
                        obtain ⟨p', c', hv'⟩ := hS'.form
                        rw [HL.out] at hv'
                        have HS' := Lib.hid hS'
                        have HV' := Lib.hid hv'
                        clear hS' hown hv'
                        go_wp2
                        refine ⟨v', ?_, hb', p', c', HV'.out, HS'.out⟩
                        simp [updV, h1, h2]
                      case o4 => go_wp2; exact ⟨_, rfl, Below.refl _ _, rfl⟩
                      case o5 => go_wp2; exact ⟨_, rfl, Below.refl _ _, rfl⟩
                      case o6 =>
                        have rW := (hc.block wo.heap.size hxb11).trans HE11.out
                        have k1 : W.cell? ⟨wo.heap.size, 1, none⟩ = some (.int .i64 rg) := cell_of_row W _ 1 _ _ _ rW
                        clear rW
                        go_wp2
                        first | exact ⟨_, rfl, Below.refl _ _, rfl⟩ | (refine ⟨_, ?_, Below.refl _ _, rfl⟩; simp [updV, hd]) | exact ⟨by simp_all [updV], Below.refl _ _⟩
                      case o7 =>
                        obtain ⟨h1, h2, h3⟩ := hd
                        have HBY := Lib.hid (bytes_any rg W (HC11.out.below hc))
                        rw [HXL.out, HL.out] at HBY
                        go_wp2_with fail
                        refine HBY.out.mono ?_
                        rintro e W' ⟨v', rfl, hown, hb'⟩
                        have hS' : Sl encY W'.heap.size W' v' XL := Sl.of_owns (by rw [HL.out]; exact hown)
                        obtain ⟨p', c', hv'⟩ := hS'.form
                        rw [HL.out] at hv'
                        have HS' := Lib.hid hS'
                        have HV' := Lib.hid hv'
                        clear hS' hown hv'
                        go_wp2
                        refine ⟨v', ?_, hb', p', c', HV'.out, HS'.out⟩
                        simp [updV, h1, h2]
                      case o8 =>
                        obtain ⟨⟨⟨p', c', h1⟩, h2⟩, ⟨p2, c2, h3⟩, h4⟩ := hd
                        rw [h1] at h2
                        rw [h3] at h4
                        have HSM := Lib.hid (sameY_any p' p2 L c' L c2 XL XL W (by rw [HL.out]; exact hL1) (by rw [HL.out]; exact hL1) h2 h4)
                        rw [decide_eq_true rfl] at HSM
                        go_wp2_with fail
                        refine HSM.out.mono ?_
                        rintro e W' ⟨rfl, hb'⟩
                        go_wp2
                        refine ⟨.bool true, ?_, hb', rfl⟩
                        simp [updV, h1, h3]
                      case o9 => go_wp2; first | exact ⟨_, rfl, Below.refl _ _, rfl⟩ | exact ⟨by simp_all [updV], Below.refl _ _⟩
                    case hend =>
                      intro v W hc hv
                      have h9 : v 9 = .bool false := hv 9 (by decide)
                      have hki9 : KeepI w b W := ⟨⟨own', _, _, _, HD11.out.below hc, HGE7.out⟩, HB11.out.trans (hc.mono HB11.out.size)⟩
                      have HKI9 := Lib.hid hki9
                      clear hv hc hki9
                      dsimp only
                      rw [h9]
                      go_wp2_with fail
                      go_roundw
                      case rel => first | exact ⟨k + 1, hlt, by go_num, HKI9.out⟩ | ((repeat apply Exists.intro); exact ⟨⟨k + 1, hlt, by go_num, HKI9.out⟩, rfl⟩)
                      case measure => simp [intOf]; omega
      · have hki : ¬ (k : Int) < n := by omega
        go_wp2
        go_ret
        exact ⟨rfl, HP.out.below⟩


set_option maxRecDepth 100000 in
theorem lifted (os : Os) (started : os.Started) (H : Type) (enc : TypeId × Value → H) :
    ReturnsInHanded {} Try.checked os 5 .any (Rows.deviceKeepsSpec.pre6 enc Try.prog Try.f5 Rows.deviceKeepsRow.domain false) (Rows.deviceKeepsSpec.post enc Try.prog Try.f5 false true false false) := by
  refine returnsInHanded_of_change (C := Try.checked) own started (by kernel_rfl) Try.func5
    (ChangeSpec.witness6 (enc := enc) (C := Try.checked) false ⟨#[], #[.int .i64 0, .slice none 0 0], []⟩ 8 (by kernel_rfl) (by kernel_rfl) (by kernel_rfl) (by kernel_rfl)) ?_
  intro W base args ds gs before hval0 hW hcnd _
  have hval : ∀ (j : Nat) t v, Try.f5.params[j]? = some t → args[j]? = some v → Value.okWide Try.prog W .any base t v := hval0
  have hW' := hW
  obtain ⟨p, q, hA0, hV, rfl, hfz, hnd⟩ := hW
  have hA : DataW.TrodAll enc Try.prog W 0 (fun _ => true) true Try.f5.params.toList args.toList ds p := hA0
  rw [Try.params5] at hA hval
  have hAk := hA
  obtain ⟨v0, vs0, d0, ds0, p0', q0, hargs, rfl, rfl, h0, r0⟩ := trodAll_cons hA
  obtain ⟨v1, vs1, d1, ds1, p1', q1, rfl, rfl, rfl, h1, r1⟩ := trodAll_cons r0
  obtain ⟨rfl, rfl, rfl⟩ := trodAll_nil r1
  obtain rfl : args = #[v0, v1] := by cases args; simp_all
  obtain ⟨rfl, rfl⟩ := trodVars_none hV
  simp only [List.append_nil] at hW' hAk
  have hlt := fun x hx => hW'.lt x hx
  clear hA0 hval0
  obtain ⟨a0, rfl, rfl, rfl, w0⟩ := open_int Try.underlying3 (hval 0 3 v0 rfl rfl) h0
  obtain ⟨p1, n1, c1, l1, rfl, S1, b1⟩ := open_ops (okWide_slice Try.underlying27 (hval 1 27 v1 rfl rfl)) h1
  refine (walk W a0 w0 p1 n1 c1 l1 S1 b1).mono fun e W' ⟨he, hg⟩ => ?_
  subst he
  have hargs := trodAll_below hg _ _ _ _ (by intro t ht; simp only [List.mem_cons, List.not_mem_nil, or_false] at ht; revert t; rintro t (rfl | rfl) <;> exact ⟨by kernel_rfl, of_decide_eq_true (by kernel_rfl)⟩) hAk (fun x hx => by simpa using hlt x hx)
  exact ⟨_, rfl, _, _, _, [], _, [], hW', (trodAll_cons_mk (shut_bool Try.underlying4 _) trodAll_mk0), hargs, rfl, hg.frame _, fun h => by cases h⟩

theorem over : Rows.deviceKeepsRow.holds Try.pinned (OpenSpec.ofChange Rows.deviceKeepsSpec) :=
  OpenClaim.holds_of_wide 5 Try.f5 rfl rfl rfl rfl rfl rfl rfl ⟨rfl, rfl, rfl, rfl, rfl⟩ rfl rfl rfl rfl rfl (by kernel_rfl) Try.func5 (by kernel_rfl)
    (of_decide_eq_true (by kernel_rfl)) (by unfold Func.isWrapper; first | (rw [if_pos (by decide +kernel)]; kernel_rfl) | (rw [if_neg (by decide +kernel)]; exact ⟨rfl, rfl⟩))
    (fun os started H enc _ => lifted os started H enc)

theorem proved : Rows.DeviceKeepsSaid :=
  over
end Go.Proofs.Ytdimjeppcfacdaa.deviceKeeps
