/- For whatever steps law TableClones answers true: a clone of a table, and a table made of all that comes, go their own ways. No condition. -/
import Derived.Test.YtchnjafcnigllaaTabT
namespace Go.Proofs.Ytchnjafcnigllaa.tableClones
open Go.ChangeShapes Go.WideShapes Go.ChangeAt Go.RowKit Go.Proofs.Ytchnjafcnigllaa
set_option linter.unusedVariables false

/-- What stays while the table at b is turned. -/
structure GoJ (w : World) (b C D : Nat) (l lt ld lc : KV) (v : Value) (W : World) : Prop where
  tb : TabN W b lt
  tc : TabN W C lc
  td : TabN W D ld
  row : W.ownsRow w.heap.size 41 2 v l.length (flatVP l)
  bel : Below w.heap.size w W
theorem GoJ.alloc {w : World} {b C D : Nat} {l lt ld lc : KV} {v : Value} {W : World} (h : GoJ w b C D l lt ld lc v W) (o : Obj) : GoJ w b C D l lt ld lc v (W.alloc o) :=
  have hb := (Below.refl W.heap.size W).alloc (Nat.le_refl _) o
  ⟨h.tb.below hb, h.tc.below hb, h.td.below hb, row_below h.row hb, h.bel.trans (hb.mono h.bel.size)⟩
theorem GoJ.below {w : World} {b C D : Nat} {l lt ld lc : KV} {v : Value} {W W' : World} (h : GoJ w b C D l lt ld lc v W) (hb : Below W.heap.size W W') : GoJ w b C D l lt ld lc v W' :=
  ⟨h.tb.below hb, h.tc.below hb, h.td.below hb, row_below h.row hb, h.bel.trans (hb.mono h.bel.size)⟩
theorem drop_first {l : KV} {m : Nat} {y : Int × Int} (hr : Tr.Rising ltN l) (h : l[m]? = some y) : (l.drop m).filter (fun x => decide (x.1 ≠ y.1)) = l.drop (m + 1) := by
  have hd := drop_cons h
  have hr2 : Tr.Rising ltN (l.drop m) := List.Pairwise.sublist (List.drop_sublist m l) hr
  rw [hd] at hr2 ⊢
  rw [List.filter_cons, if_neg (by simp), List.filter_eq_self.2 (fun x hx => by simpa using fun e => Tr.ne_of ordN ((List.pairwise_cons.1 hr2).1 x hx) e.symm)]

set_option maxRecDepth 100000 in
set_option maxHeartbeats 2000000 in
theorem walk (w : World) (p0 : Option Addr) (n0 c0 : Nat) (l0 : List HOp) (S0 : HOps w.heap.size w (.slice p0 n0 c0) l0) (b0 : (∀ x ∈ l0, x.Ok) ∧ l0.length ≤ Go.maxLen) (p1 : Option Addr) (n1 c1 : Nat) (l1 : List HOp) (S1 : HOps w.heap.size w (.slice p1 n1 c1) l1) (b1 : (∀ x ∈ l1, x.Ok) ∧ l1.length ≤ Go.maxLen) :
    Calls Try.prog 4 #[.slice p0 n0 c0, .slice p1 n1 c1] w fun e w' => e = .returned (.bool true) ∧ Below w.heap.size w w' := by

  have hlen0 := S0.len
  subst hlen0
  have hlen1 := S1.len
  subst hlen1
  have HS0 := Lib.hid S0
  have HS1 := Lib.hid S1
  have HAL := Lib.hid (fun W => tabAlive_any W)
  obtain ⟨n0, hn0⟩ : ∃ n, l0.length = n := ⟨_, rfl⟩
  obtain ⟨n1, hn1⟩ : ∃ n, l1.length = n := ⟨_, rfl⟩
  have HN0 := Lib.hid hn0
  have HN1 := Lib.hid hn1
  have hmax0 := b0.2
  have hmax1 := b1.2
  rw [hn0] at hmax0 HS0 ⊢
  rw [hn1] at hmax1 HS1 ⊢
  unfold maxLen at hmax0 hmax1
  clear S0 S1 b0 b1 hn0 hn1
  by_cases hbig : 100 < n0
  · have c0' : decide ((100 : Int) < (n0 : Int)) = true := decide_eq_true (by omega)
    go_enter Try.func4, Try.ntmps4
    go_wp2_with (go_at_call 9; refine (HAL.out _).mono ?_; rintro e w1 ⟨rfl, hb1⟩; have HB1 := Lib.hid hb1; clear hb1)
    go_ret
    exact ⟨rfl, HB1.out⟩
  have c0' : decide ((100 : Int) < (n0 : Int)) = false := decide_eq_false (by omega)
  by_cases hbig1 : 100 < n1
  · have c1' : decide ((100 : Int) < (n1 : Int)) = true := decide_eq_true (by omega)
    go_enter Try.func4, Try.ntmps4
    go_wp2_with (go_at_call 9; refine (HAL.out _).mono ?_; rintro e w1 ⟨rfl, hb1⟩; have HB1 := Lib.hid hb1; clear hb1)
    go_ret
    exact ⟨rfl, HB1.out⟩
  have c1' : decide ((100 : Int) < (n1 : Int)) = false := decide_eq_false (by omega)
  go_enter Try.func4, Try.ntmps4
  go_wp2_with (go_at_call 9; refine (HAL.out _).mono ?_; rintro e w1 ⟨rfl, hb1⟩; have HB1 := Lib.hid hb1; have HPL := Lib.hid (play_any p0 n0 c0 l0 (by rw [HN0.out]; omega) w1 ((HS0.out.below hb1 (Nat.le_refl _)).mono hb1.size)); clear hb1)
  refine HPL.out.mono ?_
  rintro e w2 ⟨v2, rfl, hj⟩
  have hll := playL_len n0 l0 HN0.out
  obtain ⟨l, hl2⟩ : ∃ l, playL l0 = l := ⟨_, rfl⟩
  rw [hl2] at hj hll
  obtain ⟨va, vc, rfl⟩ := own_form hj.row
  have HCL := Lib.hid (tableCloneN _ _ _ hj.tab)
  have HRI := Lib.hid hj.tab.rise
  have HJ2 := Lib.hid hj
  clear hj hl2 HPL
  go_wp2_with fail
  refine HCL.out.mono ?_
  rintro e w3 ⟨rfl, hc3, hb3⟩
  have HBK := Lib.hid (backN w1.heap.size w3)
  have h3 := HJ2.out.tab.below hb3
  go_wp2_with fail
  refine HBK.out.mono ?_
  rintro e w4 ⟨rfl, hw4⟩
  have hb4 : Below w3.heap.size w3 w4 := by rw [hw4]; exact (Below.refl _ _).alloc (Nat.le_refl _) _
  have h4 := h3.below hb4
  have HOF := Lib.hid (ofBack w3.heap.size w1.heap.size l (by omega) w4 h4 (by rw [hw4]; exact World.alloc_heap_new w3 _))
  rw [putAll_back l HRI.out] at HOF
  have HC4 := Lib.hid (hc3.below hb4)
  have HJ4 := Lib.hid (show PlJ w1 l (.slice va l.length vc) w4 from ⟨h4, row_below (row_below HJ2.out.row hb3) hb4, (HJ2.out.bel.trans (hb3.mono HJ2.out.bel.size)).trans (hb4.mono (Nat.le_trans HJ2.out.bel.size hb3.size))⟩)
  have HLT : Hid (w1.heap.size < w2.heap.size ∧ w2.heap.size < w4.heap.size) := Lib.hid ⟨HJ2.out.tab.lt, by have := hc3.lt; have := hb4.size; omega⟩
  clear hw4 hb4 h4 h3 hc3 hb3 HBK HCL HJ2
  go_wp2_with fail
  refine HOF.out.mono ?_
  rintro e w5 ⟨rfl, hd5, hb5⟩
  have HJ5 : Hid (GoJ w w1.heap.size w2.heap.size w4.heap.size l l l l (.slice va l.length vc) w5) := Lib.hid ⟨HJ4.out.tab.below hb5, HC4.out.below hb5, hd5, own_mono (row_below HJ4.out.row hb5) (by have := HB1.out.size; omega), HB1.out.trans ((HJ4.out.bel.trans (hb5.mono HJ4.out.bel.size)).mono HB1.out.size)⟩
  obtain ⟨b, hb⟩ : ∃ b, w1.heap.size = b := ⟨_, rfl⟩
  obtain ⟨C, hC⟩ : ∃ b, w2.heap.size = b := ⟨_, rfl⟩
  obtain ⟨D, hD⟩ : ∃ b, w4.heap.size = b := ⟨_, rfl⟩
  have HWB : Hid (w.heap.size ≤ b) := Lib.hid (by rw [← hb]; exact HB1.out.size)
  obtain ⟨q, hq⟩ : ∃ q, l.length = q := ⟨_, rfl⟩
  have HQ := Lib.hid hq
  rw [hb, hC, hD, hq] at HJ5
  rw [hb, hC, hD] at HLT
  rw [hq] at hll
  rw [hb, hC, hD, hq]
  clear hd5 hb5 HOF HJ4 HC4 HB1 hb hC hD hq
  have hbc : b < C ∧ C < D := HLT.out
  have hq100 : q ≤ 100 := by omega
  go_wp2_with fail
  go_loopw [39] (fun i wr => ∃ (m : Nat) (lt : KV), i = .int .i64 m ∧ m ≤ n1 ∧ lt.length ≤ q + m ∧ GoJ w b C D l lt l l (.slice va q vc) wr) (fun i _ => n1 - (intOf i).toNat)
  case atStart => exact ⟨0, l, rfl, Nat.zero_le _, by rw [HQ.out]; omega, HJ5.out⟩
  case round =>
    obtain ⟨m, lt, rfl, hm, hltl, hJ⟩ := hrel
    clear HJ5
    by_cases hlt : m < n1
    · obtain ⟨x, hx⟩ : ∃ x, l1[m]? = some x := ⟨_, List.getElem?_eq_getElem (by rw [HN1.out]; exact hlt)⟩
      obtain ⟨g, off, rfl, hg, f0, f1, f2⟩ := HS1.out.at_ hx
      have d0 := (hJ.bel.cell (p := ⟨g, off + m * 3, none⟩) hg).trans f0
      have d1 := (hJ.bel.cell (p := ⟨g, off + m * 3 + 1, none⟩) hg).trans f1
      have d2 := (hJ.bel.cell (p := ⟨g, off + m * 3 + 2, none⟩) hg).trans f2
      have b1 : (0 : Int) ≤ m := by omega
      have b2 : (m : Int) < n1 := by omega
      have hJ1 := hJ.alloc (Obj.cells #[.int .i64 x.kind, .int .i64 x.k, .int .i64 x.v] 46)
      have hnew := World.alloc_heap_new wr (Obj.cells #[.int .i64 x.kind, .int .i64 x.k, .int .i64 x.v] 46)
      have hWR : b < wr.heap.size ∧ C < wr.heap.size ∧ D < wr.heap.size ∧ wr.heap.size < (wr.alloc (Obj.cells #[.int .i64 x.kind, .int .i64 x.k, .int .i64 x.v] 46)).heap.size := ⟨hJ.tb.lt, hJ.tc.lt, hJ.td.lt, by simp⟩
      clear f0 f1 f2 hx hg
      go_upto_region 10 with fail
      obtain ⟨W1, hW1⟩ : ∃ W1, wr.alloc (Obj.cells #[.int .i64 x.kind, .int .i64 x.k, .int .i64 x.v] 46) = W1 := ⟨_, rfl⟩
      rw [hW1] at hJ1 hnew hWR ⊢
      have e0 : W1.cell? ⟨wr.heap.size, 0, none⟩ = some (.int .i64 x.kind) := cell_of_row W1 _ 0 _ _ _ hnew
      have e1 : W1.cell? ⟨wr.heap.size, 1, none⟩ = some (.int .i64 x.k) := cell_of_row W1 _ 1 _ _ _ hnew
      have e2 : W1.cell? ⟨wr.heap.size, 2, none⟩ = some (.int .i64 x.v) := cell_of_row W1 _ 2 _ _ _ hnew
      have HPT := Lib.hid (tablePutN x.k x.v _ _ _ hJ1.tb (by omega))
      have HJ1 := Lib.hid hJ1
      have HW := Lib.hid hWR
      clear hJ hnew hW1 d0 d1 d2 hJ1 hWR
      go_wp2_with fail
      refine HPT.out.mono ?_
      rintro e W2 ⟨rfl, h2, b2'⟩
      have hh2 : GoJ w b C D l (Tr.insK ltN x.k x.v lt) l l (.slice va q vc) W2 := ⟨h2, HJ1.out.tc.other HJ1.out.tb b2' (by omega), HJ1.out.td.other HJ1.out.tb b2' (by omega), HJ1.out.tb.row HJ1.out.row b2', But.low HJ1.out.bel b2' HWB.out (Nat.le_refl _)⟩
      have q0 : W2.cell? ⟨wr.heap.size, 0, none⟩ = some (.int .i64 x.kind) := (World.cell?_of_block (a := ⟨wr.heap.size, 0, none⟩) (b2'.block _ HW.out.2.2.2 (by have := HW.out.1; simp; omega))).trans e0
      have q1 : W2.cell? ⟨wr.heap.size, 1, none⟩ = some (.int .i64 x.k) := (World.cell?_of_block (a := ⟨wr.heap.size, 1, none⟩) (b2'.block _ HW.out.2.2.2 (by have := HW.out.1; simp; omega))).trans e1
      have hl3 := insK_len x.k x.v lt
      have HDR := Lib.hid (tableDropN x.k _ _ _ h2 (by omega))
      have HJ2 := Lib.hid hh2
      clear h2 b2' hh2 e0 e1 e2 HPT HJ1
      cases hodd : (bits BinOp.and IntKind.i64 x.kind 1 == 1) with
      | true =>
        go_wp2_with fail
        refine HDR.out.mono ?_
        rintro e W3 ⟨rfl, h3, b3⟩
        have HJ3 : Hid (GoJ w b C D l ((Tr.insK ltN x.k x.v lt).filter fun y => decide (y.1 ≠ x.k)) l l (.slice va q vc) W3) := Lib.hid ⟨h3, HJ2.out.tc.other HJ2.out.tb b3 (by omega), HJ2.out.td.other HJ2.out.tb b3 (by omega), HJ2.out.tb.row HJ2.out.row b3, But.low HJ2.out.bel b3 HWB.out (Nat.le_refl _)⟩
        have hl4 := List.length_filter_le (fun y : Int × Int => decide (y.1 ≠ x.k)) (Tr.insK ltN x.k x.v lt)
        clear h3 b3 HDR HJ2 q0 q1 hodd
        go_wp2_with fail
        go_roundw
        case rel => exact ⟨m + 1, _, by go_num, by omega, by omega, HJ3.out⟩
        case measure => simp [intOf]; omega
      | false =>
        go_wp2_with fail
        go_roundw
        case rel => exact ⟨m + 1, _, by go_num, by omega, by omega, HJ2.out⟩
        case measure => simp [intOf]; omega
    · obtain rfl : m = n1 := by omega
      have HJ := Lib.hid hJ
      have b1 : (0 : Int) ≤ m := by omega
      have b2 : (m : Int) ≤ 100 := by omega
      have b3 : (0 : Int) ≤ q := by omega
      have b4 : (q : Int) ≤ 100 := by omega
      clear hJ
      have HA1 := Lib.hid (allN C wr)
      go_wp2_with fail
      refine HA1.out.mono ?_
      rintro e wa1 ⟨rfl, hwa⟩
      have hba : Below wr.heap.size wr wa1 := by rw [hwa]; exact (Below.refl _ _).alloc (Nat.le_refl _) _
      have hJa := HJ.out.below hba
      have hpc := pairsAll wr.heap.size C l (q + 1) (by omega) (by omega) wa1 hJa.tc (by rw [hwa]; exact World.alloc_heap_new wr _)
      rw [List.take_of_length_le (show l.length ≤ q + 1 from by rw [HQ.out]; omega), HQ.out, show ((q + 1 : Nat) : Int) = (q : Int) + 1 from rfl] at hpc
      have HPC1 := Lib.hid hpc
      have HJa1 := Lib.hid hJa
      clear hpc hJa hba hwa HA1 HJ
      go_wp2_with fail
      refine HPC1.out.mono ?_
      rintro e wb1 ⟨vb, rfl, hrb, hbb⟩
      obtain ⟨ab1, cb1, rfl⟩ := own_form hrb
      have hJb := HJa1.out.below hbb
      have HSM1 := Lib.hid (refSame_any ab1 va q q cb1 vc l (by rw [HQ.out]; omega) wb1 (PrsP.of_owns (by rw [HQ.out]; exact hrb)) (PrsP.of_owns hJb.row))
      have HJb1 := Lib.hid hJb
      clear hrb hbb hJb HPC1 HJa1
      go_wp2_with fail
      refine HSM1.out.mono ?_
      rintro e wc1 ⟨rfl, hbc1⟩
      have HJc1 := Lib.hid (HJb1.out.below hbc1)
      clear hbc1 HSM1 HJb1
      have HA2 := Lib.hid (allN D wc1)
      go_wp2_with fail
      refine HA2.out.mono ?_
      rintro e wa2 ⟨rfl, hwa⟩
      have hba : Below wc1.heap.size wc1 wa2 := by rw [hwa]; exact (Below.refl _ _).alloc (Nat.le_refl _) _
      have hJa := HJc1.out.below hba
      have hpc := pairsAll wc1.heap.size D l (q + 1) (by omega) (by omega) wa2 hJa.td (by rw [hwa]; exact World.alloc_heap_new wc1 _)
      rw [List.take_of_length_le (show l.length ≤ q + 1 from by rw [HQ.out]; omega), HQ.out, show ((q + 1 : Nat) : Int) = (q : Int) + 1 from rfl] at hpc
      have HPC2 := Lib.hid hpc
      have HJa2 := Lib.hid hJa
      clear hpc hJa hba hwa HA2 HJc1
      go_wp2_with fail
      refine HPC2.out.mono ?_
      rintro e wb2 ⟨vb, rfl, hrb, hbb⟩
      obtain ⟨ab2, cb2, rfl⟩ := own_form hrb
      have hJb := HJa2.out.below hbb
      have HSM2 := Lib.hid (refSame_any ab2 va q q cb2 vc l (by rw [HQ.out]; omega) wb2 (PrsP.of_owns (by rw [HQ.out]; exact hrb)) (PrsP.of_owns hJb.row))
      have HJb2 := Lib.hid hJb
      clear hrb hbb hJb HPC2 HJa2
      go_wp2_with fail
      refine HSM2.out.mono ?_
      rintro e wc2 ⟨rfl, hbc2⟩
      have HJc2 := Lib.hid (HJb2.out.below hbc2)
      clear hbc2 HSM2 HJb2
      -- what the table has now
      have HA3 := Lib.hid (allN b wc2)
      go_wp2_with fail
      refine HA3.out.mono ?_
      rintro e w7 ⟨rfl, hw7⟩
      have hb7 : Below wc2.heap.size wc2 w7 := by rw [hw7]; exact (Below.refl _ _).alloc (Nat.le_refl _) _
      have hJ7 := HJc2.out.below hb7
      have hpt := pairsAll wc2.heap.size b lt (q + m + 1) (by omega) (by omega) w7 hJ7.tb (by rw [hw7]; exact World.alloc_heap_new wc2 _)
      rw [List.take_of_length_le (show lt.length ≤ q + m + 1 from by omega), show ((q + m + 1 : Nat) : Int) = (q : Int) + (m : Int) + 1 from rfl] at hpt
      have HPT := Lib.hid hpt
      have HJ7 := Lib.hid hJ7
      clear hpt hJ7 hb7 hw7 HA3 HJc2
      go_wp2_with fail
      refine HPT.out.mono ?_
      rintro e w8 ⟨v8, rfl, hr8, hb8⟩
      obtain ⟨a8, c8, rfl⟩ := own_form hr8
      have hJ8 := HJ7.out.below hb8
      have HCR := Lib.hid (tableClearN _ _ _ hJ8.tc)
      have HR8 := Lib.hid hr8
      have HJ8 := Lib.hid hJ8
      clear hr8 hb8 hJ8 HPT HJ7
      go_wp2_with fail
      refine HCR.out.mono ?_
      rintro e w9 ⟨rfl, h9, b9⟩
      have HJ9 : Hid (GoJ w b C D l lt l [] (.slice va q vc) w9) := Lib.hid ⟨HJ8.out.tb.other HJ8.out.tc b9 (by omega), h9, HJ8.out.td.other HJ8.out.tc b9 (by omega), HJ8.out.tc.row HJ8.out.row b9, But.low HJ8.out.bel b9 (by have := HWB.out; omega) (Nat.le_refl _)⟩
      have HR9 : Hid (w9.ownsRow w7.heap.size 41 2 (.slice a8 lt.length c8) lt.length (flatVP lt)) := Lib.hid (HJ8.out.tc.row HR8.out b9)
      clear h9 b9 HCR HR8 HJ8
      obtain ⟨zr, hzr⟩ : ∃ z, w7.heap.size = z := ⟨_, rfl⟩
      rw [hzr] at HR9
      clear hzr
      obtain ⟨tl, htl⟩ : ∃ n, lt.length = n := ⟨_, rfl⟩
      rw [htl] at HR9 hltl ⊢
      have HTL := Lib.hid htl
      clear htl
      go_wp2_with fail
      go_loopw [90] (fun i wr => ∃ k : Nat, i = .int .i64 k ∧ k ≤ q ∧ GoJ w b C D l lt (l.drop k) [] (.slice va q vc) wr ∧ wr.ownsRow zr 41 2 (.slice a8 tl c8) tl (flatVP lt)) (fun i _ => q - (intOf i).toNat)
      case atStart => exact ⟨0, rfl, Nat.zero_le _, HJ9.out, HR9.out⟩
      case round =>
        obtain ⟨k, rfl, hk, hJ, hR⟩ := hrel
        clear HJ9 HR9
        by_cases hkq : k < q
        · obtain ⟨⟨y, z⟩, hy⟩ : ∃ y, l[k]? = some y := ⟨_, List.getElem?_eq_getElem (by rw [HQ.out]; exact hkq)⟩
          have hprs := PrsP.of_owns hJ.row
          obtain ⟨g, off, rfl, hg, d0, d1⟩ := hprs.at_ hy
          have k1 : (0 : Int) ≤ k := by omega
          have k2 : (k : Int) < q := by omega
          have hbx : Below wr.heap.size wr (wr.alloc (Obj.cells #[.int .i64 y, .int .i64 z] 41)) := (Below.refl _ _).alloc (Nat.le_refl _) _
          have hJ1 := hJ.below hbx
          have hR1 := row_below hR hbx
          have hnew := World.alloc_heap_new wr (Obj.cells #[.int .i64 y, .int .i64 z] 41)
          have hdf := drop_first HRI.out hy
          clear hy hprs hbx hg
          go_upto_region 22 with fail
          obtain ⟨W1, hW1⟩ : ∃ W1, wr.alloc (Obj.cells #[.int .i64 y, .int .i64 z] 41) = W1 := ⟨_, rfl⟩
          rw [hW1] at hJ1 hnew hR1 ⊢
          have e0 : W1.cell? ⟨wr.heap.size, 0, none⟩ = some (.int .i64 y) := cell_of_row W1 _ 0 _ _ _ hnew
          have hdl : (l.drop k).length ≤ 100000 := by rw [List.length_drop, HQ.out]; omega
          have HDR := Lib.hid (tableDropN y _ _ _ hJ1.td hdl)
          rw [hdf] at HDR
          have HJ1 := Lib.hid hJ1
          have HR1 := Lib.hid hR1
          clear hJ1 hR1 hnew hW1 hdl hdf hJ hR d0 d1
          go_wp2_with fail
          refine HDR.out.mono ?_
          rintro e W2 ⟨rfl, h2, b2'⟩
          have HJ2 : Hid (GoJ w b C D l lt (l.drop (k + 1)) [] (.slice (some ⟨g, off, none⟩) q vc) W2) := Lib.hid ⟨HJ1.out.tb.other HJ1.out.td b2' (by omega), HJ1.out.tc.other HJ1.out.td b2' (by omega), h2, HJ1.out.td.row HJ1.out.row b2', But.low HJ1.out.bel b2' (by have := HWB.out; omega) (Nat.le_refl _)⟩
          have HR2 := Lib.hid (HJ1.out.td.row HR1.out b2')
          clear h2 b2' e0 HDR HJ1 HR1
          go_wp2_with fail
          go_roundw
          case rel => exact ⟨k + 1, by go_num, by omega, HJ2.out, HR2.out⟩
          case measure => simp [intOf]; omega
        · obtain rfl : k = q := by omega
          have hdn : l.drop k = [] := List.drop_of_length_le (by rw [HQ.out]; omega)
          rw [hdn] at hJ
          have HL1 : Hid (Calls Try.prog 28 #[.pointer (some ⟨C, 0, none⟩)] wr fun e w' => e = .returned (.int .i64 0) ∧ w' = wr) := Lib.hid (tableLenN _ _ _ hJ.tc)
          have HL2 : Hid (Calls Try.prog 28 #[.pointer (some ⟨D, 0, none⟩)] wr fun e w' => e = .returned (.int .i64 0) ∧ w' = wr) := Lib.hid (tableLenN _ _ _ hJ.td)
          have HA := Lib.hid (allN b wr)
          have HJ := Lib.hid hJ
          have HR := Lib.hid hR
          clear hJ hR hdn
          go_wp2_with fail
          refine HL1.out.mono ?_
          rintro e wx ⟨rfl, hx⟩
          obtain rfl := hx.symm
          go_wp2_with fail
          refine HL2.out.mono ?_
          rintro e wx ⟨rfl, hx⟩
          obtain rfl := hx.symm
          go_wp2_with fail
          refine HA.out.mono ?_
          rintro e wy ⟨rfl, hwy⟩
          have hby : Below wr.heap.size wr wy := by rw [hwy]; exact (Below.refl _ _).alloc (Nat.le_refl _) _
          have hJy := HJ.out.below hby
          have hRy := row_below HR.out hby
          have hpt := pairsAll wr.heap.size b lt (k + m + 1) (by omega) (by omega) wy hJy.tb (by rw [hwy]; exact World.alloc_heap_new wr _)
          rw [List.take_of_length_le (show lt.length ≤ k + m + 1 from by rw [HTL.out]; omega), HTL.out, show ((k + m + 1 : Nat) : Int) = (k : Int) + (m : Int) + 1 from rfl] at hpt
          have HPT := Lib.hid hpt
          have HJy := Lib.hid hJy
          have HRy := Lib.hid hRy
          clear hpt hJy hRy hby hwy HA HJ HR HL1 HL2
          go_wp2_with fail
          refine HPT.out.mono ?_
          rintro e wz ⟨vz, rfl, hrz, hbz⟩
          obtain ⟨az, cz, rfl⟩ := own_form hrz
          have hJz := HJy.out.below hbz
          have hRz := row_below HRy.out hbz
          have HSM := Lib.hid (refSame_any az a8 tl tl cz c8 lt (by rw [HTL.out]; omega) wz (PrsP.of_owns (by rw [HTL.out]; exact hrz)) (PrsP.of_owns (by rw [HTL.out]; exact hRz)))
          have HJz := Lib.hid hJz
          clear hJz hRz hrz hbz HPT HJy HRy
          go_wp2_with fail
          refine HSM.out.mono ?_
          rintro e wf ⟨rfl, hbf⟩
          have HF := Lib.hid (HJz.out.below hbf).bel
          clear hbf HSM HJz
          go_wp2_with fail
          go_ret
          exact ⟨rfl, HF.out⟩


set_option maxRecDepth 100000 in
theorem lifted (os : Os) (started : os.Started) (H : Type) (enc : TypeId × Value → H) :
    ReturnsInHanded {} Try.checked os 4 .any (Rows.tableClonesSpec.pre6 enc Try.prog Try.f4 Rows.tableClonesRow.domain false) (Rows.tableClonesSpec.post enc Try.prog Try.f4 false true false false) := by
  refine returnsInHanded_of_change (C := Try.checked) own started (by kernel_rfl) Try.func4
    (ChangeSpec.witness6 (enc := enc) (C := Try.checked) false ⟨#[], #[.slice none 0 0, .slice none 0 0], []⟩ 8 (by kernel_rfl) (by kernel_rfl) (by kernel_rfl) (by kernel_rfl)) ?_
  intro W base args ds gs before hval0 hW hcnd _
  have hval : ∀ (j : Nat) t v, Try.f4.params[j]? = some t → args[j]? = some v → Value.okWide Try.prog W .any base t v := hval0
  have hW' := hW
  obtain ⟨p, q, hA0, hV, rfl, hfz, hnd⟩ := hW
  have hA : DataW.TrodAll enc Try.prog W 0 (fun _ => true) true Try.f4.params.toList args.toList ds p := hA0
  rw [Try.params4] at hA hval
  have hAk := hA
  obtain ⟨v0, vs0, d0, ds0, p0', q0, hargs, rfl, rfl, h0, r0⟩ := trodAll_cons hA
  obtain ⟨v1, vs1, d1, ds1, p1', q1, rfl, rfl, rfl, h1, r1⟩ := trodAll_cons r0
  obtain ⟨rfl, rfl, rfl⟩ := trodAll_nil r1
  obtain rfl : args = #[v0, v1] := by cases args; simp_all
  obtain ⟨rfl, rfl⟩ := trodVars_none hV
  simp only [List.append_nil] at hW' hAk
  have hlt := fun x hx => hW'.lt x hx
  clear hA0 hval0
  obtain ⟨p0, n0, c0, l0, rfl, S0, b0⟩ := open_hops (okWide_slice Try.underlying22 (hval 0 22 v0 rfl rfl)) h0
  obtain ⟨p1, n1, c1, l1, rfl, S1, b1⟩ := open_hops (okWide_slice Try.underlying22 (hval 1 22 v1 rfl rfl)) h1
  refine (walk W p0 n0 c0 l0 S0 b0 p1 n1 c1 l1 S1 b1).mono fun e W' ⟨he, hg⟩ => ?_
  subst he
  have hargs := trodAll_below hg _ _ _ _ (by intro t ht; simp only [List.mem_cons, List.not_mem_nil, or_false] at ht; revert t; rintro t (rfl | rfl) <;> exact ⟨by kernel_rfl, of_decide_eq_true (by kernel_rfl)⟩) hAk (fun x hx => by simpa using hlt x hx)
  exact ⟨_, rfl, _, _, _, [], _, [], hW', (trodAll_cons_mk (shut_bool Try.underlying4 _) trodAll_mk0), hargs, rfl, hg.frame _, fun h => by cases h⟩

theorem over : Rows.tableClonesRow.holds Try.pinned (OpenSpec.ofChange Rows.tableClonesSpec) :=
  OpenClaim.holds_of_wide 4 Try.f4 rfl rfl rfl rfl rfl rfl rfl ⟨rfl, rfl, rfl, rfl, rfl⟩ rfl rfl rfl rfl rfl (by kernel_rfl) Try.func4 (by kernel_rfl)
    (of_decide_eq_true (by kernel_rfl)) (by unfold Func.isWrapper; first | (rw [if_pos (by decide +kernel)]; kernel_rfl) | (rw [if_neg (by decide +kernel)]; exact ⟨rfl, rfl⟩))
    (fun os started H enc _ => lifted os started H enc)

theorem proved : Rows.TableClonesSaid :=
  over
end Go.Proofs.Ytchnjafcnigllaa.tableClones
