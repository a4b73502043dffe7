/- For whatever steps and way law TableGoes answers true: a table that is turned while it is told tells what it held. No condition. -/
import Derived.Test.YtchnjafcnigllaaTabV
import Derived.Test.YtchnjafcnigllaaRangeR
import Derived.Test.YtchnjafcnigllaaRangeL
import Derived.Test.YtchnjafcnigllaaRegionSeq
namespace Go.Proofs.Ytchnjafcnigllaa.tableGoes
open Go.ChangeShapes Go.WideShapes Go.ChangeAt Go.RowKit Go.Proofs.Ytchnjafcnigllaa
set_option linter.unusedVariables false
attribute [local go_sem] Oper.semAt_some

set_option maxRecDepth 100000 in
set_option maxHeartbeats 16000000 in
theorem walk (w : World) (p0 : Option Addr) (n0 c0 : Nat) (l0 : List HOp) (S0 : HOps w.heap.size w (.slice p0 n0 c0) l0) (b0 : (∀ x ∈ l0, x.Ok) ∧ l0.length ≤ Go.maxLen) (a1 : Bool) :
    Calls Try.prog 5 #[.slice p0 n0 c0, .bool a1] w fun e w' => e = .returned (.bool true) ∧ Below w.heap.size w w' := by
  have hlen0 := S0.len
  subst hlen0
  have HS0 := Lib.hid S0
  have HAL := Lib.hid (fun W => tabAlive_any W)
  obtain ⟨n0, hn0⟩ : ∃ n, l0.length = n := ⟨_, rfl⟩
  have HN0 := Lib.hid hn0
  have hmax0 := b0.2
  rw [hn0] at hmax0 HS0 ⊢
  unfold maxLen at hmax0
  clear S0 b0 hn0
  obtain ⟨wa, hwa⟩ : ∃ wa, w.alloc (Obj.cells #[.bool false] 4) = wa := ⟨_, rfl⟩
  have hba : Below w.heap.size w wa := by rw [← hwa]; exact (Below.refl _ _).alloc (Nat.le_refl _) _
  have hza : wa.heap.size = w.heap.size + 1 := by rw [← hwa]; simp
  have hRS : Boxed wa w.heap.size 4 (.bool false) := by rw [← hwa]; exact Boxed.new w _ _
  have HBA := Lib.hid hba
  have HZA := Lib.hid hza
  have HRS := Lib.hid hRS
  have HWA := Lib.hid hwa
  clear hba hza hRS hwa
  by_cases hbig : 100 < n0
  · have c0' : decide ((100 : Int) < (n0 : Int)) = true := decide_eq_true (by omega)
    go_enter Try.func5, Try.ntmps5
    go_upto_region 1 with fail
    rw [HWA.out]
    go_upto_region 4 with (go_at_call 9; refine (HAL.out _).mono ?_; rintro e w2 ⟨rfl, hb2⟩; have HB2 := Lib.hid hb2; clear hb2)
    have hR2 : Boxed w2 w.heap.size 4 (.bool false) := (HB2.out.block _ HRS.out.lt).trans HRS.out
    have hRS3 := hR2.set (.bool true)
    have q1 := hR2.cell
    have z1 := hR2.frozen
    have q3 := hRS3.cell
    have HBF := Lib.hid ((HBA.out.trans (HB2.out.mono HBA.out.size)).setCell (p := ⟨w.heap.size, 0, none⟩) (by simp) (.bool true))
    go_wp2_with fail
    (try simp only [Exit.inBlock, Exit.then])
    refine bodyPost_ret (v := .bool true) ?_ rfl ⟨rfl, HBF.out⟩
    rw [results_cell1 rfl]
    simp [asAddr, Result.andThen]
    go_simp
  have c0' : decide ((100 : Int) < (n0 : Int)) = false := decide_eq_false (by omega)
  refine (callsIn_wide (n := 3)).1 ?_
  refine callsIn_of_wp_marks Try.func5 rfl trivial ?_ rfl
  simp only [Try.ntmps5, List.size_toArray, List.length_cons, List.length_nil, Nat.reduceAdd, Nat.reduceSub, Array.replicate_succ, Array.replicate_zero, List.push_toArray, List.append_toArray, List.nil_append, List.cons_append]
  refine wpIn_wide.2 ?_
  go_upto_region 1 with fail
  rw [HWA.out]
  go_upto_region 5 with (go_at_call 9; refine (HAL.out _).mono ?_; rintro e w2 ⟨rfl, hb2⟩; have HB2 := Lib.hid hb2; clear hb2)
  have HPL := Lib.hid (play_any p0 n0 c0 l0 (by rw [HN0.out]; omega) w2 ((HS0.out.below (HBA.out.trans (HB2.out.mono HBA.out.size)) (Nat.le_refl _)).mono (Nat.le_trans HBA.out.size HB2.out.size)))
  go_wp2_with fail
  refine HPL.out.mono ?_
  rintro e w3 ⟨v3, rfl, hj⟩
  have hll := playL_len n0 l0 HN0.out
  obtain ⟨l, hl2⟩ : ∃ l, playL l0 = l := ⟨_, rfl⟩
  rw [hl2] at hj hll
  obtain ⟨va, vc, rfl⟩ := own_form hj.row
  obtain ⟨q, hq⟩ : ∃ q, l.length = q := ⟨_, rfl⟩
  have HQ := Lib.hid hq
  rw [hq] at hll
  have HJ3 := Lib.hid hj
  rw [hq] at HJ3
  rw [hq]
  have hq100 : q ≤ 100 := by omega
  clear hj hl2 hq HPL
  go_upto_region 6 with fail
  obtain ⟨w4, hw4⟩ : ∃ w4, (w3.alloc (Obj.cells #[.pointer (some ⟨w2.heap.size, 0, none⟩)] 24)).alloc (Obj.cells #[.slice va q vc] 25) = w4 := ⟨_, rfl⟩
  have hb34 : Below w3.heap.size w3 w4 := by rw [← hw4]; exact ((Below.refl _ _).alloc (Nat.le_refl _) _).alloc (by simp) _
  have hz4 : w4.heap.size = w3.heap.size + 2 := by rw [← hw4]; simp
  have hTB4 : Boxed w4 w3.heap.size 24 (.pointer (some ⟨w2.heap.size, 0, none⟩)) := by rw [← hw4]; exact (Boxed.new w3 _ _).alloc _
  have hPB4 : Boxed w4 (w3.heap.size + 1) 25 (.slice va q vc) := by
    have h := Boxed.new (w3.alloc (Obj.cells #[.pointer (some ⟨w2.heap.size, 0, none⟩)] 24)) 25 (.slice va q vc)
    rw [show (w3.alloc (Obj.cells #[.pointer (some ⟨w2.heap.size, 0, none⟩)] 24)).heap.size = w3.heap.size + 1 from by simp, hw4] at h
    exact h
  have hRS4 : Boxed w4 w.heap.size 4 (.bool false) := by
    have h1 : Boxed w2 w.heap.size 4 (.bool false) := (HB2.out.block _ HRS.out.lt).trans HRS.out
    have h2 : Boxed w3 w.heap.size 4 (.bool false) := (HJ3.out.bel.block _ h1.lt).trans h1
    exact (hb34.block _ h2.lt).trans h2
  have hT4 := HJ3.out.tab.below hb34
  have hrow4 : w4.ownsRow (w2.heap.size + 1) 41 2 (.slice va q vc) q (flatVP l) := by
    have h := HJ3.out.row
    rw [HQ.out] at h
    exact row_below h hb34
  have hbel4 : Below w.heap.size w w4 := HBA.out.trans ((HB2.out.trans ((HJ3.out.bel.trans (hb34.mono HJ3.out.bel.size)).mono HB2.out.size)).mono HBA.out.size)
  have hord4 : w.heap.size < w2.heap.size ∧ w2.heap.size < w3.heap.size := ⟨by have := HZA.out; have := HB2.out.size; omega, HJ3.out.tab.lt⟩
  obtain ⟨T, hTT⟩ : ∃ T, w2.heap.size = T := ⟨_, rfl⟩
  obtain ⟨TB, hTB⟩ : ∃ PB, w3.heap.size = PB := ⟨_, rfl⟩
  rw [hw4]
  rw [hTT] at hTB4 hT4 hrow4 hord4
  rw [hTB] at hz4 hTB4 hPB4 hord4
  rw [hTT, hTB]
  have HTB4 := Lib.hid hTB4
  have HPB4 := Lib.hid hPB4
  have HRS4 := Lib.hid hRS4
  have HT4 := Lib.hid hT4
  have HROW4 := Lib.hid hrow4
  have HBEL4 := Lib.hid hbel4
  have HORD4 := Lib.hid hord4
  have HZ4 := Lib.hid hz4
  have q4 := hTB4.cell
  clear hw4 hb34 hz4 hTB4 hPB4 hRS4 hT4 hrow4 hbel4 hord4 hTT hTB HJ3 HB2 HRS HBA HZA
  have HALL := Lib.hid (fun W => allN T W)
  go_upto_region 9 with (go_at_call 14; refine (HALL.out _).mono ?_; rintro e w6 ⟨rfl, hw5⟩; have HW5 := Lib.hid hw5; clear hw5)
  have hw5 := HW5.out
  have hb45 : Below w4.heap.size w4 w6 := by rw [hw5]; exact (Below.refl _ _).alloc (Nat.le_refl _) _
  have hz5 : w6.heap.size = w4.heap.size + 1 := by rw [hw5]; simp
  have hp5 : w6.heap[w4.heap.size]? = some (.cells #[.pointer (some ⟨T, 0, none⟩)] 24 (0, 0)) := by rw [hw5]; exact World.alloc_heap_new w4 _
  have HTB6 : Hid (Boxed w6 TB 24 (.pointer (some ⟨T, 0, none⟩))) := Lib.hid ((hb45.block _ HTB4.out.lt).trans HTB4.out)
  have HPB6 : Hid (Boxed w6 (TB + 1) 25 (.slice va q vc)) := Lib.hid ((hb45.block _ HPB4.out.lt).trans HPB4.out)
  have HRS6 : Hid (Boxed w6 w.heap.size 4 (.bool false)) := Lib.hid ((hb45.block _ HRS4.out.lt).trans HRS4.out)
  have HT6 := Lib.hid (HT4.out.below hb45)
  have HROW6 := Lib.hid (row_below HROW4.out hb45)
  have HBEL6 : Hid (Below w.heap.size w w6) := Lib.hid (HBEL4.out.trans (hb45.mono HBEL4.out.size))
  have HP6 := Lib.hid hp5
  have HORD6 : Hid (w.heap.size < T ∧ T < TB ∧ TB + 2 ≤ w6.heap.size ∧ T < w4.heap.size) := Lib.hid ⟨HORD4.out.1, HORD4.out.2, by have := HZ4.out; omega, by have := HZ4.out; have := HORD4.out; omega⟩
  obtain ⟨Bh, hBh⟩ : ∃ B, w4.heap.size = B := ⟨_, rfl⟩
  rw [hBh] at HP6 HORD6
  rw [hBh]
  clear hw5 HW5 hb45 hz5 hp5 HTB4 HPB4 HRS4 HT4 HROW4 HBEL4 HORD4 HZ4 q4 HALL hBh
  cases a1 with
  | false =>
    have HLQ : Hid ((l).length = q) := Lib.hid (by first | exact HQ.out | (rw [List.length_reverse]; exact HQ.out))
    go_upto_region 12 with fail
    obtain ⟨w7, hw7⟩ : ∃ w7, (w6.alloc (Obj.cells #[] 41)).alloc (Obj.cells #[.slice (some ⟨w6.heap.size, 0, none⟩) 0 0] 25) = w7 := ⟨_, rfl⟩
    have hb67 : Below w6.heap.size w6 w7 := by rw [← hw7]; exact ((Below.refl _ _).alloc (Nat.le_refl _) _).alloc (by simp) _
    have hz7 : w7.heap.size = w6.heap.size + 2 := by rw [← hw7]; simp
    have e1 : (w6.alloc (Obj.cells #[] 41)).heap.size = w6.heap.size + 1 := by simp
    have hG7 : Boxed w7 (w6.heap.size + 1) 25 (.slice (some ⟨w6.heap.size, 0, none⟩) 0 0) := by
      have h := Boxed.new (w6.alloc (Obj.cells #[] 41)) 25 (.slice (some ⟨w6.heap.size, 0, none⟩) 0 0)
      rw [e1, hw7] at h
      exact h
    have hE7 : w7.heap[w6.heap.size]? = some (.cells #[] 41 (0, 0)) := by
      rw [← hw7, heap_alloc_old' _ _ _ (by simp)]
      exact World.alloc_heap_new w6 _
    have hown7 : w7.ownsRow w6.heap.size 41 2 (.slice (some ⟨w6.heap.size, 0, none⟩) 0 0) 0 (flatVP []) := by
      rw [← hw7]
      exact (own_empty w6 41 2 w6.heap.size (Nat.le_refl _)).alloc _
    have HT7 := Lib.hid (HT6.out.below hb67)
    have HTB7 : Hid (Boxed w7 TB 24 (.pointer (some ⟨T, 0, none⟩))) := Lib.hid ((hb67.block _ HTB6.out.lt).trans HTB6.out)
    have HPB7 : Hid (Boxed w7 (TB + 1) 25 (.slice va q vc)) := Lib.hid ((hb67.block _ HPB6.out.lt).trans HPB6.out)
    have HRS7 : Hid (Boxed w7 w.heap.size 4 (.bool false)) := Lib.hid ((hb67.block _ HRS6.out.lt).trans HRS6.out)
    have HROW7 := Lib.hid (row_below HROW6.out hb67)
    have HRLT : Hid (∀ g, (Value.slice va q vc).ownBlock = some g → T < g ∧ g < w6.heap.size) := Lib.hid (fun g hg => by have := World.ownsRow.lt HROW6.out g hg; omega)
    have HBEL7 : Hid (Below w.heap.size w w7) := Lib.hid (HBEL6.out.trans (hb67.mono HBEL6.out.size))
    have HP7 : Hid (w7.heap[Bh]? = some (.cells #[.pointer (some ⟨T, 0, none⟩)] 24 (0, 0))) := Lib.hid ((hb67.block _ (Array.getElem?_eq_some_iff.1 HP6.out).1).trans HP6.out)
    have HBL : Hid (Bh < w6.heap.size) := Lib.hid (Array.getElem?_eq_some_iff.1 HP6.out).1
    obtain ⟨N2, hN2⟩ : ∃ n, w6.heap.size = n := ⟨_, rfl⟩
    rw [hN2] at hz7 hG7 hE7 hown7 HORD6 HRLT HBL
    have HGN : Hid (GsN w7 T (N2 + 1) N2) := Lib.hid ⟨by have := HORD6.out; omega, by omega, by omega⟩
    have HZ7 := Lib.hid hz7
    have HG7 := Lib.hid hG7
    have HE7 := Lib.hid hE7
    have HOWN7 := Lib.hid hown7
    rw [hw7]
    rw [hN2]
    clear hw7 hb67 hz7 e1 hG7 hE7 hown7 hN2 HT6 HTB6 HPB6 HRS6 HROW6 HBEL6 HP6
    go_wp2_with fail
    rename_i K1 K hKQ
    refine (wpIn_wide (n := 3)).1 ?_
    refine wpIn_actG ?_
    intro A hA
    obtain ⟨t, a, h1, h2, h3⟩ := HT7.out.at_
    have HA1 := Lib.hid h1
    have HA2 := Lib.hid h2
    have HA3 := Lib.hid h3
    clear h1 h2 h3
    refine rangeL rfl (by omega) (gf := 45) (lb := #[.pointer (some ⟨Bh, 0, none⟩)]) (by rw [hA]; rfl) trivial (enters_of Try.func45 (by kernel_rfl) rfl) (encs := fun (x : Int × Int) => #[.int .i64 x.1, .int .i64 x.2]) (fun _ => rfl)
      (GsJ w7 T (N2 + 1) N2 q (l)) (fun s x W => GsJ w7 T (N2 + 1) N2 q (l) s W ∧ ∃ r, s.1 = x :: r)
      (fun (s : KV × KV × KV) (x : Int × Int) a1 W => (GsJ w7 T (N2 + 1) N2 q (l) s W ∧ ∃ r, s.1 = x :: r) ∧ a1 = { tmps := (((A.tmps.setIfInBounds 34 (.int .i64 x.1)).setIfInBounds 35 (.int .i64 x.2)).setIfInBounds 10 (.int .i64 x.1)).setIfInBounds 11 (.int .i64 x.2), defers := [] })
      (fun c W => False) (fun s s' => s'.1 = s.1.tail) (fun s _ => s.1 = []) (l, [], l)
      (fun s => GsJ.noRec HGN.out s)
      (fun s x a1 W o k hk ho ⟨⟨h1, hg⟩, h5⟩ => ⟨⟨GsJ.noRec HGN.out s W o k hk ho h1, hg⟩, h5⟩)
      (fun c W o k hk ho h => h) (fun _ _ _ _ _ _ h => h) (fun r => ?start)
      (all1N (b := T) (t := t) (a := a) (gsC HT7.out HG7.out HE7.out) (fun W hW => ⟨?cella, ?cellb⟩) HA2.out HA3.out.symm)
      ?assign ?body ?done ?stop
    case start =>
      have e1 : (w7.alloc (.deferred (some []))).heap.size = w7.heap.size + 1 := by simp
      have hb := ((Below.refl w7.heap.size w7).alloc (Nat.le_refl _) (.deferred (some []))).alloc (by simp) (.loop r)
      refine ⟨But.of_below hb, HT7.out.below hb, ⟨_, (HG7.out.alloc _).alloc _, row_below HOWN7.out hb, fun g hg => .inl ?_⟩, rfl, by rw [HQ.out]; simp, fun _ => hb.block _ HT7.out.lt, fun o e => ?_, fun o e => ?_⟩
      · simpa [Value.ownBlock] using hg.symm
      · rw [heap_alloc_old' _ _ _ (by omega), World.alloc_heap_new] at e
        cases e; rfl
      · have h := World.alloc_heap_new (w7.alloc (.deferred (some []))) (.loop r)
        rw [e1] at h
        rw [h] at e
        cases e; rfl
    case cella =>
      exact cell_of_row W _ 0 _ _ _ ((hW.but.block _ (by have := HBL.out; have := HZ7.out; omega) (by have := HBL.out; have := HORD6.out; simp; omega)).trans HP7.out)
    case cellb =>
      exact cell_of_row W T 0 _ _ _ ((hW.fst rfl).trans HA1.out)
    case assign =>
      rintro l0 s ⟨x, u⟩ W K' hj hzW hK
      rw [hA] at hK ⊢
      gi_wp2
      exact hK _ _ ⟨hj, rfl⟩ ⟨rfl, rfl⟩
    case body =>
      rintro l9 ⟨rem, got, lt⟩ ⟨x, u⟩ a9 V ⟨⟨hj, r, hr⟩, rfl⟩ hzV
      simp only at hr
      subst hr
      have hord := HORD6.out
      have hgn := HGN.out
      have hne : ∀ {k : Nat}, k < N2 → k ≠ T → k ∉ [T, N2 + 1, N2] := fun h h' => by simp; omega
      have hlen1 := congrArg List.length hj.hist
      rw [HLQ.out] at hlen1
      simp only [List.length_append, List.length_cons] at hlen1
      have hltl := hj.len
      simp only at hltl
      obtain ⟨vo, hvo, hrow, hvg⟩ := hj.row
      simp only at hrow
      have hTBV : Boxed V TB 24 (.pointer (some ⟨T, 0, none⟩)) := (hj.but.block _ HTB7.out.lt (hne (by omega) (by omega))).trans HTB7.out
      have hPBV : Boxed V (TB + 1) 25 (.slice va q vc) := (hj.but.block _ HPB7.out.lt (hne (by omega) (by omega))).trans HPB7.out
      have hc := hvo.cell
      have HJ := Lib.hid hj
      have HVO := Lib.hid hvo
      have HROW := Lib.hid hrow
      have HTBV := Lib.hid hTBV
      have HPBV := Lib.hid hPBV
      have HLN := Lib.hid hlen1
      have HLT := Lib.hid hltl
      have HVG := Lib.hid hvg
      obtain ⟨gl, hgl⟩ : ∃ n, got.length = n := ⟨_, rfl⟩
      have HGL := Lib.hid hgl
      rw [hgl] at HROW hlen1
      have hnx : ((gl : Int) + 1) = ((gl + 1 : Nat) : Int) := by omega
      have HNX := Lib.hid hnx
      clear hj hrow hvo hnx hTBV hPBV hltl hgl hvg
      rw [hA]
      have HARM : Hid (∀ (v' : Value) (w5 : World), w5.ownsRow N2 41 2 v' (gl + 1) (flatVP got ++ [.int .i64 x, .int .i64 u]) → (V.alloc (.cells #[.int .i64 x, .int .i64 u] 41)).grownBy w5 vo.ownBlock → (v'.ownBlock = vo.ownBlock ∨ v'.ownBlock = some (V.alloc (.cells #[.int .i64 x, .int .i64 u] 41)).heap.size) →
        (GsJ w7 T (N2 + 1) N2 q (l) (r, got ++ [(x, u)], lt) (w5.setCell ⟨N2 + 1, 0, none⟩ v') ∧ SameRec w7.heap.size V (w5.setCell ⟨N2 + 1, 0, none⟩ v')) ∧ w5.cell? ⟨N2 + 1, 0, none⟩ = some vo ∧ w5.frozen? ⟨N2 + 1, 0, none⟩ = false ∧ Boxed (w5.setCell ⟨N2 + 1, 0, none⟩ v') (N2 + 1) 25 v' ∧ Boxed (w5.setCell ⟨N2 + 1, 0, none⟩ v') TB 24 (.pointer (some ⟨T, 0, none⟩)) ∧ Boxed (w5.setCell ⟨N2 + 1, 0, none⟩ v') (TB + 1) 25 (.slice va q vc)) := Lib.hid (by
        intro v' w5 hown' hgrow hat
        have hb5 : Boxed w5 (N2 + 1) 25 vo := (HVO.out.alloc _).kept hgrow (fun e => HVO.out.not_row (by decide) (HROW.out) e)
        have happ := HJ.out.app HGN.out hzV HVO.out _ (by rw [HGL.out]; exact hown') hgrow hat
        exact ⟨happ, hb5.cell, hb5.frozen, hb5.set v', (happ.1.but.block _ HTB7.out.lt (hne (by omega) (by omega))).trans HTB7.out, (happ.1.but.block _ HPB7.out.lt (hne (by omega) (by omega))).trans HPB7.out⟩)
      obtain ⟨i0, hi, hz0, hz1, hz2⟩ := info_parts infoTP
      gi_wp2_with (gi_at_builtin; refine wpListIn_append_own_at _ rfl _ _ 25 rfl N2 41 i0 (.agg #[.int .i64 0, .int .i64 0]) 2 16 Try.underlying25 hi hz0 hz1 hz2 rfl (by decide) _ _ _ rfl (HROW.out.alloc _) ⟨V.heap.size, 0, none⟩ 1 1 [.int .i64 x, .int .i64 u] rfl rfl (World.news_of_block (World.alloc_heap_new V _)) (by simp [Value.oneCell']) (by unfold maxLen; omega) (by omega) (by have := HORD6.out; have := HZ7.out; simp; omega) ?_; intro v' w5 hown' hgrow _ hat; have harm := HARM.out v' w5 hown' hgrow hat; obtain ⟨ha1, hc3, hf3, hb6, hb7, hb8⟩ := harm; have HA9 := Lib.hid ha1; obtain ⟨g', cap', rfl⟩ := ownsRow_succ hown'; have q7 := hb7.cell; have HB6 := Lib.hid hb6; have HB7 := Lib.hid hb7; have HB8 := Lib.hid hb8; clear ha1 hgrow hat hown' hb6 hb7 hb8)
      obtain ⟨W1, hW1⟩ : ∃ W1, w5.setCell ⟨N2 + 1, 0, none⟩ (.slice (some ⟨g', 0, none⟩) (gl + 1) cap') = W1 := ⟨_, rfl⟩
      rw [hW1] at HA9 HB6 HB7 HB8 ⊢
      have HDR := Lib.hid (tableDropN x T lt W1 HA9.out.1.tab (by have := HLT.out; have := HLN.out; have := HGL.out; omega))
      have hzw : w7.heap.size + 2 ≤ W1.heap.size := by
        have h1 := HA9.out.2.2
        rw [Array.getElem?_eq_getElem (by omega : w7.heap.size + 1 < V.heap.size)] at h1
        have := (Array.getElem?_eq_some_iff.1 h1).1
        omega
      have HZW := Lib.hid hzw
      clear hW1 hc3 hf3 q7 hc HARM HJ HVO HROW HTBV HPBV HVG hzw
      refine ⟨trivial, ?_⟩
      refine (callsIn_wide.2 HDR.out).mono ?_
      rintro e W2 ⟨rfl, h2, b2'⟩
      have hnb : ∀ {k : Nat}, k < N2 + 2 → k ≠ T → k ∉ [T] := fun h h' => by simpa using h'
      have hfl := List.length_filter_le (fun y : Int × Int => decide (y.1 ≠ x)) lt
      have HJ2 := Lib.hid (HA9.out.1.turn HGN.out (by simp) h2 b2' (by have := HLT.out; simp only [List.length_append, List.length_cons, List.length_nil]; omega) HZW.out)
      have HS2 : Hid (SameRec w7.heap.size V W2) := Lib.hid (HA9.out.2.trans ⟨b2'.block _ (by have := HZW.out; omega) (by have := HZ7.out; simp; omega), b2'.block _ (by have := HZW.out; omega) (by have := HZ7.out; simp; omega)⟩)
      have HZ2 : Hid (w7.heap.size + 2 ≤ W2.heap.size) := Lib.hid (Nat.le_trans HZW.out b2'.size)
      have HB62 : Hid (Boxed W2 (N2 + 1) 25 (.slice (some ⟨g', 0, none⟩) (gl + 1) cap')) := Lib.hid ((b2'.block _ HB6.out.lt (by simp; omega)).trans HB6.out)
      have HB72 : Hid (Boxed W2 TB 24 (.pointer (some ⟨T, 0, none⟩))) := Lib.hid ((b2'.block _ HB7.out.lt (by simp; omega)).trans HB7.out)
      have HB82 : Hid (Boxed W2 (TB + 1) 25 (.slice va q vc)) := Lib.hid ((b2'.block _ HB8.out.lt (by simp; omega)).trans HB8.out)
      have HFL : Hid ((lt.filter (fun y : Int × Int => decide (y.1 ≠ x))).length ≤ q + gl) := Lib.hid (by have := HLT.out; have := HGL.out; omega)
      have q72 := HB72.out.cell
      clear h2 b2' hfl HDR HA9 HZW HB6 HB7 HB8
      have HPT := Lib.hid (fun k v => tablePutN k v T _ W2 HJ2.out.tab (by have := HFL.out; have := HLN.out; have := HGL.out; show (lt.filter _).length ≤ _; omega))
      gi_wp2_with fail
      refine ⟨trivial, ?_⟩
      refine (callsIn_wide.2 (HPT.out _ _)).mono ?_
      rintro e W3 ⟨rfl, h3, b3'⟩
      have hil := insK_len (bits .xor .i64 x 1) (wrap64 (u + 1)) (lt.filter (fun y : Int × Int => decide (y.1 ≠ x)))
      have HJ3 := Lib.hid (HJ2.out.turn HGN.out (by simp) h3 b3' (by have := HFL.out; have := HGL.out; simp only [List.length_append, List.length_cons, List.length_nil]; omega) HZ2.out)
      have HS3 : Hid (SameRec w7.heap.size V W3) := Lib.hid (HS2.out.trans ⟨b3'.block _ (by have := HZ2.out; omega) (by have := HZ7.out; simp; omega), b3'.block _ (by have := HZ2.out; omega) (by have := HZ7.out; simp; omega)⟩)
      have hB63 : Boxed W3 (N2 + 1) 25 (.slice (some ⟨g', 0, none⟩) (gl + 1) cap') := (b3'.block _ HB62.out.lt (by simp; omega)).trans HB62.out
      have hB83 : Boxed W3 (TB + 1) 25 (.slice va q vc) := (b3'.block _ HB82.out.lt (by simp; omega)).trans HB82.out
      have q63 := hB63.cell
      have q83 := hB83.cell
      have g1 : decide ((q : Int) < (gl : Int) + 1) = false := decide_eq_false (by omega)
      have g1n : decide (q < gl + 1) = false := decide_eq_false (by omega)
      clear h3 b3' hil HPT HJ2 HS2 HZ2 HB62 HB72 HB82 hB63 hB83 q72
      gi_wp2_with fail
      exact ⟨HS3.out, _, rfl, HJ3.out⟩
    case done =>
      rintro ⟨rem, got, lt⟩ W hj he hD
      simp only at he
      subst he
      have hh := hj.hist
      simp only [List.append_nil] at hh
      have hord := HORD6.out
      have hgn := HGN.out
      have hne : ∀ {k : Nat}, k < N2 → k ≠ T → k ∉ [T, N2 + 1, N2] := fun h h' => by simp; omega
      obtain ⟨vo, hvo, hrow, hvg⟩ := hj.row
      simp only at hrow
      rw [hh] at hrow
      obtain ⟨ga, gc, rfl⟩ := own_form hrow
      rw [HLQ.out] at hrow hvo
      have hPBV : Boxed W (TB + 1) 25 (.slice va q vc) := (hj.but.block _ HPB7.out.lt (hne (by omega) (by omega))).trans HPB7.out
      have hRSV : Boxed W w.heap.size 4 (.bool false) := (hj.but.block _ HRS7.out.lt (hne (by omega) (by omega))).trans HRS7.out
      have hrow2 := row_but HROW7.out hj.but (fun g hg hk => by have := HRLT.out g hg; simp at hk; omega)
      have HSM := Lib.hid (refSame_any ga va q q gc vc (l) (by rw [HLQ.out]; omega) W (PrsP.of_owns (by rw [HLQ.out]; exact hrow)) (PrsP.of_owns (by rw [HLQ.out]; exact hrow2)))
      have HBW : Hid (Below w.heap.size w W) := Lib.hid (HBEL7.out.trans (hj.but.below (fun k hk => by simp at hk; omega) HBEL7.out.size))
      have HRSV := Lib.hid hRSV
      have HD := Lib.hid hD
      have HW7 : Hid (w7.heap.size < W.heap.size) := Lib.hid (Array.getElem?_eq_some_iff.1 hD).1
      have c1 := hvo.cell
      have c2 := hPBV.cell
      rw [hA]
      refine hKQ _ _ ?_
      clear hj hvo hPBV hRSV hrow hrow2 hD hvg hh
      go_wp2_with fail
      refine HSM.out.mono ?_
      rintro e W2 ⟨rfl, hb2⟩
      have hR2 : Boxed W2 w.heap.size 4 (.bool false) := (hb2.block _ HRSV.out.lt).trans HRSV.out
      have hD2 : W2.heap[w7.heap.size]? = some (.deferred (some [])) := (hb2.block _ HW7.out).trans HD.out
      have q1 := hR2.cell
      have z1 := hR2.frozen
      have HR2 := Lib.hid hR2
      have HD2 := Lib.hid hD2
      have HB2' : Hid (Below w.heap.size w W2) := Lib.hid (HBW.out.trans (hb2.mono HBW.out.size))
      clear hR2 hD2 hb2 HSM HBW HRSV HD c1 c2
      go_wp2_with fail
      have hRS3 := HR2.out.set (.bool true)
      have hB1 : Below w.heap.size w (W2.setCell ⟨w.heap.size, 0, none⟩ (.bool true)) := HB2'.out.setCell (by show w.heap.size ≤ w.heap.size; omega) _
      have hD' : (W2.setCell ⟨w.heap.size, 0, none⟩ (.bool true)).heap[w7.heap.size]? = some (.deferred (some [])) := (Below.heap_setCell W2 ⟨w.heap.size, 0, none⟩ (.bool true) w7.heap.size (by have := HZ7.out; have := HORD6.out; simp; omega)).trans HD2.out
      have hB2 : Below w.heap.size w ((W2.setCell ⟨w.heap.size, 0, none⟩ (.bool true)).putObj w7.heap.size (.deferred none)) := hB1.trans ((But.putObj _ w7.heap.size _).below (fun j hj => by have := HZ7.out; have := HORD6.out; simp at hj; omega) hB1.size)
      have hRS4 : Boxed ((W2.setCell ⟨w.heap.size, 0, none⟩ (.bool true)).putObj w7.heap.size (.deferred none)) w.heap.size 4 (.bool true) := (World.putObj_heap_other (by have := HZ7.out; have := HORD6.out; omega)).trans hRS3
      have q4 := hRS4.cell
      have HB2 := Lib.hid hB2
      clear hB1 hB2 hRS3 hRS4
      refine ⟨by simp, .inl ⟨_, _, rfl, run_takeDeferred hD', ?_⟩⟩
      refine ⟨.bool true, ?_, rfl, HB2.out⟩
      rw [results_cell1 rfl]
      simp [asAddr, Result.andThen]
      go_simp
    case stop =>
      rintro c W hF hD
      exact hF.elim
  | true =>
    go_upto_region 10 with fail
    refine region_seq (l := [_, _, _]) (t := [_, _, _]) (by kernel_rfl) (by decide +kernel) (by decide +kernel) (fun y => { tmps := #[Value.slice p0 n0 c0, Value.bool true, undef, undef, Value.pointer (some ⟨w.heap.size, 0, none⟩), Value.pointer (some ⟨TB, 0, none⟩), Value.pointer (some ⟨TB + 1, 0, none⟩), Value.bool true, Value.func (Fn.func 45) #[] #[Value.pointer (some ⟨Bh, 0, none⟩)], undef, undef, undef, Value.bool true, Value.bool false, Value.slice p0 n0 c0, Value.int IntKind.i64 (n0 : Int), Value.bool false, Value.tuple #[Value.pointer (some ⟨T, 0, none⟩), Value.slice va q vc, Value.bool true], Value.slice p0 n0 c0, Value.tuple #[Value.pointer (some ⟨T, 0, none⟩), Value.slice va q vc, Value.bool true], Value.pointer (some ⟨T, 0, none⟩), Value.slice va q vc, Value.bool true, Value.bool true, Value.bool false, Value.pointer (some ⟨T, 0, none⟩), Value.func (Fn.func 45) #[] #[Value.pointer (some ⟨Bh, 0, none⟩)], Value.bool true, y 0, y 1, y 2, undef, undef, undef, undef, undef, undef, undef, undef, undef, undef, undef, undef, undef, undef, undef, undef, undef, undef, undef, undef, undef, undef, undef, undef, undef, undef, undef, undef], defers := [] }) (fun V => Below w6.heap.size w6 V) (fun i' u V => match i' with
        | 0 => u = .pointer (some ⟨T, 0, none⟩)
        | 1 => ∃ B, u = .func (.func 47) #[] #[.pointer (some ⟨B, 0, none⟩)] ∧ V.heap[B]? = some (.cells #[.pointer (some ⟨T, 0, none⟩)] 24 (0, 0)) ∧ w6.heap.size ≤ B
        | 2 => u = .slice va q vc
        | _ => True) (fun A B => Below A.heap.size A B) ?hC ?hV (fun _ => undef) ?h0 ?hop ?hend
    case hC => exact fun A B h e => h.trans (e.mono h.size)
    case h0 => exact (Below.refl _ _).drew
    case hV =>
      rintro (_ | _ | _ | i') u A B h e
      · exact h
      · obtain ⟨B', h1, h2, h3⟩ := h
        exact ⟨B', h1, (e.block _ (Array.getElem?_eq_some_iff.1 h2).1).trans h2, h3⟩
      · exact h
      · trivial
    case hop =>
      simp only [AllDo]
      refine ⟨?o0, ?o1, ?o2, trivial⟩
      all_goals intro y V hcV hd Q hQ
      all_goals have qt := (show Boxed V TB 24 (.pointer (some ⟨T, 0, none⟩)) from (hcV.block _ HTB6.out.lt).trans HTB6.out).cell
      all_goals have qp := (show Boxed V (TB + 1) 25 (.slice va q vc) from (hcV.block _ HPB6.out.lt).trans HPB6.out).cell
      all_goals have HCV := Lib.hid hcV
      all_goals clear hcV
      all_goals simp [Region.binds] at hd
      all_goals rw [if_pos (show Region.wanted _ _ = true from rfl)]
      case o0 =>
        go_wp2
        first | exact ⟨_, rfl, Below.refl _ _, rfl⟩ | (refine ⟨.pointer (some ⟨T, 0, none⟩), ?_, Below.refl _ _, rfl⟩; simp [updV])
      case o1 =>
        have HBK := Lib.hid (backN T V)
        go_wp2_with fail
        refine HBK.out.mono ?_
        rintro e V' ⟨rfl, hV'⟩
        have HV' := Lib.hid hV'
        clear hV'
        go_wp2
        refine ⟨.func (.func 47) #[] #[.pointer (some ⟨V.heap.size, 0, none⟩)], ?_, by rw [HV'.out]; exact (Below.refl _ _).alloc (Nat.le_refl _) _, V.heap.size, rfl, by rw [HV'.out]; exact World.alloc_heap_new V _, HCV.out.size⟩
        simp [updV, hd]
      case o2 =>
        go_wp2
        first | exact ⟨_, rfl, Below.refl _ _, rfl⟩ | (refine ⟨.slice va q vc, ?_, Below.refl _ _, rfl⟩; simp [updV])
    case hend =>
      intro x V hcV hv
      have e0 : x 0 = .pointer (some ⟨T, 0, none⟩) := hv 0 (by decide)
      have e1 : ∃ B, x 1 = .func (.func 47) #[] #[.pointer (some ⟨B, 0, none⟩)] ∧ V.heap[B]? = some (.cells #[.pointer (some ⟨T, 0, none⟩)] 24 (0, 0)) ∧ w6.heap.size ≤ B := hv 1 (by decide)
      have e2 : x 2 = .slice va q vc := hv 2 (by decide)
      obtain ⟨Bk, e1, hBk, hBl⟩ := e1
      have HRB := Lib.hid (refBack_any va q vc l (by rw [HQ.out]; omega) V (PrsP.of_owns (by rw [HQ.out]; exact row_below HROW6.out hcV)))
      have HCV := Lib.hid hcV
      have HBK := Lib.hid hBk
      have HBL' := Lib.hid hBl
      clear hv hcV hBk hBl
      simp only [SeqDoes]
      intro Q1 hQ1
      rw [if_pos (show Region.wanted _ _ = true from rfl)]
      go_wp2_with fail
      refine HRB.out.mono ?_
      rintro e W2 ⟨vb, rfl, hrow, hb2⟩
      rw [HQ.out] at hrow
      obtain ⟨vp, cp, rfl⟩ := own_form hrow
      have hb62 : Below w6.heap.size w6 W2 := HCV.out.trans (hb2.mono HCV.out.size)
      have hPB2 : Boxed W2 (TB + 1) 25 (.slice va q vc) := (hb62.block _ HPB6.out.lt).trans HPB6.out
      have q1 := hPB2.cell
      have z1 := hPB2.frozen
      have HPB2 := Lib.hid hPB2
      have HB62 := Lib.hid hb62
      have HB2 := Lib.hid hb2
      have HROW2 := Lib.hid hrow
      clear hb62 hPB2 hb2 hrow HRB
      go_wp2_with fail
      intro Q2 hQ2
      rw [if_pos (show Region.wanted _ _ = true from rfl)]
      go_wp2_with fail
      intro Q3 hQ3
      rw [if_pos (show Region.wanted _ _ = true from rfl)]
      go_upto_region 11 with fail
      obtain ⟨w9, hw9⟩ : ∃ w9, W2.setCell ⟨TB + 1, 0, none⟩ (.slice vp q cp) = w9 := ⟨_, rfl⟩
      have hb9 : But [TB + 1] W2 w9 := by rw [← hw9]; exact (But.refl _ W2).set (.inl (by simp)) _
      have hord := HORD6.out
      have hV := HCV.out.size
      have hPB9 : Boxed w9 (TB + 1) 25 (.slice vp q cp) := by rw [← hw9]; exact HPB2.out.set _
      have hTB2 : Boxed W2 TB 24 (.pointer (some ⟨T, 0, none⟩)) := (HB62.out.block _ HTB6.out.lt).trans HTB6.out
      have hRS2 : Boxed W2 w.heap.size 4 (.bool false) := (HB62.out.block _ HRS6.out.lt).trans HRS6.out
      have hT2 := HT6.out.below HB62.out
      have hP2 : W2.heap[Bk]? = some (.cells #[.pointer (some ⟨T, 0, none⟩)] 24 (0, 0)) := (HB2.out.block _ (Array.getElem?_eq_some_iff.1 HBK.out).1).trans HBK.out
      have HTB9 : Hid (Boxed w9 TB 24 (.pointer (some ⟨T, 0, none⟩))) := Lib.hid ((hb9.block _ hTB2.lt (by simp)).trans hTB2)
      have HRS9 : Hid (Boxed w9 w.heap.size 4 (.bool false)) := Lib.hid ((hb9.block _ hRS2.lt (by simp; omega)).trans hRS2)
      have HPB9 := Lib.hid hPB9
      have HT9 : Hid (TabN w9 T l) := Lib.hid (hT2.stay (StayN.of_but hb9 (fun k hk cs' e => by
        simp at hk; subst hk
        have h0 : W2.heap[TB + 1]? = some (.cells #[.slice va q vc] 25 (0, 0)) := HPB2.out
        rw [h0] at e
        simp at e)) (hb9.block _ hT2.lt (by simp; omega)))
      have HROW9 : Hid (w9.ownsRow (T + 1) 41 2 (.slice vp q cp) q (flatVP l.reverse)) := Lib.hid (own_mono (row_but HROW2.out hb9 (fun g hg hk => by have := World.ownsRow.lt HROW2.out g hg; simp at hk; omega)) (by omega))
      have HBEL9 : Hid (Below w.heap.size w w9) := Lib.hid ((HBEL6.out.trans (HB62.out.mono HBEL6.out.size)).trans (hb9.below (fun k hk => by simp at hk; omega) (by have := HBEL6.out.size; have := HB62.out.size; omega)))
      have HP9 : Hid (w9.heap[Bk]? = some (.cells #[.pointer (some ⟨T, 0, none⟩)] 24 (0, 0))) := Lib.hid ((hb9.block _ (Array.getElem?_eq_some_iff.1 hP2).1 (by have := HBL'.out; simp; omega)).trans hP2)
      have HORD9 : Hid (w.heap.size < T ∧ T < TB ∧ TB + 2 ≤ w9.heap.size ∧ T < Bk) := Lib.hid ⟨hord.1, hord.2.1, by have := hb9.size; have := HB62.out.size; omega, by have := HBL'.out; omega⟩
      rw [hw9]
      clear hw9 hb9 hV hPB9 hTB2 hRS2 hT2 hP2 HTB6 HPB6 HRS6 HT6 HROW6 HBEL6 HP6 HORD6 HROW2 HPB2 HB2 HB62 HCV HBK HBL' q1 z1 e0 e1 e2 hord
      have HLQ : Hid ((l.reverse).length = q) := Lib.hid (by first | exact HQ.out | (rw [List.length_reverse]; exact HQ.out))
      go_upto_region 12 with fail
      obtain ⟨w7, hw7⟩ : ∃ w7, (w9.alloc (Obj.cells #[] 41)).alloc (Obj.cells #[.slice (some ⟨w9.heap.size, 0, none⟩) 0 0] 25) = w7 := ⟨_, rfl⟩
      have hb67 : Below w9.heap.size w9 w7 := by rw [← hw7]; exact ((Below.refl _ _).alloc (Nat.le_refl _) _).alloc (by simp) _
      have hz7 : w7.heap.size = w9.heap.size + 2 := by rw [← hw7]; simp
      have e1 : (w9.alloc (Obj.cells #[] 41)).heap.size = w9.heap.size + 1 := by simp
      have hG7 : Boxed w7 (w9.heap.size + 1) 25 (.slice (some ⟨w9.heap.size, 0, none⟩) 0 0) := by
        have h := Boxed.new (w9.alloc (Obj.cells #[] 41)) 25 (.slice (some ⟨w9.heap.size, 0, none⟩) 0 0)
        rw [e1, hw7] at h
        exact h
      have hE7 : w7.heap[w9.heap.size]? = some (.cells #[] 41 (0, 0)) := by
        rw [← hw7, heap_alloc_old' _ _ _ (by simp)]
        exact World.alloc_heap_new w9 _
      have hown7 : w7.ownsRow w9.heap.size 41 2 (.slice (some ⟨w9.heap.size, 0, none⟩) 0 0) 0 (flatVP []) := by
        rw [← hw7]
        exact (own_empty w9 41 2 w9.heap.size (Nat.le_refl _)).alloc _
      have HT7 := Lib.hid (HT9.out.below hb67)
      have HTB7 : Hid (Boxed w7 TB 24 (.pointer (some ⟨T, 0, none⟩))) := Lib.hid ((hb67.block _ HTB9.out.lt).trans HTB9.out)
      have HPB7 : Hid (Boxed w7 (TB + 1) 25 (.slice vp q cp)) := Lib.hid ((hb67.block _ HPB9.out.lt).trans HPB9.out)
      have HRS7 : Hid (Boxed w7 w.heap.size 4 (.bool false)) := Lib.hid ((hb67.block _ HRS9.out.lt).trans HRS9.out)
      have HROW7 := Lib.hid (row_below HROW9.out hb67)
      have HRLT : Hid (∀ g, (Value.slice vp q cp).ownBlock = some g → T < g ∧ g < w9.heap.size) := Lib.hid (fun g hg => by have := World.ownsRow.lt HROW9.out g hg; omega)
      have HBEL7 : Hid (Below w.heap.size w w7) := Lib.hid (HBEL9.out.trans (hb67.mono HBEL9.out.size))
      have HP7 : Hid (w7.heap[Bk]? = some (.cells #[.pointer (some ⟨T, 0, none⟩)] 24 (0, 0))) := Lib.hid ((hb67.block _ (Array.getElem?_eq_some_iff.1 HP9.out).1).trans HP9.out)
      have HBL : Hid (Bk < w9.heap.size) := Lib.hid (Array.getElem?_eq_some_iff.1 HP9.out).1
      obtain ⟨N2, hN2⟩ : ∃ n, w9.heap.size = n := ⟨_, rfl⟩
      rw [hN2] at hz7 hG7 hE7 hown7 HORD9 HRLT HBL
      have HGN : Hid (GsN w7 T (N2 + 1) N2) := Lib.hid ⟨by have := HORD9.out; omega, by omega, by omega⟩
      have HZ7 := Lib.hid hz7
      have HG7 := Lib.hid hG7
      have HE7 := Lib.hid hE7
      have HOWN7 := Lib.hid hown7
      rw [hw7]
      rw [hN2]
      clear hw7 hb67 hz7 e1 hG7 hE7 hown7 hN2 HT9 HTB9 HPB9 HRS9 HROW9 HBEL9 HP9
      go_wp2_with fail
      rename_i K1 K hKQ
      refine (wpIn_wide (n := 3)).1 ?_
      refine wpIn_actG ?_
      intro A hA
      obtain ⟨t, a, h1, h2, h3⟩ := HT7.out.at_
      have HA1 := Lib.hid h1
      have HA2 := Lib.hid h2
      have HA3 := Lib.hid h3
      clear h1 h2 h3
      refine rangeL rfl (by omega) (gf := 47) (lb := #[.pointer (some ⟨Bk, 0, none⟩)]) (by rw [hA]; rfl) trivial (enters_of Try.func47 (by kernel_rfl) rfl) (encs := fun (x : Int × Int) => #[.int .i64 x.1, .int .i64 x.2]) (fun _ => rfl)
        (GsJ w7 T (N2 + 1) N2 q (l.reverse)) (fun s x W => GsJ w7 T (N2 + 1) N2 q (l.reverse) s W ∧ ∃ r, s.1 = x :: r)
        (fun (s : KV × KV × KV) (x : Int × Int) a1 W => (GsJ w7 T (N2 + 1) N2 q (l.reverse) s W ∧ ∃ r, s.1 = x :: r) ∧ a1 = { tmps := (((A.tmps.setIfInBounds 34 (.int .i64 x.1)).setIfInBounds 35 (.int .i64 x.2)).setIfInBounds 10 (.int .i64 x.1)).setIfInBounds 11 (.int .i64 x.2), defers := [] })
        (fun c W => False) (fun s s' => s'.1 = s.1.tail) (fun s _ => s.1 = []) (l.reverse, [], l)
        (fun s => GsJ.noRec HGN.out s)
        (fun s x a1 W o k hk ho ⟨⟨h1, hg⟩, h5⟩ => ⟨⟨GsJ.noRec HGN.out s W o k hk ho h1, hg⟩, h5⟩)
        (fun c W o k hk ho h => h) (fun _ _ _ _ _ _ h => h) (fun r => ?start)
        (back1N (b := T) (t := t) (a := a) (gsC HT7.out HG7.out HE7.out) (fun W hW => ⟨?cella, ?cellb⟩) HA2.out (by rw [HA3.out]))
        ?assign ?body ?done ?stop
      case start =>
        have e1 : (w7.alloc (.deferred (some []))).heap.size = w7.heap.size + 1 := by simp
        have hb := ((Below.refl w7.heap.size w7).alloc (Nat.le_refl _) (.deferred (some []))).alloc (by simp) (.loop r)
        refine ⟨But.of_below hb, HT7.out.below hb, ⟨_, (HG7.out.alloc _).alloc _, row_below HOWN7.out hb, fun g hg => .inl ?_⟩, rfl, by rw [HQ.out]; simp, fun _ => hb.block _ HT7.out.lt, fun o e => ?_, fun o e => ?_⟩
        · simpa [Value.ownBlock] using hg.symm
        · rw [heap_alloc_old' _ _ _ (by omega), World.alloc_heap_new] at e
          cases e; rfl
        · have h := World.alloc_heap_new (w7.alloc (.deferred (some []))) (.loop r)
          rw [e1] at h
          rw [h] at e
          cases e; rfl
      case cella =>
        exact cell_of_row W _ 0 _ _ _ ((hW.but.block _ (by have := HBL.out; have := HZ7.out; omega) (by have := HBL.out; have := HORD9.out; simp; omega)).trans HP7.out)
      case cellb =>
        exact cell_of_row W T 0 _ _ _ ((hW.fst rfl).trans HA1.out)
      case assign =>
        rintro l0 s ⟨x, u⟩ W K' hj hzW hK
        rw [hA] at hK ⊢
        gi_wp2
        exact hK _ _ ⟨hj, rfl⟩ ⟨rfl, rfl⟩
      case body =>
        rintro l9 ⟨rem, got, lt⟩ ⟨x, u⟩ a9 V ⟨⟨hj, r, hr⟩, rfl⟩ hzV
        simp only at hr
        subst hr
        have hord := HORD9.out
        have hgn := HGN.out
        have hne : ∀ {k : Nat}, k < N2 → k ≠ T → k ∉ [T, N2 + 1, N2] := fun h h' => by simp; omega
        have hlen1 := congrArg List.length hj.hist
        rw [HLQ.out] at hlen1
        simp only [List.length_append, List.length_cons] at hlen1
        have hltl := hj.len
        simp only at hltl
        obtain ⟨vo, hvo, hrow, hvg⟩ := hj.row
        simp only at hrow
        have hTBV : Boxed V TB 24 (.pointer (some ⟨T, 0, none⟩)) := (hj.but.block _ HTB7.out.lt (hne (by omega) (by omega))).trans HTB7.out
        have hPBV : Boxed V (TB + 1) 25 (.slice vp q cp) := (hj.but.block _ HPB7.out.lt (hne (by omega) (by omega))).trans HPB7.out
        have hc := hvo.cell
        have HJ := Lib.hid hj
        have HVO := Lib.hid hvo
        have HROW := Lib.hid hrow
        have HTBV := Lib.hid hTBV
        have HPBV := Lib.hid hPBV
        have HLN := Lib.hid hlen1
        have HLT := Lib.hid hltl
        have HVG := Lib.hid hvg
        obtain ⟨gl, hgl⟩ : ∃ n, got.length = n := ⟨_, rfl⟩
        have HGL := Lib.hid hgl
        rw [hgl] at HROW hlen1
        have hnx : ((gl : Int) + 1) = ((gl + 1 : Nat) : Int) := by omega
        have HNX := Lib.hid hnx
        clear hj hrow hvo hnx hTBV hPBV hltl hgl hvg
        rw [hA]
        have HARM : Hid (∀ (v' : Value) (w5 : World), w5.ownsRow N2 41 2 v' (gl + 1) (flatVP got ++ [.int .i64 x, .int .i64 u]) → (V.alloc (.cells #[.int .i64 x, .int .i64 u] 41)).grownBy w5 vo.ownBlock → (v'.ownBlock = vo.ownBlock ∨ v'.ownBlock = some (V.alloc (.cells #[.int .i64 x, .int .i64 u] 41)).heap.size) →
          (GsJ w7 T (N2 + 1) N2 q (l.reverse) (r, got ++ [(x, u)], lt) (w5.setCell ⟨N2 + 1, 0, none⟩ v') ∧ SameRec w7.heap.size V (w5.setCell ⟨N2 + 1, 0, none⟩ v')) ∧ w5.cell? ⟨N2 + 1, 0, none⟩ = some vo ∧ w5.frozen? ⟨N2 + 1, 0, none⟩ = false ∧ Boxed (w5.setCell ⟨N2 + 1, 0, none⟩ v') (N2 + 1) 25 v' ∧ Boxed (w5.setCell ⟨N2 + 1, 0, none⟩ v') TB 24 (.pointer (some ⟨T, 0, none⟩)) ∧ Boxed (w5.setCell ⟨N2 + 1, 0, none⟩ v') (TB + 1) 25 (.slice vp q cp)) := Lib.hid (by
          intro v' w5 hown' hgrow hat
          have hb5 : Boxed w5 (N2 + 1) 25 vo := (HVO.out.alloc _).kept hgrow (fun e => HVO.out.not_row (by decide) (HROW.out) e)
          have happ := HJ.out.app HGN.out hzV HVO.out _ (by rw [HGL.out]; exact hown') hgrow hat
          exact ⟨happ, hb5.cell, hb5.frozen, hb5.set v', (happ.1.but.block _ HTB7.out.lt (hne (by omega) (by omega))).trans HTB7.out, (happ.1.but.block _ HPB7.out.lt (hne (by omega) (by omega))).trans HPB7.out⟩)
        obtain ⟨i0, hi, hz0, hz1, hz2⟩ := info_parts infoTP
        gi_wp2_with (gi_at_builtin; refine wpListIn_append_own_at _ rfl _ _ 25 rfl N2 41 i0 (.agg #[.int .i64 0, .int .i64 0]) 2 16 Try.underlying25 hi hz0 hz1 hz2 rfl (by decide) _ _ _ rfl (HROW.out.alloc _) ⟨V.heap.size, 0, none⟩ 1 1 [.int .i64 x, .int .i64 u] rfl rfl (World.news_of_block (World.alloc_heap_new V _)) (by simp [Value.oneCell']) (by unfold maxLen; omega) (by omega) (by have := HORD9.out; have := HZ7.out; simp; omega) ?_; intro v' w5 hown' hgrow _ hat; have harm := HARM.out v' w5 hown' hgrow hat; obtain ⟨ha1, hc3, hf3, hb6, hb7, hb8⟩ := harm; have HA9 := Lib.hid ha1; obtain ⟨g', cap', rfl⟩ := ownsRow_succ hown'; have q7 := hb7.cell; have HB6 := Lib.hid hb6; have HB7 := Lib.hid hb7; have HB8 := Lib.hid hb8; clear ha1 hgrow hat hown' hb6 hb7 hb8)
        obtain ⟨W1, hW1⟩ : ∃ W1, w5.setCell ⟨N2 + 1, 0, none⟩ (.slice (some ⟨g', 0, none⟩) (gl + 1) cap') = W1 := ⟨_, rfl⟩
        rw [hW1] at HA9 HB6 HB7 HB8 ⊢
        have HDR := Lib.hid (tableDropN x T lt W1 HA9.out.1.tab (by have := HLT.out; have := HLN.out; have := HGL.out; omega))
        have hzw : w7.heap.size + 2 ≤ W1.heap.size := by
          have h1 := HA9.out.2.2
          rw [Array.getElem?_eq_getElem (by omega : w7.heap.size + 1 < V.heap.size)] at h1
          have := (Array.getElem?_eq_some_iff.1 h1).1
          omega
        have HZW := Lib.hid hzw
        clear hW1 hc3 hf3 q7 hc HARM HJ HVO HROW HTBV HPBV HVG hzw
        refine ⟨trivial, ?_⟩
        refine (callsIn_wide.2 HDR.out).mono ?_
        rintro e W2 ⟨rfl, h2, b2'⟩
        have hnb : ∀ {k : Nat}, k < N2 + 2 → k ≠ T → k ∉ [T] := fun h h' => by simpa using h'
        have hfl := List.length_filter_le (fun y : Int × Int => decide (y.1 ≠ x)) lt
        have HJ2 := Lib.hid (HA9.out.1.turn HGN.out (by simp) h2 b2' (by have := HLT.out; simp only [List.length_append, List.length_cons, List.length_nil]; omega) HZW.out)
        have HS2 : Hid (SameRec w7.heap.size V W2) := Lib.hid (HA9.out.2.trans ⟨b2'.block _ (by have := HZW.out; omega) (by have := HZ7.out; simp; omega), b2'.block _ (by have := HZW.out; omega) (by have := HZ7.out; simp; omega)⟩)
        have HZ2 : Hid (w7.heap.size + 2 ≤ W2.heap.size) := Lib.hid (Nat.le_trans HZW.out b2'.size)
        have HB62 : Hid (Boxed W2 (N2 + 1) 25 (.slice (some ⟨g', 0, none⟩) (gl + 1) cap')) := Lib.hid ((b2'.block _ HB6.out.lt (by simp; omega)).trans HB6.out)
        have HB72 : Hid (Boxed W2 TB 24 (.pointer (some ⟨T, 0, none⟩))) := Lib.hid ((b2'.block _ HB7.out.lt (by simp; omega)).trans HB7.out)
        have HB82 : Hid (Boxed W2 (TB + 1) 25 (.slice vp q cp)) := Lib.hid ((b2'.block _ HB8.out.lt (by simp; omega)).trans HB8.out)
        have HFL : Hid ((lt.filter (fun y : Int × Int => decide (y.1 ≠ x))).length ≤ q + gl) := Lib.hid (by have := HLT.out; have := HGL.out; omega)
        have q72 := HB72.out.cell
        clear h2 b2' hfl HDR HA9 HZW HB6 HB7 HB8
        have HPT := Lib.hid (fun k v => tablePutN k v T _ W2 HJ2.out.tab (by have := HFL.out; have := HLN.out; have := HGL.out; show (lt.filter _).length ≤ _; omega))
        gi_wp2_with fail
        refine ⟨trivial, ?_⟩
        refine (callsIn_wide.2 (HPT.out _ _)).mono ?_
        rintro e W3 ⟨rfl, h3, b3'⟩
        have hil := insK_len (bits .xor .i64 x 1) (wrap64 (u + 1)) (lt.filter (fun y : Int × Int => decide (y.1 ≠ x)))
        have HJ3 := Lib.hid (HJ2.out.turn HGN.out (by simp) h3 b3' (by have := HFL.out; have := HGL.out; simp only [List.length_append, List.length_cons, List.length_nil]; omega) HZ2.out)
        have HS3 : Hid (SameRec w7.heap.size V W3) := Lib.hid (HS2.out.trans ⟨b3'.block _ (by have := HZ2.out; omega) (by have := HZ7.out; simp; omega), b3'.block _ (by have := HZ2.out; omega) (by have := HZ7.out; simp; omega)⟩)
        have hB63 : Boxed W3 (N2 + 1) 25 (.slice (some ⟨g', 0, none⟩) (gl + 1) cap') := (b3'.block _ HB62.out.lt (by simp; omega)).trans HB62.out
        have hB83 : Boxed W3 (TB + 1) 25 (.slice vp q cp) := (b3'.block _ HB82.out.lt (by simp; omega)).trans HB82.out
        have q63 := hB63.cell
        have q83 := hB83.cell
        have g1 : decide ((q : Int) < (gl : Int) + 1) = false := decide_eq_false (by omega)
        have g1n : decide (q < gl + 1) = false := decide_eq_false (by omega)
        clear h3 b3' hil HPT HJ2 HS2 HZ2 HB62 HB72 HB82 hB63 hB83 q72
        gi_wp2_with fail
        exact ⟨HS3.out, _, rfl, HJ3.out⟩
      case done =>
        rintro ⟨rem, got, lt⟩ W hj he hD
        simp only at he
        subst he
        have hh := hj.hist
        simp only [List.append_nil] at hh
        have hord := HORD9.out
        have hgn := HGN.out
        have hne : ∀ {k : Nat}, k < N2 → k ≠ T → k ∉ [T, N2 + 1, N2] := fun h h' => by simp; omega
        obtain ⟨vo, hvo, hrow, hvg⟩ := hj.row
        simp only at hrow
        rw [hh] at hrow
        obtain ⟨ga, gc, rfl⟩ := own_form hrow
        rw [HLQ.out] at hrow hvo
        have hPBV : Boxed W (TB + 1) 25 (.slice vp q cp) := (hj.but.block _ HPB7.out.lt (hne (by omega) (by omega))).trans HPB7.out
        have hRSV : Boxed W w.heap.size 4 (.bool false) := (hj.but.block _ HRS7.out.lt (hne (by omega) (by omega))).trans HRS7.out
        have hrow2 := row_but HROW7.out hj.but (fun g hg hk => by have := HRLT.out g hg; simp at hk; omega)
        have HSM := Lib.hid (refSame_any ga vp q q gc cp (l.reverse) (by rw [HLQ.out]; omega) W (PrsP.of_owns (by rw [HLQ.out]; exact hrow)) (PrsP.of_owns (by rw [HLQ.out]; exact hrow2)))
        have HBW : Hid (Below w.heap.size w W) := Lib.hid (HBEL7.out.trans (hj.but.below (fun k hk => by simp at hk; omega) HBEL7.out.size))
        have HRSV := Lib.hid hRSV
        have HD := Lib.hid hD
        have HW7 : Hid (w7.heap.size < W.heap.size) := Lib.hid (Array.getElem?_eq_some_iff.1 hD).1
        have c1 := hvo.cell
        have c2 := hPBV.cell
        rw [hA]
        refine hKQ _ _ ?_
        clear hj hvo hPBV hRSV hrow hrow2 hD hvg hh
        go_wp2_with fail
        refine HSM.out.mono ?_
        rintro e W2 ⟨rfl, hb2⟩
        have hR2 : Boxed W2 w.heap.size 4 (.bool false) := (hb2.block _ HRSV.out.lt).trans HRSV.out
        have hD2 : W2.heap[w7.heap.size]? = some (.deferred (some [])) := (hb2.block _ HW7.out).trans HD.out
        have q1 := hR2.cell
        have z1 := hR2.frozen
        have HR2 := Lib.hid hR2
        have HD2 := Lib.hid hD2
        have HB2' : Hid (Below w.heap.size w W2) := Lib.hid (HBW.out.trans (hb2.mono HBW.out.size))
        clear hR2 hD2 hb2 HSM HBW HRSV HD c1 c2
        go_wp2_with fail
        have hRS3 := HR2.out.set (.bool true)
        have hB1 : Below w.heap.size w (W2.setCell ⟨w.heap.size, 0, none⟩ (.bool true)) := HB2'.out.setCell (by show w.heap.size ≤ w.heap.size; omega) _
        have hD' : (W2.setCell ⟨w.heap.size, 0, none⟩ (.bool true)).heap[w7.heap.size]? = some (.deferred (some [])) := (Below.heap_setCell W2 ⟨w.heap.size, 0, none⟩ (.bool true) w7.heap.size (by have := HZ7.out; have := HORD9.out; simp; omega)).trans HD2.out
        have hB2 : Below w.heap.size w ((W2.setCell ⟨w.heap.size, 0, none⟩ (.bool true)).putObj w7.heap.size (.deferred none)) := hB1.trans ((But.putObj _ w7.heap.size _).below (fun j hj => by have := HZ7.out; have := HORD9.out; simp at hj; omega) hB1.size)
        have hRS4 : Boxed ((W2.setCell ⟨w.heap.size, 0, none⟩ (.bool true)).putObj w7.heap.size (.deferred none)) w.heap.size 4 (.bool true) := (World.putObj_heap_other (by have := HZ7.out; have := HORD9.out; omega)).trans hRS3
        have q4 := hRS4.cell
        have HB2 := Lib.hid hB2
        clear hB1 hB2 hRS3 hRS4
        refine ⟨by simp, .inl ⟨_, _, rfl, run_takeDeferred hD', ?_⟩⟩
        refine ⟨.bool true, ?_, rfl, HB2.out⟩
        rw [results_cell1 rfl]
        simp [asAddr, Result.andThen]
        go_simp
      case stop =>
        rintro c W hF hD
        exact hF.elim


set_option maxRecDepth 100000 in
theorem lifted (os : Os) (started : os.Started) (H : Type) (enc : TypeId × Value → H) :
    ReturnsInHanded {} Try.checked os 5 .any (Rows.tableGoesSpec.pre6 enc Try.prog Try.f5 Rows.tableGoesRow.domain false) (Rows.tableGoesSpec.post enc Try.prog Try.f5 false true false false) := by
  refine returnsInHanded_of_change (C := Try.checked) own started (by kernel_rfl) Try.func5
    (ChangeSpec.witness6 (enc := enc) (C := Try.checked) false ⟨#[], #[.slice none 0 0, .bool false], []⟩ 8 (by kernel_rfl) (by kernel_rfl) (by kernel_rfl) (by kernel_rfl)) ?_
  intro W base args ds gs before hval0 hW hcnd _
  have hval : ∀ (j : Nat) t v, Try.f5.params[j]? = some t → args[j]? = some v → Value.okWide Try.prog W .any base t v := hval0
  have hW' := hW
  obtain ⟨p, q, hA0, hV, rfl, hfz, hnd⟩ := hW
  have hA : DataW.TrodAll enc Try.prog W 0 (fun _ => true) true Try.f5.params.toList args.toList ds p := hA0
  rw [Try.params5] at hA hval
  have hAk := hA
  obtain ⟨v0, vs0, d0, ds0, p0', q0, hargs, rfl, rfl, h0, r0⟩ := trodAll_cons hA
  obtain ⟨v1, vs1, d1, ds1, p1', q1, rfl, rfl, rfl, h1, r1⟩ := trodAll_cons r0
  obtain ⟨rfl, rfl, rfl⟩ := trodAll_nil r1
  obtain rfl : args = #[v0, v1] := by cases args; simp_all
  obtain ⟨rfl, rfl⟩ := trodVars_none hV
  simp only [List.append_nil] at hW' hAk
  have hlt := fun x hx => hW'.lt x hx
  clear hA0 hval0
  obtain ⟨p0, n0, c0, l0, rfl, S0, b0⟩ := open_hops (okWide_slice Try.underlying22 (hval 0 22 v0 rfl rfl)) h0
  obtain ⟨a1, rfl, rfl, rfl⟩ := open_bool Try.underlying4 (hval 1 4 v1 rfl rfl) h1
  refine (walk W p0 n0 c0 l0 S0 b0 a1).mono fun e W' ⟨he, hg⟩ => ?_
  subst he
  have hargs := trodAll_below hg _ _ _ _ (by intro t ht; simp only [List.mem_cons, List.not_mem_nil, or_false] at ht; revert t; rintro t (rfl | rfl) <;> exact ⟨by kernel_rfl, of_decide_eq_true (by kernel_rfl)⟩) hAk (fun x hx => by simpa using hlt x hx)
  exact ⟨_, rfl, _, _, _, [], _, [], hW', (trodAll_cons_mk (shut_bool Try.underlying4 _) trodAll_mk0), hargs, rfl, hg.frame _, fun h => by cases h⟩

theorem over : Rows.tableGoesRow.holds Try.pinned (OpenSpec.ofChange Rows.tableGoesSpec) :=
  OpenClaim.holds_of_wide 5 Try.f5 rfl rfl rfl rfl rfl rfl rfl ⟨rfl, rfl, rfl, rfl, rfl⟩ rfl rfl rfl rfl rfl (by kernel_rfl) Try.func5 (by kernel_rfl)
    (of_decide_eq_true (by kernel_rfl)) (by unfold Func.isWrapper; first | (rw [if_pos (by decide +kernel)]; kernel_rfl) | (rw [if_neg (by decide +kernel)]; exact ⟨rfl, rfl⟩))
    (fun os started H enc _ => lifted os started H enc)

theorem proved : Rows.TableGoesSaid :=
  over
end Go.Proofs.Ytchnjafcnigllaa.tableGoes
