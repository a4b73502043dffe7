/- For whatever steps and number law TableMaps answers true: a table of what is made of each has the same keys, and what was made. No condition. -/
import Derived.Test.YtchnjafcnigllaaTabU
import Derived.Test.YtchnjafcnigllaaRangeR
import Derived.Test.YtchnjafcnigllaaRegionSeq
namespace Go.Proofs.Ytchnjafcnigllaa.tableMaps
open Go.ChangeShapes Go.WideShapes Go.ChangeAt Go.RowKit Go.Proofs.Ytchnjafcnigllaa
set_option linter.unusedVariables false

attribute [local go_sem] Oper.semAt_some
/-- What stays while a table of what was made is told: the count. -/
structure MpJ (w0 : World) (IB : Nat) (L : KV) (s : KV × Nat) (W : World) : Prop where
  but : But [IB] w0 W
  num : Boxed W IB 3 (.int .i64 s.2)
  rem : L.drop s.2 = s.1
  le : s.2 ≤ L.length
theorem MpJ.noRec {w0 : World} {IB : Nat} {L : KV} (hI : IB < w0.heap.size) (s : KV × Nat) : NoRec w0.heap.size (MpJ w0 IB L s) := fun W o k hk h =>
  ⟨h.but.trans (But.putObj W k o) (fun j hj => by simp at hj; omega), ((But.putObj W k o).block _ h.num.lt (by simp; omega)).trans h.num, h.rem, h.le⟩
theorem mpC {w0 : World} {IB : Nat} {L : KV} {v : Value} (hI : Boxed w0 IB 3 v) : EachC w0 Prod.fst (MpJ w0 IB L) (fun s x W => MpJ w0 IB L s W ∧ ∃ r, s.1 = x :: r) (fun s s' => s'.1 = s.1.tail) where
  stay := fun s W h => StayN.of_but h.but (fun k hk cs e => by
    simp at hk; subst hk
    have : w0.heap[k]? = some (.cells #[v] 3 (0, 0)) := hI
    rw [this] at e
    simp at e)
  drew := fun s W h => ⟨h.but.drew, h.num, h.rem, h.le⟩
  yield := fun s W x r h e => ⟨h, r, e⟩
  next := fun s s' h => h

set_option maxRecDepth 100000 in
set_option maxHeartbeats 2000000 in
theorem walk (w : World) (p0 : Option Addr) (n0 c0 : Nat) (l0 : List HOp) (S0 : HOps w.heap.size w (.slice p0 n0 c0) l0) (b0 : (∀ x ∈ l0, x.Ok) ∧ l0.length ≤ Go.maxLen) (a1 : Int) (w1 : (Lit.int .i64 a1).wf = true) :
    Calls Try.prog 7 #[.slice p0 n0 c0, .int .i64 a1] w fun e w' => e = .returned (.bool true) ∧ Below w.heap.size w w' := by

  have hlen0 := S0.len
  subst hlen0
  have HS0 := Lib.hid S0
  have HAL := Lib.hid (fun W => tabAlive_any W)
  obtain ⟨n0, hn0⟩ : ∃ n, l0.length = n := ⟨_, rfl⟩
  have HN0 := Lib.hid hn0
  have hmax0 := b0.2
  rw [hn0] at hmax0 HS0 ⊢
  unfold maxLen at hmax0
  clear S0 b0 hn0 w1
  obtain ⟨wa, hwa⟩ : ∃ wa, (w.alloc (Obj.cells #[.int .i64 a1] 2)).alloc (Obj.cells #[.bool false] 4) = wa := ⟨_, rfl⟩
  have hba : Below w.heap.size w wa := by rw [← hwa]; exact ((Below.refl _ _).alloc (Nat.le_refl _) _).alloc (by simp) _
  have hza : wa.heap.size = w.heap.size + 2 := by rw [← hwa]; simp
  have hBY : Boxed wa w.heap.size 2 (.int .i64 a1) := by rw [← hwa]; exact (Boxed.new w _ _).alloc _
  have hRS : Boxed wa (w.heap.size + 1) 4 (.bool false) := by
    have h := Boxed.new (w.alloc (Obj.cells #[.int .i64 a1] 2)) 4 (.bool false)
    rw [show (w.alloc (Obj.cells #[.int .i64 a1] 2)).heap.size = w.heap.size + 1 from by simp, hwa] at h
    exact h
  have HBA := Lib.hid hba
  have HZA := Lib.hid hza
  have HBY := Lib.hid hBY
  have HRS := Lib.hid hRS
  have HWA := Lib.hid hwa
  clear hba hza hBY hRS hwa
  by_cases hbig : 100 < n0
  · have c0' : decide ((100 : Int) < (n0 : Int)) = true := decide_eq_true (by omega)
    go_enter Try.func7, Try.ntmps7
    go_upto_region 1 with fail
    rw [HWA.out]
    go_upto_region 4 with (go_at_call 9; refine (HAL.out _).mono ?_; rintro e w2 ⟨rfl, hb2⟩; have HB2 := Lib.hid hb2; clear hb2)
    have hR2 : Boxed w2 (w.heap.size + 1) 4 (.bool false) := (HB2.out.block _ HRS.out.lt).trans HRS.out
    have hRS3 := hR2.set (.bool true)
    have q1 := hR2.cell
    have z1 := hR2.frozen
    have q3 := hRS3.cell
    have HBF := Lib.hid ((HBA.out.trans (HB2.out.mono HBA.out.size)).setCell (p := ⟨w.heap.size + 1, 0, none⟩) (by simp) (.bool true))
    go_wp2_with fail
    (try simp only [Exit.inBlock, Exit.then])
    refine bodyPost_ret (v := .bool true) ?_ rfl ⟨rfl, HBF.out⟩
    rw [results_cell1 rfl]
    simp [asAddr, Result.andThen]
    go_simp
  have c0' : decide ((100 : Int) < (n0 : Int)) = false := decide_eq_false (by omega)
  refine (callsIn_wide (n := 3)).1 ?_
  refine callsIn_of_wp_marks Try.func7 rfl trivial ?_ rfl
  simp only [Try.ntmps7, List.size_toArray, List.length_cons, List.length_nil, Nat.reduceAdd, Nat.reduceSub, Array.replicate_succ, Array.replicate_zero, List.push_toArray, List.append_toArray, List.nil_append, List.cons_append]
  refine wpIn_wide.2 ?_
  go_upto_region 1 with fail
  rw [HWA.out]
  go_upto_region 5 with (go_at_call 9; refine (HAL.out _).mono ?_; rintro e w2 ⟨rfl, hb2⟩; have HB2 := Lib.hid hb2; clear hb2)
  have HPL := Lib.hid (play_any p0 n0 c0 l0 (by rw [HN0.out]; omega) w2 ((HS0.out.below (HBA.out.trans (HB2.out.mono HBA.out.size)) (Nat.le_refl _)).mono (Nat.le_trans HBA.out.size HB2.out.size)))
  go_wp2_with fail
  refine HPL.out.mono ?_
  rintro e w3 ⟨v3, rfl, hj⟩
  have hll := playL_len n0 l0 HN0.out
  obtain ⟨l, hl2⟩ : ∃ l, playL l0 = l := ⟨_, rfl⟩
  rw [hl2] at hj hll
  obtain ⟨va, vc, rfl⟩ := own_form hj.row
  obtain ⟨q, hq⟩ : ∃ q, l.length = q := ⟨_, rfl⟩
  have HQ := Lib.hid hq
  rw [hq] at hll
  have HJ3 := Lib.hid hj
  rw [hq] at HJ3
  rw [hq]
  have hq100 : q ≤ 100 := by omega
  clear hj hl2 hq HPL
  go_upto_region 6 with fail
  obtain ⟨w4, hw4⟩ : ∃ w4, w3.alloc (Obj.cells #[.slice va q vc] 25) = w4 := ⟨_, rfl⟩
  have hb4 : Below w3.heap.size w3 w4 := by rw [← hw4]; exact (Below.refl _ _).alloc (Nat.le_refl _) _
  have hz4 : w4.heap.size = w3.heap.size + 1 := by rw [← hw4]; simp
  have hPS : Boxed w4 w3.heap.size 25 (.slice va q vc) := by rw [← hw4]; exact Boxed.new w3 _ _
  rw [hw4]
  have hb24 : Below wa.heap.size wa w4 := HB2.out.trans ((HJ3.out.bel.trans (hb4.mono HJ3.out.bel.size)).mono HB2.out.size)
  have HB24 := Lib.hid hb24
  have HZ4 : Hid (w.heap.size + 2 ≤ w2.heap.size ∧ w2.heap.size < w3.heap.size ∧ w4.heap.size = w3.heap.size + 1) := Lib.hid ⟨by have := HZA.out; have := HB2.out.size; omega, HJ3.out.tab.lt, hz4⟩
  have HPS := Lib.hid hPS
  have HT4 := Lib.hid (HJ3.out.tab.below hb4)
  have HROW3 : Hid (w3.ownsRow (w2.heap.size + 1) 41 2 (.slice va q vc) l.length (flatVP l)) := Lib.hid HJ3.out.row
  have HPR4 := Lib.hid (((PrsP.of_owns HJ3.out.row).below hb4 (Nat.le_refl _)))
  have HMP := Lib.hid (map_any 34 #[.pointer (some ⟨w.heap.size, 0, none⟩)] (fun x => bits .xor .i64 (bits .xor .i64 x.1 x.2) a1) w2.heap.size l (by rw [HQ.out]; omega) w4 HT4.out (enters_of Try.func34 (by kernel_rfl) rfl)
    (fun x hx W hW => maps1_any x.1 x.2 a1 w.heap.size W (by
      have h1 : Boxed w4 w.heap.size 2 (.int .i64 a1) := (HB24.out.block _ HBY.out.lt).trans HBY.out
      have h2 : Boxed W w.heap.size 2 (.int .i64 a1) := (hW.block _ h1.lt).trans h1
      exact h2.cell)))
  clear hw4 hb4 hz4 hPS hb24 HJ3
  go_wp2_with fail
  refine HMP.out.mono ?_
  rintro e w5 ⟨rfl, hm5, hb5⟩
  have hT5 := HT4.out.below hb5
  have hlm : (l.map fun x => (x.1, bits .xor .i64 (bits .xor .i64 x.1 x.2) a1)).length = q := by rw [List.length_map]; exact HQ.out
  have HLM := Lib.hid (fun n => tableLenN _ _ (w5.drewN n) (hm5.below (below_dr w5 n)))
  rw [hlm] at HLM
  have hP5 : Boxed w5 w3.heap.size 25 (.slice va q vc) := (hb5.block _ HPS.out.lt).trans HPS.out
  have q5 := hP5.cell
  have HP5 := Lib.hid hP5
  have HT5 := Lib.hid hT5
  have HM5 := Lib.hid hm5
  have HB5 := Lib.hid hb5
  clear hm5 hb5 hT5 hP5 HMP hlm
  go_upto_region 7 with fail
  go_quiet ((go_at_call 28; exact Calls.quiet_of_same (HLM.out _)))
  obtain ⟨w6, hw6⟩ : ∃ w6, w5.drewN nq = w6 := ⟨_, rfl⟩
  have hb56 : Below w5.heap.size w5 w6 := by rw [← hw6]; exact below_dr w5 nq
  have hM6 := HM5.out.below hb56
  have hT6 := HT5.out.below hb56
  have hP6 : Boxed w6 w3.heap.size 25 (.slice va q vc) := (hb56.block _ HP5.out.lt).trans HP5.out
  have hB46 := HB5.out.trans (hb56.mono HB5.out.size)
  have hBY6 : Boxed w6 w.heap.size 2 (.int .i64 a1) := by
    have h1 : Boxed w4 w.heap.size 2 (.int .i64 a1) := (HB24.out.block _ HBY.out.lt).trans HBY.out
    exact (hB46.block _ h1.lt).trans h1
  have hRS6 : Boxed w6 (w.heap.size + 1) 4 (.bool false) := by
    have h1 : Boxed w4 (w.heap.size + 1) 4 (.bool false) := (HB24.out.block _ HRS.out.lt).trans HRS.out
    exact (hB46.block _ h1.lt).trans h1
  have hPR6 : PrsP w3.heap.size w6 (.slice va q vc) l := HPR4.out.below hB46 (by have := HZ4.out; omega)
  have hbel6 : Below w.heap.size w w6 := HBA.out.trans ((HB24.out.trans (hB46.mono HB24.out.size)).mono HBA.out.size)
  have hz6 : w4.heap.size + 1 < w6.heap.size := hM6.lt
  obtain ⟨M, hMM⟩ : ∃ M, w4.heap.size + 1 = M := ⟨_, rfl⟩
  obtain ⟨T, hTT⟩ : ∃ T, w2.heap.size = T := ⟨_, rfl⟩
  obtain ⟨PB, hPB⟩ : ∃ PB, w3.heap.size = PB := ⟨_, rfl⟩
  have hord : w.heap.size + 1 < T ∧ T < PB ∧ PB < M ∧ M < w6.heap.size := by have := HZ4.out; omega
  rw [hw6]
  rw [hMM] at hM6
  rw [hTT] at hT6
  rw [hPB] at hP6 hPR6
  rw [hMM, hTT, hPB]
  have HM6 := Lib.hid hM6
  have HT6 := Lib.hid hT6
  have HP6 := Lib.hid hP6
  have HBY6 := Lib.hid hBY6
  have HRS6 := Lib.hid hRS6
  have HPR6 := Lib.hid hPR6
  have HBEL6 := Lib.hid hbel6
  have HORD := Lib.hid hord
  clear hw6 hb56 hM6 hT6 hP6 hB46 hBY6 hRS6 hPR6 hbel6 hz6 hMM hTT hPB hord q5 HLM HP5 HT5 HM5 HB5 HROW3 HPR4 HPS HT4 HZ4 HB24 HB2 HBA HZA HBY HRS
  have HALL := Lib.hid (fun W => allN M W)
  obtain ⟨ml, hml⟩ : ∃ ml, (l.map fun x => (x.1, bits .xor .i64 (bits .xor .i64 x.1 x.2) a1)) = ml := ⟨_, rfl⟩
  have HML := Lib.hid hml
  have HMLEN : Hid (ml.length = q) := Lib.hid (by rw [← hml, List.length_map]; exact HQ.out)
  rw [hml] at HM6
  clear hml
  go_wp2_with fail
  refine (HALL.out _).mono ?_
  rintro e w7 ⟨rfl, hw7⟩
  have e1 : (w6.alloc (Obj.cells #[.int .i64 0] 3)).heap.size = w6.heap.size + 1 := by simp
  have hz7 : w7.heap.size = w6.heap.size + 2 := by rw [hw7]; simp
  have hb67 : Below w6.heap.size w6 w7 := by rw [hw7]; exact ((Below.refl _ _).alloc (Nat.le_refl _) _).alloc (by simp) _
  have hI7 : Boxed w7 w6.heap.size 3 (.int .i64 0) := by rw [hw7]; exact (Boxed.new w6 _ _).alloc _
  have hp7 : w7.heap[w6.heap.size + 1]? = some (.cells #[.pointer (some ⟨M, 0, none⟩)] 24 (0, 0)) := by
    have h := World.alloc_heap_new (w6.alloc (Obj.cells #[.int .i64 0] 3)) (.cells #[.pointer (some ⟨M, 0, none⟩)] 24)
    rw [e1] at h
    rw [hw7]
    exact h
  have HZ7 := Lib.hid hz7
  have HI7 := Lib.hid hI7
  have HP7 := Lib.hid hp7
  have HM7 := Lib.hid (HM6.out.below hb67)
  have HT7 := Lib.hid (HT6.out.below hb67)
  have HPS7 : Hid (Boxed w7 PB 25 (.slice va q vc)) := Lib.hid ((hb67.block _ HP6.out.lt).trans HP6.out)
  have HBY7 : Hid (Boxed w7 w.heap.size 2 (.int .i64 a1)) := Lib.hid ((hb67.block _ HBY6.out.lt).trans HBY6.out)
  have HRS7 : Hid (Boxed w7 (w.heap.size + 1) 4 (.bool false)) := Lib.hid ((hb67.block _ HRS6.out.lt).trans HRS6.out)
  have HPR7 : Hid (PrsP PB w7 (.slice va q vc) l) := Lib.hid (HPR6.out.below hb67 (by have := HORD.out; omega))
  have HBEL7 : Hid (Below w.heap.size w w7) := Lib.hid (HBEL6.out.trans (hb67.mono HBEL6.out.size))
  clear hw7 e1 hz7 hb67 hI7 hp7 HM6 HT6 HP6 HBY6 HRS6 HPR6 HBEL6 HALL
  obtain ⟨IB, hIB⟩ : ∃ IB, w6.heap.size = IB := ⟨_, rfl⟩
  rw [hIB] at HZ7 HI7 HP7 HORD
  go_wp2_with fail
  clear hIB
  rename_i K1 K hKQ
  refine (wpIn_wide (n := 3)).1 ?_
  refine wpIn_actG ?_
  intro A hA
  obtain ⟨t, a, h1, h2, h3⟩ := HM7.out.at_
  have HA1 := Lib.hid h1
  have HA2 := Lib.hid h2
  have HA3 := Lib.hid h3
  clear h1 h2 h3
  refine rangeG rfl (by omega) (gf := 45) (lb := #[.pointer (some ⟨IB + 1, 0, none⟩)]) (by rw [hA]; rfl) trivial (enters_of Try.func45 (by kernel_rfl) rfl) (encs := fun (x : Int × Int) => #[.int .i64 x.1, .int .i64 x.2]) (fun _ => rfl)
    (MpJ w7 IB ml) (fun s x W => MpJ w7 IB ml s W ∧ ∃ r, s.1 = x :: r)
    (fun (s : KV × Nat) (x : Int × Int) a1 W => (MpJ w7 IB ml s W ∧ ∃ r, s.1 = x :: r) ∧ a1 = { tmps := (((A.tmps.setIfInBounds 33 (.int .i64 x.1)).setIfInBounds 34 (.int .i64 x.2)).setIfInBounds 10 (.int .i64 x.1)).setIfInBounds 11 (.int .i64 x.2), defers := [] })
    (fun c W => False) (fun s s' => s'.1 = s.1.tail) (fun s _ => s.1 = []) (ml, 0)
    (fun s => MpJ.noRec (by have := HZ7.out; omega) s)
    (fun s x a1 W o k hk ⟨⟨h1, hg⟩, h5⟩ => ⟨⟨MpJ.noRec (by have := HZ7.out; omega) s W o k hk h1, hg⟩, h5⟩)
    (fun c W o k hk h => h) (fun _ _ _ _ _ h => h) (fun r => ?start)
    (all1N (b := M) (t := t) (a := a) (mpC HI7.out) (fun W hW => ⟨?cella, ?cellb⟩) HA2.out HA3.out.symm)
    ?assign ?body ?done ?stop
  case start =>
    have hb := ((Below.refl w7.heap.size w7).alloc (Nat.le_refl _) (.deferred (some []))).alloc (by simp) (.loop r)
    exact ⟨But.of_below hb, (HI7.out.alloc _).alloc _, rfl, Nat.zero_le _⟩
  case cella =>
    exact cell_of_row W _ 0 _ _ _ ((hW.but.block _ (by have := HZ7.out; omega) (by simp)).trans HP7.out)
  case cellb =>
    exact cell_of_row W _ 0 _ _ _ ((hW.but.block _ (Array.getElem?_eq_some_iff.1 HA1.out).1 (by have := HORD.out; simp; omega)).trans HA1.out)
  case assign =>
    rintro l0 s ⟨x, u⟩ W K' hj hzW hK
    rw [hA] at hK ⊢
    gi_wp2
    exact hK _ _ ⟨hj, rfl⟩ ⟨rfl, rfl⟩
  case body =>
    rintro l9 ⟨rem, i⟩ ⟨x, u⟩ a9 V ⟨⟨hj, r, hr⟩, rfl⟩ hzV
    have hrem := hj.rem
    simp only at hr hrem
    rw [hr] at hrem
    have hlen := congrArg List.length hrem
    rw [List.length_drop, HMLEN.out] at hlen
    simp only [List.length_cons] at hlen
    have hi : i < q := by omega
    obtain ⟨⟨k, v⟩, hkv⟩ : ∃ y, l[i]? = some y := ⟨_, List.getElem?_eq_getElem (by rw [HQ.out]; exact hi)⟩
    have hmi : ml[i]? = some (x, u) := by
      have h := congrArg List.head? hrem
      rw [List.head?_drop] at h
      exact h
    rw [← HML.out, List.getElem?_map, hkv] at hmi
    simp only [Option.map_some, Option.some.injEq, Prod.mk.injEq] at hmi
    obtain ⟨rfl, hu⟩ := hmi
    have hne : ∀ {k : Nat}, k < IB → k ∉ [IB] := fun h => by simp; omega
    have hord := HORD.out
    have hPSV : Boxed V PB 25 (.slice va q vc) := (hj.but.block _ HPS7.out.lt (hne (by omega))).trans HPS7.out
    have hBYV : Boxed V w.heap.size 2 (.int .i64 a1) := (hj.but.block _ HBY7.out.lt (hne (by omega))).trans HBY7.out
    obtain ⟨g, off, rfl, hg, d0, d1⟩ := HPR7.out.at_ hkv
    have hgI : g < IB := by omega
    have hg7 : g < w7.heap.size := by have := HZ7.out; omega
    have f0 : V.cell? ⟨g, off + i * 2, none⟩ = some (.int .i64 k) := (World.cell?_of_block (a := ⟨g, off + i * 2, none⟩) (hj.but.block _ hg7 (hne hgI))).trans d0
    have f1 : V.cell? ⟨g, off + i * 2 + 1, none⟩ = some (.int .i64 v) := (World.cell?_of_block (a := ⟨g, off + i * 2 + 1, none⟩) (hj.but.block _ hg7 (hne hgI))).trans d1
    have c1 := hj.num.cell
    have c1f := hj.num.frozen
    have c2 := hPSV.cell
    have c3 := hBYV.cell
    have g1 : decide ((q : Int) ≤ (i : Int)) = false := decide_eq_false (by omega)
    have g1n : decide (q ≤ i) = false := decide_eq_false (by omega)
    have g2 : (0 : Int) ≤ i := by omega
    have g3 : (i : Int) < q := by omega
    have hw1 : IntKind.i64.wrap ((i : Int) + 1) = ((i + 1 : Nat) : Int) := IntWalk.i64_in _ (by omega)
    simp only at c1
    rw [hA]
    gi_wp2_with fail
    have g4 : bits .xor .i64 (bits .xor .i64 k v) a1 = u := hu
    have c1q : V.cell? ⟨IB, 0, none⟩ = some (.int .i64 i) := c1
    have HJ := Lib.hid hj
    have HR := Lib.hid hr
    have HU := Lib.hid hu
    clear hj hr hrem hu
    rw [g4.symm]
    refine quiet_round (by kernel_rfl) (by kernel_rfl) (by kernel_rfl) (fun ⟨_, _, hq⟩ => hq) ?_
    repeat (go_big_quiet_step (fail))
    refine wpQuiet_nil ?_
    intro _ hw'
    obtain ⟨nq, hw''⟩ := hw'
    subst hw''
    gi_wp2_with fail
    have hj := HJ.out
    have hbs : But [IB] V ((V.drewN nq).setCell ⟨IB, 0, none⟩ (.int .i64 ((i + 1 : Nat) : Int))) := (But.of_below (below_dr V nq)).set (.inl (by simp)) _
    have hnum : Boxed ((V.drewN nq).setCell ⟨IB, 0, none⟩ (.int .i64 ((i + 1 : Nat) : Int))) IB 3 (.int .i64 ((i + 1 : Nat) : Int)) := Boxed.set (W := V.drewN nq) (v := .int .i64 (i : Int)) (.int .i64 ((i + 1 : Nat) : Int)) hj.num
    refine ⟨⟨hbs.block _ (by omega) (by have := HZ7.out; simp; omega), hbs.block _ (by omega) (by have := HZ7.out; simp; omega)⟩, (rem.tail, i + 1), rfl, hj.but.trans hbs (fun k hk => .inl hk), hnum, ?_, by rw [HMLEN.out]; exact hi⟩
    have h1 := hj.rem
    simp only at h1 ⊢
    rw [← List.tail_drop, h1]
  case done =>
    rintro ⟨rem, i⟩ W hj he hD
    simp only at he
    subst he
    have hrem := hj.rem
    have hle := hj.le
    have c1 := hj.num.cell
    simp only at hrem hle c1
    rw [HMLEN.out] at hle
    have hqi : i = q := by
      have h := congrArg List.length hrem
      rw [List.length_drop, HMLEN.out] at h
      simp at h
      omega
    subst hqi
    rw [hA]
    refine hKQ _ _ ?_
    have hne : ∀ {k : Nat}, k < IB → k ∉ [IB] := fun h => by simp; omega
    have hord := HORD.out
    have hPSV : Boxed W PB 25 (.slice va i vc) := (hj.but.block _ HPS7.out.lt (hne (by omega))).trans HPS7.out
    have hRSV : Boxed W (w.heap.size + 1) 4 (.bool false) := (hj.but.block _ HRS7.out.lt (hne (by omega))).trans HRS7.out
    have hTW : TabN W T l := HT7.out.stay (StayN.of_but hj.but (fun k hk cs e => by
      simp at hk; subst hk
      have h0 : w7.heap[k]? = some (.cells #[.int .i64 0] 3 (0, 0)) := HI7.out
      rw [h0] at e
      simp at e)) (hj.but.block _ HT7.out.lt (hne (by omega)))
    have hLT := tableLenN T l W.drew (hTW.below (below_dr W 1))
    rw [HQ.out] at hLT
    have HLT := Lib.hid hLT
    have c2 := hPSV.cell
    have HRSV := Lib.hid hRSV
    have HBW : Hid (Below w.heap.size w W) := Lib.hid (HBEL7.out.trans (hj.but.below (fun k hk => by simp at hk; omega) HBEL7.out.size))
    have HD := Lib.hid hD
    clear hj hrem hle hPSV hRSV hTW hLT hD HPR7 HM7 HT7 HA1 HA2 HA3
    go_upto_region 16 with fail
    refine region_seq (l := [_, _, _, _, _, _, _, _, _, _, _]) (t := [_]) (by kernel_rfl) (by decide +kernel) (by decide +kernel) (fun y => { tmps := #[Value.slice p0 n0 c0, Value.int IntKind.i64 a1, undef, Value.pointer (some ⟨w.heap.size, 0, none⟩), Value.pointer (some ⟨w.heap.size + 1, 0, none⟩), Value.pointer (some ⟨T, 0, none⟩), Value.pointer (some ⟨PB, 0, none⟩), Value.bool true, Value.pointer (some ⟨M, 0, none⟩), Value.pointer (some ⟨IB, 0, none⟩), undef, undef, Value.bool true, Value.bool false, Value.slice p0 n0 c0, Value.int IntKind.i64 (n0 : Int), Value.bool false, Value.tuple #[Value.pointer (some ⟨T, 0, none⟩), Value.slice va i vc, Value.bool true], Value.slice p0 n0 c0, Value.tuple #[Value.pointer (some ⟨T, 0, none⟩), Value.slice va i vc, Value.bool true], Value.pointer (some ⟨T, 0, none⟩), Value.slice va i vc, Value.bool true, Value.pointer (some ⟨T, 0, none⟩), Value.func (Fn.func 34) #[] #[Value.pointer (some ⟨w.heap.size, 0, none⟩)], Value.pointer (some ⟨M, 0, none⟩), Value.pointer (some ⟨M, 0, none⟩), Value.int IntKind.i64 (i : Int), Value.slice va i vc, Value.int IntKind.i64 (i : Int), Value.bool false, Value.pointer (some ⟨M, 0, none⟩), Value.func (Fn.func 45) #[] #[Value.pointer (some ⟨IB + 1, 0, none⟩)], undef, undef, undef, undef, undef, undef, undef, undef, undef, undef, undef, undef, undef, undef, undef, undef, undef, undef, undef, undef, undef, undef, undef, undef, undef, undef, undef, undef, undef, undef, y 0, y 1, y 2, y 3, y 4, y 5, y 6, y 7, y 8, y 9, y 10], defers := [{ target := .collected w7.heap.size, args := #[] }] }) (fun V => V = W.drew) (fun i' u V => match i' with
        | 0 => u = .int .i64 (i : Nat)
        | 1 => u = .slice va i vc
        | 2 => u = .int .i64 (i : Nat)
        | 3 => u = .bool true
        | 4 => u = .bool true
        | 5 => u = .pointer (some ⟨T, 0, none⟩)
        | 6 => u = .int .i64 (i : Nat)
        | 7 => u = .slice va i vc
        | 8 => u = .int .i64 (i : Nat)
        | 9 => u = .bool true
        | 10 => u = .bool true
        | _ => True) (fun A B => A = B) ?hC ?hV (fun _ => undef) ?h0 ?hop ?hend
    case hC => exact fun A B h e => e ▸ h
    case h0 => exact rfl
    case hV => exact fun i' u A B h e => by subst e; exact h
    case hop =>
      simp only [AllDo]
      refine ⟨?o0, ?o1, ?o2, ?o3, ?o4, ?o5, ?o6, ?o7, ?o8, ?o9, ?o10, trivial⟩
      all_goals rintro y V rfl hd Q hQ
      all_goals simp [Region.binds] at hd
      case o0 =>
        rw [if_pos (show Region.wanted _ _ = true from rfl)]
        go_wp2
        first | exact ⟨_, rfl, rfl, rfl⟩ | simp [updV]
      case o1 =>
        rw [if_pos (show Region.wanted _ _ = true from rfl)]
        go_wp2
        first | exact ⟨_, rfl, rfl, rfl⟩ | simp [updV]
      case o2 =>
        rw [if_pos (show Region.wanted _ _ = true from rfl)]
        go_wp2
        first | exact ⟨_, rfl, rfl, rfl⟩ | simp [updV, hd]
      case o3 =>
        rw [if_pos (show Region.wanted _ _ = true from rfl)]
        obtain ⟨h0, h1⟩ := hd
        go_wp2
        first | exact ⟨_, rfl, rfl, rfl⟩ | simp [updV, h0, h1]
      case o4 =>
        rw [if_pos (show Region.wanted _ _ = true from rfl)]
        go_wp2
        first | exact ⟨_, rfl, rfl, rfl⟩ | simp [updV, hd]
      case o5 =>
        have h4 : y 4 = .bool true := by first | exact hd | exact hd.1 | exact hd.2 | exact hd.2.1 | exact hd.2.2
        rw [h4, if_pos (show Region.wanted _ _ = true from rfl)]
        go_wp2
        first | exact ⟨_, rfl, rfl, rfl⟩ | simp [updV, h4]
      case o6 =>
        have h4 : y 4 = .bool true := by first | exact hd | exact hd.1 | exact hd.2 | exact hd.2.1 | exact hd.2.2
        rw [h4, if_pos (show Region.wanted _ _ = true from rfl)]
        have h5 : y 5 = .pointer (some ⟨T, 0, none⟩) := by first | exact hd.1 | exact hd.2 | exact hd.2.1 | exact hd.2.2
        go_wp2_with fail
        refine HLT.out.mono ?_
        rintro e W' ⟨rfl, rfl⟩
        go_wp2
        first | exact ⟨_, rfl, rfl, rfl⟩ | simp [updV, h4, h5]
      case o7 =>
        have h4 : y 4 = .bool true := by first | exact hd | exact hd.1 | exact hd.2 | exact hd.2.1 | exact hd.2.2
        rw [h4, if_pos (show Region.wanted _ _ = true from rfl)]
        go_wp2
        first | exact ⟨_, rfl, rfl, rfl⟩ | simp [updV, h4]
      case o8 =>
        have h4 : y 4 = .bool true := by first | exact hd | exact hd.1 | exact hd.2 | exact hd.2.1 | exact hd.2.2
        rw [h4, if_pos (show Region.wanted _ _ = true from rfl)]
        have h7 : y 7 = .slice va i vc := by first | exact hd.1 | exact hd.2 | exact hd.2.1 | exact hd.2.2
        go_wp2
        first | exact ⟨_, rfl, rfl, rfl⟩ | simp [updV, h4, h7]
      case o9 =>
        have h4 : y 4 = .bool true := by first | exact hd | exact hd.1 | exact hd.2 | exact hd.2.1 | exact hd.2.2
        rw [h4, if_pos (show Region.wanted _ _ = true from rfl)]
        obtain ⟨h6, h8, _⟩ := hd
        go_wp2
        first | exact ⟨_, rfl, rfl, rfl⟩ | simp [updV, h4, h6, h8]
      case o10 =>
        rw [if_pos (show Region.wanted _ _ = true from rfl)]
        obtain ⟨h3, h9⟩ := hd
        go_wp2
        first | exact ⟨_, rfl, rfl, rfl⟩ | simp [updV, h3, h9]
    case hend =>
      intro x V hc hv
      subst hc
      have e10 : x 10 = .bool true := hv 10 (by decide)
      have q1 := HRSV.out.cell
      have z1 := HRSV.out.frozen
      have q1d : W.drew.cell? ⟨w.heap.size + 1, 0, none⟩ = some (.bool false) := q1
      have z1d : W.drew.frozen? ⟨w.heap.size + 1, 0, none⟩ = false := z1
      clear hv
      simp only [SeqDoes]
      intro Q1 hQ1
      rw [if_pos (show Region.wanted _ _ = true from rfl)]
      go_wp2_with fail
      have hRS3 := HRSV.out.set (.bool true)
      have hB1 : Below w.heap.size w (W.setCell ⟨w.heap.size + 1, 0, none⟩ (.bool true)) := HBW.out.setCell (by show w.heap.size ≤ w.heap.size + 1; omega) _
      have hD' : (W.setCell ⟨w.heap.size + 1, 0, none⟩ (.bool true)).heap[w7.heap.size]? = some (.deferred (some [])) := (Below.heap_setCell W ⟨w.heap.size + 1, 0, none⟩ (.bool true) w7.heap.size (by have := HZ7.out; have := HORD.out; simp; omega)).trans HD.out
      have hB2 : Below w.heap.size w (((W.setCell ⟨w.heap.size + 1, 0, none⟩ (.bool true)).drew).putObj w7.heap.size (.deferred none)) := hB1.drew.trans ((But.putObj _ w7.heap.size _).below (fun j hj => by have := HZ7.out; have := HORD.out; simp at hj; omega) hB1.size)
      have hRS4 : Boxed (((W.setCell ⟨w.heap.size + 1, 0, none⟩ (.bool true)).drew).putObj w7.heap.size (.deferred none)) (w.heap.size + 1) 4 (.bool true) := (World.putObj_heap_other (by have := HZ7.out; have := HORD.out; omega)).trans hRS3
      have q4 := hRS4.cell
      have HB2 := Lib.hid hB2
      clear hB1 hB2 hRS3 hRS4
      refine ⟨by simp, .inl ⟨_, _, rfl, run_takeDeferred (show ((W.setCell ⟨w.heap.size + 1, 0, none⟩ (.bool true)).drew).heap[w7.heap.size]? = _ from hD'), ?_⟩⟩
      refine ⟨.bool true, ?_, rfl, HB2.out⟩
      rw [results_cell1 rfl]
      simp [asAddr, Result.andThen]
      go_simp
  case stop =>
    rintro c W hF hD
    exact hF.elim


set_option maxRecDepth 100000 in
theorem lifted (os : Os) (started : os.Started) (H : Type) (enc : TypeId × Value → H) :
    ReturnsInHanded {} Try.checked os 7 .any (Rows.tableMapsSpec.pre6 enc Try.prog Try.f7 Rows.tableMapsRow.domain false) (Rows.tableMapsSpec.post enc Try.prog Try.f7 false true false false) := by
  refine returnsInHanded_of_change (C := Try.checked) own started (by kernel_rfl) Try.func7
    (ChangeSpec.witness6 (enc := enc) (C := Try.checked) false ⟨#[], #[.slice none 0 0, .int .i64 0], []⟩ 8 (by kernel_rfl) (by kernel_rfl) (by kernel_rfl) (by kernel_rfl)) ?_
  intro W base args ds gs before hval0 hW hcnd _
  have hval : ∀ (j : Nat) t v, Try.f7.params[j]? = some t → args[j]? = some v → Value.okWide Try.prog W .any base t v := hval0
  have hW' := hW
  obtain ⟨p, q, hA0, hV, rfl, hfz, hnd⟩ := hW
  have hA : DataW.TrodAll enc Try.prog W 0 (fun _ => true) true Try.f7.params.toList args.toList ds p := hA0
  rw [Try.params7] at hA hval
  have hAk := hA
  obtain ⟨v0, vs0, d0, ds0, p0', q0, hargs, rfl, rfl, h0, r0⟩ := trodAll_cons hA
  obtain ⟨v1, vs1, d1, ds1, p1', q1, rfl, rfl, rfl, h1, r1⟩ := trodAll_cons r0
  obtain ⟨rfl, rfl, rfl⟩ := trodAll_nil r1
  obtain rfl : args = #[v0, v1] := by cases args; simp_all
  obtain ⟨rfl, rfl⟩ := trodVars_none hV
  simp only [List.append_nil] at hW' hAk
  have hlt := fun x hx => hW'.lt x hx
  clear hA0 hval0
  obtain ⟨p0, n0, c0, l0, rfl, S0, b0⟩ := open_hops (okWide_slice Try.underlying22 (hval 0 22 v0 rfl rfl)) h0
  obtain ⟨a1, rfl, rfl, rfl, w1⟩ := open_int Try.underlying2 (hval 1 2 v1 rfl rfl) h1
  refine (walk W p0 n0 c0 l0 S0 b0 a1 w1).mono fun e W' ⟨he, hg⟩ => ?_
  subst he
  have hargs := trodAll_below hg _ _ _ _ (by intro t ht; simp only [List.mem_cons, List.not_mem_nil, or_false] at ht; revert t; rintro t (rfl | rfl) <;> exact ⟨by kernel_rfl, of_decide_eq_true (by kernel_rfl)⟩) hAk (fun x hx => by simpa using hlt x hx)
  exact ⟨_, rfl, _, _, _, [], _, [], hW', (trodAll_cons_mk (shut_bool Try.underlying4 _) trodAll_mk0), hargs, rfl, hg.frame _, fun h => by cases h⟩

theorem over : Rows.tableMapsRow.holds Try.pinned (OpenSpec.ofChange Rows.tableMapsSpec) :=
  OpenClaim.holds_of_wide 7 Try.f7 rfl rfl rfl rfl rfl rfl rfl ⟨rfl, rfl, rfl, rfl, rfl⟩ rfl rfl rfl rfl rfl (by kernel_rfl) Try.func7 (by kernel_rfl)
    (of_decide_eq_true (by kernel_rfl)) (by unfold Func.isWrapper; first | (rw [if_pos (by decide +kernel)]; kernel_rfl) | (rw [if_neg (by decide +kernel)]; exact ⟨rfl, rfl⟩))
    (fun os started H enc _ => lifted os started H enc)

theorem proved : Rows.TableMapsSaid :=
  over
end Go.Proofs.Ytchnjafcnigllaa.tableMaps
