/- The document's example of a store. -/
import Derived.Test.YtpcbdjdmhemjdaaPriY
namespace Go.Proofs.Ytpcbdjdmhemjdaa
open Go.RowKit
set_option linter.unusedVariables false
attribute [local go_sem] Oper.semAt_some

theorem eqSeqP (f : Fn) (a c : Array Value) (w : World) : (binOp .eql 48 (.func f a c) .nilFunc).run Try.prog w = .ok (.bool false) w := by kernel_rfl
attribute [local go_sem] eqSeqP
theorem eqPtrP (a : Addr) (w : World) : (binOp .eql 25 (.pointer (some a)) (.pointer none)).run Try.prog w = .ok (.bool false) w := by kernel_rfl
theorem OffE.of_lt {n : Nat} {W : World} {sv : Value} {xs : List Ent} {own : List Nat} (h : EnsP n W sv xs) (ho : ∀ k ∈ own, n ≤ k) : OffE own sv := by
  intro ad m c e hm hk
  rcases h with ⟨rfl, a, c', e2⟩ | ⟨b, off, cap, e2, hb, _, _⟩
  · rw [e] at e2; cases e2; omega
  · rw [e] at e2; cases e2
    have := ho _ hk
    simp only at this
    omega
def exQ : List Ent := [(1, 3), (3, 5)]
def exP : List Ent := [(1, 7), (2, 4)]
theorem exQ1 : putP [] (3, 5) = [(3, 5)] := by decide +kernel
theorem exQ2 : putP [(3, 5)] (1, 3) = exQ := by decide +kernel
theorem exQ3 : putP exQ (1, 3) = exQ := by decide +kernel
theorem exQ4 : putP exQ (1, 7) = [(1, 7)] := by decide +kernel
theorem exQ5 : riseP [(1, 7)] 2 4 = exP := by decide +kernel
theorem exOf : ofP exQ = exQ := by decide +kernel
theorem exQ_tie : Tie exQ := by
  rw [← exQ2, ← exQ1]
  exact put_tight sOrd (put_tight sOrd tight_nil (by unfold okS; decide)) (by unfold okS; decide)
theorem exN_not : ¬ Tie [((3, 5) : Ent), (1, 3)] := fun h => by
  have := (List.pairwise_cons.1 h.inc).1 (1, 3) (by simp)
  revert this
  decide +kernel
/-- What stays while the example's entries are gone over. -/
structure AlP (w4 : World) (cb : Nat) (st : List Ent × Int) (W : World) : Prop where
  but : But [cb] w4 W
  cnt : Boxed W cb 3 (.int .i64 st.2)
  hist : st = (exQ, 0) ∨ st = ([(3, 5)], 3) ∨ st = ([], 18)
section
variable {w4 : World} {cb : Nat} {st : List Ent × Int} {W : World}
theorem AlP.below {W' : World} (h : AlP w4 cb st W) (hb : Below W.heap.size W W') : AlP w4 cb st W' :=
  ⟨h.but.trans' (But.of_below hb), (hb.block _ h.cnt.lt).trans h.cnt, h.hist⟩
theorem AlP.noRec (hcb : cb < w4.heap.size) (st : List Ent × Int) : NoRec w4.heap.size (AlP w4 cb st) := fun W o k hk h => by
  have hb := But.putObj W k o
  exact ⟨h.but.trans hb (fun j hj => by simp at hj; omega), (hb.block _ h.cnt.lt (by simp; omega)).trans h.cnt, h.hist⟩
theorem alPC {zs : List Ent} {B1 : Nat} {sv : Value} (h1 : Boxed w4 B1 22 sv) (hE : EnsP w4.heap.size w4 sv zs) (ho : OffE [cb] sv) (n1 : B1 ≠ cb) : EntC B1 w4.heap.size sv zs Prod.fst (AlP w4 cb) (fun st x W => AlP w4 cb st W ∧ ∃ r, st.1 = x :: r) (fun st st' => st'.1 = st.1.tail) where
  row := fun st W h => ⟨(h.but.block _ h1.lt (by simpa using n1)).trans h1, hE.but h.but ho (Nat.le_refl _)⟩
  alloc := fun st W o h => h.below ((Below.refl _ _).alloc (Nat.le_refl _) _)
  yield := fun st W x r h e => ⟨h, r, e⟩
  next := fun st st' h => h
end
set_option maxRecDepth 100000 in
set_option maxHeartbeats 16000000 in
theorem priceAlive_any (w : World) : Calls Try.prog 8 #[] w fun e w' => e = .returned (.bool true) ∧ Below w.heap.size w w' := by
  refine (callsIn_wide (n := 3)).1 ?_
  refine callsIn_of_wp_marks Try.func8 rfl trivial ?_ rfl
  simp only [Try.ntmps8, List.size_toArray, List.length_cons, List.length_nil, Nat.reduceAdd, Nat.reduceSub, Array.replicate_succ, Array.replicate_zero, List.push_toArray, List.append_toArray, List.nil_append, List.cons_append]
  refine wpIn_wide.2 ?_
  obtain ⟨w1, hw1⟩ : ∃ w1, w.alloc (.cells #[.slice none 0 0] 39) = w1 := ⟨_, rfl⟩
  have hnew : w1.heap[w.heap.size]? = some (.cells #[.slice none 0 0] 39) := by rw [← hw1]; exact World.alloc_heap_new w _
  have hb01 : Below w.heap.size w w1 := by rw [← hw1]; exact (Below.refl _ _).alloc (Nat.le_refl _) _
  have h1 : PS w1 w.heap.size (.slice none 0 0) [] := ⟨hnew, .inl ⟨rfl, _, _, rfl⟩, (fun _ _ _ => rfl), tight_nil⟩
  have HP1 := Lib.hid (put_any (3, 5) w1 h1 (by unfold okS; decide) (by decide))
  simp only at HP1
  rw [exQ1, show risesP [] (3, 5) = true from by decide +kernel] at HP1
  have HW1 := Lib.hid hw1
  have HB1 := Lib.hid hb01
  clear hw1 hnew hb01 h1
  go_upto_region 2 with fail
  rw [HW1.out]
  go_wp2_with fail
  refine HP1.out.mono ?_
  rintro o w2 ⟨rfl, s2, h2, hb2⟩
  have HP2 := Lib.hid (put_any (1, 3) w2 h2 (by unfold okS; decide) (by decide))
  simp only at HP2
  rw [exQ2, show risesP [(3, 5)] (1, 3) = true from by decide +kernel] at HP2
  have HB2 := Lib.hid hb2
  clear h2 hb2
  go_wp2_with fail
  refine HP2.out.mono ?_
  rintro o w3 ⟨rfl, s3, h3, hb3⟩
  have HP3 := Lib.hid (put_any (1, 3) w3 h3 (by unfold okS; decide) (by decide))
  simp only at HP3
  rw [exQ3, show risesP exQ (1, 3) = false from by decide +kernel] at HP3
  have HB3 := Lib.hid hb3
  clear h3 hb3
  go_wp2_with fail
  refine HP3.out.mono ?_
  rintro o w4 ⟨rfl, s4, h4, hb4⟩
  have HA1 := Lib.hid (ask_any 1 w4 h4 (by unfold okS; decide) (by decide))
  rw [show askL withinB exQ 1 = 3 from by decide +kernel] at HA1
  have H4 := Lib.hid h4
  have HB4 := Lib.hid hb4
  clear h4 hb4
  go_wp2_with fail
  refine HA1.out.mono ?_
  rintro o w5 ⟨rfl, hb5⟩
  have h5 := H4.out.below hb5
  have HA3 := Lib.hid (ask_any 3 w5 h5 (by unfold okS; decide) (by decide))
  rw [show askL withinB exQ 3 = 5 from by decide +kernel] at HA3
  have H5 := Lib.hid h5
  have HB5 := Lib.hid hb5
  clear h5 hb5
  go_wp2_with fail
  refine HA3.out.mono ?_
  rintro o w6 ⟨rfl, hb6⟩
  have h6 := H5.out.below hb6
  have HCL := Lib.hid (cloneS_any w6 h6)
  have H6 := Lib.hid h6
  have HB6 := Lib.hid hb6
  clear h6 hb6
  go_wp2_with fail
  refine HCL.out.mono ?_
  rintro o w7 ⟨qb, rfl, hqb, hq7, hb7⟩
  have h7 := H6.out.below hb7
  have HP7 := Lib.hid (put_any (1, 7) w7 h7 (by unfold okS; decide) (by decide))
  simp only at HP7
  rw [exQ4, show risesP exQ (1, 7) = true from by decide +kernel] at HP7
  have H7 := Lib.hid h7
  have HQ7 := Lib.hid hq7
  have HB7 := Lib.hid hb7
  have HNE : Hid (qb ≠ w.heap.size) := Lib.hid (by have := H6.out.lt; omega)
  have HQB := Lib.hid hqb
  clear h7 hq7 hb7 hqb
  go_wp2_with fail
  refine HP7.out.mono ?_
  rintro o w8 ⟨rfl, s8, h8, hb8⟩
  have hq8 := HQ7.out.other H7.out HNE.out hb8
  have HR8 := Lib.hid (rise_any 2 4 w8 h8 (by unfold okS; decide) (by decide))
  rw [exQ5, show riseV [(1, 7)] 2 4 = 4 from by decide +kernel, show riseB [(1, 7)] 2 4 = true from by decide +kernel] at HR8
  have H8 := Lib.hid h8
  have HQ8 := Lib.hid hq8
  have HB8 := Lib.hid hb8
  clear h8 hq8 hb8
  go_wp2_with fail
  refine HR8.out.mono ?_
  rintro o w9 ⟨rfl, ⟨s9, h9⟩, hb9⟩
  have hq9 := HQ8.out.other H8.out HNE.out hb9
  have H9 := Lib.hid h9
  have HQ9 := Lib.hid hq9
  have HB9 : Hid (Below w.heap.size w w9) := Lib.hid (by
    have e1 : But [w.heap.size] w1 w4 := (HB2.out.trans' HB3.out).trans' HB4.out
    have e2 : But [w.heap.size] w1 w7 := ((e1.trans' (But.of_below HB5.out)).trans' (But.of_below HB6.out)).trans' (But.of_below HB7.out)
    have e3 : But [w.heap.size] w1 w9 := (e2.trans' HB8.out).trans' hb9
    exact HB1.out.trans (e3.below (fun k hk => by simp at hk; omega) HB1.out.size))
  clear h9 hq9 hb9
  obtain ⟨w10, hw10⟩ : ∃ x, w9.alloc (.cells #[.int .i64 0] 3) = x := ⟨_, rfl⟩
  have hcb : Boxed w10 w9.heap.size 3 (.int .i64 0) := by rw [← hw10]; exact Boxed.new w9 _ _
  have hb910 : Below w9.heap.size w9 w10 := by rw [← hw10]; exact (Below.refl _ _).alloc (Nat.le_refl _) _
  have hz10 : w10.heap.size = w9.heap.size + 1 := by rw [← hw10]; simp
  have hq10 := HQ9.out.below hb910
  have HEN := Lib.hid (entries_any w10 hq10)
  obtain ⟨sa, sc, hs4⟩ := hq10.form
  have HS4 := Lib.hid hs4
  have HW10 := Lib.hid hw10
  obtain ⟨w11, hw11⟩ : ∃ x, w10.alloc (.cells #[s4] 22) = x := ⟨_, rfl⟩
  have hb11 : Below w10.heap.size w10 w11 := by rw [← hw11]; exact (Below.refl _ _).alloc (Nat.le_refl _) _
  have hx1 : Boxed w11 w10.heap.size 22 s4 := by rw [← hw11]; exact Boxed.new w10 _ _
  have hcb11 : Boxed w11 w9.heap.size 3 (.int .i64 0) := (hb11.block _ hcb.lt).trans hcb
  have hq11 := hq10.below hb11
  have hp11 := (H9.out.below hb910).below hb11
  have hof : OffE [w9.heap.size] s4 := OffE.of_lt HQ9.out.row (fun k hk => by simp at hk; omega)
  have HOP := Lib.hid (OffE.of_lt (own := [w9.heap.size]) H9.out.row (fun k hk => by simp at hk; omega))
  rw [hs4] at hx1 hq11
  have hoff : OffE [w9.heap.size] (.slice sa exQ.length sc) := by rw [← hs4]; exact hof
  have hal0 : AlP w11 w9.heap.size (exQ, 0) w11 := ⟨But.refl _ _, hcb11, .inl rfl⟩
  have hec := alPC hx1 hq11.row hoff (by omega : w10.heap.size ≠ w9.heap.size)
  have HW11 := Lib.hid hw11
  have HEC := Lib.hid hec
  have HAL := Lib.hid hal0
  have HQ11 := Lib.hid hq11
  have HP11 := Lib.hid hp11
  have HOF := Lib.hid hoff
  have hcbl := hcb11.lt
  have HB11 : Hid (Below w.heap.size w w11) := Lib.hid (HB9.out.trans ((hb910.trans (hb11.mono (by omega))).mono HB9.out.size))
  have HCW : Hid (w.heap.size ≤ w9.heap.size ∧ w.heap.size < w9.heap.size ∧ qb < w9.heap.size) := Lib.hid ⟨HB9.out.size, H9.out.lt, HQ9.out.lt⟩
  obtain ⟨cb, hcbq⟩ : ∃ cb, w9.heap.size = cb := ⟨_, rfl⟩
  obtain ⟨B1, hB1q⟩ : ∃ b, w10.heap.size = b := ⟨_, rfl⟩
  rw [hcbq] at HEC HAL HOF HOP HCW hcbl
  rw [hB1q] at HEC HEN
  have HZ := Lib.hid hcbl
  have HCQ := Lib.hid hcbq
  clear hw10 hcb hb910 hz10 hq10 hs4 hw11 hb11 hx1 hcb11 hq11 hp11 hof hoff hal0 hec hcbl hB1q hcbq HP1 HP2 HP3 HA1 HA3 HCL HP7 HR8 HB1 HB2 HB3 HB4 HB5 HB6 HB7 HB8 H4 H5 H6 H7 H8 HQ7 HQ8 HQB HB9
  go_upto_region 12 with fail
  rw [HW10.out, HCQ.out]
  go_wp2_with fail
  refine HEN.out.mono ?_
  rintro o w12 ⟨rfl, hw12⟩
  obtain rfl : w12 = w11 := hw12.trans HW11.out
  clear hw12
  go_wp2_with fail
  rename_i K hKQ
  refine (wpIn_wide (n := 3)).1 ?_
  refine wpIn_actG ?_
  intro A hA
  refine rangeG rfl (by omega) (gf := 36) (lb := #[.pointer (some ⟨B1, 0, none⟩)]) (by rw [hA]; rfl) trivial (enters_of Try.func36 (by kernel_rfl) rfl) (encs := fun (x : Ent) => #[.int .u64 (x.1 : Nat), .int .i64 x.2]) (fun _ => rfl)
    (AlP w12 cb) (fun st x W => AlP w12 cb st W ∧ ∃ r, st.1 = x :: r)
    (fun (st : List Ent × Int) (x : Ent) a1 W => (AlP w12 cb st W ∧ ∃ r, st.1 = x :: r) ∧ a1 = { tmps := ((((A.tmps.setIfInBounds 30 (.int .u64 (x.1 : Nat))).setIfInBounds 31 (.int .i64 x.2)).setIfInBounds 12 (.int .u64 (x.1 : Nat))).setIfInBounds 13 (.int .i64 x.2)), defers := [] })
    (fun c W => False) (fun st st' => st'.1 = st.1.tail) (fun st _ => st.1 = []) (exQ, 0)
    (fun st W o k hk h => AlP.noRec HZ.out st W o k hk h)
    (fun st x a1 W o k hk ⟨⟨h1, hg⟩, h5⟩ => ⟨⟨AlP.noRec HZ.out st W o k hk h1, hg⟩, h5⟩)
    (fun c W o k hk h => h) (fun _ _ _ _ _ h => h) (fun r => HAL.out.below (((Below.refl w12.heap.size w12).alloc (Nat.le_refl _) (.deferred (some []))).alloc (by simp) (.loop r)))
    (entries1 (by decide) HEC.out rfl)
    ?assign ?body ?done ?stop
  case assign =>
    rintro l0 st ⟨x, u⟩ W K' ⟨hj, hg⟩ hzW hK
    rw [hA] at hK ⊢
    have HH := Lib.hid (And.intro hj hg)
    clear hj hg
    gi_wp2
    exact hK _ _ ⟨HH.out, rfl⟩ (SameRec.refl _ _)
  case body =>
    rintro l9 ⟨rem, m⟩ ⟨x, u⟩ a1 V ⟨⟨hj, r, hr⟩, rfl⟩ hzV
    simp only at hr
    subst hr
    have c0 : V.cell? ⟨cb, 0, none⟩ = some (.int .i64 m) := hj.cnt.cell
    have f0 := hj.cnt.frozen
    have hst : ∃ m2 : Int, 0 ≤ m2 ∧ m2 ≤ 100 ∧ m + (x : Int) * u = m2 ∧ 0 ≤ (x : Int) * u ∧ (x : Int) * u ≤ 100 ∧ 0 ≤ m ∧ m ≤ 100 ∧ ((r, m2) = (exQ, 0) ∨ (r, m2) = ([(3, 5)], 3) ∨ (r, m2) = ([], 18)) ∧ (x : Int) ≤ 10 := by
      rcases hj.hist with h | h | h
      · simp only [exQ, Prod.mk.injEq, List.cons.injEq] at h
        obtain ⟨⟨⟨rfl, rfl⟩, rfl⟩, rfl⟩ := h
        exact ⟨3, by decide, by decide, by decide, by decide, by decide, by decide, by decide, .inr (.inl rfl), by decide⟩
      · simp only [Prod.mk.injEq, List.cons.injEq] at h
        obtain ⟨⟨⟨rfl, rfl⟩, rfl⟩, rfl⟩ := h
        exact ⟨18, by decide, by decide, by decide, by decide, by decide, by decide, by decide, .inr (.inr rfl), by decide⟩
      · simp at h
    obtain ⟨m2, k1, k2, k3, k4, k5, k6, k7, hhist, k8⟩ := hst
    have HEND : Hid (SameRec w12.heap.size V (V.setCell ⟨cb, 0, none⟩ (.int .i64 m2)) ∧ ∃ st', st'.1 = r ∧ AlP w12 cb st' (V.setCell ⟨cb, 0, none⟩ (.int .i64 m2))) := Lib.hid (by
      have hbu : But [cb] V (V.setCell ⟨cb, 0, none⟩ (.int .i64 m2)) := (But.refl _ V).set (.inl (by simp)) _
      have hz2 := HZ.out
      exact ⟨⟨hbu.block _ (by omega) (by simp; omega), hbu.block _ (by omega) (by simp; omega)⟩, (r, m2), rfl, hj.but.trans' hbu, hj.cnt.set _, hhist⟩)
    have hw1 : IntKind.i64.wrap (x : Int) = (x : Int) := by rw [IntKind.wrap_i64]; omega
    have hw2 : IntKind.i64.wrap ((x : Int) * u) = (x : Int) * u := by rw [IntKind.wrap_i64]; omega
    have hw3 : IntKind.i64.wrap m2 = m2 := by rw [IntKind.wrap_i64]; omega
    clear hj hhist
    rw [hA]
    gi_wp2_with fail
    exact HEND.out
  case done =>
    rintro ⟨rem, m⟩ W hj he hD
    simp only at he
    subst he
    obtain rfl : m = 18 := by
      rcases hj.hist with h | h | h
      · simp [exQ] at h
      · simp at h
      · simpa using h
    have hq := HQ11.out.but hj.but (by have := HCW.out; simp; omega) HOF.out
    have hp := HP11.out.but hj.but (by have := HCW.out; simp; omega) HOP.out
    have hcw := hj.cnt
    have HB0 : Hid (Below w.heap.size w W) := Lib.hid (HB11.out.trans (hj.but.below (fun k hk => by simp at hk; have := HCW.out; omega) HB11.out.size))
    have HQ := Lib.hid hq
    have HP := Lib.hid hp
    have HCT := Lib.hid hcw
    have HD := Lib.hid hD
    have HL := Lib.hid (list_any W hq (by decide))
    clear hj hq hp hcw hD
    rw [hA]
    refine hKQ _ _ ?_
    go_wp2_with fail
    refine HL.out.mono ?_
    rintro o x1 ⟨v1, rfl, hown1, hy1⟩
    obtain ⟨a1, c1, rfl⟩ := own_form hown1
    have HO := Lib.hid (of_any a1 exQ.length c1 exQ x1 (fun x hx => (exQ_tie.right x hx).1) (by decide) (EnsP.of_owns hown1))
    rw [exOf] at HO
    have HY1 := Lib.hid hy1
    clear hown1 hy1
    go_wp2_with fail
    refine HO.out.mono ?_
    rintro o x2 ⟨rb, rsv, rfl, hrb, hpr, hy2⟩
    have hy02 : Below W.heap.size W x2 := HY1.out.trans (hy2.mono HY1.out.size)
    have HPR := Lib.hid hpr
    have HY2 := Lib.hid hy02
    have HP2 := Lib.hid (HP.out.below hy02)
    have HQ2 := Lib.hid (HQ.out.below hy02)
    have HS1 := Lib.hid (len_any x2 HP2.out)
    have HS2 := Lib.hid (len_any x2 HQ2.out)
    have HS3 := Lib.hid (same_any x2 HPR.out HQ2.out (by decide) (by decide))
    have c0 : x2.cell? ⟨cb, 0, none⟩ = some (.int .i64 18) := (hy02.cell (p := ⟨cb, 0, none⟩) HCT.out.lt).trans HCT.out.cell
    rw [show decide (exQ = exQ) = true from by decide] at HS3
    rw [show ((exP.length : Nat) : Int) = 2 from rfl] at HS1
    rw [show ((exQ.length : Nat) : Int) = 2 from rfl] at HS2
    clear hpr hy2 hy02 hrb
    go_wp2_with fail
    refine HS1.out.mono ?_
    rintro o x3 ⟨rfl, h3⟩
    obtain rfl := h3.symm
    go_wp2_with fail
    refine HS2.out.mono ?_
    rintro o x4 ⟨rfl, h4⟩
    obtain rfl := h4.symm
    go_wp2_with fail
    refine HS3.out.mono ?_
    rintro o x5 ⟨rfl, hy5⟩
    have HS4' := Lib.hid (same_any x5 (HPR.out.below hy5) (HP2.out.below hy5) (by decide) (by decide))
    rw [show decide (exQ = exP) = false from by decide] at HS4'
    have HQ5 := Lib.hid (HQ2.out.below hy5)
    have HY5 := Lib.hid (HY2.out.trans (hy5.mono HY2.out.size))
    clear hy5 c0
    go_wp2_with fail
    refine HS4'.out.mono ?_
    rintro o x6 ⟨rfl, hy6⟩
    have HL6 := Lib.hid (list_any x6 (HQ5.out.below hy6) (by decide))
    have HY6 := Lib.hid (HY5.out.trans (hy6.mono HY5.out.size))
    clear hy6
    go_wp2_with fail
    refine HL6.out.mono ?_
    rintro o x7 ⟨v7, rfl, hown7, hy7⟩
    obtain ⟨a7, c7, rfl⟩ := own_form hown7
    have HT7 := Lib.hid (tight_any a7 exQ.length c7 exQ x7 (fun x hx => (exQ_tie.right x hx).1) (by decide) (EnsP.of_owns hown7))
    rw [tieB_true exQ_tie] at HT7
    have HY7 := Lib.hid (HY6.out.trans (hy7.mono HY6.out.size))
    clear hown7 hy7
    go_wp2_with fail
    refine HT7.out.mono ?_
    rintro o x8 ⟨rfl, hy8⟩
    have HY8 := Lib.hid (HY7.out.trans (hy8.mono HY7.out.size))
    have hb9 : Below x8.heap.size x8 (x8.alloc (.cells #[.int .u64 3, .int .i64 5, .int .u64 1, .int .i64 3] 41)) := (Below.refl _ _).alloc (Nat.le_refl _) _
    have hE9 : EnsP (x8.alloc (.cells #[.int .u64 3, .int .i64 5, .int .u64 1, .int .i64 3] 41)).heap.size (x8.alloc (.cells #[.int .u64 3, .int .i64 5, .int .u64 1, .int .i64 3] 41)) (.slice (some ⟨x8.heap.size, 0, none⟩) 2 2) [((3, 5) : Ent), (1, 3)] := by
      refine .inr ⟨x8.heap.size, 0, 2, rfl, by simp, by decide, fun j x hj => ?_⟩
      have c : ∀ i, (x8.alloc (.cells #[.int .u64 3, .int .i64 5, .int .u64 1, .int .i64 3] 41)).cell? ⟨x8.heap.size, i, none⟩ = _ := fun i => cell_of_row _ _ i _ _ _ (World.alloc_heap_new x8 _)
      match j, hj with
      | 0, hj => simp at hj; subst hj; exact ⟨c 0, c 1⟩
      | 1, hj => simp at hj; subst hj; exact ⟨c 2, c 3⟩
      | j + 2, hj => simp at hj
    have HT9 := Lib.hid (tight_any _ 2 2 [((3, 5) : Ent), (1, 3)] _ (by intro x hx; simp at hx; rcases hx with rfl | rfl <;> (unfold okS; decide)) (by decide) hE9)
    rw [tieB_false exN_not] at HT9
    have HY9 := Lib.hid (HY8.out.trans (hb9.mono HY8.out.size))
    clear hy8 hb9 hE9
    go_wp2_with fail
    refine HT9.out.mono ?_
    rintro o x9 ⟨rfl, hy10⟩
    have hy11 := HY9.out.trans (hy10.mono HY9.out.size)
    have HD3 : Hid (x9.heap[w12.heap.size]? = some (.deferred (some []))) := Lib.hid ((hy11.block _ (Array.getElem?_eq_some_iff.1 HD.out).1).trans HD.out)
    have HB : Hid (Below w.heap.size w (x9.putObj w12.heap.size (.deferred none))) := Lib.hid (by
      have hb := But.putObj x9 w12.heap.size (.deferred none)
      have hs1 := HB0.out.size
      have hs2 := hy11.size
      have hs3 := HB11.out.size
      exact (HB0.out.trans (hy11.mono hs1)).trans (hb.below (fun k hk => by simp at hk; omega) (by omega)))
    clear hy10 hy11
    go_wp2_with fail
    refine ⟨by simp, .inl ⟨_, _, rfl, run_takeDeferred HD3.out, ?_⟩⟩
    exact ⟨_, results_tmp rfl _ _ _, rfl, HB.out⟩
  case stop =>
    rintro c W hF hD
    exact hF.elim
end Go.Proofs.Ytpcbdjdmhemjdaa
