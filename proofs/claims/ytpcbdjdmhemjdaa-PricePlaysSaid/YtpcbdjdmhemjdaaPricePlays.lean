/- For whatever rows of entries and sets and whatever number law PricePlays answers true: of each row of puts and rises every answer, and what is asked behind it, is as the document says; the entries are tight. No condition. -/
import Derived.Test.YtpcbdjdmhemjdaaPriZ
import Derived.Test.YtpcbdjdmhemjdaaPriPl
namespace Go.Proofs.Ytpcbdjdmhemjdaa.pricePlays
open Go.ChangeShapes Go.WideShapes Go.ChangeAt Go.RowKit Go.Proofs.Ytpcbdjdmhemjdaa
set_option linter.unusedVariables false
attribute [local go_sem] Oper.semAt_some
theorem setP_mono {n n' : Nat} {W : World} {sv : Value} {xs : List Nat} (h : SetP n W sv xs) (hn : n ≤ n') : SetP n' W sv xs := by
  rcases h with h | ⟨b, off, cap, e, hb, r⟩
  · exact .inl h
  · exact .inr ⟨b, off, cap, e, Nat.lt_of_lt_of_le hb hn, r⟩

set_option maxRecDepth 100000 in
set_option maxHeartbeats 16000000 in
theorem walk (w : World) (p0 : Option Addr) (n0 c0 : Nat) (l0 : List Ent) (S0 : EnsP w.heap.size w (.slice p0 n0 c0) l0) (b0 : (∀ x ∈ l0, okS x.1 ∧ In64 x.2) ∧ l0.length ≤ Go.maxLen) (p1 : Option Addr) (n1 c1 : Nat) (l1 : List Nat) (S1 : SetP w.heap.size w (.slice p1 n1 c1) l1) (b1 : (∀ x ∈ l1, okS x) ∧ l1.length ≤ Go.maxLen) (a2 : Int) (w2 : (Lit.int .i64 a2).wf = true) (p3 : Option Addr) (n3 c3 : Nat) (l3 : List Nat) (S3 : SetP w.heap.size w (.slice p3 n3 c3) l3) (b3 : (∀ x ∈ l3, okS x) ∧ l3.length ≤ Go.maxLen) :
    Calls Try.prog 3 #[.slice p0 n0 c0, .slice p1 n1 c1, .int .i64 a2, .slice p3 n3 c3] w fun e w' => e = .returned (.bool true) ∧ Below w.heap.size w w' := by
  have hl0 := S0.len
  have hl1 := S1.len
  have hl3 := S3.len
  have HAL := Lib.hid (fun W => priceAlive_any W)
  have HOK : Hid (∀ x ∈ l0, okS x.1) := Lib.hid (fun x hx => (b0.1 x hx).1)
  have HO1 := Lib.hid b1.1
  have HO3 := Lib.hid b3.1
  have HN0 := Lib.hid hl0.symm
  have HN1 := Lib.hid hl1.symm
  have HN3 := Lib.hid hl3.symm
  have HZ0 := Lib.hid S0
  have HZ1 := Lib.hid S1
  have HZ3 := Lib.hid S3
  clear S0 b0 S1 b1 S3 b3 hl0 hl1 hl3 w2
  by_cases h0 : 60 < n0
  · have g0 : decide ((60 : Int) < (n0 : Int)) = true := decide_eq_true (by omega)
    go_enter Try.func3, Try.ntmps3
    go_wp2_with (go_at_call 8; refine (HAL.out _).mono ?_; rintro e w2 ⟨rfl, hb2⟩; have HB2 := Lib.hid hb2; clear hb2)
    go_ret
    exact ⟨rfl, HB2.out⟩
  have g0 : decide ((60 : Int) < (n0 : Int)) = false := decide_eq_false (by omega)
  have hn0 : n0 ≤ 60 := by omega
  clear h0
  by_cases h1 : 60 < n1
  · have g1 : decide ((60 : Int) < (n1 : Int)) = true := decide_eq_true (by omega)
    go_enter Try.func3, Try.ntmps3
    go_wp2_with (go_at_call 8; refine (HAL.out _).mono ?_; rintro e w2 ⟨rfl, hb2⟩; have HB2 := Lib.hid hb2; clear hb2)
    go_ret
    exact ⟨rfl, HB2.out⟩
  have g1 : decide ((60 : Int) < (n1 : Int)) = false := decide_eq_false (by omega)
  have hn1 : n1 ≤ 60 := by omega
  clear h1
  by_cases h3 : 60 < n3
  · have g3 : decide ((60 : Int) < (n3 : Int)) = true := decide_eq_true (by omega)
    go_enter Try.func3, Try.ntmps3
    go_wp2_with (go_at_call 8; refine (HAL.out _).mono ?_; rintro e w2 ⟨rfl, hb2⟩; have HB2 := Lib.hid hb2; clear hb2)
    go_ret
    exact ⟨rfl, HB2.out⟩
  have g3 : decide ((60 : Int) < (n3 : Int)) = false := decide_eq_false (by omega)
  have hn3 : n3 ≤ 60 := by omega
  clear h3
  go_enter Try.func3, Try.ntmps3
  go_wp2_with (go_at_call 8; refine (HAL.out _).mono ?_; rintro e w2 ⟨rfl, hb2⟩; have HB2 := Lib.hid hb2; clear hb2)
  refine (play_any p0 p1 n0 c0 n1 c1 l0 l1 a2 w2 ((HZ0.out.below HB2.out (Nat.le_refl _)).mono HB2.out.size) (setP_mono (HZ1.out.below HB2.out (Nat.le_refl _)) HB2.out.size) HOK.out HO1.out hn0 hn1).mono ?_
  rintro o y1 ⟨pb, sv, xa, xn, xc, acc, rfl, hpb, hS1, hal⟩
  have hxl := hS1.ens.len
  have htt := tieB_true hS1.ps.tie
  have hoka := hS1.ok
  have HS1 := Lib.hid hS1
  have HOA := Lib.hid hoka
  have HTT := Lib.hid htt
  have HXL := Lib.hid hxl
  have HX : Hid (∀ W, Below y1.heap.size y1 W → PlS w2 W pb sv (.slice xa acc.length xc) acc) := Lib.hid (fun W hb => by have := HS1.out.below hb; rw [HXL.out] at this; exact this)
  have HA : Hid (∀ W, Below w.heap.size w W → EnsP W.heap.size W (.slice p0 n0 c0) l0) := Lib.hid (fun W hb => (HZ0.out.below hb (Nat.le_refl _)).mono hb.size)
  have HBY : Hid (∀ W, Below y1.heap.size y1 W → Below w.heap.size w W) := Lib.hid (fun W hb => HB2.out.trans ((HS1.out.bel.trans (hb.mono HS1.out.bel.size)).mono HB2.out.size))
  have HL1 := Lib.hid (list_any y1 (HX.out y1 (Below.refl _ _)).ps (by omega))
  have gl : ((acc.length : Int) != (acc.length : Int)) = false := by simp
  rw [hxl]
  clear hS1 hxl htt hoka hpb
  go_wp2_with fail
  refine HL1.out.mono ?_
  rintro o y2 ⟨v2, rfl, hown2, hz1⟩
  obtain ⟨a2', c2', rfl⟩ := own_form hown2
  have HC2 := Lib.hid (refSame2_any a2' xa acc.length acc.length c2' xc acc acc (by omega) (by omega) y2 (EnsP.of_owns hown2) (HX.out y2 hz1).ens)
  rw [show decide (acc = acc) = true from by simp] at HC2
  have HZ2 := Lib.hid hz1
  clear hown2 hz1
  go_wp2_with fail
  refine HC2.out.mono ?_
  rintro o y3 ⟨rfl, hz2⟩
  have HZ3' := Lib.hid (HZ2.out.trans (hz2.mono HZ2.out.size))
  have HL3 := Lib.hid (len_any y3 (HX.out y3 HZ3'.out).ps)
  clear hz2
  go_wp2_with fail
  refine HL3.out.mono ?_
  rintro o y4 ⟨rfl, hz3⟩
  obtain rfl := hz3
  have HT4 := Lib.hid (refTight_any xa acc.length xc acc y3 HOA.out (by omega) (HX.out y3 HZ3'.out).ens)
  rw [HTT.out] at HT4
  go_wp2_with fail
  refine HT4.out.mono ?_
  rintro o y5 ⟨rfl, hz4⟩
  have HZ5 := Lib.hid (HZ3'.out.trans (hz4.mono HZ3'.out.size))
  have HL5 := Lib.hid (list_any y5 (HX.out y5 HZ5.out).ps (by omega))
  clear hz4
  go_wp2_with fail
  refine HL5.out.mono ?_
  rintro o y6 ⟨v6, rfl, hown6, hz5⟩
  obtain ⟨a6, c6, rfl⟩ := own_form hown6
  have HT6 := Lib.hid (tight_any a6 acc.length c6 acc y6 HOA.out (by omega) (EnsP.of_owns hown6))
  rw [HTT.out] at HT6
  have HZ6 := Lib.hid (HZ5.out.trans (hz5.mono HZ5.out.size))
  clear hown6 hz5
  go_wp2_with fail
  refine HT6.out.mono ?_
  rintro o y7 ⟨rfl, hz6⟩
  have HZ7 := Lib.hid (HZ6.out.trans (hz6.mono HZ6.out.size))
  clear hz6
  go_wp2_with fail
  go_loopw [66] (fun i wr => ∃ m : Nat, i = .int .i64 m ∧ m ≤ n3 ∧ Below y1.heap.size y1 wr) (fun i _ => n3 - (intOf i).toNat)
  case atStart => exact ⟨0, rfl, Nat.zero_le _, HZ7.out⟩
  case round =>
    obtain ⟨m, rfl, hm, hB⟩ := hrel
    obtain ⟨wo, hwo⟩ : ∃ x, x = wr := ⟨wr, rfl⟩
    subst hwo
    have HB := Lib.hid hB
    clear hB
    by_cases hlt : m < n3
    · obtain ⟨s, hs⟩ : ∃ x, l3[m]? = some x := ⟨_, List.getElem?_eq_getElem (by rw [HN3.out]; exact hlt)⟩
      obtain ⟨b, off, rfl, hb, f0⟩ := HZ3.out.at_ hs
      have hsok := HO3.out _ (List.mem_of_getElem? hs)
      have d0 := ((HBY.out wo HB.out).cell (p := ⟨b, off + m, none⟩) hb).trans f0
      have g5 : (0 : Int) ≤ m := by omega
      have g6 : (m : Int) < n3 := by omega
      have HK1 := Lib.hid (fun (W : World) (h : Below y1.heap.size y1 W) => ask_any s W (HX.out W h).ps hsok (by omega))
      have HK2 := Lib.hid (fun (W : World) (h : Below y1.heap.size y1 W) => refAsk_any xa acc.length xc s acc W hsok HOA.out (by omega) (HX.out W h).ens)
      have HKL := Lib.hid (fun (W : World) (a' : Option Addr) (c' : Nat) (h : EnsP W.heap.size W (.slice a' acc.length c') acc) => refAsk_any a' acc.length c' s acc W hsok HOA.out (by omega) h)
      obtain ⟨av, hav⟩ : ∃ v, askL withinB acc s = v := ⟨_, rfl⟩
      rw [hav] at HK1 HK2 HKL
      have gav : (av != av) = false := by simp
      clear hs f0 hav
      go_wp2_with fail
      refine (HK1.out wo HB.out).mono ?_
      rintro o z1 ⟨rfl, hy1⟩
      have HY1 := Lib.hid (HB.out.trans (hy1.mono HB.out.size))
      clear hy1 d0
      go_wp2_with fail
      refine (HK2.out z1 HY1.out).mono ?_
      rintro o z2 ⟨rfl, hy2⟩
      obtain rfl := hy2
      go_wp2_with fail
      refine (HK1.out z1 HY1.out).mono ?_
      rintro o z3 ⟨rfl, hy3⟩
      have HY3 := Lib.hid (HY1.out.trans (hy3.mono HY1.out.size))
      have HLZ := Lib.hid (list_any z3 (HX.out z3 HY3.out).ps (by omega))
      clear hy3
      go_wp2_with fail
      refine HLZ.out.mono ?_
      rintro o z4 ⟨v4, rfl, hown4, hy4⟩
      obtain ⟨a4, c4, rfl⟩ := own_form hown4
      have HKZ := Lib.hid (HKL.out z4 a4 c4 (EnsP.of_owns hown4))
      have HY4 := Lib.hid (HY3.out.trans (hy4.mono HY3.out.size))
      clear hown4 hy4
      go_wp2_with fail
      refine HKZ.out.mono ?_
      rintro o z5 ⟨rfl, hy5⟩
      obtain rfl := hy5
      go_wp2_with fail
      go_roundw
      case rel => exact ⟨m + 1, by go_num, by omega, HY4.out⟩
      case measure => simp [intOf]; omega
    · obtain rfl : m = n3 := by omega
      have HAW := Lib.hid (fun (W : World) (hb : Below wo.heap.size wo W) => HBY.out W (HB.out.trans (hb.mono HB.out.size)))
      have HT1 := Lib.hid (tight_any p0 n0 c0 l0 wo HOK.out (by rw [HN0.out]; omega) (HA.out wo (HAW.out wo (Below.refl _ _))))
      have HT2 := Lib.hid (fun W hb => refTight_any p0 n0 c0 l0 W HOK.out (by rw [HN0.out]; omega) (HA.out W (HAW.out W hb)))
      obtain ⟨tb, htb⟩ : ∃ b, tieB l0 = b := ⟨_, rfl⟩
      rw [htb] at HT1 HT2
      have gtb : (tb == tb) = true := by simp
      clear htb
      go_wp2_with fail
      refine HT1.out.mono ?_
      rintro o z1 ⟨rfl, hy1⟩
      have HY1 := Lib.hid hy1
      clear hy1
      go_wp2_with fail
      refine (HT2.out z1 HY1.out).mono ?_
      rintro o z2 ⟨rfl, hy2⟩
      have HY2 := Lib.hid (HY1.out.trans (hy2.mono HY1.out.size))
      have HO2 := Lib.hid (of_any p0 n0 c0 l0 z2 HOK.out (by rw [HN0.out]; omega) (HA.out z2 (HAW.out z2 HY2.out)))
      clear hy2
      go_wp2_with fail
      refine HO2.out.mono ?_
      rintro o z3 ⟨rb, rsv, rfl, hrb, hpr, hy3⟩
      have hle := of_len' l0
      have HLE : Hid ((ofP l0).length ≤ 60) := Lib.hid (by have := HN0.out; omega)
      have HL3' := Lib.hid (list_any z3 hpr (by have := HLE.out; omega))
      have HY3 := Lib.hid (HY2.out.trans (hy3.mono HY2.out.size))
      clear hrb hpr hy3 hle
      go_wp2_with fail
      refine HL3'.out.mono ?_
      rintro o z4 ⟨v4, rfl, hown4, hy4⟩
      obtain ⟨a4, c4, rfl⟩ := own_form hown4
      have HE4 := Lib.hid (EnsP.of_owns hown4)
      have HY4 := Lib.hid (HY3.out.trans (hy4.mono HY3.out.size))
      have HR4 := Lib.hid (refOf_any p0 n0 c0 l0 z4 HOK.out (by rw [HN0.out]; omega) (HA.out z4 (HAW.out z4 HY4.out)))
      clear hown4 hy4
      go_wp2_with fail
      refine HR4.out.mono ?_
      rintro o z5 ⟨a5, n5, c5, rfl, hE5, hy5⟩
      have HY5 := Lib.hid (HY4.out.trans (hy5.mono HY4.out.size))
      have HSM := Lib.hid (refSame2_any a4 a5 (ofP l0).length n5 c4 c5 (ofP l0) (ofP l0) (by have := HLE.out; omega) (by have := HLE.out; omega) z5 ((HE4.out.below hy5 (Nat.le_refl _)).mono hy5.size) hE5)
      rw [show decide (ofP l0 = ofP l0) = true from by simp] at HSM
      clear hE5 hy5
      go_wp2_with fail
      refine HSM.out.mono ?_
      rintro o z6 ⟨rfl, hy6⟩
      have HF : Hid (Below w.heap.size w z6) := Lib.hid (HAW.out z6 (HY5.out.trans (hy6.mono HY5.out.size)))
      clear hy6
      go_wp2_with fail
      go_ret
      exact ⟨rfl, HF.out⟩


set_option maxRecDepth 100000 in
theorem lifted (os : Os) (started : os.Started) (H : Type) (enc : TypeId × Value → H) :
    ReturnsInHanded {} Try.checked os 3 .any (Rows.pricePlaysSpec.pre6 enc Try.prog Try.f3 Rows.pricePlaysRow.domain false) (Rows.pricePlaysSpec.post enc Try.prog Try.f3 false true false false) := by
  refine returnsInHanded_of_change (C := Try.checked) own started (by kernel_rfl) Try.func3
    (ChangeSpec.witness6 (enc := enc) (C := Try.checked) false ⟨#[], #[.slice none 0 0, .slice none 0 0, .int .i64 0, .slice none 0 0], []⟩ 8 (by kernel_rfl) (by kernel_rfl) (by kernel_rfl) (by kernel_rfl)) ?_
  intro W base args ds gs before hval0 hW hcnd _
  have hval : ∀ (j : Nat) t v, Try.f3.params[j]? = some t → args[j]? = some v → Value.okWide Try.prog W .any base t v := hval0
  have hW' := hW
  obtain ⟨p, q, hA0, hV, rfl, hfz, hnd⟩ := hW
  have hA : DataW.TrodAll enc Try.prog W 0 (fun _ => true) true Try.f3.params.toList args.toList ds p := hA0
  rw [Try.params3] at hA hval
  have hAk := hA
  obtain ⟨v0, vs0, d0, ds0, p0', q0, hargs, rfl, rfl, h0, r0⟩ := trodAll_cons hA
  obtain ⟨v1, vs1, d1, ds1, p1', q1, rfl, rfl, rfl, h1, r1⟩ := trodAll_cons r0
  obtain ⟨v2, vs2, d2, ds2, p2', q2, rfl, rfl, rfl, h2, r2⟩ := trodAll_cons r1
  obtain ⟨v3, vs3, d3, ds3, p3', q3, rfl, rfl, rfl, h3, r3⟩ := trodAll_cons r2
  obtain ⟨rfl, rfl, rfl⟩ := trodAll_nil r3
  obtain rfl : args = #[v0, v1, v2, v3] := by cases args; simp_all
  obtain ⟨rfl, rfl⟩ := trodVars_none hV
  simp only [List.append_nil] at hW' hAk
  have hlt := fun x hx => hW'.lt x hx
  clear hA0 hval0
  obtain ⟨p0, n0, c0, l0, rfl, S0, b0⟩ := open_ents (okWide_slice Try.underlying22 (hval 0 22 v0 rfl rfl)) h0
  obtain ⟨p1, n1, c1, l1, rfl, S1, b1⟩ := open_sets (okWide_slice Try.underlying23 (hval 1 23 v1 rfl rfl)) h1
  obtain ⟨a2, rfl, rfl, rfl, w2⟩ := open_int Try.underlying2 (hval 2 2 v2 rfl rfl) h2
  obtain ⟨p3, n3, c3, l3, rfl, S3, b3⟩ := open_sets (okWide_slice Try.underlying23 (hval 3 23 v3 rfl rfl)) h3
  refine (walk W p0 n0 c0 l0 S0 b0 p1 n1 c1 l1 S1 b1 a2 w2 p3 n3 c3 l3 S3 b3).mono fun e W' ⟨he, hg⟩ => ?_
  subst he
  have hargs := trodAll_below hg _ _ _ _ (by intro t ht; simp only [List.mem_cons, List.not_mem_nil, or_false] at ht; revert t; rintro t (rfl | rfl | rfl | rfl) <;> exact ⟨by kernel_rfl, of_decide_eq_true (by kernel_rfl)⟩) hAk (fun x hx => by simpa using hlt x hx)
  exact ⟨_, rfl, _, _, _, [], _, [], hW', (trodAll_cons_mk (shut_bool Try.underlying4 _) trodAll_mk0), hargs, rfl, hg.frame _, fun h => by cases h⟩

theorem over : Rows.pricePlaysRow.holds Try.pinned (OpenSpec.ofChange Rows.pricePlaysSpec) :=
  OpenClaim.holds_of_wide 3 Try.f3 rfl rfl rfl rfl rfl rfl rfl ⟨rfl, rfl, rfl, rfl, rfl⟩ rfl rfl rfl rfl rfl (by kernel_rfl) Try.func3 (by kernel_rfl)
    (of_decide_eq_true (by kernel_rfl)) (by unfold Func.isWrapper; first | (rw [if_pos (by decide +kernel)]; kernel_rfl) | (rw [if_neg (by decide +kernel)]; exact ⟨rfl, rfl⟩))
    (fun os started H enc _ => lifted os started H enc)

theorem proved : Rows.PricePlaysSaid :=
  over
end Go.Proofs.Ytpcbdjdmhemjdaa.pricePlays
