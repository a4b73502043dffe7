/- For whatever bytes and numbers law DeviceCuts answers true: an append that the power cuts has kept just the first bytes, a truncation has taken away just the last ones. No condition. -/
import Derived.Test.YtmlonennmnfemaaDevCutX
import Derived.Test.YtmlonennmnfemaaMasks
import Derived.Test.YtmlonennmnfemaaOpen
namespace Go.Proofs.Ytmlonennmnfemaa.deviceCuts
open Go.ChangeShapes Go.WideShapes Go.ChangeAt Go.RowKit Go.Proofs.Ytmlonennmnfemaa
set_option linter.unusedVariables false

attribute [-go_sem] Builtin.append_

set_option maxRecDepth 100000 in
set_option maxHeartbeats 2000000 in
theorem walk (w : World) (p0 : Option Addr) (n0 c0 : Nat) (l0 : List Nat) (S0 : Sl encY w.heap.size w (.slice p0 n0 c0) l0) (b0 : ∀ x ∈ l0, x < 256) (p1 : Option Addr) (n1 c1 : Nat) (l1 : List Nat) (S1 : Sl encY w.heap.size w (.slice p1 n1 c1) l1) (b1 : ∀ x ∈ l1, x < 256) (a2 : Int) (w2 : (Lit.int .i64 a2).wf = true) (a3 : Int) (w3 : (Lit.int .i64 a3).wf = true) :
    Calls Try.prog 8 #[.slice p0 n0 c0, .slice p1 n1 c1, .int .i64 a2, .int .i64 a3] w fun e w' => e = .returned (.bool true) ∧ Below w.heap.size w w' := by
  obtain rfl := S0.len
  obtain rfl := S1.len
  have HS0 := Lib.hid S0
  have HS1 := Lib.hid S1
  have HA0 := Lib.hid (fun own h => off_arg (own := own) S0 h)
  have HA1 := Lib.hid (fun own h => off_arg (own := own) S1 h)
  have H0 := Lib.hid b0
  have H1 := Lib.hid b1
  clear S0 S1 b0 b1 w2 w3
  obtain ⟨p, hp⟩ : ∃ p, l0.length = p := ⟨_, rfl⟩
  obtain ⟨q, hq⟩ : ∃ q, l1.length = q := ⟨_, rfl⟩
  have HP := Lib.hid hp
  have HQ := Lib.hid hq
  rw [hp] at HS0 HA0 ⊢
  rw [hq] at HS1 HA1 ⊢
  clear hp hq
  by_cases g0 : (p : Int) > 500
  · go_enter Try.func8, Try.ntmps8
    go_wp2_with (go_at_call 22; refine (devAlive_any _).mono ?_; rintro e w1 ⟨rfl, hb1⟩)
    go_ret
    exact ⟨rfl, hb1⟩
  · by_cases g1 : (q : Int) > 500
    · go_enter Try.func8, Try.ntmps8
      go_wp2_with (go_at_call 22; refine (devAlive_any _).mono ?_; rintro e w1 ⟨rfl, hb1⟩)
      go_ret
      exact ⟨rfl, hb1⟩
    · have B0 : Bytes l0 := ⟨by rw [HP.out]; omega, H0.out⟩
      have B1 : Bytes l1 := ⟨by rw [HQ.out]; omega, H1.out⟩
      have K0 : Hid (l0.length ≤ 500) := Lib.hid (by rw [HP.out]; omega)
      have K1 : Hid (l1.length ≤ 500) := Lib.hid (by rw [HQ.out]; omega)
      obtain ⟨t, ht1, ht2⟩ := and1023 a3
      obtain ⟨m, hm1, hm2⟩ := and1023 a2
      have HB0 := Lib.hid B0
      have HB1 := Lib.hid B1
      clear B0 B1
      go_enter Try.func8, Try.ntmps8
      go_wp2_with (go_at_call 22; refine (devAlive_any _).mono ?_; rintro e w1 ⟨rfl, hb1⟩)
      refine (new_any 1000 w1).mono ?_
      rintro e w2 ⟨rfl, d2, hb2⟩
      have hB2 : Below w.heap.size w w2 := hb1.trans (hb2.mono hb1.size)
      have o2 : ∀ k ∈ [w1.heap.size], w.heap.size ≤ k := by intro k hk; simp at hk; rw [hk]; exact hb1.size
      obtain ⟨bd, hbd⟩ : ∃ bd, w1.heap.size = bd := ⟨_, rfl⟩
      rw [hbd] at d2 o2 ⊢
      clear hb1 hb2 hbd
      go_wp2_with fail
      refine (load_any 0 _ _ _ l0 HB0.out w2 d2 ((HS0.out.below hB2).mono hB2.size)).mono ?_
      rintro e w3 ⟨rfl, own3, x3, y3, d3, b3, s3⟩
      rw [c_load0 l0 K0.out] at d3
      obtain ⟨hB3, o3⟩ := step_dev hB2 o2 b3 s3
      clear b3 s3 d2 hB2 o2
      go_wp2_with fail
      refine (load_any 1 _ _ _ l1 HB1.out w3 d3 ((HS1.out.below hB3).mono hB3.size)).mono ?_
      rintro e w4 ⟨rfl, own4, x4, y4, d4, b4, s4⟩
      rw [c_load1 l0 l1 K1.out] at d4
      obtain ⟨hB4, o4⟩ := step_dev hB3 o3 b4 s4
      clear b4 s4 d3 hB3 o3
      go_wp2_with fail
      refine (cut_to (t : Int) (by omega) w4 d4).mono ?_
      rintro e w5 ⟨rfl, own5, x5, y5, d5, b5, s5⟩
      rw [c_cut] at d5
      obtain ⟨hB5, o5⟩ := step_dev hB4 o4 b5 s5
      clear b5 s5 d4 hB4 o4
      go_wp2_with fail
      refine (app_any 0 _ _ _ l1 H1.out w5 d5 ((HS1.out.below hB5).mono hB5.size) (HA1.out _ o5)).mono ?_
      rintro e w6 ⟨rfl, own6, x6, y6, d6, b6, s6⟩
      rw [c_app l0 l1 t K0.out K1.out] at d6 ⊢
      have d6' : Dev own6 w6 bd (cD4 l0 l1 t) x6 y6 := d6
      obtain ⟨hB6, o6⟩ := step_dev hB5 o5 b6 s6
      rw [HQ.out]
      obtain ⟨e6, he6⟩ : ∃ e6, downE q t = e6 := ⟨_, rfl⟩
      have HE6 := Lib.hid he6
      show _
      clear b6 s6 d5 hB5 o5 d6 he6
      have hcc1 := HS1.out.capb
      have HW := Lib.hid (fun (W : World) (hb : Below w6.heap.size w6 W) => copyY_any _ _ _ l0 HB0.out.1 W ((HS0.out.below (hB6.trans (hb.mono hB6.size))).mono (Nat.le_trans hB6.size hb.size)))
      rw [HP.out] at HW
      have HA := Lib.hid (fun (k : Nat) (hk : k ≤ q) (w7 : World) (v7 : Value) (hb7 : Below w6.heap.size w6 w7) (hown7 : w7.ownsRow w6.heap.size 5 1 v7 p (l0.map encY)) => app_want l0 l1 p q k HP.out HQ.out hk (by omega) (by omega) p1 c1 w6 w7 v7 hb7 hown7 ((HS1.out.below (hB6.trans (hb7.mono hB6.size))).mono (Nat.le_trans hB6.size hb7.size)))
      obtain ⟨k, hk⟩ : ∃ k, min t q = k := ⟨_, rfl⟩
      have hmI : min (t : Int) (q : Int) = (k : Int) := by omega
      have hkq : k ≤ q := by omega
      have hkc : k ≤ c1 := by omega
      have HK := Lib.hid hk
      clear hk
      go_upto_region 11 with fail
      go_cut [11] (fun s11 wx => ∃ p7 c7, s11 = .slice p7 (p + k) c7 ∧ Sl encY wx.heap.size wx (.slice p7 (p + k) c7) (l0 ++ l1.take k) ∧ Below w6.heap.size w6 wx ∧ Far w6.heap.size s11)
      case first =>
        go_region_with (go_at_call 31; refine (HW.out _ (Below.refl _ _).drew).mono ?_; rintro e w7 ⟨v7, rfl, hown7, hb7⟩; obtain ⟨pv, cv, rfl⟩ := owns_sl hown7; obtain ⟨p8, c8, w8, hrun, hS8, hb8, hf8⟩ := HA.out k hkq w7 _ ⟨hb7.os, hb7.tape, hb7.output, hb7.size, hb7.block⟩ hown7; have HS8 := Lib.hid hS8; have HF8 := Lib.hid hf8; clear hown7 hb7 hS8 hf8)
        all_goals go_wp2_with fail
        all_goals go_meet
        all_goals exact ⟨_, _, rfl, HS8.out, hb8, HF8.out⟩
      case rest =>
        obtain ⟨p7, c7, rfl, hS7, hb7, hf7⟩ := hcut
        have hoff := hf7.off (own := own6) d6'.lt
        have hB7 := hB6.trans (hb7.mono hB6.size)
        have d7 := d6'.below hb7
        clear hb7 d6' hB6 HA HW
        have HDN : Hid (doneN l1.length t = k) := Lib.hid (by rw [HQ.out]; unfold doneN; have := HK.out; omega)
        obtain ⟨wl, hwl⟩ : ∃ wl, l0 ++ l1.take k = wl := ⟨_, rfl⟩
        have hrow0 : (cD4 l0 l1 t).row 0 = wl := by show l0 ++ l1.take (doneN l1.length t) = wl; rw [HDN.out, hwl]
        have hrest : ∀ t2 : Nat, cutS (restoreS (cD4 l0 l1 t)) t2 = cD6 wl l1 t2 (turnedN 0 k) := by intro t2; rw [c_rest, HDN.out, hwl]
        have hbw : ∀ x ∈ wl, x < 256 := by
          intro x hx
          rw [← hwl] at hx
          rcases List.mem_append.1 hx with h1 | h1
          · exact H0.out x h1
          · exact H1.out x (List.mem_of_mem_take h1)
        have hwlen : wl.length = p + k := by rw [← hwl, List.length_append, List.length_take, HP.out, HQ.out]; omega
        rw [hwl] at hS7
        obtain ⟨L, hL⟩ : ∃ L, p + k = L := ⟨_, rfl⟩
        rw [hL] at hwlen hS7 hoff ⊢
        have HOFF := Lib.hid hoff
        clear hoff hf7
        have hL1 : L ≤ 1000 := by omega
        have HR0 := Lib.hid hrow0
        have HRS := Lib.hid hrest
        have HWB : Hid (Bytes wl) := Lib.hid ⟨by omega, hbw⟩
        have HWL := Lib.hid hwlen
        have H7 := Lib.hid hS7
        clear hrow0 hrest hbw hwlen hS7 hwl hL HDN
        obtain ⟨X, hX1, hX2⟩ := downE_b q t
        have hX3 : decide ((t : Int) < (q : Int)) = X := by rw [← hX2]; exact decide_eq_decide.2 (by omega)
        obtain ⟨n2, hn2⟩ : ∃ n2, m % (L + 1) = n2 := ⟨_, rfl⟩
        have hn2L : n2 ≤ L := by have := Nat.mod_lt m (show 0 < L + 1 by omega); omega
        have hrem : (m : Int) % ((L : Int) + 1) = (n2 : Int) := by rw [← hn2]; push_cast; rfl
        have hremt : (m : Int).tmod ((L : Int) + 1) = (n2 : Int) := by rw [Int.tmod_eq_emod_of_nonneg (by omega)]; exact hrem
        have hnz : (((L : Int) + 1) == 0) = false := beq_eq_false_iff_ne.2 (by omega)
        obtain ⟨Y, hY1, hY2⟩ := downE_b (L - n2) t
        have hY3 : decide ((t : Int) < (L : Int) - (n2 : Int)) = Y := by rw [← hY2]; exact decide_eq_decide.2 (by omega)
        obtain ⟨r, hr⟩ : ∃ r, L - doneN (L - n2) t = r := ⟨_, rfl⟩
        have hrL : r ≤ L := by omega
        have hmax : max (n2 : Int) ((L : Int) - (t : Int)) = (r : Int) := by rw [← hr]; unfold doneN; omega
        have HRR := Lib.hid hr
        have hcap7 := H7.out.capb
        have hrc : r ≤ c7 := by omega
        clear hn2 hr
        go_wp2_with fail
        refine (bytes_any 0 wc d7).mono ?_
        rintro e w8 ⟨v8, rfl, hown8, hb8⟩
        rw [HR0.out] at hown8
        have d8 := d7.below hb8
        have hB8 := hB7.trans (hb8.mono hB7.size)
        have S8 := Sl.of_owns hown8
        obtain ⟨p8, c8, rfl⟩ := S8.form
        have H78 := Lib.hid (hS_st H7.out hb8)
        have HS8 := Lib.hid S8
        clear hown8 hb8 hB7 d7 S8 H7
        rw [HWL.out]
        go_wp2_with fail
        refine (sameY_any _ _ _ _ _ _ wl wl w8 HWB.out.1 HWB.out.1 (by have := HS8.out; rw [HWL.out] at this; exact this) H78.out).mono ?_
        rintro e w9 ⟨rfl, hb9⟩
        rw [decide_eq_true rfl]
        have d9 := d8.below hb9
        have hB9 := hB8.trans (hb9.mono hB8.size)
        have H79 := Lib.hid (hS_st H78.out hb9)
        clear hb9 hB8 d8 H78 HS8
        go_wp2_with fail
        refine (bytes_any 1 w9 d9).mono ?_
        rintro e w10 ⟨v10, rfl, hown10, hb10⟩
        rw [show (cD4 l0 l1 t).row 1 = l1 from rfl] at hown10
        have d10 := d9.below hb10
        have hB10 := hB9.trans (hb10.mono hB9.size)
        have S10 := Sl.of_owns hown10
        obtain ⟨p10, c10, rfl⟩ := S10.form
        have H710 := Lib.hid (hS_st H79.out hb10)
        have HS10 := Lib.hid S10
        clear hown10 hb10 hB9 d9 S10 H79
        rw [HQ.out]
        go_wp2_with fail
        refine (sameY_any _ _ _ _ _ _ l1 l1 w10 HB1.out.1 HB1.out.1 (by have := HS10.out; rw [HQ.out] at this; exact this) ((HS1.out.below hB10).mono hB10.size)).mono ?_
        rintro e w11 ⟨rfl, hb11⟩
        rw [decide_eq_true rfl]
        have d11 := d10.below hb11
        have hB11 := hB10.trans (hb11.mono hB10.size)
        have H711 := Lib.hid (hS_st H710.out hb11)
        clear hb11 hB10 d10 H710 HS10
        go_wp2_with fail
        refine (restore_to w11 d11).mono ?_
        rintro e w12 ⟨rfl, own12, x12, y12, d12, b12, s12⟩
        obtain ⟨hB12, o12⟩ := step_dev hB11 o6 b12 s12
        have H712 := Lib.hid (hS_bt H711.out b12 HOFF.out)
        have HOF2 := Lib.hid (HOFF.out.more ⟨wl, H711.out⟩ s12)
        clear b12 s12 d11 hB11 H711
        go_wp2_with fail
        refine (cut_to (t : Int) (by omega) w12 d12).mono ?_
        rintro e w13 ⟨rfl, own13, x13, y13, d13, b13, s13⟩
        rw [HRS.out] at d13
        obtain ⟨hB13, o13⟩ := step_dev hB12 o12 b13 s13
        have H713 := Lib.hid (hS_bt H712.out b13 HOF2.out)
        have HOF3 := Lib.hid (HOF2.out.more ⟨wl, H712.out⟩ s13)
        clear b13 s13 d12 hB12 H712
        go_wp2_with fail
        refine (trunc_any 0 (n2 : Int) w13 d13).mono ?_
        rintro e w14 ⟨rfl, own14, x14, y14, d14, b14, s14⟩
        rw [c_trunc wl l1 t (turnedN 0 k) n2 (by rw [HWL.out]; exact hn2L), HWL.out] at d14 ⊢
        have d14' : Dev own14 w14 bd (cD7 wl l1 t (turnedN 0 k) n2) x14 y14 := d14
        obtain ⟨hB14, o14⟩ := step_dev hB13 o13 b14 s14
        have H714 := Lib.hid (hS_bt H713.out b14 HOF3.out)
        have hrow7 : (cD7 wl l1 t (turnedN 0 k) n2).row 0 = wl.take r := by show wl.take (wl.length - doneN (wl.length - n2) t) = wl.take r; rw [HWL.out, HRR.out]
        have HR7 := Lib.hid hrow7
        have hrl : (wl.take r).length = r := by rw [List.length_take, HWL.out]; omega
        have HRL := Lib.hid hrl
        have HTB : Hid ((wl.take r).length ≤ 1048576) := Lib.hid (by rw [hrl]; omega)
        clear b14 s14 d13 hB13 H713 d14 hrow7 hrl
        show _
        go_wp2_with fail
        refine (bytes_any 0 w14 d14').mono ?_
        rintro e w15 ⟨v15, rfl, hown15, hb15⟩
        rw [HR7.out] at hown15
        have d15 := d14'.below hb15
        have hB15 := hB14.trans (hb15.mono hB14.size)
        have S15 := Sl.of_owns hown15
        obtain ⟨p15, c15, rfl⟩ := S15.form
        have H715 := Lib.hid ((hS_st H714.out hb15).take (k := r) hrL)
        have HS15 := Lib.hid S15
        clear hown15 hb15 hB14 d14' S15 H714
        rw [HRL.out]
        go_wp2_with fail
        refine (sameY_any _ _ _ _ _ _ (wl.take r) (wl.take r) w15 HTB.out HTB.out (by have := HS15.out; rw [HRL.out] at this; exact this) H715.out).mono ?_
        rintro e w16 ⟨rfl, hb16⟩
        rw [decide_eq_true rfl]
        have d16 := d15.below hb16
        have hB16 := hB15.trans (hb16.mono hB15.size)
        clear hb16 hB15 d15 H715 HS15
        go_wp2_with fail
        refine (bytes_any 1 w16 d16).mono ?_
        rintro e w17 ⟨v17, rfl, hown17, hb17⟩
        rw [show (cD7 wl l1 t (turnedN 0 k) n2).row 1 = l1 from rfl] at hown17
        have hB17 := hB16.trans (hb17.mono hB16.size)
        have S17 := Sl.of_owns hown17
        obtain ⟨p17, c17, rfl⟩ := S17.form
        have HS17 := Lib.hid S17
        clear hown17 hb17 hB16 d16 S17
        rw [HQ.out]
        go_wp2_with fail
        refine (sameY_any _ _ _ _ _ _ l1 l1 w17 HB1.out.1 HB1.out.1 (by have := HS17.out; rw [HQ.out] at this; exact this) ((HS1.out.below hB17).mono hB17.size)).mono ?_
        rintro e w18 ⟨rfl, hb18⟩
        rw [decide_eq_true rfl]
        have hB18 := hB17.trans (hb18.mono hB17.size)
        clear hb18 hB17 HS17
        go_wp2
        go_ret
        exact ⟨rfl, hB18⟩

set_option maxRecDepth 100000 in
theorem lifted (os : Os) (started : os.Started) (H : Type) (enc : TypeId × Value → H) :
    ReturnsInHanded {} Try.checked os 8 .any (Rows.deviceCutsSpec.pre6 enc Try.prog Try.f8 Rows.deviceCutsRow.domain false) (Rows.deviceCutsSpec.post enc Try.prog Try.f8 false true false false) := by
  refine returnsInHanded_of_change (C := Try.checked) own started (by kernel_rfl) Try.func8
    (ChangeSpec.witness6 (enc := enc) (C := Try.checked) false ⟨#[], #[.slice none 0 0, .slice none 0 0, .int .i64 0, .int .i64 0], []⟩ 8 (by kernel_rfl) (by kernel_rfl) (by kernel_rfl) (by kernel_rfl)) ?_
  intro W base args ds gs before hval0 hW hcnd _
  have hval : ∀ (j : Nat) t v, Try.f8.params[j]? = some t → args[j]? = some v → Value.okWide Try.prog W .any base t v := hval0
  have hW' := hW
  obtain ⟨p, q, hA0, hV, rfl, hfz, hnd⟩ := hW
  have hA : DataW.TrodAll enc Try.prog W 0 (fun _ => true) true Try.f8.params.toList args.toList ds p := hA0
  rw [Try.params8] at hA hval
  have hAk := hA
  obtain ⟨v0, vs0, d0, ds0, p0', q0, hargs, rfl, rfl, h0, r0⟩ := trodAll_cons hA
  obtain ⟨v1, vs1, d1, ds1, p1', q1, rfl, rfl, rfl, h1, r1⟩ := trodAll_cons r0
  obtain ⟨v2, vs2, d2, ds2, p2', q2, rfl, rfl, rfl, h2, r2⟩ := trodAll_cons r1
  obtain ⟨v3, vs3, d3, ds3, p3', q3, rfl, rfl, rfl, h3, r3⟩ := trodAll_cons r2
  obtain ⟨rfl, rfl, rfl⟩ := trodAll_nil r3
  obtain rfl : args = #[v0, v1, v2, v3] := by cases args; simp_all
  obtain ⟨rfl, rfl⟩ := trodVars_none hV
  simp only [List.append_nil] at hW' hAk
  have hlt := fun x hx => hW'.lt x hx
  clear hA0 hval0
  obtain ⟨p0, n0, c0, l0, rfl, S0, b0⟩ := open_bytes (okWide_slice Try.underlying25 (hval 0 25 v0 rfl rfl)) h0
  obtain ⟨p1, n1, c1, l1, rfl, S1, b1⟩ := open_bytes (okWide_slice Try.underlying25 (hval 1 25 v1 rfl rfl)) h1
  obtain ⟨a2, rfl, rfl, rfl, w2⟩ := open_int Try.underlying3 (hval 2 3 v2 rfl rfl) h2
  obtain ⟨a3, rfl, rfl, rfl, w3⟩ := open_int Try.underlying3 (hval 3 3 v3 rfl rfl) h3
  refine (walk W p0 n0 c0 l0 S0 b0 p1 n1 c1 l1 S1 b1 a2 w2 a3 w3).mono fun e W' ⟨he, hg⟩ => ?_
  subst he
  have hargs := trodAll_below hg _ _ _ _ (by intro t ht; simp only [List.mem_cons, List.not_mem_nil, or_false] at ht; revert t; rintro t (rfl | rfl | rfl | rfl) <;> exact ⟨by kernel_rfl, of_decide_eq_true (by kernel_rfl)⟩) hAk (fun x hx => by simpa using hlt x hx)
  exact ⟨_, rfl, _, _, _, [], _, [], hW', (trodAll_cons_mk (shut_bool Try.underlying4 _) trodAll_mk0), hargs, rfl, hg.frame _, fun h => by cases h⟩

theorem over : Rows.deviceCutsRow.holds Try.pinned (OpenSpec.ofChange Rows.deviceCutsSpec) :=
  OpenClaim.holds_of_wide 8 Try.f8 rfl rfl rfl rfl rfl rfl rfl ⟨rfl, rfl, rfl, rfl, rfl⟩ rfl rfl rfl rfl rfl (by kernel_rfl) Try.func8 (by kernel_rfl)
    (of_decide_eq_true (by kernel_rfl)) (by unfold Func.isWrapper; first | (rw [if_pos (by decide +kernel)]; kernel_rfl) | (rw [if_neg (by decide +kernel)]; exact ⟨rfl, rfl⟩))
    (fun os started H enc _ => lifted os started H enc)

theorem proved : Rows.DeviceCutsSaid :=
  over
end Go.Proofs.Ytmlonennmnfemaa.deviceCuts
