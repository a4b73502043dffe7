/- For whatever kind, body and bytes behind law FrameBack answers true: what is written is read as it, whatever stands behind; a proper beginning of it is too short. No condition. -/
import Derived.Test.YtfhigngfohfclaaFrameLaws
namespace Go.Proofs.Ytfhigngfohfclaa.frameBack
open Go.ChangeShapes Go.WideShapes Go.ChangeAt Go.RowKit Go.Proofs.Ytfhigngfohfclaa Go.Proofs.Ytfhigngfohfclaa.SumM
set_option linter.unusedVariables false

set_option maxRecDepth 100000 in
set_option maxHeartbeats 2000000 in
theorem walk (w : World) (a0 : Int) (w0 : (Lit.int .i64 a0).wf = true) (p1 : Option Addr) (n1 c1 : Nat) (l1 : List Nat) (S1 : Sl encY w.heap.size w (.slice p1 n1 c1) l1) (b1 : ∀ x ∈ l1, x < 256) (p2 : Option Addr) (n2 c2 : Nat) (l2 : List Nat) (S2 : Sl encY w.heap.size w (.slice p2 n2 c2) l2) (b2 : ∀ x ∈ l2, x < 256) (a3 : Int) (w3 : (Lit.int .i64 a3).wf = true) :
    Calls Try.prog 11 #[.int .i64 a0, .slice p1 n1 c1, .slice p2 n2 c2, .int .i64 a3] w fun e w' => e = .returned (.bool true) ∧ Below w.heap.size w w' := by
  obtain rfl := S1.len
  obtain rfl := S2.len
  have HS := Lib.hid S1
  have HT := Lib.hid S2
  have H1 := Lib.hid b1
  have H2 := Lib.hid b2
  clear S1 S2 b1 b2 w0 w3
  obtain ⟨n, hn⟩ : ∃ n, l1.length = n := ⟨_, rfl⟩
  obtain ⟨q, hq⟩ : ∃ q, l2.length = q := ⟨_, rfl⟩
  have HN := Lib.hid hn
  have HQ := Lib.hid hq
  rw [hn] at HS ⊢
  rw [hq] at HT ⊢
  clear hn hq
  by_cases g0 : (n : Int) > 5000
  · go_enter Try.func11, Try.ntmps11
    go_wp2_with (go_at_call 51; refine (frameAlive_any _).mono ?_; rintro e w1 ⟨rfl, hb1⟩)
    go_ret
    exact ⟨rfl, hb1⟩
  · by_cases g1 : (q : Int) > 100
    · go_enter Try.func11, Try.ntmps11
      go_wp2_with (go_at_call 51; refine (frameAlive_any _).mono ?_; rintro e w1 ⟨rfl, hb1⟩)
      go_ret
      exact ⟨rfl, hb1⟩
    · have B1 : Bytes l1 := ⟨by rw [HN.out]; omega, H1.out⟩
      have HW := Lib.hid (fun (W : World) (hb : Below w.heap.size w W) => write_any a0 _ _ _ l1 B1 W ((HS.out.below hb).mono hb.size))
      by_cases hz : writeE a0 l1 = 0
      · obtain ⟨k1, k2, k3⟩ := writeE_zero hz
        obtain ⟨t, rfl⟩ : ∃ t : Nat, a0 = (t : Int) := ⟨a0.toNat, by omega⟩
        rw [writeL_zero hz, Int.toNat_natCast, hz] at HW
        obtain ⟨c', hc1, hc2⟩ := and8191 a3
        obtain ⟨s, hs⟩ : ∃ s, n + 7 = s := ⟨_, rfl⟩
        obtain ⟨r, hr1, hr2⟩ : ∃ r : Nat, (c' : Int) % (s : Int) = (r : Int) ∧ r < s := ⟨c' % s, by push_cast; rfl, Nat.mod_lt _ (by omega)⟩
        have htm : (c' : Int).tmod (s : Int) = (r : Int) := by rw [Int.tmod_eq_emod_of_nonneg (by omega)]; exact hr1
        have hdz : ((s : Int) == 0) = false := beq_eq_false_iff_ne.2 (by omega)
        have HFL : Hid ((frameL t l1).length = s) := Lib.hid (by rw [frame_len, HN.out, hs])
        have hFB : Bytes (frameL t l1) := ⟨by rw [frame_len, HN.out]; omega, frame_bytes (by omega) (by have := HN.out; omega) H1.out⟩
        have hFM : Bytes (frameL t l1 ++ l2) := ⟨by rw [List.length_append, frame_len, HN.out, HQ.out]; omega, fun x hx => by rcases List.mem_append.1 hx with h | h; exact hFB.2 x h; exact H2.out x h⟩
        have hFT : Bytes ((frameL t l1).take r) := ⟨by rw [List.length_take]; have := hFB.1; omega, fun x hx => hFB.2 x (List.mem_of_mem_take hx)⟩
        obtain ⟨e1, e2, e3, e4⟩ := read_frame t l1 l2 (by omega) (by have := HN.out; omega)
        have e5 := read_cut t l1 r (by have := HN.out; omega) (by have := HN.out; omega)
        rw [HN.out, hs] at e4
        have HRG := Lib.hid (fun a c W hSx => read_go a (frameL t l1 ++ l2).length c (frameL t l1 ++ l2) hFM t s l1 e1 e2 e4 e3 W hSx)
        have HRS := Lib.hid (fun a c W hSx => read_stop a r c ((frameL t l1).take r) hFT 21 e5 (by decide) W hSx)
        have HWE := Lib.hid (fun W => weight_nat n s (by omega) hs W)
        have HFF := Lib.hid hFM.1
        have HPF : Hid ([frameL t l1, l2].flatten = frameL t l1 ++ l2) := Lib.hid (by simp)
        obtain ⟨X, hX⟩ : ∃ X, frameL t l1 = X := ⟨_, rfl⟩
        rw [hX] at HW HFL HRG HRS HFF HPF
        clear hz e1 e2 e3 e4 e5 hFB hFM hFT hX hs hc2 hr1
        go_enter Try.func11, Try.ntmps11
        go_wp2_with (go_at_call 51; refine (frameAlive_any _).mono ?_; rintro e w1 ⟨rfl, hb1⟩)
        refine (HW.out _ hb1).mono ?_
        rintro e w2 ⟨v2, rfl, hS2, hb2⟩
        have hB2 := step_below hb1 hb2
        obtain ⟨x2, y2, rfl⟩ := hS2.form
        rw [HFL.out] at hS2 ⊢
        have hcap := hS2.capb
        have HX := Lib.hid hS2
        have HT2 := Lib.hid ((HT.out.below hB2).mono hB2.size)
        have HP := Lib.hid (Parts.two w2 (.slice x2 s y2) (.slice p2 q c2) X l2 22 hS2 HT2.out)
        have HJ := Lib.hid (joinY_any _ 2 2 [X, l2] (by rw [HPF.out]; exact HFF.out) (by simp) _ HP.out)
        rw [HPF.out] at HJ
        clear hb2 hb1 hS2
        show _
        go_wp2_with fail
        refine HJ.out.mono ?_
        rintro e w3 ⟨v3, rfl, hown3, hb3⟩
        have hB3 : Below w2.heap.size w2 w3 := ((Below.refl _ w2).alloc (Nat.le_refl _) _).trans (hb3.mono (by simp))
        have hS3 := Sl.of_owns hown3
        obtain ⟨x3, y3, rfl⟩ := hS3.form
        have HRG3 := Lib.hid (HRG.out x3 y3 w3 hS3)
        have hB03 := step_below hB2 hB3
        have HX3 := Lib.hid (hS_step HX.out hB3)
        obtain ⟨xl, hxl⟩ : ∃ xl, (X ++ l2).length = xl := ⟨_, rfl⟩
        rw [hxl] at HRG3 ⊢
        clear hown3 hb3 hS3 HJ HP HT2 HX hB2 hB3 hxl
        go_wp2_with fail
        refine HRG3.out.mono ?_
        rintro e w4 ⟨v4, rfl, hS4, hb4⟩
        obtain ⟨x4, y4, rfl⟩ := hS4.form
        rw [HN.out] at hS4 ⊢
        obtain ⟨W5, hW5⟩ : ∃ W5, w4.alloc (.cells #[.int .i64 t, .slice x4 n y4] 80) = W5 := ⟨_, rfl⟩
        have z5 : W5.heap.size = w4.heap.size + 1 := by rw [← hW5]; simp
        have k5 : W5.heap[w4.heap.size]? = some (.cells #[.int .i64 t, .slice x4 n y4] 80 (0, 0)) := by rw [← hW5]; exact World.alloc_heap_new _ _
        have b5 : Below w4.heap.size w4 W5 := by rw [← hW5]; exact (Below.refl _ _).alloc (Nat.le_refl _) _
        have hB04 := step_below hB03 hb4
        have hB05 := step_below hB04 b5
        have HS5 := Lib.hid (hS_step hS4 b5)
        have HX5 := Lib.hid (hS_step (hS_step HX3.out hb4) b5)
        have HK5 := Lib.hid k5
        have hrs : r ≤ s := by omega
        have hry : r ≤ y2 := by omega
        have HRS5 := Lib.hid (HRS.out x2 y2 W5 (HX5.out.take hrs))
        have HW5 := Lib.hid hW5
        clear hb4 hS4 HX3 HRG3 b5 k5 hB03 hB04 hW5 HRG HRS
        go_upto_region 9 with fail
        rw [HW5.out]
        clear HW5
        go_wp2_with fail
        refine HRS5.out.mono ?_
        rintro e w6 ⟨v6, rfl, hS6, hb6⟩
        obtain ⟨x6, y6, rfl⟩ := hS6.form
        rw [show ([] : List Nat).length = 0 from rfl]
        obtain ⟨W7, hW7⟩ : ∃ W7, w6.alloc (.cells #[.int .i64 0, .slice x6 0 y6] 80) = W7 := ⟨_, rfl⟩
        have b7 : Below w6.heap.size w6 W7 := by rw [← hW7]; exact (Below.refl _ _).alloc (Nat.le_refl _) _
        have hb57 := step_below hb6 b7
        have hB07 := step_below hB05 hb57
        have k7 := (hb57.block w4.heap.size (by omega)).trans HK5.out
        have HK7 := Lib.hid k7
        have HS7 := Lib.hid (hS_step HS5.out hb57)
        have HSM := Lib.hid (sameY_any _ _ _ _ _ _ l1 l1 W7 B1.1 B1.1 HS7.out ((HS.out.below hB07).mono hB07.size))
        rw [decide_eq_true rfl] at HSM
        have HW7 := Lib.hid hW7
        clear hS6 hb6 k7 HRS5 HS5 b7 hb57 hW7
        go_upto_region 10 with fail
        rw [HW7.out]
        clear HW7
        obtain ⟨f1, f2, f3, f4⟩ := cell2 HK7.out
        go_wp2_with fail
        refine (HWE.out _).mono ?_
        rintro e w7 ⟨rfl, rfl⟩
        go_wp2_with fail
        refine HSM.out.mono ?_
        rintro e w8 ⟨rfl, hb8⟩
        have hB08 := step_below hB07 hb8
        clear hb8 HSM
        go_wp2
        go_ret
        exact ⟨rfl, hB08⟩
      · have HE := Lib.hid (writeL_bad hz)
        rw [HE.out] at HW
        obtain ⟨E, hE⟩ : ∃ E, writeE a0 l1 = E := ⟨_, rfl⟩
        rw [hE] at HW hz
        have hEi : ((E : Int) != 0) = true := by rw [bne_iff_ne]; omega
        clear hE hz HE
        go_enter Try.func11, Try.ntmps11
        go_wp2_with (go_at_call 51; refine (frameAlive_any _).mono ?_; rintro e w1 ⟨rfl, hb1⟩)
        refine (HW.out _ hb1).mono ?_
        rintro e w2 ⟨v2, rfl, hS2, hb2⟩
        have hB2 := step_below hb1 hb2
        obtain ⟨x2, y2, rfl⟩ := hS2.form
        rw [show ([] : List Nat).length = 0 from rfl]
        clear hb2 hb1 hS2
        go_wp2
        go_ret
        exact ⟨rfl, hB2⟩

set_option maxRecDepth 100000 in
theorem lifted (os : Os) (started : os.Started) (H : Type) (enc : TypeId × Value → H) :
    ReturnsInHanded {} Try.checked os 11 .any (Rows.frameBackSpec.pre6 enc Try.prog Try.f11 Rows.frameBackRow.domain false) (Rows.frameBackSpec.post enc Try.prog Try.f11 false true false false) := by
  refine returnsInHanded_of_change (C := Try.checked) own started (by kernel_rfl) Try.func11
    (ChangeSpec.witness6 (enc := enc) (C := Try.checked) false ⟨#[], #[.int .i64 0, .slice none 0 0, .slice none 0 0, .int .i64 0], []⟩ 8 (by kernel_rfl) (by kernel_rfl) (by kernel_rfl) (by kernel_rfl)) ?_
  intro W base args ds gs before hval0 hW hcnd _
  have hval : ∀ (j : Nat) t v, Try.f11.params[j]? = some t → args[j]? = some v → Value.okWide Try.prog W .any base t v := hval0
  have hW' := hW
  obtain ⟨p, q, hA0, hV, rfl, hfz, hnd⟩ := hW
  have hA : DataW.TrodAll enc Try.prog W 0 (fun _ => true) true Try.f11.params.toList args.toList ds p := hA0
  rw [Try.params11] at hA hval
  have hAk := hA
  obtain ⟨v0, vs0, d0, ds0, p0', q0, hargs, rfl, rfl, h0, r0⟩ := trodAll_cons hA
  obtain ⟨v1, vs1, d1, ds1, p1', q1, rfl, rfl, rfl, h1, r1⟩ := trodAll_cons r0
  obtain ⟨v2, vs2, d2, ds2, p2', q2, rfl, rfl, rfl, h2, r2⟩ := trodAll_cons r1
  obtain ⟨v3, vs3, d3, ds3, p3', q3, rfl, rfl, rfl, h3, r3⟩ := trodAll_cons r2
  obtain ⟨rfl, rfl, rfl⟩ := trodAll_nil r3
  obtain rfl : args = #[v0, v1, v2, v3] := by cases args; simp_all
  obtain ⟨rfl, rfl⟩ := trodVars_none hV
  simp only [List.append_nil] at hW' hAk
  have hlt := fun x hx => hW'.lt x hx
  clear hA0 hval0
  obtain ⟨a0, rfl, rfl, rfl, w0⟩ := open_int Try.underlying3 (hval 0 3 v0 rfl rfl) h0
  obtain ⟨p1, n1, c1, l1, rfl, S1, b1⟩ := open_bytes (okWide_slice Try.underlying22 (hval 1 22 v1 rfl rfl)) h1
  obtain ⟨p2, n2, c2, l2, rfl, S2, b2⟩ := open_bytes (okWide_slice Try.underlying22 (hval 2 22 v2 rfl rfl)) h2
  obtain ⟨a3, rfl, rfl, rfl, w3⟩ := open_int Try.underlying3 (hval 3 3 v3 rfl rfl) h3
  refine (walk W a0 w0 p1 n1 c1 l1 S1 b1 p2 n2 c2 l2 S2 b2 a3 w3).mono fun e W' ⟨he, hg⟩ => ?_
  subst he
  have hargs := trodAll_below hg _ _ _ _ (by intro t ht; simp only [List.mem_cons, List.not_mem_nil, or_false] at ht; revert t; rintro t (rfl | rfl | rfl | rfl) <;> exact ⟨by kernel_rfl, of_decide_eq_true (by kernel_rfl)⟩) hAk (fun x hx => by simpa using hlt x hx)
  exact ⟨_, rfl, _, _, _, [], _, [], hW', (trodAll_cons_mk (shut_bool Try.underlying4 _) trodAll_mk0), hargs, rfl, hg.frame _, fun h => by cases h⟩

theorem over : Rows.frameBackRow.holds Try.pinned (OpenSpec.ofChange Rows.frameBackSpec) :=
  OpenClaim.holds_of_wide 11 Try.f11 rfl rfl rfl rfl rfl rfl rfl ⟨rfl, rfl, rfl, rfl, rfl⟩ rfl rfl rfl rfl rfl (by kernel_rfl) Try.func11 (by kernel_rfl)
    (of_decide_eq_true (by kernel_rfl)) (by unfold Func.isWrapper; first | (rw [if_pos (by decide +kernel)]; kernel_rfl) | (rw [if_neg (by decide +kernel)]; exact ⟨rfl, rfl⟩))
    (fun os started H enc _ => lifted os started H enc)

theorem proved : Rows.FrameBackSaid :=
  over
end Go.Proofs.Ytfhigngfohfclaa.frameBack
