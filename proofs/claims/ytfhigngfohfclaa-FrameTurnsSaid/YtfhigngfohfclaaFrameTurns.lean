/- For whatever kind, body, place and mask law FrameTurns answers true: with bits turned within a run of 32 a frame's bytes are not read as a frame of as many bytes. No condition. -/
import Derived.Test.YtfhigngfohfclaaFrameLaws
import Derived.Test.YtfhigngfohfclaaRefQ
import Derived.Test.YtfhigngfohfclaaSumTurnW
namespace Go.Proofs.Ytfhigngfohfclaa.frameTurns
open Go.ChangeShapes Go.WideShapes Go.ChangeAt Go.RowKit Go.Proofs.Ytfhigngfohfclaa Go.Proofs.Ytfhigngfohfclaa.SumM
set_option linter.unusedVariables false

set_option maxRecDepth 100000 in
set_option maxHeartbeats 2000000 in
theorem walk (w : World) (a0 : Int) (w0 : (Lit.int .i64 a0).wf = true) (p1 : Option Addr) (n1 c1 : Nat) (l1 : List Nat) (S1 : Sl encY w.heap.size w (.slice p1 n1 c1) l1) (b1 : ∀ x ∈ l1, x < 256) (a2 : Int) (w2 : (Lit.int .i64 a2).wf = true) (a3 : Int) (w3 : (Lit.int .u32 a3).wf = true) :
    Calls Try.prog 12 #[.int .i64 a0, .slice p1 n1 c1, .int .i64 a2, .int .u32 a3] w fun e w' => e = .returned (.bool true) ∧ Below w.heap.size w w' := by
  obtain rfl := S1.len
  obtain ⟨m, rfl, hm⟩ : ∃ m : Nat, a3 = (m : Int) ∧ m < 4294967296 := ⟨a3.toNat, by have := bounds_u32 w3; omega, by have := bounds_u32 w3; omega⟩
  have HS := Lib.hid S1
  have H1 := Lib.hid b1
  clear S1 b1 w0 w2 w3
  obtain ⟨n, hn⟩ : ∃ n, l1.length = n := ⟨_, rfl⟩
  have HN := Lib.hid hn
  rw [hn] at HS ⊢
  clear hn
  by_cases g0 : (n : Int) > 500
  · go_enter Try.func12, Try.ntmps12
    go_wp2_with (go_at_call 51; refine (frameAlive_any _).mono ?_; rintro e w1 ⟨rfl, hb1⟩)
    go_ret
    exact ⟨rfl, hb1⟩
  · have B1 : Bytes l1 := ⟨by rw [HN.out]; omega, H1.out⟩
    have HW := Lib.hid (fun (W : World) (hb : Below w.heap.size w W) => write_any a0 _ _ _ l1 B1 W ((HS.out.below hb).mono hb.size))
    by_cases hz : writeE a0 l1 = 0
    · obtain ⟨k1, k2, k3⟩ := writeE_zero hz
      obtain ⟨t, rfl⟩ : ∃ t : Nat, a0 = (t : Int) := ⟨a0.toNat, by omega⟩
      rw [writeL_zero hz, Int.toNat_natCast, hz] at HW
      obtain ⟨c', hc1, hc2⟩ := and8191 a2
      obtain ⟨s, hs⟩ : ∃ s, n + 7 = s := ⟨_, rfl⟩
      obtain ⟨d, hd⟩ : ∃ d, n + 3 = d := ⟨_, rfl⟩
      obtain ⟨r, hr1, hr2⟩ : ∃ r : Nat, (c' : Int) % (8 * (d : Int)) = (r : Int) ∧ r < 8 * d := ⟨c' % (8 * d), by push_cast; rfl, Nat.mod_lt _ (by omega)⟩
      have htm : (c' : Int).tmod (8 * (d : Int)) = (r : Int) := by rw [Int.tmod_eq_emod_of_nonneg (by omega)]; exact hr1
      have hdz : ((8 * (d : Int)) == 0) = false := beq_eq_false_iff_ne.2 (by omega)
      have hsd : (s : Int) - 4 = (d : Int) := by omega
      have HFL : Hid ((frameL t l1).length = s) := Lib.hid (by rw [frame_len, HN.out, hs])
      have hFB : Bytes (frameL t l1) := ⟨by rw [frame_len, HN.out]; omega, frame_bytes (by omega) (by have := HN.out; omega) H1.out⟩
      have HT := Lib.hid (fun a c W hSx => refTurn_any a s c (frameL t l1) hFB (by intro e; have := HFL.out; rw [e] at this; simp at this; omega) r m (by rw [HFL.out]; omega) hm W hSx)
      have HTL : Hid ((turnL (frameL t l1) (m * 2 ^ r)).length = s) := Lib.hid (by rw [turnL_len, HFL.out])
      have hTB : Bytes (turnL (frameL t l1) (m * 2 ^ r)) := ⟨by rw [HTL.out]; omega, turnL_lt _ _ hFB.2⟩
      have HFT := Lib.hid (fun h => frame_turn t l1 (by omega) (by omega) (by have := HN.out; omega) H1.out r m (by rw [HN.out]; omega) hm h)
      rw [HN.out, hd, hs] at HFT
      obtain ⟨X, hX⟩ : ∃ X, frameL t l1 = X := ⟨_, rfl⟩
      rw [hX] at HW HFL HT HTL hTB HFT hFB
      obtain ⟨T, hT⟩ : ∃ T, turnL X (m * 2 ^ r) = T := ⟨_, rfl⟩
      rw [hT] at HT HTL hTB HFT
      have HTB := Lib.hid hTB
      have HXB := Lib.hid hFB
      have hds : d ≤ s := by omega
      have hds2 : d < s := by omega
      clear hz hFB hX hs hc2 hr1 hT hTB
      have HB1 := Lib.hid B1
      clear B1
      have hdi : (0 : Int) ≤ d := by omega
      have hdsi : (d : Int) ≤ s := by omega
      by_cases hsm : T.drop d = X.drop d
      · have hfin := HFT.out hsm
        obtain ⟨E, hE⟩ : ∃ E, readE T = E := ⟨_, rfl⟩
        obtain ⟨K, hK⟩ : ∃ K, readK T = K := ⟨_, rfl⟩
        obtain ⟨Z, hZ⟩ : ∃ Z, readN T = Z := ⟨_, rfl⟩
        have HR := Lib.hid (fun a c W hSx => read_any a T.length c T HTB.out W hSx)
        unfold ReadTo at HR
        rw [hE, hK, hZ] at HR
        rw [hE, hZ] at hfin
        rw [HTL.out] at HR
        have HFI := Lib.hid hfin
        clear hfin hE hK hZ
        go_enter Try.func12, Try.ntmps12
        go_wp2_with (go_at_call 51; refine (frameAlive_any _).mono ?_; rintro e w1 ⟨rfl, hb1⟩)
        refine (HW.out _ hb1).mono ?_
        rintro e w2 ⟨v2, rfl, hS2, hb2⟩
        have hB2 := step_below hb1 hb2
        obtain ⟨x2, y2, rfl⟩ := hS2.form
        rw [HFL.out] at hS2 ⊢
        have HX := Lib.hid hS2
        clear hb2 hb1 hS2
        show _
        go_wp2_with fail
        refine (HT.out _ _ _ HX.out).mono ?_
        rintro e w3 ⟨v3, rfl, hown3, hb3⟩
        rw [HFL.out] at hown3
        have hS3 : Sl encY w3.heap.size w3 v3 T := Sl.of_owns (by rw [HTL.out]; exact hown3)
        have hB3 := step_below hB2 hb3
        have hX3 := hS_step HX.out hb3
        obtain ⟨x3, y3, rfl⟩ := hS3.form
        rw [HTL.out] at hS3 ⊢
        obtain ⟨g2, o2, rfl⟩ : ∃ g o, x2 = some ⟨g, o, none⟩ := by
          rcases hX3 with ⟨e0, _⟩ | ⟨b, off, cap, e, _⟩
          · have := HFL.out; rw [e0] at this; simp at this; omega
          · cases e; exact ⟨_, _, rfl⟩
        obtain ⟨g3, o3, rfl⟩ : ∃ g o, x3 = some ⟨g, o, none⟩ := by
          rcases hS3 with ⟨e0, _⟩ | ⟨b, off, cap, e, _⟩
          · have := HTL.out; rw [e0] at this; simp at this; omega
          · cases e; exact ⟨_, _, rfl⟩
        have hc2 := hX3.capb
        have hc3 := hS3.capb
        have hd2 := hX3.drop hds2
        have hd3 := hS3.drop hds2
        have hlX : (X.drop d).length ≤ 1048576 := by rw [List.length_drop]; have := HXB.out.1; omega
        have hlT : (T.drop d).length ≤ 1048576 := by rw [List.length_drop]; have := HTB.out.1; omega
        have hsq : ∀ k, Calls Try.prog 27 #[.slice (some ⟨g3, o3 + d, none⟩) (s - d) (y3 - d), .slice (some ⟨g2, o2 + d, none⟩) (s - d) (y2 - d)] (w3.drewN k) fun e w' => e = .returned (.bool (decide (T.drop d = X.drop d))) ∧ ∃ q, w' = (w3.drewN k).drewN q := fun k => sameQ_any _ _ _ _ _ _ (T.drop d) (X.drop d) (w3.drewN k) hlT hlX hd3 hd2
        rw [decide_eq_true hsm] at hsq
        have HSQ := Lib.hid hsq
        have hdc2 : d < y2 := by omega
        have hdc3 : d < y3 := by omega
        have HX3 := Lib.hid hX3
        have HS3 := Lib.hid hS3
        clear hown3 hb3 hX3 hS3 hd2 hd3 hlX hlT hsq HT HX hB2
        go_wp2
        go_quiet ((go_at_call 27; exact Calls.quiet_of (HSQ.out _)))
        have HR3 := Lib.hid (HR.out (some ⟨g3, o3, none⟩) y3 (w3.drewN nq) HS3.out)
        have hB3q : Below w.heap.size w (w3.drewN nq) := Below.drewN_r hB3 nq
        go_wp2_with fail
        refine HR3.out.mono ?_
        rintro e w4 ⟨v4, rfl, hS4, hb4⟩
        obtain ⟨x4, y4, rfl⟩ := hS4.form
        obtain ⟨l4, hl4⟩ : ∃ l4, (readB T).length = l4 := ⟨_, rfl⟩
        rw [hl4]
        obtain ⟨W5, hW5⟩ : ∃ W5, w4.alloc (.cells #[.int .i64 K, .slice x4 l4 y4] 80) = W5 := ⟨_, rfl⟩
        have b5 : Below w4.heap.size w4 W5 := by rw [← hW5]; exact (Below.refl _ _).alloc (Nat.le_refl _) _
        have hb45 := step_below hb4 b5
        have hB5 := step_below hB3q hb45
        have HSM := Lib.hid (sameY_any _ _ _ _ _ _ T X W5 HTB.out.1 HXB.out.1 (hS_step (W := w3.drewN nq) HS3.out hb45) (hS_step (W := w3.drewN nq) HX3.out hb45))
        have HW5 := Lib.hid hW5
        clear hS4 hl4 hb4 b5 hb45 hW5 hB3q HR3
        go_upto_region 12 with fail
        rw [HW5.out]
        clear HW5
        by_cases hE : E = 0
        · have hEi : ((E : Int) == 0) = true := by rw [hE]; rfl
          by_cases hZ : Z = s
          · have hZi : ((Z : Int) == (s : Int)) = true := by rw [hZ]; simp
            rw [decide_eq_true (HFI.out.1 ⟨hE, hZ⟩)] at HSM
            clear hE hZ
            go_wp2_with (go_at_call 27; refine HSM.out.mono ?_; rintro e w6 ⟨rfl, hb6⟩)
            go_ret
            exact ⟨rfl, step_below hB5 hb6⟩
          · have hZi : ((Z : Int) == (s : Int)) = false := beq_eq_false_iff_ne.2 (by omega)
            rw [decide_eq_false (fun h => hZ (HFI.out.2 h).2)] at HSM
            clear hE hZ
            go_wp2_with (go_at_call 27; refine HSM.out.mono ?_; rintro e w6 ⟨rfl, hb6⟩)
            go_ret
            exact ⟨rfl, step_below hB5 hb6⟩
        · have hEi : ((E : Int) == 0) = false := beq_eq_false_iff_ne.2 (by omega)
          rw [decide_eq_false (fun h => hE (HFI.out.2 h).1)] at HSM
          clear hE
          go_wp2_with (go_at_call 27; refine HSM.out.mono ?_; rintro e w6 ⟨rfl, hb6⟩)
          go_ret
          exact ⟨rfl, step_below hB5 hb6⟩
      · go_enter Try.func12, Try.ntmps12
        go_wp2_with (go_at_call 51; refine (frameAlive_any _).mono ?_; rintro e w1 ⟨rfl, hb1⟩)
        refine (HW.out _ hb1).mono ?_
        rintro e w2 ⟨v2, rfl, hS2, hb2⟩
        have hB2 := step_below hb1 hb2
        obtain ⟨x2, y2, rfl⟩ := hS2.form
        rw [HFL.out] at hS2 ⊢
        have HX := Lib.hid hS2
        clear hb2 hb1 hS2
        show _
        go_wp2_with fail
        refine (HT.out _ _ _ HX.out).mono ?_
        rintro e w3 ⟨v3, rfl, hown3, hb3⟩
        rw [HFL.out] at hown3
        have hS3 : Sl encY w3.heap.size w3 v3 T := Sl.of_owns (by rw [HTL.out]; exact hown3)
        have hB3 := step_below hB2 hb3
        have hX3 := hS_step HX.out hb3
        obtain ⟨x3, y3, rfl⟩ := hS3.form
        rw [HTL.out] at hS3 ⊢
        obtain ⟨g2, o2, rfl⟩ : ∃ g o, x2 = some ⟨g, o, none⟩ := by
          rcases hX3 with ⟨e0, _⟩ | ⟨b, off, cap, e, _⟩
          · have := HFL.out; rw [e0] at this; simp at this; omega
          · cases e; exact ⟨_, _, rfl⟩
        obtain ⟨g3, o3, rfl⟩ : ∃ g o, x3 = some ⟨g, o, none⟩ := by
          rcases hS3 with ⟨e0, _⟩ | ⟨b, off, cap, e, _⟩
          · have := HTL.out; rw [e0] at this; simp at this; omega
          · cases e; exact ⟨_, _, rfl⟩
        have hc2 := hX3.capb
        have hc3 := hS3.capb
        have hd2 := hX3.drop hds2
        have hd3 := hS3.drop hds2
        have hlX : (X.drop d).length ≤ 1048576 := by rw [List.length_drop]; have := HXB.out.1; omega
        have hlT : (T.drop d).length ≤ 1048576 := by rw [List.length_drop]; have := HTB.out.1; omega
        have hsq : ∀ k, Calls Try.prog 27 #[.slice (some ⟨g3, o3 + d, none⟩) (s - d) (y3 - d), .slice (some ⟨g2, o2 + d, none⟩) (s - d) (y2 - d)] (w3.drewN k) fun e w' => e = .returned (.bool (decide (T.drop d = X.drop d))) ∧ ∃ q, w' = (w3.drewN k).drewN q := fun k => sameQ_any _ _ _ _ _ _ (T.drop d) (X.drop d) (w3.drewN k) hlT hlX hd3 hd2
        rw [decide_eq_false hsm] at hsq
        have HSQ := Lib.hid hsq
        have hdc2 : d < y2 := by omega
        have hdc3 : d < y3 := by omega
        have HX3 := Lib.hid hX3
        have HS3 := Lib.hid hS3
        clear hown3 hb3 hX3 hS3 hd2 hd3 hlX hlT hsq HT HX hB2
        go_wp2
        go_quiet ((go_at_call 27; exact Calls.quiet_of (HSQ.out _)))
        have hB3q : Below w.heap.size w (w3.drewN nq) := Below.drewN_r hB3 nq
        go_wp2
        go_ret
        exact ⟨rfl, hB3q⟩
    · have HE := Lib.hid (writeL_bad hz)
      rw [HE.out] at HW
      obtain ⟨E, hE⟩ : ∃ E, writeE a0 l1 = E := ⟨_, rfl⟩
      rw [hE] at HW hz
      have hEi : ((E : Int) != 0) = true := by rw [bne_iff_ne]; omega
      clear hE hz HE
      go_enter Try.func12, Try.ntmps12
      go_wp2_with (go_at_call 51; refine (frameAlive_any _).mono ?_; rintro e w1 ⟨rfl, hb1⟩)
      refine (HW.out _ hb1).mono ?_
      rintro e w2 ⟨v2, rfl, hS2, hb2⟩
      have hB2 := step_below hb1 hb2
      obtain ⟨x2, y2, rfl⟩ := hS2.form
      rw [show ([] : List Nat).length = 0 from rfl]
      clear hb2 hb1 hS2
      go_wp2
      go_ret
      exact ⟨rfl, hB2⟩

set_option maxRecDepth 100000 in
theorem lifted (os : Os) (started : os.Started) (H : Type) (enc : TypeId × Value → H) :
    ReturnsInHanded {} Try.checked os 12 .any (Rows.frameTurnsSpec.pre6 enc Try.prog Try.f12 Rows.frameTurnsRow.domain false) (Rows.frameTurnsSpec.post enc Try.prog Try.f12 false true false false) := by
  refine returnsInHanded_of_change (C := Try.checked) own started (by kernel_rfl) Try.func12
    (ChangeSpec.witness6 (enc := enc) (C := Try.checked) false ⟨#[], #[.int .i64 0, .slice none 0 0, .int .i64 0, .int .u32 0], []⟩ 8 (by kernel_rfl) (by kernel_rfl) (by kernel_rfl) (by kernel_rfl)) ?_
  intro W base args ds gs before hval0 hW hcnd _
  have hval : ∀ (j : Nat) t v, Try.f12.params[j]? = some t → args[j]? = some v → Value.okWide Try.prog W .any base t v := hval0
  have hW' := hW
  obtain ⟨p, q, hA0, hV, rfl, hfz, hnd⟩ := hW
  have hA : DataW.TrodAll enc Try.prog W 0 (fun _ => true) true Try.f12.params.toList args.toList ds p := hA0
  rw [Try.params12] at hA hval
  have hAk := hA
  obtain ⟨v0, vs0, d0, ds0, p0', q0, hargs, rfl, rfl, h0, r0⟩ := trodAll_cons hA
  obtain ⟨v1, vs1, d1, ds1, p1', q1, rfl, rfl, rfl, h1, r1⟩ := trodAll_cons r0
  obtain ⟨v2, vs2, d2, ds2, p2', q2, rfl, rfl, rfl, h2, r2⟩ := trodAll_cons r1
  obtain ⟨v3, vs3, d3, ds3, p3', q3, rfl, rfl, rfl, h3, r3⟩ := trodAll_cons r2
  obtain ⟨rfl, rfl, rfl⟩ := trodAll_nil r3
  obtain rfl : args = #[v0, v1, v2, v3] := by cases args; simp_all
  obtain ⟨rfl, rfl⟩ := trodVars_none hV
  simp only [List.append_nil] at hW' hAk
  have hlt := fun x hx => hW'.lt x hx
  clear hA0 hval0
  obtain ⟨a0, rfl, rfl, rfl, w0⟩ := open_int Try.underlying3 (hval 0 3 v0 rfl rfl) h0
  obtain ⟨p1, n1, c1, l1, rfl, S1, b1⟩ := open_bytes (okWide_slice Try.underlying22 (hval 1 22 v1 rfl rfl)) h1
  obtain ⟨a2, rfl, rfl, rfl, w2⟩ := open_int Try.underlying3 (hval 2 3 v2 rfl rfl) h2
  obtain ⟨a3, rfl, rfl, rfl, w3⟩ := open_int Try.underlying24 (hval 3 24 v3 rfl rfl) h3
  refine (walk W a0 w0 p1 n1 c1 l1 S1 b1 a2 w2 a3 w3).mono fun e W' ⟨he, hg⟩ => ?_
  subst he
  have hargs := trodAll_below hg _ _ _ _ (by intro t ht; simp only [List.mem_cons, List.not_mem_nil, or_false] at ht; revert t; rintro t (rfl | rfl | rfl | rfl) <;> exact ⟨by kernel_rfl, of_decide_eq_true (by kernel_rfl)⟩) hAk (fun x hx => by simpa using hlt x hx)
  exact ⟨_, rfl, _, _, _, [], _, [], hW', (trodAll_cons_mk (shut_bool Try.underlying4 _) trodAll_mk0), hargs, rfl, hg.frame _, fun h => by cases h⟩

theorem over : Rows.frameTurnsRow.holds Try.pinned (OpenSpec.ofChange Rows.frameTurnsSpec) :=
  OpenClaim.holds_of_wide 12 Try.f12 rfl rfl rfl rfl rfl rfl rfl ⟨rfl, rfl, rfl, rfl, rfl⟩ rfl rfl rfl rfl rfl (by kernel_rfl) Try.func12 (by kernel_rfl)
    (of_decide_eq_true (by kernel_rfl)) (by unfold Func.isWrapper; first | (rw [if_pos (by decide +kernel)]; kernel_rfl) | (rw [if_neg (by decide +kernel)]; exact ⟨rfl, rfl⟩))
    (fun os started H enc _ => lifted os started H enc)

theorem proved : Rows.FrameTurnsSaid :=
  over
end Go.Proofs.Ytfhigngfohfclaa.frameTurns
