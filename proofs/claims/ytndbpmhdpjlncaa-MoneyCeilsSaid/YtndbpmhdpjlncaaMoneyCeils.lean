/- For every two numbers law MoneyCeils answers true: so many times b, reckoned up or down, is next to a. No condition. -/
import Derived.Test.YtndbpmhdpjlncaaAlive
import Derived.Test.YtndbpmhdpjlncaaRows
import Derived.WalkKit
import Derived.ProofKit
import Derived.OpenShut
namespace Go.Proofs.Ytndbpmhdpjlncaa.moneyCeils
open Go.ChangeShapes Go.WideShapes Go.ChangeAt Go.RowKit
set_option linter.unusedVariables false      -- a walk need not use every 'w<i>' (that an integer argument fits its kind)

theorem own : ownKnob Try.prog.godebug = none := by kernel_rfl


theorem clamp_v (n v : Int) (w : World) (h : Hid (clampV n = v)) :
    Calls Try.prog 19 #[.int .i64 n] w fun e w' => e = .returned (.int .i64 v) ∧ w = w' := by
  have := clamp_any n w
  rw [h.out] at this
  exact this
theorem ceil_v (a b v : Int) (w : World) (ha1 : -9223372036854775808 ≤ a) (ha2 : a ≤ 9223372036854775807) (hb1 : -9223372036854775808 ≤ b) (hb2 : b ≤ 9223372036854775807) (h : Hid (ceilV a b = v)) :
    Calls Try.prog 13 #[.int .i64 a, .int .i64 b] w fun e w' => e = .returned (.int .i64 v) ∧ w = w' := by
  have := ceil_any a b w ha1 ha2 hb1 hb2
  rw [h.out] at this
  exact this
theorem floor_v (a b v : Int) (w : World) (ha1 : -9223372036854775808 ≤ a) (ha2 : a ≤ 9223372036854775807) (hb1 : -9223372036854775808 ≤ b) (hb2 : b ≤ 9223372036854775807) (h : Hid (floorV a b = v)) :
    Calls Try.prog 15 #[.int .i64 a, .int .i64 b] w fun e w' => e = .returned (.int .i64 v) ∧ w = w' := by
  have := floor_any a b w ha1 ha2 hb1 hb2
  rw [h.out] at this
  exact this

/-- What there is to know of the two answers. -/
theorem ceils_facts {A B : Int} (h1 : 0 ≤ A) (h2 : 1 ≤ B) (h3 : A ≤ 1099511627776) (h4 : B ≤ 1099511627776) : ∃ c f : Int, ceilV A B = c ∧ floorV A B = f ∧
    0 ≤ c ∧ c ≤ 1099511627776 ∧ 0 ≤ f ∧ f ≤ 1099511627776 ∧ A ≤ c * B ∧ c * B ≤ 9000000000000 ∧ (c ≠ 0 → (c - 1) * B < A ∧ 0 ≤ (c - 1) * B) ∧ f * B ≤ A ∧ 0 ≤ f * B ∧ A < (f + 1) * B ∧ (f + 1) * B ≤ 9000000000000 ∧ c - f ≤ 1 := by
  have hf := floor_yy h1 h2
  obtain ⟨q0, q1⟩ := div_bd h1 h2
  obtain ⟨m0, m1⟩ := mul_div_le h1 h2
  have hd := Int.mul_ediv_add_emod A B
  have hm : 0 ≤ A % B := Int.emod_nonneg _ (by omega)
  have hmlt : A % B < B := Int.emod_lt_of_pos _ (by omega)
  have hc := Int.mul_comm B (A / B)
  have hs : (A / B + 1) * B = A / B * B + B := by rw [Int.add_mul]; omega
  by_cases h5 : A % B = 0
  · have hv := ceil_y0 h1 h2 h5
    refine ⟨A / B, A / B, hv, hf, q0, by omega, q0, by omega, by omega, by omega, fun hne => ?_, m1, m0, by omega, by omega, by omega⟩
    have e : (A / B - 1) * B = A / B * B - B := by rw [Int.sub_mul]; omega
    have : 0 ≤ (A / B - 1) * B := Int.mul_nonneg (by omega) (by omega)
    exact ⟨by omega, this⟩
  · have hv := ceil_y1 h1 h2 h5
    have hb1 := div_bd1 h1 h2 h5
    refine ⟨A / B + 1, A / B, hv, hf, by omega, by omega, q0, by omega, by omega, by omega, fun hne => ?_, m1, m0, by omega, by omega, by omega⟩
    have e : (A / B + 1 - 1) * B = A / B * B := by rw [show A / B + 1 - 1 = A / B from by omega]
    exact ⟨by omega, by omega⟩

set_option maxRecDepth 100000 in
set_option maxHeartbeats 1000000 in
theorem walk (a0 : Int) (a1 : Int) (w0 : (Lit.int .i64 a0).wf = true) (w1 : (Lit.int .i64 a1).wf = true) (w : World) :
    Calls Try.prog 4 #[.int .i64 a0, .int .i64 a1] w fun e w' => e = .returned (.bool true) ∧ Below w.heap.size w w' := by
  have hA := clamp_bd a0
  have hB := clamp_bd a1
  obtain ⟨A, HA⟩ : ∃ A, Hid (clampV a0 = A) := ⟨_, Lib.hid rfl⟩
  obtain ⟨C, HC⟩ : ∃ C, Hid (clampV a1 = C) := ⟨_, Lib.hid rfl⟩
  rw [HA.out] at hA
  rw [HC.out] at hB
  obtain ⟨hA1, hA2⟩ := hA
  obtain ⟨hB1, hB2⟩ := hB
  have hca : ∀ w, Calls Try.prog 19 #[.int .i64 a0] w fun e w' => e = .returned (.int .i64 A) ∧ w = w' := fun w => clamp_v a0 A w HA
  have hcb : ∀ w, Calls Try.prog 19 #[.int .i64 a1] w fun e w' => e = .returned (.int .i64 C) ∧ w = w' := fun w => clamp_v a1 C w HC
  have Hca := Lib.hid hca; clear hca
  have Hcb := Lib.hid hcb; clear hcb
  by_cases hone : 1 ≤ C
  · obtain ⟨c, f, hc, hf, k1, k2, k3, k4, k5, k6, k7, k8, k9, k10, k11, k12⟩ := ceils_facts hA1 hone hA2 hB2
    have Hc := Lib.hid hc; clear hc
    have Hf := Lib.hid hf; clear hf
    by_cases h0 : c = 0
    · clear k7
      have h0' : (c == 0) = true := by rw [beq_iff_eq]; exact h0
      clear h0
      go_enter Try.func4, Try.ntmps4
      go_wp2_with fail
      refine (alive_any _).mono ?_; rintro e w1 ⟨rfl, hb⟩
      go_wp2_with fail
      refine (Hca.out _).mono ?_; rintro e w' ⟨rfl, rfl⟩
      go_wp2_with fail
      refine (Hcb.out _).mono ?_; rintro e w' ⟨rfl, rfl⟩
      go_wp2_with (first | (go_at_call 13; refine (ceil_v _ _ c _ (by omega) (by omega) (by omega) (by omega) Hc).mono ?_; rintro e w' ⟨rfl, rfl⟩) | (go_at_call 15; refine (floor_v _ _ f _ (by omega) (by omega) (by omega) (by omega) Hf).mono ?_; rintro e w' ⟨rfl, rfl⟩))
      go_ret
      exact ⟨rfl, hb⟩
    · obtain ⟨k13, k14⟩ := k7 h0
      clear k7
      have h0' : (c == 0) = false := by rw [beq_eq_false_iff_ne]; exact h0
      clear h0
      go_enter Try.func4, Try.ntmps4
      go_wp2_with fail
      refine (alive_any _).mono ?_; rintro e w1 ⟨rfl, hb⟩
      go_wp2_with fail
      refine (Hca.out _).mono ?_; rintro e w' ⟨rfl, rfl⟩
      go_wp2_with fail
      refine (Hcb.out _).mono ?_; rintro e w' ⟨rfl, rfl⟩
      go_wp2_with (first | (go_at_call 13; refine (ceil_v _ _ c _ (by omega) (by omega) (by omega) (by omega) Hc).mono ?_; rintro e w' ⟨rfl, rfl⟩) | (go_at_call 15; refine (floor_v _ _ f _ (by omega) (by omega) (by omega) (by omega) Hf).mono ?_; rintro e w' ⟨rfl, rfl⟩))
      go_ret
      exact ⟨rfl, hb⟩
  · have hC1 : C ≤ 1 := by omega
    have Hc : Hid (ceilV A 1 = A) := Lib.hid (by rw [ceil_y0 hA1 (by omega) (by omega)]; omega)
    have Hf : Hid (floorV A 1 = A) := Lib.hid (by rw [floor_yy hA1 (by omega)]; omega)
    go_enter Try.func4, Try.ntmps4
    go_wp2_with fail
    refine (alive_any _).mono ?_; rintro e w1 ⟨rfl, hb⟩
    go_wp2_with fail
    refine (Hca.out _).mono ?_; rintro e w' ⟨rfl, rfl⟩
    go_wp2_with fail
    refine (Hcb.out _).mono ?_; rintro e w' ⟨rfl, rfl⟩
    go_wp2_with (first | (go_at_call 13; refine (ceil_v _ _ A _ (by omega) (by omega) (by omega) (by omega) Hc).mono ?_; rintro e w' ⟨rfl, rfl⟩) | (go_at_call 15; refine (floor_v _ _ A _ (by omega) (by omega) (by omega) (by omega) Hf).mono ?_; rintro e w' ⟨rfl, rfl⟩))
    all_goals (go_ret; exact ⟨rfl, hb⟩)


set_option maxRecDepth 100000 in
theorem lifted (os : Os) (started : os.Started) (H : Type) (enc : TypeId × Value → H) :
    ReturnsInHanded {} Try.checked os 4 .any (Rows.moneyCeilsSpec.pre6 enc Try.prog Try.f4 Rows.moneyCeilsRow.domain false) (Rows.moneyCeilsSpec.post enc Try.prog Try.f4 false true false false) := by
  refine returnsInHanded_of_change (C := Try.checked) own started (by kernel_rfl) Try.func4
    (ChangeSpec.witness6 (enc := enc) (C := Try.checked) false ⟨#[], #[.int .i64 0, .int .i64 0], []⟩ 8 (by kernel_rfl) (by kernel_rfl) (by kernel_rfl) (by kernel_rfl)) ?_
  intro W base args ds gs before hval0 hW hcnd _
  have hval : ∀ (j : Nat) t v, Try.f4.params[j]? = some t → args[j]? = some v → Value.okWide Try.prog W .any base t v := hval0
  have hW' := hW
  obtain ⟨p, q, hA0, hV, rfl, hfz, hnd⟩ := hW
  have hA : DataW.TrodAll enc Try.prog W 0 (fun _ => true) true Try.f4.params.toList args.toList ds p := hA0
  rw [Try.params4] at hA hval
  obtain ⟨v0, vs0, d0, ds0, p0, q0, hargs, rfl, rfl, h0, r0⟩ := trodAll_cons hA
  obtain ⟨v1, vs1, d1, ds1, p1, q1, rfl, rfl, rfl, h1, r1⟩ := trodAll_cons r0
  obtain ⟨rfl, rfl, rfl⟩ := trodAll_nil r1
  obtain rfl : args = #[v0, v1] := by cases args; simp_all
  obtain ⟨rfl, rfl⟩ := trodVars_none hV
  obtain ⟨a0, rfl, rfl, rfl, w0⟩ := open_int Try.underlying2 (hval 0 2 v0 rfl rfl) h0
  obtain ⟨a1, rfl, rfl, rfl, w1⟩ := open_int Try.underlying2 (hval 1 2 v1 rfl rfl) h1
  clear hA0 hval0
  simp only [List.append_nil] at hW'
  refine (walk a0 a1 w0 w1 W).mono fun e W' ⟨he, hg⟩ => ?_
  subst he
  exact ⟨_, rfl, _, _, _, [], [], [], hW', (trodAll_cons_mk (shut_bool Try.underlying4 _) trodAll_mk0), (trodAll_cons_mk (shut_int Try.underlying2 w0) (trodAll_cons_mk (shut_int Try.underlying2 w1) trodAll_mk0)), rfl, hg.frame _, fun h => by cases h⟩

theorem over : Rows.moneyCeilsRow.holds Try.pinned (OpenSpec.ofChange Rows.moneyCeilsSpec) :=
  OpenClaim.holds_of_wide 4 Try.f4 rfl rfl rfl rfl rfl rfl rfl ⟨rfl, rfl, rfl, rfl, rfl⟩ rfl rfl rfl rfl rfl (by kernel_rfl) Try.func4 (by kernel_rfl)
    (of_decide_eq_true (by kernel_rfl)) (by unfold Func.isWrapper; first | (rw [if_pos (by decide +kernel)]; kernel_rfl) | (rw [if_neg (by decide +kernel)]; exact ⟨rfl, rfl⟩))
    (fun os started H enc _ => lifted os started H enc)

theorem proved : Rows.MoneyCeilsSaid :=
  over
end Go.Proofs.Ytndbpmhdpjlncaa.moneyCeils
