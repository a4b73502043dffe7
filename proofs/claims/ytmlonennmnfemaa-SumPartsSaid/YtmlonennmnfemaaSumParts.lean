/- For every two rows of bytes law SumParts answers true: the sum of one extended by the other is that of both. No condition. -/
import Derived.Test.YtmlonennmnfemaaSumLaws
namespace Go.Proofs.Ytmlonennmnfemaa.sumParts
open Go.ChangeShapes Go.WideShapes Go.ChangeAt Go.RowKit Go.Proofs.Ytmlonennmnfemaa Go.Proofs.Ytmlonennmnfemaa.SumM
set_option linter.unusedVariables false

set_option maxRecDepth 100000 in
set_option maxHeartbeats 2000000 in
theorem walk (w : World) (p0 : Option Addr) (n0 c0 : Nat) (l0 : List Nat) (S0 : Sl encY w.heap.size w (.slice p0 n0 c0) l0) (b0 : ∀ x ∈ l0, x < 256) (p1 : Option Addr) (n1 c1 : Nat) (l1 : List Nat) (S1 : Sl encY w.heap.size w (.slice p1 n1 c1) l1) (b1 : ∀ x ∈ l1, x < 256) :
    Calls Try.prog 4 #[.slice p0 n0 c0, .slice p1 n1 c1] w fun e w' => e = .returned (.bool true) ∧ Below w.heap.size w w' := by
  obtain rfl := S0.len
  obtain rfl := S1.len
  have HS0 := Lib.hid S0
  have HS1 := Lib.hid S1
  obtain ⟨n, hn⟩ : ∃ n, l0.length = n := ⟨_, rfl⟩
  obtain ⟨m, hm⟩ : ∃ m, l1.length = m := ⟨_, rfl⟩
  have HN := Lib.hid hn
  have HM := Lib.hid hm
  rw [hn] at HS0 ⊢
  rw [hm] at HS1 ⊢
  clear S0 S1 hn hm
  have H0 := Lib.hid b0
  have H1 := Lib.hid b1
  clear b0 b1
  by_cases g0 : (n : Int) > 2000
  · go_enter Try.func4, Try.ntmps4
    go_wp2_with (go_at_call 10; refine (sumAlive_any _).mono ?_; rintro e w1 ⟨rfl, hb1⟩)
    go_ret
    exact ⟨rfl, hb1⟩
  · by_cases g1 : (m : Int) > 2000
    · go_enter Try.func4, Try.ntmps4
      go_wp2_with (go_at_call 10; refine (sumAlive_any _).mono ?_; rintro e w1 ⟨rfl, hb1⟩)
      go_ret
      exact ⟨rfl, hb1⟩
    · have B0 : Bytes l0 := ⟨by rw [HN.out]; omega, H0.out⟩
      have B1 : Bytes l1 := ⟨by rw [HM.out]; omega, H1.out⟩
      go_enter Try.func4, Try.ntmps4
      go_wp2_with (go_at_call 10; refine (sumAlive_any _).mono ?_; rintro e w1 ⟨rfl, hb1⟩)
      have S1w := (HS0.out.below hb1).mono hb1.size
      refine (seal_any _ _ _ l0 B0 _ S1w).mono ?_
      rintro e w2 ⟨v2, rfl, hown2, hb2⟩
      have hB2 := step_below hb1 hb2
      have hS2 := Sl.of_owns hown2
      obtain ⟨a2, c2, rfl⟩ := hS2.form
      clear hown2 hb2 S1w hb1
      go_wp2_with fail
      refine (open_any _ _ _ _ (seal_Bytes B0 (by rw [HN.out]; omega)) _ hS2).mono ?_
      rintro e w3 ⟨v3, rfl, hS3, hb3⟩
      have hB3 := step_below hB2 hb3
      rw [open_seal l0] at hS3 ⊢
      have hS3' : Sl encY w3.heap.size w3 v3 l0 := hS3
      obtain ⟨a3, c3, rfl⟩ := hS3'.form
      have HS3 := Lib.hid hS3'
      clear hb3 hB2 hS3 hS2 hS3'
      go_wp2_with fail
      refine (of_at _ _ l0 B0 w3 rfl ((HS0.out.below hB3).mono hB3.size)).mono ?_
      rintro e w4 ⟨rfl, hb4⟩
      have hB4 := step_below hB3 hb4
      have HS4 := Lib.hid (hS_step HS3.out hb4)
      clear hb4 hB3 HS3
      go_wp2_with fail
      refine (extend1_any _ (sumL_lt l0) _ _ _ l1 B1 _ ((HS1.out.below hB4).mono hB4.size)).mono ?_
      rintro e w5 ⟨rfl, hb5⟩
      have hB5 := step_below hB4 hb5
      have HS5 := Lib.hid (hS_step HS4.out hb5)
      clear hb5 hB4 HS4
      go_wp2_with fail
      refine (of_two _ _ l0 l1 B0 B1 w5 ((HS0.out.below hB5).mono hB5.size) ((HS1.out.below hB5).mono hB5.size)).mono ?_
      rintro e w6 ⟨rfl, hb6⟩
      rw [sum_two l0 l1 B0.2]
      have hB6 := step_below hB5 hb6
      have HS6 := Lib.hid (hS_step HS5.out hb6)
      clear hb6 hB5 HS5
      go_wp2_with fail
      refine (extend1_any 0 (by decide) _ _ _ l1 B1 _ ((HS1.out.below hB6).mono hB6.size)).mono ?_
      rintro e w7 ⟨rfl, hb7⟩
      have hB7 := step_below hB6 hb7
      have HS7 := Lib.hid (hS_step HS6.out hb7)
      clear hb7 hB6 HS6
      go_wp2_with fail
      refine (of_at _ _ l1 B1 w7 rfl ((HS1.out.below hB7).mono hB7.size)).mono ?_
      rintro e w8 ⟨rfl, hb8⟩
      rw [show sumL l1 = ext 0 l1 from rfl]
      have hB8 := step_below hB7 hb8
      have HS8 := Lib.hid (hS_step HS7.out hb8)
      clear hb8 hB7 HS7
      go_wp2_with fail
      refine (sameY_any _ _ _ _ _ _ l0 l0 w8 B0.1 B0.1 HS8.out ((HS0.out.below hB8).mono hB8.size)).mono ?_
      rintro e w9 ⟨rfl, hb9⟩
      have hB9 := step_below hB8 hb9
      rw [decide_eq_true rfl]
      clear hb9 hB8 HS8
      go_wp2
      go_ret
      exact ⟨rfl, hB9⟩

set_option maxRecDepth 100000 in
theorem lifted (os : Os) (started : os.Started) (H : Type) (enc : TypeId × Value → H) :
    ReturnsInHanded {} Try.checked os 4 .any (Rows.sumPartsSpec.pre6 enc Try.prog Try.f4 Rows.sumPartsRow.domain false) (Rows.sumPartsSpec.post enc Try.prog Try.f4 false true false false) := by
  refine returnsInHanded_of_change (C := Try.checked) own started (by kernel_rfl) Try.func4
    (ChangeSpec.witness6 (enc := enc) (C := Try.checked) false ⟨#[], #[.slice none 0 0, .slice none 0 0], []⟩ 8 (by kernel_rfl) (by kernel_rfl) (by kernel_rfl) (by kernel_rfl)) ?_
  intro W base args ds gs before hval0 hW hcnd _
  have hval : ∀ (j : Nat) t v, Try.f4.params[j]? = some t → args[j]? = some v → Value.okWide Try.prog W .any base t v := hval0
  have hW' := hW
  obtain ⟨p, q, hA0, hV, rfl, hfz, hnd⟩ := hW
  have hA : DataW.TrodAll enc Try.prog W 0 (fun _ => true) true Try.f4.params.toList args.toList ds p := hA0
  rw [Try.params4] at hA hval
  have hAk := hA
  obtain ⟨v0, vs0, d0, ds0, p0', q0, hargs, rfl, rfl, h0, r0⟩ := trodAll_cons hA
  obtain ⟨v1, vs1, d1, ds1, p1', q1, rfl, rfl, rfl, h1, r1⟩ := trodAll_cons r0
  obtain ⟨rfl, rfl, rfl⟩ := trodAll_nil r1
  obtain rfl : args = #[v0, v1] := by cases args; simp_all
  obtain ⟨rfl, rfl⟩ := trodVars_none hV
  simp only [List.append_nil] at hW' hAk
  have hlt := fun x hx => hW'.lt x hx
  clear hA0 hval0
  obtain ⟨p0, n0, c0, l0, rfl, S0, b0⟩ := open_bytes (okWide_slice Try.underlying25 (hval 0 25 v0 rfl rfl)) h0
  obtain ⟨p1, n1, c1, l1, rfl, S1, b1⟩ := open_bytes (okWide_slice Try.underlying25 (hval 1 25 v1 rfl rfl)) h1
  refine (walk W p0 n0 c0 l0 S0 b0 p1 n1 c1 l1 S1 b1).mono fun e W' ⟨he, hg⟩ => ?_
  subst he
  have hargs := trodAll_below hg _ _ _ _ (by intro t ht; simp only [List.mem_cons, List.not_mem_nil, or_false] at ht; revert t; rintro t (rfl | rfl) <;> exact ⟨by kernel_rfl, of_decide_eq_true (by kernel_rfl)⟩) hAk (fun x hx => by simpa using hlt x hx)
  exact ⟨_, rfl, _, _, _, [], _, [], hW', (trodAll_cons_mk (shut_bool Try.underlying4 _) trodAll_mk0), hargs, rfl, hg.frame _, fun h => by cases h⟩

theorem over : Rows.sumPartsRow.holds Try.pinned (OpenSpec.ofChange Rows.sumPartsSpec) :=
  OpenClaim.holds_of_wide 4 Try.f4 rfl rfl rfl rfl rfl rfl rfl ⟨rfl, rfl, rfl, rfl, rfl⟩ rfl rfl rfl rfl rfl (by kernel_rfl) Try.func4 (by kernel_rfl)
    (of_decide_eq_true (by kernel_rfl)) (by unfold Func.isWrapper; first | (rw [if_pos (by decide +kernel)]; kernel_rfl) | (rw [if_neg (by decide +kernel)]; exact ⟨rfl, rfl⟩))
    (fun os started H enc _ => lifted os started H enc)

theorem proved : Rows.SumPartsSaid :=
  over
end Go.Proofs.Ytmlonennmnfemaa.sumParts
