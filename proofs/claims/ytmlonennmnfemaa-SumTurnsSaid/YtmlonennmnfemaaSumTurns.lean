/- For whatever bytes, place and mask law SumTurns answers true: bytes in which bits are turned within a run of 32 have another sum. No condition. -/
import Derived.Test.YtmlonennmnfemaaSumTurnW
import Derived.Test.YtmlonennmnfemaaMasks
namespace Go.Proofs.Ytmlonennmnfemaa.sumTurns
open Go.ChangeShapes Go.WideShapes Go.ChangeAt Go.RowKit Go.Proofs.Ytmlonennmnfemaa Go.Proofs.Ytmlonennmnfemaa.SumM
set_option linter.unusedVariables false

set_option maxRecDepth 100000 in
set_option maxHeartbeats 2000000 in
theorem walk (w : World) (p0 : Option Addr) (n0 c0 : Nat) (l0 : List Nat) (S0 : Sl encY w.heap.size w (.slice p0 n0 c0) l0) (b0 : ∀ x ∈ l0, x < 256) (a1 : Int) (w1 : (Lit.int .i64 a1).wf = true) (a2 : Int) (w2 : (Lit.int .u32 a2).wf = true) :
    Calls Try.prog 5 #[.slice p0 n0 c0, .int .i64 a1, .int .u32 a2] w fun e w' => e = .returned (.bool true) ∧ Below w.heap.size w w' := by
  obtain rfl := S0.len
  obtain ⟨m, rfl, hm⟩ : ∃ m : Nat, a2 = (m : Int) ∧ m < 4294967296 := ⟨a2.toNat, by have := bounds_u32 w2; omega, by have := bounds_u32 w2; omega⟩
  have HS0 := Lib.hid S0
  have H0 := Lib.hid b0
  clear S0 b0 w1 w2
  obtain ⟨n, hn⟩ : ∃ n, l0.length = n := ⟨_, rfl⟩
  have HN := Lib.hid hn
  rw [hn] at HS0 ⊢
  clear hn
  by_cases g0 : (n : Int) > 1000
  · go_enter Try.func5, Try.ntmps5
    go_wp2_with (go_at_call 10; refine (sumAlive_any _).mono ?_; rintro e w1 ⟨rfl, hb1⟩)
    go_ret
    exact ⟨rfl, hb1⟩
  · by_cases g1 : n = 0
    · have g2 : ((n : Int) == 0) = true := by rw [g1]; rfl
      clear g1
      go_enter Try.func5, Try.ntmps5
      go_wp2_with (go_at_call 10; refine (sumAlive_any _).mono ?_; rintro e w1 ⟨rfl, hb1⟩)
      go_ret
      exact ⟨rfl, hb1⟩
    · have g2 : ((n : Int) == 0) = false := beq_eq_false_iff_ne.2 (by omega)
      have B0 : Bytes l0 := ⟨by rw [HN.out]; omega, H0.out⟩
      have hne : l0 ≠ [] := fun e => g1 (by rw [← HN.out, e]; rfl)
      have hpos : 0 < n := by omega
      obtain ⟨t, ht1, ht2⟩ := and8191 a1
      obtain ⟨at', hat1, hat2⟩ : ∃ at' : Nat, (t : Int) % (8 * (n : Int)) = (at' : Int) ∧ at' < 8 * n := ⟨t % (8 * n), by push_cast; rfl, Nat.mod_lt _ (by omega)⟩
      have htm : (t : Int).tmod (8 * (n : Int)) = (at' : Int) := by rw [Int.tmod_eq_emod_of_nonneg (by omega)]; exact hat1
      have hdz : ((8 * (n : Int)) == 0) = false := beq_eq_false_iff_ne.2 (by omega)
      have HT := Lib.hid (fun (W : World) (h : Below w.heap.size w W) => refTurn_any _ _ _ l0 B0 hne at' m (by rw [HN.out]; exact hat2) hm W ((HS0.out.below h).mono h.size))
      have HTS := Lib.hid (turn_sum l0 H0.out at' m (by rw [HN.out]; exact hat2) hm)
      have hbt : Bytes (turnL l0 (m * 2 ^ at')) := ⟨by rw [turnL_len, HN.out]; omega, turnL_lt _ _ H0.out⟩
      have HBT := Lib.hid hbt
      have HLT := Lib.hid (turnL_len l0 (m * 2 ^ at'))
      obtain ⟨tl, htl⟩ : ∃ tl, turnL l0 (m * 2 ^ at') = tl := ⟨_, rfl⟩
      rw [htl] at HT HTS HBT HLT
      rw [HN.out] at HT
      clear htl hbt hne g1
      go_enter Try.func5, Try.ntmps5
      go_wp2_with (go_at_call 10; refine (sumAlive_any _).mono ?_; rintro e w1 ⟨rfl, hb1⟩)
      refine (HT.out _ hb1).mono ?_
      rintro e w2 ⟨v2, rfl, hown2, hb2⟩
      have hB2 := step_below hb1 hb2
      rw [show n = tl.length from by rw [HLT.out, HN.out]] at hown2
      have hS2 := Sl.of_owns hown2
      obtain ⟨a2, c2, rfl⟩ := hS2.form
      have H2 := Lib.hid hS2
      clear hown2 hb2 hb1 hS2
      go_wp2_with fail
      refine (of_at _ _ tl HBT.out w2 rfl H2.out).mono ?_
      rintro e w3 ⟨rfl, hb3⟩
      have hB3 := step_below hB2 hb3
      have H3 := Lib.hid (hS_step H2.out hb3)
      clear hb3 hB2 H2
      go_wp2_with fail
      refine (of_at _ _ l0 B0 w3 rfl ((HS0.out.below hB3).mono hB3.size)).mono ?_
      rintro e w4 ⟨rfl, hb4⟩
      have hB4 := step_below hB3 hb4
      have H4 := Lib.hid (hS_step H3.out hb4)
      clear hb4 hB3 H3
      go_wp2_with fail
      refine (sameY_any _ _ _ _ _ _ tl l0 w4 HBT.out.1 B0.1 H4.out ((HS0.out.below hB4).mono hB4.size)).mono ?_
      rintro e w5 ⟨rfl, hb5⟩
      have hB5 := step_below hB4 hb5
      clear hb5 hB4 H4
      obtain ⟨q, q1, q2⟩ : ∃ q : Bool, ((sumL tl : Int) == (sumL l0 : Int)) = q ∧ decide (tl = l0) = q := by
        refine ⟨decide (tl = l0), ?_, rfl⟩
        rw [Bool.eq_iff_iff, beq_iff_eq, decide_eq_true_eq, ← HTS.out]
        omega
      go_wp2
      go_ret
      exact ⟨rfl, hB5⟩

set_option maxRecDepth 100000 in
theorem lifted (os : Os) (started : os.Started) (H : Type) (enc : TypeId × Value → H) :
    ReturnsInHanded {} Try.checked os 5 .any (Rows.sumTurnsSpec.pre6 enc Try.prog Try.f5 Rows.sumTurnsRow.domain false) (Rows.sumTurnsSpec.post enc Try.prog Try.f5 false true false false) := by
  refine returnsInHanded_of_change (C := Try.checked) own started (by kernel_rfl) Try.func5
    (ChangeSpec.witness6 (enc := enc) (C := Try.checked) false ⟨#[], #[.slice none 0 0, .int .i64 0, .int .u32 0], []⟩ 8 (by kernel_rfl) (by kernel_rfl) (by kernel_rfl) (by kernel_rfl)) ?_
  intro W base args ds gs before hval0 hW hcnd _
  have hval : ∀ (j : Nat) t v, Try.f5.params[j]? = some t → args[j]? = some v → Value.okWide Try.prog W .any base t v := hval0
  have hW' := hW
  obtain ⟨p, q, hA0, hV, rfl, hfz, hnd⟩ := hW
  have hA : DataW.TrodAll enc Try.prog W 0 (fun _ => true) true Try.f5.params.toList args.toList ds p := hA0
  rw [Try.params5] at hA hval
  have hAk := hA
  obtain ⟨v0, vs0, d0, ds0, p0', q0, hargs, rfl, rfl, h0, r0⟩ := trodAll_cons hA
  obtain ⟨v1, vs1, d1, ds1, p1', q1, rfl, rfl, rfl, h1, r1⟩ := trodAll_cons r0
  obtain ⟨v2, vs2, d2, ds2, p2', q2, rfl, rfl, rfl, h2, r2⟩ := trodAll_cons r1
  obtain ⟨rfl, rfl, rfl⟩ := trodAll_nil r2
  obtain rfl : args = #[v0, v1, v2] := by cases args; simp_all
  obtain ⟨rfl, rfl⟩ := trodVars_none hV
  simp only [List.append_nil] at hW' hAk
  have hlt := fun x hx => hW'.lt x hx
  clear hA0 hval0
  obtain ⟨p0, n0, c0, l0, rfl, S0, b0⟩ := open_bytes (okWide_slice Try.underlying25 (hval 0 25 v0 rfl rfl)) h0
  obtain ⟨a1, rfl, rfl, rfl, w1⟩ := open_int Try.underlying3 (hval 1 3 v1 rfl rfl) h1
  obtain ⟨a2, rfl, rfl, rfl, w2⟩ := open_int Try.underlying29 (hval 2 29 v2 rfl rfl) h2
  refine (walk W p0 n0 c0 l0 S0 b0 a1 w1 a2 w2).mono fun e W' ⟨he, hg⟩ => ?_
  subst he
  have hargs := trodAll_below hg _ _ _ _ (by intro t ht; simp only [List.mem_cons, List.not_mem_nil, or_false] at ht; revert t; rintro t (rfl | rfl | rfl) <;> exact ⟨by kernel_rfl, of_decide_eq_true (by kernel_rfl)⟩) hAk (fun x hx => by simpa using hlt x hx)
  exact ⟨_, rfl, _, _, _, [], _, [], hW', (trodAll_cons_mk (shut_bool Try.underlying4 _) trodAll_mk0), hargs, rfl, hg.frame _, fun h => by cases h⟩

theorem over : Rows.sumTurnsRow.holds Try.pinned (OpenSpec.ofChange Rows.sumTurnsSpec) :=
  OpenClaim.holds_of_wide 5 Try.f5 rfl rfl rfl rfl rfl rfl rfl ⟨rfl, rfl, rfl, rfl, rfl⟩ rfl rfl rfl rfl rfl (by kernel_rfl) Try.func5 (by kernel_rfl)
    (of_decide_eq_true (by kernel_rfl)) (by unfold Func.isWrapper; first | (rw [if_pos (by decide +kernel)]; kernel_rfl) | (rw [if_neg (by decide +kernel)]; exact ⟨rfl, rfl⟩))
    (fun os started H enc _ => lifted os started H enc)

theorem proved : Rows.SumTurnsSaid :=
  over
end Go.Proofs.Ytmlonennmnfemaa.sumTurns
