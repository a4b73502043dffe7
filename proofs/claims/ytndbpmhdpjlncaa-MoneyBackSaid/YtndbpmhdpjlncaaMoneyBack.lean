/- For every three numbers law MoneyBack answers true: what is added and taken away again is what it was. No condition. -/
import Derived.Test.YtndbpmhdpjlncaaAlive
import Derived.Test.YtndbpmhdpjlncaaRows
import Derived.WalkKit
import Derived.ProofKit
import Derived.OpenShut
namespace Go.Proofs.Ytndbpmhdpjlncaa.moneyBack
open Go.ChangeShapes Go.WideShapes Go.ChangeAt Go.RowKit
set_option linter.unusedVariables false      -- a walk need not use every 'w<i>' (that an integer argument fits its kind)

theorem own : ownKnob Try.prog.godebug = none := by kernel_rfl


theorem i64_bd {a : Int} (h : (Lit.int .i64 a).wf = true) : -9223372036854775808 ≤ a ∧ a ≤ 9223372036854775807 := by
  simp [Lit.wf, IntKind.min, IntKind.max, IntKind.signed, IntKind.bits] at h
  exact h

theorem back_facts {a b : Int} (h : addB a b = true) : subB (a + b) b = true ∧ subV (a + b) b = a ∧ addB b a = true ∧ addV b a = a + b := by
  have hA : sumB a = true := by revert h; unfold addB; cases sumB a <;> simp
  have hB : sumB b = true := by revert h; unfold addB; cases sumB b <;> simp
  have hC : sumB (a + b) = true := by revert h; unfold addB; cases sumB (a + b) <;> simp
  have e : a + b - b = a := by omega
  have e2 : b + a = a + b := by omega
  have s : subB (a + b) b = true := by unfold subB; rw [e, hA, hB, hC]; rfl
  have t : addB b a = true := by unfold addB; rw [e2, hA, hB, hC]; rfl
  exact ⟨s, by rw [subB_eq s, e], t, by rw [addB_eq t, e2]⟩
theorem run_three {a b c : Int} (h : addB a b = true) : runSum [a, b, c] = if addB (a + b) c = true then some (a + b + c) else none := by
  have hA : sumB a = true := by revert h; unfold addB; cases sumB a <;> simp
  have e0 : addB 0 a = true := by unfold addB; rw [Int.zero_add, hA]; decide +kernel
  simp only [runSum, List.foldl, runStep, Option.bind, e0, if_true, Int.zero_add, h]
theorem ints_three (w : World) (a b c : Int) : Vals.Ints (w.alloc (.cells #[.int .i64 a, .int .i64 b, .int .i64 c] 2)).heap.size (w.alloc (.cells #[.int .i64 a, .int .i64 b, .int .i64 c] 2)) (.slice (some ⟨w.heap.size, 0, none⟩) 3 3) [a, b, c] := by
  refine .inr ⟨w.heap.size, 0, 3, rfl, by simp, fun j hj => ?_⟩
  match j, hj with
  | 0, _ => rw [cell_new_row]; rfl
  | 1, _ => rw [cell_new_row]; rfl
  | 2, _ => rw [cell_new_row]; rfl

set_option maxRecDepth 100000 in
set_option maxHeartbeats 1000000 in
theorem walk (a0 : Int) (a1 : Int) (a2 : Int) (w0 : (Lit.int .i64 a0).wf = true) (w1 : (Lit.int .i64 a1).wf = true) (w2 : (Lit.int .i64 a2).wf = true) (w : World) :
    Calls Try.prog 5 #[.int .i64 a0, .int .i64 a1, .int .i64 a2] w fun e w' => e = .returned (.bool true) ∧ Below w.heap.size w w' := by
  obtain ⟨a1l, a1h⟩ := i64_bd w0
  obtain ⟨b1l, b1h⟩ := i64_bd w1
  obtain ⟨n1l, n1h⟩ := i64_bd w2
  cases hx : addB a0 a1 with
  | false =>
    have hv := addB_no hx
    go_enter Try.func5, Try.ntmps5
    go_wp2_with (first | (go_at_call 6; refine (alive_any _).mono ?_; rintro e w1 ⟨rfl, hb⟩) | (go_at_call 7; refine (add_any _ _ _).mono ?_; rintro e w' ⟨rfl, rfl⟩))
    go_ret
    exact ⟨rfl, hb⟩
  | true =>
    have hv := addB_eq hx
    obtain ⟨s1, s2, s3, s4⟩ := back_facts hx
    have hr := run_three (c := a2) hx
    cases hy : addB (a0 + a1) a2 with
    | false =>
      rw [hy, if_neg (by decide)] at hr
      have hz := addB_no hy
      go_enter Try.func5, Try.ntmps5
      go_wp2_with (first | (go_at_call 6; refine (alive_any _).mono ?_; rintro e w1 ⟨rfl, hb⟩) | (go_at_call 7; refine (add_any _ _ _).mono ?_; rintro e w' ⟨rfl, rfl⟩) | (go_at_call 9; refine (sub_any _ _ _ b1l b1h).mono ?_; rintro e w' ⟨rfl, rfl⟩) | (go_at_call 21; refine (total_any _ _ _ [a0, a1, a2] (by simp) _ (ints_three _ _ _ _)).mono ?_; rintro e w2 ⟨rfl, hb2⟩))
      go_ret
      exact ⟨rfl, hb.trans (((Below.refl _ _).alloc (Nat.le_refl _) _).trans (hb2.mono (by simp)) |>.mono hb.size)⟩
    | true =>
      rw [hy, if_pos rfl] at hr
      have hz := addB_eq hy
      go_enter Try.func5, Try.ntmps5
      go_wp2_with (first | (go_at_call 6; refine (alive_any _).mono ?_; rintro e w1 ⟨rfl, hb⟩) | (go_at_call 7; refine (add_any _ _ _).mono ?_; rintro e w' ⟨rfl, rfl⟩) | (go_at_call 9; refine (sub_any _ _ _ b1l b1h).mono ?_; rintro e w' ⟨rfl, rfl⟩) | (go_at_call 21; refine (total_any _ _ _ [a0, a1, a2] (by simp) _ (ints_three _ _ _ _)).mono ?_; rintro e w2 ⟨rfl, hb2⟩))
      go_ret
      exact ⟨rfl, hb.trans (((Below.refl _ _).alloc (Nat.le_refl _) _).trans (hb2.mono (by simp)) |>.mono hb.size)⟩


set_option maxRecDepth 100000 in
theorem lifted (os : Os) (started : os.Started) (H : Type) (enc : TypeId × Value → H) :
    ReturnsInHanded {} Try.checked os 5 .any (Rows.moneyBackSpec.pre6 enc Try.prog Try.f5 Rows.moneyBackRow.domain false) (Rows.moneyBackSpec.post enc Try.prog Try.f5 false true false false) := by
  refine returnsInHanded_of_change (C := Try.checked) own started (by kernel_rfl) Try.func5
    (ChangeSpec.witness6 (enc := enc) (C := Try.checked) false ⟨#[], #[.int .i64 0, .int .i64 0, .int .i64 0], []⟩ 8 (by kernel_rfl) (by kernel_rfl) (by kernel_rfl) (by kernel_rfl)) ?_
  intro W base args ds gs before hval0 hW hcnd _
  have hval : ∀ (j : Nat) t v, Try.f5.params[j]? = some t → args[j]? = some v → Value.okWide Try.prog W .any base t v := hval0
  have hW' := hW
  obtain ⟨p, q, hA0, hV, rfl, hfz, hnd⟩ := hW
  have hA : DataW.TrodAll enc Try.prog W 0 (fun _ => true) true Try.f5.params.toList args.toList ds p := hA0
  rw [Try.params5] at hA hval
  obtain ⟨v0, vs0, d0, ds0, p0, q0, hargs, rfl, rfl, h0, r0⟩ := trodAll_cons hA
  obtain ⟨v1, vs1, d1, ds1, p1, q1, rfl, rfl, rfl, h1, r1⟩ := trodAll_cons r0
  obtain ⟨v2, vs2, d2, ds2, p2, q2, rfl, rfl, rfl, h2, r2⟩ := trodAll_cons r1
  obtain ⟨rfl, rfl, rfl⟩ := trodAll_nil r2
  obtain rfl : args = #[v0, v1, v2] := by cases args; simp_all
  obtain ⟨rfl, rfl⟩ := trodVars_none hV
  obtain ⟨a0, rfl, rfl, rfl, w0⟩ := open_int Try.underlying2 (hval 0 2 v0 rfl rfl) h0
  obtain ⟨a1, rfl, rfl, rfl, w1⟩ := open_int Try.underlying2 (hval 1 2 v1 rfl rfl) h1
  obtain ⟨a2, rfl, rfl, rfl, w2⟩ := open_int Try.underlying2 (hval 2 2 v2 rfl rfl) h2
  clear hA0 hval0
  simp only [List.append_nil] at hW'
  refine (walk a0 a1 a2 w0 w1 w2 W).mono fun e W' ⟨he, hg⟩ => ?_
  subst he
  exact ⟨_, rfl, _, _, _, [], [], [], hW', (trodAll_cons_mk (shut_bool Try.underlying4 _) trodAll_mk0), (trodAll_cons_mk (shut_int Try.underlying2 w0) (trodAll_cons_mk (shut_int Try.underlying2 w1) (trodAll_cons_mk (shut_int Try.underlying2 w2) trodAll_mk0))), rfl, hg.frame _, fun h => by cases h⟩

theorem over : Rows.moneyBackRow.holds Try.pinned (OpenSpec.ofChange Rows.moneyBackSpec) :=
  OpenClaim.holds_of_wide 5 Try.f5 rfl rfl rfl rfl rfl rfl rfl ⟨rfl, rfl, rfl, rfl, rfl⟩ rfl rfl rfl rfl rfl (by kernel_rfl) Try.func5 (by kernel_rfl)
    (of_decide_eq_true (by kernel_rfl)) (by unfold Func.isWrapper; first | (rw [if_pos (by decide +kernel)]; kernel_rfl) | (rw [if_neg (by decide +kernel)]; exact ⟨rfl, rfl⟩))
    (fun os started H enc _ => lifted os started H enc)

theorem proved : Rows.MoneyBackSaid :=
  over
end Go.Proofs.Ytndbpmhdpjlncaa.moneyBack
