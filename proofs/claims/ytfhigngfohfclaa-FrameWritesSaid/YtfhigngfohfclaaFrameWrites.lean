/- For whatever kind and body law FrameWrites answers true: a frame has the bytes, or the error, that the document says. No condition. -/
import Derived.Test.YtfhigngfohfclaaFrameLaws
namespace Go.Proofs.Ytfhigngfohfclaa.frameWrites
open Go.ChangeShapes Go.WideShapes Go.ChangeAt Go.RowKit Go.Proofs.Ytfhigngfohfclaa Go.Proofs.Ytfhigngfohfclaa.SumM
set_option linter.unusedVariables false

set_option maxRecDepth 100000 in
set_option maxHeartbeats 2000000 in
theorem walk (w : World) (a0 : Int) (w0 : (Lit.int .i64 a0).wf = true) (p1 : Option Addr) (n1 c1 : Nat) (l1 : List Nat) (S1 : Sl encY w.heap.size w (.slice p1 n1 c1) l1) (b1 : ∀ x ∈ l1, x < 256) :
    Calls Try.prog 9 #[.int .i64 a0, .slice p1 n1 c1] w fun e w' => e = .returned (.bool true) ∧ Below w.heap.size w w' := by
  obtain rfl := S1.len
  have HS := Lib.hid S1
  have H1 := Lib.hid b1
  clear S1 b1 w0
  obtain ⟨n, hn⟩ : ∃ n, l1.length = n := ⟨_, rfl⟩
  have HN := Lib.hid hn
  rw [hn] at HS ⊢
  clear hn
  by_cases g0 : (n : Int) > 5000
  · go_enter Try.func9, Try.ntmps9
    go_wp2_with (go_at_call 51; refine (frameAlive_any _).mono ?_; rintro e w1 ⟨rfl, hb1⟩)
    go_ret
    exact ⟨rfl, hb1⟩
  · have B1 : Bytes l1 := ⟨by rw [HN.out]; omega, H1.out⟩
    have HW := Lib.hid (fun (W : World) (hb : Below w.heap.size w W) => write_any a0 _ _ _ l1 B1 W ((HS.out.below hb).mono hb.size))
    have HV := Lib.hid (fun (W : World) (hb : Below w.heap.size w W) => refWrite_any a0 _ _ _ l1 B1 W ((HS.out.below hb).mono hb.size))
    have hX : (writeL a0 l1).length ≤ 1048576 := by have := writeL_len a0 l1; rw [HN.out] at this; omega
    obtain ⟨E, hE⟩ : ∃ E, writeE a0 l1 = E := ⟨_, rfl⟩
    obtain ⟨X, hXe⟩ : ∃ X, writeL a0 l1 = X := ⟨_, rfl⟩
    rw [hXe] at hX
    rw [hE, hXe] at HW HV
    clear hE hXe B1
    obtain ⟨m1, hm1⟩ : ∃ m, max (n : Int) 0 + 7 = m := ⟨_, rfl⟩
    obtain ⟨k, hk⟩ : ∃ k, min a0 1099511627776 = k := ⟨_, rfl⟩
    have hk1 : k ≤ 1099511627776 := by omega
    obtain ⟨m2, hm2⟩ : ∃ m, max k 0 + 7 = m := ⟨_, rfl⟩
    have HW1 := Lib.hid (fun W => weight_any (n : Int) W (by omega))
    have HV1 := Lib.hid (fun W => refWeight_any (n : Int) W (by omega))
    have HW2 := Lib.hid (fun W => weight_any k W hk1)
    have HV2 := Lib.hid (fun W => refWeight_any k W hk1)
    rw [hm1] at HW1 HV1
    rw [hm2] at HW2 HV2
    clear hm1 hm2
    go_enter Try.func9, Try.ntmps9
    go_wp2_with (go_at_call 51; refine (frameAlive_any _).mono ?_; rintro e w1 ⟨rfl, hb1⟩)
    refine (HW.out _ hb1).mono ?_
    rintro e w2 ⟨v2, rfl, hS2, hb2⟩
    have hB2 := step_below hb1 hb2
    obtain ⟨a2, c2, rfl⟩ := hS2.form
    have H2 := Lib.hid hS2
    clear hb2 hb1 hS2
    go_wp2_with fail
    refine (HV.out _ hB2).mono ?_
    rintro e w3 ⟨v3, rfl, hS3, hb3⟩
    have hB3 := step_below hB2 hb3
    obtain ⟨a3, c3, rfl⟩ := hS3.form
    have H23 := Lib.hid (hS_step H2.out hb3)
    have HQ := Lib.hid (sameY_any _ _ _ _ _ _ X X w3 hX hX H23.out hS3)
    rw [decide_eq_true rfl] at HQ
    clear hb3 hB2 hS3 H2 H23 hX
    obtain ⟨xl, hxl⟩ : ∃ xl, X.length = xl := ⟨_, rfl⟩
    rw [hxl] at HQ ⊢
    clear hxl
    go_wp2_with fail
    refine HQ.out.mono ?_
    rintro e w4 ⟨rfl, hb4⟩
    have hB4 := step_below hB3 hb4
    clear hb4 hB3
    go_wp2_with fail
    refine (HW1.out _).mono ?_
    rintro e w5 ⟨rfl, rfl⟩
    go_wp2_with fail
    refine (HV1.out _).mono ?_
    rintro e w5 ⟨rfl, rfl⟩
    go_wp2_with fail
    refine (HW2.out _).mono ?_
    rintro e w5 ⟨rfl, rfl⟩
    go_wp2_with fail
    refine (HV2.out _).mono ?_
    rintro e w5 ⟨rfl, rfl⟩
    go_wp2
    go_ret
    exact ⟨rfl, hB4⟩

set_option maxRecDepth 100000 in
theorem lifted (os : Os) (started : os.Started) (H : Type) (enc : TypeId × Value → H) :
    ReturnsInHanded {} Try.checked os 9 .any (Rows.frameWritesSpec.pre6 enc Try.prog Try.f9 Rows.frameWritesRow.domain false) (Rows.frameWritesSpec.post enc Try.prog Try.f9 false true false false) := by
  refine returnsInHanded_of_change (C := Try.checked) own started (by kernel_rfl) Try.func9
    (ChangeSpec.witness6 (enc := enc) (C := Try.checked) false ⟨#[], #[.int .i64 0, .slice none 0 0], []⟩ 8 (by kernel_rfl) (by kernel_rfl) (by kernel_rfl) (by kernel_rfl)) ?_
  intro W base args ds gs before hval0 hW hcnd _
  have hval : ∀ (j : Nat) t v, Try.f9.params[j]? = some t → args[j]? = some v → Value.okWide Try.prog W .any base t v := hval0
  have hW' := hW
  obtain ⟨p, q, hA0, hV, rfl, hfz, hnd⟩ := hW
  have hA : DataW.TrodAll enc Try.prog W 0 (fun _ => true) true Try.f9.params.toList args.toList ds p := hA0
  rw [Try.params9] at hA hval
  have hAk := hA
  obtain ⟨v0, vs0, d0, ds0, p0', q0, hargs, rfl, rfl, h0, r0⟩ := trodAll_cons hA
  obtain ⟨v1, vs1, d1, ds1, p1', q1, rfl, rfl, rfl, h1, r1⟩ := trodAll_cons r0
  obtain ⟨rfl, rfl, rfl⟩ := trodAll_nil r1
  obtain rfl : args = #[v0, v1] := by cases args; simp_all
  obtain ⟨rfl, rfl⟩ := trodVars_none hV
  simp only [List.append_nil] at hW' hAk
  have hlt := fun x hx => hW'.lt x hx
  clear hA0 hval0
  obtain ⟨a0, rfl, rfl, rfl, w0⟩ := open_int Try.underlying3 (hval 0 3 v0 rfl rfl) h0
  obtain ⟨p1, n1, c1, l1, rfl, S1, b1⟩ := open_bytes (okWide_slice Try.underlying22 (hval 1 22 v1 rfl rfl)) h1
  refine (walk W a0 w0 p1 n1 c1 l1 S1 b1).mono fun e W' ⟨he, hg⟩ => ?_
  subst he
  have hargs := trodAll_below hg _ _ _ _ (by intro t ht; simp only [List.mem_cons, List.not_mem_nil, or_false] at ht; revert t; rintro t (rfl | rfl) <;> exact ⟨by kernel_rfl, of_decide_eq_true (by kernel_rfl)⟩) hAk (fun x hx => by simpa using hlt x hx)
  exact ⟨_, rfl, _, _, _, [], _, [], hW', (trodAll_cons_mk (shut_bool Try.underlying4 _) trodAll_mk0), hargs, rfl, hg.frame _, fun h => by cases h⟩

theorem over : Rows.frameWritesRow.holds Try.pinned (OpenSpec.ofChange Rows.frameWritesSpec) :=
  OpenClaim.holds_of_wide 9 Try.f9 rfl rfl rfl rfl rfl rfl rfl ⟨rfl, rfl, rfl, rfl, rfl⟩ rfl rfl rfl rfl rfl (by kernel_rfl) Try.func9 (by kernel_rfl)
    (of_decide_eq_true (by kernel_rfl)) (by unfold Func.isWrapper; first | (rw [if_pos (by decide +kernel)]; kernel_rfl) | (rw [if_neg (by decide +kernel)]; exact ⟨rfl, rfl⟩))
    (fun os started H enc _ => lifted os started H enc)

theorem proved : Rows.FrameWritesSaid :=
  over
end Go.Proofs.Ytfhigngfohfclaa.frameWrites
