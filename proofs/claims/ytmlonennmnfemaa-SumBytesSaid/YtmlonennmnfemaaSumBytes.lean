/- For whatever rows of bytes law SumBytes answers true: the sum, what is sealed and what is opened are what the document says. No condition. -/
import Derived.Test.YtmlonennmnfemaaSumLaws
import Derived.Test.YtmlonennmnfemaaSumFew
namespace Go.Proofs.Ytmlonennmnfemaa.sumBytes
open Go.ChangeShapes Go.WideShapes Go.ChangeAt Go.RowKit Go.Proofs.Ytmlonennmnfemaa Go.Proofs.Ytmlonennmnfemaa.SumM
set_option linter.unusedVariables false

set_option maxRecDepth 100000 in
set_option maxHeartbeats 2000000 in
theorem walk (w : World) (p0 : Option Addr) (n0 c0 : Nat) (l0 : List (List Nat)) (S0 : Parts w.heap.size w (.slice p0 n0 c0) l0) (b0 : ∀ l ∈ l0, ∀ x ∈ l, x < 256) :
    Calls Try.prog 3 #[.slice p0 n0 c0] w fun e w' => e = .returned (.bool true) ∧ Below w.heap.size w w' := by
  obtain rfl := S0.len
  have HF := Lib.hid (fun (W : World) (h : Below w.heap.size w W) => few_any _ _ _ l0 W ((S0.below h).mono h.size))
  have HS0 := Lib.hid S0
  have H0 := Lib.hid b0
  clear S0 b0
  cases hf : fewB l0 with
  | false =>
    rw [hf] at HF
    clear hf
    go_enter Try.func3, Try.ntmps3
    go_wp2_with (first | (go_at_call 10; refine (sumAlive_any _).mono ?_; rintro e w1 ⟨rfl, hb1⟩) | (go_at_call 11; refine (HF.out _ hb1).mono ?_; rintro e w' ⟨rfl, rfl⟩))
    go_ret
    exact ⟨rfl, hb1⟩
  | true =>
    rw [hf] at HF
    obtain ⟨hf1, hf2⟩ := of_decide_eq_true hf
    have B : Bytes l0.flatten := ⟨by omega, fun x hx => by
      obtain ⟨l, h1, h2⟩ := List.mem_flatten.1 hx
      exact H0.out l h1 x h2⟩
    have BL : Hid (∀ l ∈ l0, Bytes l) := Lib.hid fun l hl => ⟨by
      obtain ⟨j, hj⟩ := List.getElem?_of_mem hl
      have := flat_len l0 j l hj
      omega, H0.out l hl⟩
    have HJ := Lib.hid (fun (W : World) (h : Below w.heap.size w W) => joinY_any _ _ _ l0 (by omega) (by omega) W ((HS0.out.below h).mono h.size))
    have HO := Lib.hid (fun (W : World) (h : Below w.heap.size w W) => of_any _ _ _ l0 (by omega) BL.out W ((HS0.out.below h).mono h.size))
    obtain ⟨L, hL⟩ : ∃ L, l0.flatten = L := ⟨_, rfl⟩
    rw [hL] at HJ HO B hf2
    have HLF := Lib.hid hf2
    clear hf hf1 hf2 hL BL
    go_enter Try.func3, Try.ntmps3
    go_wp2_with (first | (go_at_call 10; refine (sumAlive_any _).mono ?_; rintro e w1 ⟨rfl, hb1⟩) | (go_at_call 11; refine (HF.out _ hb1).mono ?_; rintro e w' ⟨rfl, rfl⟩))
    refine (HJ.out _ hb1).mono ?_
    rintro e w2 ⟨v2, rfl, hown2, hb2⟩
    have hB2 := step_below hb1 hb2
    have hS2 := Sl.of_owns hown2
    obtain ⟨a2, c2, rfl⟩ := hS2.form
    have H2 := Lib.hid hS2
    clear hown2 hb2 hb1 hS2
    go_wp2_with fail
    refine (open_any _ _ _ _ B _ H2.out).mono ?_
    rintro e w3 ⟨v3, rfl, hS3, hb3⟩
    have hB3 := step_below hB2 hb3
    have H2' := Lib.hid (hS_step H2.out hb3)
    obtain ⟨a3, c3, rfl⟩ := hS3.form
    have H3 := Lib.hid hS3
    clear hb3 hB2 hS3 H2
    go_wp2_with fail
    refine (refOpen_any _ _ _ _ B _ H2'.out).mono ?_
    rintro e w4 ⟨v4, rfl, hS4, hb4⟩
    have hB4 := step_below hB3 hb4
    have H2 := Lib.hid (hS_step H2'.out hb4)
    have H3' := Lib.hid (hS_step H3.out hb4)
    obtain ⟨a4, c4, rfl⟩ := hS4.form
    have H4 := Lib.hid hS4
    clear hb4 hB3 hS4 H2' H3
    go_wp2_with fail
    refine (HO.out _ hB4).mono ?_
    rintro e w5 ⟨rfl, hb5⟩
    have hB5 := step_below hB4 hb5
    have H2' := Lib.hid (hS_step H2.out hb5)
    have H3 := Lib.hid (hS_step H3'.out hb5)
    have H4' := Lib.hid (hS_step H4.out hb5)
    clear hb5 hB4 H2 H3' H4
    go_wp2_with fail
    refine (refOf_any _ _ _ _ B _ H2'.out).mono ?_
    rintro e w' ⟨rfl, rfl⟩
    go_wp2_with fail
    refine (seal_any _ _ _ _ B _ H2'.out).mono ?_
    rintro e w6 ⟨v6, rfl, hown6, hb6⟩
    have hB6 := step_below hB5 hb6
    have H2 := Lib.hid (hS_step H2'.out hb6)
    have H3' := Lib.hid (hS_step H3.out hb6)
    have H4 := Lib.hid (hS_step H4'.out hb6)
    have hS6 := Sl.of_owns hown6
    obtain ⟨a6, c6, rfl⟩ := hS6.form
    have H6 := Lib.hid hS6
    clear hb6 hB5 H2' H3 H4' hown6 hS6
    go_wp2_with fail
    refine (refSeal_any _ _ _ _ B _ H2.out).mono ?_
    rintro e w7 ⟨v7, rfl, hown7, hb7⟩
    have hB7 := step_below hB6 hb7
    have H3 := Lib.hid (hS_step H3'.out hb7)
    have H4' := Lib.hid (hS_step H4.out hb7)
    have H6' := Lib.hid (hS_step H6.out hb7)
    have hS7 := Sl.of_owns hown7
    obtain ⟨a7, c7, rfl⟩ := hS7.form
    have H7 := Lib.hid hS7
    clear hb7 hB6 H2 H3' H4 H6 hown7 hS7
    have hsl : (sealL L).length ≤ 1048576 := by rw [seal_len]; have := HLF.out; omega
    go_wp2_with fail
    refine (sameY_any _ _ _ _ _ _ _ _ w7 hsl hsl H6'.out H7.out).mono ?_
    rintro e w8 ⟨rfl, hb8⟩
    rw [decide_eq_true rfl]
    have hB8 := step_below hB7 hb8
    have H3' := Lib.hid (hS_step H3.out hb8)
    have H4 := Lib.hid (hS_step H4'.out hb8)
    have hol : ((openL L).getD []).length ≤ 1048576 := by
      unfold openL
      split
      · simp
      · split
        · simp; have := HLF.out; omega
        · simp
    clear hb8 hB7 H3 H4' H6' H7 hsl
    go_wp2_with fail
    refine (sameY_any _ _ _ _ _ _ _ _ w8 hol hol H3'.out H4.out).mono ?_
    rintro e w9 ⟨rfl, hb9⟩
    rw [decide_eq_true rfl]
    have hB9 := step_below hB8 hb9
    clear hb9 hB8 H3' H4
    go_wp2
    go_ret
    exact ⟨rfl, hB9⟩

set_option maxRecDepth 100000 in
theorem lifted (os : Os) (started : os.Started) (H : Type) (enc : TypeId × Value → H) :
    ReturnsInHanded {} Try.checked os 3 .any (Rows.sumBytesSpec.pre6 enc Try.prog Try.f3 Rows.sumBytesRow.domain false) (Rows.sumBytesSpec.post enc Try.prog Try.f3 false true false false) := by
  refine returnsInHanded_of_change (C := Try.checked) own started (by kernel_rfl) Try.func3
    (ChangeSpec.witness6 (enc := enc) (C := Try.checked) false ⟨#[], #[.slice none 0 0], []⟩ 8 (by kernel_rfl) (by kernel_rfl) (by kernel_rfl) (by kernel_rfl)) ?_
  intro W base args ds gs before hval0 hW hcnd _
  have hval : ∀ (j : Nat) t v, Try.f3.params[j]? = some t → args[j]? = some v → Value.okWide Try.prog W .any base t v := hval0
  have hW' := hW
  obtain ⟨p, q, hA0, hV, rfl, hfz, hnd⟩ := hW
  have hA : DataW.TrodAll enc Try.prog W 0 (fun _ => true) true Try.f3.params.toList args.toList ds p := hA0
  rw [Try.params3] at hA hval
  have hAk := hA
  obtain ⟨v0, vs0, d0, ds0, p0', q0, hargs, rfl, rfl, h0, r0⟩ := trodAll_cons hA
  obtain ⟨rfl, rfl, rfl⟩ := trodAll_nil r0
  obtain rfl : args = #[v0] := by cases args; simp_all
  obtain ⟨rfl, rfl⟩ := trodVars_none hV
  simp only [List.append_nil] at hW' hAk
  have hlt := fun x hx => hW'.lt x hx
  clear hA0 hval0
  obtain ⟨p0, n0, c0, l0, rfl, S0, b0⟩ := open_parts (okWide_slice Try.underlying22 (hval 0 22 v0 rfl rfl)) h0
  refine (walk W p0 n0 c0 l0 S0 b0).mono fun e W' ⟨he, hg⟩ => ?_
  subst he
  have hargs := trodAll_below hg _ _ _ _ (by intro t ht; simp only [List.mem_cons, List.not_mem_nil, or_false] at ht; revert t; rintro t rfl; exact ⟨by kernel_rfl, of_decide_eq_true (by kernel_rfl)⟩) hAk (fun x hx => by simpa using hlt x hx)
  exact ⟨_, rfl, _, _, _, [], _, [], hW', (trodAll_cons_mk (shut_bool Try.underlying4 _) trodAll_mk0), hargs, rfl, hg.frame _, fun h => by cases h⟩

theorem over : Rows.sumBytesRow.holds Try.pinned (OpenSpec.ofChange Rows.sumBytesSpec) :=
  OpenClaim.holds_of_wide 3 Try.f3 rfl rfl rfl rfl rfl rfl rfl ⟨rfl, rfl, rfl, rfl, rfl⟩ rfl rfl rfl rfl rfl (by kernel_rfl) Try.func3 (by kernel_rfl)
    (of_decide_eq_true (by kernel_rfl)) (by unfold Func.isWrapper; first | (rw [if_pos (by decide +kernel)]; kernel_rfl) | (rw [if_neg (by decide +kernel)]; exact ⟨rfl, rfl⟩))
    (fun os started H enc _ => lifted os started H enc)

theorem proved : Rows.SumBytesSaid :=
  over
end Go.Proofs.Ytmlonennmnfemaa.sumBytes
