/- For whatever capacity and row of steps law DevicePlays answers true: of each step the answer, and the device behind it, is as the document says. No condition. -/
import Derived.Test.YtdimjeppcfacdaaDevDo
namespace Go.Proofs.Ytdimjeppcfacdaa.devicePlays
open Go.ChangeShapes Go.WideShapes Go.ChangeAt Go.RowKit Go.Proofs.Ytdimjeppcfacdaa Go.Proofs.Ytdimjeppcfacdaa.SumM
set_option linter.unusedVariables false
attribute [local go_sem] Oper.semAt_some

set_option maxRecDepth 100000 in
set_option maxHeartbeats 2000000 in
theorem walk (w : World) (a0 : Int) (w0 : (Lit.int .i64 a0).wf = true) (p1 : Option Addr) (n1 c1 : Nat) (l1 : List OpS) (S1 : Ops w.heap.size w (.slice p1 n1 c1) l1) (b1 : (∀ x ∈ l1, x.Ok) ∧ l1.length ≤ Go.maxLen) :
    Calls Try.prog 4 #[.int .i64 a0, .slice p1 n1 c1] w fun e w' => e = .returned (.bool true) ∧ Below w.heap.size w w' := by
  obtain rfl := S1.len
  have HS := Lib.hid S1
  have HOK := Lib.hid b1.1
  have HSM := Lib.hid (fun (W : World) (hb : Below w.heap.size w W) => dsmall_any p1 c1 l1 b1.2 W (Ops.mono hb.size (S1.below hb)))
  have hmx : l1.length ≤ 9223372036854775807 := by have := b1.2; unfold Go.maxLen at this; omega
  obtain ⟨n, hn⟩ : ∃ n, l1.length = n := ⟨_, rfl⟩
  have HN := Lib.hid hn
  rw [hn] at HS HSM hmx ⊢
  clear hn S1 b1
  go_enter Try.func4, Try.ntmps4
  go_wp2_with fail
  refine (devAlive_any _).mono ?_
  rintro e w1 ⟨rfl, hb1⟩
  have HSM1 := Lib.hid (HSM.out w1 hb1)
  clear HSM
  go_wp2_with fail
  refine HSM1.out.mono ?_
  rintro e w2 ⟨sb, rfl, hsm, hb2⟩
  have hB2 := hb1.trans (hb2.mono hb1.size)
  clear hb1 hb2 HSM1
  cases sb with
  | false =>
    go_wp2
    go_ret
    exact ⟨rfl, hB2⟩
  | true =>
    obtain ⟨h40, hdl⟩ := hsm rfl
    have HDL := Lib.hid hdl
    rw [HN.out] at h40
    clear hsm hdl
    go_wp2_with fail
    refine (new_any a0 w2).mono ?_
    rintro e w3 ⟨rfl, d3, hb3⟩
    have hB3 := hB2.trans (hb3.mono hB2.size)
    go_wp2_with fail
    refine (rnew_to a0 w3).mono ?_
    rintro e w4 ⟨rfl, r4, hb4⟩
    have hB4 := hB3.trans (hb4.mono hB3.size)
    have d4 := d3.below hb4
    have hz3 := d3.blk.lt
    have hz34 := hb4.size
    have hw2 := hB2.size
    obtain ⟨cp, hcp⟩ : ∃ cp, capN a0 = cp := ⟨_, rfl⟩
    have ht0 := twin_new a0
    rw [hcp] at r4 ht0 ⊢
    have HD4 := Lib.hid d4
    have HR4 := Lib.hid r4
    have HT0 := Lib.hid ht0
    have HB4 := Lib.hid hB4
    clear d3 hb3 hB3 r4 hb4 hB4 d4 hB2 ht0 hcp
    obtain ⟨b, hb⟩ : ∃ b, w2.heap.size = b := ⟨_, rfl⟩
    rw [hb] at HD4 hz3 hw2 ⊢
    clear hb
    go_wp2_with fail
    obtain ⟨w5, hw5⟩ : ∃ w5, w4.alloc (.cells #[.slice none 0 0, .slice none 0 0, .int .i64 (cp : Nat), .int .i64 (-1), .bool false, .int .i64 0] 32) = w5 := ⟨_, rfl⟩
    rw [hw5]
    have hb45 : Below w4.heap.size w4 w5 := by rw [← hw5]; exact (Below.refl _ _).alloc (Nat.le_refl _) _
    have hX5 : w5.heap[w4.heap.size]? = some (.cells #[.slice none 0 0, .slice none 0 0, .int .i64 (cp : Nat), .int .i64 (-1), .bool false, .int .i64 0] 32 (0, 0)) := by rw [← hw5]; exact World.alloc_heap_new _ _
    have HX5 := Lib.hid hX5
    have HD5 := Lib.hid (HD4.out.below hb45)
    have HR5 := Lib.hid (HR4.out.below hb45)
    have HB5 := Lib.hid (HB4.out.trans (hb45.mono HB4.out.size))
    have hx5 := (Array.getElem?_eq_some_iff.1 hX5).1
    obtain ⟨X, hX⟩ : ∃ X, w4.heap.size = X := ⟨_, rfl⟩
    rw [hX] at HX5 hx5 hz34 ⊢
    have HXW : w.heap.size ≤ X := by omega
    clear hw5 hb45 hX5 HD4 HR4 HB4 hX
    have HSA := Lib.hid (dsame_any w5 HD5.out HR5.out HT0.out)
    dsimp only [RefS.val] at HSA
    refine HSA.out.mono ?_
    rintro e w6 ⟨rfl, hb6⟩
    have hX6 := (hb6.block X hx5).trans HX5.out
    have hpl : PlayI w b X 0 w6 := ⟨⟨[b], newD a0, _, .slice none 0 0, .slice none 0 0, _, _, HD5.out.below hb6, HR5.out.below hb6, HT0.out, (fun ad m c e => by cases e), (fun ad m c e => by cases e), (fun hk => by simp at hk; omega), (fun k hk => by simp at hk; omega), hX6⟩, HB5.out.trans (hb6.mono HB5.out.size)⟩
    have HPL := Lib.hid hpl
    clear hX6 hpl hb6 HSA HX5 HD5 HR5 HB5 HT0
    go_wp2
    go_loopw [26] (fun i wr => ∃ k : Nat, k ≤ n ∧ i = .int .i64 k ∧ PlayI w b X k wr) (fun i _ => n - (intOf i).toNat)
    case atStart => exact ⟨0, Nat.zero_le _, rfl, HPL.out⟩
    case round =>
      obtain ⟨k, hk, rfl, hP⟩ := hrel
      have HP := Lib.hid hP
      clear hP HPL
      by_cases hlt : k < n
      · obtain ⟨x, hx⟩ : ∃ x, l1[k]? = some x := ⟨l1[k]'(by rw [HN.out]; exact hlt), List.getElem?_eq_getElem _⟩
        obtain ⟨xb, off, va, vc, rfl, hxb, e0, e1, e2, e3, eS⟩ := HS.out.at_ hx
        have hxm := List.mem_of_getElem? hx
        have hdx := HDL.out x hxm
        have HXO := Lib.hid (HOK.out x hxm)
        have hbr := HP.out.below
        have c0 := (hbr.cell (p := ⟨xb, off + k * 4, none⟩) hxb).trans e0
        have c1' := (hbr.cell (p := ⟨xb, off + k * 4 + 1, none⟩) hxb).trans e1
        have c2 := (hbr.cell (p := ⟨xb, off + k * 4 + 2, none⟩) hxb).trans e2
        have c3 := (hbr.cell (p := ⟨xb, off + k * 4 + 3, none⟩) hxb).trans e3
        have HES := Lib.hid eS
        have hki : (k : Int) < n := by omega
        have hk0 : (0 : Int) ≤ k := by omega
        obtain ⟨own, D, R, A, B, v0, v1, hD, hR, hT, oa, ob, hXo, hge, hXr⟩ := HP.out.has
        have hT40 : k ≤ 40 := by omega
        obtain ⟨hok, hT2⟩ := do_twin hT hT40 hD.ok x
        have hA : Below wr.heap.size wr (wr.alloc (.cells #[.int .i64 x.kind, .int .i64 x.region, .int .i64 x.n, .slice va x.data.length vc] 36)) := (Below.refl _ _).alloc (Nat.le_refl _) _
        have hSd : Sl encY (wr.alloc (.cells #[.int .i64 x.kind, .int .i64 x.region, .int .i64 x.n, .slice va x.data.length vc] 36)).heap.size (wr.alloc (.cells #[.int .i64 x.kind, .int .i64 x.region, .int .i64 x.n, .slice va x.data.length vc] 36)) (.slice va x.data.length vc) x.data := (eS.below (hbr.trans (hA.mono hbr.size))).mono (Nat.le_trans hbr.size hA.size)
        have hod : Off own (.slice va x.data.length vc) := off_old eS own hge
        have hdo := do_any x HXO.out (by omega) (by rw [← hT.tn]; exact hD.ok.tn) va vc _ (hD.below hA) (hR.below hA) oa ob hSd hod
        rw [hok] at hdo
        obtain ⟨a0', c0', hA0⟩ := hR.a.form
        obtain ⟨a1', c1'', hB0⟩ := hR.b.form
        subst hA0
        subst hB0
        obtain ⟨cap, r0, r1, down, lf, tn⟩ := R
        obtain ⟨RR, hRR⟩ : ∃ RR, doR ⟨cap, r0, r1, down, lf, tn⟩ x = RR := ⟨_, rfl⟩
        rw [hRR] at hdo hT2
        obtain ⟨cap', r0', r1', down', lf', tn'⟩ := RR
        dsimp only [RefS.val, OpS.val] at hdo hXr hR oa ob
        obtain ⟨m0, hm0⟩ : ∃ m, r0.length = m := ⟨_, rfl⟩
        obtain ⟨m1, hm1⟩ : ∃ m, r1.length = m := ⟨_, rfl⟩
        obtain ⟨q, hq⟩ : ∃ q, x.data.length = q := ⟨_, rfl⟩
        rw [hm0, hm1] at hdo hXr
        rw [hq] at hdo c3 hA
        have HDO := Lib.hid hdo
        have hXb := (Array.getElem?_eq_some_iff.1 hXr).1
        have k0 : wr.cell? ⟨X, 0, none⟩ = some (.slice a0' m0 c0') := cell_of_row wr _ 0 _ _ _ hXr
        have k1 : wr.cell? ⟨X, 1, none⟩ = some (.slice a1' m1 c1'') := cell_of_row wr _ 1 _ _ _ hXr
        have k2 : wr.cell? ⟨X, 2, none⟩ = some (.int .i64 (cap : Nat)) := cell_of_row wr _ 2 _ _ _ hXr
        have k3 : wr.cell? ⟨X, 3, none⟩ = some (.int .i64 lf) := cell_of_row wr _ 3 _ _ _ hXr
        have k4 : wr.cell? ⟨X, 4, none⟩ = some (.bool down) := cell_of_row wr _ 4 _ _ _ hXr
        have k5 : wr.cell? ⟨X, 5, none⟩ = some (.int .i64 (tn : Nat)) := cell_of_row wr _ 5 _ _ _ hXr
        have HXR := Lib.hid hXr
        have HT2 := Lib.hid hT2
        have HXO' := Lib.hid hXo
        have HGE := Lib.hid hge
        have HBR := Lib.hid hbr
        have HLT := Lib.hid hD.lt
        have HA := Lib.hid hA
        clear hRR hx e0 e1 e2 e3 eS hxm hdx hbr hD hR hT oa ob hXo hge hXr hT40 hok hT2 hA hSd hod hdo hm0 hm1 hq
        go_wp2_with fail
        refine HDO.out.mono ?_
        rintro e w7 ⟨own', x', y', A', B', rfl, hD', hR', oa', ob', hbut', hs'⟩
        obtain ⟨a5, c5, hA0⟩ := hR'.a.form
        obtain ⟨a6, c6, hB0⟩ := hR'.b.form
        dsimp only at hA0 hB0
        subst hA0
        subst hB0
        dsimp only [RefS.val]
        obtain ⟨m0', hm0'⟩ : ∃ m, r0'.length = m := ⟨_, rfl⟩
        obtain ⟨m1', hm1'⟩ : ∃ m, r1'.length = m := ⟨_, rfl⟩
        rw [hm0', hm1'] at hR' ⊢
        rw [hm0'] at oa'
        rw [hm1'] at ob'
        have hX7 := (hbut'.block X (Nat.lt_of_lt_of_le hXb HA.out.size) HXO'.out).trans ((HA.out.block X hXb).trans HXR.out)
        have hX7b := (Array.getElem?_eq_some_iff.1 hX7).1
        have ma := off_dev hR'.a hX7
        have mb := off_dev hR'.b hX7
        have hXo7 : X ∉ own' := fun hk => by
          rcases hs' X hk with h | h
          · exact HXO'.out h
          · have := HA.out.size; omega
        obtain ⟨hB7, hge7⟩ := step_dev (HBR.out.trans (HA.out.mono HBR.out.size)) HGE.out hbut' hs'
        have k0 : w7.cell? ⟨X, 0, none⟩ = some (.slice a0' m0 c0') := cell_of_row w7 _ 0 _ _ _ hX7
        have k1 : w7.cell? ⟨X, 1, none⟩ = some (.slice a1' m1 c1'') := cell_of_row w7 _ 1 _ _ _ hX7
        have k2 : w7.cell? ⟨X, 2, none⟩ = some (.int .i64 (cap : Nat)) := cell_of_row w7 _ 2 _ _ _ hX7
        have k3 : w7.cell? ⟨X, 3, none⟩ = some (.int .i64 lf) := cell_of_row w7 _ 3 _ _ _ hX7
        have k4 : w7.cell? ⟨X, 4, none⟩ = some (.bool down) := cell_of_row w7 _ 4 _ _ _ hX7
        have k5 : w7.cell? ⟨X, 5, none⟩ = some (.int .i64 (tn : Nat)) := cell_of_row w7 _ 5 _ _ _ hX7
        have f0 := frozen_of_row w7 X 0 _ _ hX7
        have f1 := frozen_of_row w7 X 1 _ _ hX7
        have f2 := frozen_of_row w7 X 2 _ _ hX7
        have f3 := frozen_of_row w7 X 3 _ _ hX7
        have f4 := frozen_of_row w7 X 4 _ _ hX7
        have f5 := frozen_of_row w7 X 5 _ _ hX7
        have HD7 := Lib.hid hD'
        have HR7 := Lib.hid hR'
        have HO7 := Lib.hid (And.intro oa' ob')
        have HM7 := Lib.hid (And.intro ma mb)
        have HX7 := Lib.hid hX7
        have HXO7 := Lib.hid hXo7
        have HB7 := Lib.hid hB7
        have HGE7 := Lib.hid hge7
        clear hm0' hm1' hD' hR' oa' ob' ma mb hX7 hXo7 hB7 hge7 hbut' hs' HDO HA HXR HXO' HGE HBR HLT
        go_wp2_with fail
        obtain ⟨w8, hw8⟩ : ∃ w8, (((((((w7.setCell ⟨X, 0, none⟩ (.slice a5 m0' c5)).setCell ⟨X, 1, none⟩ (.slice a6 m1' c6)).setCell ⟨X, 2, none⟩ (.int .i64 (cap' : Nat))).setCell ⟨X, 3, none⟩ (.int .i64 lf')).setCell ⟨X, 4, none⟩ (.bool down')).setCell ⟨X, 5, none⟩ (.int .i64 (tn' : Nat))).alloc (.cells #[.slice a5 m0' c5, .slice a6 m1' c6, .int .i64 (cap' : Nat), .int .i64 lf', .bool down', .int .i64 (tn' : Nat)] 32)) = w8 := ⟨_, rfl⟩
        rw [hw8]
        have hbut8 : But [X] w7 w8 := by rw [← hw8]; exact (set6_but w7 X).trans' (But.of_below ((Below.refl _ _).alloc (Nat.le_refl _) _))
        have hX8 : w8.heap[X]? = some (.cells #[.slice a5 m0' c5, .slice a6 m1' c6, .int .i64 (cap' : Nat), .int .i64 lf', .bool down', .int .i64 (tn' : Nat)] 32 (0, 0)) := by
          rw [← hw8, Below.heap_alloc _ _ _ (by simp; omega)]
          exact heap_set6 HX7.out
        have hD8 := HD7.out.but hbut8 (fun k hk hk2 => by simp at hk2; subst hk2; exact HXO7.out hk)
        have hR8 := HR7.out.but hbut8 HM7.out.1 HM7.out.2
        have hB8 : Below w.heap.size w w8 := by
          rw [← hw8]
          exact (set6_below HB7.out (by have := HXW; omega)).alloc (by have := HB7.out.size; simp; omega) _
        have HSA := Lib.hid (dsame_any w8 hD8 hR8 HT2.out)
        dsimp only [RefS.val] at HSA
        have HD8 := Lib.hid hD8
        have HR8 := Lib.hid hR8
        have HX8 := Lib.hid hX8
        have HB8 := Lib.hid hB8
        clear hw8 hbut8 hX8 hD8 hR8 hB8 HD7 HR7 HX7 HB7 k0 k1 k2 k3 k4 k5 f0 f1 f2 f3 f4 f5
        refine HSA.out.mono ?_
        rintro e w9 ⟨rfl, hb9⟩
        have hX9 := (hb9.block X (Array.getElem?_eq_some_iff.1 HX8.out).1).trans HX8.out
        have hpl : PlayI w b X (k + 1) w9 := ⟨⟨own', doD D x, _, _, _, _, _, HD8.out.below hb9, HR8.out.below hb9, HT2.out, HO7.out.1, HO7.out.2, HXO7.out, HGE7.out, hX9⟩, HB8.out.trans (hb9.mono HB8.out.size)⟩
        have HPL := Lib.hid hpl
        clear hX9 hpl hb9 HSA HX8 HD8 HR8 HB8 HM7 HO7 HXO7 HGE7 HT2
        go_wp2_with fail
        go_roundw
        case rel => (repeat apply Exists.intro); exact ⟨⟨k + 1, hlt, by go_num, HPL.out⟩, rfl⟩
        case measure => simp [intOf]; omega
      · obtain rfl : k = n := by omega
        have hki : ¬ (k : Int) < k := by omega
        go_wp2
        go_ret
        exact ⟨rfl, HP.out.below⟩


set_option maxRecDepth 100000 in
theorem lifted (os : Os) (started : os.Started) (H : Type) (enc : TypeId × Value → H) :
    ReturnsInHanded {} Try.checked os 4 .any (Rows.devicePlaysSpec.pre6 enc Try.prog Try.f4 Rows.devicePlaysRow.domain false) (Rows.devicePlaysSpec.post enc Try.prog Try.f4 false true false false) := by
  refine returnsInHanded_of_change (C := Try.checked) own started (by kernel_rfl) Try.func4
    (ChangeSpec.witness6 (enc := enc) (C := Try.checked) false ⟨#[], #[.int .i64 0, .slice none 0 0], []⟩ 8 (by kernel_rfl) (by kernel_rfl) (by kernel_rfl) (by kernel_rfl)) ?_
  intro W base args ds gs before hval0 hW hcnd _
  have hval : ∀ (j : Nat) t v, Try.f4.params[j]? = some t → args[j]? = some v → Value.okWide Try.prog W .any base t v := hval0
  have hW' := hW
  obtain ⟨p, q, hA0, hV, rfl, hfz, hnd⟩ := hW
  have hA : DataW.TrodAll enc Try.prog W 0 (fun _ => true) true Try.f4.params.toList args.toList ds p := hA0
  rw [Try.params4] at hA hval
  have hAk := hA
  obtain ⟨v0, vs0, d0, ds0, p0', q0, hargs, rfl, rfl, h0, r0⟩ := trodAll_cons hA
  obtain ⟨v1, vs1, d1, ds1, p1', q1, rfl, rfl, rfl, h1, r1⟩ := trodAll_cons r0
  obtain ⟨rfl, rfl, rfl⟩ := trodAll_nil r1
  obtain rfl : args = #[v0, v1] := by cases args; simp_all
  obtain ⟨rfl, rfl⟩ := trodVars_none hV
  simp only [List.append_nil] at hW' hAk
  have hlt := fun x hx => hW'.lt x hx
  clear hA0 hval0
  obtain ⟨a0, rfl, rfl, rfl, w0⟩ := open_int Try.underlying3 (hval 0 3 v0 rfl rfl) h0
  obtain ⟨p1, n1, c1, l1, rfl, S1, b1⟩ := open_ops (okWide_slice Try.underlying27 (hval 1 27 v1 rfl rfl)) h1
  refine (walk W a0 w0 p1 n1 c1 l1 S1 b1).mono fun e W' ⟨he, hg⟩ => ?_
  subst he
  have hargs := trodAll_below hg _ _ _ _ (by intro t ht; simp only [List.mem_cons, List.not_mem_nil, or_false] at ht; revert t; rintro t (rfl | rfl) <;> exact ⟨by kernel_rfl, of_decide_eq_true (by kernel_rfl)⟩) hAk (fun x hx => by simpa using hlt x hx)
  exact ⟨_, rfl, _, _, _, [], _, [], hW', (trodAll_cons_mk (shut_bool Try.underlying4 _) trodAll_mk0), hargs, rfl, hg.frame _, fun h => by cases h⟩

theorem over : Rows.devicePlaysRow.holds Try.pinned (OpenSpec.ofChange Rows.devicePlaysSpec) :=
  OpenClaim.holds_of_wide 4 Try.f4 rfl rfl rfl rfl rfl rfl rfl ⟨rfl, rfl, rfl, rfl, rfl⟩ rfl rfl rfl rfl rfl (by kernel_rfl) Try.func4 (by kernel_rfl)
    (of_decide_eq_true (by kernel_rfl)) (by unfold Func.isWrapper; first | (rw [if_pos (by decide +kernel)]; kernel_rfl) | (rw [if_neg (by decide +kernel)]; exact ⟨rfl, rfl⟩))
    (fun os started H enc _ => lifted os started H enc)

theorem proved : Rows.DevicePlaysSaid :=
  over
end Go.Proofs.Ytdimjeppcfacdaa.devicePlays
