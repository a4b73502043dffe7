/- For whatever row of atoms and set law AtomNormals answers true: the normal list, the check, the values and the items are those of the document. No condition. -/
import Derived.Test.YtfgppkmhjjnnnaaAtoAl
import Derived.Test.YtfgppkmhjjnnnaaOpenAt
namespace Go.Proofs.Ytfgppkmhjjnnnaa.atomNormals
open Go.ChangeShapes Go.WideShapes Go.ChangeAt Go.RowKit Go.Proofs.Ytfgppkmhjjnnnaa
set_option linter.unusedVariables false
attribute [local go_sem] Oper.semAt_some
theorem umax_app (l : List Ent) (x : Ent) : umax (l ++ [x]) = umax l ||| x.1 := by
  induction l with
  | nil => show x.1 ||| 0 = 0 ||| x.1; simp
  | cons y r ih => rw [List.cons_append, umax_cons, ih, umax_cons, Nat.or_assoc]
theorem umax_next (zs : List Ent) (m : Nat) {x : Ent} (hx : zs[m]? = some x) : umax ((zs.take (m + 1)).filter (rightA 1099511627776)) = if rightA 1099511627776 x = true then umax ((zs.take m).filter (rightA 1099511627776)) ||| x.1 else umax ((zs.take m).filter (rightA 1099511627776)) := by
  rw [take_snoc hx, List.filter_append]
  cases h : rightA 1099511627776 x with
  | true => rw [show [x].filter (rightA 1099511627776) = [x] from by simp [h], umax_app]; rfl
  | false => rw [show [x].filter (rightA 1099511627776) = [] from by simp [h], List.append_nil]; rfl
theorem umax_ok : ∀ l : List Ent, (∀ x ∈ l, okS x.1) → okS (umax l)
  | [], _ => by show (0 : Nat) < 18446744073709551616; decide
  | x :: r, h => Nat.or_lt_two_pow (n := 64) (h x List.mem_cons_self) (umax_ok r (fun y hy => h y (List.mem_cons_of_mem _ hy)))

set_option maxRecDepth 100000 in
set_option maxHeartbeats 16000000 in
theorem walk (w : World) (p0 : Option Addr) (n0 c0 : Nat) (l0 : List Ent) (S0 : EnsP w.heap.size w (.slice p0 n0 c0) l0) (b0 : (∀ x ∈ l0, okS x.1 ∧ In64 x.2) ∧ l0.length ≤ Go.maxLen) (a1 : Int) (w1 : (Lit.int .u64 a1).wf = true) :
    Calls Try.prog 3 #[.slice p0 n0 c0, .int .u64 a1] w fun e w' => e = .returned (.bool true) ∧ Below w.heap.size w w' := by
  obtain ⟨items, rfl, hit⟩ := u64_bd w1
  have hn := S0.len
  have HAL := Lib.hid (fun W => atomAlive_any W)
  have HOK : Hid (∀ x ∈ l0, okS x.1) := Lib.hid (fun x hx => (b0.1 x hx).1)
  have HN := Lib.hid hn.symm
  have HAS : Hid (∀ W, Below w.heap.size w W → EnsP W.heap.size W (.slice p0 n0 c0) l0) := Lib.hid (fun W hb => (S0.below hb (Nat.le_refl _)).mono hb.size)
  have HZ := Lib.hid S0
  have HIT := Lib.hid hit
  clear S0 b0 hn hit w1
  by_cases h80 : 80 < n0
  · have g0 : decide ((80 : Int) < (n0 : Int)) = true := decide_eq_true (by omega)
    go_enter Try.func3, Try.ntmps3
    go_wp2_with (go_at_call 7; refine (HAL.out _).mono ?_; rintro e w2 ⟨rfl, hb2⟩; have HB2 := Lib.hid hb2; clear hb2)
    go_ret
    exact ⟨rfl, HB2.out⟩
  have g0 : decide ((80 : Int) < (n0 : Int)) = false := decide_eq_false (by omega)
  have h80' : n0 ≤ 80 := by omega
  clear h80
  go_enter Try.func3, Try.ntmps3
  go_wp2_with (go_at_call 7; refine (HAL.out _).mono ?_; rintro e w2 ⟨rfl, hb2⟩; have HB2 := Lib.hid hb2; clear hb2)
  go_loopw [5, 16] (fun un i wr => ∃ m : Nat, un = .int .u64 ((umax ((l0.take m).filter (rightA 1099511627776)) : Nat) : Int) ∧ i = .int .i64 m ∧ m ≤ n0 ∧ Below w.heap.size w wr) (fun _ i _ => n0 - (intOf i).toNat)
  case atStart => exact ⟨0, rfl, rfl, Nat.zero_le _, HB2.out⟩
  case round =>
    obtain ⟨m, rfl, rfl, hm, hB⟩ := hrel
    by_cases hlt : m < n0
    · obtain ⟨⟨k, u⟩, hk⟩ : ∃ x, l0[m]? = some x := ⟨_, List.getElem?_eq_getElem (by rw [HN.out]; exact hlt)⟩
      obtain ⟨b, off, rfl, hb, f0, f1⟩ := HZ.out.at_ hk
      have hkok := HOK.out _ (List.mem_of_getElem? hk)
      have hnx := umax_next l0 m hk
      have hum := umax_ok ((l0.take m).filter (rightA 1099511627776)) (fun x hx => HOK.out x (List.mem_of_mem_take (List.mem_filter.1 hx).1))
      have d0 := (hB.cell (p := ⟨b, off + m * 2, none⟩) hb).trans f0
      have d1 := (hB.cell (p := ⟨b, off + m * 2 + 1, none⟩) hb).trans f1
      simp only at d0 d1 hkok hnx
      have g1 : (0 : Int) ≤ m := by omega
      have g2 : (m : Int) < n0 := by omega
      obtain ⟨W1, hW1⟩ : ∃ W1, wr.alloc (.cells #[.int .u64 (k : Nat), .int .i64 u] 26) = W1 := ⟨_, rfl⟩
      have hb01 : Below wr.heap.size wr W1 := by rw [← hW1]; exact (Below.refl _ _).alloc (Nat.le_refl _) _
      have hnew : W1.heap[wr.heap.size]? = some (.cells #[.int .u64 (k : Nat), .int .i64 u] 26) := by rw [← hW1]; exact World.alloc_heap_new wr _
      have hBlt : wr.heap.size < W1.heap.size := by rw [← hW1]; simp
      have c0 := BelW.cell (w := W1) (a := ⟨wr.heap.size, 0, none⟩) hBlt (cell_of_row W1 _ 0 _ _ _ hnew)
      have c1 := BelW.cell (w := W1) (a := ⟨wr.heap.size, 1, none⟩) hBlt (cell_of_row W1 _ 1 _ _ _ hnew)
      have HB1 : Hid (Below w.heap.size w W1) := Lib.hid (hB.trans (hb01.mono hB.size))
      have HR1 : Hid (∀ p : BelW W1, Calls Try.prog 8 #[.agg #[.int .u64 (k : Nat), .int .i64 u]] p.W fun e w' => e = .returned (.bool (rightA 1099511627776 (k, u))) ∧ Below p.W.heap.size p.W w') := Lib.hid (fun p => (right_any (k, u) p.W hkok).mono fun e w' ⟨h1, h2⟩ => ⟨h1, by rw [h2]; exact (Below.refl _ _).alloc (Nat.le_refl _) _⟩)
      have HR2 : Hid (∀ p : BelW W1, Calls Try.prog 9 #[.agg #[.int .u64 (k : Nat), .int .i64 u]] p.W fun e w' => e = .returned (.bool (rightA 1099511627776 (k, u))) ∧ Below p.W.heap.size p.W w') := Lib.hid (fun p => (refRight_any (k, u) p.W hkok).mono fun e w' ⟨h1, h2⟩ => ⟨h1, by rw [h2]; exact (Below.refl _ _).alloc (Nat.le_refl _) _⟩)
      obtain ⟨r, hr⟩ : ∃ r, rightA 1099511627776 (k, u) = r := ⟨_, rfl⟩
      rw [hr] at HR1 HR2 hnx
      obtain ⟨un, hun⟩ : ∃ un, umax ((l0.take m).filter (rightA 1099511627776)) = un := ⟨_, rfl⟩
      rw [hun] at hnx hum ⊢
      have hor := u64_or_nat un k hum hkok
      have gr : (r != r) = false := by simp
      have HW1 := Lib.hid hW1
      have HNX := Lib.hid hnx
      clear hB hW1 hnew hk f0 f1 hb01 hr hun hnx hum
      go_upto_region 9 with fail
      rw [HW1.out]
      refine wp_region_bel (by kernel_rfl) (by kernel_rfl) ?_
      repeat (quiet_step (first | (go_at_call 8; exact Calls.bel_of (HR1.out _)) | (go_at_call 9; exact Calls.bel_of (HR2.out _))))
      refine wpQuiet_nil ?_
      intro W3 hw'
      have hb3 : Below W1.heap.size W1 W3 := by
        obtain ⟨p, hp⟩ := hw'
        rw [hp]
        exact p.h
      have e0 := c0 ⟨W3, hb3⟩
      have e1 := c1 ⟨W3, hb3⟩
      have HR3 := Lib.hid (HR1.out ⟨W3, hb3⟩)
      simp only at e0 e1 HR3
      have HB3 : Hid (Below w.heap.size w W3) := Lib.hid (HB1.out.trans (hb3.mono HB1.out.size))
      have hBlt3 : wr.heap.size < W3.heap.size := Nat.lt_of_lt_of_le hBlt hb3.size
      clear hw' hb3 c0 c1 HR1 HR2 HB1 d0 d1
      cases r with
      | true =>
        go_wp2_with fail
        refine HR3.out.mono ?_
        rintro e W4 ⟨rfl, hb4⟩
        have k0 := (hb4.cell (p := ⟨wr.heap.size, 0, none⟩) hBlt3).trans e0
        have HB4 : Hid (Below w.heap.size w W4) := Lib.hid (HB3.out.trans (hb4.mono HB3.out.size))
        clear hb4
        go_wp2_with fail
        go_roundw
        case rel => exact ⟨m + 1, by rw [HNX.out]; rfl, by go_num, by omega, HB4.out⟩
        case measure => simp [intOf]; omega
      | false =>
        go_wp2_with fail
        refine HR3.out.mono ?_
        rintro e W4 ⟨rfl, hb4⟩
        have HB4 : Hid (Below w.heap.size w W4) := Lib.hid (HB3.out.trans (hb4.mono HB3.out.size))
        clear hb4
        go_wp2_with fail
        go_roundw
        case rel => exact ⟨m + 1, by rw [HNX.out]; rfl, by go_num, by omega, HB4.out⟩
        case measure => simp [intOf]; omega
    · obtain rfl : m = n0 := by omega
      rw [List.take_of_length_le (by rw [HN.out]; exact Nat.le_refl _)]
      obtain ⟨un, hun⟩ : ∃ un, umax (l0.filter (rightA 1099511627776)) = un := ⟨_, rfl⟩
      rw [hun]
      have hui : umax (l0.filter (inA 18446744073709551615)) = un := by rw [← hun]; exact congrArg umax (List.filter_congr (fun x _ => by unfold inA; rw [within_full, Bool.and_true]))
      have HUI := Lib.hid hui
      obtain ⟨w3, rfl⟩ : ∃ x, x = wr := ⟨wr, rfl⟩
      have HB3 := Lib.hid hB
      clear hB hun hui
      have gm : ¬ (m : Int) < m := by omega
      have hl80 : l0.length ≤ 80 := by rw [HN.out]; exact h80'
      have HL8 := Lib.hid hl80
      clear hl80
      go_wp2_with fail
      refine (refNormal_any p0 m c0 l0 HOK.out (by have := HL8.out; omega) w3 (HAS.out w3 HB3.out)).mono ?_
      rintro e w4 ⟨oa, oc, rfl, hEW, hb⟩
      have HB4 : Hid (Below w.heap.size w w4) := Lib.hid (HB3.out.trans (hb.mono HB3.out.size))
      have HEW := Lib.hid hEW
      clear hEW
      obtain ⟨nr, hnr⟩ : ∃ nr, refN l0 l0.length = nr := ⟨_, rfl⟩
      have HNR : Hid (IsNrm l0 nr) := Lib.hid (by rw [← hnr]; exact refN_nrm HOK.out)
      have HNL : Hid (nr.length ≤ 80) := Lib.hid (by rw [← hnr]; have := refN_len (zs := l0) l0.length; have := HL8.out; omega)
      rw [hnr] at HEW ⊢
      obtain ⟨nl, hnl⟩ : ∃ nl, nr.length = nl := ⟨_, rfl⟩
      have HNLL := Lib.hid hnl
      rw [hnl] at HEW ⊢
      clear hnr hnl
      clear hb
      go_wp2_with fail
      refine (normal_any p0 m c0 l0 HOK.out (by have := HL8.out; omega) w4 (HAS.out w4 HB4.out)).mono ?_
      rintro e w5 ⟨v, out, rfl, hnrm, hol, hook, hrow, hb⟩
      have HB5 : Hid (Below w.heap.size w w5) := Lib.hid (HB4.out.trans (hb.mono HB4.out.size))
      obtain rfl := HNR.out.uniq hnrm
      have hE5 := EnsP.of_owns hrow
      obtain ⟨va, vc, rfl⟩ := own_form hrow
      have HE5 := Lib.hid hE5
      have HW5 : Hid (EnsP w5.heap.size w5 (.slice oa nl oc) nr) := Lib.hid ((HEW.out.below hb (Nat.le_refl _)).mono hb.size)
      clear hrow hE5 hnrm hol hook
      clear hb
      go_wp2_with fail
      refine (refSame2_any va oa nr.length nl vc oc nr nr (by have := HNL.out; omega) (by have := HNL.out; omega) w5 HE5.out HW5.out).mono ?_
      rintro e w6 ⟨rfl, hb⟩
      have HB6 : Hid (Below w.heap.size w w6) := Lib.hid (HB5.out.trans (hb.mono HB5.out.size))
      have HW6 : Hid (EnsP w6.heap.size w6 (.slice oa nl oc) nr) := Lib.hid ((HW5.out.below hb (Nat.le_refl _)).mono hb.size)
      rw [show decide (nr = nr) = true from by simp]
      clear hb
      go_wp2_with fail
      refine (isNormal_any p0 m c0 l0 nr HOK.out (by have := HL8.out; omega) w6 (HAS.out w6 HB6.out) HNR.out).mono ?_
      rintro e w7 ⟨rfl, hb⟩
      have HB7 : Hid (Below w.heap.size w w7) := Lib.hid (HB6.out.trans (hb.mono HB6.out.size))
      have HW7 : Hid (EnsP w7.heap.size w7 (.slice oa nl oc) nr) := Lib.hid ((HW6.out.below hb (Nat.le_refl _)).mono hb.size)
      obtain ⟨dq, hdq⟩ : ∃ dq, decide (l0 = nr) = dq := ⟨_, rfl⟩
      have HDQ := Lib.hid hdq
      rw [hdq]
      clear hdq
      clear hb
      go_wp2_with fail
      refine (refSame2_any p0 oa m nl c0 oc l0 nr (by have := HL8.out; omega) (by have := HNL.out; omega) w7 (HAS.out w7 HB7.out) HW7.out).mono ?_
      rintro e w8 ⟨rfl, hb⟩
      have HB8 : Hid (Below w.heap.size w w8) := Lib.hid (HB7.out.trans (hb.mono HB7.out.size))
      rw [HDQ.out]
      have gdq : (dq == dq) = true := by simp
      clear hb
      go_wp2_with fail
      refine (check_any p0 m c0 items l0 HIT.out HOK.out (by have := HL8.out; omega) w8 (HAS.out w8 HB8.out)).mono ?_
      rintro e w9 ⟨rfl, hb⟩
      have HB9 : Hid (Below w.heap.size w w9) := Lib.hid (HB8.out.trans (hb.mono HB8.out.size))
      obtain ⟨cv, hcv⟩ : ∃ cv, checkV l0 items = cv := ⟨_, rfl⟩
      have HCV := Lib.hid hcv
      rw [hcv]
      clear hcv
      have gcv : (cv == cv) = true := by simp
      clear hb
      go_wp2_with fail
      refine (refCheck_any p0 m c0 items l0 HIT.out HOK.out (by have := HL8.out; omega) w9 (HAS.out w9 HB9.out)).mono ?_
      rintro e w10 ⟨rfl, hb⟩
      have HB10 : Hid (Below w.heap.size w w10) := Lib.hid (HB9.out.trans (hb.mono HB9.out.size))
      rw [HCV.out]
      clear hb
      go_wp2_with fail
      refine (value_any p0 m c0 items l0 HIT.out HOK.out (by have := HL8.out; omega) w10 (HAS.out w10 HB10.out)).mono ?_
      rintro e w11 ⟨rfl, hb⟩
      have HB11 : Hid (Below w.heap.size w w11) := Lib.hid (HB10.out.trans (hb.mono HB10.out.size))
      obtain ⟨vv, hvv⟩ : ∃ vv, askL withinB (l0.filter (rightA 1099511627776)) items = vv := ⟨_, rfl⟩
      have HVV := Lib.hid hvv
      rw [hvv]
      clear hvv
      have gvv : (vv == vv) = true := by simp
      clear hb
      go_wp2_with fail
      refine (refValue_any p0 m c0 items l0 HIT.out HOK.out (by have := HL8.out; omega) w11 (HAS.out w11 HB11.out)).mono ?_
      rintro e w12 ⟨rfl, hb⟩
      have HB12 : Hid (Below w.heap.size w w12) := Lib.hid (HB11.out.trans (hb.mono HB11.out.size))
      rw [HVV.out]
      clear hb
      go_wp2_with fail
      refine (most_any p0 m c0 l0 HOK.out (by have := HL8.out; omega) w12 (HAS.out w12 HB12.out)).mono ?_
      rintro e w13 ⟨rfl, hb⟩
      have HB13 : Hid (Below w.heap.size w w13) := Lib.hid (HB12.out.trans (hb.mono HB12.out.size))
      obtain ⟨mv, hmv⟩ : ∃ mv, askL withinB (l0.filter (rightA 1099511627776)) 18446744073709551615 = mv := ⟨_, rfl⟩
      have HMV := Lib.hid hmv
      rw [hmv]
      clear hmv
      have gmv : (mv == mv) = true := by simp
      clear hb
      go_wp2_with fail
      refine (refValue_any p0 m c0 18446744073709551615 l0 (by unfold okS; decide) HOK.out (by have := HL8.out; omega) w13 (HAS.out w13 HB13.out)).mono ?_
      rintro e w14 ⟨rfl, hb⟩
      have HB14 : Hid (Below w.heap.size w w14) := Lib.hid (HB13.out.trans (hb.mono HB13.out.size))
      rw [HMV.out]
      clear hb
      go_wp2_with fail
      refine (union_any p0 m c0 l0 HOK.out (by have := HL8.out; omega) w14 (HAS.out w14 HB14.out)).mono ?_
      rintro e w15 ⟨rfl, hb⟩
      have HB15 : Hid (Below w.heap.size w w15) := Lib.hid (HB14.out.trans (hb.mono HB14.out.size))
      rw [HUI.out]
      have guv : ((un : Int) == (un : Int)) = true := by simp
      clear hb
      go_wp2
      go_ret
      exact ⟨rfl, HB15.out⟩


set_option maxRecDepth 100000 in
theorem lifted (os : Os) (started : os.Started) (H : Type) (enc : TypeId × Value → H) :
    ReturnsInHanded {} Try.checked os 3 .any (Rows.atomNormalsSpec.pre6 enc Try.prog Try.f3 Rows.atomNormalsRow.domain false) (Rows.atomNormalsSpec.post enc Try.prog Try.f3 false true false false) := by
  refine returnsInHanded_of_change (C := Try.checked) own started (by kernel_rfl) Try.func3
    (ChangeSpec.witness6 (enc := enc) (C := Try.checked) false ⟨#[], #[.slice none 0 0, .int .u64 0], []⟩ 8 (by kernel_rfl) (by kernel_rfl) (by kernel_rfl) (by kernel_rfl)) ?_
  intro W base args ds gs before hval0 hW hcnd _
  have hval : ∀ (j : Nat) t v, Try.f3.params[j]? = some t → args[j]? = some v → Value.okWide Try.prog W .any base t v := hval0
  have hW' := hW
  obtain ⟨p, q, hA0, hV, rfl, hfz, hnd⟩ := hW
  have hA : DataW.TrodAll enc Try.prog W 0 (fun _ => true) true Try.f3.params.toList args.toList ds p := hA0
  rw [Try.params3] at hA hval
  have hAk := hA
  obtain ⟨v0, vs0, d0, ds0, p0', q0, hargs, rfl, rfl, h0, r0⟩ := trodAll_cons hA
  obtain ⟨v1, vs1, d1, ds1, p1', q1, rfl, rfl, rfl, h1, r1⟩ := trodAll_cons r0
  obtain ⟨rfl, rfl, rfl⟩ := trodAll_nil r1
  obtain rfl : args = #[v0, v1] := by cases args; simp_all
  obtain ⟨rfl, rfl⟩ := trodVars_none hV
  simp only [List.append_nil] at hW' hAk
  have hlt := fun x hx => hW'.lt x hx
  clear hA0 hval0
  obtain ⟨p0, n0, c0, l0, rfl, S0, b0⟩ := open_atoms (okWide_slice Try.underlying22 (hval 0 22 v0 rfl rfl)) h0
  obtain ⟨a1, rfl, rfl, rfl, w1⟩ := open_int Try.underlying23 (hval 1 23 v1 rfl rfl) h1
  refine (walk W p0 n0 c0 l0 S0 b0 a1 w1).mono fun e W' ⟨he, hg⟩ => ?_
  subst he
  have hargs := trodAll_below hg _ _ _ _ (by intro t ht; simp only [List.mem_cons, List.not_mem_nil, or_false] at ht; revert t; rintro t (rfl | rfl) <;> exact ⟨by kernel_rfl, of_decide_eq_true (by kernel_rfl)⟩) hAk (fun x hx => by simpa using hlt x hx)
  exact ⟨_, rfl, _, _, _, [], _, [], hW', (trodAll_cons_mk (shut_bool Try.underlying4 _) trodAll_mk0), hargs, rfl, hg.frame _, fun h => by cases h⟩

theorem over : Rows.atomNormalsRow.holds Try.pinned (OpenSpec.ofChange Rows.atomNormalsSpec) :=
  OpenClaim.holds_of_wide 3 Try.f3 rfl rfl rfl rfl rfl rfl rfl ⟨rfl, rfl, rfl, rfl, rfl⟩ rfl rfl rfl rfl rfl (by kernel_rfl) Try.func3 (by kernel_rfl)
    (of_decide_eq_true (by kernel_rfl)) (by unfold Func.isWrapper; first | (rw [if_pos (by decide +kernel)]; kernel_rfl) | (rw [if_neg (by decide +kernel)]; exact ⟨rfl, rfl⟩))
    (fun os started H enc _ => lifted os started H enc)

theorem proved : Rows.AtomNormalsSaid :=
  over
end Go.Proofs.Ytfgppkmhjjnnnaa.atomNormals
