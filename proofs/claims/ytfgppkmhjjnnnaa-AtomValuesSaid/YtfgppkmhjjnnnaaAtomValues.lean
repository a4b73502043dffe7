/- For whatever row of atoms and sets law AtomValues answers true: the normal list is normal, has no more atoms and the same value of each set. No condition. -/
import Derived.Test.YtfgppkmhjjnnnaaAtoAl
import Derived.Test.YtfgppkmhjjnnnaaOpenAt
namespace Go.Proofs.Ytfgppkmhjjnnnaa.atomValues
open Go.ChangeShapes Go.WideShapes Go.ChangeAt Go.RowKit Go.Proofs.Ytfgppkmhjjnnnaa
set_option linter.unusedVariables false
attribute [local go_sem] Oper.semAt_some
theorem nrm_filter {zs out : List Ent} (h : IsNrm zs out) : out.filter (rightA 1099511627776) = out := List.filter_eq_self.2 (fun x hx => by
  obtain ⟨_, h1, h2, h3⟩ := h.tight.right x hx
  unfold rightA
  simp [h1, h2, h3])
theorem nrm_self {zs out : List Ent} (h : IsNrm zs out) : IsNrm out out := ⟨h.tight, fun s => by rw [nrm_filter h]⟩
theorem nrm_own {zs out : List Ent} (h : IsNrm zs out) {k : Nat} {u : Int} (hm : (k, u) ∈ out) : askL withinB out k = u := ask_own sOrd h.tight hm

set_option maxRecDepth 100000 in
set_option maxHeartbeats 16000000 in
theorem walk (w : World) (p0 : Option Addr) (n0 c0 : Nat) (l0 : List Ent) (S0 : EnsP w.heap.size w (.slice p0 n0 c0) l0) (b0 : (∀ x ∈ l0, okS x.1 ∧ In64 x.2) ∧ l0.length ≤ Go.maxLen) (p1 : Option Addr) (n1 c1 : Nat) (l1 : List Nat) (S1 : SetP w.heap.size w (.slice p1 n1 c1) l1) (b1 : (∀ x ∈ l1, okS x) ∧ l1.length ≤ Go.maxLen) :
    Calls Try.prog 4 #[.slice p0 n0 c0, .slice p1 n1 c1] w fun e w' => e = .returned (.bool true) ∧ Below w.heap.size w w' := by
  have hn := S0.len
  have hn1 := S1.len
  have HAL := Lib.hid (fun W => atomAlive_any W)
  have HOK : Hid (∀ x ∈ l0, okS x.1) := Lib.hid (fun x hx => (b0.1 x hx).1)
  have HOS : Hid (∀ x ∈ l1, okS x) := Lib.hid b1.1
  have HN := Lib.hid hn.symm
  have HN1 := Lib.hid hn1.symm
  have HAS : Hid (∀ W, Below w.heap.size w W → EnsP W.heap.size W (.slice p0 n0 c0) l0) := Lib.hid (fun W hb => (S0.below hb (Nat.le_refl _)).mono hb.size)
  have HZ1 := Lib.hid S1
  clear S0 b0 S1 b1 hn hn1
  by_cases h80 : 80 < n0
  · have g0 : decide ((80 : Int) < (n0 : Int)) = true := decide_eq_true (by omega)
    go_enter Try.func4, Try.ntmps4
    go_wp2_with (go_at_call 7; refine (HAL.out _).mono ?_; rintro e w2 ⟨rfl, hb2⟩; have HB2 := Lib.hid hb2; clear hb2)
    go_ret
    exact ⟨rfl, HB2.out⟩
  have g0 : decide ((80 : Int) < (n0 : Int)) = false := decide_eq_false (by omega)
  by_cases h40 : 40 < n1
  · have g1 : decide ((40 : Int) < (n1 : Int)) = true := decide_eq_true (by omega)
    go_enter Try.func4, Try.ntmps4
    go_wp2_with (go_at_call 7; refine (HAL.out _).mono ?_; rintro e w2 ⟨rfl, hb2⟩; have HB2 := Lib.hid hb2; clear hb2)
    go_ret
    exact ⟨rfl, HB2.out⟩
  have g1 : decide ((40 : Int) < (n1 : Int)) = false := decide_eq_false (by omega)
  have HL8 : Hid (l0.length ≤ 80) := Lib.hid (by rw [HN.out]; omega)
  have h40' : n1 ≤ 40 := by omega
  have h80' : n0 ≤ 80 := by omega
  clear h80 h40
  go_enter Try.func4, Try.ntmps4
  go_wp2_with (go_at_call 7; refine (HAL.out _).mono ?_; rintro e w2 ⟨rfl, hb2⟩; have HB2 := Lib.hid hb2; clear hb2)
  refine (normal_any p0 n0 c0 l0 HOK.out (by have := HL8.out; omega) w2 (HAS.out w2 HB2.out)).mono ?_
  rintro e w3 ⟨v, nr, rfl, hnrm, hol, hook, hrow, hb⟩
  have HB3 : Hid (Below w.heap.size w w3) := Lib.hid (HB2.out.trans (hb.mono HB2.out.size))
  have hE3 := EnsP.of_owns hrow
  obtain ⟨va, vc, rfl⟩ := own_form hrow
  have HE3 : Hid (∀ W, Below w3.heap.size w3 W → EnsP W.heap.size W (.slice va nr.length vc) nr) := Lib.hid (fun W hb => (hE3.below hb (Nat.le_refl _)).mono hb.size)
  have HNR := Lib.hid hnrm
  have HNS := Lib.hid (nrm_self hnrm)
  have HFL := Lib.hid (nrm_filter hnrm)
  have HOR := Lib.hid hook
  have HNL : Hid (nr.length ≤ 80) := Lib.hid (by have := HL8.out; omega)
  have HB33 : Hid (Below w3.heap.size w3 w3) := Lib.hid (Below.refl _ _)
  have gll : decide (n0 < nr.length) = false := decide_eq_false (by have := HN.out; omega)
  obtain ⟨nl, hnl⟩ : ∃ nl, nr.length = nl := ⟨_, rfl⟩
  have HNLL := Lib.hid hnl
  have hnl80 : nl ≤ 80 := by have := HNL.out; omega
  rw [hnl] at HE3 gll ⊢
  clear hrow hE3 hb hnrm hol hook hnl
  go_wp2_with fail
  refine (isNormal_any va nl vc nr nr HOR.out (by have := HNL.out; omega) w3 (HE3.out w3 HB33.out) HNS.out).mono ?_
  rintro e w4 ⟨rfl, hb⟩
  have HB4 : Hid (Below w.heap.size w w4) := Lib.hid (HB3.out.trans (hb.mono HB3.out.size))
  have HB34 : Hid (Below w3.heap.size w3 w4) := Lib.hid (HB33.out.trans (hb.mono HB33.out.size))
  rw [show decide (nr = nr) = true from by simp]
  clear hb
  go_wp2_with fail
  refine (normal_any va nl vc nr HOR.out (by have := HNL.out; omega) w4 (HE3.out w4 HB34.out)).mono ?_
  rintro e w5 ⟨v5, nr5, rfl, hnrm5, _, _, hrow5, hb⟩
  have HB5 : Hid (Below w.heap.size w w5) := Lib.hid (HB4.out.trans (hb.mono HB4.out.size))
  have HB35 : Hid (Below w3.heap.size w3 w5) := Lib.hid (HB34.out.trans (hb.mono HB34.out.size))
  obtain rfl := HNS.out.uniq hnrm5
  have hE5 := EnsP.of_owns hrow5
  obtain ⟨va5, vc5, rfl⟩ := own_form hrow5
  have HE5 := Lib.hid hE5
  rw [HNLL.out] at HE5 ⊢
  clear hrow5 hE5 hnrm5
  clear hb
  go_wp2_with fail
  refine (refSame2_any va5 va nl nl vc5 vc nr nr (by have := HNL.out; omega) (by have := HNL.out; omega) w5 HE5.out (HE3.out w5 HB35.out)).mono ?_
  rintro e w6 ⟨rfl, hb⟩
  have HB6 : Hid (Below w.heap.size w w6) := Lib.hid (HB5.out.trans (hb.mono HB5.out.size))
  have HB36 : Hid (Below w3.heap.size w3 w6) := Lib.hid (HB35.out.trans (hb.mono HB35.out.size))
  rw [show decide (nr = nr) = true from by simp]
  clear hb
  go_wp2_with fail
  refine (most_any va nl vc nr HOR.out (by have := HNL.out; omega) w6 (HE3.out w6 HB36.out)).mono ?_
  rintro e w7 ⟨rfl, hb⟩
  have HB7 : Hid (Below w.heap.size w w7) := Lib.hid (HB6.out.trans (hb.mono HB6.out.size))
  have HB37 : Hid (Below w3.heap.size w3 w7) := Lib.hid (HB36.out.trans (hb.mono HB36.out.size))
  rw [HFL.out, HNR.out.ask]
  obtain ⟨mv, hmv⟩ : ∃ mv, askL withinB (l0.filter (rightA 1099511627776)) 18446744073709551615 = mv := ⟨_, rfl⟩
  have HMV := Lib.hid hmv
  rw [hmv]
  clear hmv
  have gmv : (mv != mv) = false := by simp
  clear hb
  go_wp2_with fail
  refine (most_any p0 n0 c0 l0 HOK.out (by have := HL8.out; omega) w7 (HAS.out w7 HB7.out)).mono ?_
  rintro e w8 ⟨rfl, hb⟩
  have HB8 : Hid (Below w.heap.size w w8) := Lib.hid (HB7.out.trans (hb.mono HB7.out.size))
  have HB38 : Hid (Below w3.heap.size w3 w8) := Lib.hid (HB37.out.trans (hb.mono HB37.out.size))
  rw [HMV.out]
  clear hb
  go_wp2
  go_loopw [48] (fun i wr => ∃ m : Nat, i = .int .i64 m ∧ m ≤ n1 ∧ Below w8.heap.size w8 wr) (fun i _ => n1 - (intOf i).toNat)
  case atStart => exact ⟨0, rfl, Nat.zero_le _, Below.refl _ _⟩
  case round =>
    obtain ⟨m, rfl, hm, hB⟩ := hrel
    obtain ⟨w9, rfl⟩ : ∃ x, x = wr := ⟨wr, rfl⟩
    have HB9 : Hid (Below w.heap.size w w9) := Lib.hid (HB8.out.trans (hB.mono HB8.out.size))
    have HB39 : Hid (Below w3.heap.size w3 w9) := Lib.hid (HB38.out.trans (hB.mono HB38.out.size))
    have HB89 := Lib.hid hB
    clear hB
    by_cases hlt : m < n1
    · obtain ⟨s, hs⟩ : ∃ x, l1[m]? = some x := ⟨_, List.getElem?_eq_getElem (by rw [HN1.out]; exact hlt)⟩
      obtain ⟨b, off, rfl, hb, f0⟩ := HZ1.out.at_ hs
      have hsok := HOS.out _ (List.mem_of_getElem? hs)
      have d0 := (HB9.out.cell (p := ⟨b, off + m, none⟩) hb).trans f0
      have g2 : (0 : Int) ≤ m := by omega
      have g3 : (m : Int) < n1 := by omega
      have HV1 := Lib.hid (value_any va nl vc s nr hsok HOR.out (by have := HNL.out; omega) w9 (HE3.out w9 HB39.out))
      have HV2 := Lib.hid (fun W hb => value_any p0 n0 c0 s l0 hsok HOK.out (by have := HL8.out; omega) W (HAS.out W hb))
      rw [HFL.out, HNR.out.ask] at HV1
      obtain ⟨vv, hvv⟩ : ∃ vv, askL withinB (l0.filter (rightA 1099511627776)) s = vv := ⟨_, rfl⟩
      rw [hvv] at HV1 HV2
      have gvv : (vv != vv) = false := by simp
      clear hs f0 hvv
      go_wp2_with fail
      refine HV1.out.mono ?_
      rintro e w10 ⟨rfl, hb10⟩
      have HB10 : Hid (Below w.heap.size w w10) := Lib.hid (HB9.out.trans (hb10.mono HB9.out.size))
      have HB810 : Hid (Below w8.heap.size w8 w10) := Lib.hid (HB89.out.trans (hb10.mono HB89.out.size))
      clear hb10
      go_wp2_with fail
      refine (HV2.out w10 HB10.out).mono ?_
      rintro e w11 ⟨rfl, hb11⟩
      have HB811 : Hid (Below w8.heap.size w8 w11) := Lib.hid (HB810.out.trans (hb11.mono HB810.out.size))
      clear hb11
      go_wp2
      go_roundw
      case rel => exact ⟨m + 1, by go_num, by omega, HB811.out⟩
      case measure => simp [intOf]; omega
    · obtain rfl : m = n1 := by omega
      have gm : ¬ (m : Int) < m := by omega
      go_wp2
      go_loopw [62] (fun i wr => ∃ q : Nat, i = .int .i64 q ∧ q ≤ nl ∧ Below w9.heap.size w9 wr) (fun i _ => nl - (intOf i).toNat)
      case atStart => exact ⟨0, rfl, Nat.zero_le _, Below.refl _ _⟩
      case round =>
        obtain ⟨q, rfl, hq, hB⟩ := hrel
        obtain ⟨w12, rfl⟩ : ∃ x, x = wr := ⟨wr, rfl⟩
        have HB12 : Hid (Below w.heap.size w w12) := Lib.hid (HB9.out.trans (hB.mono HB9.out.size))
        have HB312 : Hid (Below w3.heap.size w3 w12) := Lib.hid (HB39.out.trans (hB.mono HB39.out.size))
        have HB912 := Lib.hid hB
        clear hB
        by_cases hlt : q < nl
        · obtain ⟨⟨k, u⟩, hk⟩ : ∃ x, nr[q]? = some x := ⟨_, List.getElem?_eq_getElem (by rw [HNLL.out]; exact hlt)⟩
          obtain ⟨b, off, rfl, hb, d0, d1⟩ := (HE3.out w12 HB312.out).at_ hk
          have hmem := List.mem_of_getElem? hk
          have hkok := HOR.out _ hmem
          have hown : askL withinB nr k = u := nrm_own HNR.out hmem
          simp only at d0 d1 hkok
          have g4 : (0 : Int) ≤ q := by omega
          have g5 : (q : Int) < nl := by omega
          obtain ⟨W1, hW1⟩ : ∃ W1, w12.alloc (.cells #[.int .u64 (k : Nat), .int .i64 u] 26) = W1 := ⟨_, rfl⟩
          have hb01 : Below w12.heap.size w12 W1 := by rw [← hW1]; exact (Below.refl _ _).alloc (Nat.le_refl _) _
          have hnew : W1.heap[w12.heap.size]? = some (.cells #[.int .u64 (k : Nat), .int .i64 u] 26) := by rw [← hW1]; exact World.alloc_heap_new w12 _
          have hBlt : w12.heap.size < W1.heap.size := by rw [← hW1]; simp
          have c0 := BelW.cell (w := W1) (a := ⟨w12.heap.size, 0, none⟩) hBlt (cell_of_row W1 _ 0 _ _ _ hnew)
          have c1 := BelW.cell (w := W1) (a := ⟨w12.heap.size, 1, none⟩) hBlt (cell_of_row W1 _ 1 _ _ _ hnew)
          have HBW1 : Hid (Below w9.heap.size w9 W1) := Lib.hid (HB912.out.trans (hb01.mono HB912.out.size))
          have HB3W : Hid (Below w3.heap.size w3 W1) := Lib.hid (HB312.out.trans (hb01.mono HB312.out.size))
          have HV : Hid (∀ p : BelW W1, Calls Try.prog 16 #[.slice (some ⟨b, off, none⟩) nl vc, .int .u64 (k : Nat)] p.W fun e w' => e = .returned (.int .i64 u) ∧ Below p.W.heap.size p.W w') := Lib.hid (fun p => by
            have h := value_any _ nl vc k nr hkok HOR.out (by have := HNL.out; omega) p.W (HE3.out p.W (HB3W.out.trans (p.h.mono HB3W.out.size)))
            rw [HFL.out, hown] at h
            exact h)
          have guu : (u != u) = false := by simp
          have HW1 := Lib.hid hW1
          clear hb01 hW1 hnew hk hmem hown
          go_upto_region 17 with fail
          rw [HW1.out]
          refine wp_region_bel (by kernel_rfl) (by kernel_rfl) ?_
          repeat (quiet_step ((go_at_call 16; exact Calls.bel_of (HV.out _))))
          refine wpQuiet_nil ?_
          intro W3 hw'
          have hb3 : Below W1.heap.size W1 W3 := by
            obtain ⟨p, hp⟩ := hw'
            rw [hp]
            exact p.h
          have HF : Hid (Below w9.heap.size w9 W3) := Lib.hid (HBW1.out.trans (hb3.mono HBW1.out.size))
          clear hw' hb3 c0 c1 HV
          go_wp2
          go_roundw
          case rel => exact ⟨q + 1, by go_num, by omega, HF.out⟩
          case measure => simp [intOf]; omega
        · obtain rfl : q = nl := by omega
          have gq : ¬ (q : Int) < q := by omega
          go_wp2
          go_ret
          exact ⟨rfl, HB12.out⟩


set_option maxRecDepth 100000 in
theorem lifted (os : Os) (started : os.Started) (H : Type) (enc : TypeId × Value → H) :
    ReturnsInHanded {} Try.checked os 4 .any (Rows.atomValuesSpec.pre6 enc Try.prog Try.f4 Rows.atomValuesRow.domain false) (Rows.atomValuesSpec.post enc Try.prog Try.f4 false true false false) := by
  refine returnsInHanded_of_change (C := Try.checked) own started (by kernel_rfl) Try.func4
    (ChangeSpec.witness6 (enc := enc) (C := Try.checked) false ⟨#[], #[.slice none 0 0, .slice none 0 0], []⟩ 8 (by kernel_rfl) (by kernel_rfl) (by kernel_rfl) (by kernel_rfl)) ?_
  intro W base args ds gs before hval0 hW hcnd _
  have hval : ∀ (j : Nat) t v, Try.f4.params[j]? = some t → args[j]? = some v → Value.okWide Try.prog W .any base t v := hval0
  have hW' := hW
  obtain ⟨p, q, hA0, hV, rfl, hfz, hnd⟩ := hW
  have hA : DataW.TrodAll enc Try.prog W 0 (fun _ => true) true Try.f4.params.toList args.toList ds p := hA0
  rw [Try.params4] at hA hval
  have hAk := hA
  obtain ⟨v0, vs0, d0, ds0, p0', q0, hargs, rfl, rfl, h0, r0⟩ := trodAll_cons hA
  obtain ⟨v1, vs1, d1, ds1, p1', q1, rfl, rfl, rfl, h1, r1⟩ := trodAll_cons r0
  obtain ⟨rfl, rfl, rfl⟩ := trodAll_nil r1
  obtain rfl : args = #[v0, v1] := by cases args; simp_all
  obtain ⟨rfl, rfl⟩ := trodVars_none hV
  simp only [List.append_nil] at hW' hAk
  have hlt := fun x hx => hW'.lt x hx
  clear hA0 hval0
  obtain ⟨p0, n0, c0, l0, rfl, S0, b0⟩ := open_atoms (okWide_slice Try.underlying22 (hval 0 22 v0 rfl rfl)) h0
  obtain ⟨p1, n1, c1, l1, rfl, S1, b1⟩ := open_sets (okWide_slice Try.underlying38 (hval 1 38 v1 rfl rfl)) h1
  refine (walk W p0 n0 c0 l0 S0 b0 p1 n1 c1 l1 S1 b1).mono fun e W' ⟨he, hg⟩ => ?_
  subst he
  have hargs := trodAll_below hg _ _ _ _ (by intro t ht; simp only [List.mem_cons, List.not_mem_nil, or_false] at ht; revert t; rintro t (rfl | rfl) <;> exact ⟨by kernel_rfl, of_decide_eq_true (by kernel_rfl)⟩) hAk (fun x hx => by simpa using hlt x hx)
  exact ⟨_, rfl, _, _, _, [], _, [], hW', (trodAll_cons_mk (shut_bool Try.underlying4 _) trodAll_mk0), hargs, rfl, hg.frame _, fun h => by cases h⟩

theorem over : Rows.atomValuesRow.holds Try.pinned (OpenSpec.ofChange Rows.atomValuesSpec) :=
  OpenClaim.holds_of_wide 4 Try.f4 rfl rfl rfl rfl rfl rfl rfl ⟨rfl, rfl, rfl, rfl, rfl⟩ rfl rfl rfl rfl rfl (by kernel_rfl) Try.func4 (by kernel_rfl)
    (of_decide_eq_true (by kernel_rfl)) (by unfold Func.isWrapper; first | (rw [if_pos (by decide +kernel)]; kernel_rfl) | (rw [if_neg (by decide +kernel)]; exact ⟨rfl, rfl⟩))
    (fun os started H enc _ => lifted os started H enc)

theorem proved : Rows.AtomValuesSaid :=
  over
end Go.Proofs.Ytfgppkmhjjnnnaa.atomValues
