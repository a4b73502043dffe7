/- For whatever row of things and number law HeapSorts answers true: sorted they come in the order of the document, and the first ones of them are those. No condition. -/
import Derived.Test.YtpdncgjepfgnjaaHpAl
import Derived.Test.YtpdncgjepfgnjaaHpR
import Derived.Test.YtpdncgjepfgnjaaOpenHp
namespace Go.Proofs.Ytpdncgjepfgnjaa.heapSorts
open Go.ChangeShapes Go.WideShapes Go.ChangeAt Go.RowKit Go.Proofs.Ytpdncgjepfgnjaa
set_option linter.unusedVariables false
attribute [local go_sem] Oper.semAt_some

set_option maxRecDepth 100000 in
set_option maxHeartbeats 2000000 in
theorem walk (w : World) (p0 : Option Addr) (n0 c0 : Nat) (l0 : List (Int × Int)) (S0 : PrsP w.heap.size w (.slice p0 n0 c0) l0) (b0 : (∀ x ∈ l0, In64 x.1 ∧ In64 x.2) ∧ l0.length ≤ Go.maxLen) (a1 : Int) (w1 : (Lit.int .i64 a1).wf = true) :
    Calls Try.prog 4 #[.slice p0 n0 c0, .int .i64 a1] w fun e w' => e = .returned (.bool true) ∧ Below w.heap.size w w' := by
  have hlen := S0.len
  subst hlen
  have HS := Lib.hid S0
  have HAL := Lib.hid (heapAlive_any w)
  have hmax := b0.2
  have hb1 := bounds_of_int w1
  obtain ⟨n0, hn0⟩ : ∃ n, l0.length = n := ⟨_, rfl⟩
  have HN := Lib.hid hn0
  rw [hn0] at hmax ⊢
  unfold maxLen at hmax
  clear S0 b0 hn0 w1
  by_cases hbig : 200 < n0
  · have c0' : decide ((200 : Int) < (n0 : Int)) = true := decide_eq_true (by omega)
    go_enter Try.func4, Try.ntmps4
    go_wp2_with (go_at_call 7; refine HAL.out.mono ?_; rintro e w1 ⟨rfl, hb⟩; have HB1 := Lib.hid hb; clear hb)
    go_ret
    exact ⟨rfl, HB1.out⟩
  · have c0' : decide ((200 : Int) < (n0 : Int)) = false := decide_eq_false (by omega)
    have hle : n0 ≤ 200 := by omega
    go_enter Try.func4, Try.ntmps4
    go_wp2_with (go_at_call 7; refine HAL.out.mono ?_; rintro e w1 ⟨rfl, hb⟩; have HB1 := Lib.hid hb; clear hb)
    have HS1 := Lib.hid ((HS.out.below HB1.out (Nat.le_refl _)).mono HB1.out.size)
    rw [HN.out] at HS1
    refine (refOf_any p0 n0 c0 l0 (by rw [HN.out]; omega) w1 HS1.out).mono ?_
    rintro e w2 ⟨v2, rfl, hr2, hb2⟩
    rw [HN.out] at hr2
    have hol := ofD_len l0
    have hp2 : PrsP w2.heap.size w2 v2 (ofD l0) := PrsP.of_owns (by rw [hol, HN.out]; exact hr2)
    obtain ⟨a2, k2, rfl, hk2⟩ := own_formc hr2
    obtain ⟨K, hK⟩ : ∃ K : Nat, min a1.toNat n0 = K := ⟨_, rfl⟩
    have HP2 := Lib.hid hp2
    have HB2 := Lib.hid (HB1.out.trans (hb2.mono HB1.out.size))
    have HS2 := Lib.hid ((HS1.out.below hb2 (Nat.le_refl _)).mono hb2.size)
    have HOL := Lib.hid hol
    have HZ := Lib.hid hb2.size
    clear hr2 hb2 hol hp2
    obtain ⟨M, hM⟩ : ∃ M : Nat, a1.toNat = M := ⟨_, rfl⟩
    have hmx : (if a1 < 0 then 0 else a1) = (M : Int) := by
      by_cases h1 : a1 < 0
      · rw [if_pos h1]; omega
      · rw [if_neg h1]; omega
    have hmin : (if (n0 : Int) < (M : Int) then (n0 : Int) else (M : Int)) = (K : Int) := by
      by_cases h2 : (n0 : Int) < (M : Int)
      · rw [if_pos h2]; omega
      · rw [if_neg h2]; omega
    have hmin2 : (if n0 < M then (n0 : Int) else (M : Int)) = (K : Int) := by
      by_cases h2 : n0 < M
      · rw [if_pos h2]; omega
      · rw [if_neg h2]; omega
    have hKn : K ≤ n0 := by omega
    have HK := Lib.hid hK
    have d1 : (0 : Int) ≤ K := by omega
    have d2 : (K : Int) ≤ n0 := by omega
    have d3 : (K : Int) ≤ k2 := by omega
    clear hK
    go_upto_region 7 with fail
    clear hmin hmin2 hmx hM
    have hTAKEN : ∀ (a5 : Option Addr) (k5 : Nat) (w5 : World), Below w2.heap.size w2 w5 → w5.ownsRow (w5.heap.size - w5.heap.size) 27 2 (.slice a5 (min a1.toNat l0.length) k5) (min a1.toNat l0.length) (flatVP (((ofS (fun x : Int × Int => x.1) l0).take a1.toNat).map Prod.fst)) → Calls Try.prog 16 #[.slice a5 (min a1.toNat l0.length) k5, .slice a2 K k2] w5 fun e w' => e = .returned (.bool true) ∧ Below w5.heap.size w5 w' := by
      intro a5 k5 w5 hb h5
      rw [List.map_take, ofD_of _ l0 rfl] at h5
      rw [HN.out, HK.out] at h5 ⊢
      have hlt : ((ofD l0).take a1.toNat).length = K := by rw [List.length_take, HOL.out, HN.out]; exact HK.out
      have hk := HK.out
      have htk : (ofD l0).take a1.toNat = (ofD l0).take K := by
        by_cases h1 : a1.toNat ≤ n0
        · rw [show K = a1.toNat from by omega]
        · rw [show K = n0 from by omega, List.take_of_length_le (by rw [HOL.out, HN.out]; omega), List.take_of_length_le (by rw [HOL.out, HN.out]; omega)]
      refine refSame_any a5 a2 K K k5 k2 ((ofD l0).take K) (by rw [← htk, hlt]; omega) w5 (PrsP.of_owns (by rw [← htk, hlt]; rw [htk] at h5 ⊢; exact h5)) (((HP2.out.below hb (Nat.le_refl _)).mono hb.size).take (by omega))
    have HTK := Lib.hid hTAKEN
    clear hTAKEN
    have hb0 : Below w2.heap.size w2 (w2.alloc (Obj.cells #[.slice p0 n0 c0] 29)).drew := ((Below.refl _ _).alloc (Nat.le_refl _) _).drew
    have hSO := sortedP ordP (w2.heap.size) p0 n0 c0 l0 (by rw [HN.out]; omega) (w2.alloc (Obj.cells #[.slice p0 n0 c0] 29)).drew (cell_new_row w2 _ _ 0) ((HS2.out.below hb0 (Nat.le_refl _)).mono hb0.size)
    rw [HN.out, ofD_of _ l0 rfl] at hSO
    have HSO := Lib.hid hSO
    clear hSO hb0
    go_region_held3 (fun W => Below w2.heap.size w2 W) (first | assumption | exact (Below.refl _ _).drew | exact ((Below.refl _ _).alloc (Nat.le_refl _) _).drew | exact Below.alloc (by assumption) (Below.size (by assumption)) _) ((first
      | (go_at_call 19; refine (valuesP p0 n0 c0 _).mono ?_; rintro e w' ⟨rfl, rfl⟩)
      | (go_at_call 18; refine HSO.out.mono ?_; rintro e w3 ⟨v3, rfl, h3, b3⟩; obtain ⟨a3, k3, rfl⟩ := own_form h3; have hB3 : Below w2.heap.size w2 w3 := ((Below.refl _ _).alloc (Nat.le_refl _) (Obj.cells #[.slice p0 n0 c0] 29)).drew.trans (b3.mono (by simp)); have HSA3 := Lib.hid (refSame_any a3 a2 n0 n0 k3 k2 (ofD l0) (by rw [HOL.out, HN.out]; omega) w3 (PrsP.of_owns (by rw [HOL.out, HN.out]; exact h3)) ((HP2.out.below hB3 (Nat.le_refl _)).mono hB3.size)); clear h3)
      | (go_at_call 16; refine HSA5.out.mono ?_; rintro e w6 ⟨rfl, b6⟩; have hB6 : Below w2.heap.size w2 w6 := hB5.trans (b6.mono hB5.size))
      | (go_at_call 16; refine HSA3.out.mono ?_; rintro e w4 ⟨rfl, b4⟩; have hB4 : Below w2.heap.size w2 w4 := hB3.trans (b4.mono hB3.size); have hb4 : Below w4.heap.size w4 (w4.alloc (Obj.cells #[.slice p0 n0 c0] 29)) := (Below.refl _ _).alloc (Nat.le_refl _) _; have HFI := Lib.hid (firstOfP ordP (w4.heap.size) a1 hb1 p0 n0 c0 l0 (by rw [HN.out]; omega) (w4.alloc (Obj.cells #[.slice p0 n0 c0] 29)) (cell_new_row w4 _ _ 0) ((((HS2.out.below hB4 (Nat.le_refl _)).mono hB4.size).below hb4 (Nat.le_refl _)).mono hb4.size)))
      | (go_at_call 20; refine HFI.out.mono ?_; rintro e w5 ⟨v5, rfl, h5, b5⟩; obtain ⟨a5, k5, rfl⟩ := own_form h5; have hB5 : Below w2.heap.size w2 w5 := (hB4.alloc hB4.size (Obj.cells #[.slice p0 n0 c0] 29)).trans (b5.mono (by have := hB4.size; simp; omega)); have HSA5 := Lib.hid (HTK.out a5 k5 w5 hB5 (own_mono h5 (by simp))); clear h5)))
    all_goals
      go_wp2
      go_ret
      exact ⟨rfl, HB2.out.trans (hB6.mono HB2.out.size)⟩


set_option maxRecDepth 100000 in
theorem lifted (os : Os) (started : os.Started) (H : Type) (enc : TypeId × Value → H) :
    ReturnsInHanded {} Try.checked os 4 .any (Rows.heapSortsSpec.pre6 enc Try.prog Try.f4 Rows.heapSortsRow.domain false) (Rows.heapSortsSpec.post enc Try.prog Try.f4 false true false false) := by
  refine returnsInHanded_of_change (C := Try.checked) own started (by kernel_rfl) Try.func4
    (ChangeSpec.witness6 (enc := enc) (C := Try.checked) false ⟨#[], #[.slice none 0 0, .int .i64 0], []⟩ 8 (by kernel_rfl) (by kernel_rfl) (by kernel_rfl) (by kernel_rfl)) ?_
  intro W base args ds gs before hval0 hW hcnd _
  have hval : ∀ (j : Nat) t v, Try.f4.params[j]? = some t → args[j]? = some v → Value.okWide Try.prog W .any base t v := hval0
  have hW' := hW
  obtain ⟨p, q, hA0, hV, rfl, hfz, hnd⟩ := hW
  have hA : DataW.TrodAll enc Try.prog W 0 (fun _ => true) true Try.f4.params.toList args.toList ds p := hA0
  rw [Try.params4] at hA hval
  have hAk := hA
  obtain ⟨v0, vs0, d0, ds0, p0', q0, hargs, rfl, rfl, h0, r0⟩ := trodAll_cons hA
  obtain ⟨v1, vs1, d1, ds1, p1', q1, rfl, rfl, rfl, h1, r1⟩ := trodAll_cons r0
  obtain ⟨rfl, rfl, rfl⟩ := trodAll_nil r1
  obtain rfl : args = #[v0, v1] := by cases args; simp_all
  obtain ⟨rfl, rfl⟩ := trodVars_none hV
  simp only [List.append_nil] at hW' hAk
  have hlt := fun x hx => hW'.lt x hx
  clear hA0 hval0
  obtain ⟨p0, n0, c0, l0, rfl, S0, b0⟩ := open_pairs (okWide_slice Try.underlying29 (hval 0 29 v0 rfl rfl)) h0
  obtain ⟨a1, rfl, rfl, rfl, w1⟩ := open_int Try.underlying3 (hval 1 3 v1 rfl rfl) h1
  refine (walk W p0 n0 c0 l0 S0 b0 a1 w1).mono fun e W' ⟨he, hg⟩ => ?_
  subst he
  have hargs := trodAll_below hg _ _ _ _ (by intro t ht; simp only [List.mem_cons, List.not_mem_nil, or_false] at ht; revert t; rintro t (rfl | rfl) <;> exact ⟨by kernel_rfl, of_decide_eq_true (by kernel_rfl)⟩) hAk (fun x hx => by simpa using hlt x hx)
  exact ⟨_, rfl, _, _, _, [], _, [], hW', (trodAll_cons_mk (shut_bool Try.underlying4 _) trodAll_mk0), hargs, rfl, hg.frame _, fun h => by cases h⟩

theorem over : Rows.heapSortsRow.holds Try.pinned (OpenSpec.ofChange Rows.heapSortsSpec) :=
  OpenClaim.holds_of_wide 4 Try.f4 rfl rfl rfl rfl rfl rfl rfl ⟨rfl, rfl, rfl, rfl, rfl⟩ rfl rfl rfl rfl rfl (by kernel_rfl) Try.func4 (by kernel_rfl)
    (of_decide_eq_true (by kernel_rfl)) (by unfold Func.isWrapper; first | (rw [if_pos (by decide +kernel)]; kernel_rfl) | (rw [if_neg (by decide +kernel)]; exact ⟨rfl, rfl⟩))
    (fun os started H enc _ => lifted os started H enc)

theorem proved : Rows.HeapSortsSaid :=
  over
end Go.Proofs.Ytpdncgjepfgnjaa.heapSorts
