/- For every two sets and every number law SetTwo answers true: each call of package set answers what the document says. Condition: the library's tables that the row lists hold what their text lays. -/
import Derived.Test.YtndbpmhdpjlncaaDoorSetAlive
import Derived.Test.YtndbpmhdpjlncaaDoorSetEnv
import Derived.Test.YtndbpmhdpjlncaaDoorSetOrd
import Derived.Test.YtndbpmhdpjlncaaDoorSame
import Derived.Test.YtndbpmhdpjlncaaDoorCards
import Derived.Test.YtndbpmhdpjlncaaDoorTie
import Derived.ProofKit
import Derived.OpenShut
import Derived.Carry
import Derived.Deep.DeepHandedRow
import Derived.Deep.DeepWitnessRowRef
namespace Go.Proofs.YtndbpmhdpjlncaaDoor.setTwo
open Go.ChangeShapes Go.WideShapes Go.ChangeAt Go.RowKit
set_option linter.unusedVariables false

theorem own : ownKnob Tryd.prog.godebug = none := by kernel_rfl

set_option maxRecDepth 100000 in
set_option maxHeartbeats 2000000 in
theorem walk (w : World) (hE : Env w) (a0 : Int) (w0 : (Lit.int .u64 a0).wf = true) (a1 : Int) (w1 : (Lit.int .u64 a1).wf = true) (a2 : Int) (w2 : (Lit.int .i64 a2).wf = true) :
    Calls Tryd.prog 3 #[.int .u64 a0, .int .u64 a1, .int .i64 a2] w fun e w' => e = .returned (.bool true) ∧ Below w.heap.size w w' := by
  obtain ⟨a, rfl, ha⟩ := u64_bd w0
  obtain ⟨b, rfl, hb⟩ := u64_bd w1
  obtain ⟨n1, n2⟩ := bounds_i64 w2
  clear w0 w1 w2
  have HA := Lib.hid (fun W h => alive_any W (hE.below h hE.size))
  go_enter Tryd.func3, Tryd.ntmps3
  go_wp2_with fail
  refine (HA.out _ (Below.refl _ _)).mono ?_
  rintro e w1 ⟨rfl, B1⟩
  clear HA
  go_wp2
  go_loop [7, 8] (fun v i => ∃ k : Nat, k ≤ 64 ∧ (k = 0 ∨ (k : Int) ≤ a2) ∧ i = .int .i64 k ∧ v = .int .u64 ((2 ^ k - 1 : Nat) : Int)) (fun _ i => 64 - (intOf i).toNat)
  case atStart => exact ⟨0, by omega, .inl rfl, rfl, rfl⟩
  case round =>
    obtain ⟨k, hk, hkn, rfl, rfl⟩ := hrel
    by_cases hlt : k < 64 ∧ (k : Int) < a2
    · obtain ⟨h1, h2⟩ := hlt
      have HO := Lib.hid (fun W => one_any k W h1)
      obtain ⟨p1, p2⟩ := pow_lt64 h1
      have HP : Hid (2 ^ (k + 1) - 1 = (2 ^ k - 1) + 2 ^ k) := Lib.hid (by rw [Nat.pow_succ]; omega)
      obtain ⟨q, hq⟩ : ∃ q, (2 : Nat) ^ k = q := ⟨_, rfl⟩
      rw [hq] at HO HP p1 p2 ⊢
      obtain ⟨r, hr⟩ : ∃ r, q - 1 = r := ⟨_, rfl⟩
      have hqr : q = r + 1 := by omega
      rw [hr] at HP ⊢
      have HSUM : Hid (IntKind.u64.wrap ((r : Int) + (q : Int)) = ((r + q : Nat) : Int)) := Lib.hid (by rw [IntWalk.u64_in _ (by omega)]; push_cast; rfl)
      clear p1 p2
      clear hq hr hqr
      go_wp2_with (go_at_call 11; refine (HO.out _).mono ?_; rintro e w' ⟨rfl, rfl⟩)
      go_round
      case rel => exact ⟨k + 1, by omega, .inr (by omega), by go_num, by rw [HP.out, ← HSUM.out]⟩
      case measure => simp [intOf]; omega
    · have HK : Hid (((2 ^ k - 1 : Nat) : Int) = ((fullN a2 : Nat) : Int)) := Lib.hid (by unfold fullN; rw [show min a2.toNat 64 = k from by omega])
      obtain ⟨f, hf⟩ : ∃ f, 2 ^ k - 1 = f := ⟨_, rfl⟩
      rw [hf] at HK ⊢
      obtain ⟨g, hg⟩ : ∃ g, fullN a2 = g := ⟨_, rfl⟩
      rw [hg] at HK
      have HG := Lib.hid hg
      clear hf hg
      by_cases h1 : k < 64
      · have h2 : ¬ (k : Int) < a2 := fun h => hlt ⟨h1, h⟩
        clear hlt
        go_wp2_with fail
        refine (has_any a a2 _ ha).mono ?_
        rintro e w' ⟨rfl, rfl⟩
        go_wp2_with fail
        refine (refHas_any a a2 _ ha n1 n2).mono ?_
        rintro e w' ⟨rfl, rfl⟩
        go_wp2_with fail
        refine (count_any a _ ha).mono ?_
        rintro e w' ⟨rfl, rfl⟩
        go_wp2_with fail
        refine (refList_any a _ ha).mono ?_
        rintro e w2 ⟨v2, rfl, hown2, hb2⟩
        have B2 := B1.trans (hb2.mono B1.size)
        obtain ⟨p2, c2, rfl⟩ := owns_slice hown2
        have hcn : (cnt a : Int) = ((items a).length : Int) := rfl
        obtain ⟨L, hL⟩ : ∃ L, (items a).length = L := ⟨_, rfl⟩
        rw [hL] at hcn ⊢
        have hcn2 : cnt a = L := hL
        have HL := Lib.hid hL
        rw [hcn2] at hcn ⊢
        clear hown2 hb2 hcn hL hcn2 B1
        go_wp2_with fail
        refine (within_any a b _ ha hb).mono ?_
        rintro e w' ⟨rfl, rfl⟩
        go_wp2_with fail
        refine (refWithin_any a b _ ha hb).mono ?_
        rintro e w' ⟨rfl, rfl⟩
        go_wp2_with fail
        refine (apart_any a b _ ha hb).mono ?_
        rintro e w' ⟨rfl, rfl⟩
        go_wp2_with fail
        refine (refApart_any a b _ ha hb).mono ?_
        rintro e w' ⟨rfl, rfl⟩
        go_wp2_with fail
        refine (cmp_any a b _ ha hb).mono ?_
        rintro e w3 ⟨rfl, hb3⟩
        have B3 := B2.trans (hb3.mono B2.size)
        clear hb3 B2
        go_wp2_with fail
        refine (refCmp_any a b _ ha hb).mono ?_
        rintro e w4 ⟨rfl, hb4⟩
        have B4 := B3.trans (hb4.mono B3.size)
        clear hb4 B3
        go_wp2_with fail
        refine (full_any a2 _ n1 n2).mono ?_
        rintro e w' ⟨rfl, rfl⟩
        rw [HG.out, ← HK.out]
        go_wp2_with fail
        refine (list_any a _ ha (hE.below B4 hE.size)).mono ?_
        rintro e w5 ⟨v5, rfl, hown5, hb5⟩
        have B5 := B4.trans (hb5.mono B4.size)
        have hS5 := (Sl.map (enc := Value.int .i64) (f := fun x : Nat => (x : Int)) (Sl.of_owns hown5))
        obtain ⟨p5, c5, rfl⟩ := owns_slice hown5
        have H5 := Lib.hid hS5
        clear hown5 hb5 B4 hS5
        go_wp2_with fail
        refine (refList_any a _ ha).mono ?_
        rintro e w6 ⟨v6, rfl, hown6, hb6⟩
        have B6 := B5.trans (hb6.mono B5.size)
        have hS6 := (Sl.map (enc := Value.int .i64) (f := fun x : Nat => (x : Int)) (Sl.of_owns hown6))
        have H5' := Lib.hid ((H5.out.below hb6).mono hb6.size)
        obtain ⟨p6, c6, rfl⟩ := owns_slice hown6
        have H6 := Lib.hid hS6
        have hml : ((items a).map (fun x : Nat => (x : Int))).length ≤ 1048576 := by rw [List.length_map]; have := cnt_le a; unfold cnt at this; omega
        have HML := Lib.hid hml
        clear hown6 hb6 B5 hS6 H5 hml
        go_wp2_with fail
        refine (sameI_any _ _ _ _ _ _ _ _ _ HML.out HML.out H5'.out H6.out).mono ?_
        rintro e w7 ⟨rfl, hb7⟩
        have B7 := B6.trans (hb7.mono B6.size)
        rw [decide_eq_true rfl]
        clear hb7 B6 H5' H6 HML
        go_wp2
        go_ret
        exact ⟨rfl, B7⟩
      · clear hlt
        go_wp2_with fail
        refine (has_any a a2 _ ha).mono ?_
        rintro e w' ⟨rfl, rfl⟩
        go_wp2_with fail
        refine (refHas_any a a2 _ ha n1 n2).mono ?_
        rintro e w' ⟨rfl, rfl⟩
        go_wp2_with fail
        refine (count_any a _ ha).mono ?_
        rintro e w' ⟨rfl, rfl⟩
        go_wp2_with fail
        refine (refList_any a _ ha).mono ?_
        rintro e w2 ⟨v2, rfl, hown2, hb2⟩
        have B2 := B1.trans (hb2.mono B1.size)
        obtain ⟨p2, c2, rfl⟩ := owns_slice hown2
        have hcn : (cnt a : Int) = ((items a).length : Int) := rfl
        obtain ⟨L, hL⟩ : ∃ L, (items a).length = L := ⟨_, rfl⟩
        rw [hL] at hcn ⊢
        have hcn2 : cnt a = L := hL
        have HL := Lib.hid hL
        rw [hcn2] at hcn ⊢
        clear hown2 hb2 hcn hL hcn2 B1
        go_wp2_with fail
        refine (within_any a b _ ha hb).mono ?_
        rintro e w' ⟨rfl, rfl⟩
        go_wp2_with fail
        refine (refWithin_any a b _ ha hb).mono ?_
        rintro e w' ⟨rfl, rfl⟩
        go_wp2_with fail
        refine (apart_any a b _ ha hb).mono ?_
        rintro e w' ⟨rfl, rfl⟩
        go_wp2_with fail
        refine (refApart_any a b _ ha hb).mono ?_
        rintro e w' ⟨rfl, rfl⟩
        go_wp2_with fail
        refine (cmp_any a b _ ha hb).mono ?_
        rintro e w3 ⟨rfl, hb3⟩
        have B3 := B2.trans (hb3.mono B2.size)
        clear hb3 B2
        go_wp2_with fail
        refine (refCmp_any a b _ ha hb).mono ?_
        rintro e w4 ⟨rfl, hb4⟩
        have B4 := B3.trans (hb4.mono B3.size)
        clear hb4 B3
        go_wp2_with fail
        refine (full_any a2 _ n1 n2).mono ?_
        rintro e w' ⟨rfl, rfl⟩
        rw [HG.out, ← HK.out]
        go_wp2_with fail
        refine (list_any a _ ha (hE.below B4 hE.size)).mono ?_
        rintro e w5 ⟨v5, rfl, hown5, hb5⟩
        have B5 := B4.trans (hb5.mono B4.size)
        have hS5 := (Sl.map (enc := Value.int .i64) (f := fun x : Nat => (x : Int)) (Sl.of_owns hown5))
        obtain ⟨p5, c5, rfl⟩ := owns_slice hown5
        have H5 := Lib.hid hS5
        clear hown5 hb5 B4 hS5
        go_wp2_with fail
        refine (refList_any a _ ha).mono ?_
        rintro e w6 ⟨v6, rfl, hown6, hb6⟩
        have B6 := B5.trans (hb6.mono B5.size)
        have hS6 := (Sl.map (enc := Value.int .i64) (f := fun x : Nat => (x : Int)) (Sl.of_owns hown6))
        have H5' := Lib.hid ((H5.out.below hb6).mono hb6.size)
        obtain ⟨p6, c6, rfl⟩ := owns_slice hown6
        have H6 := Lib.hid hS6
        have hml : ((items a).map (fun x : Nat => (x : Int))).length ≤ 1048576 := by rw [List.length_map]; have := cnt_le a; unfold cnt at this; omega
        have HML := Lib.hid hml
        clear hown6 hb6 B5 hS6 H5 hml
        go_wp2_with fail
        refine (sameI_any _ _ _ _ _ _ _ _ _ HML.out HML.out H5'.out H6.out).mono ?_
        rintro e w7 ⟨rfl, hb7⟩
        have B7 := B6.trans (hb7.mono B6.size)
        rw [decide_eq_true rfl]
        clear hb7 B6 H5' H6 HML
        go_wp2
        go_ret
        exact ⟨rfl, B7⟩

theorem laidOut : laidOutB Tryd.prog = true := by kernel_rfl
/-- All arguments read behind the call as they did. -/
theorem trodAll_below {H : Type} {enc : TypeId × Value → H} {W W' : World} (hb : Below W.heap.size W W') : ∀ (ts : List TypeId) (vs : List Value) (ds : List (DataW H)) (ps : List MemPlace),
    (∀ t ∈ ts, Tryd.prog.readableRec t = true ∧ t < Tryd.prog.types.size) → DataW.TrodAll enc Tryd.prog W 0 (fun _ => true) true ts vs ds ps → (∀ x ∈ ps, x.block < W.heap.size) →
    DataW.TrodAll enc Tryd.prog W' 0 (fun b => decide (b < W.heap.size)) true ts vs ds ps
  | [], vs, ds, ps, _, h, _ => by
    obtain ⟨rfl, rfl, rfl⟩ := trodAll_nil h
    exact trodAll_mk0
  | t :: ts, vs, ds, ps, hr, h, hlt => by
    obtain ⟨v, vs', d, ds', p, q, rfl, rfl, rfl, h1, h2⟩ := trodAll_cons h
    exact trodAll_cons_mk (Below.trod laidOut (hr t (by simp)).1 (hr t (by simp)).2 h1 hb (fun x hx => hlt x (by simp [hx]))) (trodAll_below hb ts vs' ds' q (fun t ht => hr t (by simp [ht])) h2 (fun x hx => hlt x (by simp [hx])))

set_option maxRecDepth 100000 in
theorem contract (H : Type) (enc : TypeId × Value → H) (W : World) (base : Nat) (args : Array Value) (ds gs : List (DataW H)) (before : List MemPlace)
    (hval0 : ∀ (j : Nat) t v, Tryd.f3.params[j]? = some t → args[j]? = some v → Value.okWide Tryd.prog W .any base t v)
    (hW : DataW.Whole enc Tryd.prog Tryd.f3.params.toList Rows.setTwoSpec.vars false W args.toList ds gs before) (hL : laidMetH Tryd.prog Rows.setTwoRow.laid W) :
    Calls Tryd.prog 3 args W fun e W' => ∃ v, e = .returned v ∧ Rows.setTwoSpec.post enc Tryd.prog Tryd.f3 false true false false W args v W' := by
  have hval : ∀ (j : Nat) t v, Tryd.f3.params[j]? = some t → args[j]? = some v → Value.okWide Tryd.prog W .any base t v := hval0
  have hW' := hW
  obtain ⟨p, q, hA0, hV, rfl, hfz, hnd⟩ := hW
  have hA : DataW.TrodAll enc Tryd.prog W 0 (fun _ => true) true Tryd.f3.params.toList args.toList ds p := hA0
  rw [Tryd.params3] at hA hval
  have hAk := hA
  obtain ⟨v0, vs0, d0, ds0, p0', q0, hargs, rfl, rfl, h0, r0⟩ := trodAll_cons hA
  obtain ⟨v1, vs1, d1, ds1, p1', q1, rfl, rfl, rfl, h1, r1⟩ := trodAll_cons r0
  obtain ⟨v2, vs2, d2, ds2, p2', q2, rfl, rfl, rfl, h2, r2⟩ := trodAll_cons r1
  obtain ⟨rfl, rfl, rfl⟩ := trodAll_nil r2
  obtain rfl : args = #[v0, v1, v2] := by cases args; simp_all
  obtain ⟨rfl, rfl⟩ := trodVars_none hV
  simp only [List.append_nil] at hW' hAk
  have hlt := fun x hx => hW'.lt x hx
  have hE : Env W := env_of hL
  clear hA0 hval0
  obtain ⟨a0, rfl, rfl, rfl, w0⟩ := open_int Tryd.underlying22 (hval 0 22 v0 rfl rfl) h0
  obtain ⟨a1, rfl, rfl, rfl, w1⟩ := open_int Tryd.underlying22 (hval 1 22 v1 rfl rfl) h1
  obtain ⟨a2, rfl, rfl, rfl, w2⟩ := open_int Tryd.underlying3 (hval 2 3 v2 rfl rfl) h2
  refine (walk W hE a0 w0 a1 w1 a2 w2).mono fun e W' ⟨he, hg⟩ => ?_
  subst he
  have hargs := trodAll_below hg _ _ _ _ (by intro t ht; simp only [List.mem_cons, List.not_mem_nil, or_false] at ht; revert t; rintro t (rfl | rfl | rfl) <;> exact ⟨by kernel_rfl, of_decide_eq_true (by kernel_rfl)⟩) hAk (fun x hx => by simpa using hlt x hx)
  exact ⟨_, rfl, _, _, _, [], _, [], hW', (trodAll_cons_mk (shut_bool Tryd.underlying4 _) trodAll_mk0), hargs, rfl, hg.frame _, fun h => by cases h⟩

noncomputable def laidWorld (os : Os) : World := World.laidAll Tryd.prog os Rows.setTwoRow.laid
theorem laid_met (os : Os) : laidMet Tryd.prog Rows.setTwoRow.laid ((laidWorld os).forCall (fun _ _ => 0) ⟨#[], #[.int .u64 0, .int .u64 0, .int .i64 0], []⟩).memory :=
  laidMet_laidAll _ (by kernel_rfl) (by kernel_rfl)
theorem reads (os : Os) {H : Type} (enc : TypeId × Value → H) : ∃ places, DataW.whole enc Tryd.prog ((laidWorld os).forCall (fun _ _ => 0) ⟨#[], #[.int .u64 0, .int .u64 0, .int .i64 0], []⟩).memory Tryd.f3.params.toList Rows.setTwoSpec.vars false (#[.int .u64 0, .int .u64 0, .int .i64 0] : Array Value).toList 8 = some ([.lit (.int .u64 0), .lit (.int .u64 0), .lit (.int .i64 0)], [], places) :=
  ⟨[], by kernel_rfl⟩

set_option maxRecDepth 100000 in
theorem lifted (os : Os) (started : os.Started) (H : Type) (enc : TypeId × Value → H) (F : Stop.Interp) :
    ReturnsInHanded {} Tryd.checked os 3 .any ((OpenSpec.ofChange Rows.setTwoSpec).preRow enc Tryd.prog Tryd.f3 Rows.setTwoRow.domain false Rows.setTwoRow.laid) (((OpenSpec.ofChange Rows.setTwoSpec).at F).post enc Tryd.prog Tryd.f3 false true false false) := by
  obtain ⟨places, hx⟩ := reads os enc
  refine returnsInHanded_of_row (C := Tryd.checked) (s := OpenSpec.ofChange Rows.setTwoSpec) own started (by kernel_rfl) Tryd.func3
    (witness_row_at (enc := enc) (C := Tryd.checked) false (laidWorld os) #[.int .u64 0, .int .u64 0, .int .i64 0] (World.laidAll_os _ _ _) (by kernel_rfl) (by kernel_rfl) (by kernel_rfl)
      (OpenSpec.preRow_of_cond 8 hx (by kernel_rfl) (fun k hk => by cases hk) (by kernel_rfl) (laid_met os))) ?_
  intro W base args ds gs before hval hW _ _ _ hL _ _
  exact contract H enc W base args ds gs before hval hW hL

theorem said : Rows.SetTwoSaid :=
  OpenClaim.holds_of_cond 3 Tryd.f3 rfl rfl rfl rfl rfl rfl rfl ⟨rfl, rfl, rfl, rfl, rfl⟩ rfl rfl rfl rfl rfl (by kernel_rfl) Tryd.func3 (by kernel_rfl)
    (of_decide_eq_true (by kernel_rfl)) (by unfold Func.isWrapper; first | (rw [if_pos (by decide +kernel)]; kernel_rfl) | (rw [if_neg (by decide +kernel)]; exact ⟨rfl, rfl⟩))
    (fun os started H enc _ F => by rw [OpenClaim.pre_eq_preRow]; exact lifted os started H enc F)

theorem plain (f : FuncId) (fn : Func) (hf : Tryd.pinned.checked.prog.funcNamed "saleroom/saleroomlaw02.SetTwo" = some f) (hfn : Tryd.pinned.checked.prog.funcs[f]? = some fn) :
    true = Tryd.pinned.checked.prog.looks [] ∧ ∀ (j : Nat) t, fn.params[j]? = some t → Tryd.pinned.checked.prog.wantsStandIn t = false := by
  obtain rfl : f = 3 := Option.some.inj ((show Tryd.prog.funcNamed "saleroom/saleroomlaw02.SetTwo" = some 3 by kernel_rfl).symm.trans hf) |>.symm
  obtain rfl : fn = Tryd.f3 := (Option.some.inj (Tryd.func3.symm.trans hfn)).symm
  refine ⟨by kernel_rfl, fun j t ht => ?_⟩
  rw [Tryd.params3] at ht
  have hm := Array.mem_of_getElem? ht
  simp only [List.mem_toArray, List.mem_cons, List.not_mem_nil, or_false] at hm
  revert hm
  rintro (rfl | rfl | rfl)
  · exact (show Tryd.prog.wantsStandIn 22 = false by kernel_rfl)
  · exact (show Tryd.prog.wantsStandIn 22 = false by kernel_rfl)
  · exact (show Tryd.prog.wantsStandIn 3 = false by kernel_rfl)

theorem card : Rows.SetTwoCardSaid :=
  Claim7.holds_tied_plain_at .later [] _ _ _ _ said (fun _ h => by cases h) (by kernel_rfl) (fun _ h => by cases h) setTwo_row_tie rfl ⟨rfl, rfl⟩ (by kernel_rfl) rfl plain (by kernel_rfl)
end Go.Proofs.YtndbpmhdpjlncaaDoor.setTwo
