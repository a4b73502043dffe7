/- set.Choose, subset by subset. -/
import Derived.Test.YtndbpmhdpjlncaaDoorSplO
import Derived.Test.YtndbpmhdpjlncaaDoorSplI
import Derived.Test.YtndbpmhdpjlncaaDoorSetB
import Derived.Sort.QuietTacIn
namespace Go.Proofs.YtndbpmhdpjlncaaDoor
open Go.RowKit Go.Shelf
set_option linter.unusedVariables false
attribute [local go_sem] Oper.semAt_some

theorem wide_fn (f : FuncId) : Fence.wide.fn f ↔ True := ⟨fun _ => trivial, fun _ => trivial⟩
attribute [local go_sem] wide_fn
theorem u64_not {s : Nat} (hs : s < 18446744073709551616) : bits .xor .u64 (if IntKind.u64.signed = true then -1 else IntKind.u64.max) (s : Int) = ((18446744073709551615 - s : Nat) : Int) := by
  have h1 : (BitVec.ofInt 64 (if IntKind.u64.signed = true then -1 else IntKind.u64.max)) = BitVec.allOnes 64 := by decide
  have h2 : (BitVec.ofInt 64 (s : Int)).toNat = s := by rw [BitVec.toNat_ofInt]; omega
  have key : (BitVec.ofInt 64 (if IntKind.u64.signed = true then -1 else IntKind.u64.max) ^^^ BitVec.ofInt 64 (s : Int)).toNat = 18446744073709551615 - s := by
    rw [h1, BitVec.allOnes_xor, BitVec.toNat_not, h2]
  show IntKind.u64.wrap ((BitVec.ofInt 64 (if IntKind.u64.signed = true then -1 else IntKind.u64.max) ^^^ BitVec.ofInt 64 (s : Int)).toNat : Nat) = _
  rw [key, IntKind.wrap_u64]
  omega
theorem carN_walk {s x y : Nat} (hs : s < 18446744073709551616) (hx : x < 18446744073709551616) (hy : firstN x 1 = y) (hyl : y < 18446744073709551616) :
    bits .and .u64 (IntKind.u64.wrap (bits .or .u64 (x : Int) (bits .xor .u64 (if IntKind.u64.signed = true then -1 else IntKind.u64.max) (s : Int)) + (y : Int))) (s : Int) = ((carN s x : Nat) : Int) := by
  rw [u64_not hs]
  rw [u64_or_nat _ _ hx (by omega)]
  have h1 : x ||| (18446744073709551615 - s) < 18446744073709551616 := Nat.or_lt_two_pow (n := 64) hx (by omega)
  rw [show IntKind.u64.wrap (((x ||| (18446744073709551615 - s) : Nat) : Int) + (y : Int)) = ((((x ||| (18446744073709551615 - s)) + y) % 18446744073709551616 : Nat) : Int) from by rw [IntKind.wrap_u64]; omega]
  rw [u64_and_nat _ _ (Nat.mod_lt _ (by decide)) hs]
  unfold carN
  rw [hy]
theorem grown_of_belowC {A B : World} (h : Below A.heap.size A B) : A.grownBy B none := ⟨h.os, h.tape, h.output, h.size, fun k hk _ => h.block k hk⟩
theorem firstN_lt {s k : Nat} (hs : s < 18446744073709551616) : firstN s k < 18446744073709551616 := Nat.lt_of_le_of_lt Nat.and_le_left hs

set_option maxRecDepth 100000 in
set_option maxHeartbeats 4000000 in
theorem choose1 (Bs Bn n0 s : Nat) (n : Int) (hs : s < 18446744073709551616) (hwf : (Lit.int .i64 n).wf = true) (w : World) (hBs : Bs < w.heap.size) (hBn : Bn < w.heap.size) (hc : w.cell? ⟨Bs, 0, none⟩ = some (.int .u64 s)) (hd : w.cell? ⟨Bn, 0, none⟩ = some (.int .i64 n)) :
    SeqQ Fence.wide 2 Tryd.prog 63 #[.pointer (some ⟨Bn, 0, none⟩), .pointer (some ⟨Bs, 0, none⟩)] (fun x : Nat => #[.int .u64 (x : Int)]) n0 0 [Bs, Bn] (fun ys => ys = chooseI s n) (fun pre => pre <+: chooseI s n) w := fun l J Jx W hW hJ hJx hY h0 => by
  have hcs := (hW.cell (p := ⟨Bs, 0, none⟩) hBs).trans hc
  have hcn := (hW.cell (p := ⟨Bn, 0, none⟩) hBn).trans hd
  have hzW := hW.size
  refine callsIn_of_wp_marks Tryd.func63 rfl trivial ?_ rfl
  simp only [Tryd.ntmps63, List.size_toArray, List.length_cons, List.length_nil, Nat.reduceAdd, Nat.reduceSub, Array.replicate_succ, Array.replicate_zero, List.push_toArray, List.append_toArray, List.nil_append, List.cons_append]
  by_cases hn0 : n < 0
  · have HE := Lib.hid (chooseI_none (s := s) (.inl hn0))
    have hJd := Lib.hid (fun k => hJ [] W (W.drewN k) none h0 (grown_of_belowC (Below.drewN_r (Below.refl _ _) k)) (fun r e => by cases e))
    gi_wp2_with fail
    gi_quiet_th (fail)
    gi_wp2
    exact ⟨_, results_none rfl _ _ _, ⟨_, rfl⟩, .inl ⟨_, HE.out.symm, hJd.out nq⟩⟩
  by_cases hn1 : (cnt s : Int) < n
  · have HE := Lib.hid (chooseI_none (s := s) (.inr hn1))
    have hJd := Lib.hid (fun k => hJ [] W (W.drewN k) none h0 (grown_of_belowC (Below.drewN_r (Below.refl _ _) k)) (fun r e => by cases e))
    gi_wp2_with fail
    gi_quiet_th ((gi_at_call 14; refine CallsIn.quiet_of_same (callsIn_wide.2 ((count_any s _ hs).mono fun e w' h => ⟨h.1, h.2.symm⟩))))
    gi_wp2
    exact ⟨_, results_none rfl _ _ _, ⟨_, rfl⟩, .inl ⟨_, HE.out.symm, hJd.out nq⟩⟩
  obtain ⟨nn, rfl⟩ : ∃ nn : Nat, n = (nn : Int) := ⟨n.toNat, by omega⟩
  have hnn : nn ≤ cnt s := by omega
  have hc64 : cnt s ≤ 64 := cnt_le s
  rw [chooseI_eq] at hY ⊢
  have hd0 : decide ((nn : Int) < 0) = false := decide_eq_false (by omega)
  have hd1 : decide (cnt s < nn) = false := decide_eq_false (by omega)
  have hJd := Lib.hid (fun k => hJ [] W (W.drewN k) none h0 (grown_of_belowC (Below.drewN_r (Below.refl _ _) k)) (fun r e => by cases e))
  have HFI := Lib.hid (fun (k : Nat) (hk : k ≤ 64) w => first_any s k hs (by omega) w)
  have HFX := Lib.hid (fun (x : Nat) (hx : x < 18446744073709551616) w => (first_any x 1 hx (by decide) w : Calls Tryd.prog 62 #[.int .u64 x, .int .i64 1] w fun e w' => e = .returned (.int .u64 (firstN x 1)) ∧ w = w'))
  gi_wp2_with fail
  gi_quiet_th ((gi_at_call 14; refine CallsIn.quiet_of_same (callsIn_wide.2 ((count_any s _ hs).mono fun e w' h => ⟨h.1, h.2.symm⟩))))
  obtain ⟨hf1, hf2⟩ := chs_first hnn
  have hfm := first_mask hs hnn
  have hst0 : StB [Bs, Bn] W (W.drewN nq) := ⟨Nat.le_refl _, fun _ _ => rfl⟩
  have hjq := hJd.out nq
  obtain ⟨W1, hW1⟩ : ∃ W1, W.drewN nq = W1 := ⟨_, rfl⟩
  rw [hW1] at hst0 hjq ⊢
  have hc1 : W1.cell? ⟨Bs, 0, none⟩ = some (.int .u64 s) := (hst0.cell (k := Bs) (by simp)).trans hcs
  have hc2 : W1.cell? ⟨Bn, 0, none⟩ = some (.int .i64 (nn : Nat)) := (hst0.cell (k := Bn) (by simp)).trans hcn
  have HJQ := Lib.hid hjq
  have HST0 := Lib.hid hst0
  have HFM := Lib.hid hfm
  have HY := Lib.hid hY
  have HCS := Lib.hid hcs
  have HCN := Lib.hid hcn
  clear hW1 hjq hst0 hd0 hd1 hfm hY hJd hcs hcn h0 hd hc hW
  gi_wp2_with fail
  refine (callsIn_wide.2 (HFI.out nn (by omega) _)).mono ?_
  rintro e w' ⟨rfl, rfl⟩
  rw [HFM.out]
  gi_wp2_with fail
  gi_loopw [4] (fun x wr => ∃ k : Nat, k < subsN s ∧ pop k = nn ∧ x = .int .u64 ((sub s k : Nat) : Int) ∧ J (chs s nn k) wr ∧ StB [Bs, Bn] W wr)
    (fun x _ => 18446744073709551616 - (intOf x).toNat)
  case atStart => exact ⟨_, hf1, hf2, rfl, by rw [chs_start]; exact HJQ.out, HST0.out⟩
  case round =>
    obtain ⟨k, hk, hpk, rfl, hJs, hst⟩ := hrel
    have hx := sub_lt (k := k) hs
    have hchs : chs s nn k ++ [sub s k] = chs s nn (k + 1) := (chs_hit hpk).symm
    have hpre : chs s nn k ++ [sub s k] <+: chooseL s nn := by rw [hchs]; exact chs_prefix s nn _ _ hk
    obtain ⟨fn, tmps, assign, body, hy, hR⟩ := HY.out _ (sub s k) wr hJs hpre (by have := hst.1; omega)
    have HST := Lib.hid (choose_step hs hk hpk hnn)
    have HCH := Lib.hid hchs
    have HPR := Lib.hid hpre
    have HSB := Lib.hid hst
    have hmono : ∀ k', k < k' → k' < subsN s → sub s k < sub s k' := fun k' h1 h2 => sub_mono hs h1 h2
    have HMO := Lib.hid hmono
    clear hchs hpre hst hmono hJs
    obtain ⟨x, hxx⟩ : ∃ x, sub s k = x := ⟨_, rfl⟩
    rw [hxx] at hy hR hx HST HCH HPR HMO ⊢
    have HR := Lib.hid hR
    clear hR hxx
    gi_wp2
    refine HR.out.mono ?_
    rintro e W3 ⟨hko, ⟨rfl, hJ3, hb3, _, hs3⟩ | ⟨rfl, hJx3⟩⟩
    · have hst3 : StB [Bs, Bn] wr W3 := ⟨hko.size, hs3⟩
      have HS3 := Lib.hid (HSB.out.trans hst3)
      have HJ3 : Hid (∀ k', J (chs s nn (k + 1)) (W3.drewN k')) := Lib.hid (fun k' => hJ _ W3 (W3.drewN k') none (by rw [← HCH.out]; exact hJ3) (grown_of_belowC (Below.drewN_r (Below.refl _ _) k')) (fun r e => by cases e))
      have c3 : W3.cell? ⟨Bs, 0, none⟩ = some (.int .u64 s) := (HS3.out.cell (k := Bs) (by simp)).trans HCS.out
      clear hJ3 hb3 hs3 hko hst3
      obtain ⟨y, hy1⟩ : ∃ y, firstN x 1 = y := ⟨_, rfl⟩
      have hyl : y < 18446744073709551616 := by rw [← hy1]; exact firstN_lt hx
      have hfx := HFX.out x hx
      rw [hy1] at hfx
      have HFX2 := Lib.hid hfx
      have HCW := Lib.hid (carN_walk hs hx hy1 hyl)
      clear hfx hy1 HFX
      gi_wp2_with fail
      gi_quiet_th ((gi_at_call 62; refine CallsIn.quiet_of_same (callsIn_wide.2 ((HFX2.out _).mono fun e w' h => ⟨h.1, h.2.symm⟩))))
      have hcw := HCW.out
      obtain ⟨o1, ho1⟩ : ∃ o1, bits .xor .u64 (if IntKind.u64.signed = true then -1 else IntKind.u64.max) (s : Int) = o1 := ⟨_, rfl⟩
      rw [ho1] at hcw ⊢
      obtain ⟨o2, ho2⟩ : ∃ o2, bits .or .u64 (x : Int) o1 = o2 := ⟨_, rfl⟩
      rw [ho2] at hcw ⊢
      obtain ⟨o3, ho3⟩ : ∃ o3, IntKind.u64.wrap (o2 + (y : Int)) = o3 := ⟨_, rfl⟩
      rw [ho3] at hcw ⊢
      rw [hcw]
      have hcl : carN s x < 18446744073709551616 := Nat.lt_of_le_of_lt Nat.and_le_right hs
      have hj3 := HJ3.out nq
      have hs4 : StB [Bs, Bn] W (W3.drewN nq) := HS3.out.trans ⟨Nat.le_refl _, fun _ _ => rfl⟩
      obtain ⟨W4, hW4⟩ : ∃ W4, W3.drewN nq = W4 := ⟨_, rfl⟩
      rw [hW4] at hj3 hs4 ⊢
      have HS4 := Lib.hid hs4
      clear hcw ho1 ho2 ho3 HCW hW4 c3 HS3 HJ3 HFX2 hs4
      rcases HST.out with ⟨h1, h2⟩ | ⟨h1, e, k', he, hce, hor, hkk, hks, hpk', hch⟩
      · have HE : Hid (J (chooseL s nn) W4) := Lib.hid (by rw [h2]; exact hj3)
        rw [h1] at hcl ⊢
        clear hj3 h1 h2
        gi_wp2
        exact ⟨_, results_none rfl _ _ _, ⟨_, rfl⟩, .inl ⟨_, rfl, HE.out⟩⟩
      · obtain ⟨c, hcc⟩ : ∃ c, carN s x = c := ⟨_, rfl⟩
        rw [hcc] at hcl h1 hce hor ⊢
        have hq : ((c : Int) == (0 : Int)) = false := beq_eq_false_iff_ne.2 (by omega)
        have hsub : ((nn : Int) - (cnt c : Int)) = (e : Int) := by omega
        have hfe := HFI.out e (by omega)
        have he64 : e ≤ 64 := by omega
        obtain ⟨f, hf⟩ : ∃ f, firstN s e = f := ⟨_, rfl⟩
        have hfl : f < 18446744073709551616 := by rw [← hf]; exact firstN_lt hs
        rw [hf] at hfe hor
        have hbo := u64_or_nat c f hcl hfl
        rw [hor] at hbo
        have HFE := Lib.hid (fun (z : Int) (hz : z = (e : Int)) w => (by rw [hz]; exact hfe w : Calls Tryd.prog 62 #[.int .u64 s, .int .i64 z] w fun e w' => e = .returned (.int .u64 f) ∧ w = w'))
        have HBO := Lib.hid hbo
        have HCO := Lib.hid (count_any c · hcl)
        have HJ4 : Hid (∀ k2, J (chs s nn k') (W4.drewN k2)) := Lib.hid (fun k2 => by rw [hch]; exact hJ _ W4 (W4.drewN k2) none hj3 (grown_of_belowC (Below.drewN_r (Below.refl _ _) k2)) (fun r e => by cases e))
        have HREL : Hid (k' < subsN s ∧ pop k' = nn ∧ x < sub s k') := Lib.hid ⟨hks, hpk', HMO.out k' hkk hks⟩
        have c4 : W4.cell? ⟨Bs, 0, none⟩ = some (.int .u64 s) := (HS4.out.cell (k := Bs) (by simp)).trans HCS.out
        have d4 : W4.cell? ⟨Bn, 0, none⟩ = some (.int .i64 (nn : Nat)) := (HS4.out.cell (k := Bn) (by simp)).trans HCN.out
        have hsx := sub_lt (k := k') hs
        obtain ⟨x2, hx2⟩ : ∃ x2, sub s k' = x2 := ⟨_, rfl⟩
        have HX2 := Lib.hid hx2
        rw [hx2] at HBO HREL hsx
        clear hfe hbo hor hch hf hcc hx2 hj3 he hce hkk hks hpk' HFI HST HMO
        gi_wp2_with fail
        gi_quiet_th (first | (gi_at_call 14; refine CallsIn.quiet_of_same (callsIn_wide.2 ((HCO.out _).mono fun e w' h => ⟨h.1, h.2.symm⟩))) | (gi_at_call 62; refine CallsIn.quiet_of_same (callsIn_wide.2 ((HFE.out _ (by rw [IntKind.wrap_i64]; omega) _).mono fun e w' h => ⟨h.1, h.2.symm⟩))))
        rw [HBO.out]
        have hj5 := HJ4.out nq
        have hs5 : StB [Bs, Bn] W (W4.drewN nq) := HS4.out.trans ⟨Nat.le_refl _, fun _ _ => rfl⟩
        obtain ⟨W5, hW5⟩ : ∃ W5, W4.drewN nq = W5 := ⟨_, rfl⟩
        rw [hW5] at hj5 hs5 ⊢
        have HJ5 := Lib.hid hj5
        have HS5 := Lib.hid hs5
        clear hW5 hj5 hs5 c4 d4 HJ4 HS4 HCO HFE HBO hq hsub
        gi_wp2
        go_roundw
        case rel => exact ⟨k', HREL.out.1, HREL.out.2.1, by rw [HX2.out], HJ5.out, HS5.out⟩
        case measure => simp only [intOf]; have := HREL.out.2.2; omega
    · have HE : Hid (∃ pre, pre <+: chooseL s nn ∧ Jx pre W3) := Lib.hid ⟨_, HPR.out, hJx3⟩
      clear hJx3
      gi_wp2
      exact ⟨_, results_none rfl _ _ _, ⟨_, rfl⟩, .inr HE.out⟩
end Go.Proofs.YtndbpmhdpjlncaaDoor
