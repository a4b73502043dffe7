/- For whatever steps, key and number law TablePlays answers true: a table stays a row of pairs in order, whatever is done. No condition. -/
import Derived.Test.YtchnjafcnigllaaTabW
import Derived.Test.YtchnjafcnigllaaRegionSeq
namespace Go.Proofs.Ytchnjafcnigllaa.tablePlays
open Go.ChangeShapes Go.WideShapes Go.ChangeAt Go.RowKit Go.Proofs.Ytchnjafcnigllaa
set_option linter.unusedVariables false

set_option maxRecDepth 100000 in
set_option maxHeartbeats 16000000 in
theorem walk (w : World) (p0 : Option Addr) (n0 c0 : Nat) (l0 : List HOp) (S0 : HOps w.heap.size w (.slice p0 n0 c0) l0) (b0 : (∀ x ∈ l0, x.Ok) ∧ l0.length ≤ Go.maxLen) (a1 : Int) (w1 : (Lit.int .i64 a1).wf = true) (a2 : Int) (w2 : (Lit.int .i64 a2).wf = true) :
    Calls Try.prog 3 #[.slice p0 n0 c0, .int .i64 a1, .int .i64 a2] w fun e w' => e = .returned (.bool true) ∧ Below w.heap.size w w' := by
  have hlen0 := S0.len
  subst hlen0
  have HS0 := Lib.hid S0
  have HAL := Lib.hid (fun W => tabAlive_any W)
  obtain ⟨n0, hn0⟩ : ∃ n, l0.length = n := ⟨_, rfl⟩
  have HN0 := Lib.hid hn0
  have hmax0 := b0.2
  rw [hn0] at hmax0 HS0 ⊢
  unfold maxLen at hmax0
  clear S0 b0 hn0 w1 w2
  obtain ⟨m, hm1, hm2, hm3⟩ := most_i64 a2
  obtain ⟨wa, hwa⟩ : ∃ wa, w.alloc (Obj.cells #[.int .i64 a2] 3) = wa := ⟨_, rfl⟩
  have hba : Below w.heap.size w wa := by rw [← hwa]; exact (Below.refl _ _).alloc (Nat.le_refl _) _
  have hza : wa.heap.size = w.heap.size + 1 := by rw [← hwa]; simp
  have hMB : Boxed wa w.heap.size 3 (.int .i64 a2) := by rw [← hwa]; exact Boxed.new w _ _
  have HBA := Lib.hid hba
  have HZA := Lib.hid hza
  have HMB := Lib.hid hMB
  have HWA := Lib.hid hwa
  have HM1 := Lib.hid hm1
  have HM2 := Lib.hid hm2
  have HM3 := Lib.hid hm3
  clear hba hza hMB hwa hm1 hm2 hm3
  by_cases hbig : 100 < n0
  · have c0' : decide ((100 : Int) < (n0 : Int)) = true := decide_eq_true (by omega)
    go_enter Try.func3, Try.ntmps3
    go_upto_region 1 with fail
    rw [HWA.out]
    go_wp2_with (go_at_call 9; refine (HAL.out _).mono ?_; rintro e w2 ⟨rfl, hb2⟩; have HB2 := Lib.hid hb2; clear hb2)
    go_ret
    exact ⟨rfl, HBA.out.trans (HB2.out.mono HBA.out.size)⟩
  have c0' : decide ((100 : Int) < (n0 : Int)) = false := decide_eq_false (by omega)
  go_enter Try.func3, Try.ntmps3
  go_upto_region 1 with fail
  rw [HWA.out]
  go_upto_region 5 with (go_at_call 9; refine (HAL.out _).mono ?_; rintro e w2 ⟨rfl, hb2⟩; have HB2 := Lib.hid hb2; clear hb2)
  have HPL := Lib.hid (play_any p0 n0 c0 l0 (by rw [HN0.out]; omega) w2 ((HS0.out.below (HBA.out.trans (HB2.out.mono HBA.out.size)) (Nat.le_refl _)).mono (Nat.le_trans HBA.out.size HB2.out.size)))
  go_wp2_with fail
  refine HPL.out.mono ?_
  rintro e w3 ⟨v3, rfl, hj⟩
  have hll := playL_len n0 l0 HN0.out
  obtain ⟨l, hl2⟩ : ∃ l, playL l0 = l := ⟨_, rfl⟩
  rw [hl2] at hj hll
  obtain ⟨va, vc, rfl⟩ := own_form hj.row
  obtain ⟨q, hq⟩ : ∃ q, l.length = q := ⟨_, rfl⟩
  have HQ := Lib.hid hq
  rw [hq] at hll
  have hrow3 := hj.row
  rw [hq] at hrow3
  have hMB2 : Boxed w2 w.heap.size 3 (.int .i64 a2) := (HB2.out.block _ HMB.out.lt).trans HMB.out
  have hMB3 : Boxed w3 w.heap.size 3 (.int .i64 a2) := (hj.bel.block _ hMB2.lt).trans hMB2
  have HT3 := Lib.hid hj.tab
  have HROW3 := Lib.hid hrow3
  have HMB3 := Lib.hid hMB3
  have q3 := hMB3.cell
  have z3 := hMB3.frozen
  have HBEL3 : Hid (Below w.heap.size w w3) := Lib.hid (HBA.out.trans ((HB2.out.trans (hj.bel.mono HB2.out.size)).mono HBA.out.size))
  have HLT3 : Hid (w.heap.size < w2.heap.size) := Lib.hid (by have := HZA.out; have := HB2.out.size; omega)
  have hm3 := HM3.out
  rw [hq]
  have hq100 : q ≤ 100 := by omega
  clear hj hl2 hq HPL hrow3 hMB2 hMB3
  go_upto_region 9 with fail
  obtain ⟨w4, hw4⟩ : ∃ w4, w3.setCell ⟨w.heap.size, 0, none⟩ (.int .i64 m) = w4 := ⟨_, rfl⟩
  have hb4 : But [w.heap.size] w3 w4 := by rw [← hw4]; exact (But.refl _ w3).set (.inl (by simp)) _
  have HMB4 : Hid (Boxed w4 w.heap.size 3 (.int .i64 m)) := Lib.hid (by rw [← hw4]; exact HMB3.out.set _)
  have HT4 : Hid (TabN w4 w2.heap.size l) := Lib.hid (HT3.out.stay (StayN.of_but hb4 (fun k hk cs e => by
    simp at hk; subst hk
    have h0 : w3.heap[w.heap.size]? = some (.cells #[.int .i64 a2] 3 (0, 0)) := HMB3.out
    rw [h0] at e
    simp at e)) (hb4.block _ HT3.out.lt (by have := HLT3.out; simp; omega)))
  have HROW4 : Hid (w4.ownsRow (w2.heap.size + 1) 41 2 (.slice va q vc) q (flatVP l)) := Lib.hid (row_but HROW3.out hb4 (fun g hg hk => by have := World.ownsRow.lt HROW3.out g hg; have := HLT3.out; simp at hk; omega))
  have HBEL4 : Hid (Below w.heap.size w w4) := Lib.hid (HBEL3.out.trans (hb4.below (fun k hk => by simp at hk; omega) HBEL3.out.size))
  have HP4 : Hid (PrsP w4.heap.size w4 (.slice va q vc) l) := Lib.hid (by
    have h := HROW4.out
    rw [← HQ.out] at h ⊢
    exact PrsP.of_owns h)
  obtain ⟨T, hTT⟩ : ∃ T, w2.heap.size = T := ⟨_, rfl⟩
  obtain ⟨R, hRR⟩ : ∃ R, w.heap.size = R := ⟨_, rfl⟩
  have HRI := Lib.hid HT4.out.rise
  rw [hw4]
  rw [hTT] at HT4
  rw [hRR] at HMB4
  rw [hTT, hRR]
  have HRR := Lib.hid hRR
  clear hRR hTT
  have q4 := HMB4.out.cell
  clear hw4 hb4 q3 z3 hm3 HT3 HROW3 HMB3 HBEL3 HLT3 HB2 HBA HZA HMB HROW4
  go_upto_region 10 with fail
  refine region_rel (l := _) (by kernel_rfl) (by decide +kernel) (fun y => { tmps := #[Value.slice p0 n0 c0, Value.int IntKind.i64 a1, Value.int IntKind.i64 a2, undef, undef, Value.pointer (some ⟨R, 0, none⟩), Value.bool false, Value.pointer (some ⟨T, 0, none⟩), Value.slice va q vc, Value.bool true, Value.func (Fn.func 11) #[] #[Value.pointer (some ⟨R, 0, none⟩)], undef, undef, undef, undef, undef, undef, undef, undef, Value.bool true, Value.bool false, Value.slice p0 n0 c0, Value.int IntKind.i64 (n0 : Int), Value.bool false, Value.tuple #[Value.pointer (some ⟨T, 0, none⟩), Value.slice va q vc, Value.bool true], Value.slice p0 n0 c0, Value.tuple #[Value.pointer (some ⟨T, 0, none⟩), Value.slice va q vc, Value.bool true], Value.pointer (some ⟨T, 0, none⟩), Value.slice va q vc, Value.bool true, Value.bool true, Value.bool false, Value.int IntKind.i64 a2, Value.int IntKind.i64 (bits BinOp.and IntKind.i64 a2 127), Value.int IntKind.i64 (wrap64 (1 + bits BinOp.and IntKind.i64 a2 127)), Value.func (Fn.func 11) #[] #[Value.pointer (some ⟨R, 0, none⟩)], y 0, y 1, y 2, y 3, y 4, y 5, y 6, y 7, y 8, y 9, y 10, y 11, y 12, y 13, y 14, y 15, y 16, y 17, y 18, y 19, y 20, y 21, y 22, y 23, y 24, y 25, y 26, y 27, y 28, y 29, y 30, y 31, y 32, y 33, y 34, undef, undef, undef, undef, undef, undef, undef, undef, undef, undef, undef, undef, undef, undef, undef, undef, undef, undef, undef, undef, undef, undef, undef, undef, undef, undef, undef, undef, undef, undef, undef, undef, undef, undef, undef, undef, undef, undef, undef, undef, undef, undef, undef, undef, undef, undef, undef, undef, undef, undef, undef, undef, undef, undef, undef, undef, undef, undef, undef, undef, undef, undef, undef, undef, undef, undef, undef, undef, undef, undef, undef, undef, undef, undef], defers := [] }) (fun W => Below w4.heap.size w4 W) (fun i u W => match i with
    | 0 => u = .pointer (some ⟨T, 0, none⟩)
    | 1 => IsIt 45 T u W
    | 2 => u = .int .i64 (m : Nat)
    | 3 => VP u W (l.take m)
    | 4 => u = .func (.func 11) #[] #[.pointer (some ⟨R, 0, none⟩)]
    | 5 => u = .slice va q vc
    | 6 => VP u W (l.take m)
    | 7 => u = .bool true
    | 8 => u = .bool false
    | 9 => u = .bool false
    | 10 => u = .pointer (some ⟨T, 0, none⟩)
    | 11 => IsIt 47 T u W
    | 12 => u = .int .i64 (m : Nat)
    | 13 => VP u W (l.reverse.take m)
    | 14 => u = .func (.func 11) #[] #[.pointer (some ⟨R, 0, none⟩)]
    | 15 => u = .slice va q vc
    | 16 => VP u W l.reverse
    | 17 => VP u W (l.reverse.take m)
    | 18 => u = .bool true
    | 19 => u = .bool false
    | 20 => u = .bool false
    | 21 => u = .bool false
    | 22 => u = .pointer (some ⟨T, 0, none⟩)
    | 23 => u = .int .i64 a1
    | 24 => IsFrom T a1 u W
    | 25 => u = .int .i64 (m : Nat)
    | 26 => VP u W ((l.filter fun x => !(ltN x.1 a1)).take m)
    | 27 => u = .func (.func 11) #[] #[.pointer (some ⟨R, 0, none⟩)]
    | 28 => u = .slice va q vc
    | 29 => u = .int .i64 a1
    | 30 => VP u W (l.filter fun x => !(ltN x.1 a1))
    | 31 => VP u W ((l.filter fun x => !(ltN x.1 a1)).take m)
    | 32 => u = .bool true
    | 33 => u = .bool false
    | 34 => u = .bool false
    | _ => True) (fun A B => Below A.heap.size A B) ?hC ?hV (fun _ => undef) ?h0 ?hop ?hend
  case hC => exact fun A B h h2 => h.trans (h2.mono h.size)
  case h0 => exact (Below.refl _ w4).drew
  case hV =>
    intro i u A B h hx
    match i, h with
    | 0, h => exact h
    | 1, h => exact h.below hx
    | 2, h => exact h
    | 3, h => exact h.below hx
    | 4, h => exact h
    | 5, h => exact h
    | 6, h => exact h.below hx
    | 7, h => exact h
    | 8, h => exact h
    | 9, h => exact h
    | 10, h => exact h
    | 11, h => exact h.below hx
    | 12, h => exact h
    | 13, h => exact h.below hx
    | 14, h => exact h
    | 15, h => exact h
    | 16, h => exact h.below hx
    | 17, h => exact h.below hx
    | 18, h => exact h
    | 19, h => exact h
    | 20, h => exact h
    | 21, h => exact h
    | 22, h => exact h
    | 23, h => exact h
    | 24, h => exact h.below hx
    | 25, h => exact h
    | 26, h => exact h.below hx
    | 27, h => exact h
    | 28, h => exact h
    | 29, h => exact h
    | 30, h => exact h.below hx
    | 31, h => exact h.below hx
    | 32, h => exact h
    | 33, h => exact h
    | 34, h => exact h
    | (_ + 35), _ => trivial
  case hop =>
    simp only [AllDo]
    refine ⟨?o0, ?o1, ?o2, ?o3, ?o4, ?o5, ?o6, ?o7, ?o8, ?o9, ?o10, ?o11, ?o12, ?o13, ?o14, ?o15, ?o16, ?o17, ?o18, ?o19, ?o20, ?o21, ?o22, ?o23, ?o24, ?o25, ?o26, ?o27, ?o28, ?o29, ?o30, ?o31, ?o32, ?o33, ?o34, trivial⟩
    all_goals intro y W hc hd Q hQ
    all_goals have HTW := Lib.hid (HT4.out.below hc)
    all_goals have HRW := Lib.hid ((show Boxed W R 3 (.int .i64 m) from (hc.block _ HMB4.out.lt).trans HMB4.out).cell)
    all_goals have HPW := Lib.hid (prs_low HP4.out rfl hc)
    all_goals have qr := HRW.out
    all_goals have HCW := Lib.hid hc
    all_goals clear hc
    all_goals simp [Region.binds] at hd
    case o0 =>
      rw [if_pos (show Region.wanted _ _ = true from rfl)]
      go_wp2
      first | exact ⟨_, rfl, Below.refl _ _, rfl⟩ | (refine ⟨.pointer (some ⟨T, 0, none⟩), ?_, Below.refl _ _, rfl⟩; simp [updV])
    case o1 =>
      rw [if_pos (show Region.wanted _ _ = true from rfl)]
      have h0 : (y 0) = .pointer (some ⟨T, 0, none⟩) := by first | exact hd | exact hd.1 | exact hd.2 | exact hd.2.1 | exact hd.2.2 | exact hd.2.2.1 | exact hd.2.2.2 | exact hd.2.2.2.1 | exact hd.2.2.2.2
      have HC := Lib.hid (allIt T W)
      go_wp2_with fail
      refine HC.out.mono ?_
      rintro e W' ⟨u, rfl, hu, hb⟩
      have HU := Lib.hid hu
      have HB := Lib.hid hb
      clear hu hb
      go_wp2
      first | exact ⟨_, rfl, HB.out, HU.out⟩ | (refine ⟨u, ?_, HB.out, HU.out⟩; simp [updV, h0])
    case o2 =>
      rw [if_pos (show Region.wanted _ _ = true from rfl)]
      go_wp2
      first | exact ⟨_, rfl, Below.refl _ _, rfl⟩ | (refine ⟨.int .i64 (m : Nat), ?_, Below.refl _ _, rfl⟩; simp [updV])
    case o3 =>
      rw [if_pos (show Region.wanted _ _ = true from rfl)]
      have h1 : IsIt 45 T (y 1) W := by first | exact hd | exact hd.1 | exact hd.2 | exact hd.2.1 | exact hd.2.2 | exact hd.2.2.1 | exact hd.2.2.2 | exact hd.2.2.2.1 | exact hd.2.2.2.2
      have h2 : (y 2) = .int .i64 (m : Nat) := by first | exact hd | exact hd.1 | exact hd.2 | exact hd.2.1 | exact hd.2.2 | exact hd.2.2.1 | exact hd.2.2.2 | exact hd.2.2.2.1 | exact hd.2.2.2.2
      obtain ⟨B, e1, hB⟩ := h1
      have HC := Lib.hid (pairsAll B T l m HM1.out (by have := HM2.out; omega) W HTW.out hB)
      clear hB
      go_wp2_with fail
      refine HC.out.mono ?_
      rintro e W' ⟨u, rfl, hu, hb⟩
      have HU := Lib.hid (VP.own hu)
      have HB := Lib.hid hb
      clear hu hb
      go_wp2
      first | exact ⟨_, rfl, HB.out, HU.out⟩ | (refine ⟨u, ?_, HB.out, HU.out⟩; simp [updV, e1, h2])
    case o4 =>
      rw [if_pos (show Region.wanted _ _ = true from rfl)]
      go_wp2
      first | exact ⟨_, rfl, Below.refl _ _, rfl⟩ | (refine ⟨.func (.func 11) #[] #[.pointer (some ⟨R, 0, none⟩)], ?_, Below.refl _ _, rfl⟩; simp [updV])
    case o5 =>
      rw [if_pos (show Region.wanted _ _ = true from rfl)]
      go_wp2
      first | exact ⟨_, rfl, Below.refl _ _, rfl⟩ | (refine ⟨.slice va q vc, ?_, Below.refl _ _, rfl⟩; simp [updV])
    case o6 =>
      rw [if_pos (show Region.wanted _ _ = true from rfl)]
      have h4 : (y 4) = .func (.func 11) #[] #[.pointer (some ⟨R, 0, none⟩)] := by first | exact hd | exact hd.1 | exact hd.2 | exact hd.2.1 | exact hd.2.2 | exact hd.2.2.1 | exact hd.2.2.2 | exact hd.2.2.2.1 | exact hd.2.2.2.2
      have h5 : (y 5) = .slice va q vc := by first | exact hd | exact hd.1 | exact hd.2 | exact hd.2.1 | exact hd.2.2 | exact hd.2.2.1 | exact hd.2.2.2 | exact hd.2.2.2.1 | exact hd.2.2.2.2
      have HC := Lib.hid (cut_any R m W.heap.size va q vc l W HRW.out HPW.out)
      go_wp2_with fail
      refine HC.out.mono ?_
      rintro e W' ⟨a', n', c', rfl, hp, rfl⟩
      have HU : Hid (VP (.slice a' n' c') W' (l.take m)) := Lib.hid ⟨a', n', c', rfl, hp⟩
      clear hp
      go_wp2
      first | exact ⟨_, rfl, Below.refl _ _, HU.out⟩ | (refine ⟨(.slice a' n' c'), ?_, Below.refl _ _, HU.out⟩; simp [updV, h4, h5])
    case o7 =>
      rw [if_pos (show Region.wanted _ _ = true from rfl)]
      have h3 : VP (y 3) W (l.take m) := by first | exact hd | exact hd.1 | exact hd.2 | exact hd.2.1 | exact hd.2.2 | exact hd.2.2.1 | exact hd.2.2.2 | exact hd.2.2.2.1 | exact hd.2.2.2.2
      have h6 : VP (y 6) W (l.take m) := by first | exact hd | exact hd.1 | exact hd.2 | exact hd.2.1 | exact hd.2.2 | exact hd.2.2.1 | exact hd.2.2.2 | exact hd.2.2.2.1 | exact hd.2.2.2.2
      obtain ⟨a3, n3, c3, e3, p3⟩ := h3
      obtain ⟨a6, n6, c6, e6, p6⟩ := h6
      have HC := Lib.hid (refSame_any a3 a6 n3 n6 c3 c6 (l.take m) (by have h1 := HQ.out; have h2 := List.length_filter_le (fun x : Int × Int => !(ltN x.1 a1)) l; simp only [List.length_take, List.length_reverse]; omega) W p3 p6)
      clear p3 p6
      go_wp2_with fail
      refine HC.out.mono ?_
      rintro e W' ⟨rfl, hb⟩
      have HB := Lib.hid hb
      clear hb
      go_wp2
      first | exact ⟨_, rfl, HB.out, rfl⟩ | (refine ⟨(.bool true), ?_, HB.out, rfl⟩; simp [updV, e3, e6])
    case o8 =>
      rw [if_pos (show Region.wanted _ _ = true from rfl)]
      have h7 : (y 7) = .bool true := by first | exact hd | exact hd.1 | exact hd.2 | exact hd.2.1 | exact hd.2.2 | exact hd.2.2.1 | exact hd.2.2.2 | exact hd.2.2.2.1 | exact hd.2.2.2.2
      go_wp2
      first | exact ⟨_, rfl, Below.refl _ _, rfl⟩ | (refine ⟨(.bool false), ?_, Below.refl _ _, rfl⟩; simp [updV, h7])
    case o9 =>
      rw [if_pos (show Region.wanted _ _ = true from rfl)]
      have h8 : (y 8) = .bool false := by first | exact hd | exact hd.1 | exact hd.2 | exact hd.2.1 | exact hd.2.2 | exact hd.2.2.1 | exact hd.2.2.2 | exact hd.2.2.2.1 | exact hd.2.2.2.2
      go_wp2
      first | exact ⟨_, rfl, Below.refl _ _, rfl⟩ | (refine ⟨(.bool false), ?_, Below.refl _ _, rfl⟩; simp [updV, h8])
    case o10 =>
      have h9 : (y 9) = .bool false := by first | exact hd | exact hd.1 | exact hd.2 | exact hd.2.1 | exact hd.2.2 | exact hd.2.2.1 | exact hd.2.2.2 | exact hd.2.2.2.1 | exact hd.2.2.2.2
      rw [h9, if_pos (show Region.wanted _ _ = true from rfl)]
      go_wp2
      first | exact ⟨_, rfl, Below.refl _ _, rfl⟩ | (refine ⟨.pointer (some ⟨T, 0, none⟩), ?_, Below.refl _ _, rfl⟩; simp [updV, h9])
    case o11 =>
      have h9 : (y 9) = .bool false := by first | exact hd | exact hd.1 | exact hd.2 | exact hd.2.1 | exact hd.2.2 | exact hd.2.2.1 | exact hd.2.2.2 | exact hd.2.2.2.1 | exact hd.2.2.2.2
      rw [h9, if_pos (show Region.wanted _ _ = true from rfl)]
      have h10 : (y 10) = .pointer (some ⟨T, 0, none⟩) := by first | exact hd | exact hd.1 | exact hd.2 | exact hd.2.1 | exact hd.2.2 | exact hd.2.2.1 | exact hd.2.2.2 | exact hd.2.2.2.1 | exact hd.2.2.2.2
      have HC := Lib.hid (backIt T W)
      go_wp2_with fail
      refine HC.out.mono ?_
      rintro e W' ⟨u, rfl, hu, hb⟩
      have HU := Lib.hid hu
      have HB := Lib.hid hb
      clear hu hb
      go_wp2
      first | exact ⟨_, rfl, HB.out, HU.out⟩ | (refine ⟨u, ?_, HB.out, HU.out⟩; simp [updV, h9, h10])
    case o12 =>
      have h9 : (y 9) = .bool false := by first | exact hd | exact hd.1 | exact hd.2 | exact hd.2.1 | exact hd.2.2 | exact hd.2.2.1 | exact hd.2.2.2 | exact hd.2.2.2.1 | exact hd.2.2.2.2
      rw [h9, if_pos (show Region.wanted _ _ = true from rfl)]
      go_wp2
      first | exact ⟨_, rfl, Below.refl _ _, rfl⟩ | (refine ⟨.int .i64 (m : Nat), ?_, Below.refl _ _, rfl⟩; simp [updV, h9])
    case o13 =>
      have h9 : (y 9) = .bool false := by first | exact hd | exact hd.1 | exact hd.2 | exact hd.2.1 | exact hd.2.2 | exact hd.2.2.1 | exact hd.2.2.2 | exact hd.2.2.2.1 | exact hd.2.2.2.2
      rw [h9, if_pos (show Region.wanted _ _ = true from rfl)]
      have h11 : IsIt 47 T (y 11) W := by first | exact hd | exact hd.1 | exact hd.2 | exact hd.2.1 | exact hd.2.2 | exact hd.2.2.1 | exact hd.2.2.2 | exact hd.2.2.2.1 | exact hd.2.2.2.2
      have h12 : (y 12) = .int .i64 (m : Nat) := by first | exact hd | exact hd.1 | exact hd.2 | exact hd.2.1 | exact hd.2.2 | exact hd.2.2.1 | exact hd.2.2.2 | exact hd.2.2.2.1 | exact hd.2.2.2.2
      obtain ⟨B, e1, hB⟩ := h11
      have HC := Lib.hid (pairsBack B T l m HM1.out (by have := HM2.out; omega) W HTW.out hB)
      clear hB
      go_wp2_with fail
      refine HC.out.mono ?_
      rintro e W' ⟨u, rfl, hu, hb⟩
      have HU := Lib.hid (VP.own hu)
      have HB := Lib.hid hb
      clear hu hb
      go_wp2
      first | exact ⟨_, rfl, HB.out, HU.out⟩ | (refine ⟨u, ?_, HB.out, HU.out⟩; simp [updV, h9, e1, h12])
    case o14 =>
      have h9 : (y 9) = .bool false := by first | exact hd | exact hd.1 | exact hd.2 | exact hd.2.1 | exact hd.2.2 | exact hd.2.2.1 | exact hd.2.2.2 | exact hd.2.2.2.1 | exact hd.2.2.2.2
      rw [h9, if_pos (show Region.wanted _ _ = true from rfl)]
      go_wp2
      first | exact ⟨_, rfl, Below.refl _ _, rfl⟩ | (refine ⟨.func (.func 11) #[] #[.pointer (some ⟨R, 0, none⟩)], ?_, Below.refl _ _, rfl⟩; simp [updV, h9])
    case o15 =>
      have h9 : (y 9) = .bool false := by first | exact hd | exact hd.1 | exact hd.2 | exact hd.2.1 | exact hd.2.2 | exact hd.2.2.1 | exact hd.2.2.2 | exact hd.2.2.2.1 | exact hd.2.2.2.2
      rw [h9, if_pos (show Region.wanted _ _ = true from rfl)]
      go_wp2
      first | exact ⟨_, rfl, Below.refl _ _, rfl⟩ | (refine ⟨.slice va q vc, ?_, Below.refl _ _, rfl⟩; simp [updV, h9])
    case o16 =>
      have h9 : (y 9) = .bool false := by first | exact hd | exact hd.1 | exact hd.2 | exact hd.2.1 | exact hd.2.2 | exact hd.2.2.1 | exact hd.2.2.2 | exact hd.2.2.2.1 | exact hd.2.2.2.2
      rw [h9, if_pos (show Region.wanted _ _ = true from rfl)]
      have h15 : (y 15) = .slice va q vc := by first | exact hd | exact hd.1 | exact hd.2 | exact hd.2.1 | exact hd.2.2 | exact hd.2.2.1 | exact hd.2.2.2 | exact hd.2.2.2.1 | exact hd.2.2.2.2
      have HC := Lib.hid (refBack_any va q vc l (by have := HQ.out; omega) W HPW.out)
      go_wp2_with fail
      refine HC.out.mono ?_
      rintro e W' ⟨u, rfl, hu, hb⟩
      have HU := Lib.hid (VP.own (xs := l.reverse) (by rw [List.length_reverse]; exact hu))
      have HB := Lib.hid hb
      clear hu hb
      go_wp2
      first | exact ⟨_, rfl, HB.out, HU.out⟩ | (refine ⟨u, ?_, HB.out, HU.out⟩; simp [updV, h9, h15])
    case o17 =>
      have h9 : (y 9) = .bool false := by first | exact hd | exact hd.1 | exact hd.2 | exact hd.2.1 | exact hd.2.2 | exact hd.2.2.1 | exact hd.2.2.2 | exact hd.2.2.2.1 | exact hd.2.2.2.2
      rw [h9, if_pos (show Region.wanted _ _ = true from rfl)]
      have h14 : (y 14) = .func (.func 11) #[] #[.pointer (some ⟨R, 0, none⟩)] := by first | exact hd | exact hd.1 | exact hd.2 | exact hd.2.1 | exact hd.2.2 | exact hd.2.2.1 | exact hd.2.2.2 | exact hd.2.2.2.1 | exact hd.2.2.2.2
      have h16 : VP (y 16) W l.reverse := by first | exact hd | exact hd.1 | exact hd.2 | exact hd.2.1 | exact hd.2.2 | exact hd.2.2.1 | exact hd.2.2.2 | exact hd.2.2.2.1 | exact hd.2.2.2.2
      obtain ⟨a3, n3, c3, e3, p3⟩ := h16
      have HC := Lib.hid (cut_any R m W.heap.size a3 n3 c3 l.reverse W HRW.out p3)
      clear p3
      go_wp2_with fail
      refine HC.out.mono ?_
      rintro e W' ⟨a', n', c', rfl, hp, rfl⟩
      have HU : Hid (VP (.slice a' n' c') W' (l.reverse.take m)) := Lib.hid ⟨a', n', c', rfl, hp⟩
      clear hp
      go_wp2
      first | exact ⟨_, rfl, Below.refl _ _, HU.out⟩ | (refine ⟨(.slice a' n' c'), ?_, Below.refl _ _, HU.out⟩; simp [updV, h9, h14, e3])
    case o18 =>
      have h9 : (y 9) = .bool false := by first | exact hd | exact hd.1 | exact hd.2 | exact hd.2.1 | exact hd.2.2 | exact hd.2.2.1 | exact hd.2.2.2 | exact hd.2.2.2.1 | exact hd.2.2.2.2
      rw [h9, if_pos (show Region.wanted _ _ = true from rfl)]
      have h13 : VP (y 13) W (l.reverse.take m) := by first | exact hd | exact hd.1 | exact hd.2 | exact hd.2.1 | exact hd.2.2 | exact hd.2.2.1 | exact hd.2.2.2 | exact hd.2.2.2.1 | exact hd.2.2.2.2
      have h17 : VP (y 17) W (l.reverse.take m) := by first | exact hd | exact hd.1 | exact hd.2 | exact hd.2.1 | exact hd.2.2 | exact hd.2.2.1 | exact hd.2.2.2 | exact hd.2.2.2.1 | exact hd.2.2.2.2
      obtain ⟨a3, n3, c3, e3, p3⟩ := h13
      obtain ⟨a6, n6, c6, e6, p6⟩ := h17
      have HC := Lib.hid (refSame_any a3 a6 n3 n6 c3 c6 (l.reverse.take m) (by have h1 := HQ.out; have h2 := List.length_filter_le (fun x : Int × Int => !(ltN x.1 a1)) l; simp only [List.length_take, List.length_reverse]; omega) W p3 p6)
      clear p3 p6
      go_wp2_with fail
      refine HC.out.mono ?_
      rintro e W' ⟨rfl, hb⟩
      have HB := Lib.hid hb
      clear hb
      go_wp2
      first | exact ⟨_, rfl, HB.out, rfl⟩ | (refine ⟨(.bool true), ?_, HB.out, rfl⟩; simp [updV, h9, e3, e6])
    case o19 =>
      have h9 : (y 9) = .bool false := by first | exact hd | exact hd.1 | exact hd.2 | exact hd.2.1 | exact hd.2.2 | exact hd.2.2.1 | exact hd.2.2.2 | exact hd.2.2.2.1 | exact hd.2.2.2.2
      rw [h9, if_pos (show Region.wanted _ _ = true from rfl)]
      have h18 : (y 18) = .bool true := by first | exact hd | exact hd.1 | exact hd.2 | exact hd.2.1 | exact hd.2.2 | exact hd.2.2.1 | exact hd.2.2.2 | exact hd.2.2.2.1 | exact hd.2.2.2.2
      go_wp2
      first | exact ⟨_, rfl, Below.refl _ _, rfl⟩ | (refine ⟨(.bool false), ?_, Below.refl _ _, rfl⟩; simp [updV, h9, h18])
    case o20 =>
      rw [if_pos (show Region.wanted _ _ = true from rfl)]
      have h9 : (y 9) = .bool false := by first | exact hd | exact hd.1 | exact hd.2 | exact hd.2.1 | exact hd.2.2 | exact hd.2.2.1 | exact hd.2.2.2 | exact hd.2.2.2.1 | exact hd.2.2.2.2
      have h19 : (y 19) = .bool false := by first | exact hd | exact hd.1 | exact hd.2 | exact hd.2.1 | exact hd.2.2 | exact hd.2.2.1 | exact hd.2.2.2 | exact hd.2.2.2.1 | exact hd.2.2.2.2
      go_wp2
      first | exact ⟨_, rfl, Below.refl _ _, rfl⟩ | (refine ⟨(.bool false), ?_, Below.refl _ _, rfl⟩; simp [updV, h9, h19])
    case o21 =>
      rw [if_pos (show Region.wanted _ _ = true from rfl)]
      have h20 : (y 20) = .bool false := by first | exact hd | exact hd.1 | exact hd.2 | exact hd.2.1 | exact hd.2.2 | exact hd.2.2.1 | exact hd.2.2.2 | exact hd.2.2.2.1 | exact hd.2.2.2.2
      go_wp2
      first | exact ⟨_, rfl, Below.refl _ _, rfl⟩ | (refine ⟨(.bool false), ?_, Below.refl _ _, rfl⟩; simp [updV, h20])
    case o22 =>
      have h21 : (y 21) = .bool false := by first | exact hd | exact hd.1 | exact hd.2 | exact hd.2.1 | exact hd.2.2 | exact hd.2.2.1 | exact hd.2.2.2 | exact hd.2.2.2.1 | exact hd.2.2.2.2
      rw [h21, if_pos (show Region.wanted _ _ = true from rfl)]
      go_wp2
      first | exact ⟨_, rfl, Below.refl _ _, rfl⟩ | (refine ⟨.pointer (some ⟨T, 0, none⟩), ?_, Below.refl _ _, rfl⟩; simp [updV, h21])
    case o23 =>
      have h21 : (y 21) = .bool false := by first | exact hd | exact hd.1 | exact hd.2 | exact hd.2.1 | exact hd.2.2 | exact hd.2.2.1 | exact hd.2.2.2 | exact hd.2.2.2.1 | exact hd.2.2.2.2
      rw [h21, if_pos (show Region.wanted _ _ = true from rfl)]
      go_wp2
      first | exact ⟨_, rfl, Below.refl _ _, rfl⟩ | (refine ⟨.int .i64 a1, ?_, Below.refl _ _, rfl⟩; simp [updV, h21])
    case o24 =>
      have h21 : (y 21) = .bool false := by first | exact hd | exact hd.1 | exact hd.2 | exact hd.2.1 | exact hd.2.2 | exact hd.2.2.1 | exact hd.2.2.2 | exact hd.2.2.2.1 | exact hd.2.2.2.2
      rw [h21, if_pos (show Region.wanted _ _ = true from rfl)]
      have h22 : (y 22) = .pointer (some ⟨T, 0, none⟩) := by first | exact hd | exact hd.1 | exact hd.2 | exact hd.2.1 | exact hd.2.2 | exact hd.2.2.1 | exact hd.2.2.2 | exact hd.2.2.2.1 | exact hd.2.2.2.2
      have h23 : (y 23) = .int .i64 a1 := by first | exact hd | exact hd.1 | exact hd.2 | exact hd.2.1 | exact hd.2.2 | exact hd.2.2.1 | exact hd.2.2.2 | exact hd.2.2.2.1 | exact hd.2.2.2.2
      have HC := Lib.hid (fromIt T a1 W)
      go_wp2_with fail
      refine HC.out.mono ?_
      rintro e W' ⟨u, rfl, hu, hb⟩
      have HU := Lib.hid hu
      have HB := Lib.hid hb
      clear hu hb
      go_wp2
      first | exact ⟨_, rfl, HB.out, HU.out⟩ | (refine ⟨u, ?_, HB.out, HU.out⟩; simp [updV, h21, h22, h23])
    case o25 =>
      have h21 : (y 21) = .bool false := by first | exact hd | exact hd.1 | exact hd.2 | exact hd.2.1 | exact hd.2.2 | exact hd.2.2.1 | exact hd.2.2.2 | exact hd.2.2.2.1 | exact hd.2.2.2.2
      rw [h21, if_pos (show Region.wanted _ _ = true from rfl)]
      go_wp2
      first | exact ⟨_, rfl, Below.refl _ _, rfl⟩ | (refine ⟨.int .i64 (m : Nat), ?_, Below.refl _ _, rfl⟩; simp [updV, h21])
    case o26 =>
      have h21 : (y 21) = .bool false := by first | exact hd | exact hd.1 | exact hd.2 | exact hd.2.1 | exact hd.2.2 | exact hd.2.2.1 | exact hd.2.2.2 | exact hd.2.2.2.1 | exact hd.2.2.2.2
      rw [h21, if_pos (show Region.wanted _ _ = true from rfl)]
      have h24 : IsFrom T a1 (y 24) W := by first | exact hd | exact hd.1 | exact hd.2 | exact hd.2.1 | exact hd.2.2 | exact hd.2.2.1 | exact hd.2.2.2 | exact hd.2.2.2.1 | exact hd.2.2.2.2
      have h25 : (y 25) = .int .i64 (m : Nat) := by first | exact hd | exact hd.1 | exact hd.2 | exact hd.2.1 | exact hd.2.2 | exact hd.2.2.1 | exact hd.2.2.2 | exact hd.2.2.2.1 | exact hd.2.2.2.2
      obtain ⟨B, C, e1, hB, hC⟩ := h24
      have HC := Lib.hid (pairsFrom B C T a1 l m HM1.out (by have := HM2.out; omega) W HTW.out hB hC)
      clear hB hC
      go_wp2_with fail
      refine HC.out.mono ?_
      rintro e W' ⟨u, rfl, hu, hb⟩
      have HU := Lib.hid (VP.own hu)
      have HB := Lib.hid hb
      clear hu hb
      go_wp2
      first | exact ⟨_, rfl, HB.out, HU.out⟩ | (refine ⟨u, ?_, HB.out, HU.out⟩; simp [updV, h21, e1, h25])
    case o27 =>
      have h21 : (y 21) = .bool false := by first | exact hd | exact hd.1 | exact hd.2 | exact hd.2.1 | exact hd.2.2 | exact hd.2.2.1 | exact hd.2.2.2 | exact hd.2.2.2.1 | exact hd.2.2.2.2
      rw [h21, if_pos (show Region.wanted _ _ = true from rfl)]
      go_wp2
      first | exact ⟨_, rfl, Below.refl _ _, rfl⟩ | (refine ⟨.func (.func 11) #[] #[.pointer (some ⟨R, 0, none⟩)], ?_, Below.refl _ _, rfl⟩; simp [updV, h21])
    case o28 =>
      have h21 : (y 21) = .bool false := by first | exact hd | exact hd.1 | exact hd.2 | exact hd.2.1 | exact hd.2.2 | exact hd.2.2.1 | exact hd.2.2.2 | exact hd.2.2.2.1 | exact hd.2.2.2.2
      rw [h21, if_pos (show Region.wanted _ _ = true from rfl)]
      go_wp2
      first | exact ⟨_, rfl, Below.refl _ _, rfl⟩ | (refine ⟨.slice va q vc, ?_, Below.refl _ _, rfl⟩; simp [updV, h21])
    case o29 =>
      have h21 : (y 21) = .bool false := by first | exact hd | exact hd.1 | exact hd.2 | exact hd.2.1 | exact hd.2.2 | exact hd.2.2.1 | exact hd.2.2.2 | exact hd.2.2.2.1 | exact hd.2.2.2.2
      rw [h21, if_pos (show Region.wanted _ _ = true from rfl)]
      go_wp2
      first | exact ⟨_, rfl, Below.refl _ _, rfl⟩ | (refine ⟨.int .i64 a1, ?_, Below.refl _ _, rfl⟩; simp [updV, h21])
    case o30 =>
      have h21 : (y 21) = .bool false := by first | exact hd | exact hd.1 | exact hd.2 | exact hd.2.1 | exact hd.2.2 | exact hd.2.2.1 | exact hd.2.2.2 | exact hd.2.2.2.1 | exact hd.2.2.2.2
      rw [h21, if_pos (show Region.wanted _ _ = true from rfl)]
      have h28 : (y 28) = .slice va q vc := by first | exact hd | exact hd.1 | exact hd.2 | exact hd.2.1 | exact hd.2.2 | exact hd.2.2.1 | exact hd.2.2.2 | exact hd.2.2.2.1 | exact hd.2.2.2.2
      have h29 : (y 29) = .int .i64 a1 := by first | exact hd | exact hd.1 | exact hd.2 | exact hd.2.1 | exact hd.2.2 | exact hd.2.2.1 | exact hd.2.2.2 | exact hd.2.2.2.1 | exact hd.2.2.2.2
      have HC := Lib.hid (refFrom_any a1 va q vc l (by have := HQ.out; omega) W HPW.out)
      go_wp2_with fail
      refine HC.out.mono ?_
      rintro e W' ⟨u, rfl, hu, hb⟩
      have HU := Lib.hid (VP.own hu)
      have HB := Lib.hid hb
      clear hu hb
      go_wp2
      first | exact ⟨_, rfl, HB.out, HU.out⟩ | (refine ⟨u, ?_, HB.out, HU.out⟩; simp [updV, h21, h28, h29])
    case o31 =>
      have h21 : (y 21) = .bool false := by first | exact hd | exact hd.1 | exact hd.2 | exact hd.2.1 | exact hd.2.2 | exact hd.2.2.1 | exact hd.2.2.2 | exact hd.2.2.2.1 | exact hd.2.2.2.2
      rw [h21, if_pos (show Region.wanted _ _ = true from rfl)]
      have h27 : (y 27) = .func (.func 11) #[] #[.pointer (some ⟨R, 0, none⟩)] := by first | exact hd | exact hd.1 | exact hd.2 | exact hd.2.1 | exact hd.2.2 | exact hd.2.2.1 | exact hd.2.2.2 | exact hd.2.2.2.1 | exact hd.2.2.2.2
      have h30 : VP (y 30) W (l.filter fun x => !(ltN x.1 a1)) := by first | exact hd | exact hd.1 | exact hd.2 | exact hd.2.1 | exact hd.2.2 | exact hd.2.2.1 | exact hd.2.2.2 | exact hd.2.2.2.1 | exact hd.2.2.2.2
      obtain ⟨a3, n3, c3, e3, p3⟩ := h30
      have HC := Lib.hid (cut_any R m W.heap.size a3 n3 c3 (l.filter fun x => !(ltN x.1 a1)) W HRW.out p3)
      clear p3
      go_wp2_with fail
      refine HC.out.mono ?_
      rintro e W' ⟨a', n', c', rfl, hp, rfl⟩
      have HU : Hid (VP (.slice a' n' c') W' ((l.filter fun x => !(ltN x.1 a1)).take m)) := Lib.hid ⟨a', n', c', rfl, hp⟩
      clear hp
      go_wp2
      first | exact ⟨_, rfl, Below.refl _ _, HU.out⟩ | (refine ⟨(.slice a' n' c'), ?_, Below.refl _ _, HU.out⟩; simp [updV, h21, h27, e3])
    case o32 =>
      have h21 : (y 21) = .bool false := by first | exact hd | exact hd.1 | exact hd.2 | exact hd.2.1 | exact hd.2.2 | exact hd.2.2.1 | exact hd.2.2.2 | exact hd.2.2.2.1 | exact hd.2.2.2.2
      rw [h21, if_pos (show Region.wanted _ _ = true from rfl)]
      have h26 : VP (y 26) W ((l.filter fun x => !(ltN x.1 a1)).take m) := by first | exact hd | exact hd.1 | exact hd.2 | exact hd.2.1 | exact hd.2.2 | exact hd.2.2.1 | exact hd.2.2.2 | exact hd.2.2.2.1 | exact hd.2.2.2.2
      have h31 : VP (y 31) W ((l.filter fun x => !(ltN x.1 a1)).take m) := by first | exact hd | exact hd.1 | exact hd.2 | exact hd.2.1 | exact hd.2.2 | exact hd.2.2.1 | exact hd.2.2.2 | exact hd.2.2.2.1 | exact hd.2.2.2.2
      obtain ⟨a3, n3, c3, e3, p3⟩ := h26
      obtain ⟨a6, n6, c6, e6, p6⟩ := h31
      have HC := Lib.hid (refSame_any a3 a6 n3 n6 c3 c6 ((l.filter fun x => !(ltN x.1 a1)).take m) (by have h1 := HQ.out; have h2 := List.length_filter_le (fun x : Int × Int => !(ltN x.1 a1)) l; simp only [List.length_take, List.length_reverse]; omega) W p3 p6)
      clear p3 p6
      go_wp2_with fail
      refine HC.out.mono ?_
      rintro e W' ⟨rfl, hb⟩
      have HB := Lib.hid hb
      clear hb
      go_wp2
      first | exact ⟨_, rfl, HB.out, rfl⟩ | (refine ⟨(.bool true), ?_, HB.out, rfl⟩; simp [updV, h21, e3, e6])
    case o33 =>
      have h21 : (y 21) = .bool false := by first | exact hd | exact hd.1 | exact hd.2 | exact hd.2.1 | exact hd.2.2 | exact hd.2.2.1 | exact hd.2.2.2 | exact hd.2.2.2.1 | exact hd.2.2.2.2
      rw [h21, if_pos (show Region.wanted _ _ = true from rfl)]
      have h32 : (y 32) = .bool true := by first | exact hd | exact hd.1 | exact hd.2 | exact hd.2.1 | exact hd.2.2 | exact hd.2.2.1 | exact hd.2.2.2 | exact hd.2.2.2.1 | exact hd.2.2.2.2
      go_wp2
      first | exact ⟨_, rfl, Below.refl _ _, rfl⟩ | (refine ⟨(.bool false), ?_, Below.refl _ _, rfl⟩; simp [updV, h21, h32])
    case o34 =>
      rw [if_pos (show Region.wanted _ _ = true from rfl)]
      have h21 : (y 21) = .bool false := by first | exact hd | exact hd.1 | exact hd.2 | exact hd.2.1 | exact hd.2.2 | exact hd.2.2.1 | exact hd.2.2.2 | exact hd.2.2.2.1 | exact hd.2.2.2.2
      have h33 : (y 33) = .bool false := by first | exact hd | exact hd.1 | exact hd.2 | exact hd.2.1 | exact hd.2.2 | exact hd.2.2.1 | exact hd.2.2.2 | exact hd.2.2.2.1 | exact hd.2.2.2.2
      go_wp2
      first | exact ⟨_, rfl, Below.refl _ _, rfl⟩ | (refine ⟨(.bool false), ?_, Below.refl _ _, rfl⟩; simp [updV, h21, h33])
  case hend =>
    intro x W hc hv
    have e34 : x 34 = .bool false := hv 34 (by decide)
    have HTW := Lib.hid (HT4.out.below hc)
    have HPW := Lib.hid (prs_low HP4.out rfl hc)
    have HBW : Hid (Below w.heap.size w W) := Lib.hid (HBEL4.out.trans (hc.mono HBEL4.out.size))
    clear hv hc
    rw [e34]
    go_upto_region 12 with fail
    have HBT := Lib.hid (tableBelowN a1 T l W HTW.out)
    go_wp2_with fail
    refine HBT.out.mono ?_
    rintro e W1 ⟨rfl, nd, hW1⟩
    have hb1 : Below W.heap.size W W1 := by rw [hW1]; exact below_dr W nd
    have HT1 := Lib.hid (HTW.out.below hb1)
    have HP1 := Lib.hid (prs_low HPW.out rfl hb1)
    have HB1 : Hid (Below w.heap.size w W1) := Lib.hid (HBW.out.trans (hb1.mono HBW.out.size))
    clear hW1 hb1 HBT HTW HPW HBW
    have HRB := Lib.hid (refBelow_any a1 va q vc l (by rw [HQ.out]; omega) W1 HP1.out)
    have HLE := Lib.hid (tableLeastN T l W1 HT1.out)
    have HMO := Lib.hid (tableMostN T l W1 HT1.out)
    obtain ⟨bv, hbv⟩ : ∃ bv, ((belowL a1 l).map Prod.fst).getD 0 = bv := ⟨_, rfl⟩
    obtain ⟨bs, hbs⟩ : ∃ bs, (belowL a1 l).isSome = bs := ⟨_, rfl⟩
    rw [hbv, hbs] at HRB
    rw [hbv, hbs]
    clear hbv hbs
    go_wp2_with fail
    refine HRB.out.mono ?_
    rintro e W2 ⟨rfl, hx⟩
    obtain rfl := hx.symm
    go_wp2_with fail
    refine HLE.out.mono ?_
    rintro e W2 ⟨rfl, hx⟩
    obtain rfl := hx.symm
    go_wp2_with fail
    refine HMO.out.mono ?_
    rintro e W2 ⟨rfl, hx⟩
    obtain rfl := hx.symm
    clear HRB HLE HMO
    cases l with
    | nil =>
      have hq0 : q = 0 := HQ.out.symm
      subst hq0
      simp only [List.head?_nil, List.getLast?_nil, Option.map_none, Option.getD_none, Option.isSome_none]
      go_wp2_with fail
      go_ret
      exact ⟨rfl, HB1.out⟩
    | cons x r =>
      have hq1 : r.length + 1 = q := HQ.out
      obtain ⟨z, hz⟩ : ∃ z, (x :: r).getLast? = some z := ⟨_, List.getLast?_eq_some_getLast (by simp)⟩
      have hzl := last_at hz HQ.out
      have c00 := HP1.out.at_ (head_at (x := x) (r := r))
      obtain ⟨g, off, hva, hg, d0, d1⟩ := HP1.out.at_ hzl
      subst hva
      obtain ⟨g', off', hva', _, f0, f1⟩ := c00
      cases hva'
      rw [hz]
      have b1 : decide ((0 : Int) < (q : Int)) = true := decide_eq_true (by omega)
      have b2 : decide (0 < q) = true := decide_eq_true (by omega)
      have b3 : (0 : Int) < q := by omega
      have b4 : ((q : Int) - 1) = ((q - 1 : Nat) : Int) := by omega
      have b5 : (0 : Int) ≤ ((q - 1 : Nat) : Int) := by omega
      have b6 : ((q - 1 : Nat) : Int) < q := by omega
      have f00 : W1.cell? ⟨g, off, none⟩ = some (.int .i64 x.1) := by simpa using f0
      clear d1 f1 f0 hg hzl hz
      simp only [List.head?_cons, Option.map_some, Option.getD_some, Option.isSome_some]
      go_wp2_with fail
      trace_state
      go_ret
      exact ⟨rfl, HB1.out⟩


set_option maxRecDepth 100000 in
theorem lifted (os : Os) (started : os.Started) (H : Type) (enc : TypeId × Value → H) :
    ReturnsInHanded {} Try.checked os 3 .any (Rows.tablePlaysSpec.pre6 enc Try.prog Try.f3 Rows.tablePlaysRow.domain false) (Rows.tablePlaysSpec.post enc Try.prog Try.f3 false true false false) := by
  refine returnsInHanded_of_change (C := Try.checked) own started (by kernel_rfl) Try.func3
    (ChangeSpec.witness6 (enc := enc) (C := Try.checked) false ⟨#[], #[.slice none 0 0, .int .i64 0, .int .i64 0], []⟩ 8 (by kernel_rfl) (by kernel_rfl) (by kernel_rfl) (by kernel_rfl)) ?_
  intro W base args ds gs before hval0 hW hcnd _
  have hval : ∀ (j : Nat) t v, Try.f3.params[j]? = some t → args[j]? = some v → Value.okWide Try.prog W .any base t v := hval0
  have hW' := hW
  obtain ⟨p, q, hA0, hV, rfl, hfz, hnd⟩ := hW
  have hA : DataW.TrodAll enc Try.prog W 0 (fun _ => true) true Try.f3.params.toList args.toList ds p := hA0
  rw [Try.params3] at hA hval
  have hAk := hA
  obtain ⟨v0, vs0, d0, ds0, p0', q0, hargs, rfl, rfl, h0, r0⟩ := trodAll_cons hA
  obtain ⟨v1, vs1, d1, ds1, p1', q1, rfl, rfl, rfl, h1, r1⟩ := trodAll_cons r0
  obtain ⟨v2, vs2, d2, ds2, p2', q2, rfl, rfl, rfl, h2, r2⟩ := trodAll_cons r1
  obtain ⟨rfl, rfl, rfl⟩ := trodAll_nil r2
  obtain rfl : args = #[v0, v1, v2] := by cases args; simp_all
  obtain ⟨rfl, rfl⟩ := trodVars_none hV
  simp only [List.append_nil] at hW' hAk
  have hlt := fun x hx => hW'.lt x hx
  clear hA0 hval0
  obtain ⟨p0, n0, c0, l0, rfl, S0, b0⟩ := open_hops (okWide_slice Try.underlying22 (hval 0 22 v0 rfl rfl)) h0
  obtain ⟨a1, rfl, rfl, rfl, w1⟩ := open_int Try.underlying2 (hval 1 2 v1 rfl rfl) h1
  obtain ⟨a2, rfl, rfl, rfl, w2⟩ := open_int Try.underlying3 (hval 2 3 v2 rfl rfl) h2
  refine (walk W p0 n0 c0 l0 S0 b0 a1 w1 a2 w2).mono fun e W' ⟨he, hg⟩ => ?_
  subst he
  have hargs := trodAll_below hg _ _ _ _ (by intro t ht; simp only [List.mem_cons, List.not_mem_nil, or_false] at ht; revert t; rintro t (rfl | rfl | rfl) <;> exact ⟨by kernel_rfl, of_decide_eq_true (by kernel_rfl)⟩) hAk (fun x hx => by simpa using hlt x hx)
  exact ⟨_, rfl, _, _, _, [], _, [], hW', (trodAll_cons_mk (shut_bool Try.underlying4 _) trodAll_mk0), hargs, rfl, hg.frame _, fun h => by cases h⟩

theorem over : Rows.tablePlaysRow.holds Try.pinned (OpenSpec.ofChange Rows.tablePlaysSpec) :=
  OpenClaim.holds_of_wide 3 Try.f3 rfl rfl rfl rfl rfl rfl rfl ⟨rfl, rfl, rfl, rfl, rfl⟩ rfl rfl rfl rfl rfl (by kernel_rfl) Try.func3 (by kernel_rfl)
    (of_decide_eq_true (by kernel_rfl)) (by unfold Func.isWrapper; first | (rw [if_pos (by decide +kernel)]; kernel_rfl) | (rw [if_neg (by decide +kernel)]; exact ⟨rfl, rfl⟩))
    (fun os started H enc _ => lifted os started H enc)

theorem proved : Rows.TablePlaysSaid :=
  over
end Go.Proofs.Ytchnjafcnigllaa.tablePlays
