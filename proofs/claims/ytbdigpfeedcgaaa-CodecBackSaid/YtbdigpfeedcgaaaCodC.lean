/- In.count, In.cut, In.Bytes. -/
import Derived.Test.YtbdigpfeedcgaaaCodJ
import Derived.Test.YtbdigpfeedcgaaaCodA
import Derived.ArgAppend
namespace Go.Proofs.Ytbdigpfeedcgaaa
open Go.RowKit
set_option linter.unusedVariables false

set_option maxRecDepth 100000 in
set_option maxHeartbeats 1000000 in
theorem count_any (n0 b e most t : Nat) (l : List Nat) (hl : Bytes l) (hm : most < 9223372036854775808) (w : World) (h : InB n0 w b l e) :
    Calls Try.prog 94 #[.pointer (some ⟨b, 0, none⟩), .int .i64 (most : Nat), .int .i64 (t : Nat)] w fun e2 w' => e2 = .returned (.int .i64 ((countR l e most t).1 : Nat)) ∧ InB n0 w' b (countR l e most t).2.1 (countR l e most t).2.2 ∧ But [b] w w' := by
  have hU := inUint_any n0 b e l hl w h
  have hu := wholeR_lt l
  by_cases hc : most < (wholeR l).1
  · rw [show countR l e most t = (0, [], if (uintR l e).2 = 0 then t else (uintR l e).2) from if_pos hc]
    obtain ⟨s1, hs1⟩ : ∃ s1, (uintR l e).1 = s1 := ⟨_, rfl⟩
    obtain ⟨s2, hs2⟩ : ∃ s2, (uintR l e).2 = s2 := ⟨_, rfl⟩
    obtain ⟨u, hue⟩ : ∃ u, (wholeR l).1 = u := ⟨_, rfl⟩
    rw [hs1, hs2, hue] at hU
    rw [hs2]
    rw [hue] at hc hu
    have HU := Lib.hid hU
    obtain ⟨E, hE⟩ : ∃ E, (if s2 = 0 then t else s2) = E := ⟨_, rfl⟩
    have HE := Lib.hid hE
    rw [hE]
    clear h hU hs1 hs2 hue hE
    go_enter Try.func94, Try.ntmps94
    go_wp2_with fail
    refine HU.out.mono ?_
    rintro e2 w1 ⟨rfl, hi, hb⟩
    have HB := Lib.hid hb
    have hf := fail_any n0 b s2 t s1 w1 hi
    rw [HE.out] at hf
    have HF := Lib.hid hf
    clear hi hb HU hf
    go_wp2_with fail
    refine HF.out.mono ?_
    rintro e2 w2 ⟨rfl, hi2, hb2⟩
    have HI := Lib.hid hi2
    have HB2 := Lib.hid hb2
    clear hi2 hb2 HF
    go_wp2
    go_ret
    exact ⟨rfl, HI.out, HB.out.trans' HB2.out⟩
  · rw [show countR l e most t = ((wholeR l).1, uintR l e) from if_neg hc]
    obtain ⟨s, hs⟩ : ∃ s, uintR l e = s := ⟨_, rfl⟩
    obtain ⟨u, hue⟩ : ∃ u, (wholeR l).1 = u := ⟨_, rfl⟩
    rw [hs, hue] at hU
    rw [hs]
    rw [hue] at hc hu ⊢
    have HU := Lib.hid hU
    clear h hU hs hue
    go_enter Try.func94, Try.ntmps94
    go_wp2_with fail
    refine HU.out.mono ?_
    rintro e2 w1 ⟨rfl, hi, hb⟩
    have HI := Lib.hid hi
    have HB := Lib.hid hb
    clear hi hb HU
    go_wp2
    go_ret
    exact ⟨by go_num, HI.out, HB.out⟩

/-- An append to a slice that has no room: new memory, or nothing is turned. -/
theorem run_append_noroom (w : World) (b off : Nat) (ty : TypeId) (n : Nat) (hn : 0 < n) (c : Nat) (a : Option Addr) (l : List Nat) (hl : l.length = n) (hb : n ≤ 1073741824) (B : Nat) (hS : Sl encY B w (.slice a n c) l) (ao : Option Addr) (hao : ∃ ad, ao = some ad) :
    ∃ v' w', (Builtin.append_ #[22, 22] ty #[.slice ao 0 0, .slice a n c]).run Try.prog w = .ok v' w' ∧ w'.ownsRow w.heap.size 5 1 v' n (l.map encY) ∧ w.grownBy w' none := by
  obtain ⟨i0, hi, hz0, hz1, hz2⟩ := info_parts info8
  obtain ⟨ad, rfl⟩ := hao
  rcases hS with ⟨rfl, _⟩ | ⟨b2, off2, cap, e2, hb2, hcap, hc⟩
  · simp at hl; omega
  · cases e2
    obtain ⟨v', w', h1, h2, h3⟩ := run_append_arg_grows (P := Try.prog) w 22 ty 5 i0 (.int .u8 0) 1 1 Try.underlying22 hi hz0 hz1 hz2 rfl (by decide) ad 0 0 [] (by simp) (fun j u hj => by simp at hj) ⟨b2, off2, none⟩ l.length c (l.map encY) (by simp) (fun j u hu => by
      rw [List.getElem?_map] at hu
      cases hj : l[j]? with
      | none => rw [hj] at hu; cases hu
      | some y => rw [hj] at hu; cases hu; rw [show (⟨b2, off2, none⟩ : Addr).add j = ⟨b2, off2 + j, none⟩ from by unfold Addr.add; split <;> simp_all]; exact hc j y hj) (by omega) (by unfold maxLen; omega) (by omega)
    exact ⟨v', w', h1, by simpa using h2, h3⟩
theorem run_append_none (w : World) (ty : TypeId) (ao a : Option Addr) (c : Nat) (ha : a = none → c = 0) :
    (Builtin.append_ #[22, 22] ty #[.slice ao 0 0, .slice a 0 c]).run Try.prog w = .ok (.slice ao 0 0) w := by
  obtain ⟨i0, hi, hz0, hz1, hz2⟩ := info_parts info8
  cases a with
  | none =>
    cases ao <;> simp [Builtin.append_, run_underlying (P := Try.prog) (w := w) Try.underlying22, sizeOf, typeInfo, hi, Builtin.lenOf, run_firstCells_none, storeCells]
  | some ad =>
    have hf := run_firstCells_some (P := Try.prog) w i0.size 0 ad 0 c [] (by simp) (fun j u hj => by simp at hj)
    cases ao <;> simp [Builtin.append_, run_underlying (P := Try.prog) (w := w) Try.underlying22, sizeOf, typeInfo, hi, Builtin.lenOf, hf, storeCells]
end Go.Proofs.Ytbdigpfeedcgaaa

/- In.cut, In.Bytes. -/
namespace Go.Proofs.Ytbdigpfeedcgaaa
open Go.RowKit
set_option linter.unusedVariables false
attribute [local go_sem] Oper.semAt_some
attribute [-go_sem] Builtin.append_

theorem But.drewL (own : List Nat) (w : World) : But own w w.drew := (But.refl _ _).drew

theorem Off.of_owns {W : World} {base e n b : Nat} {v : Value} {xs : List Value} (h : W.ownsRow base e 1 v n xs) (hb : b < base) : Off [b] v := fun ad m c ev h0 hm => by
  rcases h.2 with ⟨e1, _⟩ | ⟨g, cap, cur, e1, hg, _⟩
  · rw [e1] at ev; cases ev
  · rw [e1] at ev; cases ev; simp at hm; omega
theorem Off.empty (own : List Nat) (a : Option Addr) (c : Nat) : Off own (.slice a 0 c) := fun ad n c e h0 => by cases e; omega

set_option maxRecDepth 100000 in
set_option maxHeartbeats 1000000 in
theorem inCut_any (n0 b e k : Nat) (l : List Nat) (hl : l.length ≤ 1048576) (hk : k ≤ l.length) (w : World) (h : InB n0 w b l e) :
    Calls Try.prog 96 #[.pointer (some ⟨b, 0, none⟩), .int .i64 (k : Nat)] w fun e2 w' => ∃ v, e2 = .returned v ∧ Sl encY w'.heap.size w' v (l.take k) ∧ Off [b] v ∧ InB n0 w' b (l.drop k) e ∧ But [b] w w' := by
  obtain ⟨v, h1, h2⟩ := h.blk
  have hle := h.le
  have hlt := h.lt
  obtain ⟨a, c, rfl⟩ := h2.form
  have c0 : w.cell? ⟨b, 0, none⟩ = some (.slice a l.length c) := cell_of_row w b 0 _ _ _ h1
  have f0 := frozen_of_row w b 0 _ _ h1
  have hcap := h2.capb
  cases a with
  | none =>
    obtain ⟨rfl, rfl⟩ : l = [] ∧ c = 0 := by
      rcases h2 with ⟨rfl, a', c', e, h0⟩ | ⟨b, off, cap, e, _⟩
      · cases e; exact ⟨rfl, h0 rfl⟩
      · cases e
    obtain rfl : k = 0 := by simpa using hk
    have hrun := run_append_none w.drew 22 none none 0 (fun _ => rfl)
    have H1 := Lib.hid h1
    have HLE := Lib.hid hle
    clear h h1 h2 hle
    go_enter Try.func96, Try.ntmps96
    go_wp2_with fail
    go_region
    all_goals go_wp2
    all_goals go_ret
    all_goals exact ⟨_, rfl, .inl ⟨rfl, none, 0, rfl, fun _ => rfl⟩, Off.empty _ _ _, ⟨by simpa [World.setCell] using HLE.out, _, heap_setCell_same w b 0 _ _ _ H1.out, Sl.nil _ _ _⟩, ((But.refl _ _).set (by simp) _).drew⟩
  | some ad =>
    rcases Nat.eq_zero_or_pos l.length with hl0 | hl0
    · obtain rfl := List.eq_nil_of_length_eq_zero hl0
      obtain rfl : k = 0 := by simpa using hk
      have hrun := run_append_none w.drew 22 (some ad) (some ad) c (fun e => by cases e)
      rw [show ([] : List Nat).length = 0 from rfl] at c0
      have H1 := Lib.hid h1
      have HLE := Lib.hid hle
      clear h h1 h2 hle
      go_enter Try.func96, Try.ntmps96
      go_wp2_with fail
      go_region
      all_goals go_wp2
      all_goals go_ret
      all_goals exact ⟨_, rfl, .inl ⟨rfl, _, 0, rfl, fun e => by cases e⟩, Off.empty _ _ _, ⟨by simpa [World.setCell] using HLE.out, _, heap_setCell_same w b 0 _ _ _ H1.out, .inl ⟨rfl, _, _, rfl, fun e => by cases e⟩⟩, ((But.refl _ _).set (by simp) _).drew⟩
    · obtain ⟨b', off, rfl⟩ : ∃ b' off, ad = ⟨b', off, none⟩ := by
        rcases h2 with ⟨e0, _⟩ | ⟨b', off, cap, e2, _⟩
        · rw [e0] at hl0; simp at hl0
        · cases e2; exact ⟨_, _, rfl⟩
      have hoff : Off [b] (.slice (some ⟨b', off, none⟩) l.length c) := by
        rcases InB.off h1 h2 ⟨_, _, _, rfl⟩ with h | h
        · exact h
        · rw [h] at hl0; simp at hl0
      have hne : b' ≠ b := fun e => hoff ⟨b', off, none⟩ _ _ rfl hl0 (by simp [e])
      have HD : Hid (Sl encY n0 w (.slice (some ⟨b', off + k, none⟩) (l.length - k) (c - k)) (l.drop k)) := Lib.hid (h2.from_ hk)
      have HOD : Hid (∀ m c', Off [b] (.slice (some ⟨b', off + k, none⟩) m c')) := Lib.hid (fun m c' ad n c e h0 hm => by cases e; simp at hm; exact hne hm)
      rcases Nat.eq_zero_or_pos k with hk0 | hk0
      · subst hk0
        have hrun := run_append_none w.drew 22 (some ⟨b', off, none⟩) (some ⟨b', off, none⟩) c (fun e => by cases e)
        obtain ⟨n, hn⟩ : ∃ n, l.length = n := ⟨_, rfl⟩
        rw [hn] at c0 HD hcap hl hl0 h1
        have H1 := Lib.hid h1
        have HLE := Lib.hid hle
        clear h h1 h2 hle hn hoff hne hk
        go_enter Try.func96, Try.ntmps96
        go_wp2_with fail
        go_region
        all_goals go_wp2
        all_goals go_ret
        have hset : But [b] w ((w.setCell ⟨b, 0, none⟩ (.slice (some ⟨b', off, none⟩) n c)).drew) := ((But.refl _ _).set (by simp) _).drew
        exact ⟨_, rfl, .inl ⟨rfl, _, 0, rfl, fun e => by cases e⟩, Off.empty _ _ _, ⟨by simpa [World.setCell] using HLE.out, _, heap_setCell_same w b 0 _ _ _ H1.out, Sl.butN HLE.out HD.out hset (HOD.out _ _)⟩, hset⟩
      · have HT := h2.take (k := k) (by omega)
        obtain ⟨v', w2, hrun, hown, hg⟩ := run_append_noroom w.drew b off 22 k hk0 c (some ⟨b', off, none⟩) (l.take k) (by rw [List.length_take]; omega) (by omega) n0 HT (some ⟨b', off, none⟩) ⟨_, rfl⟩
        have hb2 : w2.heap[b]? = w.heap[b]? := hg.block b hlt (by simp)
        have h12 := hb2.trans h1
        have c2 := cell_of_row w2 b 0 _ _ _ h12
        have f2 := frozen_of_row w2 b 0 _ _ h12
        have HB2 : Hid (But [b] w w2) := Lib.hid ⟨hg.os, hg.tape, hg.output, hg.size, fun j hj _ => hg.block j hj (by simp)⟩
        obtain ⟨n, hn⟩ : ∃ n, l.length = n := ⟨_, rfl⟩
        have hkl : (l.take k).length = k := by rw [List.length_take]; omega
        rw [hn] at c0 HD hcap hl hl0 h12 hk c2
        obtain ⟨pa, pn, pc, rfl⟩ := ownsRow_form hown
        have HOF := Lib.hid (Off.of_owns (b := b) hown hlt)
        have HOWN : Hid (w2.ownsRow w.drew.heap.size 5 1 (.slice pa pn pc) (l.take k).length ((l.take k).map encY)) := Lib.hid (by rw [hkl]; exact hown)
        have HN := Lib.hid hn
        have H1 := Lib.hid h12
        have HLE := Lib.hid hle
        clear h h1 h2 hle hn hoff hne hown hg h12 HT hb2 hkl
        go_enter Try.func96, Try.ntmps96
        go_wp2_with fail
        go_region
        all_goals go_wp2
        all_goals go_ret
        · have hkn : k = n := by omega
          subst hkn
          have hset : But [b] w (w2.setCell ⟨b, 0, none⟩ (.slice (some ⟨b', off, none⟩) (k - k) 0)) := HB2.out.set (by simp) _
          exact ⟨_, rfl, Sl.but (Sl.of_owns HOWN.out) ((But.refl [b] w2).set (by simp) _) HOF.out, HOF.out, ⟨Nat.le_trans HLE.out hset.size, _, heap_setCell_same w2 b 0 _ _ _ H1.out, .inl ⟨List.drop_eq_nil_of_le (by rw [HN.out]; exact Nat.le_refl _), _, _, by rw [Nat.sub_self], fun e => by cases e⟩⟩, hset⟩
        · have hset : But [b] w (w2.setCell ⟨b, 0, none⟩ (.slice (some ⟨b', off + k, none⟩) (n - k) (c - k))) := HB2.out.set (by simp) _
          exact ⟨_, rfl, Sl.but (Sl.of_owns HOWN.out) ((But.refl [b] w2).set (by simp) _) HOF.out, HOF.out, ⟨Nat.le_trans HLE.out hset.size, _, heap_setCell_same w2 b 0 _ _ _ H1.out, Sl.butN HLE.out HD.out hset (HOD.out _ _)⟩, hset⟩

set_option maxRecDepth 100000 in
set_option maxHeartbeats 1000000 in
/-- In.Bytes. -/
theorem inBytes_any (n0 b e most : Nat) (l : List Nat) (hl : Bytes l) (hm : most < 9223372036854775808) (w : World) (h : InB n0 w b l e) :
    Calls Try.prog 46 #[.pointer (some ⟨b, 0, none⟩), .int .i64 (most : Nat)] w fun e2 w' => ∃ v, e2 = .returned v ∧ Sl encY w'.heap.size w' v (takeB l e most).1 ∧ Off [b] v ∧ InB n0 w' b (takeB l e most).2.1 (takeB l e most).2.2 ∧ But [b] w w' := by
  have hC := count_any n0 b e most 2 l hl hm w h
  have hcb := countR_bytes hl e most 2
  have hcl := countR_le l e most 2
  obtain ⟨K, hK⟩ : ∃ K, (countR l e most 2).1 = K := ⟨_, rfl⟩
  obtain ⟨s, hs⟩ : ∃ s, (countR l e most 2).2.1 = s := ⟨_, rfl⟩
  obtain ⟨E, hE⟩ : ∃ E, (countR l e most 2).2.2 = E := ⟨_, rfl⟩
  rw [hK, hs, hE] at hC
  rw [hs] at hcb
  rw [hK] at hcl
  have hsl := hcb.1
  have HC := Lib.hid hC
  by_cases hlt : s.length < K
  · have HR : Hid (takeB l e most = ([], [], if E = 0 then 21 else E)) := Lib.hid (by unfold takeB; rw [hK, hs, hE, if_pos hlt])
    rw [HR.out]
    obtain ⟨E2, hE2⟩ : ∃ E2, (if E = 0 then 21 else E) = E2 := ⟨_, rfl⟩
    have HE2 := Lib.hid hE2
    rw [hE2]
    obtain ⟨m, hm2⟩ : ∃ m, s.length = m := ⟨_, rfl⟩
    rw [hm2] at hlt hsl
    have HM := Lib.hid hm2
    clear h hC hcb hK hs hE hE2 hm2
    go_enter Try.func46, Try.ntmps46
    go_wp2_with fail
    refine HC.out.mono ?_
    rintro e2 w1 ⟨rfl, hi, hb⟩
    have hf := fail_any n0 b E 21 s w1 hi
    rw [HE2.out] at hf
    have HF := Lib.hid hf
    have HB := Lib.hid hb
    obtain ⟨v1, h11, h12⟩ := hi.blk
    obtain ⟨a1, c1, rfl⟩ := h12.form
    have cc := cell_of_row w1 b 0 _ _ _ h11
    rw [HM.out] at cc
    clear hf hb hi h11 h12 HC
    go_wp2_with fail
    refine HF.out.mono ?_
    rintro e2 w2 ⟨rfl, hi2, hb2⟩
    have HI := Lib.hid hi2
    have HB2 := Lib.hid hb2
    clear hi2 hb2 HF cc
    go_wp2
    go_ret
    exact ⟨_, rfl, Sl.nil _ _ _, Off.empty _ _ _, HI.out, HB.out.trans' HB2.out⟩
  · have HR : Hid (takeB l e most = (s.take K, s.drop K, E)) := Lib.hid (by unfold takeB; rw [hK, hs, hE, if_neg hlt])
    rw [HR.out]
    obtain ⟨m, hm2⟩ : ∃ m, s.length = m := ⟨_, rfl⟩
    have HCUT : Hid (∀ w1, InB n0 w1 b s E → Calls Try.prog 96 #[.pointer (some ⟨b, 0, none⟩), .int .i64 (K : Nat)] w1 fun e2 w' => ∃ v, e2 = .returned v ∧ Sl encY w'.heap.size w' v (s.take K) ∧ Off [b] v ∧ InB n0 w' b (s.drop K) E ∧ But [b] w1 w') := Lib.hid (fun w1 hi => inCut_any n0 b E K s hsl (by omega) w1 hi)
    rw [hm2] at hlt hsl
    have HM := Lib.hid hm2
    clear h hC hcb hK hs hE hm2
    go_enter Try.func46, Try.ntmps46
    go_wp2_with fail
    refine HC.out.mono ?_
    rintro e2 w1 ⟨rfl, hi, hb⟩
    have HF := Lib.hid (HCUT.out w1 hi)
    have HB := Lib.hid hb
    obtain ⟨v1, h11, h12⟩ := hi.blk
    obtain ⟨a1, c1, rfl⟩ := h12.form
    have cc := cell_of_row w1 b 0 _ _ _ h11
    rw [HM.out] at cc
    clear hb hi h11 h12 HC HCUT
    go_wp2_with fail
    refine HF.out.mono ?_
    rintro e2 w2 ⟨v, rfl, hv, ho, hi2, hb2⟩
    obtain ⟨pa, pc, hve⟩ := hv.form
    have HV := Lib.hid hv
    have HI := Lib.hid hi2
    have HB2 := Lib.hid hb2
    clear hi2 hb2 HF cc hv hve
    go_wp2
    go_ret
    exact ⟨_, rfl, HV.out, ho, HI.out, HB.out.trans' HB2.out⟩
end Go.Proofs.Ytbdigpfeedcgaaa
