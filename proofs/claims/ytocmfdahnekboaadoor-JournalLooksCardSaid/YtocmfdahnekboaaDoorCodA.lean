/- What package codec has written, in memory; Out.Uint. -/
import Derived.Test.YtocmfdahnekboaaDoorDevH
import Derived.Test.YtocmfdahnekboaaDoorCodM
import Derived.Test.YtocmfdahnekboaaDoorFrameAl
namespace Go.Proofs.YtocmfdahnekboaaDoor
open Go.RowKit
set_option linter.unusedVariables false

/-- The Out at block b holds l, in a row of its own whose slice is v. -/
structure OutB (W : World) (b : Nat) (v : Value) (l : List Nat) : Prop where
  blk : W.heap[b]? = some (.cells #[v] 95 (0, 0))
  row : Row W v l
theorem OutB.lt {W : World} {b : Nat} {v : Value} {l : List Nat} (h : OutB W b v l) : b < W.heap.size := (Array.getElem?_eq_some_iff.1 h.blk).1
theorem OutB.cell {W : World} {b : Nat} {v : Value} {l : List Nat} (h : OutB W b v l) : W.cell? ⟨b, 0, none⟩ = some v := cell_of_row W b 0 _ _ _ h.blk
theorem OutB.frozen {W : World} {b : Nat} {v : Value} {l : List Nat} (h : OutB W b v l) : W.frozen? ⟨b, 0, none⟩ = false := frozen_of_row W b 0 _ _ h.blk
theorem OutB.ne {W : World} {b : Nat} {v : Value} {l : List Nat} (h : OutB W b v l) : v.ownBlock ≠ some b := by
  rcases h.row.2 with ⟨e, _⟩ | ⟨g, c, cur, hv, _, hh, _⟩
  · rw [e]; simp [Value.ownBlock]
  · rw [hv]
    intro e
    obtain rfl : g = b := by simpa [Value.ownBlock] using e
    have hd := h.blk
    rw [hh] at hd
    cases hd
theorem OutB.but {W W' : World} {own : List Nat} {b : Nat} {v : Value} {l : List Nat} (h : OutB W b v l) (hb : But own W W') (h1 : b ∉ own) (h2 : ∀ g, v.ownBlock = some g → g ∉ own) : OutB W' b v l :=
  ⟨(hb.block b h.lt h1).trans h.blk, h.row.but hb h2⟩
theorem OutB.below {W W' : World} {b : Nat} {v : Value} {l : List Nat} (h : OutB W b v l) (hb : Below W.heap.size W W') : OutB W' b v l :=
  h.but (own := []) (But.of_below hb) (by simp) (fun _ _ => by simp)
/-- A new one. -/
theorem OutB.new (W : World) : OutB (W.alloc (.cells #[.slice none 0 0] 95)) W.heap.size (.slice none 0 0) [] :=
  ⟨World.alloc_heap_new W _, ⟨rfl, .inl ⟨rfl, rfl⟩⟩⟩

/-- The Out at b, that was v at W, is v' and holds l at W'; nothing but it has turned. -/
structure OutTo (W : World) (b : Nat) (v : Value) (v' : Value) (l : List Nat) (W' : World) : Prop where
  out : OutB W' b v' l
  but : But (b :: v.ownBlock.toList) W W'
  own : v'.ownBlock = v.ownBlock ∨ ∃ g, v'.ownBlock = some g ∧ W.heap.size ≤ g
theorem OutTo.refl {W : World} {b : Nat} {v : Value} {l : List Nat} (h : OutB W b v l) : OutTo W b v v l W := ⟨h, But.refl _ _, .inl rfl⟩
theorem OutTo.trans {A B C : World} {b : Nat} {v v1 v2 : Value} {l1 l2 : List Nat} (h : OutTo A b v v1 l1 B) (k : OutTo B b v1 v2 l2 C) : OutTo A b v v2 l2 C := by
  refine ⟨k.out, h.but.trans k.but (fun x hx => ?_), ?_⟩
  · rcases List.mem_cons.1 hx with rfl | hx
    · exact .inl (List.mem_cons_self ..)
    · rw [Option.mem_toList] at hx
      rcases h.own with e | ⟨g, e, hg⟩
      · exact .inl (List.mem_cons_of_mem _ (by rw [Option.mem_toList, ← e]; exact hx))
      · rw [e] at hx; cases hx; exact .inr hg
  · rcases k.own with e | ⟨g, e, hg⟩
    · rw [e]; exact h.own
    · exact .inr ⟨g, e, Nat.le_trans h.but.size hg⟩

/-- Behind an append to what an Out holds, and the store of what came of it. -/
theorem OutB.push {W W0 W1 : World} {b : Nat} {v v' : Value} {l xs : List Nat} (h : OutB W b v l) (h0 : Below W.heap.size W W0)
    (hown : W1.ownsRow 0 5 1 v' (l.length + xs.length) (l.map encY ++ xs.map encY)) (hg : W0.grownBy W1 v.ownBlock) (hat : v'.ownBlock = v.ownBlock ∨ v'.ownBlock = some W0.heap.size) :
    OutTo W b v v' (l ++ xs) (W1.setCell ⟨b, 0, none⟩ v') := by
  have hB := h.below h0
  have hrow : Row W1 v' (l ++ xs) := by
    unfold Row
    rw [List.length_append, List.map_append]; exact hown
  have hblk : W1.heap[b]? = some (.cells #[v] 95 (0, 0)) := (hg.block b hB.lt (fun e => hB.ne e.symm)).trans hB.blk
  have hne : v'.ownBlock ≠ some b := by
    rcases hat with e | e
    · rw [e]; exact hB.ne
    · rw [e]; intro e2; cases e2; have := hB.lt; omega
  have hset : But [b] W1 (W1.setCell ⟨b, 0, none⟩ v') := (But.refl _ _).set (by simp) _
  refine ⟨⟨heap_setCell_same W1 b 0 _ _ v' hblk, hrow.but hset (fun g hg' hk => by simp at hk; subst hk; exact hne hg')⟩, ?_, ?_⟩
  · refine (((But.of_below h0).more (fun _ hk => .inl hk)).grown hg (fun g e => ?_)).set (by simp) _
    exact List.mem_cons_of_mem _ (by rw [Option.mem_toList]; exact e)
  · rcases hat with e | e
    · exact .inl e
    · exact .inr ⟨_, e, h0.size⟩

theorem OutB.kept {W W0 W1 : World} {b : Nat} {v : Value} {l : List Nat} (h : OutB W b v l) (h0 : Below W.heap.size W W0) (hg : W0.grownBy W1 v.ownBlock) : W1.heap[b]? = some (.cells #[v] 95 (0, 0)) :=
  (hg.block b (h.below h0).lt (fun e => (h.below h0).ne e.symm)).trans (h.below h0).blk

set_option maxRecDepth 100000 in
set_option maxHeartbeats 1000000 in
theorem uint_any (N : Nat) (hN : N < 18446744073709551616) (b : Nat) (v : Value) (l : List Nat) (hl : l.length ≤ 1000000000) (w : World) (h : OutB w b v l) :
    Calls Tryd.prog 52 #[.pointer (some ⟨b, 0, none⟩), .int .u64 (N : Nat)] w fun e w' => e = .returned (.tuple #[]) ∧ ∃ v', OutTo w b v v' (l ++ uv N) w' := by
  obtain ⟨i0, hi, hz0, hz1, hz2⟩ := info_parts info8
  have HT0 := OutTo.refl h
  have hU := uv_len10 hN
  clear h
  go_enter Tryd.func52, Tryd.ntmps52
  go_wp2
  go_loopw [1] (fun x wr => ∃ (m : Nat) (pre : List Nat) (vr : Value), x = .int .u64 (m : Nat) ∧ m < 18446744073709551616 ∧ uv N = pre ++ uv m ∧ OutTo w b v vr (l ++ pre) wr) (fun x _ => (intOf x).toNat)
  case atStart => exact ⟨N, [], v, rfl, hN, rfl, by simpa using HT0⟩
  case round =>
    obtain ⟨m, pre, vr, rfl, hm, hpre, hto⟩ := hrel
    have hpl : pre.length ≤ 10 := by have := congrArg List.length hpre; rw [List.length_append] at this; omega
    obtain ⟨a, c, rfl, hcc⟩ := hto.out.row.form
    have hc := hto.out.cell
    have hf := hto.out.frozen
    obtain ⟨q, hq⟩ : ∃ q, (l ++ pre).length = q := ⟨_, rfl⟩
    rw [hq] at hto hc hcc
    have hql : q ≤ 1000000010 := by rw [← hq, List.length_append]; omega
    have hlp2 : ∀ y : Nat, l ++ (pre ++ [y]) = (l ++ pre) ++ [y] := fun y => (List.append_assoc ..).symm
    obtain ⟨lp, hlp⟩ : ∃ lp, l ++ pre = lp := ⟨_, rfl⟩
    rw [hlp] at hto hq hlp2
    clear hlp
    have HQ := Lib.hid hq
    have HTO := Lib.hid hto
    have HO : Hid (∀ o, (wr.alloc o).ownsRow 0 5 1 (.slice a q c) q (lp.map encY)) := Lib.hid (fun o => by
      have h2 := (hto.out.below ((Below.refl _ wr).alloc (Nat.le_refl _) o)).row
      unfold Row at h2; rw [hq] at h2; exact h2)
    have HP : Hid (∀ (y : Nat) (o : Obj) (v' : Value) (w1 : World), w1.ownsRow 0 5 1 v' (q + 1) (lp.map encY ++ [.int .u8 (y : Int)]) → (wr.alloc o).grownBy w1 (Value.slice a q c).ownBlock → (v'.ownBlock = (Value.slice a q c).ownBlock ∨ v'.ownBlock = some (wr.heap.size + 1)) → w1.heap[b]? = some (.cells #[.slice a q c] 95 (0, 0)) ∧ OutTo w b v v' (l ++ (pre ++ [y])) (w1.setCell ⟨b, 0, none⟩ v')) := Lib.hid (fun y o v' w1 h1 h2 h3 => ⟨hto.out.kept ((Below.refl _ wr).alloc (Nat.le_refl _) o) h2, by
      have hp := hto.out.push (xs := [y]) ((Below.refl _ wr).alloc (Nat.le_refl _) o) (by rw [hq]; exact h1) h2 (by rw [World.size_alloc]; exact h3)
      rw [hlp2]; exact hto.trans hp⟩)
    have HPRE := Lib.hid hpre
    clear hpre hto HT0 hlp2
    by_cases hge : 128 ≤ m
    · have HE : Hid (uv m = [128 + m % 128] ++ uv (m / 128)) := Lib.hid (uv_ge hge)
      have hor := or128 m
      obtain ⟨y, hy⟩ : ∃ y, 128 + m % 128 = y := ⟨_, rfl⟩
      have hy2 : y < 256 := by omega
      rw [hy] at hor HE
      clear hy
      go_wp2_with (at_builtin; refine wpList_append_own_at _ rfl _ _ 22 rfl 0 5 i0 (.int .u8 0) 1 1 Tryd.underlying22 hi hz0 hz1 hz2 rfl (by decide) _ _ _ rfl (HO.out _) ⟨wr.heap.size, 0, none⟩ 1 1 [.int .u8 (y : Int)] rfl rfl (cell_one_new _ _ _) (by simp [Value.oneCell']) (by unfold maxLen; omega) (by omega) (Nat.zero_le _) ?_)
      intro v' w1 hown' hgrow _ hat
      obtain ⟨p2, n2, c2, rfl⟩ := ownsRow_form hown'
      obtain ⟨hb1, hto1⟩ := HP.out y _ _ _ hown' hgrow hat
      have hc1 := cell_of_row w1 b 0 _ _ _ hb1
      have hf1 := frozen_of_row w1 b 0 _ _ hb1
      have HTO1 := Lib.hid hto1
      clear hown' hgrow hat hto1 hb1 HO HP hc hf
      go_wp2
      go_roundw
      case rel => exact ⟨m / 128, pre ++ [y], _, by go_num, by omega, by rw [HPRE.out, HE.out, List.append_assoc], HTO1.out⟩
      case measure => simp [intOf]; omega
    · have HE : Hid (uv m = [m]) := Lib.hid (uv_lt (by omega))
      go_wp2_with (at_builtin; refine wpList_append_own_at _ rfl _ _ 22 rfl 0 5 i0 (.int .u8 0) 1 1 Tryd.underlying22 hi hz0 hz1 hz2 rfl (by decide) _ _ _ rfl (HO.out _) ⟨wr.heap.size, 0, none⟩ 1 1 [.int .u8 (m : Int)] rfl rfl (cell_one_new _ _ _) (by simp [Value.oneCell']) (by unfold maxLen; omega) (by omega) (Nat.zero_le _) ?_)
      intro v' w1 hown' hgrow _ hat
      obtain ⟨p2, n2, c2, rfl⟩ := ownsRow_form hown'
      obtain ⟨hb1, hto1⟩ := HP.out m _ _ _ hown' hgrow hat
      have hc1 := cell_of_row w1 b 0 _ _ _ hb1
      have hf1 := frozen_of_row w1 b 0 _ _ hb1
      have HTO1 := Lib.hid hto1
      clear hown' hgrow hat hto1 hb1 HO HP hc hf
      go_wp2
      go_end0
      refine ⟨rfl, .slice p2 n2 c2, ?_⟩
      rw [HPRE.out, HE.out]
      exact HTO1.out
end Go.Proofs.YtocmfdahnekboaaDoor

/- Out.Int, Out.Bytes, Out.Done. -/
namespace Go.Proofs.YtocmfdahnekboaaDoor
open Go.RowKit
set_option linter.unusedVariables false

/-- An append of whatever bytes to a row, and where the new slice lies. -/
theorem wpList_append_bytes_at (w : World) {ops : Array Oper} {rest : List Oper} {o : Oper} {a : Act} {Q : Exit → Act → World → Prop} (hgd : o.guard = none) (s x : Operand)
    (ho : o.op = .call { callee := .builtin .append, args := #[s, x], argTypes := #[22, 22] })
    (base : Nat) (v : Value) (n : Nat) (xs : List Value) (hs : a.eval s = v) (hown : w.ownsRow base 5 1 v n xs)
    (B : Nat) (sv : Value) (l : List Nat) (hx : a.eval x = sv) (hS : Sl encY B w sv l) (hm : n + l.length ≤ 1073741824) (hbase : base ≤ w.heap.size)
    (h : ∀ v' w', w'.ownsRow base 5 1 v' (n + l.length) (xs ++ l.map encY) → w.grownBy w' v.ownBlock → (v'.ownBlock = v.ownBlock ∨ v'.ownBlock = some w.heap.size) → wpList Tryd.prog ops Q rest (a.put o.dst v') w') : wpList Tryd.prog ops Q (o :: rest) a w := by
  obtain ⟨i0, hi, hz0, hz1, hz2⟩ := info_parts info8
  rcases hS with ⟨rfl, ao, c0, rfl, hao⟩ | ⟨b, off, cap, rfl, hb, hcap, hc⟩
  · cases ao with
    | some ad => exact wpList_append_own_at w hgd s x 22 ho base 5 i0 (.int .u8 0) 1 1 Tryd.underlying22 hi hz0 hz1 hz2 rfl (by decide) v n xs hs hown ad 0 c0 [] hx rfl (fun j u hu => by simp at hu) (fun u hu => by cases hu) (by unfold maxLen; omega) (by omega) hbase (fun v' w' h1 h2 _ h3 => h v' w' h1 h2 h3)
    | none =>
      obtain rfl := hao rfl
      exact wpList_append_own_none hgd s x 22 ho base 5 i0 1 Tryd.underlying22 hi v n xs hs hown hx (h v w (by simpa using hown) (World.grownBy.refl _ _) (.inl rfl))
  · refine wpList_append_own_at w hgd s x 22 ho base 5 i0 (.int .u8 0) 1 1 Tryd.underlying22 hi hz0 hz1 hz2 rfl (by decide) v n xs hs hown ⟨b, off, none⟩ l.length cap (l.map encY) hx (by simp) (fun j u hu => ?_) (encY_one l) (by unfold maxLen; omega) (by omega) hbase (fun v' w' h1 h2 _ h3 => h v' w' h1 h2 h3)
    rw [List.getElem?_map] at hu
    cases hj : l[j]? with
    | none => rw [hj] at hu; cases hu
    | some y => rw [hj] at hu; cases hu; rw [show (⟨b, off, none⟩ : Addr).add j = ⟨b, off + j, none⟩ from by unfold Addr.add; split <;> simp_all]; exact hc j y hj

set_option maxRecDepth 100000 in
set_option maxHeartbeats 1000000 in
theorem done_any (b : Nat) (v : Value) (l : List Nat) (hl : l.length ≤ 1048576) (w : World) (h : OutB w b v l) :
    Calls Tryd.prog 53 #[.pointer (some ⟨b, 0, none⟩)] w fun e w' => ∃ r, e = .returned r ∧ w'.ownsRow w.heap.size 5 1 r l.length (l.map encY) ∧ Below w.heap.size w w' := by
  obtain ⟨a, c, rfl, hcc⟩ := h.row.form
  have hc := h.cell
  have HC := Lib.hid (cloneY_any a l.length c l hl w h.row.sl)
  obtain ⟨n, hn⟩ : ∃ n, l.length = n := ⟨_, rfl⟩
  rw [hn] at HC hc hl ⊢
  clear h hn
  go_enter Tryd.func53, Tryd.ntmps53
  go_wp2_with (go_at_call 44; refine HC.out.mono ?_; rintro e w1 ⟨r, rfl, hr, hb⟩)
  go_ret
  exact ⟨r, rfl, hr, hb⟩

end Go.Proofs.YtocmfdahnekboaaDoor
