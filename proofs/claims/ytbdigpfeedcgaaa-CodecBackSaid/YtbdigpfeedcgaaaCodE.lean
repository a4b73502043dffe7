/- The iterator that reads the numbers of a list. -/
import Derived.Test.YtbdigpfeedcgaaaCodC
import Derived.Test.YtbdigpfeedcgaaaRangeB
import Derived.Test.YtbdigpfeedcgaaaFrameAl
namespace Go.Proofs.Ytbdigpfeedcgaaa
open Go.RowKit
set_option linter.unusedVariables false
attribute [local go_sem] Oper.semAt_some

set_option maxRecDepth 100000 in
theorem take_any (n0 b e : Nat) (l : List Nat) (hl : Bytes l) (w : World) (h : InB n0 w b l e) :
    Calls Try.prog 45 #[.pointer (some ⟨b, 0, none⟩)] w fun e2 w' => e2 = .returned (.int .i64 (zag (wholeR l).1)) ∧ InB n0 w' b (uintR l e).1 (uintR l e).2 ∧ But [b] w w' := by
  have HI := Lib.hid (inInt_any n0 b e l hl w h)
  clear h
  go_enter Try.func45, Try.ntmps45
  go_wp2_with (go_at_call 42; refine HI.out.mono ?_; rintro e2 w1 ⟨rfl, hi, hb⟩)
  go_ret
  exact ⟨rfl, hi, hb⟩

theorem each_any (b N : Nat) (w : World) :
    Calls Try.prog 93 #[.pointer (some ⟨b, 0, none⟩),   .int .i64 (N : Nat), .func (.func 45) #[] #[]] w fun e w' => e = .returned (.func (.func 118) #[] #[.pointer (some ⟨w.heap.size + 1, 0, none⟩), .pointer (some ⟨w.heap.size + 2, 0, none⟩), .pointer (some ⟨w.heap.size, 0, none⟩)]) ∧
      w' = ((w.alloc (.cells #[.pointer (some ⟨b, 0, none⟩)] 65)).alloc (.cells #[.int .i64 (N : Nat)] 3)).alloc (.cells #[.func (.func 45) #[] #[]] 70) := by
  go_enter Try.func93, Try.ntmps93
  go_wp2
  go_ret
  exact ⟨rfl, rfl⟩

theorem intsR_step {N k : Nat} {pre : List Int} {l0 l : List Nat} {e0 e : Nat} (hk : k < N) (h : intsR N l0 e0 = (pre ++ (intsR (N - k) l e).1, (intsR (N - k) l e).2)) :
    ((uintR l e).2 ≠ 0 → intsR N l0 e0 = (pre, uintR l e)) ∧
    ((uintR l e).2 = 0 → intsR N l0 e0 = ((pre ++ [zag (wholeR l).1]) ++ (intsR (N - (k + 1)) (uintR l e).1 (uintR l e).2).1, (intsR (N - (k + 1)) (uintR l e).1 (uintR l e).2).2)) := by
  obtain ⟨j, hj⟩ : ∃ j, N - k = j + 1 := ⟨N - k - 1, by omega⟩
  have hj2 : N - (k + 1) = j := by omega
  rw [hj] at h
  rw [hj2]
  have hs : intsR (j + 1) l e = if (uintR l e).2 = 0 then (zag (wholeR l).1 :: (intsR j (uintR l e).1 (uintR l e).2).1, (intsR j (uintR l e).1 (uintR l e).2).2) else ([], uintR l e) := rfl
  refine ⟨fun hne => ?_, fun h0 => ?_⟩
  · rw [if_neg hne] at hs
    rw [h, hs, List.append_nil]
  · rw [if_pos h0] at hs
    rw [hs] at h
    rw [h, List.append_assoc]
    rfl

set_option maxRecDepth 100000 in
set_option maxHeartbeats 4000000 in
theorem each1 (b Bn Bo Bi n0 N e : Nat) (l : List Nat) (hl : Bytes l) (hN : N ≤ 1048576) (w : World) (hi : InB n0 w b l e) (hbn : b < n0)
    (h1 : Boxed w Bn 3 (.int .i64 (N : Nat))) (h2 : Boxed w Bo 70 (.func (.func 45) #[] #[])) (h3 : Boxed w Bi 65 (.pointer (some ⟨b, 0, none⟩)))
    (hd1 : Bn ≠ b) (hd2 : Bo ≠ b) (hd3 : Bi ≠ b) :
    SeqB Fence.wide 2 Try.prog 118 #[.pointer (some ⟨Bn, 0, none⟩), .pointer (some ⟨Bo, 0, none⟩), .pointer (some ⟨Bi, 0, none⟩)] (fun (x : Int) => #[.int .i64 x]) n0 0 [b, Bn, Bo, Bi]
      (fun ys W => ys = (intsR N l e).1 ∧ InB n0 W b (intsR N l e).2.1 (intsR N l e).2.2) (fun pre => pre <+: (intsR N l e).1) (fun _ _ => True) w := fun l0 J Jx W hW hJ hJx hJb hJxb hY h0 => by
  have hbw := hi.lt
  have hiW := hi.below hW hi.le hbw
  have b1 := (hW.block Bn h1.lt).trans h1
  have b2 := (hW.block Bo h2.lt).trans h2
  have b3 := (hW.block Bi h3.lt).trans h3
  have HY := Lib.hid hY
  have HJB := Lib.hid hJb
  have HJXB := Lib.hid hJxb
  obtain ⟨R, hR⟩ : ∃ R, intsR N l e = R := ⟨_, rfl⟩
  rw [hR]
  have HR := Lib.hid hR
  have HL := Lib.hid hl
  have b1c := Boxed.cell b1
  clear hi hW h1 h2 h3 hY hR hl
  refine callsIn_of_wp Try.func118 rfl trivial ?_ rfl
  simp only [Try.ntmps118, List.size_toArray, List.length_cons, List.length_nil, Nat.reduceAdd, Nat.reduceSub, Array.replicate_succ, Array.replicate_zero, List.push_toArray, List.append_toArray, List.nil_append, List.cons_append]
  gi_wp2
  gi_loopw [5, 7] (fun y x wr => ∃ (k : Nat) (pre : List Int) (l' : List Nat) (e' : Nat), x = .int .i64 k ∧ k ≤ N ∧ R = (pre ++ (intsR (N - k) l' e').1, (intsR (N - k) l' e').2) ∧ Bytes l' ∧ InB n0 wr b l' e' ∧ J pre wr ∧ Boxed wr Bn 3 (.int .i64 (N : Nat)) ∧ Boxed wr Bo 70 (.func (.func 45) #[] #[]) ∧ Boxed wr Bi 65 (.pointer (some ⟨b, 0, none⟩)) ∧ W.heap.size ≤ wr.heap.size)
    (fun _ x _ => N - (intOf x).toNat)
  case atStart => exact ⟨0, [], l, e, rfl, Nat.zero_le _, by rw [← HR.out]; rfl, HL.out, hiW, h0, b1, b2, b3, Nat.le_refl _⟩
  case round =>
    obtain ⟨k, pre, l', e', rfl, hk, hRk, hl', hi, hj, c1, c2, c3, hsz⟩ := hrel
    by_cases hlt : k < N
    · obtain ⟨s1, s2⟩ := intsR_step hlt (HR.out.trans hRk)
      rw [HR.out] at s1 s2
      have hub := uintR_bytes hl' e'
      obtain ⟨u1, hu1⟩ : ∃ u1, (uintR l' e').1 = u1 := ⟨_, rfl⟩
      obtain ⟨u2, hu2⟩ : ∃ u2, (uintR l' e').2 = u2 := ⟨_, rfl⟩
      have hT := take_any n0 b e' l' hl' wr hi
      obtain ⟨x, hx⟩ : ∃ x, zag (wholeR l').1 = x := ⟨_, rfl⟩
      rw [hu1, hu2, hx] at hT
      rw [hu1, hu2, hx] at s2
      rw [hu2, show uintR l' e' = (u1, u2) from by rw [← hu1, ← hu2]] at s1
      rw [hu1] at hub
      have HT := Lib.hid hT
      have HJ := Lib.hid hj
      have HS1 := Lib.hid s1
      have HS2 := Lib.hid s2
      have C1 := Lib.hid c1
      have C2 := Lib.hid c2
      have C3 := Lib.hid c3
      have k2 := Boxed.cell c2
      have k3 := Boxed.cell c3
      clear hT hj s1 s2 c1 c2 c3 hi hu1 hu2 hx hRk hl' h0 hiW
      gi_wp2_with fail
      refine ⟨trivial, ?_⟩
      refine (callsIn_wide.2 HT.out).mono ?_
      rintro e2 w1 ⟨rfl, hi1, hb1⟩
      have HI1 := Lib.hid hi1
      have hbB : But [b, Bn, Bo, Bi] wr w1 := hb1.more (fun k hk => .inl (by simp at hk; simp [hk]))
      have HJ1 := Lib.hid (HJB.out pre wr w1 hbB HJ.out)
      have D1 : Hid (Boxed w1 Bn 3 (.int .i64 (N : Nat))) := Lib.hid ((hb1.block Bn C1.out.lt (by simp [hd1])).trans C1.out)
      have D2 : Hid (Boxed w1 Bo 70 (.func (.func 45) #[] #[])) := Lib.hid ((hb1.block Bo C2.out.lt (by simp [hd2])).trans C2.out)
      have D3 : Hid (Boxed w1 Bi 65 (.pointer (some ⟨b, 0, none⟩))) := Lib.hid ((hb1.block Bi C3.out.lt (by simp [hd3])).trans C3.out)
      have hsz1 : W.heap.size ≤ w1.heap.size := Nat.le_trans hsz hb1.size
      obtain ⟨v1, h11, h12⟩ := hi1.blk
      have e1 := cell_of_row w1 b 1 _ _ _ h11
      have k3' := Boxed.cell D3.out
      clear hi1 hb1 hbB HT HJ C1 C2 C3 k2 k3 h11 h12
      by_cases h00 : u2 = 0
      · subst h00
        have HRe := Lib.hid (HS2.out rfl)
        have HPX : Hid (pre ++ [x] <+: R.1) := Lib.hid (by rw [HRe.out]; exact List.prefix_append _ _)
        obtain ⟨fn, tmps, assign, body, hy, hRR⟩ := HY.out pre x w1 HJ1.out (by rw [HR.out]; exact HPX.out) hsz1 trivial
        have HRR := Lib.hid hRR
        clear hRR HS1 HS2 HY
        gi_wp2_with fail
        refine HRR.out.mono ?_
        rintro e3 W4 ⟨hK4, ⟨rfl, hj4, hb4, _, hk4⟩ | ⟨rfl, hjx4⟩⟩
        · have D4 : Hid (Boxed W4 Bn 3 (.int .i64 (N : Nat))) := Lib.hid ((hk4 Bn (by simp)).trans D1.out)
          have D5 : Hid (Boxed W4 Bo 70 (.func (.func 45) #[] #[])) := Lib.hid ((hk4 Bo (by simp)).trans D2.out)
          have D6 : Hid (Boxed W4 Bi 65 (.pointer (some ⟨b, 0, none⟩))) := Lib.hid ((hk4 Bi (by simp)).trans D3.out)
          have HI4 : Hid (InB n0 W4 b u1 0) := Lib.hid (by
            obtain ⟨v, i1, i2⟩ := HI1.out.blk
            exact ⟨Nat.le_trans HI1.out.le hb4.size, v, (hk4 b (by simp)).trans i1, i2.below hb4⟩)
          have hsz4 : W.heap.size ≤ W4.heap.size := Nat.le_trans hsz1 hb4.size
          have HJ4 := Lib.hid hj4
          clear hk4 hb4 hK4 hj4 HI1 D1 D2 D3 HJ1
          gi_wp2
          go_roundw
          case rel => exact ⟨k + 1, pre ++ [x], u1, 0, by go_num, by omega, HRe.out, hub, HI4.out, HJ4.out, D4.out, D5.out, D6.out, hsz4⟩
          case measure => simp [intOf]; omega
        · gi_wp2
          refine bodyPost_ret (results_none rfl _ _ _) rfl ?_
          exact ⟨⟨_, rfl⟩, .inr ⟨_, HPX.out, hjx4⟩⟩
      · have h0i : (((u2 : Nat) : Int) != 0) = true := by rw [bne_iff_ne]; omega
        have HRe := HS1.out h00
        gi_wp2
        refine ⟨fun _ h => (by cases h), ?_⟩
        gi_wp2
        refine bodyPost_ret (results_none rfl _ _ _) rfl ?_
        rw [HRe]
        exact ⟨⟨_, rfl⟩, .inl ⟨pre, ⟨rfl, HI1.out⟩, HJ1.out⟩⟩
    · obtain rfl : k = N := by omega
      rw [Nat.sub_self] at hRk
      have hRe : R = (pre, l', e') := by rw [hRk]; show (pre ++ [], _) = _; rw [List.append_nil]; rfl
      have HRe := Lib.hid hRe
      have HI := Lib.hid hi
      have HJ := Lib.hid hj
      clear hRk hRe hi hj hiW h0
      gi_wp2
      go_end0
      rw [HRe.out]
      exact ⟨⟨_, rfl⟩, .inl ⟨pre, ⟨rfl, HI.out⟩, HJ.out⟩⟩
end Go.Proofs.Ytbdigpfeedcgaaa

/- codec.Take at int64: the state of its loop. -/
namespace Go.Proofs.Ytbdigpfeedcgaaa
open Go.RowKit
set_option linter.unusedVariables false

theorem rowBut {W W' : World} {own : List Nat} {base e size n : Nat} {v : Value} {xs : List Value} (h : W.ownsRow base e size v n xs) (hb : But own W W') (hn : ∀ g, v.ownBlock = some g → g ∉ own) : W'.ownsRow base e size v n xs := by
  obtain ⟨h1, h2⟩ := h
  refine ⟨h1, ?_⟩
  rcases h2 with h2 | ⟨g, cap, cur, hv, hg, hh, r⟩
  · exact .inl h2
  · exact .inr ⟨g, cap, cur, hv, hg, (hb.block g (Array.getElem?_eq_some_iff.1 hh).1 (hn g (by rw [hv]; rfl))).trans hh, r⟩
theorem row_cells {W : World} {base e size n : Nat} {v : Value} {xs : List Value} (h : W.ownsRow base e size v n xs) {g : Nat} (hg : v.ownBlock = some g) {o : Obj} (ho : W.heap[g]? = some o) : o.isCells = true := by
  rcases h.2 with ⟨e, _⟩ | ⟨g', c, cur, hv, _, hh, _⟩
  · rw [e] at hg; cases hg
  · rw [hv] at hg
    obtain rfl : g' = g := by simpa [Value.ownBlock] using hg
    rw [hh] at ho; cases ho; rfl
theorem But.grow {own : List Nat} {A W W' : World} {row : Option Nat} (h : But own A W) (hg : W.grownBy W' row) (hr : ∀ r, row = some r → A.heap.size ≤ r) : But own A W' :=
  ⟨hg.os.trans h.os, hg.tape.trans h.tape, hg.output.trans h.output, Nat.le_trans h.size hg.size, fun k hk hn => (hg.block k (Nat.lt_of_lt_of_le hk h.size) (fun e => by have := hr k e.symm; omega)).trans (h.block k hk hn)⟩

/-- The rounds of Take: the list so far in the box B. -/
structure TakeI (w : World) (B b z : Nat) (pre : List Int) (W : World) (v : Value) : Prop where
  box : Boxed W B 46 v
  row : W.ownsRow z 2 1 v pre.length (pre.map encN)
  but : But [b] w W
def TakeJ (w : World) (B b z : Nat) (pre : List Int) (W : World) : Prop := ∃ v, TakeI w B b z pre W v
theorem takeJ_own {w : World} {B b z : Nat} (h1 : B < z) (h2 : w.heap.size ≤ z) : OwnFrom z (TakeJ w B b z) := fun pre W W' row ⟨v, h⟩ hg hr =>
  ⟨v, h.box.kept hg (fun e => by have := (hr _ e.symm).1; omega), h.row.kept hg (by
      cases hv : v.ownBlock with
      | none => exact .inl rfl
      | some g =>
        refine .inr (fun e => ?_)
        obtain ⟨_, o, ho, hc⟩ := hr g e.symm
        rw [row_cells h.row hv ho] at hc; cases hc),
    h.but.grow hg (fun r e => by have := (hr r e).1; omega)⟩
theorem takeJ_but {w : World} {B b z : Nat} {bs : List Nat} (hB : B ∉ bs) (hz : ∀ k ∈ bs, k < z) (hw : ∀ k ∈ bs, k = b ∨ w.heap.size ≤ k) : AbidesBut bs (TakeJ w B b z) := fun pre W W' hb ⟨v, h⟩ =>
  ⟨v, (hb.block B h.box.lt hB).trans h.box, rowBut h.row hb (fun g hg hm => by have := (h.row.lt g hg).1; have := hz g hm; omega), h.but.trans hb (fun k hk => by
    rcases hw k hk with e | e
    · exact .inl (by simp [e])
    · exact .inr e)⟩
/-- One round. -/
theorem TakeI.step {w W w1 : World} {B b z : Nat} {bs : List Nat} {pre : List Int} {x : Int} {v v' : Value} {o : Obj} (h : TakeI w B b z pre W v) (hBz : B < z) (hwB : w.heap.size ≤ B) (hbB : b < w.heap.size) (hzW : z ≤ W.heap.size) (hB : B ∉ bs) (hz : ∀ k ∈ bs, k < z)
    (hown : w1.ownsRow z 2 1 v' (pre.length + 1) (pre.map encN ++ [encN x])) (hg : (W.alloc o).grownBy w1 v.ownBlock) :
    Boxed w1 B 46 v ∧ TakeJ w B b z (pre ++ [x]) (w1.setCell ⟨B, 0, none⟩ v') ∧ KeepsFrom z W (w1.setCell ⟨B, 0, none⟩ v') ∧ Below B W (w1.setCell ⟨B, 0, none⟩ v') ∧ ∀ k ∈ bs, (w1.setCell ⟨B, 0, none⟩ v').heap[k]? = W.heap[k]? := by
  have hob : ∀ g, v.ownBlock = some g → z ≤ g ∧ g < W.heap.size := fun g hg => h.row.lt g hg
  have hb1 : Boxed w1 B 46 v := (h.box.alloc o).kept hg (fun e => by have := hob B e.symm; omega)
  have hblk : ∀ k, k < W.heap.size → some k ≠ v.ownBlock → w1.heap[k]? = W.heap[k]? := fun k hk hne => (hg.block k (by simp; omega) hne).trans (Below.heap_alloc _ _ _ hk)
  have hgs := hg.size
  rw [World.size_alloc] at hgs
  have hos : w1.os = W.os := hg.os
  have hset : ∀ k, k ≠ B → (w1.setCell ⟨B, 0, none⟩ v').heap[k]? = w1.heap[k]? := fun k hk => Below.heap_setCell w1 ⟨B, 0, none⟩ v' k hk
  have hsz : (w1.setCell ⟨B, 0, none⟩ v').heap.size = w1.heap.size := by simp [World.setCell]
  refine ⟨hb1, ⟨v', hb1.set v', ?_, ?_⟩, ⟨by rw [hsz]; omega, fun k o hk hko ho => ?_⟩, ⟨hos, hg.tape, hg.output, by rw [hsz]; omega, fun k hk => ?_⟩, fun k hk => ?_⟩
  · rw [List.length_append, List.map_append]
    exact ownsRow_setCell_below hown (by exact hBz) v'
  · refine ⟨hos.trans h.but.os, hg.tape.trans h.but.tape, hg.output.trans h.but.output, by rw [hsz]; have := h.but.size; omega, fun k hk hn => ?_⟩
    rw [hset k (by omega), hblk k (by have := h.but.size; omega) (fun e => by have := hob k e.symm; omega)]
    exact h.but.block k hk hn
  · have hlt := (Array.getElem?_eq_some_iff.1 hko).1
    rw [hset k (by omega), hblk k hlt (fun e => ?_)]
    · exact hko
    · rw [row_cells h.row e.symm hko] at ho; cases ho
  · rw [hset k (by omega), hblk k (by omega) (fun e => by have := hob k e.symm; omega)]
  · have := hz k hk
    rw [hset k (fun e => hB (e ▸ hk)), hblk k (by omega) (fun e => by have := hob k e.symm; omega)]
theorem infoN : (Try.prog.info? 2).map (fun i => (i.zero, i.size, i.bytes)) = some (some (.int .i64 0), 1, 8) := by kernel_rfl
end Go.Proofs.Ytbdigpfeedcgaaa

/- codec.Take at int64. -/
namespace Go.Proofs.Ytbdigpfeedcgaaa
open Go.RowKit
set_option linter.unusedVariables false
attribute [local go_sem] Oper.semAt_some

theorem Sl.put {α : Type} {enc : α → Value} {n : Nat} {W : World} {sv : Value} {l : List α} (h : Sl enc n W sv l) {k : Nat} {o : Obj} (hl : W.heap[k]? = some o) (ho : o.isCells = false) (o' : Obj) : Sl enc n (W.putObj k o') sv l := by
  rcases h with h | ⟨b, off, cap, e, hlt, hcap, hc⟩
  · exact .inl h
  · refine .inr ⟨b, off, cap, e, hlt, hcap, fun j x hj => ?_⟩
    have h1 := hc j x hj
    have hne : b ≠ k := by
      rintro rfl
      simp only [World.cell?, hl] at h1
      cases o <;> simp [Obj.isCells] at ho <;> simp at h1
    exact (World.cell?_of_block (a := ⟨b, off + j, none⟩) (World.putObj_heap_other hne)).trans h1
theorem InB.put {n0 : Nat} {W : World} {b e : Nat} {l : List Nat} (h : InB n0 W b l e) {k : Nat} {o : Obj} (hl : W.heap[k]? = some o) (ho : o.isCells = false) (o' : Obj) : InB n0 (W.putObj k o') b l e := by
  obtain ⟨v, h1, h2⟩ := h.blk
  have hne : b ≠ k := by
    rintro rfl
    rw [hl] at h1; cases h1; cases ho
  exact ⟨by have := h.le; simpa using this, v, (World.putObj_heap_other hne).trans h1, h2.put hl ho o'⟩
theorem intsR_len : ∀ (k : Nat) (l : List Nat) (e : Nat), (intsR k l e).1.length ≤ k
  | 0, l, e => Nat.le_refl _
  | k + 1, l, e => by
    have h := intsR_len k (uintR l e).1 (uintR l e).2
    unfold intsR
    split
    · show (_ :: _ : List Int).length ≤ k + 1
      rw [List.length_cons]; omega
    · exact Nat.zero_le _

set_option maxRecDepth 100000 in
set_option maxHeartbeats 4000000 in
theorem takeAll_any (n0 b e most : Nat) (l : List Nat) (hl : Bytes l) (hm : most ≤ 1048576) (w : World) (h : InB n0 w b l e) :
    Calls Try.prog 44 #[.pointer (some ⟨b, 0, none⟩), .int .i64 (most : Nat), .func (.func 45) #[] #[]] w fun e2 w' => ∃ v, e2 = .returned v ∧ Sl encN w'.heap.size w' v (takeN l e most).1 ∧ InB w.heap.size w' b (takeN l e most).2.1 (takeN l e most).2.2 ∧ But [b] w w' := by
  obtain ⟨i0, hi0, hz0, hz1, hz2⟩ := info_parts infoN
  have hbw := h.lt
  have hcb := countR_bytes hl e most 3
  have hcl := countR_le l e most 3
  obtain ⟨B, hBe⟩ : ∃ B, w.heap.size = B := ⟨_, rfl⟩
  have h0 : InB B w b l e := h.mono (by rw [← hBe]; exact h.le) (by rw [hBe]; exact Nat.le_refl _)
  have hA : InB B (w.alloc (.cells #[.slice none 0 0] 46)) b l e := h0.below (m := B) ((Below.refl _ w).alloc (by rw [hBe]; exact Nat.le_refl _) _) (Nat.le_refl _) (by omega)
  have HC := Lib.hid (count_any B b e most 3 l hl (by omega) _ hA)
  obtain ⟨K, hK⟩ : ∃ K, (countR l e most 3).1 = K := ⟨_, rfl⟩
  obtain ⟨s, hs⟩ : ∃ s, (countR l e most 3).2.1 = s := ⟨_, rfl⟩
  obtain ⟨E, hE⟩ : ∃ E, (countR l e most 3).2.2 = E := ⟨_, rfl⟩
  have HT : Hid (takeN l e most = (if (intsR K s E).2.2 = 0 then (intsR K s E).1 else [], (intsR K s E).2)) := Lib.hid (by unfold takeN; rw [hK, hs, hE])
  obtain ⟨⟨R1, R2, R3⟩, hR⟩ : ∃ R, intsR K s E = R := ⟨_, rfl⟩
  rw [HT.out, hR]
  dsimp only
  have HR := Lib.hid hR
  rw [hK, hs, hE] at HC
  rw [hs] at hcb
  rw [hK] at hcl
  have HW := Lib.hid hBe
  clear h h0 hA hK hs hE hR HT
  refine (callsIn_wide (n := 3)).1 ?_
  refine callsIn_of_wp_marks Try.func44 rfl trivial ?_ rfl
  simp only [Try.ntmps44, List.size_toArray, List.length_cons, List.length_nil, Nat.reduceAdd, Nat.reduceSub, Array.replicate_succ, Array.replicate_zero, List.push_toArray, List.append_toArray, List.nil_append, List.cons_append]
  refine (wpIn_wide (n := 3)).2 ?_
  go_wp2_with fail
  refine HC.out.mono ?_
  rintro e2 w2 ⟨rfl, hi2, hb2⟩
  have hbx2 : Boxed w2 B 46 (.slice none 0 0) := (hb2.block B (by simp; omega) (by simp; omega)).trans (by rw [← hBe]; exact Boxed.new w 46 (.slice none 0 0))
  have hbut2 : But [b] w w2 := (But.of_below (own := [b]) ((Below.refl _ w).alloc (Nat.le_refl _) _)).trans hb2 (fun k hk => .inl hk)
  have hz2' : B + 1 ≤ w2.heap.size := by have := hb2.size; simp at this; omega
  have HI2 := Lib.hid hi2
  have HBX2 := Lib.hid hbx2
  have HBT2 := Lib.hid hbut2
  clear hi2 hb2 hbx2 hbut2 HC
  go_wp2_with fail
  refine (each_any b K w2).mono ?_
  rintro e2 w3 ⟨rfl, hw3⟩
  obtain ⟨Z, hZ⟩ : ∃ Z, w2.heap.size = Z := ⟨_, rfl⟩
  rw [hZ] at hz2' ⊢
  have hb3 : Below Z w2 w3 := by
    rw [hw3, ← hZ]
    exact (((Below.refl _ w2).alloc (Nat.le_refl _) _).alloc (by simp) _).alloc (by simp; omega) _
  have hz3 : w3.heap.size = Z + 3 := by rw [hw3, ← hZ]; simp
  have x1 : Boxed w3 Z 65 (.pointer (some ⟨b, 0, none⟩)) := by
    rw [hw3, ← hZ]
    exact ((Boxed.new w2 _ _).alloc _).alloc _
  have x2 : Boxed w3 (Z + 1) 3 (.int .i64 (K : Nat)) := by
    rw [hw3, ← hZ]
    have := (Boxed.new (w2.alloc (.cells #[.pointer (some ⟨b, 0, none⟩)] 65)) 3 (.int .i64 (K : Nat)))
    rw [World.size_alloc] at this
    exact this.alloc _
  have x3 : Boxed w3 (Z + 2) 70 (.func (.func 45) #[] #[]) := by
    rw [hw3, ← hZ]
    have := (Boxed.new ((w2.alloc (.cells #[.pointer (some ⟨b, 0, none⟩)] 65)).alloc (.cells #[.int .i64 (K : Nat)] 3)) 70 (.func (.func 45) #[] #[]))
    rw [World.size_alloc, World.size_alloc] at this
    exact this
  have hi3 : InB B w3 b s E := HI2.out.below hb3 (by omega) (by omega)
  have hJ0 : TakeJ w B b (Z + 3) [] w3 := ⟨.slice none 0 0, (hb3.block B (by omega)).trans HBX2.out, World.ownsRow_nil _ _ _ _, HBT2.out.trans (But.of_below (own := []) (by rw [hZ]; exact hb3)) (fun k hk => by cases hk)⟩
  clear hw3 HI2 HBX2 HBT2
  go_wp2_with fail
  rename_i K' hKQ
  refine (wpIn_wide (n := 3)).1 ?_
  refine wpIn_act ?_
  intro A hA
  refine rangeB rfl (by omega) (gf := 118) (lb := #[.pointer (some ⟨Z + 1, 0, none⟩), .pointer (some ⟨Z + 2, 0, none⟩), .pointer (some ⟨Z, 0, none⟩)]) (by rw [hA]; rfl) trivial (enters_of Try.func118 (by kernel_rfl) rfl)
    (each1 b (Z + 1) (Z + 2) Z B K E s hcb (by omega) w3 hi3 (by omega) x2 x3 x1 (by omega) (by omega) (by omega)) (fun _ _ _ _ _ _ h => h) (fun xs W l o r hl h => ⟨h.1, ?se⟩) (fun r h => ?bs) (by omega) (Below.refl _ _) (fun _ => rfl)
    (TakeJ w B b (Z + 3)) (fun _ _ _ => False) (by rw [hz3]; exact takeJ_own (by omega) (by omega)) (fun _ _ _ _ _ h _ _ => h.elim) (takeJ_but ?b1 ?b2 ?b3) (fun _ _ _ _ _ h => h) hJ0
    (fun x => { tmps := (A.tmps.setIfInBounds 15 (.int .i64 x)).setIfInBounds 8 (.int .i64 x), defers := [] }) ?assign ?body ?done ?stop
  case assign =>
    rintro l x W K hK
    rw [hA] at hK ⊢
    gi_wp2
    exact hK
  case se => exact h.2.put hl rfl _
  case bs => simp at h; omega
  case b1 => simp; omega
  case b2 => intro k hk; simp at hk; omega
  case b3 => intro k hk; simp at hk; omega
  case body =>
    rintro l pre x W ⟨v, hi⟩ hp hzW _
    rw [hA]
    have hlen : pre.length < 1048576 := by
      have h1 := hp.length_le
      have h2 := intsR_len K s E
      rw [List.length_append, List.length_singleton] at h1
      omega
    have c1 := hi.box.cell
    have hrow := hi.row
    have hzz : Z + 3 ≤ W.heap.size := by omega
    have HST := Lib.hid (fun (v' : Value) (w1 : World) (h1 : w1.ownsRow (Z + 3) 2 1 v' (pre.length + 1) (pre.map encN ++ [encN x])) (h2 : (W.alloc (.cells #[.int .i64 x] 2)).grownBy w1 v.ownBlock) => hi.step (bs := [b, Z + 1, Z + 2, Z]) (by omega) (by omega) hbw hzz (by simp; omega) (by intro k hk; simp at hk; omega) h1 h2)
    clear hi hp
    gi_wp2_with (gi_at_builtin; refine wpListIn_append_own _ rfl _ _ 46 rfl (Z + 3) 2 i0 (.int .i64 0) 1 8 Try.underlying46 hi0 hz0 hz1 hz2 rfl (by decide) _ _ _ rfl (hrow.alloc _) ⟨W.heap.size, 0, none⟩ 1 1 [.int .i64 x] rfl rfl (cell_one_new _ _ _) (by simp [Value.oneCell']) (by unfold maxLen; omega) (by omega) (by simp; omega) ?_; intro v' w1 hown' hgrow _; obtain ⟨s1, s2, s3, s4, s5⟩ := HST.out v' w1 hown' hgrow; obtain ⟨g', cap', rfl⟩ := ownsRow_succ hown'; have hc1 := s1.cell; have hf1 := s1.frozen; have HS2 := Lib.hid s2; have HS3 := Lib.hid s3; have HS4 := Lib.hid s4; have HS5 := Lib.hid s5; clear s1 s2 s3 s4 s5 hown' hgrow HST hrow)
    exact ⟨by rw [hz3]; exact HS3.out, ⟨HS4.out, fun k h1 h2 => by omega, HS5.out⟩, HS2.out⟩
  case done =>
    rintro D ys W hD ⟨rfl, hiD⟩ ⟨v, hi⟩ hK
    rw [hA]
    refine hKQ _ _ ?_
    have hlen := intsR_len K s E
    rw [HR.out] at hiD hi hlen
    dsimp only at hiD hi hlen
    obtain ⟨vv, h11, h12⟩ := hiD.blk
    have e1 : W.cell? ⟨b, 1, none⟩ = some (.int .i64 (R3 : Nat)) := cell_of_row W b 1 _ _ _ h11
    have ca := hi.box.cell
    have hS0 : Sl encN W.heap.size W v R1 := Sl.of_owns hi.row
    have HS := Lib.hid (Sl.put hS0 hK rfl (.deferred none))
    have HI := Lib.hid (hiD.put hK rfl (.deferred none))
    have hzD : w.heap.size ≤ D := by have := hb3.size; omega
    have HBT : Hid (But [b] w (W.putObj D (.deferred none))) := Lib.hid (hi.but.grow (grownBy_putObj' W D (.deferred none)) (fun r e => by cases e; exact hzD))
    have HK := Lib.hid hK
    obtain ⟨pa, pc, rfl⟩ := hS0.form
    obtain ⟨M, hM⟩ : ∃ M, R1.length = M := ⟨_, rfl⟩
    rw [hM] at ca HS
    clear h11 h12 hi hiD hS0 hK hM hlen
    by_cases h0 : R3 = 0
    · subst h0
      go_wp2
      refine ⟨by simp, .inl ⟨_, _, rfl, run_takeDeferred HK.out, ?_⟩⟩
      refine ⟨_, results_tmp rfl _ _ _, _, rfl, HS.out.mono (by simp), HI.out, HBT.out⟩
    · have h0i : (((R3 : Nat) : Int) != 0) = true := by rw [bne_iff_ne]; omega
      go_wp2
      refine ⟨by simp, .inl ⟨_, _, rfl, run_takeDeferred HK.out, ?_⟩⟩
      refine ⟨_, results_tmp rfl _ _ _, _, rfl, Sl.nil _ _ _, HI.out, HBT.out⟩
  case stop =>
    rintro D c' pre W hD hp h hK
    exact h.elim
end Go.Proofs.Ytbdigpfeedcgaaa
