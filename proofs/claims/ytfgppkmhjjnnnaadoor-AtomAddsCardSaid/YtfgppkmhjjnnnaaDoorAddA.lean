/- Contracts of set.Of and of the document's set of items. -/
import Derived.Test.YtfgppkmhjjnnnaaDoorSetD
import Derived.Test.YtfgppkmhjjnnnaaDoorSlices
import Derived.Test.YtfgppkmhjjnnnaaDoorSetItems
import Derived.Test.YtfgppkmhjjnnnaaDoorTz
import Derived.Test.YtfgppkmhjjnnnaaDoorRangeG
import Derived.Test.YtfgppkmhjjnnnaaDoorAtoA
import Derived.Test.YtfgppkmhjjnnnaaDoorAtoD
import Derived.Test.YtfgppkmhjjnnnaaDoorAtoJ
import Derived.Test.YtfgppkmhjjnnnaaDoorRegionSeq
import Derived.Test.YtfgppkmhjjnnnaaDoorRegionSeqIn
import Derived.RangeFuncNested
import Derived.Test.YtfgppkmhjjnnnaaDoorRangeH
namespace Go.Proofs.YtfgppkmhjjnnnaaDoor
open Go.RowKit

def ofStep (s : Nat) (n : Int) : Nat := if itemB n = true then s ||| 2 ^ n.toNat else s
def ofN (xs : List Int) : Nat := xs.foldl ofStep 0
theorem or_lt {s k : Nat} (hs : s < 18446744073709551616) (hk : k < 64) : s ||| 2 ^ k < 18446744073709551616 :=
  Nat.or_lt_two_pow (show s < 2 ^ 64 from hs) (Nat.pow_lt_pow_right (by decide) hk)
theorem ofStep_lt {s : Nat} (n : Int) (hs : s < 18446744073709551616) : ofStep s n < 18446744073709551616 := by
  unfold ofStep; split
  · rename_i h; exact or_lt hs (by have := itemB_t h; omega)
  · exact hs
theorem ofTo_lt (xs : List Int) (k : Nat) : (xs.take k).foldl ofStep 0 < 18446744073709551616 := by
  have : ∀ (ys : List Int) (s : Nat), s < 18446744073709551616 → ys.foldl ofStep s < 18446744073709551616 := by
    intro ys
    induction ys with
    | nil => intro s h; exact h
    | cons y ys ih => intro s h; exact ih _ (ofStep_lt y h)
  exact this _ _ (by decide)
theorem ofTo_succ (xs : List Int) (k : Nat) (x : Int) (h : xs[k]? = some x) : (xs.take (k + 1)).foldl ofStep 0 = ofStep ((xs.take k).foldl ofStep 0) x := by
  rw [List.take_add_one, h]; simp
theorem or_has {s k : Nat} (h : s.testBit k = true) : s ||| 2 ^ k = s := by
  apply Nat.eq_of_testBit_eq; intro i
  rw [Nat.testBit_or, Nat.testBit_two_pow]
  by_cases e : k = i
  · subst e; simp [h]
  · simp [e]
theorem or_new {s k : Nat} (hs : s < 18446744073709551616) (hk : k < 64) (h : s.testBit k = false) : s ||| 2 ^ k = s + 2 ^ k := by
  have hp : 2 ^ k < 2 ^ 64 := Nat.pow_lt_pow_right (by decide) hk
  have e0 : (2 : Nat) ^ 64 = 18446744073709551616 := rfl
  have e := BitVec.add_eq_or_of_and_eq_zero (BitVec.ofNat 65 s) (BitVec.ofNat 65 (2 ^ k)) (by
    apply BitVec.eq_of_toNat_eq
    rw [BitVec.toNat_and, BitVec.toNat_ofNat, BitVec.toNat_ofNat, Nat.mod_eq_of_lt (by omega), Nat.mod_eq_of_lt (by omega)]
    apply Nat.eq_of_testBit_eq; intro i
    rw [Nat.testBit_and, Nat.testBit_two_pow]
    by_cases e : k = i
    · subst e; simp [h]
    · simp [e])
  have e2 := congrArg BitVec.toNat e
  rw [BitVec.toNat_add, BitVec.toNat_or, BitVec.toNat_ofNat, BitVec.toNat_ofNat, Nat.mod_eq_of_lt (a := s) (by omega), Nat.mod_eq_of_lt (a := 2 ^ k) (by omega), Nat.mod_eq_of_lt (by omega)] at e2
  exact e2.symm
theorem or_walk {s : Nat} {n : Int} (hs : s < 18446744073709551616) (h : itemB n = true) : bits .or .u64 (s : Int) (IntKind.u64.wrap (2 ^ n.toNat)) = ((ofStep s n : Nat) : Int) := by
  obtain ⟨h1, h2⟩ := itemB_t h
  obtain ⟨p1, p2⟩ := pow_lt64 (show n.toNat < 64 by omega)
  have e : ((2 : Int) ^ n.toNat) = ((2 ^ n.toNat : Nat) : Int) := by norm_cast
  rw [e, wrap_u64_of _ (by omega), u64_or_nat _ _ hs (by omega)]
  unfold ofStep; rw [if_pos h]

set_option maxRecDepth 100000 in
set_option maxHeartbeats 1000000 in
theorem of_any (a : Option Addr) (n c : Nat) (xs : List Int) (w : World) (hl : xs.length ≤ 1048576) (hx : Sl (Value.int .i64) w.heap.size w (.slice a n c) xs) :
    Calls Tryd.prog 22 #[.slice a n c] w fun e w' => e = .returned (.int .u64 (ofN xs)) ∧ w = w' := by
  rcases hx with ⟨rfl, _, _, e, _⟩ | ⟨b, off, cap, e, _, _, hc⟩
  · cases e
    go_enter Tryd.func22, Tryd.ntmps22
    go_wp2
    go_loop [3, 8] (fun s i => s = .int .u64 0 ∧ i = .int .i64 0) (fun _ _ => 0)
    case atStart => exact ⟨rfl, rfl⟩
    case round =>
      obtain ⟨rfl, rfl⟩ := hrel
      go_wp2
      go_ret
      exact ⟨rfl, rfl⟩
  · cases e
    have HC := Lib.hid hc; clear hc
    obtain ⟨N, hN⟩ : ∃ N, xs.length = N := ⟨_, rfl⟩
    rw [hN] at hl ⊢
    have HN := Lib.hid hN; clear hN
    go_enter Tryd.func22, Tryd.ntmps22
    go_wp2
    go_loop [3, 8] (fun s i => ∃ k : Nat, k ≤ N ∧ i = .int .i64 k ∧ s = .int .u64 (((xs.take k).foldl ofStep 0 : Nat) : Int)) (fun _ i => N - (intOf i).toNat)
    case atStart => exact ⟨0, by omega, rfl, rfl⟩
    case round =>
      obtain ⟨k, hk, rfl, rfl⟩ := hrel
      have hsl := ofTo_lt xs k
      by_cases hlt : k < N
      · obtain ⟨x, hxk⟩ : ∃ x, xs[k]? = some x := ⟨xs[k]'(by rw [HN.out]; exact hlt), List.getElem?_eq_getElem _⟩
        have hcell := HC.out k x hxk
        have HS := Lib.hid (ofTo_succ xs k x hxk)
        obtain ⟨s, hs⟩ : ∃ s, (xs.take k).foldl ofStep 0 = s := ⟨_, rfl⟩
        rw [hs] at hsl HS ⊢
        clear hs hxk
        cases hi : itemB x with
        | true =>
          obtain ⟨i1, i2⟩ := itemB_t hi
          have HW := Lib.hid (or_walk hsl hi)
          go_wp2_with (go_at_call 32; refine (isItem_any _ _).mono ?_; rintro e w' ⟨rfl, rfl⟩)
          go_round
          case rel => exact ⟨k + 1, by omega, by go_num, by rw [HS.out, ← HW.out]⟩
          case measure => simp [intOf]; omega
        | false =>
          have HW : Hid (ofStep s x = s) := Lib.hid (by unfold ofStep; rw [hi]; rfl)
          go_wp2_with (go_at_call 32; refine (isItem_any _ _).mono ?_; rintro e w' ⟨rfl, rfl⟩)
          go_round
          case rel => exact ⟨k + 1, by omega, by go_num, by rw [HS.out, HW.out]⟩
          case measure => simp [intOf]; omega
      · obtain rfl : k = N := by omega
        have HE : Hid ((xs.take k).foldl ofStep 0 = ofN xs) := Lib.hid (by unfold ofN; rw [List.take_of_length_le (by rw [HN.out]; exact Nat.le_refl _)])
        rw [HE.out]
        go_wp2
        go_ret
        exact ⟨rfl, rfl⟩

end Go.Proofs.YtfgppkmhjjnnnaaDoor

/- set.Items, one by one, for whatever the caller's invariant is. -/
namespace Go.Proofs.YtfgppkmhjjnnnaaDoor
open Go.RowKit Go.Shelf
set_option linter.unusedVariables false
attribute [local go_sem] Oper.semAt_some

/-- What the package variable holds. -/
structure Env (W : World) : Prop where
  tab : TabAt 0 Lib.deBruijn64tab W
  size : 0 < W.heap.size
theorem Env.but {own : List Nat} {W W' : World} (h : Env W) (hb : But own W W') (hn : 0 ∉ own) : Env W' where
  tab := fun j hj => (World.cell?_of_block (a := ⟨0, j, none⟩) (hb.block _ h.size hn)).trans (h.tab j hj)
  size := Nat.lt_of_lt_of_le h.size hb.size
theorem Env.below {W W' : World} (h : Env W) (hb : Below W.heap.size W W') : Env W' := h.but (own := []) (But.of_below hb) (fun h => nomatch h)
theorem tz_any (s : Nat) (w : World) (hs : s < 18446744073709551616) (hE : Env w) :
    Calls Tryd.prog 31 #[.int .u64 s] w fun e w' => e = .returned (.int .i64 (Lib.ctz 64 s)) ∧ w = w' := by
  refine (Tryd.tz64 s hs w (fun _ => hE.tab)).mono ?_
  rintro e w' ⟨rfl, rfl⟩
  exact ⟨rfl, rfl⟩
theorem pred_and {s : Nat} (h0 : s ≠ 0) (hs : s < 18446744073709551616) : bits .and .u64 (s : Int) ((s : Int) - 1) = ((s &&& (s - 1) : Nat) : Int) := by
  rw [show (s : Int) - 1 = ((s - 1 : Nat) : Int) from by omega, u64_and_nat _ _ hs (by omega)]
/-- What telling a set's items asks of its caller's invariant. -/
structure ItC {σ : Type} (Bs s : Nat) (rest : σ → List Nat) (J : σ → World → Prop) (Jm : σ → Nat → World → Prop) (Af : σ → σ → Prop) : Prop where
  row : ∀ st W, J st W → Boxed W Bs 23 (.int .u64 (s : Nat)) ∧ Env W
  yield : ∀ st W x r, J st W → rest st = x :: r → Jm st x W
  next : ∀ st st', Af st st' → rest st' = (rest st).tail
theorem itemsOf (s : Nat) (w : World) : Calls Tryd.prog 21 #[.int .u64 (s : Nat)] w fun e w' => e = .returned (.func (.func 30) #[] #[.pointer (some ⟨w.heap.size, 0, none⟩)]) ∧ w' = w.alloc (.cells #[.int .u64 (s : Nat)] 23) := by
  go_enter Tryd.func21, Tryd.ntmps21
  go_wp2
  go_ret
  exact ⟨rfl, rfl⟩
set_option maxRecDepth 100000 in
set_option maxHeartbeats 4000000 in
theorem items1 {σ : Type} {Bs s : Nat} (hs : okS s) {rest : σ → List Nat} {J : σ → World → Prop} {Jm : σ → Nat → World → Prop} {Jx : Code → World → Prop} {Af : σ → σ → Prop} {B : Nat} {s0 : σ}
    (hC : ItC Bs s rest J Jm Af) (hr0 : rest s0 = items s) :
    SeqG Fence.wide 2 Tryd.prog 30 #[.pointer (some ⟨Bs, 0, none⟩)] (fun (x : Nat) => #[.int .i64 (x : Nat)]) B J Jm Jx Af (fun st _ => rest st = []) s0 := by
  intro l' Rd Dn W hRd hDn hRz hDz hR0 hJ0 hY
  have hc1 := (hC.row s0 W hJ0).1.cell
  have HC := Lib.hid hC
  have HY := Lib.hid hY
  have HR0 := Lib.hid hR0
  have HJ0 := Lib.hid hJ0
  have HR := Lib.hid hr0
  unfold okS at hs
  clear hC hRd hRz hDz hR0 hJ0 hY hr0
  refine callsIn_of_wp Tryd.func30 rfl trivial ?_ rfl
  simp only [Tryd.ntmps30, List.size_toArray, List.length_cons, List.length_nil, Nat.reduceAdd, Nat.reduceSub, Array.replicate_succ, Array.replicate_zero, List.push_toArray, List.append_toArray, List.nil_append, List.cons_append]
  gi_wp2_with fail
  gi_loopw [3] (fun x wr => ∃ (r : Nat) (st : σ), x = .int .u64 r ∧ r < 18446744073709551616 ∧ Rd wr ∧ J st wr ∧ rest st = items r) (fun x _ => (intOf x).toNat)
  case atStart => exact ⟨s, s0, rfl, hs, HR0.out, HJ0.out, HR.out⟩
  case round =>
    obtain ⟨r, st, rfl, hr, hRw, hJw, hrw⟩ := hrel
    have HRw := Lib.hid hRw
    have HJw := Lib.hid hJw
    clear hRw hJw
    by_cases hz : r = 0
    · subst hz
      rw [items_zero] at hrw
      have HRW := Lib.hid hrw
      clear hrw
      gi_wp2
      refine bodyPost_end (results_none rfl _ _ _) rfl ?_
      exact ⟨⟨_, rfl⟩, .inl ⟨HRw.out, st, HRW.out, HJw.out⟩⟩
    · have hst := items_step hz hr
      rw [hst] at hrw
      have hne : ((r : Int) != 0) = true := by rw [bne_iff_ne]; omega
      have HPA := Lib.hid (pred_and hz hr)
      have HLT := Lib.hid (and_pred_lt hr)
      have hsub : r &&& (r - 1) ≤ r - 1 := Nat.and_le_right
      have hr1 : (1 : Int) ≤ r := by omega
      obtain ⟨fn, tmps, assign, body, hy, hR⟩ := HY.out st (Lib.ctz 64 r) wr HRw.out (HC.out.yield st wr _ _ HJw.out hrw)
      have HTZ := Lib.hid (tz_any r wr hr (HC.out.row st wr HJw.out).2)
      have HRR := Lib.hid hR
      have HRW := Lib.hid hrw
      clear hst hz hrw hR
      gi_wp2_with fail
      refine ⟨trivial, ?_⟩
      refine (callsIn_wide.2 HTZ.out).mono ?_
      rintro e w' ⟨rfl, rfl⟩
      gi_wp2_with fail
      refine HRR.out.mono ?_
      rintro e W4 (⟨rfl, hr4, st4, haf, hj4⟩ | ⟨rfl, c, hd4, hx4⟩)
      · have HR4 := Lib.hid hr4
        have HJ4 := Lib.hid hj4
        have HN4 : Hid (rest st4 = items (r &&& (r - 1))) := Lib.hid (by rw [HC.out.next _ _ haf, HRW.out]; rfl)
        clear hr4 haf hj4
        gi_wp2
        go_roundw
        case rel => exact ⟨r &&& (r - 1), st4, by rw [HPA.out], HLT.out, HR4.out, HJ4.out, HN4.out⟩
        case measure => simp only [intOf]; rw [HPA.out]; omega
      · have HD4 := Lib.hid hd4
        have HX4 := Lib.hid hx4
        clear hd4 hx4
        gi_wp2
        refine bodyPost_ret (results_none rfl _ _ _) rfl ?_
        exact ⟨⟨_, rfl⟩, .inr ⟨c, HD4.out, HX4.out⟩⟩
end Go.Proofs.YtfgppkmhjjnnnaaDoor

/- atom.Adds, item by item: an iterator over an iterator, for whatever the caller's invariant is. -/
namespace Go.Proofs.YtfgppkmhjjnnnaaDoor
open Go.RowKit
set_option linter.unusedVariables false
attribute [local go_sem] Oper.semAt_some

/-- What telling by how much the value grows asks of its caller's invariant. -/
structure AddC {σ : Type} (B1 B2 : Nat) (sv : Value) (zs : List Ent) (s : Nat) (own : List Nat) (N : Nat) (rest : σ → List (Nat × Int)) (wd : σ → World) (J : σ → World → Prop) (Jm : σ → Nat × Int → World → Prop) (Jx : σ → Code → World → Prop) (Af : σ → σ → Prop) : Prop where
  lt : ∀ k ∈ own, k < N
  at_ : ∀ st W, J st W → But own (wd st) W
  turn : ∀ st W W' own', J st W → But own' W W' → (∀ k ∈ own', N ≤ k) → ∃ st', rest st' = rest st ∧ wd st' = W' ∧ J st' W'
  atX : ∀ st c W, Jx st c W → But own (wd st) W
  turnX : ∀ st c W W' own', Jx st c W → But own' W W' → (∀ k ∈ own', N ≤ k) → ∃ st', Jx st' c W'
  yield : ∀ st W x r, J st W → rest st = x :: r → Jm st x W
  next : ∀ st st', Af st st' → rest st' = (rest st).tail ∧ But own (wd st) (wd st')
  row : ∀ st W, J st W → Boxed W B1 22 sv ∧ Boxed W B2 23 (.int .u64 (s : Nat)) ∧ EnsP N W sv zs ∧ Env W ∧ N ≤ W.heap.size
/-- By how much. -/
def growV (F : List Ent) (s i : Nat) : Int := askL withinB F (s ||| 2 ^ i) - askL withinB F s
/-- What stays while the items are gone over: what is to come, and all but own and the loop's record. -/
def AdJ {σ : Type} (own : List Nat) (rest : σ → List (Nat × Int)) (J : σ → World → Prop) (Rd : World → Prop) (F : List Ent) (s : Nat) (W1 : World) (its : List Nat) (V : World) : Prop :=
  (∀ i ∈ its, i < 64) ∧ Rd V ∧ But (own ++ [W1.heap.size, W1.heap.size + 1]) W1 V ∧ ∃ st, rest st = its.map (fun i => (i, growV F s i)) ∧ J st V
section
variable {σ : Type} {own : List Nat} {N : Nat} {rest : σ → List (Nat × Int)} {wd : σ → World} {J : σ → World → Prop} {Jm : σ → Nat × Int → World → Prop} {Jx : σ → Code → World → Prop} {Af : σ → σ → Prop} {Rd : World → Prop} {Dn : Code → World → Prop} {F : List Ent} {s : Nat} {W1 : World} {B B1 B2 s1 : Nat} {sv : Value} {zs : List Ent}
theorem AdJ.noRec (hC : AddC B1 B2 sv zs s1 own N rest wd J Jm Jx Af) (hN : N ≤ W1.heap.size) (hB : B + 2 ≤ W1.heap.size) (hRd : ∀ A A', SameRec B A A' → Rd A → Rd A') (its : List Nat) : NoRec W1.heap.size (AdJ own rest J Rd F s W1 its) := fun W o k hk ⟨h0, h1, h2, st, h3, h4⟩ => by
  have hb := But.putObj W k o
  refine ⟨h0, hRd W _ ⟨World.putObj_heap_other (by omega), World.putObj_heap_other (by omega)⟩ h1, h2.trans hb (fun j hj => .inl ?_), ?_⟩
  · simp at hj
    subst hj
    rcases hk with rfl | rfl <;> simp
  · obtain ⟨st', e1, _, e3⟩ := hC.turn st W _ _ h4 hb (fun j hj => by simp at hj; subst hj; omega)
    exact ⟨st', e1.trans h3, e3⟩
theorem adX_noRec (hC : AddC B1 B2 sv zs s1 own N rest wd J Jm Jx Af) (hN : N ≤ W1.heap.size) (hB : B + 2 ≤ W1.heap.size) (hDn : ∀ c A A', SameRec B A A' → Dn c A → Dn c A') : NoRec W1.heap.size (fun V => ∃ st c, Dn c V ∧ Jx st c V) := fun W o k hk ⟨st, c, h1, h2⟩ => by
  obtain ⟨st', h3⟩ := hC.turnX st c W _ _ h2 (But.putObj W k o) (fun j hj => by simp at hj; subst hj; omega)
  exact ⟨st', c, hDn c W _ ⟨World.putObj_heap_other (by omega), World.putObj_heap_other (by omega)⟩ h1, h3⟩
end
theorem addsOf (a : Option Addr) (n c s : Nat) (zs : List Ent) (w : World) (hx : zs.length ≤ 1048576) (h : EnsP w.heap.size w (.slice a n c) zs) (hnil : a = none → zs = []) :
    Calls Tryd.prog 9 #[.slice a n c, .int .u64 (s : Nat)] w fun e w' => ∃ B1 B2 sa sc, e = .returned (.func (.func 20) #[] #[.pointer (some ⟨B1, 0, none⟩), .pointer (some ⟨B2, 0, none⟩)]) ∧ Boxed w' B1 22 (.slice sa n sc) ∧ Boxed w' B2 23 (.int .u64 (s : Nat)) ∧ EnsP B1 w' (.slice sa n sc) zs ∧ (∀ ad, sa = some ad → w.heap.size ≤ ad.block) ∧ Below w.heap.size w w' ∧ w.heap.size ≤ B1 ∧ w.heap.size ≤ B2 ∧ B1 < w'.heap.size ∧ B2 < w'.heap.size := by
  obtain ⟨w1, hw1⟩ : ∃ w1, w.alloc (Obj.cells #[.int .u64 (s : Nat)] 23) = w1 := ⟨_, rfl⟩
  have hb01 : Below w.heap.size w w1 := by rw [← hw1]; exact (Below.refl _ _).alloc (Nat.le_refl _) _
  have hB2 : Boxed w1 w.heap.size 23 (.int .u64 (s : Nat)) := by rw [← hw1]; exact Boxed.new w _ _
  have HC := Lib.hid (cloneAt a n c zs w1 hx ((h.below hb01 (Nat.le_refl _)).mono hb01.size) hnil)
  have HW1 := Lib.hid hw1
  have HB01 := Lib.hid hb01
  have HB2 := Lib.hid hB2
  clear h hnil hx hw1 hb01 hB2
  go_enter Tryd.func9, Tryd.ntmps9
  go_upto_region 1 with fail
  rw [HW1.out]
  go_wp2_with fail
  refine HC.out.mono ?_
  rintro e w2 ⟨a', c', rfl, hE, hge, hb⟩
  have hb3 : Below w2.heap.size w2 (w2.alloc (.cells #[.slice a' n c'] 22)) := (Below.refl _ _).alloc (Nat.le_refl _) _
  have HF : Hid (Boxed (w2.alloc (.cells #[.slice a' n c'] 22)) w2.heap.size 22 (.slice a' n c') ∧ Boxed (w2.alloc (.cells #[.slice a' n c'] 22)) w.heap.size 23 (.int .u64 (s : Nat)) ∧ EnsP w2.heap.size (w2.alloc (.cells #[.slice a' n c'] 22)) (.slice a' n c') zs ∧ (∀ ad, a' = some ad → w.heap.size ≤ ad.block) ∧ Below w.heap.size w (w2.alloc (.cells #[.slice a' n c'] 22)) ∧ w.heap.size ≤ w2.heap.size) := Lib.hid (by
    have hz := HB01.out.size
    have hz2 := hb.size
    have hq : Boxed w2 w.heap.size 23 (.int .u64 (s : Nat)) := (hb.block _ HB2.out.lt).trans HB2.out
    exact ⟨Boxed.new w2 _ _, (hb3.block _ hq.lt).trans hq, hE.below hb3 (Nat.le_refl _), fun ad e => by have := hge ad e; omega, (HB01.out.trans (hb.mono hz)).trans (hb3.mono (by omega)), by omega⟩)
  clear hE hge hb hb3
  go_wp2
  go_ret
  exact ⟨w2.heap.size, w.heap.size, a', c', rfl, HF.out.1, HF.out.2.1, HF.out.2.2.1, HF.out.2.2.2.1, HF.out.2.2.2.2.1, HF.out.2.2.2.2.2, Nat.le_refl _, HF.out.1.lt, HF.out.2.1.lt⟩
set_option maxRecDepth 100000 in
set_option maxHeartbeats 16000000 in
theorem adds1 {σ : Type} {B1 B2 s N : Nat} {a0 : Option Addr} {n0 c0 : Nat} {zs : List Ent} {own : List Nat} (hs : okS s) (hok : ∀ x ∈ zs, okS x.1) (hlen : zs.length ≤ 10000) {rest : σ → List (Nat × Int)} {wd : σ → World} {J : σ → World → Prop} {Jm : σ → Nat × Int → World → Prop} {Jx : σ → Code → World → Prop} {Af : σ → σ → Prop} {B : Nat} {s0 : σ}
    (hC : AddC B1 B2 (.slice a0 n0 c0) zs s own N rest wd J Jm Jx Af) (hN : B + 2 ≤ N) (hr0 : rest s0 = (items (umax (zs.filter (inA 18446744073709551615)) &&& (18446744073709551615 - s))).map (fun i => (i, growV (zs.filter (rightA 1099511627776)) s i))) :
    SeqH Fence.wide 2 Tryd.prog 20 #[.pointer (some ⟨B1, 0, none⟩), .pointer (some ⟨B2, 0, none⟩)] (fun (x : Nat × Int) => #[.int .i64 (x.1 : Nat), .int .i64 x.2]) B J Jm Jx Af (fun st _ => rest st = []) s0 := by
  intro l' Rd Dn W hRd hDn hRz hDz hR0 hJ0 hY
  obtain ⟨hx1, hx2, hE, hEnv, hNW⟩ := hC.row s0 W hJ0
  obtain ⟨W1, hW1⟩ : ∃ W1, W.alloc (.cells #[.func (.yield l') #[] #[]] 47) = W1 := ⟨_, rfl⟩
  have hb01 : Below W.heap.size W W1 := by rw [← hW1]; exact (Below.refl _ _).alloc (Nat.le_refl _) _
  have hz1 : W1.heap.size = W.heap.size + 1 := by rw [← hW1]; simp
  have hYB : Boxed W1 W.heap.size 47 (.func (.yield l') #[] #[]) := by rw [← hW1]; exact Boxed.new W _ _
  have b1 : Boxed W1 B1 22 (.slice a0 n0 c0) := (hb01.block _ hx1.lt).trans hx1
  have b2 : Boxed W1 B2 23 (.int .u64 (s : Nat)) := (hb01.block _ hx2.lt).trans hx2
  have hE1 : EnsP W1.heap.size W1 (.slice a0 n0 c0) zs := (hE.below hb01 hNW).mono (by omega)
  obtain ⟨F, hF⟩ : ∃ F, zs.filter (rightA 1099511627776) = F := ⟨_, rfl⟩
  obtain ⟨U, hU⟩ : ∃ U, umax (zs.filter (inA 18446744073709551615)) = U := ⟨_, rfl⟩
  have hUok : okS U := by
    rw [← hU]
    have : ∀ l : List Ent, (∀ x ∈ l, okS x.1) → okS (umax l) := by
      intro l
      induction l with
      | nil => intro _; show (0 : Nat) < 18446744073709551616; decide
      | cons x r ih => intro h; exact Nat.or_lt_two_pow (n := 64) (h x List.mem_cons_self) (ih (fun y hy => h y (List.mem_cons_of_mem _ hy)))
    exact this _ (fun x hx => hok x (List.mem_filter.1 hx).1)
  rw [hF, hU] at hr0
  obtain ⟨d, hd⟩ : ∃ d, U &&& (18446744073709551615 - s) = d := ⟨_, rfl⟩
  have hdn : bits .andNot .u64 (U : Int) (s : Int) = (d : Int) := by rw [u64_andNot_nat U s hUok hs, hd]
  have hdok : okS d := by
    have h1 : U &&& (18446744073709551615 - s) ≤ U := Nat.and_le_left
    rw [hd] at h1
    unfold okS at hUok ⊢
    omega
  rw [hd] at hr0
  have HV1 := Lib.hid (value_any a0 n0 c0 s zs hs hok (by omega) W1 hE1)
  rw [hF] at HV1
  obtain ⟨hv, hhv⟩ : ∃ hv, askL withinB F s = hv := ⟨_, rfl⟩
  rw [hhv] at HV1
  have c1 := b1.cell
  have c2 := b2.cell
  have HW1 := Lib.hid hW1
  have HB01 := Lib.hid hb01
  have HZ1 := Lib.hid hz1
  have HYB := Lib.hid hYB
  have HRD := Lib.hid hRd
  have HDN := Lib.hid hDn
  have HRZ := Lib.hid hRz
  have HR0 := Lib.hid hR0
  have HJ0 := Lib.hid hJ0
  have HY := Lib.hid hY
  have HC := Lib.hid hC
  have HOK := Lib.hid hok
  have HH0 := Lib.hid hr0
  have HF := Lib.hid hF
  have HU := Lib.hid hU
  have HHV := Lib.hid hhv
  have HX1 := Lib.hid b1
  have HX2 := Lib.hid b2
  have HE1 := Lib.hid hE1
  clear hW1 hb01 hz1 hYB hRd hDn hRz hDz hR0 hJ0 hY hC hok hr0 hF hU hhv hd hx1 hx2 hE hEnv b1 b2 hE1 hUok
  refine callsIn_wide.2 ((callsIn_wide (n := 3)).1 ?_)
  refine callsIn_of_wp_marks Tryd.func20 rfl trivial ?_ rfl
  simp only [Tryd.ntmps20, List.size_toArray, List.length_cons, List.length_nil, Nat.reduceAdd, Nat.reduceSub, Array.replicate_succ, Array.replicate_zero, List.push_toArray, List.append_toArray, List.nil_append, List.cons_append]
  refine wpIn_wide.2 ?_
  go_upto_region 1 with fail
  rw [HW1.out]
  go_wp2_with fail
  refine HV1.out.mono ?_
  rintro e W2 ⟨rfl, hb12⟩
  obtain ⟨W3, hW3⟩ : ∃ W3, W2.alloc (Obj.cells #[.int .i64 hv] 2) = W3 := ⟨_, rfl⟩
  have HW3 := Lib.hid hW3
  have HB12 := Lib.hid hb12
  clear hW3 hb12
  go_upto_region 2 with fail
  rw [HW3.out]
  have hb23 : Below W2.heap.size W2 W3 := by rw [← HW3.out]; exact (Below.refl _ _).alloc (Nat.le_refl _) _
  have hb13 : Below W1.heap.size W1 W3 := HB12.out.trans (hb23.mono HB12.out.size)
  have hz3 : W3.heap.size = W2.heap.size + 1 := by rw [← HW3.out]; simp
  have hHB : Boxed W3 W2.heap.size 2 (.int .i64 hv) := by rw [← HW3.out]; exact Boxed.new W2 _ _
  have b1 : Boxed W3 B1 22 (.slice a0 n0 c0) := (hb13.block _ HX1.out.lt).trans HX1.out
  have b2 : Boxed W3 B2 23 (.int .u64 (s : Nat)) := (hb13.block _ HX2.out.lt).trans HX2.out
  have hY3 : Boxed W3 W.heap.size 47 (.func (.yield l') #[] #[]) := (hb13.block _ HYB.out.lt).trans HYB.out
  have hE3 : EnsP W3.heap.size W3 (.slice a0 n0 c0) zs := (HE1.out.below hb13 (Nat.le_refl _)).mono hb13.size
  have hb03 : Below W.heap.size W W3 := HB01.out.trans (hb13.mono HB01.out.size)
  have HUN := Lib.hid (fun Wx (hb : Below W3.heap.size W3 Wx) => union_any a0 n0 c0 zs HOK.out (by omega) Wx ((hE3.below hb (Nat.le_refl _)).mono hb.size))
  rw [HU.out] at HUN
  have HX1' := Lib.hid b1
  have HX2' := Lib.hid b2
  have HY3 := Lib.hid hY3
  have HHB := Lib.hid hHB
  have HB03 := Lib.hid hb03
  have HZ3 := Lib.hid hz3
  have HZ23 : Hid (W.heap.size < W2.heap.size) := Lib.hid (by have := HB12.out.size; have := HZ1.out; omega)
  clear hb23 hb13 hz3 hHB b1 b2 hY3 hE3 hb03
  refine region_seq (l := [_, _, _, _]) (t := [_]) (by kernel_rfl) (by decide +kernel) (by decide +kernel) (fun v => { tmps := #[.func (.yield l') #[] #[], .pointer (some ⟨B1, 0, none⟩), .pointer (some ⟨B2, 0, none⟩), .pointer (some ⟨W.heap.size, 0, none⟩), .pointer (some ⟨W2.heap.size, 0, none⟩), undef, .slice a0 n0 c0, .int .u64 (s : Nat), .int .i64 hv, v 0, v 1, v 2, v 3, undef, undef, undef, undef, undef, undef, undef, undef, undef, undef, undef, undef, undef, undef, undef], defers := [] }) (fun Wx => Below W3.heap.size W3 Wx) (fun i u Wx => match i with
    | 0 => u = .slice a0 n0 c0
    | 1 => u = .int .u64 (U : Nat)
    | 2 => u = .int .u64 (s : Nat)
    | 3 => u = .int .u64 (d : Nat)
    | _ => True) (fun A B => Below A.heap.size A B) ?hC ?hV (fun _ => undef) ?h0 ?hop ?hend
  case hC => exact fun A B h h2 => h.trans (h2.mono h.size)
  case hV => exact fun i u A B h _ => h
  case h0 => exact (Below.refl _ _).drew
  case hop =>
    simp only [AllDo]
    refine ⟨?o0, ?o1, ?o2, ?o3, trivial⟩
    all_goals intro v Wx hc hd' Q hQ
    all_goals simp [Region.binds] at hd'
    all_goals rw [if_pos (show Region.wanted _ _ = true from rfl)]
    case o0 =>
      have cy := Boxed.cell (show Boxed Wx B1 22 (.slice a0 n0 c0) from (hc.block _ HX1'.out.lt).trans HX1'.out)
      go_wp2
      exact ⟨_, rfl, Below.refl _ _, rfl⟩
    case o1 =>
      rw [hd']
      have HUX := Lib.hid (HUN.out Wx hc)
      go_wp2_with fail
      refine HUX.out.mono ?_
      rintro e W' ⟨rfl, hb'⟩
      go_wp2
      refine ⟨.int .u64 (U : Nat), ?_, hb', rfl⟩
      simp [updV, hd']
    case o2 =>
      have cy := Boxed.cell (show Boxed Wx B2 23 (.int .u64 (s : Nat)) from (hc.block _ HX2'.out.lt).trans HX2'.out)
      go_wp2
      exact ⟨_, rfl, Below.refl _ _, rfl⟩
    case o3 =>
      obtain ⟨h1, h2⟩ := hd'
      rw [h1, h2]
      go_wp2
      refine ⟨.int .u64 (d : Nat), ?_, Below.refl _ _, rfl⟩
      simp [updV, h1, h2]
  case hend =>
    intro v Wx hc hv'
    have e0 : v 0 = .slice a0 n0 c0 := hv' 0 (by decide)
    have e1 : v 1 = .int .u64 (U : Nat) := hv' 1 (by decide)
    have e2 : v 2 = .int .u64 (s : Nat) := hv' 2 (by decide)
    have e3 : v 3 = .int .u64 (d : Nat) := hv' 3 (by decide)
    have HIT := Lib.hid (itemsOf d Wx)
    have HCX := Lib.hid hc
    clear hv' hc
    rw [e0, e1, e2, e3]
    simp only [SeqDoes]
    intro Q1 hQ1
    rw [if_pos (show Region.wanted _ _ = true from rfl)]
    go_wp2_with fail
    refine HIT.out.mono ?_
    rintro e W5 ⟨rfl, hW5⟩
    have hb5 : Below Wx.heap.size Wx W5 := by rw [hW5]; exact (Below.refl _ _).alloc (Nat.le_refl _) _
    have hz5 : W5.heap.size = Wx.heap.size + 1 := by rw [hW5]; simp
    have hIB : Boxed W5 Wx.heap.size 23 (.int .u64 (d : Nat)) := by rw [hW5]; exact Boxed.new Wx _ _
    clear hW5
    have hb35 : Below W3.heap.size W3 W5 := HCX.out.trans (hb5.mono HCX.out.size)
    have hb05 : Below W.heap.size W W5 := HB03.out.trans (hb35.mono HB03.out.size)
    have hlt3 : W3.heap.size ≤ Wx.heap.size := HCX.out.size
    have hY5 : Boxed W5 W.heap.size 47 (.func (.yield l') #[] #[]) := (hb35.block _ HY3.out.lt).trans HY3.out
    have hH5 : Boxed W5 W2.heap.size 2 (.int .i64 hv) := (hb35.block _ HHB.out.lt).trans HHB.out
    have hBW : B + 2 ≤ W.heap.size := HRZ.out W HR0.out
    have hNW' : N ≤ W.heap.size := hNW
    have hz3 := HZ3.out
    have hz23 := HZ23.out
    have hown : ∀ k ∈ own ++ [W5.heap.size, W5.heap.size + 1], k < N ∨ W5.heap.size ≤ k := fun k hk => by
      rcases List.mem_append.1 hk with hk | hk
      · exact .inl (HC.out.lt k hk)
      · simp at hk; omega
    have HOWN := Lib.hid hown
    have HB05 := Lib.hid hb05
    have HY5 := Lib.hid hY5
    have HH5 := Lib.hid hH5
    have HIB := Lib.hid hIB
    have HZ5 := Lib.hid hz5
    have HLT3 := Lib.hid hlt3
    have HBW := Lib.hid hBW
    have HNW := Lib.hid hNW'
    have HN5 : Hid (N ≤ W5.heap.size) := Lib.hid (by omega)
    have HB5 : Hid (B + 2 ≤ W5.heap.size) := Lib.hid (by omega)
    clear hb5 hz5 hIB hb35 hb05 hlt3 hY5 hH5 hBW hNW' hz3 hz23 hown HIT
    go_wp2_with fail
    refine (wpIn_wide (n := 3)).1 ?_
    refine wpIn_actG ?_
    intro A hA
    have hIC : ItC Wx.heap.size d (fun its : List Nat => its) (AdJ own rest J Rd F s W5) (fun its x V => AdJ own rest J Rd F s W5 its V ∧ ∃ r, its = x :: r) (fun its its' => its' = its.tail) :=
      { row := fun its V h => by
          obtain ⟨_, h1, h2, st, h3, h4⟩ := h
          refine ⟨(h2.block _ HIB.out.lt (fun hk => ?_)).trans HIB.out, (HC.out.row st V h4).2.2.2.1⟩
          have h5 := HOWN.out _ hk
          have h6 := HZ5.out
          have h7 := HNW.out
          have h8 := HLT3.out
          have h9 := HZ3.out
          have h10 := HZ23.out
          omega
        yield := fun its V x r h e => ⟨h, r, e⟩
        next := fun its its' h => h }
    have HIC := Lib.hid hIC
    clear hIC
    refine rangeG rfl (by omega) (gf := 30) (lb := #[.pointer (some ⟨Wx.heap.size, 0, none⟩)]) (by rw [hA]; rfl) trivial (enters_of Tryd.func30 (by kernel_rfl) rfl) (encs := fun (x : Nat) => #[.int .i64 (x : Nat)]) (fun _ => rfl)
      (AdJ own rest J Rd F s W5) (fun its x V => AdJ own rest J Rd F s W5 its V ∧ ∃ r, its = x :: r)
      (fun (its : List Nat) (x : Nat) a1 V => (AdJ own rest J Rd F s W5 its V ∧ ∃ r, its = x :: r) ∧ a1 = { tmps := (A.tmps.setIfInBounds 14 (.int .i64 (x : Nat))).setIfInBounds 5 (.int .i64 (x : Nat)), defers := [] })
      (fun c V => c = .ret ∧ ∃ st c0, Dn c0 V ∧ Jx st c0 V) (fun its its' => its' = its.tail) (fun its _ => its = []) (items d)
      (fun its => AdJ.noRec HC.out HN5.out HB5.out HRD.out its)
      (fun its x a1 V o k hk ⟨⟨h1, hg⟩, h5⟩ => ⟨⟨AdJ.noRec HC.out HN5.out HB5.out HRD.out its V o k hk h1, hg⟩, h5⟩)
      (fun c V o k hk h => ⟨h.1, adX_noRec HC.out HN5.out HB5.out HDN.out V o k hk h.2⟩) (fun _ _ _ _ _ h => h) (fun r => ?start)
      (items1 hdok HIC.out rfl)
      ?assign ?body ?done ?stop
    case start =>
      have hb := ((Below.refl W5.heap.size W5).alloc (Nat.le_refl _) (.deferred (some []))).alloc (by simp) (.loop r)
      have hbw := HB05.out.trans (hb.mono HB05.out.size)
      have h1 := HBW.out
      refine ⟨fun i hi => items_lt hi, HRD.out W _ ⟨hbw.block _ (by omega), hbw.block _ (by omega)⟩ HR0.out, But.of_below hb, ?_⟩
      obtain ⟨st', e1, _, e3⟩ := HC.out.turn s0 W _ [] HJ0.out (But.of_below hbw) (fun _ h => nomatch h)
      exact ⟨st', e1.trans HH0.out, e3⟩
    case assign =>
      rintro l9 its x V K' hj hzV hK
      rw [hA] at hK ⊢
      gi_wp2
      exact hK _ _ ⟨hj, rfl⟩ ⟨rfl, rfl⟩
    case body =>
      rintro l2 its x a1 V ⟨⟨hj, r, hr⟩, rfl⟩ hzV
      subst hr
      obtain ⟨hil, hrd, hbut, st, hrest, hJ⟩ := hj
      obtain ⟨r1, r2, r3, r4, r5⟩ := HC.out.row st V hJ
      have hx64 : x < 64 := hil x List.mem_cons_self
      have HIL : Hid (∀ i ∈ r, i < 64) := Lib.hid (fun i hi => hil i (List.mem_cons_of_mem _ hi))
      have hoff : ∀ k, N ≤ k → k < W5.heap.size → V.heap[k]? = W5.heap[k]? := fun k h1 h2 => hbut.block k h2 (fun hk => by have := HOWN.out k hk; omega)
      have hYV : Boxed V W.heap.size 47 (.func (.yield l') #[] #[]) := (hoff _ HNW.out (by have := HY5.out.lt; exact this)).trans HY5.out
      have hHV : Boxed V W2.heap.size 2 (.int .i64 hv) := (hoff _ (by have := HNW.out; have := HZ23.out; omega) (by have := HH5.out.lt; exact this)).trans HH5.out
      have hOf : ofN [(x : Int)] = 2 ^ x := by
        unfold ofN ofStep
        simp [itemB]
        intro h
        exfalso
        omega
      have hpow : 2 ^ x < 18446744073709551616 := by
        have := Nat.pow_lt_pow_right (a := 2) (by decide) hx64
        exact this
      have hor := u64_or_nat s (2 ^ x) hs hpow
      have hso : okS (s ||| 2 ^ x) := Nat.or_lt_two_pow (n := 64) hs hpow
      have HVL := Lib.hid (fun Wy (hb : Below V.heap.size V Wy) => value_any a0 n0 c0 (s ||| 2 ^ x) zs hso HOK.out (by omega) Wy ((r3.below hb r5).mono (Nat.le_trans r5 hb.size)))
      rw [HF.out] at HVL
      obtain ⟨so, hsoq⟩ : ∃ so, s ||| 2 ^ x = so := ⟨_, rfl⟩
      obtain ⟨p2, hp2⟩ : ∃ p2, 2 ^ x = p2 := ⟨_, rfl⟩
      obtain ⟨vo, hvo⟩ : ∃ vo, askL withinB F so = vo := ⟨_, rfl⟩
      have hgv : growV F s x = vo - hv := by unfold growV; rw [hsoq, hvo, HHV.out]
      have hbd : 0 ≤ vo ∧ vo ≤ 1099511627776 ∧ 0 ≤ hv ∧ hv ≤ 1099511627776 := by
        have hm : ∀ y, askL withinB F y ≤ 1099511627776 := fun y => by rw [← HF.out]; exact askL_le (by decide) (fun z hz _ => by
          have h2 := (List.mem_filter.1 hz).2
          unfold rightA at h2
          simp only [Bool.and_eq_true, decide_eq_true_eq] at h2
          exact h2.2)
        refine ⟨by rw [← hvo]; exact askL_nonneg _ _, by rw [← hvo]; exact hm _, by rw [← HHV.out]; exact askL_nonneg _ _, by rw [← HHV.out]; exact hm _⟩
      rw [hsoq] at HVL hor
      rw [hp2] at hor hOf
      rw [hvo] at HVL
      have hd1 : -9223372036854775808 ≤ vo - hv := by omega
      have hd2 : vo - hv ≤ 9223372036854775807 := by omega
      have HRST : Hid (rest st = (x, vo - hv) :: r.map (fun i => (i, growV F s i))) := Lib.hid (by rw [hrest, List.map_cons, hgv])
      have HJV := Lib.hid hJ
      have HRDV := Lib.hid hrd
      have HBUT := Lib.hid hbut
      have HR1 := Lib.hid r1
      have HR2 := Lib.hid r2
      have HYV := Lib.hid hYV
      have HHVV := Lib.hid hHV
      have HOF := Lib.hid hOf
      have hnv := r5
      clear hJ hrd hbut hil r1 r2 r3 r4 hoff hYV hHV hOf hpow hso hsoq hp2 hvo hgv hbd hrest
      rw [hA]
      gi_wp2
      refine region_seqIn (fun f => trivial) (l := [_, _, _, _, _, _, _, _, _, _, _]) (t := [_, _]) (by kernel_rfl) (by decide +kernel) (by decide +kernel) (fun v => { tmps := #[.func (.yield l') #[] #[], .pointer (some ⟨B1, 0, none⟩), .pointer (some ⟨B2, 0, none⟩), .pointer (some ⟨W.heap.size, 0, none⟩), .pointer (some ⟨W2.heap.size, 0, none⟩), .int .i64 (x : Nat), .slice a0 n0 c0, .int .u64 (s : Nat), .int .i64 hv, .slice a0 n0 c0, .int .u64 (U : Nat), .int .u64 (s : Nat), .int .u64 (d : Nat), .func (.func 30) #[] #[.pointer (some ⟨Wx.heap.size, 0, none⟩)], .int .i64 (x : Nat), v 0, v 1, v 2, v 3, v 4, v 5, v 6, v 7, v 8, v 9, v 10, undef, undef], defers := [] }) (fun Wy => Below V.heap.size V Wy) (fun i u Wy => match i with
        | 0 => u = .func (.yield l') #[] #[]
        | 1 => u = .int .i64 (x : Nat)
        | 2 => u = .slice a0 n0 c0
        | 3 => u = .int .u64 (s : Nat)
        | 4 => u = .int .i64 (x : Nat)
        | 5 => ∃ q : Nat, u = .slice (some ⟨q, 0, none⟩) 1 1 ∧ Wy.heap[q]? = some (.cells #[.int .i64 (x : Nat)] 3 (0, 0))
        | 6 => u = .int .u64 (p2 : Nat)
        | 7 => u = .int .u64 (so : Nat)
        | 8 => u = .int .i64 vo
        | 9 => u = .int .i64 hv
        | 10 => u = .int .i64 (vo - hv)
        | _ => True) (fun A B => Below A.heap.size A B) ?hC ?hV (fun _ => undef) ?h0 ?hop ?hend
      case hC => exact fun A B h h2 => h.trans (h2.mono h.size)
      case hV =>
        intro i' u A B h hx
        match i', h with
        | 0, h => exact h
        | 1, h => exact h
        | 2, h => exact h
        | 3, h => exact h
        | 4, h => exact h
        | 5, h =>
          obtain ⟨q, h1, h2⟩ : ∃ q : Nat, u = .slice (some ⟨q, 0, none⟩) 1 1 ∧ A.heap[q]? = some (.cells #[.int .i64 (x : Nat)] 3 (0, 0)) := h
          exact ⟨q, h1, (hx.block q (Array.getElem?_eq_some_iff.1 h2).1).trans h2⟩
        | 6, h => exact h
        | 7, h => exact h
        | 8, h => exact h
        | 9, h => exact h
        | 10, h => exact h
        | n + 11, h => trivial
      case h0 => exact (Below.refl _ _).drew
      case hop =>
        simp only [AllDoIn]
        refine ⟨?o0, ?o1, ?o2, ?o3, ?o4, ?o5, ?o6, ?o7, ?o8, ?o9, ?o10, trivial⟩
        all_goals intro v Wy hc hd' Q hQ
        all_goals simp [Region.binds] at hd'
        all_goals rw [if_pos (show Region.wanted _ _ = true from rfl)]
        case o0 =>
          have cy := Boxed.cell (show Boxed Wy W.heap.size 47 (.func (.yield l') #[] #[]) from (hc.block _ HYV.out.lt).trans HYV.out)
          gi_wp2
          exact ⟨_, rfl, Below.refl _ _, rfl⟩
        case o1 =>
          gi_wp2
          exact ⟨_, rfl, Below.refl _ _, rfl⟩
        case o2 =>
          have cy := Boxed.cell (show Boxed Wy B1 22 (.slice a0 n0 c0) from (hc.block _ HR1.out.lt).trans HR1.out)
          gi_wp2
          exact ⟨_, rfl, Below.refl _ _, rfl⟩
        case o3 =>
          have cy := Boxed.cell (show Boxed Wy B2 23 (.int .u64 (s : Nat)) from (hc.block _ HR2.out.lt).trans HR2.out)
          gi_wp2
          exact ⟨_, rfl, Below.refl _ _, rfl⟩
        case o4 =>
          gi_wp2
          exact ⟨_, rfl, Below.refl _ _, rfl⟩
        case o5 =>
          rw [hd']
          have hnw := World.alloc_heap_new Wy (.cells #[.int .i64 (x : Nat)] 3)
          have hbn : Below Wy.heap.size Wy (Wy.alloc (.cells #[.int .i64 (x : Nat)] 3)) := (Below.refl _ _).alloc (Nat.le_refl _) _
          gi_wp2
          refine ⟨.slice (some ⟨Wy.heap.size, 0, none⟩) 1 1, ?_, hbn, Wy.heap.size, rfl, hnw⟩
          simp [updV, hd']
        case o6 =>
          obtain ⟨q, h1, h2⟩ := hd'
          have HO := Lib.hid (of_any (some ⟨q, 0, none⟩) 1 1 [(x : Int)] Wy (by simp) (.inr ⟨q, 0, 1, rfl, (Array.getElem?_eq_some_iff.1 h2).1, by simp, fun j y hj => by
            match j, hj with
            | 0, hj => simp at hj; subst hj; exact cell_of_row Wy q 0 _ _ _ h2
            | j + 1, hj => simp at hj⟩))
          rw [HOF.out] at HO
          rw [h1]
          gi_wp2_with (refine ⟨trivial, ?_⟩; gi_at_call 22; refine (CallsIn.inRound l2 (callsIn_wide.2 HO.out)).mono ?_; rintro e w' ⟨rfl, rfl⟩)
          refine ⟨.int .u64 (p2 : Nat), ?_, Below.refl _ _, rfl⟩
          simp [updV, h1]
        case o7 =>
          obtain ⟨h1, h2⟩ := hd'
          rw [h1, h2]
          gi_wp2
          refine ⟨.int .u64 (so : Nat), ?_, Below.refl _ _, rfl⟩
          simp [updV, h1, h2]
        case o8 =>
          have h2 : v 2 = .slice a0 n0 c0 := by simp_all
          have h7 : v 7 = .int .u64 (so : Nat) := by simp_all
          have HVX := Lib.hid (HVL.out Wy hc)
          rw [h2, h7]
          clear hd'
          gi_wp2_with (refine ⟨trivial, ?_⟩; gi_at_call 15; refine (CallsIn.inRound l2 (callsIn_wide.2 HVX.out)).mono ?_; rintro e w' ⟨rfl, hb'⟩)
          refine ⟨.int .i64 vo, ?_, hb', rfl⟩
          simp [updV, h2, h7]
        case o9 =>
          have cy := Boxed.cell (show Boxed Wy W2.heap.size 2 (.int .i64 hv) from (hc.block _ HHVV.out.lt).trans HHVV.out)
          gi_wp2
          exact ⟨_, rfl, Below.refl _ _, rfl⟩
        case o10 =>
          obtain ⟨h1, h2⟩ := hd'
          rw [h1, h2]
          gi_wp2
          refine ⟨.int .i64 (vo - hv), ?_, Below.refl _ _, rfl⟩
          simp [updV, h1, h2]
      case hend =>
        intro v Wy hc hvv
        have e0 : v 0 = .func (.yield l') #[] #[] := hvv 0 (by decide)
        have e1 : v 1 = .int .i64 (x : Nat) := hvv 1 (by decide)
        have e10 : v 10 = .int .i64 (vo - hv) := hvv 10 (by decide)
        obtain ⟨st2, q1, q2, q3⟩ := HC.out.turn st V Wy [] HJV.out (But.of_below hc) (fun _ h => nomatch h)
        rw [HRST.out] at q1
        have hrd2 : Rd Wy := HRD.out V Wy ⟨hc.block _ (by have := HB5.out; omega), hc.block _ (by have := HB5.out; omega)⟩ HRDV.out
        have hya := HY.out st2 (x, vo - hv) Wy hrd2 (HC.out.yield st2 Wy _ _ q3 q1)
        have hyb := yieldAny rfl 0 l2 hya
        obtain ⟨fn, tmps, assign, body, hy, hR⟩ := hyb
        dsimp only at hy
        have HRR := Lib.hid hR
        have HCY := Lib.hid hc
        have HQ1 := Lib.hid q1
        have HQ2 := Lib.hid q2
        have hown5 : W5.heap.size ∉ own ∧ W5.heap.size + 1 ∉ own := ⟨fun h => by have := HC.out.lt _ h; have := HN5.out; omega, fun h => by have := HC.out.lt _ h; have := HN5.out; omega⟩
        clear hya hR hc hvv q1 q2 q3 hrd2
        simp only [SeqDoesIn]
        intro Q1 hQ1
        rw [if_pos (show Region.wanted _ _ = true from rfl), e0, e1, e10]
        gi_wp2_with fail
        refine HRR.out.mono ?_
        rintro e W6 (⟨rfl, hr6, st6, haf, hj6⟩ | ⟨rfl, c, hd6, hx6⟩)
        · obtain ⟨n1, n2⟩ := HC.out.next _ _ haf
          rw [HQ2.out] at n2
          have hbo : But own Wy W6 := n2.trans' (HC.out.at_ _ _ hj6)
          have HSR : Hid (SameRec W5.heap.size V W6) := Lib.hid ⟨(hbo.block _ (by have := HCY.out.size; omega) hown5.1).trans (HCY.out.block _ (by omega)), (hbo.block _ (by have := HCY.out.size; omega) hown5.2).trans (HCY.out.block _ (by omega))⟩
          have HJ6 : Hid (AdJ own rest J Rd F s W5 r W6) := Lib.hid ⟨HIL.out, hr6, (HBUT.out.trans' (But.of_below HCY.out)).trans hbo (fun k hk => .inl (List.mem_append_left _ hk)), st6, by rw [n1, HQ1.out]; rfl, hj6⟩
          clear hr6 haf hj6 n1 n2 hbo
          gi_wp2_with fail
          intro Q2 hQ2
          rw [if_pos (show Region.wanted _ _ = true from rfl)]
          gi_wp2_with fail
          exact ⟨HSR.out, r, rfl, HJ6.out⟩
        · have hbo : But own Wy W6 := by have h := HC.out.atX _ _ _ hx6; rw [HQ2.out] at h; exact h
          have HSR : Hid (SameRec W5.heap.size V W6) := Lib.hid ⟨(hbo.block _ (by have := HCY.out.size; omega) hown5.1).trans (HCY.out.block _ (by omega)), (hbo.block _ (by have := HCY.out.size; omega) hown5.2).trans (HCY.out.block _ (by omega))⟩
          have HX6 : Hid (∃ st c0, Dn c0 W6 ∧ Jx st c0 W6) := Lib.hid ⟨st2, c, hd6, hx6⟩
          clear hd6 hx6 hbo
          gi_wp2_with fail
          intro Q2 hQ2
          rw [if_pos (show Region.wanted _ _ = true from rfl)]
          gi_wp2_with fail
          exact ⟨HSR.out, rfl, HX6.out⟩
    case done =>
      rintro its V hj he hD
      subst he
      rw [hA]
      have hj2 := AdJ.noRec HC.out HN5.out HB5.out HRD.out [] V (.deferred none) _ (.inl rfl) hj
      have HJ := Lib.hid hj2
      have HD := Lib.hid hD
      clear hj hj2 hD
      go_wp2_with fail
      refine ⟨by simp, .inl ⟨_, _, rfl, run_takeDeferred HD.out, ?_⟩⟩
      obtain ⟨_, h1, h2, st, h3, h4⟩ := HJ.out
      exact ⟨_, results_none rfl _ _ _, ⟨_, rfl⟩, .inl ⟨h1, st, h3, h4⟩⟩
    case stop =>
      rintro c V ⟨rfl, h⟩ hD
      have hj2 := adX_noRec HC.out HN5.out HB5.out HDN.out V (.deferred none) _ (.inl rfl) h
      have HJ := Lib.hid hj2
      have HD := Lib.hid hD
      clear h hj2 hD
      rw [hA]
      gi_wp2_with fail
      refine ⟨by simp, .inl ⟨_, _, rfl, run_takeDeferred HD.out, ?_⟩⟩
      obtain ⟨st, c, h1, h2⟩ := HJ.out
      exact ⟨_, results_none rfl _ _ _, ⟨_, rfl⟩, .inr ⟨st, c, h1, h2⟩⟩
end Go.Proofs.YtfgppkmhjjnnnaaDoor
