/- Contracts of money.Sum over a row of numbers, and of money.Total. -/
import Derived.Test.YtndbpmhdpjlncaaSeq
import Derived.Test.YtndbpmhdpjlncaaMoneyE
import Derived.RangeFuncNested
import Derived.RangeFuncCalls
import Derived.Shelf.RegionOpen
namespace Go.Proofs.Ytndbpmhdpjlncaa
open Go.RowKit Go.Shelf

attribute [local go_sem] Oper.semAt_some

/-- One number more is added, if that can be told. -/
def runStep (o : Option Int) (x : Int) : Option Int := o.bind fun t => if addB t x = true then some (t + x) else none
def runSum (zs : List Int) : Option Int := zs.foldl runStep (some 0)
theorem runSum_nil : runSum [] = some 0 := rfl
theorem runSum_snoc (pre : List Int) (x : Int) : runSum (pre ++ [x]) = runStep (runSum pre) x := by simp [runSum]
theorem runStep_none (xs : List Int) : xs.foldl runStep none = none := by
  induction xs with
  | nil => rfl
  | cons x xs ih => exact ih
theorem runSum_prefix {pre zs : List Int} (h : pre <+: zs) (hn : runSum pre = none) : runSum zs = none := by
  obtain ⟨r, rfl⟩ := h
  unfold runSum at hn ⊢
  rw [List.foldl_append, hn]
  exact runStep_none r

theorem add_yes (a b : Int) (w : World) (h : Hid (addB a b = true)) :
    Calls Try.prog 7 #[.int .i64 a, .int .i64 b] w fun e w' => e = .returned (.tuple #[.int .i64 (a + b), .bool true]) ∧ w = w' := by
  have := add_any a b w
  rw [addB_eq h.out, h.out] at this
  exact this
theorem add_not (a b : Int) (w : World) (h : Hid (addB a b = false)) :
    Calls Try.prog 7 #[.int .i64 a, .int .i64 b] w fun e w' => e = .returned (.tuple #[.int .i64 0, .bool false]) ∧ w = w' := by
  have := add_any a b w
  rw [addB_no h.out, h.out] at this
  exact this

set_option maxRecDepth 100000 in
set_option maxHeartbeats 2000000 in
theorem sum_any (Bs : Nat) (sv : Value) (zs : List Int) (hreach : zs.length * 8 ≤ 140737488351232) (w : World) (hBs : Bs < w.heap.size)
    (hc : w.cell? ⟨Bs, 0, none⟩ = some sv) (hI : Vals.Ints w.heap.size w sv zs) :
    Calls Try.prog 26 #[.func (.func 28) #[] #[.pointer (some ⟨Bs, 0, none⟩)]] w fun e w' =>
      e = .returned (.tuple #[.int .i64 ((runSum zs).getD 0), .bool (runSum zs).isSome]) ∧ Below w.heap.size w w' := by
  refine (callsIn_wide (n := 3)).1 ?_
  refine callsIn_of_wp_marks Try.func26 rfl trivial ?_ rfl
  simp only [Try.ntmps26, List.size_toArray, List.length_cons, List.length_nil, Nat.reduceAdd, Nat.reduceSub, Array.replicate_succ, Array.replicate_zero, List.push_toArray, List.append_toArray, List.nil_append, List.cons_append]
  gi_wp2
  have bA := ((Boxed.new w 2 (.int .i64 0)).alloc (.cells #[.bool false] 4)).alloc (.cells #[.int .i64 0] 2)
  have bB := (Boxed.new (w.alloc (.cells #[.int .i64 0] 2)) 4 (.bool false)).alloc (.cells #[.int .i64 0] 2)
  have bT := Boxed.new ((w.alloc (.cells #[.int .i64 0] 2)).alloc (.cells #[.bool false] 4)) 2 (.int .i64 0)
  rw [World.size_alloc] at bB
  rw [World.size_alloc, World.size_alloc] at bT
  have hB0 : Below w.heap.size w (((w.alloc (.cells #[.int .i64 0] 2)).alloc (.cells #[.bool false] 4)).alloc (.cells #[.int .i64 0] 2)) := (((Below.refl _ w).alloc (Nat.le_refl _) _).alloc (by simp) _).alloc (by simp; omega) _

  refine wpIn_rangeFunc_ownG rfl (by omega) (gf := 28) (lb := #[.pointer (some ⟨Bs, 0, none⟩)]) rfl trivial (enters_of Try.func28 (by kernel_rfl) rfl)
    (Vals.values_stops Fence.wide _ trivial rfl (by omega) Bs w.heap.size sv zs hreach _ (by simp; omega) (by simp; omega) ((hB0.cell (p := ⟨Bs, 0, none⟩) hBs).trans hc) (hI.below hB0)) belowK_t (belowK_b (by simp; omega)) (Below.refl _ _) (fun _ => rfl)
    (fun pre W => ((∃ t, runSum pre = some t ∧ Boxed W (w.heap.size + 1 + 1) 2 (.int .i64 t)) ∧ Boxed W w.heap.size 2 (.int .i64 0) ∧ Boxed W (w.heap.size + 1) 4 (.bool false)) ∧ Below w.heap.size w W)
    (fun c pre W => ((c = .ret ∧ runSum pre = none) ∧ Boxed W w.heap.size 2 (.int .i64 0) ∧ Boxed W (w.heap.size + 1) 4 (.bool false)) ∧ Below w.heap.size w W)
    (OwnFrom.and (Own.from (fun pre A B row hs hg hr => ⟨hs.1.elim fun t ht => ⟨t, ht.1, boxed_own _ _ (fun _ : Unit => Value.int .i64 t) () A B row ht.2 hg hr⟩, boxed_own _ _ (fun _ : Unit => Value.int .i64 0) () A B row hs.2.1 hg hr, boxed_own _ _ (fun _ : Unit => Value.bool false) () A B row hs.2.2 hg hr⟩) _) (ownFrom_below (Nat.le_refl _) (by simp; omega)))
    (fun c => OwnFrom.and (Own.from (fun pre A B row hs hg hr => ⟨hs.1, boxed_own _ _ (fun _ : Unit => Value.int .i64 0) () A B row hs.2.1 hg hr, boxed_own _ _ (fun _ : Unit => Value.bool false) () A B row hs.2.2 hg hr⟩) _) (ownFrom_below (Nat.le_refl _) (by simp; omega)))
    ⟨⟨⟨0, rfl, bT⟩, bA, bB⟩, hB0⟩
    (fun x => { tmps := #[.func (.func 28) #[] #[.pointer (some ⟨Bs, 0, none⟩)], undef, .pointer (some ⟨w.heap.size, 0, none⟩), .pointer (some ⟨w.heap.size + 1, 0, none⟩), .pointer (some ⟨w.heap.size + 1 + 1, 0, none⟩), .int .i64 x, undef, undef, .func (.func 28) #[] #[.pointer (some ⟨Bs, 0, none⟩)], .int .i64 x, undef, undef, undef, undef, undef, undef, undef, undef, undef, undef], defers := [] }) ?assign ?body ?done ?stop
  case assign =>
    intro l x W K hK
    gi_wp2
    exact hK
  case body =>
    rintro l pre x W ⟨⟨⟨t, ht, hT⟩, hA, hB⟩, hBl⟩ _
    have hc1 := hT.cell
    have hf1 := hT.frozen
    have hc2 := hA.cell
    have hf2 := hA.frozen
    have hc3 := hB.cell
    have hf3 := hB.frozen
    have HT := Lib.hid ht; clear ht
    cases hx : addB t x with
    | true =>
      have HX := Lib.hid hx; clear hx
      gi_wp2_with (refine ⟨trivial, ?_⟩; gi_at_call 7; refine (CallsIn.inRound l (callsIn_wide.2 (add_yes _ _ _ HX))).mono ?_; rintro e w' ⟨rfl, rfl⟩)
      exact ⟨(KeepsOthers.setCell _ _ _).from _, (Below.refl _ W).setCell (p := ⟨w.heap.size + 1 + 1, 0, none⟩) (by simp; omega) _, ⟨⟨t + x, by rw [runSum_snoc, HT.out]; simp [runStep, HX.out], hT.set _⟩, hA.other (by omega) _, hB.other (by omega) _⟩, hBl.setCell (p := ⟨w.heap.size + 1 + 1, 0, none⟩) (by simp; omega) _⟩
    | false =>
      have HX := Lib.hid hx; clear hx
      gi_wp2_with (refine ⟨trivial, ?_⟩; gi_at_call 7; refine (CallsIn.inRound l (callsIn_wide.2 (add_not _ _ _ HX))).mono ?_; rintro e w' ⟨rfl, rfl⟩)
      exact ⟨((KeepsOthers.setCell _ _ _).trans (KeepsOthers.setCell _ _ _)).from _, ⟨⟨rfl, by rw [runSum_snoc, HT.out]; simp [runStep, HX.out]⟩, (hA.set _).other (by omega) _, (hB.other (by omega) _).set _⟩, (hBl.setCell (p := ⟨w.heap.size, 0, none⟩) (by simp) _).setCell (p := ⟨w.heap.size + 1, 0, none⟩) (by simp) _⟩
  case done =>
    rintro D ys W hD rfl ⟨⟨⟨t, ht, hT⟩, hA, hB⟩, hBl⟩ hK
    have hc1 := hT.cell
    have hf1 := hT.frozen
    have hc2 := hA.cell
    have hf2 := hA.frozen
    have hc3 := hB.cell
    have hf3 := hB.frozen
    have HT := Lib.hid ht; clear ht
    gi_wp2
    have hK' := ((KeepsOthers.setCell W ⟨w.heap.size, 0, none⟩ (.int .i64 t)).trans (KeepsOthers.setCell _ ⟨w.heap.size + 1, 0, none⟩ (.bool true))).same D _ hK rfl
    have hA2 := ((hA.set (.int .i64 t)).other (B' := w.heap.size + 1) (by omega) (.bool true))
    have hB2 := ((hB.other (B' := w.heap.size) (by omega) (.int .i64 t)).set (.bool true))
    refine ⟨by simp, .inl ⟨_, _, rfl, run_takeDeferred hK', ?_⟩⟩
    have hc5 := cell_kept hA2.cell (grownBy_putObj' _ D (.deferred none)) (fun r e => by cases e; exact ⟨_, hK', rfl⟩)
    have hc6 := cell_kept hB2.cell (grownBy_putObj' _ D (.deferred none)) (fun r e => by cases e; exact ⟨_, hK', rfl⟩)
    refine ⟨.tuple #[.int .i64 t, .bool true], ?_, by rw [HT.out]; rfl, ((hBl.setCell (p := ⟨w.heap.size, 0, none⟩) (by simp) _).setCell (p := ⟨w.heap.size + 1, 0, none⟩) (by simp) _).trans (belowK_b (w := w) (Nat.le_refl _) _ D _ _ (by simp at hD; omega) hK' rfl rfl)⟩
    simp [results, Try.f26, go_sem, hc5, hc6]
  case stop =>
    rintro D c pre W hD hp ⟨⟨⟨rfl, hn⟩, hA, hB⟩, hBl⟩ hK
    have hz := runSum_prefix hp hn
    gi_wp2
    refine ⟨by simp, .inl ⟨_, _, rfl, run_takeDeferred hK, ?_⟩⟩
    have hc5 := cell_kept hA.cell (grownBy_putObj' _ D (.deferred none)) (fun r e => by cases e; exact ⟨_, hK, rfl⟩)
    have hc6 := cell_kept hB.cell (grownBy_putObj' _ D (.deferred none)) (fun r e => by cases e; exact ⟨_, hK, rfl⟩)
    refine ⟨.tuple #[.int .i64 0, .bool false], ?_, by rw [hz]; rfl, hBl.trans (belowK_b (w := w) (Nat.le_refl _) _ D _ _ (by simp at hD; omega) hK rfl rfl)⟩
    simp [results, Try.f26, go_sem, hc5, hc6]

set_option maxRecDepth 100000 in
set_option maxHeartbeats 1000000 in
theorem total_any (a : Option Addr) (len cap : Nat) (zs : List Int) (hreach : zs.length * 8 ≤ 140737488351232) (w : World) (hI : Vals.Ints w.heap.size w (.slice a len cap) zs) :
    Calls Try.prog 21 #[.slice a len cap] w fun e w' =>
      e = .returned (.tuple #[.int .i64 ((runSum zs).getD 0), .bool (runSum zs).isSome]) ∧ Below w.heap.size w w' := by
  have hB0 : Below w.heap.size w (w.alloc (.cells #[.slice a len cap] 37)) := (Below.refl _ w).alloc (Nat.le_refl _) _
  have h := sum_any w.heap.size (.slice a len cap) zs hreach (w.alloc (.cells #[.slice a len cap] 37)) (by simp) (Boxed.new w 37 (.slice a len cap)).cell (by
    rcases hI with ⟨e, e2⟩ | ⟨b, off, cap', e, hb, hcs⟩
    · exact .inl ⟨e, e2⟩
    · exact .inr ⟨b, off, cap', e, by simp; omega, fun j hj => (hB0.cell (p := ⟨b, off + j, none⟩) hb).trans (hcs j hj)⟩)
  go_enter Try.func21, Try.ntmps21
  go_wp2_with (first | (go_at_call 27; refine (callsIn_wide.1 (Vals.values_in Fence.wide 0 trivial rfl _ _ _ _)).mono ?_; rintro e w' ⟨rfl, rfl⟩) | (go_at_call 26; refine h.mono ?_; rintro e w' ⟨rfl, hb⟩))
  go_ret2
  exact ⟨rfl, hB0.trans (hb.mono (by simp))⟩

end Go.Proofs.Ytndbpmhdpjlncaa
