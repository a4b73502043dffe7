/- The laws' own 'alive': what set answers at a few examples. -/
import Derived.Test.YtndbpmhdpjlncaaDoorRead
import Derived.Test.YtndbpmhdpjlncaaDoorSetT
import Derived.Test.YtndbpmhdpjlncaaDoorCollect
import Derived.Test.YtndbpmhdpjlncaaDoorPairs1B
import Derived.Test.YtndbpmhdpjlncaaDoorSetH
import Derived.Test.YtndbpmhdpjlncaaDoorSetO
import Derived.Lib.SlBytesConst
namespace Go.Proofs.YtndbpmhdpjlncaaDoor
open Go.RowKit Go.Shelf

attribute [local go_sem] Oper.semAt_some

theorem readS_good : readS [123, 48, 44, 50, 125] = some 5 := by decide +kernel
theorem readS_bad : readS [123, 50, 44, 48, 125] = none := by decide +kernel

theorem cell_marked (w : World) (cs : Array Value) (t : TypeId) (fr : Nat × Nat) (j : Nat) : (w.alloc (.cells cs t fr)).cell? ⟨w.heap.size, j, none⟩ = cs[j]? := by
  have h := World.alloc_heap_new w (.cells cs t fr)
  simp only [World.cell?]
  rw [h]
  rfl
theorem a_of (w : World) : Calls Tryd.prog 27 #[.slice (some ⟨w.heap.size, 0, none⟩) 4 4] (w.alloc (.cells #[.int .i64 0, .int .i64 2, .int .i64 64, .int .i64 (-1)] 3)) fun e w' => e = .returned (.int .u64 5) ∧ (w.alloc (.cells #[.int .i64 0, .int .i64 2, .int .i64 64, .int .i64 (-1)] 3)) = w' := by
  have h := of_any (some ⟨w.heap.size, 0, none⟩) 4 4 [0, 2, 64, -1] _ (by decide) (Sl.lit (Value.int .i64) w 3 [0, 2, 64, -1] #[.int .i64 0, .int .i64 2, .int .i64 64, .int .i64 (-1)] rfl)
  rw [show ofN [0, 2, 64, -1] = 5 from by decide +kernel] at h
  exact h
theorem a_text (w : World) (hE : Env w) : Calls Tryd.prog 29 #[.int .u64 5] w fun e w' => e = .returned (.string ⟨#[123, 48, 44, 50, 125]⟩) ∧ Below w.heap.size w w' := by
  have h := text_any 5 w (by decide) hE
  rw [show ([123] ++ Lib.join ((items 5).map Lib.decDigits) [44] ++ [125] : List UInt8) = [123, 48, 44, 50, 125] from by decide +kernel] at h
  exact h
theorem a_has2 (w : World) : Calls Tryd.prog 12 #[.int .u64 5, .int .i64 2] w fun e w' => e = .returned (.bool true) ∧ w = w' := by
  have h := has_any 5 2 w (by decide)
  rw [show hasB 5 2 = true from by decide +kernel] at h
  exact h
theorem a_has1 (w : World) : Calls Tryd.prog 12 #[.int .u64 5, .int .i64 1] w fun e w' => e = .returned (.bool false) ∧ w = w' := by
  have h := has_any 5 1 w (by decide)
  rw [show hasB 5 1 = false from by decide +kernel] at h
  exact h
theorem a_count (w : World) : Calls Tryd.prog 14 #[.int .u64 5] w fun e w' => e = .returned (.int .i64 2) ∧ w = w' := by
  have h := count_any 5 w (by decide)
  rw [show cnt 5 = 2 from by decide +kernel] at h
  exact h
theorem a_full (w : World) : Calls Tryd.prog 22 #[.int .i64 2] w fun e w' => e = .returned (.int .u64 3) ∧ w = w' := by
  have h := full_any 2 w (by decide) (by decide)
  rw [show fullN 2 = 3 from by decide +kernel] at h
  exact h
theorem a_within (w : World) : Calls Tryd.prog 16 #[.int .u64 1, .int .u64 5] w fun e w' => e = .returned (.bool true) ∧ w = w' := by
  have h := within_any 1 5 w (by decide) (by decide)
  rw [show withinB 1 5 = true from by decide +kernel] at h
  exact h
theorem a_apart (w : World) : Calls Tryd.prog 18 #[.int .u64 2, .int .u64 5] w fun e w' => e = .returned (.bool true) ∧ w = w' := by
  have h := apart_any 2 5 w (by decide) (by decide)
  rw [show apartB 2 5 = true from by decide +kernel] at h
  exact h
theorem a_cmp (w : World) : Calls Tryd.prog 20 #[.int .u64 4, .int .u64 3] w fun e w' => e = .returned (.int .i64 (-1)) ∧ Below w.heap.size w w' := by
  have h := cmp_any 4 3 w (by decide) (by decide)
  rw [show cmpS 4 3 = -1 from by decide +kernel] at h
  exact h
theorem a_list (w : World) (hE : Env w) : Calls Tryd.prog 24 #[.int .u64 5] w fun e w' => (∃ a c, e = .returned (.slice a 2 c)) ∧ Below w.heap.size w w' := by
  refine (list_any 5 w (by decide) hE).mono ?_
  rintro e w' ⟨v, rfl, h1, h2⟩
  have h3 := Sl.of_owns h1
  have e5 : (items 5).length = 2 := by decide +kernel
  rcases h3 with ⟨_, e⟩ | ⟨b, off, cap, e, _⟩
  · rw [e] at e5; simp at e5
  · rw [e5] at e; exact ⟨⟨_, _, by rw [e]⟩, h2⟩

set_option maxRecDepth 100000 in
set_option maxHeartbeats 16000000 in
theorem alive_any (w : World) (hE : Env w) :
    Calls Tryd.prog 10 #[] w fun e w' => e = .returned (.bool true) ∧ Below w.heap.size w w' := by
  have HG : Hid (∀ w, Env w → Calls Tryd.prog 25 #[.string ⟨#[123, 48, 44, 50, 125]⟩] w fun e w' => e = .returned (.tuple #[.int .u64 5, .int .i64 0]) ∧ Below w.heap.size w w') := Lib.hid fun w hE => by
    have := read_any [123, 48, 44, 50, 125] (by decide) w hE
    rw [readS_good] at this; exact this
  have HX : Hid (∀ w, Env w → Calls Tryd.prog 25 #[.string ⟨#[123, 50, 44, 48, 125]⟩] w fun e w' => e = .returned (.tuple #[.int .u64 0, .int .i64 20]) ∧ Below w.heap.size w w') := Lib.hid fun w hE => by
    have := read_any [123, 50, 44, 48, 125] (by decide) w hE
    rw [readS_bad] at this; exact this
  have hn1 : ∀ (f : Fn) (a b : Array Value) (w : World), (binOp .eql 47 (.func f a b) Value.nilFunc).run Tryd.prog w = .ok (.bool false) w := fun _ _ _ _ => rfl
  have hn2 : ∀ (f : Fn) (a b : Array Value) (w : World), (binOp .eql 67 (.func f a b) Value.nilFunc).run Tryd.prog w = .ok (.bool false) w := fun _ _ _ _ => rfl
  have hmx : Tryd.prog.follows .mixedOrders = true := by kernel_rfl
  refine (callsIn_wide (n := 3)).1 ?_
  refine callsIn_of_wp_marks Tryd.func10 rfl trivial ?_ rfl
  simp only [Tryd.ntmps10, List.size_toArray, List.length_nil, Array.replicate_succ, Array.replicate_zero, List.push_toArray, List.append_toArray, List.nil_append, List.cons_append]
  gi_wp2
  refine ⟨trivial, ?_⟩
  refine (callsIn_wide.2 (HG.out w hE)).mono ?_
  rintro e w1 ⟨rfl, hb1⟩
  have hE1 := hE.below hb1 hE.size
  gi_wp2
  refine ⟨trivial, ?_⟩
  refine (callsIn_wide.2 (HX.out w1 hE1)).mono ?_
  rintro e w2 ⟨rfl, hb2⟩
  have hb02 := hb1.trans (hb2.mono hb1.size)
  have hE2 := hE.below hb02 hE.size
  gi_wp2
  refine ⟨trivial, ?_⟩
  refine (subsets_in Fence.wide 2 (fun _ => trivial) rfl 5 w2).mono ?_
  rintro e w3 ⟨rfl, rfl⟩
  have hcv := Lib.run_convert_bytes_const (P := Tryd.prog) (w2.alloc (.cells #[.int .u64 5] 22)) 69 5 #[.int .u8 97, .int .u8 98, .int .u8 99] 3 3 Tryd.underlying69 Tryd.underlying5
  rw [World.size_alloc] at hcv
  gi_wp2
  have hb23 : Below w2.heap.size w2 ((w2.alloc (.cells #[.int .u64 5] 22)).alloc (.cells #[.int .u8 97, .int .u8 98, .int .u8 99] 5 (3, 4))) := ((Below.refl _ w2).alloc (Nat.le_refl _) _).alloc (by simp) _
  have hE3 : Env ((w2.alloc (.cells #[.int .u64 5] 22)).alloc (.cells #[.int .u8 97, .int .u8 98, .int .u8 99] 5 (3, 4))) := hE2.below hb23 hE2.size
  refine ⟨trivial, ?_⟩
  refine (callsIn_wide.2 (pairsB_any 5 _ [97, 98, 99] _ (by omega) (by decide) ?sl)).mono ?_
  case sl =>
    refine .inr ⟨w2.heap.size + 1, 0, 3, rfl, by simp, by decide, fun j x hj => ?_⟩
    have hz : (w2.alloc (.cells #[.int .u64 5] 22)).heap.size = w2.heap.size + 1 := World.size_alloc _ _
    rw [← hz, cell_marked, Nat.zero_add]
    match j, hj with
    | 0, hj => cases hj; rfl
    | 1, hj => cases hj; rfl
    | 2, hj => cases hj; rfl
  rintro e w4 ⟨Bk, v, rfl, q1, q2, q3, q4, q5, hb4⟩
  gi_wp2
  refine ⟨trivial, ?_⟩
  refine (callsIn_wide.2 (collectU 54 _ (enters_of Tryd.func54 (by kernel_rfl) rfl) (subsN 5) (subs 5) (by decide +kernel) w4 (subsets_stops Fence.wide 2 (fun _ => trivial) rfl (by omega) w2.heap.size w4.heap.size 5 (by omega) ?lt w4 ?lt2 ?cell))).mono ?_
  case lt => simp at q1; omega
  case lt2 => simp at q1; omega
  case cell => exact (hb4.cell (p := ⟨w2.heap.size, 0, none⟩) (by simp; omega)).trans ((Boxed.new w2 22 (.int .u64 5)).alloc (.cells #[.int .u8 97, .int .u8 98, .int .u8 99] 5 (3, 4))).cell
  rintro e w5 ⟨vs, rfl, r1, r2, hb5⟩
  have hB24 : Below w2.heap.size w2 w4 := hb23.trans (hb4.mono hb23.size)
  have hB25 := hB24.trans (hb5.mono hB24.size)
  have HB5 := Lib.hid (hb02.trans (hB25.mono hb02.size))
  clear hB24 hB25 hb23
  gi_wp2
  rename_i Q' K hKQ
  have hpl : pl 5 [97, 98, 99] = [(0, 97), (2, 99)] := by decide +kernel
  have hz5 : w5.heap.size ≥ w4.heap.size := hb5.size
  have bN := Boxed.new w5 3 (.int .i64 0)
  have hB0 : Below w5.heap.size w5 (w5.alloc (.cells #[.int .i64 0] 3)) := (Below.refl _ w5).alloc (Nat.le_refl _) _
  have z3 : ((w2.alloc (.cells #[.int .u64 5] 22)).alloc (.cells #[.int .u8 97, .int .u8 98, .int .u8 99] 5 (3, 4))).heap.size = w2.heap.size + 1 + 1 := by simp
  rw [z3] at q1 q3
  have hB45 : Below w4.heap.size w4 (w5.alloc (.cells #[.int .i64 0] 3)) := hb5.trans (hB0.mono hb5.size)
  have HN8 : Hid (8 ≤ w5.heap.size) := Lib.hid (Nat.le_trans hE.size HB5.out.size)
  have HBS : Hid (w2.heap.size + 1 + 1 < w5.heap.size) := Lib.hid (by omega)
  have HBK : Hid (Bk < w5.heap.size) := Lib.hid (by omega)
  have HQ3 : Hid ((w5.alloc (.cells #[.int .i64 0] 3)).cell? ⟨w2.heap.size + 1 + 1, 0, none⟩ = some (.int .u64 (5 : Nat))) := Lib.hid ((hB45.cell (p := ⟨w2.heap.size + 1 + 1, 0, none⟩) (by show w2.heap.size + 1 + 1 < w4.heap.size; omega)).trans q3)
  have HQ4 := Lib.hid ((hB45.cell (p := ⟨Bk, 0, none⟩) q2).trans q4)
  have HQ5 : Hid (Sl (Value.int .u8) w5.heap.size (w5.alloc (.cells #[.int .i64 0] 3)) v [97, 98, 99]) := Lib.hid (by
    have h := (q5.below hB45).mono hb5.size
    rw [show List.take (Lib.bitLen 5) [97, 98, 99] = ([97, 98, 99] : List Int) from by decide +kernel] at h
    exact h)
  have HE5 : Hid (Env (w5.alloc (.cells #[.int .i64 0] 3))) := Lib.hid (hE.below (HB5.out.trans (hB0.mono HB5.out.size)) hE.size)
  clear hB45
  refine rangeO rfl (by omega) (gf := 65) (lb := #[.pointer (some ⟨w2.heap.size + 1 + 1, 0, none⟩), .pointer (some ⟨Bk, 0, none⟩)]) rfl trivial (enters_of Tryd.func65 (by kernel_rfl) rfl)
    (pairs1B (w2.heap.size + 1 + 1) Bk w5.heap.size 5 v [97, 98, 99] (by omega) HN8.out (w5.alloc (.cells #[.int .i64 0] 3)) (by simp) HBS.out HBK.out (by decide) HQ3.out HQ4.out HQ5.out HE5.out) (fun _ h => by cases h) (by simp) (Below.refl _ _) (fun _ => rfl)
    (fun pre W => Boxed W w5.heap.size 3 (.int .i64 (pre.foldl (fun (t : Int) (p : Nat × Int) => t + ((p.1 : Int) + p.2)) 0)) ∧ Below w5.heap.size w5 W)
    (fun _ _ _ => False)
    (OwnFrom.and (Own.from (boxed_own _ _ (fun pre : List (Nat × Int) => Value.int .i64 (pre.foldl (fun (t : Int) (p : Nat × Int) => t + ((p.1 : Int) + p.2)) 0))) _) (ownFrom_below (Nat.le_refl _) (by simp)))
    (fun _ _ _ _ _ hs _ _ => hs)
    (AbidesCells.nil _) (fun _ => AbidesCells.nil _) ⟨bN, hB0⟩
    (fun x => { tmps := #[Value.bool false, Value.int IntKind.u64 5, Value.int IntKind.i64 0, Value.int IntKind.u64 0, Value.int IntKind.i64 20, Value.func (.func 54) #[] #[.pointer (some ⟨w2.heap.size, 0, none⟩)], Value.func (.func 65) #[] #[.pointer (some ⟨w2.heap.size + 1 + 1, 0, none⟩), .pointer (some ⟨Bk, 0, none⟩)], vs, .pointer (some ⟨w5.heap.size, 0, none⟩), encI x.fst, Value.int IntKind.u8 x.snd, Value.tuple #[Value.int IntKind.u64 5, Value.int IntKind.i64 0], Value.tuple #[Value.int IntKind.u64 5, Value.int IntKind.i64 0], Value.int IntKind.u64 5, Value.int IntKind.i64 0, Value.tuple #[Value.int IntKind.u64 0, Value.int IntKind.i64 20], Value.tuple #[Value.int IntKind.u64 0, Value.int IntKind.i64 20], Value.int IntKind.u64 0, Value.int IntKind.i64 20, Value.func (.func 54) #[] #[.pointer (some ⟨w2.heap.size, 0, none⟩)], Value.slice (some ⟨w2.heap.size + 1, 0, none⟩) 3 3, Value.slice (some ⟨w2.heap.size + 1, 0, none⟩) 3 3, Value.func (.func 65) #[] #[.pointer (some ⟨w2.heap.size + 1 + 1, 0, none⟩), .pointer (some ⟨Bk, 0, none⟩)], Value.func (.func 54) #[] #[.pointer (some ⟨w2.heap.size, 0, none⟩)], Value.bool false, Value.bool false, Value.func (.func 65) #[] #[.pointer (some ⟨w2.heap.size + 1 + 1, 0, none⟩), .pointer (some ⟨Bk, 0, none⟩)], Value.bool false, Value.bool false, Value.func (.func 54) #[] #[.pointer (some ⟨w2.heap.size, 0, none⟩)], vs, Value.func (.func 65) #[] #[.pointer (some ⟨w2.heap.size + 1 + 1, 0, none⟩), .pointer (some ⟨Bk, 0, none⟩)], encI x.fst, Value.int IntKind.u8 x.snd, undef, undef, undef, undef, undef, undef, undef, undef, undef, undef, undef, undef, undef, undef, undef, undef, undef, undef, undef, undef, undef, undef, undef, undef, undef, undef, undef, undef, undef, undef, undef, undef, undef, undef, undef, undef, undef, undef, undef, undef, undef, undef, undef, undef, undef, undef, undef, undef, undef, undef, undef, undef, undef, undef, undef, undef, undef, undef, undef, undef, undef, undef, undef, undef, undef, undef, undef, undef, undef, undef], defers := [] }) ?assign ?body ?done ?stop
  case assign =>
    intro l x W K hK
    gi_wp2
    exact hK
  case body =>
    rintro l pre x W ⟨hb, hB⟩ hp hz
    rw [hpl] at hp
    have hc := hb.cell
    have hf := hb.frozen
    have hcase : (pre = [] ∧ x = (0, 97)) ∨ (pre = [(0, 97)] ∧ x = (2, 99)) := by
      match pre, hp with
      | [], hp => simp [List.cons_prefix_cons] at hp; exact .inl ⟨rfl, hp⟩
      | [a], hp => simp [List.cons_prefix_cons] at hp; exact .inr ⟨by rw [hp.1], hp.2⟩
      | a :: b :: r, hp => have := hp.length_le; simp at this
    rcases hcase with ⟨rfl, rfl⟩ | ⟨rfl, rfl⟩
    all_goals dsimp only [encI, List.foldl] at hc ⊢
    all_goals gi_wp2
    all_goals exact ⟨keeps_set (KeepsFrom.of_below _ (Below.refl _ _)) hb _, ⟨(Below.refl w5.heap.size W).setCell (p := ⟨w5.heap.size, 0, none⟩) (Nat.le_refl _) _, fun k h1 h2 => Below.heap_setCell _ _ _ _ (by simp at h1; show k ≠ w5.heap.size; omega), fun k h => by cases h⟩, hb.set _, hB.setCell (p := ⟨w5.heap.size, 0, none⟩) (Nat.le_refl _) _⟩
  case done =>
    rintro D ys W hD rfl ⟨hb, hB⟩ hK
    rw [hpl] at hb
    obtain ⟨g, cap, rfl, hg5, hc5⟩ : ∃ g cap, vs = .slice (some ⟨g, 0, none⟩) 4 cap ∧ g < w5.heap.size ∧ w5.cell? ⟨g, 2, none⟩ = some (.int .u64 4) := by
      have e4 : (subs 5).length = 4 := by decide +kernel
      have e2 : (subs 5)[2]? = some 4 := by decide +kernel
      have h3 := Sl.of_owns r1
      rcases r1.2 with ⟨_, e⟩ | ⟨g, cap, cur, e, _⟩
      · rw [e4] at e; omega
      · rw [e] at h3
        obtain ⟨_, hb, hc⟩ := h3.cell
        rw [e4] at e
        have := hc 2 4 e2
        rw [Nat.zero_add] at this
        exact ⟨g, cap, e, hb, this⟩
    have hB5 : Below w.heap.size w w5 := HB5.out
    have hBW : Below w.heap.size w W := hB5.trans (hB.mono hB5.size)
    have hEW := hE.below hBW hE.size
    have hcs := hb.cell
    have hDl := (Array.getElem?_eq_some_iff.1 hK).1
    have hKH := Lib.hid hK
    have hcsH := Lib.hid hcs
    have hbl := hb.lt
    have hsum : List.foldl (fun (t : Int) (p : Nat × Int) => t + ((p.1 : Int) + p.2)) 0 [(0, 97), (2, 99)] = 198 := by decide +kernel
    rw [hsum] at hcsH
    clear hK hcs hb hpl hsum r1 r2 bN hB0 q1 q2 q3 q4 q5 hb4 hcv hE3 hE2 hE1 hb1 hb2 hb02 HG HX HN8 HBS HBK HQ3 HQ4 HQ5 HE5 z3
    refine hKQ _ _ ?_
    gi_wp2
    refine ⟨trivial, ?_⟩
    refine (callsIn_wide.2 (a_of W)).mono ?_
    rintro e w' ⟨rfl, rfl⟩
    have hB6 : Below W.heap.size W (W.alloc (.cells #[.int .i64 0, .int .i64 2, .int .i64 64, .int .i64 (-1)] 3)) := (Below.refl _ _).alloc (Nat.le_refl _) _
    have hE6 := hEW.below hB6 hEW.size
    gi_wp2
    refine ⟨trivial, ?_⟩
    refine (callsIn_wide.2 (a_text _ hE6)).mono ?_
    rintro e w6 ⟨rfl, hb6⟩
    have hB7 := hB6.trans (hb6.mono hB6.size)
    have hc6 : w6.cell? ⟨g, 2, none⟩ = some (.int .u64 4) := ((hB.trans (hB7.mono hB.size)).cell (p := ⟨g, 2, none⟩) hg5).trans hc5
    clear hb6 hB6 hE6
    gi_wp2
    refine ⟨trivial, ?_⟩
    refine (callsIn_wide.2 (a_has2 _)).mono ?_
    rintro e w' ⟨rfl, rfl⟩
    gi_wp2
    refine ⟨trivial, ?_⟩
    refine (callsIn_wide.2 (a_has1 _)).mono ?_
    rintro e w' ⟨rfl, rfl⟩
    gi_wp2
    refine ⟨trivial, ?_⟩
    refine (callsIn_wide.2 (a_count _)).mono ?_
    rintro e w' ⟨rfl, rfl⟩
    gi_wp2
    refine ⟨trivial, ?_⟩
    refine (callsIn_wide.2 (a_full _)).mono ?_
    rintro e w' ⟨rfl, rfl⟩
    gi_wp2
    refine ⟨trivial, ?_⟩
    refine (callsIn_wide.2 (a_within _)).mono ?_
    rintro e w' ⟨rfl, rfl⟩
    gi_wp2
    refine ⟨trivial, ?_⟩
    refine (callsIn_wide.2 (a_apart _)).mono ?_
    rintro e w' ⟨rfl, rfl⟩
    gi_wp2
    refine ⟨trivial, ?_⟩
    refine (callsIn_wide.2 (a_cmp _)).mono ?_
    rintro e w7 ⟨rfl, hb7⟩
    have hB8 := hB7.trans (hb7.mono hB7.size)
    have hc7 : w7.cell? ⟨w5.heap.size, 0, none⟩ = some (.int .i64 198) := (hB8.cell (p := ⟨w5.heap.size, 0, none⟩) hbl).trans hcsH.out
    have hE7 := hEW.below hB8 hEW.size
    clear hb7 hB7 hc6 hc5
    gi_wp2
    refine ⟨trivial, ?_⟩
    refine (callsIn_wide.2 (a_list _ hE7)).mono ?_
    rintro e w8 ⟨⟨a8, c8, rfl⟩, hb8⟩
    have hB9 := hB8.trans (hb8.mono hB8.size)
    clear hb8 hB8 hc7 hE7
    gi_wp2
    have hKD : w8.heap[D]? = some (.deferred (some [])) := (hB9.block D hDl).trans hKH.out
    refine ⟨by simp, .inl ⟨_, _, rfl, run_takeDeferred hKD, ?_⟩⟩
    have hbD := (hBW.trans (hB9.mono hBW.size)).trans (belowK_b (w := w) (Nat.le_refl _) _ D _ (.deferred none) (by have := hB5.size; simp at hD; omega) hKD rfl rfl)
    exact ⟨_, results_tmp rfl _ _ _, rfl, hbD⟩
  case stop =>
    rintro D c pre W _ _ h _
    exact h.elim

end Go.Proofs.YtndbpmhdpjlncaaDoor
