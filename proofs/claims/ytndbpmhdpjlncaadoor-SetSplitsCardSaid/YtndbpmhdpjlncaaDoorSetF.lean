/- The package variables that the calls lean on; the least item; set.Items, one by one. -/
import Derived.Test.YtndbpmhdpjlncaaDoorSetE
import Derived.Test.YtndbpmhdpjlncaaDoorSetItems
import Derived.Test.YtndbpmhdpjlncaaDoorTz
import Derived.Test.YtndbpmhdpjlncaaDoorRangeO
import Derived.RangeFuncNested
import Derived.RangeFuncBound
import Derived.RangeFuncCalls
import Derived.RangeFuncLeaves
import Derived.Shelf.Abstract
import Derived.Shelf.RegionOpen
import Derived.OwnWalkIn
import Derived.TacticsInMore
import Derived.LoopNIn
import Derived.LoopIn
namespace Go.Proofs.YtndbpmhdpjlncaaDoor
open Go.RowKit Go.Shelf

attribute [local go_sem] Oper.semAt_some

/-- What the package variables hold. -/
structure Env (W : World) : Prop where
  tab : TabAt 0 Lib.deBruijn64tab W
  syn : ∃ te pe, W.cell? ⟨4, 0, none⟩ = some (.iface te pe)
  ran : ∃ te pe, W.cell? ⟨5, 0, none⟩ = some (.iface te pe)
  size : 8 ≤ W.heap.size
theorem Env.below {n : Nat} {W W' : World} (h : Env W) (hb : Below n W W') (hn : 8 ≤ n) : Env W' where
  tab := fun j hj => (hb.cell (p := ⟨0, j, none⟩) (show 0 < n by omega)).trans (h.tab j hj)
  syn := by obtain ⟨te, pe, e⟩ := h.syn; exact ⟨te, pe, (hb.cell (p := ⟨4, 0, none⟩) (show 4 < n by omega)).trans e⟩
  ran := by obtain ⟨te, pe, e⟩ := h.ran; exact ⟨te, pe, (hb.cell (p := ⟨5, 0, none⟩) (show 5 < n by omega)).trans e⟩
  size := Nat.le_trans h.size hb.size

theorem tz_any (s : Nat) (w : World) (hs : s < 18446744073709551616) (hE : Env w) :
    Calls Tryd.prog 60 #[.int .u64 s] w fun e w' => e = .returned (.int .i64 (Lib.ctz 64 s)) ∧ w = w' := by
  refine (Tryd.tz64 s hs w (fun _ => hE.tab)).mono ?_
  rintro e w' ⟨rfl, rfl⟩
  exact ⟨rfl, rfl⟩

theorem pred_and {s : Nat} (h0 : s ≠ 0) (hs : s < 18446744073709551616) : bits .and .u64 (s : Int) ((s : Int) - 1) = ((s &&& (s - 1) : Nat) : Int) := by
  rw [show (s : Int) - 1 = ((s - 1 : Nat) : Int) from by omega, u64_and_nat _ _ hs (by omega)]

set_option maxRecDepth 100000 in
set_option maxHeartbeats 2000000 in
/-- The walk of set.Items: for every loop body that keeps what lay below n0. -/
theorem items1_in (F : Fence) (n : Nat) (hF : ∀ k, F.fn k) (hw : ∀ {f : Nat} {args : Array Value} {w : World} {R : Ending → World → Prop}, Calls Tryd.prog f args w R → CallsIn F (n - 1) Tryd.prog f args w R) (hro : F.round = none) (hn : 1 ≤ n) (l Bs n0 s : Nat) (hs : s < 18446744073709551616) (hn8 : 8 ≤ n0) (J Jx : List Nat → World → Prop)
    (W : World) (hY : ∀ pre x W1, J pre W1 → pre ++ [x] <+: items s → W.heap.size ≤ W1.heap.size → YieldAt F (n - 1) Tryd.prog l #[encI x] W1 fun e W' =>
      (e = .returned (.bool true) ∧ J (pre ++ [x]) W' ∧ Below n0 W1 W') ∨ (e = .returned (.bool false) ∧ Jx (pre ++ [x]) W'))
    (hBs : W.cell? ⟨Bs, 0, none⟩ = some (.int .u64 s)) (hE : Env W) (h0 : J [] W) :
    CallsIn F n Tryd.prog 59 #[.func (.yield l) #[] #[], .pointer (some ⟨Bs, 0, none⟩)] W fun e W' => (∃ v, e = .returned v) ∧
      ((∃ ys, ys = items s ∧ J ys W') ∨ (∃ pre, pre <+: items s ∧ Jx pre W')) := by
  refine callsIn_of_wp Tryd.func59 rfl (hF _) ?_ hro
  simp only [Tryd.ntmps59, List.size_toArray, List.length_cons, List.length_nil, Nat.reduceAdd, Nat.reduceSub, Array.replicate_succ, Array.replicate_zero, List.push_toArray, List.append_toArray, List.nil_append, List.cons_append]
  gi_wp2
  gi_loopw [3] (fun x wr => ∃ (pre : List Nat) (r : Nat), x = .int .u64 r ∧ r < 18446744073709551616 ∧ items s = pre ++ items r ∧ J pre wr ∧ Below n0 W wr)
    (fun x _ => (intOf x).toNat)
  case atStart => exact ⟨[], s, rfl, hs, rfl, h0, Below.refl _ _⟩
  case round =>
    obtain ⟨pre, r, rfl, hr, hpre, hJs, hnx⟩ := hrel
    by_cases hz : r = 0
    · subst hz
      have HP := Lib.hid hpre; clear hpre
      gi_wp2
      go_end0
      exact ⟨⟨_, rfl⟩, .inl ⟨pre, by rw [HP.out, items_zero]; simp, hJs⟩⟩
    · have hst := items_step hz hr
      have hlen : pre ++ [Lib.ctz 64 r] <+: items s := ⟨items (r &&& (r - 1)), by rw [hpre, hst]; simp⟩
      have hne : ((r : Int) != 0) = true := by rw [bne_iff_ne]; omega
      have HPA := Lib.hid (pred_and hz hr)
      have HLT := Lib.hid (and_pred_lt hr)
      have hEr := hE.below hnx hn8
      have hsub : r &&& (r - 1) ≤ r - 1 := Nat.and_le_right
      have hr1 : (1 : Int) ≤ r := by omega
      obtain ⟨fn, tmps, assign, body, hy, hR⟩ := hY pre (Lib.ctz 64 r) wr hJs hlen hnx.size
      dsimp only [encI] at hy
      have HPR : Hid (items s = (pre ++ [Lib.ctz 64 r]) ++ items (r &&& (r - 1))) := Lib.hid (by rw [hpre, hst]; simp)
      have HTZ := Lib.hid (hw (tz_any r wr hr hEr))
      clear hpre hst hlen hz
      gi_wp2_with (gi_at_call 60; refine HTZ.out.mono ?_; rintro e w' ⟨rfl, rfl⟩)
      refine hR.mono ?_
      rintro e W3 (⟨rfl, hJ3, hk3⟩ | ⟨rfl, hJx3⟩)
      · gi_wp2
        go_roundw
        case rel => exact ⟨pre ++ [Lib.ctz 64 r], r &&& (r - 1), by rw [HPA.out], HLT.out, HPR.out, hJ3, hnx.trans hk3⟩
        case measure => simp only [intOf]; rw [HPA.out]; omega
      · gi_wp2
        refine bodyPost_ret (results_none rfl _ _ _) rfl ?_
        exact ⟨⟨_, rfl⟩, .inr ⟨_, ⟨items (r &&& (r - 1)), HPR.out.symm⟩, hJx3⟩⟩

set_option maxHeartbeats 1000000 in
theorem items_in (F : Fence) (n : Nat) (hF : ∀ k, F.fn k) (hro : F.round = none) (s : Nat) (w : World) :
    CallsIn F n Tryd.prog 38 #[.int .u64 s] w fun e w' => e = .returned (.func (.func 59) #[] #[.pointer (some ⟨w.heap.size, 0, none⟩)]) ∧ w' = w.alloc (.cells #[.int .u64 s] 22) := by
  refine callsIn_of_wp Tryd.func38 rfl (hF _) ?_ hro
  simp only [Tryd.ntmps38, List.size_toArray, List.length_cons, List.length_nil, Nat.reduceAdd, Nat.reduceSub, Array.replicate_succ, Array.replicate_zero, List.push_toArray, List.append_toArray, List.nil_append, List.cons_append]
  gi_wp2
  go_ret
  exact ⟨rfl, rfl⟩

theorem items_stops (F : Fence) (n : Nat) (hF : ∀ k, F.fn k) (hw : ∀ {f : Nat} {args : Array Value} {w : World} {R : Ending → World → Prop}, Calls Tryd.prog f args w R → CallsIn F (n - 1) Tryd.prog f args w R) (hro : F.round = none) (hn : 1 ≤ n) (Bs n0 s : Nat) (hs : s < 18446744073709551616) (hn8 : 8 ≤ n0) (w : World) (hBs : Bs < w.heap.size)
    (hc : w.cell? ⟨Bs, 0, none⟩ = some (.int .u64 s)) (hE : Env w) :
    SeqStopsK F n Tryd.prog 59 #[.pointer (some ⟨Bs, 0, none⟩)] (fun x : Nat => #[encI x]) (Below n0) (fun ys => ys = items s) (fun pre => pre <+: items s) (cnt s) w := fun l J Jx W hW _ _ hY h0 =>
  items1_in F n hF hw hro hn l Bs n0 s hs hn8 J Jx W (fun pre x W1 hj hp _ => hY pre x W1 hj (by have := hp.length_le; rw [List.length_append] at this; simp at this; exact this)) ((hW.cell (p := ⟨Bs, 0, none⟩) hBs).trans hc) (hE.below hW (by have := hE.size; omega)) h0

theorem items_seq (F : Fence) (n : Nat) (hF : ∀ k, F.fn k) (hw : ∀ {f : Nat} {args : Array Value} {w : World} {R : Ending → World → Prop}, Calls Tryd.prog f args w R → CallsIn F (n - 1) Tryd.prog f args w R) (hro : F.round = none) (hn : 1 ≤ n) (Bs n0 s : Nat) (hs : s < 18446744073709551616) (hn8 : 8 ≤ n0) (w : World) (hBs : Bs < w.heap.size)
    (hc : w.cell? ⟨Bs, 0, none⟩ = some (.int .u64 s)) (hE : Env w) :
    SeqO F n Tryd.prog 59 #[.pointer (some ⟨Bs, 0, none⟩)] (fun x : Nat => #[encI x]) n0 0 [] (fun ys => ys = items s) (fun pre => pre <+: items s) w := fun l J Jx W hW _ _ _ _ hY h0 =>
  items1_in F n hF hw hro hn l Bs n0 s hs hn8 J Jx W (fun pre x W1 hj hp hz => (hY pre x W1 hj hp hz).mono fun _ _ h => h.2.imp (fun h => ⟨h.1, h.2.1, h.2.2.1⟩) id) ((hW.cell (p := ⟨Bs, 0, none⟩) hBs).trans hc) (hE.below hW (by have := hE.size; omega)) h0

end Go.Proofs.YtndbpmhdpjlncaaDoor
