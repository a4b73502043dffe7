/- slices.Insert of one entry into a row that is owned. -/
import Derived.Test.YtpcbdjdmhemjdaaPriG
namespace Go.Proofs.Ytpcbdjdmhemjdaa
open Go.RowKit
set_option linter.unusedVariables false
attribute [local go_sem] Oper.semAt_some

abbrev EntV (e : Ent) : List Value := [.int .u64 (e.1 : Nat), .int .i64 e.2]
/-- What Insert says: one entry more, at its place. -/
def InsTo (base n : Nat) (rv : Value) (L : List Ent) (e : Ent) (p : Nat) (w : World) (o : Ending) (w' : World) : Prop :=
  ∃ v', o = .returned v' ∧ w'.ownsRow base 41 2 v' (n + 1) (flatVE (L.take p ++ e :: L.drop p)) ∧ w.grownBy w' rv.ownBlock
set_option maxRecDepth 100000 in
set_option maxHeartbeats 8000000 in
theorem ins_end (base n Bv : Nat) (rv : Value) (e : Ent) (L : List Ent) (w : World) (hL : L.length = n) (hlen : n ≤ 1048576) (hbase : base ≤ w.heap.size) (hBv : w.heap[Bv]? = some (.cells #[.int .u64 (e.1 : Nat), .int .i64 e.2] 41))
    (hrow : w.ownsRow base 41 2 rv n (flatVE L)) :
    Calls Try.prog 47 #[rv, .int .i64 n, .slice (some ⟨Bv, 0, none⟩) 1 1] w fun o w' => InsTo base n rv L e n w o w' := by
  obtain ⟨i0, hi0, hz0, hz1, hz2⟩ := info_parts infoTE
  have HR := Lib.hid hrow
  have HL := Lib.hid hL
  obtain ⟨k, u⟩ := e
  simp only at hBv
  have HN : Hid (∀ j v, [Value.int .u64 (k : Nat), .int .i64 u][j]? = some v → w.cell? ((⟨Bv, 0, none⟩ : Addr).add j) = some v) := Lib.hid (World.news_of_block hBv)
  have hfin : ∀ v' w', w'.ownsRow base 41 2 v' (n + 1) (flatVE L ++ [.int .u64 (k : Nat), .int .i64 u]) → w.grownBy w' rv.ownBlock → InsTo base n rv L (k, u) n w (.returned v') w' := fun v' w' h1 h2 => ⟨v', rfl, by rw [List.take_of_length_le (by omega), List.drop_eq_nil_of_le (by omega), flatVE_app]; exact h1, h2⟩
  have HF := Lib.hid hfin
  rcases hrow.2 with ⟨rfl, rfl⟩ | ⟨g, cap, cur, rfl, hg, hgb, hn, hm, hs, ht⟩
  · clear hrow hL hBv hfin
    go_enter Try.func47, Try.ntmps47
    go_wp2_with (at_builtin; refine wpList_append_own _ rfl _ _ 22 rfl base 41 i0 (.agg #[.int .u64 0, .int .i64 0]) 2 16 Try.underlying22 hi0 hz0 hz1 hz2 rfl (by decide) _ 0 (flatVE L) rfl HR.out ⟨Bv, 0, none⟩ 1 1 [.int .u64 (k : Nat), .int .i64 u] rfl rfl HN.out (by simp [Value.oneCell']) (by decide) (by decide) hbase ?_; intro v' w1 hown hgrow hnil; have HO := Lib.hid (HF.out v' w1 hown hgrow); clear hown hgrow hnil)
    go_ret
    exact HO.out
  · have h63 : n + 1 ≤ maxLen := by unfold maxLen; omega
    by_cases hcn : cap = n
    · subst hcn
      clear hrow hL hBv hfin hgb hs ht
      go_enter Try.func47, Try.ntmps47
      go_wp2_with (at_builtin; refine wpList_append_own _ rfl _ _ 22 rfl base 41 i0 (.agg #[.int .u64 0, .int .i64 0]) 2 16 Try.underlying22 hi0 hz0 hz1 hz2 rfl (by decide) _ cap (flatVE L) rfl HR.out ⟨Bv, 0, none⟩ 1 1 [.int .u64 (k : Nat), .int .i64 u] rfl rfl HN.out (by simp [Value.oneCell']) h63 (by omega) hbase ?_; intro v' w1 hown hgrow hnil; have HO := Lib.hid (HF.out v' w1 hown hgrow); clear hown hgrow hnil)
      go_ret
      exact HO.out
    · clear hrow hL hBv hfin hgb hs ht
      go_enter Try.func47, Try.ntmps47
      go_wp2_with (at_builtin; refine wpList_append_own _ rfl _ _ 22 rfl base 41 i0 (.agg #[.int .u64 0, .int .i64 0]) 2 16 Try.underlying22 hi0 hz0 hz1 hz2 rfl (by decide) _ n (flatVE L) rfl HR.out ⟨Bv, 0, none⟩ 1 1 [.int .u64 (k : Nat), .int .i64 u] rfl rfl HN.out (by simp [Value.oneCell']) h63 (by omega) hbase ?_; intro v' w1 hown hgrow hnil; have HO := Lib.hid (HF.out v' w1 hown hgrow); clear hown hgrow hnil)
      go_ret
      exact HO.out
theorem add_ent (b off k : Nat) : (⟨b, off, none⟩ : Addr).add k = ⟨b, off + k, none⟩ := by simp [Addr.add]
set_option maxRecDepth 100000 in
set_option maxHeartbeats 8000000 in
/-- In the middle, where there is room. -/
theorem ins_room (base n Bv p g cap : Nat) (e : Ent) (L : List Ent) (w : World) (hL : L.length = n) (hlen : n ≤ 1048576) (hp : p < n) (hroom : n + 1 ≤ cap) (hbase : base ≤ w.heap.size) (hBv : w.heap[Bv]? = some (.cells #[.int .u64 (e.1 : Nat), .int .i64 e.2] 41)) (hne : Bv ≠ g)
    (hrow : w.ownsRow base 41 2 (.slice (some ⟨g, 0, none⟩) n cap) n (flatVE L)) :
    Calls Try.prog 47 #[.slice (some ⟨g, 0, none⟩) n cap, .int .i64 p, .slice (some ⟨Bv, 0, none⟩) 1 1] w fun o w' => InsTo base n (.slice (some ⟨g, 0, none⟩) n cap) L e p w o w' := by
  obtain ⟨i0, hi0, hz0, hz1, hz2⟩ := info_parts infoTE
  obtain ⟨k, u⟩ := e
  simp only at hBv
  obtain ⟨cur, hgb, hbg, hncap, hcm, hcs, hct⟩ := own_cells hrow
  obtain ⟨ys, hys, hmore⟩ := own_more hrow hroom
  have hgs : g < w.heap.size := (Array.getElem?_eq_some_iff.1 hgb).1
  have hsz : ∀ w, (Go.sizeOf 41).run Try.prog w = .ok 2 w := fun w => by kernel_rfl
  have hov : ∀ lb cb, (callFunc 54 #[.slice (some ⟨Bv, 0, none⟩) 1 1, .slice (some ⟨g, (p + 1) * 2, none⟩) lb cb]).run Try.prog w = .ok (.value (.bool false)) w := fun lb cb => by
    rw [run_callFunc_extern (f := 54) rfl (by kernel_rfl) (by kernel_rfl) (by kernel_rfl) (e := Extern.SlicesOverlaps.overlaps #[22, 22] #[4]) (by kernel_rfl),
      Lib.run_overlaps_apart w 22 4 41 Try.underlying22 2 hsz ⟨Bv, 0, none⟩ ⟨g, (p + 1) * 2, none⟩ 1 1 lb cb hne 41 41 2 cur.size (by simp [World.shape?, hBv]) (by simp [World.shape?, hgb]) (by omega) (by simp [World.frozen?, hBv]) (by simp [World.frozen?, hBv])]
    rfl
  have hdl : (flatVE (L.drop p)).length = (n - p) * 2 := by rw [flatVE_len, List.length_drop, hL]
  -- the first copy
  obtain ⟨W1, hr1, hR1, hG1⟩ := run_copy_owned (P := Try.prog) w.drew 22 22 3 41 i0 2 base g (n + 1) cap ((p + 1) * 2) (n + 1 - (p + 1)) (cap - (p + 1)) ⟨g, p * 2, none⟩ (n + 1 - p) (cap - p) (flatVE L ++ ys) (flatVE (L.drop p)) Try.underlying22 hi0 hz1 hmore.drew
    (by rw [hdl]; simp only [Nat.min_def]; split <;> omega)
    (fun j v hj => by
      have hlt := (List.getElem?_eq_some_iff.1 hj).1
      rw [add_ent]
      exact (hrow.cellAt (p * 2 + j) (by omega)).trans (by rw [flatVE_drop, List.getElem?_drop] at hj; exact hj))
    (by rw [hdl]; omega) (flatVE_one _)
  -- the second one
  obtain ⟨W2, hr2, hR2, hG2⟩ := run_copy_owned (P := Try.prog) W1 22 22 3 41 i0 2 base g (n + 1) cap (p * 2) (n + 1 - p) (cap - p) ⟨Bv, 0, none⟩ 1 1 _ (EntV (k, u)) Try.underlying22 hi0 hz1 hR1
    (by simp only [Nat.min_def]; split <;> simp <;> omega)
    (fun j v hj => by
      have hk : W1.heap[Bv]? = w.heap[Bv]? := hG1.block Bv (by simpa using (Array.getElem?_eq_some_iff.1 hBv).1) (by simp; exact hne)
      exact World.news_of_block (hk.trans hBv) j v hj)
    (by simp; omega) (by simp [EntV, Value.oneCell'])
  have HFIN : Hid (InsTo base n (.slice (some ⟨g, 0, none⟩) n cap) L (k, u) p w (.returned (.slice (some ⟨g, 0, none⟩) (n + 1) cap)) W2) := Lib.hid ⟨_, rfl, by
    rw [← (over_up (e := (k, u)) (p := p) (L := L) (Z := flatVE L ++ ys) (by omega) (by rw [List.length_append, flatVE_len, hys, hL]; omega) (by rw [List.take_append_of_le_length (by rw [flatVE_len, hL]; omega), flatVE_take])).1]
    exact hR2, ⟨hG2.os.trans hG1.os, hG2.tape.trans hG1.tape, hG2.output.trans hG1.output, Nat.le_trans hG1.size hG2.size, fun j hj hn => (hG2.block j (Nat.lt_of_lt_of_le hj hG1.size) hn).trans (hG1.block j hj hn)⟩⟩
  have e1 : ¬ (cap = p + 1) := by omega
  have e2 : ¬ (cap = p) := by omega
  have e3 : ¬ ((p : Int) = (n : Int)) := by omega
  have e4 : ¬ ((cap : Int) < (n : Int) + 1) := by omega
  have e5 : (0 : Int) ≤ (n : Int) + 1 := by omega
  have e6 : ((n : Int) + 1).toNat = n + 1 := by omega
  have e7 : (0 : Int) ≤ (p : Int) + 1 := by omega
  have e8 : ((p : Int) + 1).toNat = p + 1 := by omega
  have e9 : (n : Int) + 1 ≤ (cap : Int) := by omega
  have e10 : (p : Int) + 1 ≤ (n : Int) + 1 := by omega
  have e11 : (p : Int) ≤ (n : Int) + 1 := by omega
  have e12 : (p : Int) ≤ (n : Int) := by omega
  have e13 : IntKind.i64.wrap ((p : Int) + 1) = (p : Int) + 1 := by rw [IntKind.wrap_i64]; omega
  clear hrow hL hBv hgb hcs hct hmore hR1 hR2 hG1 hG2 hdl hys
  go_enter Try.func47, Try.ntmps47
  go_wp2_with (simp only [hov])
  go_region_law (refine step_copy_run rfl (.tmp 73) (.tmp 76) 22 22 rfl _ _ (by simp [Act.eval, Act.put]) (by simp [Act.eval, Act.put]) hr1 ?_)
  go_wp2_with (at_builtin; refine wpList_copy_run _ rfl _ _ 22 22 rfl _ _ rfl rfl hr2 ?_)
  go_ret
  exact HFIN.out
theorem zeros_len (k : Nat) : (Builtin.zeroCells (Value.agg #[.int .u64 0, .int .i64 0]).cells k).toList.length = k * 2 := by
  rw [Array.length_toList, size_zeroCells]
  congr 1
set_option maxRecDepth 100000 in
set_option maxHeartbeats 8000000 in
/-- In the middle, where there is no room. -/
theorem ins_grow (base n Bv p g cap : Nat) (e : Ent) (L : List Ent) (w : World) (hL : L.length = n) (hlen : n ≤ 1048576) (hp : p < n) (hroom : ¬ n + 1 ≤ cap) (hbase : base ≤ w.heap.size) (hBv : w.heap[Bv]? = some (.cells #[.int .u64 (e.1 : Nat), .int .i64 e.2] 41))
    (hrow : w.ownsRow base 41 2 (.slice (some ⟨g, 0, none⟩) n cap) n (flatVE L)) :
    Calls Try.prog 47 #[.slice (some ⟨g, 0, none⟩) n cap, .int .i64 p, .slice (some ⟨Bv, 0, none⟩) 1 1] w fun o w' => InsTo base n (.slice (some ⟨g, 0, none⟩) n cap) L e p w o w' := by
  obtain ⟨i0, hi0, hz0, hz1, hz2⟩ := info_parts infoTE
  obtain ⟨k, u⟩ := e
  simp only at hBv
  obtain ⟨cur, hgb, hbg, hncap, hcm, hcs, hct⟩ := own_cells hrow
  have hgs : g < w.heap.size := (Array.getElem?_eq_some_iff.1 hgb).1
  have hBs : Bv < w.heap.size := (Array.getElem?_eq_some_iff.1 hBv).1
  have hdl : (flatVE (L.drop p)).length = (n - p) * 2 := by rw [flatVE_len, List.length_drop, hL]
  have htl : (flatVE (L.take p)).length = p * 2 := by rw [flatVE_len, List.length_take, hL]; omega
  have hrp := own_take hrow (Nat.le_of_lt hp)
  rw [← flatVE_take] at hrp
  have hold : (Builtin.firstCells i0.size p (.slice (some ⟨g, 0, none⟩) p cap)).run Try.prog w.drew = .ok (flatVE (L.take p)).toArray w.drew := by
    rw [hz1]
    exact run_firstCells_some w.drew 2 p ⟨g, 0, none⟩ p cap _ htl (fun j v hj => hrp.drew.cells (g := g) rfl j v hj)
  have hrz := Lib.run_append_grow_zeros (P := Try.prog) w 22 3 22 41 i0 _ .i64 .i64 Try.underlying22 Try.underlying3 hi0 hz0 (some ⟨g, 0, none⟩) p cap (flatVE (L.take p)) hold (n + 1 - p) (by omega) (by omega) (by omega) (by omega) (by rw [hz2]; omega) (by rw [hz2, show p + (n + 1 - p) = n + 1 from by omega]; exact growslice_fits (by omega) (by omega))
  rw [show p + (n + 1 - p) = n + 1 from by omega, show ((n + 1 - p : Nat) : Int) = (n : Int) + 1 - (p : Int) from by omega] at hrz
  obtain ⟨G, hG⟩ : ∃ G, grownCap w (n + 1) cap 41 = G := ⟨_, rfl⟩
  have hGn : n + 1 ≤ G := by rw [← hG]; exact grownCap_ge w _ _ _
  have hGm : G ≤ maxLen := by rw [← hG]; exact grownCap_le_maxLen w _ _ _ (by unfold maxLen; omega)
  rw [hG] at hrz
  obtain ⟨ZS, hZS⟩ : ∃ ZS, (Builtin.zeroCells (Value.agg #[.int .u64 0, .int .i64 0]).cells (n + 1 - p)).toList = ZS := ⟨_, rfl⟩
  have hZl : ZS.length = (n + 1 - p) * 2 := by rw [← hZS]; exact zeros_len _
  obtain ⟨ROW, hROW⟩ : ∃ ROW : Array Value, (flatVE (L.take p)).toArray ++ Builtin.zeroCells (Value.agg #[.int .u64 0, .int .i64 0]).cells (n + 1 - p) ++ Builtin.zeroCells (Value.agg #[.int .u64 0, .int .i64 0]).cells (G - (n + 1)) = ROW := ⟨_, rfl⟩
  rw [hROW] at hrz
  have hRs : ROW.size = G * 2 := by
    rw [← hROW, Array.size_append, Array.size_append, ← Array.length_toList (xs := Builtin.zeroCells _ (n + 1 - p)), ← Array.length_toList (xs := Builtin.zeroCells _ (G - (n + 1))), zeros_len, zeros_len]
    simp [htl]; omega
  have hRt : ROW.toList.take ((n + 1) * 2) = flatVE (L.take p) ++ ZS := by
    rw [← hROW, Array.toList_append, Array.toList_append, hZS, List.take_append_of_le_length (by simp [htl, hZl]; omega), List.take_of_length_le (by simp [htl, hZl]; omega)]
  obtain ⟨W1, hW1⟩ : ∃ W1, w.drew.alloc (.cells ROW 41) = W1 := ⟨_, rfl⟩
  have hR1 : W1.ownsRow base 41 2 (.slice (some ⟨w.heap.size, 0, none⟩) (n + 1) G) (n + 1) (flatVE (L.take p) ++ ZS) := by
    rw [← hW1]
    exact ⟨by rw [List.length_append, htl, hZl]; omega, .inr ⟨w.heap.size, G, ROW, rfl, hbase, heap_alloc_new w.drew _, hGn, hGm, hRs, hRt⟩⟩
  have hb1 : w.grownBy W1 none := by rw [← hW1]; exact ⟨rfl, rfl, rfl, by simp, fun j hj _ => heap_alloc_old' w.drew _ j hj⟩
  rw [hW1] at hrz
  -- the first copy
  obtain ⟨W2, hr2, hR2, hG2⟩ := run_copy_owned (P := Try.prog) W1 22 22 3 41 i0 2 base w.heap.size (n + 1) G (p * 2) (n + 1 - p) (G - p) ⟨Bv, 0, none⟩ 1 1 _ (EntV (k, u)) Try.underlying22 hi0 hz1 hR1
    (by simp only [Nat.min_def]; split <;> simp <;> omega)
    (fun j v hj => World.news_of_block ((hb1.block Bv hBs (by simp)).trans hBv) j v hj)
    (by simp; omega) (by simp [EntV, Value.oneCell'])
  -- the second one
  obtain ⟨W3, hr3, hR3, hG3⟩ := run_copy_owned (P := Try.prog) W2.drew 22 22 3 41 i0 2 base w.heap.size (n + 1) G ((p + 1) * 2) (n + 1 - (p + 1)) (G - (p + 1)) ⟨g, p * 2, none⟩ (n - p) (cap - p) _ (flatVE (L.drop p)) Try.underlying22 hi0 hz1 hR2.drew
    (by rw [hdl]; simp only [Nat.min_def]; split <;> omega)
    (fun j v hj => by
      have hlt := (List.getElem?_eq_some_iff.1 hj).1
      have h1 : W2.heap[g]? = w.heap[g]? := (hG2.block g (Nat.lt_of_lt_of_le hgs hb1.size) (by simp; omega)).trans (hb1.block g hgs (by simp))
      rw [add_ent]
      refine (World.cell?_of_block (w := w) (a := ⟨g, p * 2 + j, none⟩) h1).trans ?_
      exact (hrow.cellAt (p * 2 + j) (by omega)).trans (by rw [flatVE_drop, List.getElem?_drop] at hj; exact hj))
    (by rw [hdl]; omega) (flatVE_one _)
  have HFIN : Hid (InsTo base n (.slice (some ⟨g, 0, none⟩) n cap) L (k, u) p w (.returned (.slice (some ⟨w.heap.size, 0, none⟩) (n + 1) G)) W3) := Lib.hid ⟨_, rfl, by
    rw [← (over_up (e := (k, u)) (p := p) (L := L) (Z := flatVE (L.take p) ++ ZS) (by omega) (by rw [List.length_append, htl, hZl]; omega) (by rw [List.take_append_of_le_length (by omega), List.take_of_length_le (by omega)])).2]
    exact hR3, ⟨hG3.os.trans (hG2.os.trans hb1.os), hG3.tape.trans (hG2.tape.trans hb1.tape), hG3.output.trans (hG2.output.trans hb1.output), Nat.le_trans hb1.size (Nat.le_trans hG2.size hG3.size), fun j hj hn => (hG3.block j (Nat.lt_of_lt_of_le hj (Nat.le_trans hb1.size hG2.size)) (by simp; omega)).trans ((hG2.block j (Nat.lt_of_lt_of_le hj hb1.size) (by simp; omega)).trans (hb1.block j hj (by simp)))⟩⟩
  have e1 : ¬ (G = p + 1) := by omega
  have e2 : ¬ (cap = p) := by omega
  have e3 : ¬ ((p : Int) = (n : Int)) := by omega
  have e4 : ((cap : Int) < (n : Int) + 1) := by omega
  have e5 : ¬ (G = p) := by omega
  have e7 : (0 : Int) ≤ (p : Int) + 1 := by omega
  have e8 : ((p : Int) + 1).toNat = p + 1 := by omega
  have e10 : (p : Int) + 1 ≤ (n : Int) + 1 := by omega
  have e11 : (p : Int) ≤ (n : Int) + 1 := by omega
  have e12 : (p : Int) ≤ (n : Int) := by omega
  have e13 : IntKind.i64.wrap ((p : Int) + 1) = (p : Int) + 1 := by rw [IntKind.wrap_i64]; omega
  have e14 : (p : Int) ≤ (cap : Int) := by omega
  clear hrow hL hBv hgb hcs hct hR1 hR2 hR3 hG2 hG3 hb1 hdl htl hrp hold hZl hRs hRt hG hROW hZS hW1
  go_enter Try.func47, Try.ntmps47
  go_wp2_with (first
    | (at_builtin; refine wpList_append_runP _ rfl _ _ 22 3 rfl _ _ rfl rfl hrz ?_)
    | (at_builtin; refine wpList_copy_run _ rfl _ _ 22 22 rfl _ _ rfl rfl hr2 ?_))
  go_region_law (refine step_copy_run rfl (.tmp 50) (.tmp 53) 22 22 rfl _ _ (by simp [Act.eval, Act.put]) (by simp [Act.eval, Act.put]) hr3 ?_)
  go_wp2
  go_ret
  exact HFIN.out
end Go.Proofs.Ytpcbdjdmhemjdaa
