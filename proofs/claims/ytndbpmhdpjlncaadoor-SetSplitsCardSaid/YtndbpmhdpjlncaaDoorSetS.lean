/- set.Subsets, one by one. -/
import Derived.Test.YtndbpmhdpjlncaaDoorSetH
import Derived.Test.YtndbpmhdpjlncaaDoorSetDep
namespace Go.Proofs.YtndbpmhdpjlncaaDoor
open Go.RowKit Go.Shelf

attribute [local go_sem] Oper.semAt_some

theorem sub_wrap {s k : Nat} (hs : s < 18446744073709551616) : bits .and .u64 (IntKind.u64.wrap (((sub s k : Nat) : Int) - (s : Int))) (s : Int) = ((sub s (k + 1) : Nat) : Int) := by
  have h1 := sub_lt (k := k) hs
  have e : IntKind.u64.wrap (((sub s k : Nat) : Int) - (s : Int)) = (((sub s k + (18446744073709551616 - s)) % 18446744073709551616 : Nat) : Int) := by
    rw [IntKind.wrap_u64]; omega
  rw [e, u64_and_nat _ _ (Nat.mod_lt _ (by decide)) hs, sub_next hs]
theorem subs_snoc (s k : Nat) : (List.range (k + 1)).map (sub s) = (List.range k).map (sub s) ++ [sub s k] := by simp [List.range_succ]
theorem range_prefix (s : Nat) {k m : Nat} (h : k ≤ m) : (List.range k).map (sub s) <+: (List.range m).map (sub s) := by
  obtain ⟨d, rfl⟩ : ∃ d, m = k + d := ⟨m - k, by omega⟩
  rw [List.range_add, List.map_append]
  exact List.prefix_append _ _

set_option maxRecDepth 100000 in
set_option maxHeartbeats 2000000 in
theorem subsets1_in (F : Fence) (n : Nat) (hF : ∀ k, F.fn k) (hro : F.round = none) (hn : 1 ≤ n) (l Bs n0 s : Nat) (hs : s < 18446744073709551616) (hBn : Bs < n0) (J Jx : List Nat → World → Prop)
    (W : World) (hY : ∀ (pre : List Nat) (x : Nat) W1, J pre W1 → pre ++ [x] <+: subs s → W.heap.size ≤ W1.heap.size → YieldAt F (n - 1) Tryd.prog l #[.int .u64 (x : Int)] W1 fun e W' =>
      (e = .returned (.bool true) ∧ J (pre ++ [x]) W' ∧ Below n0 W1 W') ∨ (e = .returned (.bool false) ∧ Jx (pre ++ [x]) W'))
    (hBs : W.cell? ⟨Bs, 0, none⟩ = some (.int .u64 s)) (h0 : J [] W) :
    CallsIn F n Tryd.prog 54 #[.func (.yield l) #[] #[], .pointer (some ⟨Bs, 0, none⟩)] W fun e W' => (∃ v, e = .returned v) ∧
      ((∃ ys, ys = subs s ∧ J ys W') ∨ (∃ pre, pre <+: subs s ∧ Jx pre W')) := by
  refine callsIn_of_wp Tryd.func54 rfl (hF _) ?_ hro
  simp only [Tryd.ntmps54, List.size_toArray, List.length_cons, List.length_nil, Nat.reduceAdd, Nat.reduceSub, Array.replicate_succ, Array.replicate_zero, List.push_toArray, List.append_toArray, List.nil_append, List.cons_append]
  gi_wp2
  gi_loopw [3] (fun x wr => ∃ k : Nat, k < subsN s ∧ x = .int .u64 ((sub s k : Nat) : Int) ∧ J ((List.range k).map (sub s)) wr ∧ Below n0 W wr)
    (fun x _ => 18446744073709551616 - (intOf x).toNat)
  case atStart => exact ⟨0, subsN_pos s, by rw [sub_zero]; rfl, h0, Below.refl _ _⟩
  case round =>
    obtain ⟨k, hk, rfl, hJs, hnx⟩ := hrel
    have hx := sub_lt (k := k) hs
    obtain ⟨fn, tmps, assign, body, hy, hR⟩ := hY _ (sub s k) wr hJs (by rw [← subs_snoc]; exact range_prefix s hk) hnx.size
    have HW := Lib.hid (sub_wrap (k := k) hs)
    have HSN := Lib.hid (subs_snoc s k)
    by_cases hl : sub s k = s
    · have hk1 := (sub_last hs hk).1 hl
      have hq : (((sub s k : Nat) : Int) != (s : Int)) = false := by rw [hl]; simp
      have HK1 := Lib.hid hk1
      clear hl hk1
      obtain ⟨x, hxx⟩ : ∃ x, sub s k = x := ⟨_, rfl⟩
      rw [hxx] at hy hq hR hx HSN ⊢
      clear hxx HW
      gi_wp2
      refine hR.mono ?_
      rintro e W3 (⟨rfl, hJ3, hk3⟩ | ⟨rfl, hJx3⟩)
      · have hc3 : W3.cell? ⟨Bs, 0, none⟩ = some (.int .u64 s) := ((hnx.trans hk3).cell (p := ⟨Bs, 0, none⟩) hBn).trans hBs
        gi_wp2
        go_end0
        exact ⟨⟨_, rfl⟩, .inl ⟨_, by unfold subs; rw [← HK1.out, HSN.out], hJ3⟩⟩
      · gi_wp2
        go_end0
        exact ⟨⟨_, rfl⟩, .inr ⟨_, by rw [← HSN.out]; exact range_prefix s hk, hJx3⟩⟩
    · have hk1 : k + 1 < subsN s := by have := (sub_last hs hk).2; omega
      have hq : (((sub s k : Nat) : Int) != (s : Int)) = true := by rw [bne_iff_ne]; omega
      have hmono : sub s k < sub s (k + 1) := sub_mono hs (Nat.lt_succ_self k) hk1
      have hx2 := sub_lt (k := k + 1) hs
      clear hl
      obtain ⟨x, hxx⟩ : ∃ x, sub s k = x := ⟨_, rfl⟩
      rw [hxx] at hy hq hR hx HSN HW hmono ⊢
      clear hxx
      gi_wp2
      refine hR.mono ?_
      rintro e W3 (⟨rfl, hJ3, hk3⟩ | ⟨rfl, hJx3⟩)
      · have hc3 : W3.cell? ⟨Bs, 0, none⟩ = some (.int .u64 s) := ((hnx.trans hk3).cell (p := ⟨Bs, 0, none⟩) hBn).trans hBs
        gi_wp2
        go_roundw
        case rel => exact ⟨k + 1, hk1, by rw [← HW.out], by rw [HSN.out]; exact hJ3, hnx.trans hk3⟩
        case measure => simp only [intOf]; rw [HW.out]; omega
      · gi_wp2
        go_end0
        exact ⟨⟨_, rfl⟩, .inr ⟨_, by rw [← HSN.out]; exact range_prefix s hk, hJx3⟩⟩

set_option maxHeartbeats 1000000 in
theorem subsets_in (F : Fence) (n : Nat) (hF : ∀ k, F.fn k) (hro : F.round = none) (s : Nat) (w : World) :
    CallsIn F n Tryd.prog 34 #[.int .u64 s] w fun e w' => e = .returned (.func (.func 54) #[] #[.pointer (some ⟨w.heap.size, 0, none⟩)]) ∧ w' = w.alloc (.cells #[.int .u64 s] 22) := by
  refine callsIn_of_wp Tryd.func34 rfl (hF _) ?_ hro
  simp only [Tryd.ntmps34, List.size_toArray, List.length_cons, List.length_nil, Nat.reduceAdd, Nat.reduceSub, Array.replicate_succ, Array.replicate_zero, List.push_toArray, List.append_toArray, List.nil_append, List.cons_append]
  gi_wp2
  go_ret
  exact ⟨rfl, rfl⟩

theorem subsets_stops (F : Fence) (n : Nat) (hF : ∀ k, F.fn k) (hro : F.round = none) (hn : 1 ≤ n) (Bs n0 s : Nat) (hs : s < 18446744073709551616) (hBn : Bs < n0) (w : World) (hBs : Bs < w.heap.size)
    (hc : w.cell? ⟨Bs, 0, none⟩ = some (.int .u64 s)) :
    SeqStopsK F n Tryd.prog 54 #[.pointer (some ⟨Bs, 0, none⟩)] (fun x : Nat => #[.int .u64 (x : Int)]) (Below n0) (fun ys => ys = subs s) (fun pre => pre <+: subs s) (subsN s) w := fun l J Jx W hW _ _ hY h0 =>
  subsets1_in F n hF hro hn l Bs n0 s hs hBn J Jx W (fun pre x W1 hj hp _ => hY pre x W1 hj (by have := hp.length_le; rw [List.length_append] at this; simp [subs] at this; exact this)) ((hW.cell (p := ⟨Bs, 0, none⟩) hBs).trans hc) h0

theorem subsets_seq (F : Fence) (n : Nat) (hF : ∀ k, F.fn k) (hro : F.round = none) (hn : 1 ≤ n) (Bs n0 s : Nat) (hs : s < 18446744073709551616) (hBn : Bs < n0) (w : World) (hBs : Bs < w.heap.size)
    (hc : w.cell? ⟨Bs, 0, none⟩ = some (.int .u64 s)) :
    SeqO F n Tryd.prog 54 #[.pointer (some ⟨Bs, 0, none⟩)] (fun x : Nat => #[.int .u64 (x : Int)]) n0 0 [] (fun ys => ys = subs s) (fun pre => pre <+: subs s) w := fun l J Jx W hW _ _ _ _ hY h0 =>
  subsets1_in F n hF hro hn l Bs n0 s hs hBn J Jx W (fun pre x W1 hj hp hz => (hY pre x W1 hj hp hz).mono fun _ _ h => h.2.imp (fun h => ⟨h.1, h.2.1, h.2.2.1⟩) id) ((hW.cell (p := ⟨Bs, 0, none⟩) hBs).trans hc) h0

end Go.Proofs.YtndbpmhdpjlncaaDoor
