/- atom.Right; what comes of a list one by one: the right ones within a set. -/
import Derived.Test.YtfgppkmhjjnnnaaDoorAtoR
import Derived.Test.YtfgppkmhjjnnnaaDoorRangeG
namespace Go.Proofs.YtfgppkmhjjnnnaaDoor
open Go.RowKit
set_option linter.unusedVariables false
attribute [local go_sem] Oper.semAt_some

theorem cnt_zero {s : Nat} (hs : s < 18446744073709551616) : (0 : Int) < (cnt s : Int) ↔ s ≠ 0 := by
  constructor
  · rintro h rfl
    have : cnt 0 = 0 := by decide +kernel
    rw [this] at h
    omega
  · intro h
    obtain ⟨i, hi⟩ : ∃ i, s.testBit i = true := Nat.exists_testBit_of_ne_zero h
    have h64 : i < 64 := by
      rcases Nat.lt_or_ge i 64 with h2 | h2
      · exact h2
      · rw [testBit_big hs h2] at hi; cases hi
    have : i ∈ items s := List.mem_filter.2 ⟨List.mem_range.2 h64, hi⟩
    have := List.length_pos_of_mem this
    unfold cnt
    omega
set_option maxRecDepth 100000 in
set_option maxHeartbeats 1000000 in
theorem right_any (x : Ent) (w : World) (hs : okS x.1) : Calls Tryd.prog 13 #[.agg #[.int .u64 (x.1 : Nat), .int .i64 x.2]] w fun e w' => e = .returned (.bool (rightA 1099511627776 x)) ∧ w' = w.alloc (.cells #[.int .u64 (x.1 : Nat), .int .i64 x.2] 28) := by
  obtain ⟨s, v⟩ := x
  have HC := Lib.hid (fun W => count_any s W hs)
  have hcz := cnt_zero hs
  simp only at hcz ⊢
  have hnew := World.alloc_heap_new w (.cells #[.int .u64 (s : Nat), .int .i64 v] 28)
  obtain ⟨c, hc⟩ : ∃ c, cnt s = c := ⟨_, rfl⟩
  rw [hc] at HC hcz
  have hrr : rightA 1099511627776 (s, v) = (decide (0 < c) && (decide (1 ≤ v) && decide (v ≤ 1099511627776))) := by
    unfold rightA
    simp only
    by_cases h : s = 0
    · have : ¬ 0 < c := fun h2 => hcz.1 (by omega) h
      simp [h, this]
    · have h2 := hcz.2 h
      have h3 : 0 < c := by omega
      simp [h, h3]
  rw [hrr]
  clear hrr hcz hc hs
  go_enter Tryd.func13, Tryd.ntmps13
  go_upto_region 1 with fail
  obtain ⟨w1, hw1⟩ : ∃ w1, w.alloc (.cells #[.int .u64 (s : Nat), .int .i64 v] 28) = w1 := ⟨_, rfl⟩
  have HW1 := Lib.hid hw1
  rw [hw1] at hnew
  have c0 : w1.cell? ⟨w.heap.size, 0, none⟩ = some (.int .u64 s) := cell_of_row w1 _ 0 _ _ _ hnew
  have c1 : w1.cell? ⟨w.heap.size, 1, none⟩ = some (.int .i64 v) := cell_of_row w1 _ 1 _ _ _ hnew
  rw [HW1.out]
  clear hw1 hnew
  by_cases h1 : 0 < c
  · have d1 : decide (0 < c) = true := decide_eq_true h1
    by_cases h2 : 1 ≤ v
    · have d2 : decide (1 ≤ v) = true := decide_eq_true h2
      go_wp2_with (go_at_call 27; refine (HC.out _).mono ?_; rintro e w' ⟨rfl, rfl⟩)
      go_ret
      exact ⟨by simp [d1, d2], HW1.out.symm⟩
    · have d2 : decide (1 ≤ v) = false := decide_eq_false h2
      go_wp2_with (go_at_call 27; refine (HC.out _).mono ?_; rintro e w' ⟨rfl, rfl⟩)
      go_ret
      exact ⟨by simp [d1, d2], HW1.out.symm⟩
  · have d1 : decide (0 < c) = false := decide_eq_false h1
    go_wp2_with (go_at_call 27; refine (HC.out _).mono ?_; rintro e w' ⟨rfl, rfl⟩)
    go_ret
    exact ⟨by simp [d1], HW1.out.symm⟩

/-- What telling a list's right atoms within a set asks of its caller's invariant. -/
structure WinC {σ : Type} (B1 B2 N : Nat) (sv : Value) (zs : List Ent) (s : Nat) (rest : σ → List Ent) (J : σ → World → Prop) (Jm : σ → Ent → World → Prop) (Af : σ → σ → Prop) : Prop where
  row : ∀ st W, J st W → Boxed W B1 22 sv ∧ Boxed W B2 23 (.int .u64 (s : Nat)) ∧ EnsP N W sv zs
  alloc : ∀ st W o, J st W → J st (W.alloc o)
  yield : ∀ st W x r, J st W → rest st = x :: r → Jm st x W
  next : ∀ st st', Af st st' → rest st' = (rest st).tail
def inA (s : Nat) (x : Ent) : Bool := rightA 1099511627776 x && withinB x.1 s
theorem yieldAny {F : Fence} (hd : F.depth = none) {m : Nat} (m' l2 : Nat) {P : Program} {l : Nat} {args : Array Value} {W : World} {R : Ending → World → Prop} (h : YieldAt F m P l args W R) : YieldAt (F.inRound l2) m' P l args W R := by
  obtain ⟨fn, tmps, assign, body, hy, hF, hr⟩ := h
  exact ⟨fn, tmps, assign, body, hy, hF, fun c cs _ => hr c cs (fun d hd' => by rw [hd] at hd'; cases hd')⟩
theorem drop_consE {l : List Ent} {k : Nat} {x : Ent} (h : l[k]? = some x) : l.drop k = x :: l.drop (k + 1) := by
  obtain ⟨h1, h2⟩ := List.getElem?_eq_some_iff.1 h
  rw [List.drop_eq_getElem_cons h1, h2]
set_option maxRecDepth 100000 in
set_option maxHeartbeats 8000000 in
theorem within1 {σ : Type} {B1 B2 N : Nat} {a0 : Option Addr} {n0 c0 : Nat} {zs : List Ent} {s : Nat} (hs : okS s) (hok : ∀ x ∈ zs, okS x.1) (hlen : zs.length ≤ 1000000) {rest : σ → List Ent} {J : σ → World → Prop} {Jm : σ → Ent → World → Prop} {Jx : Code → World → Prop} {Af : σ → σ → Prop} {B : Nat} {s0 : σ}
    (hC : WinC B1 B2 N (.slice a0 n0 c0) zs s rest J Jm Af) (hr0 : rest s0 = zs.filter (inA s)) :
    SeqG Fence.wide 2 Tryd.prog 39 #[.pointer (some ⟨B1, 0, none⟩), .pointer (some ⟨B2, 0, none⟩)] (fun (x : Ent) => #[.agg #[.int .u64 (x.1 : Nat), .int .i64 x.2]]) B J Jm Jx Af (fun st _ => rest st = []) s0 := by
  intro l' Rd Dn W hRd hDn hRz hDz hR0 hJ0 hY
  obtain ⟨hb1, hb2, hrow⟩ := hC.row s0 W hJ0
  have hc1 := hb1.cell
  have hn := hrow.len
  have HC := Lib.hid hC
  have HRD := Lib.hid hRd
  have HRZ := Lib.hid hRz
  have HY := Lib.hid hY
  have HR0 := Lib.hid hR0
  have HJ0 := Lib.hid hJ0
  have HN := Lib.hid hn.symm
  have HOK := Lib.hid hok
  have HR := Lib.hid hr0
  have hn0 : n0 ≤ 1000000 := by omega
  clear hC hRd hDn hRz hDz hR0 hJ0 hY hb1 hb2 hrow hn hok hr0 hlen
  refine callsIn_of_wp Tryd.func39 rfl trivial ?_ rfl
  simp only [Tryd.ntmps39, List.size_toArray, List.length_cons, List.length_nil, Nat.reduceAdd, Nat.reduceSub, Array.replicate_succ, Array.replicate_zero, List.push_toArray, List.append_toArray, List.nil_append, List.cons_append]
  gi_wp2_with fail
  gi_loopw [8] (fun k wr => ∃ (m : Nat) (st : σ), k = .int .i64 m ∧ m ≤ n0 ∧ Rd wr ∧ J st wr ∧ rest st = (zs.drop m).filter (inA s)) (fun k _ => n0 - (intOf k).toNat)
  case atStart => exact ⟨0, s0, rfl, Nat.zero_le _, HR0.out, HJ0.out, HR.out⟩
  case round =>
    obtain ⟨m, st, rfl, hm, hRw, hJw, hrw⟩ := hrel
    by_cases hlt : m < n0
    · obtain ⟨⟨k, v⟩, hk⟩ : ∃ x, zs[m]? = some x := ⟨_, List.getElem?_eq_getElem (by rw [HN.out]; exact hlt)⟩
      obtain ⟨hB1, hB2, hrow⟩ := HC.out.row st wr hJw
      obtain ⟨b, off, rfl, hb, d0, d1⟩ := hrow.at_ hk
      have hkok := HOK.out _ (List.mem_of_getElem? hk)
      rw [drop_consE hk, List.filter_cons] at hrw
      simp only at d0 d1 hkok
      have hzw := HRZ.out wr hRw
      have g1 : (0 : Int) ≤ m := by omega
      have g2 : (m : Int) < n0 := by omega
      obtain ⟨W1, hW1⟩ : ∃ W1, wr.alloc (.cells #[.int .u64 (k : Nat), .int .i64 v] 28) = W1 := ⟨_, rfl⟩
      obtain ⟨W2, hW2⟩ : ∃ W2, W1.alloc (.cells #[.int .u64 (k : Nat), .int .i64 v] 28) = W2 := ⟨_, rfl⟩
      have hnew : W1.heap[wr.heap.size]? = some (.cells #[.int .u64 (k : Nat), .int .i64 v] 28) := by rw [← hW1]; exact World.alloc_heap_new wr _
      have hb01 : Below wr.heap.size wr W1 := by rw [← hW1]; exact (Below.refl _ _).alloc (Nat.le_refl _) _
      have hb12 : Below W1.heap.size W1 W2 := by rw [← hW2]; exact (Below.refl _ _).alloc (Nat.le_refl _) _
      have hz1 : W1.heap.size = wr.heap.size + 1 := by rw [← hW1]; simp
      have hnew2 : W2.heap[wr.heap.size]? = some (.cells #[.int .u64 (k : Nat), .int .i64 v] 28) := (hb12.block _ (by omega)).trans hnew
      have e0 : W1.cell? ⟨wr.heap.size, 0, none⟩ = some (.int .u64 (k : Nat)) := cell_of_row W1 _ 0 _ _ _ hnew
      have e1 : W1.cell? ⟨wr.heap.size, 1, none⟩ = some (.int .i64 v) := cell_of_row W1 _ 1 _ _ _ hnew
      have k0 : W2.cell? ⟨wr.heap.size, 0, none⟩ = some (.int .u64 (k : Nat)) := cell_of_row W2 _ 0 _ _ _ hnew2
      have k1 : W2.cell? ⟨wr.heap.size, 1, none⟩ = some (.int .i64 v) := cell_of_row W2 _ 1 _ _ _ hnew2
      have hJ2 : J st W2 := by rw [← hW2, ← hW1]; exact HC.out.alloc _ _ _ (HC.out.alloc _ _ _ hJw)
      have hR2 : Rd W2 := HRD.out wr W2 ⟨(hb12.block _ (by omega)).trans (hb01.block _ (by omega)), (hb12.block _ (by omega)).trans (hb01.block _ (by omega))⟩ hRw
      have k2 : W2.cell? ⟨B2, 0, none⟩ = some (.int .u64 (s : Nat)) := (HC.out.row st W2 hJ2).2.1.cell
      have HRG := Lib.hid (right_any (k, v) W1 hkok)
      have HWI := Lib.hid (within_any k s W2 hkok hs)
      have HW1 := Lib.hid hW1
      have HW2 := Lib.hid hW2
      have HJ2 := Lib.hid hJ2
      have HR2 := Lib.hid hR2
      clear hW1 hW2 hnew hnew2 hb01 hb12 hz1 hJ2 hR2 hB1 hB2 hrow hb hk hzw hRw hJw
      cases hra : rightA 1099511627776 (k, v) with
      | false =>
        have hin : inA s (k, v) = false := by unfold inA; rw [hra]; rfl
        rw [hin, if_neg (by decide)] at hrw
        rw [hra] at HRG
        have HRW := Lib.hid hrw
        clear hrw hra hin
        gi_wp2_with fail
        rw [HW1.out]
        refine ⟨trivial, ?_⟩
        refine (callsIn_wide.2 HRG.out).mono ?_
        rintro e W3 ⟨rfl, hx⟩
        rw [HW2.out] at hx
        obtain rfl := hx.symm
        gi_wp2_with fail
        refine ⟨trivial, ?_⟩
        gi_wp2_with fail
        refine ⟨fun f h => (by cases h), ?_⟩
        gi_wp2_with fail
        go_roundw
        case rel => exact ⟨m + 1, st, by go_num, by omega, HR2.out, HJ2.out, HRW.out⟩
        case measure => simp [intOf]; omega
      | true =>
        rw [hra] at HRG
        cases hwi : withinB k s with
        | false =>
          have hin : inA s (k, v) = false := by unfold inA; rw [hra]; simpa using hwi
          rw [hin, if_neg (by decide)] at hrw
          rw [hwi] at HWI
          have HRW := Lib.hid hrw
          clear hrw hra hin hwi
          gi_wp2_with fail
          rw [HW1.out]
          refine ⟨trivial, ?_⟩
          refine (callsIn_wide.2 HRG.out).mono ?_
          rintro e W3 ⟨rfl, hx⟩
          rw [HW2.out] at hx
          obtain rfl := hx.symm
          gi_wp2_with fail
          refine ⟨trivial, ?_⟩
          refine (callsIn_wide.2 HWI.out).mono ?_
          rintro e W3 ⟨rfl, hx⟩
          obtain rfl := hx
          gi_wp2_with fail
          refine ⟨fun f h => (by cases h), ?_⟩
          gi_wp2_with fail
          go_roundw
          case rel => exact ⟨m + 1, st, by go_num, by omega, HR2.out, HJ2.out, HRW.out⟩
          case measure => simp [intOf]; omega
        | true =>
          have hin : inA s (k, v) = true := by unfold inA; rw [hra]; simpa using hwi
          rw [hin, if_pos rfl] at hrw
          rw [hwi] at HWI
          have hya := HY.out st (k, v) W2 HR2.out (HC.out.yield st W2 _ _ HJ2.out hrw)
          obtain ⟨fn, tmps, assign, body, hy, hR⟩ := hya
          dsimp only at hy
          have HRR := Lib.hid hR
          have HRW := Lib.hid hrw
          clear hrw hra hin hwi hR
          gi_wp2_with fail
          rw [HW1.out]
          refine ⟨trivial, ?_⟩
          refine (callsIn_wide.2 HRG.out).mono ?_
          rintro e W3 ⟨rfl, hx⟩
          rw [HW2.out] at hx
          obtain rfl := hx.symm
          gi_wp2_with fail
          refine ⟨trivial, ?_⟩
          refine (callsIn_wide.2 HWI.out).mono ?_
          rintro e W3 ⟨rfl, hx⟩
          obtain rfl := hx
          gi_wp2_with fail
          refine HRR.out.mono ?_
          rintro e W4 (⟨rfl, hr4, st4, haf, hj4⟩ | ⟨rfl, c, hd4, hx4⟩)
          · have HR4 := Lib.hid hr4
            have HJ4 := Lib.hid hj4
            have HN4 : Hid (rest st4 = (zs.drop (m + 1)).filter (inA s)) := Lib.hid (by rw [HC.out.next _ _ haf, HRW.out]; rfl)
            clear hr4 haf hj4
            gi_wp2_with fail
            go_roundw
            case rel => exact ⟨m + 1, st4, by go_num, by omega, HR4.out, HJ4.out, HN4.out⟩
            case measure => simp [intOf]; omega
          · have HD4 := Lib.hid hd4
            have HX4 := Lib.hid hx4
            clear hd4 hx4
            gi_wp2_with fail
            (try simp only [Exit.inBlock, Exit.then])
            refine bodyPost_ret (results_none rfl _ _ _) rfl ?_
            exact ⟨⟨_, rfl⟩, .inr ⟨c, HD4.out, HX4.out⟩⟩
    · obtain rfl : m = n0 := by omega
      have hdr : zs.drop m = [] := List.drop_of_length_le (by rw [HN.out]; exact Nat.le_refl _)
      rw [hdr, List.filter_nil] at hrw
      have HRW := Lib.hid hrw
      have HRw := Lib.hid hRw
      have HJw := Lib.hid hJw
      clear hrw hRw hJw hdr
      gi_wp2_with fail
      refine bodyPost_end (results_none rfl _ _ _) rfl ?_
      exact ⟨⟨_, rfl⟩, .inl ⟨HRw.out, st, HRW.out, HJw.out⟩⟩
end Go.Proofs.YtfgppkmhjjnnnaaDoor
