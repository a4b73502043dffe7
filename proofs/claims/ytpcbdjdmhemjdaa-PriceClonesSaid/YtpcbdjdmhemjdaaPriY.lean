/- A store's entries, one by one. -/
import Derived.Test.YtpcbdjdmhemjdaaPriV
import Derived.Test.YtpcbdjdmhemjdaaRangeG
namespace Go.Proofs.Ytpcbdjdmhemjdaa
open Go.RowKit
set_option linter.unusedVariables false
attribute [local go_sem] Oper.semAt_some

set_option maxHeartbeats 1000000 in
theorem entries_any {b : Nat} {sv : Value} {es : List Ent} (w : World) (h : PS w b sv es) :
    Calls Try.prog 22 #[.pointer (some ⟨b, 0, none⟩)] w fun o w' => o = .returned (.func (.func 36) #[] #[.pointer (some ⟨w.heap.size, 0, none⟩)]) ∧ w' = w.alloc (.cells #[sv] 22) := by
  obtain ⟨a, c, rfl⟩ := h.form
  have c0 := h.cell
  clear h
  go_enter Try.func22, Try.ntmps22
  go_wp2_with fail
  go_ret
  exact ⟨rfl, rfl⟩
/-- What telling entries asks of its caller's invariant. -/
structure EntC {σ : Type} (B1 N : Nat) (sv : Value) (zs : List Ent) (rest : σ → List Ent) (J : σ → World → Prop) (Jm : σ → Ent → World → Prop) (Af : σ → σ → Prop) : Prop where
  row : ∀ st W, J st W → Boxed W B1 22 sv ∧ EnsP N W sv zs
  alloc : ∀ st W o, J st W → J st (W.alloc o)
  yield : ∀ st W x r, J st W → rest st = x :: r → Jm st x W
  next : ∀ st st', Af st st' → rest st' = (rest st).tail
set_option maxRecDepth 100000 in
set_option maxHeartbeats 8000000 in
theorem entries1 {σ : Type} {B1 N : Nat} {a0 : Option Addr} {n0 c0 : Nat} {zs : List Ent} (hlen : zs.length ≤ 1048576) {rest : σ → List Ent} {J : σ → World → Prop} {Jm : σ → Ent → World → Prop} {Jx : Code → World → Prop} {Af : σ → σ → Prop} {B : Nat} {s0 : σ}
    (hC : EntC B1 N (.slice a0 n0 c0) zs rest J Jm Af) (hr0 : rest s0 = zs) :
    SeqG Fence.wide 2 Try.prog 36 #[.pointer (some ⟨B1, 0, none⟩)] (fun (x : Ent) => #[.int .u64 (x.1 : Nat), .int .i64 x.2]) B J Jm Jx Af (fun st _ => rest st = []) s0 := by
  intro l' Rd Dn W hRd hDn hRz hDz hR0 hJ0 hY
  obtain ⟨hb1, hrow⟩ := hC.row s0 W hJ0
  have hc1 := hb1.cell
  have hn := hrow.len
  have HC := Lib.hid hC
  have HRD := Lib.hid hRd
  have HRZ := Lib.hid hRz
  have HY := Lib.hid hY
  have HR0 := Lib.hid hR0
  have HJ0 := Lib.hid hJ0
  have HN := Lib.hid hn.symm
  have HR := Lib.hid hr0
  have hn0 : n0 ≤ 1048576 := by omega
  clear hC hRd hDn hRz hDz hR0 hJ0 hY hb1 hrow hn hr0 hlen
  refine callsIn_of_wp Try.func36 rfl trivial ?_ rfl
  simp only [Try.ntmps36, List.size_toArray, List.length_cons, List.length_nil, Nat.reduceAdd, Nat.reduceSub, Array.replicate_succ, Array.replicate_zero, List.push_toArray, List.append_toArray, List.nil_append, List.cons_append]
  gi_wp2_with fail
  gi_loopw [7] (fun k wr => ∃ (m : Nat) (st : σ), k = .int .i64 m ∧ m ≤ n0 ∧ Rd wr ∧ J st wr ∧ rest st = zs.drop m) (fun k _ => n0 - (intOf k).toNat)
  case atStart => exact ⟨0, s0, rfl, Nat.zero_le _, HR0.out, HJ0.out, HR.out⟩
  case round =>
    obtain ⟨m, st, rfl, hm, hRw, hJw, hrw⟩ := hrel
    by_cases hlt : m < n0
    · obtain ⟨⟨k, v⟩, hk⟩ : ∃ x, zs[m]? = some x := ⟨_, List.getElem?_eq_getElem (by rw [HN.out]; exact hlt)⟩
      obtain ⟨hB1, hrow⟩ := HC.out.row st wr hJw
      obtain ⟨b, off, rfl, hb, d0, d1⟩ := hrow.at_ hk
      obtain ⟨hk1, hk2⟩ := List.getElem?_eq_some_iff.1 hk
      rw [List.drop_eq_getElem_cons hk1, hk2] at hrw
      simp only at d0 d1
      have hzw := HRZ.out wr hRw
      have g1 : (0 : Int) ≤ m := by omega
      have g2 : (m : Int) < n0 := by omega
      obtain ⟨W1, hW1⟩ : ∃ W1, wr.alloc (.cells #[.int .u64 (k : Nat), .int .i64 v] 41) = W1 := ⟨_, rfl⟩
      have hnew : W1.heap[wr.heap.size]? = some (.cells #[.int .u64 (k : Nat), .int .i64 v] 41) := by rw [← hW1]; exact World.alloc_heap_new wr _
      have hb01 : Below wr.heap.size wr W1 := by rw [← hW1]; exact (Below.refl _ _).alloc (Nat.le_refl _) _
      have e0 : W1.cell? ⟨wr.heap.size, 0, none⟩ = some (.int .u64 (k : Nat)) := cell_of_row W1 _ 0 _ _ _ hnew
      have e1 : W1.cell? ⟨wr.heap.size, 1, none⟩ = some (.int .i64 v) := cell_of_row W1 _ 1 _ _ _ hnew
      have hJ2 : J st W1 := by rw [← hW1]; exact HC.out.alloc _ _ _ hJw
      have hR2 : Rd W1 := HRD.out wr W1 ⟨hb01.block _ (by omega), hb01.block _ (by omega)⟩ hRw
      have hya := HY.out st (k, v) W1 hR2 (HC.out.yield st W1 _ _ hJ2 hrw)
      obtain ⟨fn, tmps, assign, body, hy, hR⟩ := hya
      dsimp only at hy
      have HW1 := Lib.hid hW1
      have HRR := Lib.hid hR
      have HRW := Lib.hid hrw
      clear hW1 hnew hb01 hJ2 hR2 hB1 hrow hb hk hzw hRw hJw hR hk1 hk2 hrw
      gi_wp2_with fail
      rw [HW1.out, hy]
      gi_wp2_with fail
      refine HRR.out.mono ?_
      rintro e W4 (⟨rfl, hr4, st4, haf, hj4⟩ | ⟨rfl, c, hd4, hx4⟩)
      · have HR4 := Lib.hid hr4
        have HJ4 := Lib.hid hj4
        have HN4 : Hid (rest st4 = zs.drop (m + 1)) := Lib.hid (by rw [HC.out.next _ _ haf, HRW.out]; rfl)
        clear hr4 haf hj4
        gi_wp2_with fail
        go_roundw
        case rel => exact ⟨m + 1, st4, by go_num, by omega, HR4.out, HJ4.out, HN4.out⟩
        case measure => simp [intOf]; omega
      · have HD4 := Lib.hid hd4
        have HX4 := Lib.hid hx4
        clear hd4 hx4
        gi_wp2_with fail
        (try simp only [Exit.inBlock, Exit.then])
        refine bodyPost_ret (results_none rfl _ _ _) rfl ?_
        exact ⟨⟨_, rfl⟩, .inr ⟨c, HD4.out, HX4.out⟩⟩
    · obtain rfl : m = n0 := by omega
      have hdr : zs.drop m = [] := List.drop_of_length_le (by rw [HN.out]; exact Nat.le_refl _)
      rw [hdr] at hrw
      have HRW := Lib.hid hrw
      have HRw := Lib.hid hRw
      have HJw := Lib.hid hJw
      clear hrw hRw hJw hdr
      gi_wp2_with fail
      refine bodyPost_end (results_none rfl _ _ _) rfl ?_
      exact ⟨⟨_, rfl⟩, .inl ⟨HRw.out, st, HRW.out, HJw.out⟩⟩
end Go.Proofs.Ytpcbdjdmhemjdaa
