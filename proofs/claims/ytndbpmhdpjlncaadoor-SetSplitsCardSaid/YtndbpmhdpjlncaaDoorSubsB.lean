/- set.Subsets and its walk, for rounds that write older blocks; the document's Subsets. -/
import Derived.Test.YtndbpmhdpjlncaaDoorSubsM
import Derived.Test.YtndbpmhdpjlncaaDoorSetE
namespace Go.Proofs.YtndbpmhdpjlncaaDoor
open Go.RowKit Go.Shelf
set_option linter.unusedVariables false
attribute [local go_sem] Oper.semAt_some

/-- A block stays. -/
def StayB (Bs : Nat) (A B : World) : Prop := A.heap.size ≤ B.heap.size ∧ B.heap[Bs]? = A.heap[Bs]?
theorem StayB.refl (Bs : Nat) (A : World) : StayB Bs A A := ⟨Nat.le_refl _, rfl⟩
theorem StayB.trans {Bs : Nat} {A B C : World} (h : StayB Bs A B) (k : StayB Bs B C) : StayB Bs A C := ⟨Nat.le_trans h.1 k.1, k.2.trans h.2⟩
theorem StayB.cell {Bs : Nat} {A B : World} (h : StayB Bs A B) : B.cell? ⟨Bs, 0, none⟩ = A.cell? ⟨Bs, 0, none⟩ := World.cell?_of_block (a := ⟨Bs, 0, none⟩) h.2
set_option maxRecDepth 100000 in
set_option maxHeartbeats 2000000 in
/-- set.Subsets$1 goes on as said, for rounds that write older blocks: its own box alone must stay. -/
theorem subsets1_bs (F : Fence) (n : Nat) (hF : ∀ k, F.fn k) (hro : F.round = none) (hn : 1 ≤ n) (l Bs s : Nat) (hs : s < 18446744073709551616) (J Jx : List Nat → World → Prop)
    (W : World) (hY : ∀ (pre : List Nat) (x : Nat) W1, J pre W1 → pre ++ [x] <+: subs s → W.heap.size ≤ W1.heap.size → YieldAt F (n - 1) Tryd.prog l #[.int .u64 (x : Int)] W1 fun e W' =>
      (e = .returned (.bool true) ∧ J (pre ++ [x]) W' ∧ StayB Bs W1 W') ∨ (e = .returned (.bool false) ∧ Jx (pre ++ [x]) W'))
    (hBs : W.cell? ⟨Bs, 0, none⟩ = some (.int .u64 s)) (h0 : J [] W) :
    CallsIn F n Tryd.prog 54 #[.func (.yield l) #[] #[], .pointer (some ⟨Bs, 0, none⟩)] W fun e W' => (∃ v, e = .returned v) ∧
      ((∃ ys, ys = subs s ∧ J ys W') ∨ (∃ pre, pre <+: subs s ∧ Jx pre W')) := by
  refine callsIn_of_wp Tryd.func54 rfl (hF _) ?_ hro
  simp only [Tryd.ntmps54, List.size_toArray, List.length_cons, List.length_nil, Nat.reduceAdd, Nat.reduceSub, Array.replicate_succ, Array.replicate_zero, List.push_toArray, List.append_toArray, List.nil_append, List.cons_append]
  gi_wp2
  gi_loopw [3] (fun x wr => ∃ k : Nat, k < subsN s ∧ x = .int .u64 ((sub s k : Nat) : Int) ∧ J ((List.range k).map (sub s)) wr ∧ StayB Bs W wr)
    (fun x _ => 18446744073709551616 - (intOf x).toNat)
  case atStart => exact ⟨0, subsN_pos s, by rw [sub_zero]; rfl, h0, StayB.refl _ _⟩
  case round =>
    obtain ⟨k, hk, rfl, hJs, hnx⟩ := hrel
    have hx := sub_lt (k := k) hs
    obtain ⟨fn, tmps, assign, body, hy, hR⟩ := hY _ (sub s k) wr hJs (by rw [← subs_snoc]; exact range_prefix s hk) hnx.1
    have HW := Lib.hid (sub_wrap (k := k) hs)
    have HSN := Lib.hid (subs_snoc s k)
    by_cases hl : sub s k = s
    · have hk1 := (sub_last hs hk).1 hl
      have hq : (((sub s k : Nat) : Int) != (s : Int)) = false := by rw [hl]; simp
      have HK1 := Lib.hid hk1
      clear hl hk1
      obtain ⟨x, hxx⟩ : ∃ x, sub s k = x := ⟨_, rfl⟩
      rw [hxx] at hy hq hR hx HSN ⊢
      clear hxx HW
      gi_wp2
      refine hR.mono ?_
      rintro e W3 (⟨rfl, hJ3, hk3⟩ | ⟨rfl, hJx3⟩)
      · have hc3 : W3.cell? ⟨Bs, 0, none⟩ = some (.int .u64 s) := (hnx.trans hk3).cell.trans hBs
        gi_wp2
        go_end0
        exact ⟨⟨_, rfl⟩, .inl ⟨_, by unfold subs; rw [← HK1.out, HSN.out], hJ3⟩⟩
      · gi_wp2
        go_end0
        exact ⟨⟨_, rfl⟩, .inr ⟨_, by rw [← HSN.out]; exact range_prefix s hk, hJx3⟩⟩
    · have hk1 : k + 1 < subsN s := by have := (sub_last hs hk).2; omega
      have hq : (((sub s k : Nat) : Int) != (s : Int)) = true := by rw [bne_iff_ne]; omega
      have hmono : sub s k < sub s (k + 1) := sub_mono hs (Nat.lt_succ_self k) hk1
      have hx2 := sub_lt (k := k + 1) hs
      clear hl
      obtain ⟨x, hxx⟩ : ∃ x, sub s k = x := ⟨_, rfl⟩
      rw [hxx] at hy hq hR hx HSN HW hmono ⊢
      clear hxx
      gi_wp2
      refine hR.mono ?_
      rintro e W3 (⟨rfl, hJ3, hk3⟩ | ⟨rfl, hJx3⟩)
      · have hc3 : W3.cell? ⟨Bs, 0, none⟩ = some (.int .u64 s) := (hnx.trans hk3).cell.trans hBs
        gi_wp2
        go_roundw
        case rel => exact ⟨k + 1, hk1, by rw [← HW.out], by rw [HSN.out]; exact hJ3, hnx.trans hk3⟩
        case measure => simp only [intOf]; rw [HW.out]; omega
      · gi_wp2
        go_end0
        exact ⟨⟨_, rfl⟩, .inr ⟨_, by rw [← HSN.out]; exact range_prefix s hk, hJx3⟩⟩


theorem subsets_seqB (F : Fence) (n : Nat) (hF : ∀ k, F.fn k) (hro : F.round = none) (hn : 1 ≤ n) (Bs n0 s : Nat) (hs : s < 18446744073709551616) (w : World) (hBs : Bs < w.heap.size)
    (hc : w.cell? ⟨Bs, 0, none⟩ = some (.int .u64 s)) :
    SeqO F n Tryd.prog 54 #[.pointer (some ⟨Bs, 0, none⟩)] (fun x : Nat => #[.int .u64 (x : Int)]) n0 0 [Bs] (fun ys => ys = subs s) (fun pre => pre <+: subs s) w := fun l J Jx W hW _ _ _ _ hY h0 =>
  subsets1_bs F n hF hro hn l Bs s hs J Jx W (fun pre x W1 hj hp hz => (hY pre x W1 hj hp hz).mono fun _ _ h => h.2.imp (fun h => ⟨h.1, h.2.1, h.2.2.1.size, h.2.2.2.2 Bs (by simp)⟩) id) ((hW.cell (p := ⟨Bs, 0, none⟩) hBs).trans hc) h0
end Go.Proofs.YtndbpmhdpjlncaaDoor
