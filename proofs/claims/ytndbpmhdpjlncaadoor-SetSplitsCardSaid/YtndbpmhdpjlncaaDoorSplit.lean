/- strings.SplitSeq at a comma. -/
import Derived.Test.YtndbpmhdpjlncaaDoorSplitP
import Derived.Test.YtndbpmhdpjlncaaDoorSetS
namespace Go.Proofs.YtndbpmhdpjlncaaDoor
open Go.RowKit Go.Shelf

attribute [local go_sem] Oper.semAt_some

def encB (l : List UInt8) : Value := .string ⟨l.toArray⟩
/-- How long the text is that is still to be cut. -/
def restOf (Bs : Nat) (W : World) : Nat := match W.cell? ⟨Bs, 0, none⟩ with | some (.string b) => b.size | _ => 0

theorem restOf_box {W : World} {Bs : Nat} {t : TypeId} {b : ByteArray} (h : Boxed W Bs t (.string b)) : restOf Bs W = b.size := by
  unfold restOf; rw [h.cell]
theorem cut_head (r : List UInt8) (i : Nat) : (⟨r.toArray⟩ : ByteArray).extract 0 i = ⟨(r.take i).toArray⟩ := by
  apply ByteArray.ext
  apply Array.toList_inj.1
  rw [Lib.extract_data]; simp
theorem cut_tail (r : List UInt8) (i n : Nat) (hn : n = r.length) : (⟨r.toArray⟩ : ByteArray).extract i n = ⟨(r.drop i).toArray⟩ := by
  subst hn
  apply ByteArray.ext
  apply Array.toList_inj.1
  rw [Lib.extract_data, List.take_of_length_le (by simp)]

set_option maxRecDepth 100000 in
set_option maxHeartbeats 2000000 in
theorem split_seq (n0 Bs : Nat) (l0 : List UInt8) (hl0 : l0.length ≤ 1048576) (w : World) (hBs : Bs + 3 ≤ w.heap.size)
    (h1 : Boxed w Bs 9 (encB l0)) (h2 : Boxed w (Bs + 1) 9 (.string ⟨#[44]⟩)) (h3 : Boxed w (Bs + 1 + 1) 3 (.int .i64 0)) :
    SeqO Fence.wide 2 Tryd.prog 78 #[.pointer (some ⟨Bs + 1, 0, none⟩), .pointer (some ⟨Bs, 0, none⟩), .pointer (some ⟨Bs + 1 + 1, 0, none⟩)] (fun x : List UInt8 => #[encB x]) n0 0 [Bs, Bs + 1, Bs + 1 + 1] (fun ys => ys = splitC l0) (fun pre => pre <+: splitC l0) w := fun l J Jx W hW hJ hJx hJb hJxb hY h0 => by
  refine callsIn_of_wp Tryd.func78 rfl trivial ?_ rfl
  simp only [Tryd.ntmps78, List.size_toArray, List.length_cons, List.length_nil, Nat.reduceAdd, Nat.reduceSub, Array.replicate_succ, Array.replicate_zero, List.push_toArray, List.append_toArray, List.nil_append, List.cons_append]
  have b1 : Boxed W Bs 9 (encB l0) := (hW.block Bs (by omega)).trans h1
  have b2 : Boxed W (Bs + 1) 9 (.string ⟨#[44]⟩) := (hW.block (Bs + 1) (by omega)).trans h2
  have b3 : Boxed W (Bs + 1 + 1) 3 (.int .i64 0) := (hW.block (Bs + 1 + 1) (by omega)).trans h3
  have c2 := b2.cell
  gi_wp2
  gi_loopw [7] (fun _ wr => ∃ pre r, r.length ≤ 1048576 ∧ Boxed wr Bs 9 (.string ⟨r.toArray⟩) ∧ Boxed wr (Bs + 1) 9 (.string ⟨#[44]⟩) ∧ Boxed wr (Bs + 1 + 1) 3 (.int .i64 0) ∧ splitC l0 = pre ++ splitC r ∧ J pre wr ∧ W.heap.size ≤ wr.heap.size) (fun _ wr => restOf Bs wr)
  case atStart => exact ⟨[], l0, hl0, b1, b2, b3, rfl, h0, Nat.le_refl _⟩
  case round =>
    obtain ⟨pre, r, hr, k1, k2, k3, hsp, hj, hz⟩ := hrel
    have d1 := k1.cell
    have d2 := k2.cell
    have d3 := k3.cell
    have f1 := k1.frozen
    have HIX : Hid (∀ w, CallsIn Fence.wide 1 Tryd.prog 80 #[.string ⟨r.toArray⟩, .string ⟨#[44]⟩] w fun e w' => e = .returned (.int .i64 (Lib.indexByte r 44)) ∧ w = w') := Lib.hid (fun w => callsIn_wide.2 (by
      refine (Tryd.strings_Index_one ⟨r.toArray⟩ 44 w).mono ?_
      rintro e w' ⟨rfl, rfl⟩
      exact ⟨rfl, rfl⟩))
    clear b1 b2 b3 c2 h1 h2 h3 hW
    rcases split_step r with ⟨hi, hs1⟩ | ⟨i, hi, hil, hs1⟩
    · have HSP : Hid (splitC l0 = pre ++ [r]) := Lib.hid (by rw [hsp, hs1])
      obtain ⟨fn, tmps, assign, body, hy, hR⟩ := hY pre r wr hj (by rw [HSP.out]; exact List.prefix_refl _) hz
      dsimp only [encB] at hy
      rw [hi] at HIX
      clear hsp hi hs1
      gi_wp2_with (refine ⟨trivial, ?_⟩; gi_at_call 80; refine (HIX.out _).mono ?_; rintro e w' ⟨rfl, rfl⟩)
      refine hR.mono ?_
      rintro e W3 ⟨_, ⟨rfl, hJ3, _⟩ | ⟨rfl, hJx3⟩⟩
      · gi_wp2
        go_end0
        exact ⟨⟨_, rfl⟩, .inl ⟨_, HSP.out.symm, hJ3⟩⟩
      · gi_wp2
        go_end0
        exact ⟨⟨_, rfl⟩, .inr ⟨_, by rw [HSP.out]; exact List.prefix_refl _, hJx3⟩⟩
    · have HSP : Hid (splitC l0 = (pre ++ [r.take i]) ++ splitC (r.drop (i + 1))) := Lib.hid (by rw [hsp, hs1]; simp)
      obtain ⟨fn, tmps, assign, body, hy, hR⟩ := hY pre (r.take i) wr hj (by rw [HSP.out]; exact List.prefix_append _ _) hz
      dsimp only [encB] at hy
      rw [← cut_head] at hy
      rw [hi] at HIX
      clear hsp hi hs1
      gi_wp2_with (refine ⟨trivial, ?_⟩; gi_at_call 80; refine (HIX.out _).mono ?_; rintro e w' ⟨rfl, rfl⟩)
      refine hR.mono ?_
      rintro e W3 ⟨hk1, ⟨rfl, hJ3, _, _, hk3⟩ | ⟨rfl, hJx3⟩⟩
      · have m1 : Boxed W3 Bs 9 (.string ⟨r.toArray⟩) := (hk3 Bs (by simp)).trans k1
        have m2 : Boxed W3 (Bs + 1) 9 (.string ⟨#[44]⟩) := (hk3 (Bs + 1) (by simp)).trans k2
        have m3 : Boxed W3 (Bs + 1 + 1) 3 (.int .i64 0) := (hk3 (Bs + 1 + 1) (by simp)).trans k3
        have d1 := m1.cell
        have d2 := m2.cell
        have f1 := m1.frozen
        have HM1 := Lib.hid m1
        gi_wp2
        have e9 := cut_tail r (i + 1) r.length rfl
        have n1 : Boxed (W3.setCell ⟨Bs, 0, none⟩ (.string ((⟨r.toArray⟩ : ByteArray).extract (i + 1) r.length))) Bs 9 (.string ⟨(r.drop (i + 1)).toArray⟩) := by
          rw [e9]; exact HM1.out.set _
        go_roundw
        case rel => exact ⟨pre ++ [r.take i], r.drop (i + 1), by rw [List.length_drop]; omega, n1, m2.other (by omega) _, m3.other (by omega) _, HSP.out, hJb _ _ _ _ (by simp) hJ3, by have := hk1.size; simp only [World.setCell, Array.size_modify]; omega⟩
        case measure => rw [restOf_box n1, restOf_box k1]; simp [ByteArray.size]; omega
      · gi_wp2
        refine bodyPost_ret (results_none rfl _ _ _) rfl ?_
        exact ⟨⟨_, rfl⟩, .inr ⟨_, by rw [HSP.out]; exact List.prefix_append _ _, hJx3⟩⟩

end Go.Proofs.YtndbpmhdpjlncaaDoor
