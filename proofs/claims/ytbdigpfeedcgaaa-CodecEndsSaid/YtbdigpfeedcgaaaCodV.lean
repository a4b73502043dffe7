/- slices.Values at int64, as a promise to rounds. -/
import Derived.Test.YtbdigpfeedcgaaaFrameC
import Derived.Test.YtbdigpfeedcgaaaCodN
namespace Go.Proofs.Ytbdigpfeedcgaaa
open Go.RowKit
set_option linter.unusedVariables false
attribute [local go_sem] Oper.semAt_some

theorem values_any (a : Option Addr) (n c : Nat) (w : World) :
    Calls Try.prog 33 #[.slice a n c] w fun e w' => e = .returned (.func (.func 91) #[] #[.pointer (some ⟨w.heap.size, 0, none⟩)]) ∧ w' = w.alloc (.cells #[.slice a n c] 46) := by
  go_enter Try.func33, Try.ntmps33
  go_wp2
  go_ret
  exact ⟨rfl, rfl⟩

set_option maxRecDepth 100000 in
set_option maxHeartbeats 4000000 in
theorem values1 (Bs n0 : Nat) (xs : List Int) (a : Option Addr) (N c : Nat) (w : World) (hn0 : n0 ≤ w.heap.size) (hBs : Bs < n0) (hl : xs.length ≤ 1048576)
    (hc : w.cell? ⟨Bs, 0, none⟩ = some (.slice a N c)) (hS : Sl encN n0 w (.slice a N c) xs) :
    SeqR Fence.wide 2 Try.prog 91 #[.pointer (some ⟨Bs, 0, none⟩)] (fun (x : Int) => #[.int .i64 x]) n0 0 [] (fun ys => ys = xs) (fun pre => pre <+: xs) (fun _ _ => True) w := fun l J Jx W hW hJ hJx _ _ hY h0 => by
  have hcW := (hW.cell (p := ⟨Bs, 0, none⟩) (Nat.lt_of_lt_of_le hBs hn0)).trans hc
  have hSW := hS.below (hW.mono hn0)
  have HS := Lib.hid hSW
  obtain rfl := hSW.len
  have HY := Lib.hid hY
  have hn0W : n0 ≤ W.heap.size := Nat.le_trans hn0 hW.size
  obtain ⟨M, hM⟩ : ∃ M, xs.length = M := ⟨_, rfl⟩
  have HM := Lib.hid hM
  rw [hM] at HS hcW hl
  clear hc hS hSW hY hW hM
  refine callsIn_of_wp Try.func91 rfl trivial ?_ rfl
  simp only [Try.ntmps91, List.size_toArray, List.length_cons, List.length_nil, Nat.reduceAdd, Nat.reduceSub, Array.replicate_succ, Array.replicate_zero, List.push_toArray, List.append_toArray, List.nil_append, List.cons_append]
  gi_wp2
  gi_loopw [7] (fun x wr => ∃ (k : Nat), x = .int .i64 k ∧ k ≤ M ∧ J (xs.take k) wr ∧ Below n0 W wr)
    (fun x _ => M - (intOf x).toNat)
  case atStart => exact ⟨0, rfl, Nat.zero_le _, h0, Below.refl _ _⟩
  case round =>
    obtain ⟨k, rfl, hk, hj, hst⟩ := hrel
    by_cases hlt : k < M
    · obtain ⟨x, hx⟩ : ∃ x, xs[k]? = some x := ⟨xs[k]'(by rw [HM.out]; exact hlt), List.getElem?_eq_getElem _⟩
      obtain ⟨b, off, rfl, hbl, hcx⟩ := HS.out.at_ hx
      have hc' : wr.cell? ⟨b, off + k, none⟩ = some (.int .i64 x) := (hst.cell (p := ⟨b, off + k, none⟩) hbl).trans hcx
      have hT := take_one _ _ _ hx
      have hpx : xs.take k ++ [x] <+: xs := by rw [← hT]; exact List.take_prefix _ _
      have HT := Lib.hid hT
      have HPX := Lib.hid hpx
      have HST := Lib.hid hst
      obtain ⟨fn, tmps, assign, body, hy, hR⟩ := HY.out (xs.take k) x wr hj hpx (by have := hst.size; omega) trivial
      have HR := Lib.hid hR
      clear hR hT hpx hx hcx hst hj hJ hJx
      gi_wp2_with fail
      refine HR.out.mono ?_
      rintro e W4 ⟨hK4, ⟨rfl, hj4, hb4, _, _⟩ | ⟨rfl, hjx4⟩⟩
      · have HST4 := Lib.hid (HST.out.trans hb4)
        clear hb4 hK4
        gi_wp2
        go_roundw
        case rel => exact ⟨k + 1, by go_num, by omega, by rw [HT.out]; exact hj4, HST4.out⟩
        case measure => simp [intOf]; omega
      · gi_wp2
        refine bodyPost_ret (results_none rfl _ _ _) rfl ?_
        exact ⟨⟨_, rfl⟩, .inr ⟨_, HPX.out, hjx4⟩⟩
    · obtain rfl : k = M := by omega
      rw [List.take_of_length_le (by rw [HM.out]; omega)] at hj
      gi_wp2
      go_end0
      exact ⟨⟨_, rfl⟩, .inl ⟨_, rfl, hj⟩⟩
end Go.Proofs.Ytbdigpfeedcgaaa
