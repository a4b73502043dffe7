/- The document's own Join. -/
import Derived.Test.YtpllbojmonfeiaaRefY
namespace Go.Proofs.Ytpllbojmonfeiaa
open Go.RowKit

theorem flat_len (ls : List (List Nat)) (k : Nat) (l : List Nat) (h : ls[k]? = some l) : (ls.take k).flatten.length + l.length ≤ ls.flatten.length := by
  have e : ls.flatten.length = (ls.take (k + 1)).flatten.length + (ls.drop (k + 1)).flatten.length := by rw [← List.length_append, ← List.flatten_append, List.take_append_drop]
  rw [take_one _ _ _ h, List.flatten_append, List.length_append] at e
  simp at e ⊢
  omega
set_option maxRecDepth 100000 in
set_option maxHeartbeats 1000000 in
theorem joinY_any (a : Option Addr) (n c : Nat) (ls : List (List Nat)) (hl : ls.flatten.length ≤ 1048576) (hl2 : ls.length ≤ 1048576) (w : World) (hP : Parts w.heap.size w (.slice a n c) ls) :
    Calls Try.prog 53 #[.slice a n c] w fun e w' => ∃ v, e = .returned v ∧ w'.ownsRow w.heap.size 5 1 v ls.flatten.length (ls.flatten.map encY) ∧ Below w.heap.size w w' := by
  obtain ⟨i0, hi, hz0, hz1, hz2⟩ := info_parts info8
  obtain rfl := hP.len
  have HS := Lib.hid hP
  clear hP
  obtain ⟨n, hn⟩ : ∃ n, ls.length = n := ⟨_, rfl⟩
  have HL := Lib.hid hn
  rw [hn] at hl2 ⊢
  clear hn
  have HT := Lib.hid hl
  clear hl
  go_enter Try.func53, Try.ntmps53
  go_wp2
  go_loopw [3, 4] (fun v i wr => ∃ k : Nat, k ≤ n ∧ i = .int .i64 k ∧ wr.ownsRow w.heap.size 5 1 v (ls.take k).flatten.length ((ls.take k).flatten.map encY) ∧ Below w.heap.size w wr) (fun _ i _ => n - (intOf i).toNat)
  case atStart => exact ⟨0, by omega, rfl, ownsRow_empty w _, (Below.refl _ _).alloc (Nat.le_refl _) _⟩
  case round =>
    obtain ⟨k, hk, rfl, hown, hnx⟩ := hrel
    by_cases hlt : k < n
    · obtain ⟨l, hl⟩ : ∃ l, ls[k]? = some l := ⟨ls[k]'(by rw [HL.out]; exact hlt), List.getElem?_eq_getElem _⟩
      obtain ⟨b, off, rfl, hb, v, hc0, hSl0⟩ := HS.out.at_ hl
      have hSl := hSl0.below (hnx)
      have hfl := flat_len ls k l hl
      have htot := HT.out
      obtain ⟨va, vc, rfl⟩ := hSl.form
      have HTK : Hid ((ls.take (k + 1)).flatten = (ls.take k).flatten ++ l) := Lib.hid (by rw [take_one _ _ _ hl]; simp)
      obtain ⟨m, hm⟩ : ∃ m, l.length = m := ⟨_, rfl⟩
      have HM := Lib.hid hm
      rw [hm] at hfl hc0 hSl
      obtain ⟨pre, hpre⟩ : ∃ pre, (ls.take k).flatten = pre := ⟨_, rfl⟩
      rw [hpre] at HTK hfl hown
      have HC := Lib.hid hc0
      have HSL := Lib.hid hSl0
      have hmm : m ≤ 1048576 := by omega
      have hpp : pre.length + m ≤ 1048576 := by omega
      have HOW := Lib.hid hown
      clear hm hpre hl hSl hSl0 hc0 hfl htot
      obtain ⟨wo, hwo⟩ : ∃ wo : World, wo = wr := ⟨_, rfl⟩
      have hcr : wr.cell? ⟨b, off + k, none⟩ = some (.slice va m vc) := (hnx.cell (p := ⟨b, off + k, none⟩) hb).trans HC.out
      go_wp2
      subst hwo
      go_loopw [3, 5] (fun v i wr => ∃ j : Nat, j ≤ m ∧ i = .int .i64 j ∧ wr.ownsRow w.heap.size 5 1 v (pre.length + j) ((pre ++ l.take j).map encY) ∧ Below w.heap.size w wr) (fun _ i _ => m - (intOf i).toNat)
      case atStart => exact ⟨0, by omega, rfl, by simpa using HOW.out, hnx⟩
      case round =>
        clear hcr hown
        obtain ⟨j, hj, rfl, hown, hnx2⟩ := hrel
        have hcr : wr.cell? ⟨b, off + k, none⟩ = some (.slice va m vc) := (hnx2.cell (p := ⟨b, off + k, none⟩) hb).trans HC.out
        by_cases hjm : j < m
        · obtain ⟨x, hx⟩ : ∃ x, l[j]? = some x := ⟨l[j]'(by rw [HM.out]; exact hjm), List.getElem?_eq_getElem _⟩
          obtain ⟨b2, o2, rfl, hb2, hc2⟩ := HSL.out.at_ hx
          have hcx : wr.cell? ⟨b2, o2 + j, none⟩ = some (.int .u8 (x : Int)) := (hnx2.cell (p := ⟨b2, o2 + j, none⟩) hb2).trans hc2
          have HT2 : Hid ((pre ++ l.take (j + 1)).map encY = (pre ++ l.take j).map encY ++ [.int .u8 (x : Int)]) := Lib.hid (by rw [take_one _ _ _ hx, ← List.append_assoc, List.map_append]; rfl)
          clear hx hc2
          go_wp2_with (at_builtin; refine wpList_append_own _ rfl _ _ 22 rfl w.heap.size 5 i0 (.int .u8 0) 1 1 Try.underlying22 hi hz0 hz1 hz2 rfl (by decide) _ _ _ rfl (hown.alloc _) ⟨wr.heap.size, 0, none⟩ 1 1 [.int .u8 (x : Int)] rfl rfl (cell_one_new _ _ _) (by simp [Value.oneCell']) (by unfold maxLen; omega) (by omega) (by have := hnx2.size; simp; omega) ?_)
          intro v' w1 hown' hgrow _
          have hb1 := below_append hown hnx2.size hnx2 hgrow
          have HR := Lib.hid hown'
          clear hown' hgrow hown hnx2 hcx
          go_wp2
          go_roundw
          case rel => exact ⟨j + 1, by omega, by go_num, by rw [HT2.out, List.map_append, List.map_take, List.append_assoc]; exact HR.out, hb1⟩
          case measure => simp [intOf]; omega
        · obtain rfl : j = m := by omega
          go_wp2
          go_roundw
          case rel => exact ⟨k + 1, by omega, by go_num, by
            rw [List.take_of_length_le (by rw [HM.out]; omega)] at hown
            rw [HTK.out, List.length_append, HM.out]; exact hown, hnx2⟩
          case measure => simp [intOf]; omega
    · obtain rfl : k = n := by omega
      go_wp2
      go_ret
      exact ⟨_, rfl, by rw [List.take_of_length_le (by rw [HL.out]; omega)] at hown; exact hown, hnx⟩

end Go.Proofs.Ytpllbojmonfeiaa
