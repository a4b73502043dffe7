/- The contract of the document's Few. -/
import Derived.Test.YtmlonennmnfemaaRefJ
namespace Go.Proofs.Ytmlonennmnfemaa
open Go.RowKit

def fewB (ls : List (List Nat)) : Bool := decide (ls.length ≤ 8 ∧ ls.flatten.length ≤ 2000)
set_option maxRecDepth 100000 in
set_option maxHeartbeats 1000000 in
theorem few_any (a : Option Addr) (n c : Nat) (ls : List (List Nat)) (w : World) (hP : Parts w.heap.size w (.slice a n c) ls) :
    Calls Try.prog 11 #[.slice a n c, .int .i64 8, .int .i64 2000] w fun e w' => e = .returned (.bool (fewB ls)) ∧ w = w' := by
  obtain rfl := hP.len
  by_cases h8 : (ls.length : Int) > 8
  · rw [show fewB ls = false from decide_eq_false (by omega)]
    go_enter Try.func11, Try.ntmps11
    go_wp2
    go_ret
    exact ⟨rfl, rfl⟩
  · have HS := Lib.hid hP
    clear hP
    obtain ⟨n, hn⟩ : ∃ n, ls.length = n := ⟨_, rfl⟩
    have HL := Lib.hid hn
    rw [hn] at h8 ⊢
    clear hn
    go_enter Try.func11, Try.ntmps11
    go_wp2
    go_loop [7, 8] (fun v i => ∃ k : Nat, k ≤ n ∧ i = .int .i64 k ∧ v = .int .i64 ((ls.take k).flatten.length : Nat) ∧ (ls.take k).flatten.length ≤ 2000) (fun _ i => n - (intOf i).toNat)
    case atStart => exact ⟨0, by omega, rfl, rfl, by simp⟩
    case round =>
      obtain ⟨k, hk, rfl, rfl, h2⟩ := hrel
      by_cases hlt : k < n
      · obtain ⟨l, hl⟩ : ∃ l, ls[k]? = some l := ⟨ls[k]'(by rw [HL.out]; exact hlt), List.getElem?_eq_getElem _⟩
        obtain ⟨b, off, rfl, hb, v, hc0, hSl0⟩ := HS.out.at_ hl
        have hfl := flat_len ls k l hl
        obtain ⟨va, vc, rfl⟩ := hSl0.form
        have HT : Hid ((ls.take (k + 1)).flatten.length = (ls.take k).flatten.length + l.length) := Lib.hid (by rw [take_one _ _ _ hl]; simp)
        obtain ⟨m, hm⟩ : ∃ m, l.length = m := ⟨_, rfl⟩
        rw [hm] at hfl hc0 HT
        obtain ⟨t, ht⟩ : ∃ t, (ls.take k).flatten.length = t := ⟨_, rfl⟩
        rw [ht] at hfl h2 HT ⊢
        have HF := Lib.hid hfl
        clear hm ht hl hSl0 hfl
        by_cases hgt : (m : Int) > 2000 - (t : Int)
        · have HE : Hid (fewB ls = false) := Lib.hid (decide_eq_false (by have := HF.out; omega))
          go_wp2
          go_ret
          exact ⟨ret_boolY HE.out.symm, rfl⟩
        · go_wp2
          go_round
          case rel => exact ⟨k + 1, by omega, by go_num, by rw [HT.out]; go_num, by rw [HT.out]; omega⟩
          case measure => simp [intOf]; omega
      · obtain rfl : k = n := by omega
        have HE : Hid (fewB ls = true) := Lib.hid (decide_eq_true ⟨by rw [HL.out]; omega, by rw [List.take_of_length_le (by rw [HL.out]; omega)] at h2; exact h2⟩)
        go_wp2
        go_ret
        exact ⟨ret_boolY HE.out.symm, rfl⟩
end Go.Proofs.Ytmlonennmnfemaa
