/- The contract of the document's set of items. -/
import Derived.Test.YtndbpmhdpjlncaaDoorSetO
namespace Go.Proofs.YtndbpmhdpjlncaaDoor
open Go.RowKit

theorem add_wrap {s k : Nat} (hs : s < 18446744073709551616) (hk : k < 64) (h : s.testBit k = false) : IntKind.u64.wrap ((s : Int) + 2 ^ k) = ((ofStep s k : Nat) : Int) := by
  have e : ((2 : Int) ^ k) = ((2 ^ k : Nat) : Int) := by norm_cast
  have h1 : ofStep s (k : Int) = s ||| 2 ^ k := by unfold ofStep; rw [if_pos (itemB_mk (by omega)), Int.toNat_natCast]
  have h2 := or_lt hs hk
  rw [h1, or_new hs hk h] at *
  rw [e, ← Int.natCast_add, wrap_u64_of _ h2]

set_option maxRecDepth 100000 in
set_option maxHeartbeats 1000000 in
theorem refOf_any (a : Option Addr) (n c : Nat) (xs : List Int) (w : World) (hl : xs.length ≤ 1048576) (hw : ∀ x ∈ xs, -9223372036854775808 ≤ x ∧ x ≤ 9223372036854775807) (hx : Sl (Value.int .i64) w.heap.size w (.slice a n c) xs) :
    Calls Tryd.prog 28 #[.slice a n c] w fun e w' => e = .returned (.int .u64 (ofN xs)) ∧ w = w' := by
  rcases hx with ⟨e, rfl⟩ | ⟨b, off, cap, e, _, _, hc⟩
  · cases e
    go_enter Tryd.func28, Tryd.ntmps28
    go_wp2
    go_loop [3, 4] (fun s i => s = .int .u64 0 ∧ i = .int .i64 0) (fun _ _ => 0)
    case atStart => exact ⟨rfl, rfl⟩
    case round =>
      obtain ⟨rfl, rfl⟩ := hrel
      go_wp2
      go_ret
      exact ⟨rfl, rfl⟩
  · cases e
    have HC := Lib.hid hc; clear hc
    obtain ⟨N, hN⟩ : ∃ N, xs.length = N := ⟨_, rfl⟩
    rw [hN] at hl ⊢
    have HN := Lib.hid hN; clear hN
    have HWF := Lib.hid hw; clear hw
    go_enter Tryd.func28, Tryd.ntmps28
    go_wp2
    go_loop [3, 4] (fun s i => ∃ k : Nat, k ≤ N ∧ i = .int .i64 k ∧ s = .int .u64 (((xs.take k).foldl ofStep 0 : Nat) : Int)) (fun _ i => N - (intOf i).toNat)
    case atStart => exact ⟨0, by omega, rfl, rfl⟩
    case round =>
      obtain ⟨k, hk, rfl, rfl⟩ := hrel
      have hsl := ofTo_lt xs k
      by_cases hlt : k < N
      · obtain ⟨x, hxk⟩ : ∃ x, xs[k]? = some x := ⟨xs[k]'(by rw [HN.out]; exact hlt), List.getElem?_eq_getElem _⟩
        have hcell := HC.out k x hxk
        have HS := Lib.hid (ofTo_succ xs k x hxk)
        obtain ⟨s, hs⟩ : ∃ s, (xs.take k).foldl ofStep 0 = s := ⟨_, rfl⟩
        rw [hs] at hsl HS ⊢
        clear hs hxk
        cases hi : itemB x with
        | true =>
          obtain ⟨i1, i2⟩ := itemB_t hi
          obtain ⟨m, rfl⟩ := Int.eq_ofNat_of_zero_le i1
          have hm : m < 64 := by omega
          have i3 : (m : Int) ≤ 63 := by omega
          clear hi
          cases hb : s.testBit m with
          | true =>
            have HW : Hid (ofStep s (m : Int) = s) := Lib.hid (by unfold ofStep; rw [if_pos (itemB_mk (by omega)), Int.toNat_natCast, or_has hb])
            go_wp2_with (first | (go_at_call 13; refine (refHas_nat _ _ _ hsl hm).mono ?_; rintro e w' ⟨rfl, rfl⟩) | (go_at_call 11; refine (one_any _ _ hm).mono ?_; rintro e w' ⟨rfl, rfl⟩))
            go_round
            case rel => exact ⟨k + 1, by omega, by go_num, by rw [HS.out, HW.out]⟩
            case measure => simp [intOf]; omega
          | false =>
            have HW := Lib.hid (add_wrap hsl hm hb)
            go_wp2_with (first | (go_at_call 13; refine (refHas_nat _ _ _ hsl hm).mono ?_; rintro e w' ⟨rfl, rfl⟩) | (go_at_call 11; refine (one_any _ _ hm).mono ?_; rintro e w' ⟨rfl, rfl⟩))
            go_round
            case rel => exact ⟨k + 1, by omega, by go_num, by rw [HS.out, ← HW.out]⟩
            case measure => simp [intOf]; omega
        | false =>
          have HW : Hid (ofStep s x = s) := Lib.hid (by unfold ofStep; rw [hi]; rfl)
          have hlo := itemB_f hi
          clear hi
          by_cases hneg : x < 0
          · clear hlo
            go_wp2
            go_round
            case rel => exact ⟨k + 1, by omega, by go_num, by rw [HS.out, HW.out]⟩
            case measure => simp [intOf]; omega
          · have h1 : 63 < x := by omega
            have h2 : 0 ≤ x := by omega
            clear hlo
            go_wp2
            go_round
            case rel => exact ⟨k + 1, by omega, by go_num, by rw [HS.out, HW.out]⟩
            case measure => simp [intOf]; omega
      · obtain rfl : k = N := by omega
        have HE : Hid ((xs.take k).foldl ofStep 0 = ofN xs) := Lib.hid (by unfold ofN; rw [List.take_of_length_le (by rw [HN.out]; exact Nat.le_refl _)])
        rw [HE.out]
        go_wp2
        go_ret
        exact ⟨rfl, rfl⟩

end Go.Proofs.YtndbpmhdpjlncaaDoor
