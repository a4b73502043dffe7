/- The contract of set.first: so many least items of a set. -/
import Derived.Test.YtndbpmhdpjlncaaDoorSetF
namespace Go.Proofs.YtndbpmhdpjlncaaDoor
open Go.RowKit Go.Shelf

attribute [local go_sem] Oper.semAt_some

/-- A set without its k least items. -/
def restN (s : Nat) : Nat → Nat
  | 0 => s
  | k + 1 => restN s k &&& (restN s k - 1)
/-- The k least items of a set. -/
def firstN (s k : Nat) : Nat := s &&& (18446744073709551615 - restN s k)
theorem restN_lt {s : Nat} (hs : s < 18446744073709551616) : ∀ k, restN s k < 18446744073709551616
  | 0 => hs
  | k + 1 => Nat.lt_of_le_of_lt Nat.and_le_left (restN_lt hs k)
theorem rest_walk {r : Nat} (hs : r < 18446744073709551616) : bits .and .u64 (r : Int) (IntKind.u64.wrap ((r : Int) - 1)) = ((r &&& (r - 1) : Nat) : Int) := by
  by_cases h0 : r = 0
  · subst h0; decide
  · rw [IntWalk.u64_in _ (by omega), pred_and h0 hs]

theorem ret_first {x a : Int} (h : x = a) : Ending.returned (.int .u64 x) = .returned (.int .u64 a) := by rw [h]

set_option maxRecDepth 100000 in
set_option maxHeartbeats 1000000 in
theorem first_any (s k : Nat) (hs : s < 18446744073709551616) (hk : k ≤ 1048576) (w : World) :
    Calls Tryd.prog 62 #[.int .u64 s, .int .i64 k] w fun e w' => e = .returned (.int .u64 (firstN s k)) ∧ w = w' := by
  go_enter Tryd.func62, Tryd.ntmps62
  go_wp2
  go_loop [5, 8] (fun r i => ∃ j : Nat, j ≤ k ∧ i = .int .i64 j ∧ r = .int .u64 (restN s j)) (fun _ i => k - (intOf i).toNat)
  case atStart => exact ⟨0, by omega, rfl, rfl⟩
  case round =>
    obtain ⟨j, hj, rfl, rfl⟩ := hrel
    have hl := restN_lt hs j
    by_cases hlt : j < k
    · have HW := Lib.hid (rest_walk hl)
      have HS : Hid (restN s (j + 1) = restN s j &&& (restN s j - 1)) := Lib.hid rfl
      obtain ⟨r, hr⟩ : ∃ r, restN s j = r := ⟨_, rfl⟩
      rw [hr] at HW HS hl ⊢
      clear hr
      go_wp2
      go_round
      case rel => exact ⟨j + 1, by omega, by go_num, by rw [HS.out, ← HW.out]⟩
      case measure => simp [intOf]; omega
    · obtain rfl : j = k := by omega
      have HF : Hid (bits .andNot .u64 (s : Int) ((restN s j : Nat) : Int) = ((firstN s j : Nat) : Int)) := Lib.hid (u64_andNot_nat _ _ hs hl)
      obtain ⟨r, hr⟩ : ∃ r, restN s j = r := ⟨_, rfl⟩
      rw [hr] at HF hl ⊢
      clear hr
      go_wp2
      go_ret
      exact ⟨ret_first HF.out, rfl⟩

end Go.Proofs.YtndbpmhdpjlncaaDoor
