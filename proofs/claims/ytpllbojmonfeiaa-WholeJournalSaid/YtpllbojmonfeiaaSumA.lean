/- Contracts of the calls of package sum that reckon a register. -/
import Derived.Test.YtpllbojmonfeiaaSlices
import Derived.Test.YtpllbojmonfeiaaSumMath
import Derived.IntWalk
import Derived.Laws.BitsAllLaws
import Derived.LoopTactic
import Derived.Outline
namespace Go.Proofs.Ytpllbojmonfeiaa
open Go.RowKit SumM

theorem ret_u32 {x a : Int} (h1 : x = a) : Ending.returned (.int .u32 x) = .returned (.int .u32 a) := by rw [h1]

theorem bit_walk {r : Nat} (h : r < 4294967296) : bits .xor .u32 ((r : Int) / 2) (bits .and .u32 (r : Int) 1 * 2197175160 % 4294967296) = ((bit1 r : Nat) : Int) := by
  have e1 : bits .and .u32 (r : Int) 1 = ((r &&& 1 : Nat) : Int) := u32_and_nat r 1 h (by decide)
  have e2 : bits .and .u32 (r : Int) 1 * 2197175160 % 4294967296 = (((r &&& 1) * pol : Nat) : Int) := by
    rw [e1]
    rcases and1_cases r with e | e <;> rw [e] <;> decide
  have hlt : (r &&& 1) * pol < 4294967296 := by rcases and1_cases r with e | e <;> rw [e] <;> simp [pol]
  rw [e2, show (r : Int) / 2 = ((r / 2 : Nat) : Int) from by omega, u32_xor_nat _ _ (by omega) hlt]
  unfold bit1
  rw [Nat.shiftRight_eq_div_pow]

set_option maxRecDepth 100000 in
set_option maxHeartbeats 1000000 in
theorem turn_any (r : Nat) (hr : r < 4294967296) (w : World) :
    Calls Try.prog 94 #[.int .u32 r] w fun e w' => e = .returned (.int .u32 (turn8 r)) ∧ w = w' := by
  go_enter Try.func94, Try.ntmps94
  go_wp2
  go_loop [0, 4] (fun v i => ∃ k : Nat, k ≤ 8 ∧ i = .int .i64 k ∧ v = .int .u32 (turnN k r)) (fun _ i => 8 - (intOf i).toNat)
  case atStart => exact ⟨0, by omega, rfl, rfl⟩
  case round =>
    obtain ⟨k, hk, rfl, rfl⟩ := hrel
    have hl := turnN_lt hr k
    by_cases hlt : k < 8
    · have HW := Lib.hid (bit_walk hl)
      have HS : Hid (turnN (k + 1) r = bit1 (turnN k r)) := Lib.hid rfl
      obtain ⟨q, hq⟩ : ∃ q, turnN k r = q := ⟨_, rfl⟩
      rw [hq] at HW HS hl ⊢
      clear hq
      go_wp2
      go_round
      case rel => exact ⟨k + 1, by omega, by go_num, by rw [HS.out, ← HW.out]⟩
      case measure => simp [intOf]; omega
    · obtain rfl : k = 8 := by omega
      go_wp2
      go_ret
      exact ⟨rfl, rfl⟩
end Go.Proofs.Ytpllbojmonfeiaa
