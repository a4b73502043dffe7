/- Contracts of the plain calls on one set: which items it has. -/
import Derived.Test.YtpcbdjdmhemjdaaRows
import Derived.WalkKit
import Derived.WalkSpells
import Derived.WalkLawsBesides
import Derived.Lib.Hide
import Derived.IntWalk
import Derived.Laws.BitsAllLaws
namespace Go.Proofs.Ytpcbdjdmhemjdaa
open Go.RowKit

theorem ret_bool {x a : Bool} (h1 : x = a) : Ending.returned (.bool x) = .returned (.bool a) := by rw [h1]
theorem ret_i64 {x a : Int} (h1 : x = a) : Ending.returned (.int .i64 x) = .returned (.int .i64 a) := by rw [h1]
theorem ret_u64 {x a : Int} (h1 : x = a) : Ending.returned (.int .u64 x) = .returned (.int .u64 a) := by rw [h1]

/-- Is a number an item? Has a set an item? -/
def itemB (n : Int) : Bool := decide (0 ≤ n ∧ n < 64)
def hasB (s : Nat) (n : Int) : Bool := itemB n && s.testBit n.toNat
theorem itemB_t {n : Int} (h : itemB n = true) : 0 ≤ n ∧ n < 64 := of_decide_eq_true h
theorem itemB_f {n : Int} (h : itemB n = false) : n < 0 ∨ 64 ≤ n := by have := of_decide_eq_false h; omega
theorem itemB_mk {n : Int} (h : 0 ≤ n ∧ n < 64) : itemB n = true := decide_eq_true h
theorem itemB_mkf {n : Int} (h : n < 0 ∨ 64 ≤ n) : itemB n = false := decide_eq_false (by omega)

theorem shr_cast (s k : Nat) : ((s : Int) / 2 ^ k) = ((s / 2 ^ k : Nat) : Int) := by
  rw [Int.natCast_ediv]; norm_cast
theorem shr_and_one (s k : Nat) (hs : s < 18446744073709551616) : (bits .and .u64 ((s : Int) / 2 ^ k) 1 == 1) = s.testBit k := by
  have h := Nat.div_le_self s (2 ^ k)
  rw [shr_cast, show (1 : Int) = ((1 : Nat) : Int) from rfl, u64_and_nat _ _ (by omega) (by decide), Nat.testBit_eq_decide_div_mod_eq, nat_mask1, Bool.eq_iff_iff]
  generalize s / 2 ^ k = q
  simp; omega

set_option maxHeartbeats 400000 in
theorem refHas_any (s : Nat) (n : Int) (w : World) (hs : s < 18446744073709551616) (hn1 : -9223372036854775808 ≤ n) (hn2 : n ≤ 9223372036854775807) :
    Calls Try.prog 38 #[.int .u64 s, .int .i64 n] w fun e w' => e = .returned (.bool (hasB s n)) ∧ w = w' := by
  cases hi : itemB n with
  | false =>
    have h0 := itemB_f hi
    rw [show hasB s n = false from by simp [hasB, hi]]
    by_cases h1 : n < 0
    · clear h0 hi
      go_enter Try.func38, Try.ntmps38
      go_wp2
      go_ret
      exact ⟨rfl, rfl⟩
    · have h2 : 63 < n := by omega
      have h3 : 0 ≤ n := by omega
      clear h0 hi
      go_enter Try.func38, Try.ntmps38
      go_wp2
      go_ret
      exact ⟨rfl, rfl⟩
  | true =>
    obtain ⟨i1, i2⟩ := itemB_t hi
    rw [show hasB s n = s.testBit n.toNat from by simp [hasB, hi]]
    obtain ⟨m, rfl⟩ := Int.eq_ofNat_of_zero_le i1
    rw [Int.toNat_natCast]
    have i3 : (m : Int) ≤ 63 := by omega
    clear hi
    go_enter Try.func38, Try.ntmps38
    go_wp2
    go_loop [5, 0] (fun i x => ∃ k : Nat, k ≤ m ∧ i = .int .i64 k ∧ x = .int .u64 ((s / 2 ^ k : Nat) : Int)) (fun i _ => m - (intOf i).toNat)
    case atStart => exact ⟨0, Nat.zero_le _, rfl, by simp⟩
    case round =>
      obtain ⟨k, hk, rfl, rfl⟩ := hrel
      have hle : ((s / 2 ^ k : Nat) : Int) ≤ 18446744073709551615 := by have := Nat.div_le_self s (2 ^ k); omega
      by_cases hlt : k < m
      · have HH : Hid ((s / 2 ^ (k + 1) : Nat) = s / 2 ^ k / 2) := Lib.hid (by rw [Nat.pow_succ, Nat.div_div_eq_div_mul])
        obtain ⟨q, hq⟩ : ∃ q, s / 2 ^ k = q := ⟨_, rfl⟩
        rw [hq] at HH hle ⊢
        clear hq
        go_wp2
        go_round
        case rel => exact ⟨k + 1, by omega, by go_num, by rw [HH.out]; go_num⟩
        case measure => simp [intOf]; omega
      · obtain rfl : k = m := by omega
        obtain ⟨q, hq⟩ : ∃ q, s / 2 ^ k = q := ⟨_, rfl⟩
        have HQ : Hid (s.testBit k = ((q : Int) % 2 == 1)) := Lib.hid (by
          rw [Nat.testBit_eq_decide_div_mod_eq, hq, Bool.eq_iff_iff]
          simp; omega)
        rw [hq] at hle ⊢
        clear hq
        go_wp2
        go_ret
        exact ⟨ret_bool HQ.out.symm, rfl⟩

end Go.Proofs.Ytpcbdjdmhemjdaa
