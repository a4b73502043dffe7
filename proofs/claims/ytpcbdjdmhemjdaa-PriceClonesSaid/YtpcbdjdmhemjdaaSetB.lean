/- The contract of math/bits.OnesCount64, and of set.Count. -/
import Derived.Test.YtpcbdjdmhemjdaaSetA
import Derived.Test.YtpcbdjdmhemjdaaSetBits
import Derived.Deep.DeepCutAuto
import Derived.Laws.Bits128
namespace Go.Proofs.Ytpcbdjdmhemjdaa
open Go.RowKit

theorem and_u64 (a b : Nat) (ha : a < 18446744073709551616) (hb : b < 18446744073709551616) : bits .and .u64 (a : Int) (b : Int) = ((a &&& b : Nat) : Int) := u64_and_nat a b ha hb
theorem wrap_u64_of (a : Nat) (ha : a < 18446744073709551616) : IntKind.u64.wrap (a : Int) = (a : Int) := IntWalk.u64_in _ (by omega)

theorem sw1 (s : Nat) (hs : s < 18446744073709551616) : IntKind.u64.wrap (bits .and .u64 ((s : Int) / 2) 6148914691236517205 + bits .and .u64 (s : Int) 6148914691236517205) = ((st1 s : Nat) : Int) := by
  have hl := st1_le s
  rw [show ((s : Int) / 2) = ((s / 2 : Nat) : Int) from by omega, show (6148914691236517205 : Int) = ((6148914691236517205 : Nat) : Int) from rfl, and_u64 _ _ (by omega) (by decide), and_u64 _ _ hs (by decide), ← Int.natCast_add]
  exact wrap_u64_of _ (by show st1 s < _; omega)
theorem sw2 (s : Nat) (hs : s < 18446744073709551616) : IntKind.u64.wrap (bits .and .u64 ((s : Int) / 4) 3689348814741910323 + bits .and .u64 (s : Int) 3689348814741910323) = ((st2 s : Nat) : Int) := by
  have hl := st2_le s
  rw [show ((s : Int) / 4) = ((s / 4 : Nat) : Int) from by omega, show (3689348814741910323 : Int) = ((3689348814741910323 : Nat) : Int) from rfl, and_u64 _ _ (by omega) (by decide), and_u64 _ _ hs (by decide), ← Int.natCast_add]
  exact wrap_u64_of _ (by show st2 s < _; omega)
theorem sw3 (s : Nat) (hs : s ≤ 7378697629483820646) : bits .and .u64 ((s : Int) / 16 + (s : Int)) 1085102592571150095 = ((st3 s : Nat) : Int) := by
  rw [show ((s : Int) / 16) = ((s / 16 : Nat) : Int) from by omega, ← Int.natCast_add, show (1085102592571150095 : Int) = ((1085102592571150095 : Nat) : Int) from rfl, and_u64 _ _ (by omega) (by decide)]
  rfl
theorem sw4 (z k : Nat) (_hz : z ≤ 4340410370284600380) : (z : Int) + (z : Int) / (k : Int) = ((z + z / k : Nat) : Int) := by
  rw [show ((z : Int) / (k : Int)) = ((z / k : Nat) : Int) from (Int.natCast_ediv z k).symm, ← Int.natCast_add]

set_option maxRecDepth 100000 in
set_option maxHeartbeats 400000 in
theorem ones_any (s : Nat) (w : World) (hs : s < 18446744073709551616) :
    Calls Try.prog 49 #[.int .u64 s] w fun e w' => e = .returned (.int .i64 (cnt s)) ∧ w = w' := by
  go_enter Try.func49, Try.ntmps49
  go_upto_region 1 with fail
  go_cut [0] (fun x wx => x = .int .u64 ((st1 s : Nat) : Int) ∧ wx = w)
  case first =>
    go_wp2_with fail
    go_meet
    exact ⟨congrArg (Value.int .u64) (sw1 s hs), rfl⟩
  case rest =>
    obtain ⟨rfl, rfl⟩ := hcut
    have l1 := st1_le s
    go_upto_region 2 with fail
    go_cut [0] (fun x wx => x = .int .u64 ((st2 (st1 s) : Nat) : Int) ∧ wx = wc)
    case first =>
      go_wp2_with fail
      go_meet
      exact ⟨congrArg (Value.int .u64) (sw2 _ (by omega)), rfl⟩
    case rest =>
      obtain ⟨rfl, rfl⟩ := hcut
      have l2 := st2_le (st1 s)
      obtain ⟨z, hz, l3, hfin⟩ := ones_eq s hs
      go_upto_region 3 with fail
      go_cut [0] (fun x wx => x = .int .u64 ((st3 (st2 (st1 s)) : Nat) : Int) ∧ wx = wc)
      case first =>
        go_wp2_with fail
        go_meet
        exact ⟨congrArg (Value.int .u64) (sw3 _ (by omega)), rfl⟩
      case rest =>
        obtain ⟨rfl, rfl⟩ := hcut
        rw [hz]
        clear hz l1 l2
        go_upto_region 4 with fail
        go_cut [0] (fun x wx => x = .int .u64 ((z + z / 256 : Nat) : Int) ∧ wx = wc)
        case first =>
          go_wp2_with fail
          go_meet
          exact ⟨congrArg (Value.int .u64) (sw4 _ 256 (by omega)), rfl⟩
        case rest =>
          obtain ⟨rfl, rfl⟩ := hcut
          obtain ⟨y, hy⟩ : ∃ y, y = z + z / 256 := ⟨_, rfl⟩
          have ly : y ≤ 2170205185142300190 := by omega
          rw [← hy] at hfin ⊢
          clear hy l3
          clear z
          go_upto_region 5 with fail
          go_cut [0] (fun x wx => x = .int .u64 ((y + y / 65536 : Nat) : Int) ∧ wx = wc)
          case first =>
            go_wp2_with fail
            go_meet
            exact ⟨congrArg (Value.int .u64) (sw4 _ 65536 (by omega)), rfl⟩
          case rest =>
            obtain ⟨rfl, rfl⟩ := hcut
            obtain ⟨x, hx⟩ : ∃ x, x = y + y / 65536 := ⟨_, rfl⟩
            have lx : x ≤ 4340410370284600380 := by omega
            rw [← hx] at hfin ⊢
            clear hx ly
            clear y
            go_upto_region 6 with fail
            go_cut [0] (fun v wx => v = .int .u64 ((x + x / 4294967296 : Nat) : Int) ∧ wx = wc)
            case first =>
              go_wp2_with fail
              go_meet
              exact ⟨congrArg (Value.int .u64) (sw4 _ 4294967296 (by omega)), rfl⟩
            case rest =>
              obtain ⟨rfl, rfl⟩ := hcut
              obtain ⟨v, hv⟩ : ∃ v, v = x + x / 4294967296 := ⟨_, rfl⟩
              have lv : v ≤ 9223372036854775807 := by omega
              rw [← hv] at hfin ⊢
              clear hv lx
              clear x
              have HF := Lib.hid hfin; clear hfin
              go_wp2_with fail
              go_ret
              exact ⟨ret_i64 (by rw [i64_and127, ← HF.out]; omega), rfl⟩

set_option maxHeartbeats 400000 in
theorem count_any (s : Nat) (w : World) (hs : s < 18446744073709551616) :
    Calls Try.prog 41 #[.int .u64 s] w fun e w' => e = .returned (.int .i64 (cnt s)) ∧ w = w' := by
  go_enter Try.func41, Try.ntmps41
  go_wp2_with (go_at_call 49; refine (ones_any _ _ hs).mono ?_; rintro e w' ⟨rfl, rfl⟩)
  go_ret
  exact ⟨rfl, rfl⟩

end Go.Proofs.Ytpcbdjdmhemjdaa
