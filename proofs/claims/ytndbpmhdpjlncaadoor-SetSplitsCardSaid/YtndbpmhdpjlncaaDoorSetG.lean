/- Contracts of set.List, set.Cmp and the document's order of sets. -/
import Derived.Test.YtndbpmhdpjlncaaDoorCollect
import Derived.Test.YtndbpmhdpjlncaaDoorShelf
namespace Go.Proofs.YtndbpmhdpjlncaaDoor
open Go.RowKit Go.Shelf

attribute [local go_sem] Oper.semAt_some

set_option maxHeartbeats 400000 in
theorem list_any (s : Nat) (w : World) (hs : s < 18446744073709551616) (hE : Env w) :
    Calls Tryd.prog 24 #[.int .u64 s] w fun e w' => ∃ v, e = .returned v ∧ w'.ownsRow w.heap.size 3 1 v (items s).length ((items s).map encI) ∧ Below w.heap.size w w' := by
  have hB0 : Below w.heap.size w (w.alloc (.cells #[.int .u64 s] 22)) := (Below.refl _ w).alloc (Nat.le_refl _) _
  have hE1 := hE.below hB0 hE.size
  have h := collectI 59 #[.pointer (some ⟨w.heap.size, 0, none⟩)] (enters_of Tryd.func59 (by kernel_rfl) rfl) (cnt s) (items s) (by have := cnt_le s; omega) (w.alloc (.cells #[.int .u64 s] 22))
    (items_stops Fence.wide 2 (fun _ => trivial) (fun h => callsIn_wide.2 h) rfl (by omega) w.heap.size _ s hs (by have := hE1.size; omega) _ (by simp) (Boxed.new w 22 (.int .u64 s)).cell hE1)
  have HC := Lib.hid h; clear h
  have HI := Lib.hid (callsIn_wide.1 (items_in Fence.wide 2 (fun _ => trivial) rfl s w))
  go_enter Tryd.func24, Tryd.ntmps24
  go_wp2_with (first | (go_at_call 38; refine HI.out.mono ?_; rintro e w' ⟨rfl, rfl⟩) | (go_at_call 37; refine HC.out.mono ?_; rintro e w1 ⟨v, rfl, h1, _, h3⟩))
  go_ret
  refine ⟨_, rfl, ⟨h1.1, ?_⟩, hB0.trans (h3.mono (by simp))⟩
  rcases h1.2 with h | ⟨g, cap, cur, e1, e2, e3⟩
  · exact .inl h
  · exact .inr ⟨g, cap, cur, e1, by simp at e2; omega, e3⟩

/-- Which number, which set stands before the other. -/
def cmpV (a b : Int) : Int := if a < b then -1 else if b < a then 1 else 0
def cmpS (a b : Nat) : Int := if cmpV (cnt a) (cnt b) = 0 then cmpV a b else cmpV (cnt a) (cnt b)

theorem cmpV_lt {a b : Int} (h : a < b) : cmpV a b = -1 := if_pos h
theorem cmpV_gt {a b : Int} (h : b < a) : cmpV a b = 1 := by unfold cmpV; rw [if_neg (by omega), if_pos h]
theorem cmpV_eq {a b : Int} (h : a = b) : cmpV a b = 0 := by unfold cmpV; rw [if_neg (by omega), if_neg (by omega)]

set_option maxHeartbeats 400000 in
theorem nan_any (a : Int) (w : World) : Calls Tryd.prog 67 #[.int .u64 a] w fun e w' => e = .returned (.bool false) ∧ w = w' := by
  have h : (a != a) = false := by simp
  go_enter Tryd.func67, Tryd.ntmps67
  go_wp2
  go_ret
  exact ⟨by first | rfl | exact ret_bool h, rfl⟩

set_option maxHeartbeats 400000 in
theorem compareU_any (a b : Int) (w : World) : Calls Tryd.prog 46 #[.int .u64 a, .int .u64 b] w fun e w' => e = .returned (.int .i64 (cmpV a b)) ∧ w = w' := by
  by_cases h1 : a < b
  · rw [cmpV_lt h1]
    go_enter Tryd.func46, Tryd.ntmps46
    go_wp2_with (go_at_call 67; refine (nan_any _ _).mono ?_; rintro e w' ⟨rfl, rfl⟩)
    go_ret
    exact ⟨rfl, rfl⟩
  · by_cases h2 : b < a
    · rw [cmpV_gt h2]
      go_enter Tryd.func46, Tryd.ntmps46
      go_wp2_with (go_at_call 67; refine (nan_any _ _).mono ?_; rintro e w' ⟨rfl, rfl⟩)
      go_ret
      exact ⟨rfl, rfl⟩
    · rw [cmpV_eq (by omega)]
      go_enter Tryd.func46, Tryd.ntmps46
      go_wp2_with (go_at_call 67; refine (nan_any _ _).mono ?_; rintro e w' ⟨rfl, rfl⟩)
      go_ret
      exact ⟨rfl, rfl⟩
theorem compareI_any (a b : Int) (w : World) : Calls Tryd.prog 45 #[.int .i64 a, .int .i64 b] w fun e w' => e = .returned (.int .i64 (cmpV a b)) ∧ w = w' := by
  refine (Tryd.cmp_Compare_int a b w).mono ?_
  rintro e w' ⟨rfl, rfl⟩
  exact ⟨rfl, rfl⟩

def orV (x y : Int) : Int := if x = 0 then y else x
set_option maxHeartbeats 400000 in
theorem or_any (B : Nat) (x y : Int) (w : World) (h0 : w.cell? ⟨B, 0, none⟩ = some (.int .i64 x)) (h1 : w.cell? ⟨B, 1, none⟩ = some (.int .i64 y)) :
    Calls Tryd.prog 44 #[.slice (some ⟨B, 0, none⟩) 2 2] w fun e w' => e = .returned (.int .i64 (orV x y)) ∧ w = w' := by
  by_cases hx : x = 0
  · subst hx
    rw [show orV 0 y = y from if_pos rfl]
    by_cases hy : y = 0
    · subst hy
      go_enter Tryd.func44, Tryd.ntmps44
      go_wp2
      go_loop [8] (fun i => ∃ k : Nat, k ≤ 2 ∧ i = .int .i64 k) (fun i => 2 - (intOf i).toNat)
      case atStart => exact ⟨0, by omega, rfl⟩
      case round =>
        obtain ⟨k, hk, rfl⟩ := hrel
        rcases (show k = 0 ∨ k = 1 ∨ k = 2 by omega) with rfl | rfl | rfl
        · go_wp2
          go_round
          case rel => exact ⟨1, by omega, rfl⟩
          case measure => simp [intOf]
        · go_wp2
          go_round
          case rel => exact ⟨2, by omega, rfl⟩
          case measure => simp [intOf]
        · go_wp2
          go_ret
          exact ⟨rfl, rfl⟩
    · have hy' : (y != 0) = true := by rw [bne_iff_ne]; exact hy
      clear hy
      go_enter Tryd.func44, Tryd.ntmps44
      go_wp2
      go_loop [8] (fun i => ∃ k : Nat, k ≤ 1 ∧ i = .int .i64 k) (fun i => 2 - (intOf i).toNat)
      case atStart => exact ⟨0, by omega, rfl⟩
      case round =>
        obtain ⟨k, hk, rfl⟩ := hrel
        rcases (show k = 0 ∨ k = 1 by omega) with rfl | rfl
        · go_wp2
          go_round
          case rel => exact ⟨1, by omega, rfl⟩
          case measure => simp [intOf]
        · go_wp2
          go_ret
          exact ⟨rfl, rfl⟩
  · rw [show orV x y = x from if_neg hx]
    have hx' : (x != 0) = true := by rw [bne_iff_ne]; exact hx
    clear hx
    go_enter Tryd.func44, Tryd.ntmps44
    go_wp2
    go_loop [8] (fun i => i = .int .i64 0) (fun i => 2 - (intOf i).toNat)
    case atStart => exact rfl
    case round =>
      obtain rfl := hrel
      go_wp2
      go_ret
      exact ⟨rfl, rfl⟩

set_option maxHeartbeats 400000 in
theorem cmp_any (a b : Nat) (w : World) (ha : a < 18446744073709551616) (hb : b < 18446744073709551616) :
    Calls Tryd.prog 20 #[.int .u64 a, .int .u64 b] w fun e w' => e = .returned (.int .i64 (cmpS a b)) ∧ Below w.heap.size w w' := by
  have hor : cmpS a b = orV (cmpV (cnt a) (cnt b)) (cmpV a b) := rfl
  rw [hor]
  clear hor
  have HO : ∀ x y : Int, Hid (Calls Tryd.prog 44 #[.slice (some ⟨w.heap.size, 0, none⟩) 2 2] (w.alloc (.cells #[.int .i64 x, .int .i64 y] 3)) fun e w' => e = .returned (.int .i64 (orV x y)) ∧ (w.alloc (.cells #[.int .i64 x, .int .i64 y] 3)) = w') :=
    fun x y => Lib.hid (or_any _ x y _ (cell_new_row _ _ _ 0) (cell_new_row _ _ _ 1))
  have HO' := Lib.hid HO; clear HO
  go_enter Tryd.func20, Tryd.ntmps20
  go_wp2_with (first | (go_at_call 14; refine (count_any _ _ (by assumption)).mono ?_; rintro e w' ⟨rfl, rfl⟩) | (go_at_call 45; refine (compareI_any _ _ _).mono ?_; rintro e w' ⟨rfl, rfl⟩) | (go_at_call 46; refine (compareU_any _ _ _).mono ?_; rintro e w' ⟨rfl, rfl⟩) | (go_at_call 44; refine ((HO'.out _ _).out).mono ?_; rintro e w' ⟨rfl, rfl⟩))
  go_ret
  exact ⟨rfl, (Below.refl _ _).alloc (Nat.le_refl _) _⟩

end Go.Proofs.YtndbpmhdpjlncaaDoor
