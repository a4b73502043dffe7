/- Contracts of the calls of package money, and of the document's own answers for it, that divide, compare or clamp. -/
import Derived.Test.YtndbpmhdpjlncaaMoneyA
namespace Go.Proofs.Ytndbpmhdpjlncaa
open Go.RowKit

def posI (a : Int) : Int := if 0 ≤ a then a else 0
def oneI (b : Int) : Int := if 1 ≤ b then b else 1
theorem posI_y {a : Int} (h : 0 ≤ a) : posI a = a := if_pos h
theorem posI_n {a : Int} (h : a < 0) : posI a = 0 := if_neg (by omega)
theorem oneI_y {a : Int} (h : 1 ≤ a) : oneI a = a := if_pos h
theorem oneI_n {a : Int} (h : a < 1) : oneI a = 1 := if_neg (by omega)
def floorV (a b : Int) : Int := posI a / oneI b
theorem floor_nn {a b : Int} (h1 : a < 0) : floorV a b = 0 := by
  unfold floorV; rw [posI_n h1]; simp
theorem floor_yn {a b : Int} (h1 : 0 ≤ a) (h2 : b < 1) : floorV a b = a := by
  unfold floorV; rw [posI_y h1, oneI_n h2]; simp
theorem floor_yy {a b : Int} (h1 : 0 ≤ a) (h2 : 1 ≤ b) : floorV a b = a / b := by
  unfold floorV; rw [posI_y h1, oneI_y h2]

set_option maxHeartbeats 400000 in
theorem floor_any (a b : Int) (w : World) (ha1 : -9223372036854775808 ≤ a) (ha2 : a ≤ 9223372036854775807) (hb1 : -9223372036854775808 ≤ b) (hb2 : b ≤ 9223372036854775807) :
    Calls Try.prog 15 #[.int .i64 a, .int .i64 b] w fun e w' => e = .returned (.int .i64 (floorV a b)) ∧ w = w' := by
  by_cases h1 : a < 0
  · have e1 : floorV a b = 0 := floor_nn h1
    rw [e1]; clear e1
    have h1' : a ≤ 0 := by omega
    go_enter Try.func15, Try.ntmps15
    go_wp2
    all_goals (go_ret; exact ⟨rfl, rfl⟩)
  · have h1' : 0 ≤ a := by omega
    by_cases h2 : b < 1
    · have e1 : floorV a b = a := floor_yn h1' h2
      rw [e1]; clear e1
      go_enter Try.func15, Try.ntmps15
      go_wp2
      all_goals (go_ret; exact ⟨ret_int (by first | rfl | omega), rfl⟩)
    · have h2' : 1 ≤ b := by omega
      have e1 : floorV a b = a / b := floor_yy h1' h2'
      rw [e1]; clear e1
      go_enter Try.func15, Try.ntmps15
      go_wp2
      all_goals (go_ret; exact ⟨ret_int (by first | rfl | omega), rfl⟩)

set_option maxHeartbeats 400000 in
theorem refFloor_any (a b : Int) (w : World) (ha1 : -9223372036854775808 ≤ a) (ha2 : a ≤ 9223372036854775807) (hb1 : -9223372036854775808 ≤ b) (hb2 : b ≤ 9223372036854775807) :
    Calls Try.prog 16 #[.int .i64 a, .int .i64 b] w fun e w' => e = .returned (.int .i64 (floorV a b)) ∧ w = w' := by
  by_cases h1 : a < 0
  · have e1 : floorV a b = 0 := floor_nn h1
    rw [e1]; clear e1
    by_cases h2 : b < 1
    · go_enter Try.func16, Try.ntmps16
      go_wp2
      all_goals (go_ret; exact ⟨rfl, rfl⟩)
    · have h2' : 1 ≤ b := by omega
      go_enter Try.func16, Try.ntmps16
      go_wp2
      all_goals (go_ret; exact ⟨ret_int (by first | rfl | simp), rfl⟩)
  · have h1' : 0 ≤ a := by omega
    by_cases h2 : b < 1
    · have e1 : floorV a b = a := floor_yn h1' h2
      rw [e1]; clear e1
      go_enter Try.func16, Try.ntmps16
      go_wp2
      all_goals (go_ret; exact ⟨ret_int (by first | rfl | omega), rfl⟩)
    · have h2' : 1 ≤ b := by omega
      have e1 : floorV a b = a / b := floor_yy h1' h2'
      rw [e1]; clear e1
      go_enter Try.func16, Try.ntmps16
      go_wp2
      all_goals (go_ret; exact ⟨ret_int (by first | rfl | omega), rfl⟩)

def rightB (n : Int) : Bool := decide (0 ≤ n ∧ n ≤ 1099511627776)

set_option maxHeartbeats 400000 in
theorem right_any (n : Int) (w : World) :
    Calls Try.prog 17 #[.int .i64 n] w fun e w' => e = .returned (.bool (rightB n)) ∧ w = w' := by
  by_cases h1 : 0 ≤ n
  · by_cases h2 : n ≤ 1099511627776
    · rw [show rightB n = true from decide_eq_true ⟨h1, h2⟩]
      go_enter Try.func17, Try.ntmps17
      go_wp2
      go_ret
      exact ⟨rfl, rfl⟩
    · rw [show rightB n = false from decide_eq_false (by omega)]
      go_enter Try.func17, Try.ntmps17
      go_wp2
      go_ret
      exact ⟨rfl, rfl⟩
  · rw [show rightB n = false from decide_eq_false (by omega)]
    go_enter Try.func17, Try.ntmps17
    go_wp2
    go_ret
    exact ⟨rfl, rfl⟩

set_option maxHeartbeats 400000 in
theorem refRight_any (n : Int) (w : World) :
    Calls Try.prog 18 #[.int .i64 n] w fun e w' => e = .returned (.bool (rightB n)) ∧ w = w' := by
  by_cases h1 : 0 ≤ n
  · by_cases h2 : n ≤ 1099511627776
    · rw [show rightB n = true from decide_eq_true ⟨h1, h2⟩]
      go_enter Try.func18, Try.ntmps18
      go_wp2
      go_ret
      exact ⟨rfl, rfl⟩
    · rw [show rightB n = false from decide_eq_false (by omega)]
      go_enter Try.func18, Try.ntmps18
      go_wp2
      go_ret
      exact ⟨rfl, rfl⟩
  · rw [show rightB n = false from decide_eq_false (by omega)]
    go_enter Try.func18, Try.ntmps18
    go_wp2
    go_ret
    exact ⟨rfl, rfl⟩

def clampV (n : Int) : Int := if n < 0 then 0 else if 1099511627776 < n then 1099511627776 else n
theorem clamp_bd (n : Int) : 0 ≤ clampV n ∧ clampV n ≤ 1099511627776 := by unfold clampV; split <;> (try split) <;> omega

set_option maxHeartbeats 400000 in
theorem clamp_any (n : Int) (w : World) :
    Calls Try.prog 19 #[.int .i64 n] w fun e w' => e = .returned (.int .i64 (clampV n)) ∧ w = w' := by
  by_cases h1 : n < 0
  · rw [show clampV n = 0 from if_pos h1]
    have h0 : n ≤ 0 := by omega
    go_enter Try.func19, Try.ntmps19
    go_wp2
    all_goals (go_ret; exact ⟨ret_int (by first | rfl | omega), rfl⟩)
  · by_cases h2 : 1099511627776 < n
    · rw [show clampV n = 1099511627776 from by unfold clampV; rw [if_neg h1, if_pos h2]]
      go_enter Try.func19, Try.ntmps19
      go_wp2
      all_goals (go_ret; exact ⟨ret_int (by first | rfl | omega), rfl⟩)
    · rw [show clampV n = n from by unfold clampV; rw [if_neg h1, if_neg h2]]
      go_enter Try.func19, Try.ntmps19
      go_wp2
      all_goals (go_ret; exact ⟨ret_int (by first | rfl | omega), rfl⟩)

set_option maxHeartbeats 400000 in
theorem refClamp_any (n : Int) (w : World) :
    Calls Try.prog 20 #[.int .i64 n] w fun e w' => e = .returned (.int .i64 (clampV n)) ∧ w = w' := by
  by_cases h1 : n < 0
  · rw [show clampV n = 0 from if_pos h1]
    go_enter Try.func20, Try.ntmps20
    go_wp2
    all_goals (go_ret; exact ⟨ret_int (by first | rfl | omega), rfl⟩)
  · by_cases h2 : 1099511627776 < n
    · rw [show clampV n = 1099511627776 from by unfold clampV; rw [if_neg h1, if_pos h2]]
      go_enter Try.func20, Try.ntmps20
      go_wp2
      all_goals (go_ret; exact ⟨ret_int (by first | rfl | omega), rfl⟩)
    · rw [show clampV n = n from by unfold clampV; rw [if_neg h1, if_neg h2]]
      go_enter Try.func20, Try.ntmps20
      go_wp2
      all_goals (go_ret; exact ⟨ret_int (by first | rfl | omega), rfl⟩)

end Go.Proofs.Ytndbpmhdpjlncaa
