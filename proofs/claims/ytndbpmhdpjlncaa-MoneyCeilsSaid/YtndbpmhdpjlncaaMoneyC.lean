/- Contracts of money.Ceil and of the document's own answer for it. -/
import Derived.Test.YtndbpmhdpjlncaaMoneyB
namespace Go.Proofs.Ytndbpmhdpjlncaa
open Go.RowKit

def ceilV (a b : Int) : Int := if posI a % oneI b = 0 then floorV a b else floorV a b + 1
theorem ceil_nn {a b : Int} (h1 : a < 0) : ceilV a b = 0 := by
  unfold ceilV; rw [posI_n h1, floor_nn h1]; simp
theorem ceil_yn {a b : Int} (h1 : 0 ≤ a) (h2 : b < 1) : ceilV a b = a := by
  unfold ceilV; rw [posI_y h1, oneI_n h2, floor_yn h1 h2]; simp
theorem ceil_y0 {a b : Int} (h1 : 0 ≤ a) (h2 : 1 ≤ b) (h3 : a % b = 0) : ceilV a b = a / b := by
  unfold ceilV; rw [posI_y h1, oneI_y h2, floor_yy h1 h2, if_pos h3]
theorem ceil_y1 {a b : Int} (h1 : 0 ≤ a) (h2 : 1 ≤ b) (h3 : a % b ≠ 0) : ceilV a b = a / b + 1 := by
  unfold ceilV; rw [posI_y h1, oneI_y h2, floor_yy h1 h2, if_neg h3]
theorem div_bd {a b : Int} (h1 : 0 ≤ a) (h2 : 1 ≤ b) : 0 ≤ a / b ∧ a / b ≤ a :=
  ⟨Int.ediv_nonneg h1 (by omega), Int.ediv_le_self _ h1⟩
theorem div_bd1 {a b : Int} (h1 : 0 ≤ a) (h2 : 1 ≤ b) (h3 : a % b ≠ 0) : a / b + 1 ≤ a := by
  have hb : b ≠ 1 := by intro e; subst e; simp at h3
  have h := Int.mul_ediv_add_emod a b
  have hm : 0 ≤ a % b := Int.emod_nonneg _ (by omega)
  obtain ⟨q0, q1⟩ := div_bd h1 h2
  have : (2 : Int) * (a / b) ≤ b * (a / b) := Int.mul_le_mul_of_nonneg_right (by omega) q0
  omega
theorem mul_div_le {a b : Int} (h1 : 0 ≤ a) (h2 : 1 ≤ b) : 0 ≤ a / b * b ∧ a / b * b ≤ a := by
  have h := Int.mul_ediv_add_emod a b
  have hm : 0 ≤ a % b := Int.emod_nonneg _ (by omega)
  have hc := Int.mul_comm b (a / b)
  exact ⟨Int.mul_nonneg (div_bd h1 h2).1 (by omega), by omega⟩
theorem mul_div_lt {a b : Int} (_h1 : 0 ≤ a) (h2 : 1 ≤ b) (h3 : a % b ≠ 0) : a / b * b < a := by
  have h := Int.mul_ediv_add_emod a b
  have hm : 0 ≤ a % b := Int.emod_nonneg _ (by omega)
  have hc := Int.mul_comm b (a / b)
  omega
theorem mul_div_eq {a b : Int} (h3 : a % b = 0) : a / b * b = a := by
  have h := Int.mul_ediv_add_emod a b
  have hc := Int.mul_comm b (a / b)
  omega

set_option maxHeartbeats 400000 in
theorem ceil_any (a b : Int) (w : World) (ha1 : -9223372036854775808 ≤ a) (ha2 : a ≤ 9223372036854775807) (hb1 : -9223372036854775808 ≤ b) (hb2 : b ≤ 9223372036854775807) :
    Calls Try.prog 13 #[.int .i64 a, .int .i64 b] w fun e w' => e = .returned (.int .i64 (ceilV a b)) ∧ w = w' := by
  by_cases h1 : a < 0
  · have e1 : ceilV a b = 0 := ceil_nn h1
    rw [e1]; clear e1
    have h1' : a ≤ 0 := by omega
    by_cases h2 : b < 1
    · have h2' : b ≤ 1 := by omega
      go_enter Try.func13, Try.ntmps13
      go_wp2
      all_goals (go_ret; exact ⟨rfl, rfl⟩)
    · have h2' : 1 ≤ b := by omega
      go_enter Try.func13, Try.ntmps13
      go_wp2
      all_goals (go_ret; exact ⟨rfl, rfl⟩)
  · have h1' : 0 ≤ a := by omega
    by_cases h2 : b < 1
    · have e1 : ceilV a b = a := ceil_yn h1' h2
      rw [e1]; clear e1
      have h2' : b ≤ 1 := by omega
      go_enter Try.func13, Try.ntmps13
      go_wp2
      all_goals (go_ret; exact ⟨ret_int (by first | rfl | omega), rfl⟩)
    · have h2' : 1 ≤ b := by omega
      by_cases h3 : a % b = 0
      · have e1 : ceilV a b = a / b := ceil_y0 h1' h2' h3
        rw [e1]; clear e1
        have h4 : (a % b != 0) = false := by rw [h3]; rfl
        clear h3
        go_enter Try.func13, Try.ntmps13
        go_wp2
        all_goals (go_ret; exact ⟨ret_int (by first | rfl | omega), rfl⟩)
      · have e1 : ceilV a b = a / b + 1 := ceil_y1 h1' h2' h3
        rw [e1]; clear e1
        have h5 := div_bd1 h1' h2' h3
        obtain ⟨h6, h7⟩ := div_bd h1' h2'
        have h8 : a / b + 1 ≤ 9223372036854775807 := by omega
        have h4 : (a % b != 0) = true := by rw [bne_iff_ne]; exact h3
        clear h3 h5
        go_enter Try.func13, Try.ntmps13
        go_wp2
        all_goals (go_ret; exact ⟨ret_int (by first | rfl | omega), rfl⟩)

theorem refFloor_v (a b v : Int) (w : World) (ha1 : -9223372036854775808 ≤ a) (ha2 : a ≤ 9223372036854775807) (hb1 : -9223372036854775808 ≤ b) (hb2 : b ≤ 9223372036854775807) (h : Hid (floorV a b = v)) :
    Calls Try.prog 16 #[.int .i64 a, .int .i64 b] w fun e w' => e = .returned (.int .i64 v) ∧ w = w' := by
  have := refFloor_any a b w ha1 ha2 hb1 hb2
  rw [h.out] at this
  exact this

set_option maxHeartbeats 400000 in
theorem refCeil_any (a b : Int) (w : World) (ha1 : -9223372036854775808 ≤ a) (ha2 : a ≤ 9223372036854775807) (hb1 : -9223372036854775808 ≤ b) (hb2 : b ≤ 9223372036854775807) :
    Calls Try.prog 14 #[.int .i64 a, .int .i64 b] w fun e w' => e = .returned (.int .i64 (ceilV a b)) ∧ w = w' := by
  by_cases h1 : a < 0
  · have e1 : ceilV a b = 0 := ceil_nn h1
    rw [e1]; clear e1
    have h1' : a ≤ 0 := by omega
    have HF : Hid (floorV a b = 0) := Lib.hid (floor_nn h1)
    go_enter Try.func14, Try.ntmps14
    go_wp2_with (go_at_call 16; refine (refFloor_v _ _ 0 _ ha1 ha2 hb1 hb2 HF).mono ?_; rintro e w' ⟨rfl, rfl⟩)
    all_goals (go_ret; exact ⟨rfl, rfl⟩)
  · have h1' : 0 ≤ a := by omega
    by_cases h2 : b < 1
    · have e1 : ceilV a b = a := ceil_yn h1' h2
      rw [e1]; clear e1
      have HF : Hid (floorV a b = a) := Lib.hid (floor_yn h1' h2)
      go_enter Try.func14, Try.ntmps14
      go_wp2_with (go_at_call 16; refine (refFloor_v _ _ a _ ha1 ha2 hb1 hb2 HF).mono ?_; rintro e w' ⟨rfl, rfl⟩)
      all_goals (go_ret; exact ⟨ret_int (by first | rfl | omega), rfl⟩)
    · have h2' : 1 ≤ b := by omega
      have HF : Hid (floorV a b = a / b) := Lib.hid (floor_yy h1' h2')
      obtain ⟨h6, h7⟩ := div_bd h1' h2'
      obtain ⟨h8, h9⟩ := mul_div_le h1' h2'
      have h10 : a / b * b ≤ 9223372036854775807 := by omega
      by_cases h3 : a % b = 0
      · have e1 : ceilV a b = a / b := ceil_y0 h1' h2' h3
        rw [e1]; clear e1
        have h4 : ¬ a / b * b < a := by rw [mul_div_eq h3]; omega
        clear h3
        go_enter Try.func14, Try.ntmps14
        go_wp2_with (go_at_call 16; refine (refFloor_v _ _ (a / b) _ ha1 ha2 hb1 hb2 HF).mono ?_; rintro e w' ⟨rfl, rfl⟩)
        all_goals (go_ret; exact ⟨ret_int (by first | rfl | omega), rfl⟩)
      · have e1 : ceilV a b = a / b + 1 := ceil_y1 h1' h2' h3
        rw [e1]; clear e1
        have h5 := div_bd1 h1' h2' h3
        have h11 : a / b + 1 ≤ 9223372036854775807 := by omega
        have h4 : a / b * b < a := mul_div_lt h1' h2' h3
        have h12 : 0 < a := by omega
        clear h3 h5
        go_enter Try.func14, Try.ntmps14
        go_wp2_with (go_at_call 16; refine (refFloor_v _ _ (a / b) _ ha1 ha2 hb1 hb2 HF).mono ?_; rintro e w' ⟨rfl, rfl⟩)
        all_goals (go_ret; exact ⟨ret_int (by first | rfl | omega), rfl⟩)

end Go.Proofs.Ytndbpmhdpjlncaa
