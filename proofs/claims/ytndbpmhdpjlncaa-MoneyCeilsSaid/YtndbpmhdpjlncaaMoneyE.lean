/- The contract of the document's own product. -/
import Derived.Test.YtndbpmhdpjlncaaMoneyD
namespace Go.Proofs.Ytndbpmhdpjlncaa
open Go.RowKit

theorem room_le {x n : Int} (hx : 1 ≤ x) : n ≤ 140737488355328 / x ↔ n * x ≤ 140737488355328 := Int.le_ediv_iff_mul_le (by omega)
theorem room_ge {x n : Int} (hx : 1 ≤ x) : -(140737488355328 / x) ≤ n ↔ -140737488355328 ≤ n * x := by
  have h := room_le (n := -n) hx
  rw [Int.neg_mul] at h
  omega
theorem room_bd {x : Int} (hx : 1 ≤ x) : 0 ≤ 140737488355328 / x ∧ 140737488355328 / x ≤ 140737488355328 :=
  ⟨Int.ediv_nonneg (by omega) (by omega), Int.ediv_le_self _ (by omega)⟩

set_option maxHeartbeats 400000 in
theorem refMul_any (a n : Int) (w : World) :
    Calls Try.prog 12 #[.int .i64 a, .int .i64 n] w fun e w' => e = .returned (.tuple #[.int .i64 (mulV a n), .bool (mulB a n)]) ∧ w = w' := by
  cases hA : sumB a with
  | false =>
    have hb : mulB a n = false := by simp [mulB, hA]
    rw [mulB_no hb, hb]
    clear hb
    go_enter Try.func12, Try.ntmps12
    go_wp2_with (go_at_call 23; refine (refIsSum_any _ _).mono ?_; rintro e w' ⟨rfl, rfl⟩)
    go_ret2
    exact ⟨rfl, rfl⟩
  | true =>
    obtain ⟨a1, a2⟩ := sumB_t hA
    by_cases h0 : a = 0
    · have hb : mulB a n = true := by subst h0; simp [mulB, hA]
      have hv : a * n = 0 := by subst h0; simp
      rw [mulB_eq hb, hb, hv]
      clear hb hv
      have h0' : (a == 0) = true := by rw [beq_iff_eq]; exact h0
      clear h0
      go_enter Try.func12, Try.ntmps12
      go_wp2_with (go_at_call 23; refine (refIsSum_any _ _).mono ?_; rintro e w' ⟨rfl, rfl⟩)
      go_ret2
      exact ⟨rfl, rfl⟩
    · have h0' : (a == 0) = false := by rw [beq_eq_false_iff_ne]; exact h0
      by_cases hn : n = 0
      · have hb : mulB a n = true := by subst hn; simp [mulB, hA]; decide
        have hv : a * n = 0 := by subst hn; simp
        rw [mulB_eq hb, hb, hv]
        clear hb hv
        have hn' : (n == 0) = true := by rw [beq_iff_eq]; exact hn
        clear h0 hn
        go_enter Try.func12, Try.ntmps12
        go_wp2_with (go_at_call 23; refine (refIsSum_any _ _).mono ?_; rintro e w' ⟨rfl, rfl⟩)
        go_ret2
        exact ⟨rfl, rfl⟩
      · have hn' : (n == 0) = false := by rw [beq_eq_false_iff_ne]; exact hn
        by_cases hs : a < 0
        · obtain ⟨m, rfl⟩ : ∃ m, a = -m := ⟨-a, by omega⟩
          have hx : 1 ≤ m := by omega
          have l1 := room_le (n := n) hx
          have l2 := room_ge (n := n) hx
          obtain ⟨r1, r2⟩ := room_bd hx
          have hm : n * m = -(-m * n) := by rw [Int.neg_mul, Int.neg_neg, Int.mul_comm]
          cases hC : sumB (-m * n) with
          | true =>
            have hb : mulB (-m) n = true := by simp [mulB, hA, hC]
            rw [mulB_eq hb, hb]
            obtain ⟨c1, c2⟩ := sumB_t hC
            rw [hm] at l1 l2
            have k1 : n ≤ 140737488355328 / m := l1.2 (by omega)
            have k2 : -(140737488355328 / m) ≤ n := l2.2 (by omega)
            clear hb h0 hn hm l1 l2 hC
            go_enter Try.func12, Try.ntmps12
            go_wp2_with (go_at_call 23; refine (refIsSum_any _ _).mono ?_; rintro e w' ⟨rfl, rfl⟩)
            go_ret2
            exact ⟨rfl, rfl⟩
          | false =>
            have hb : mulB (-m) n = false := by simp [mulB, hA, hC]
            rw [mulB_no hb, hb]
            have c := sumB_f hC
            rw [hm] at l1 l2
            by_cases k1 : 140737488355328 / m < n
            · clear hb h0 hn hm l1 l2 hC c
              go_enter Try.func12, Try.ntmps12
              go_wp2_with (go_at_call 23; refine (refIsSum_any _ _).mono ?_; rintro e w' ⟨rfl, rfl⟩)
              go_ret2
              exact ⟨rfl, rfl⟩
            · have k2 : n < -(140737488355328 / m) := by omega
              clear hb h0 hn hm l1 l2 hC c
              go_enter Try.func12, Try.ntmps12
              go_wp2_with (go_at_call 23; refine (refIsSum_any _ _).mono ?_; rintro e w' ⟨rfl, rfl⟩)
              go_ret2
              exact ⟨rfl, rfl⟩
        · have hx : 1 ≤ a := by omega
          have l1 := room_le (n := n) hx
          have l2 := room_ge (n := n) hx
          obtain ⟨r1, r2⟩ := room_bd hx
          have hm : n * a = a * n := Int.mul_comm _ _
          cases hC : sumB (a * n) with
          | true =>
            have hb : mulB a n = true := by simp [mulB, hA, hC]
            rw [mulB_eq hb, hb]
            obtain ⟨c1, c2⟩ := sumB_t hC
            rw [hm] at l1 l2
            have k1 : n ≤ 140737488355328 / a := l1.2 (by omega)
            have k2 : -(140737488355328 / a) ≤ n := l2.2 (by omega)
            clear hb h0 hn hm l1 l2 hC
            go_enter Try.func12, Try.ntmps12
            go_wp2_with (go_at_call 23; refine (refIsSum_any _ _).mono ?_; rintro e w' ⟨rfl, rfl⟩)
            go_ret2
            exact ⟨rfl, rfl⟩
          | false =>
            have hb : mulB a n = false := by simp [mulB, hA, hC]
            rw [mulB_no hb, hb]
            have c := sumB_f hC
            rw [hm] at l1 l2
            by_cases k1 : 140737488355328 / a < n
            · clear hb h0 hn hm l1 l2 hC c
              go_enter Try.func12, Try.ntmps12
              go_wp2_with (go_at_call 23; refine (refIsSum_any _ _).mono ?_; rintro e w' ⟨rfl, rfl⟩)
              go_ret2
              exact ⟨rfl, rfl⟩
            · have k2 : n < -(140737488355328 / a) := by omega
              clear hb h0 hn hm l1 l2 hC c
              go_enter Try.func12, Try.ntmps12
              go_wp2_with (go_at_call 23; refine (refIsSum_any _ _).mono ?_; rintro e w' ⟨rfl, rfl⟩)
              go_ret2
              exact ⟨rfl, rfl⟩

end Go.Proofs.Ytndbpmhdpjlncaa
