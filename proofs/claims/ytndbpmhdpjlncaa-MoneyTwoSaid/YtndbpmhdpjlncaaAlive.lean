/- The document's examples of layer 1 are answered as it says. -/
import Derived.Test.YtndbpmhdpjlncaaSum
namespace Go.Proofs.Ytndbpmhdpjlncaa
open Go.RowKit

theorem cell_new_row (w : World) (cs : Array Value) (t : TypeId) (j : Nat) : (w.alloc (.cells cs t)).cell? ⟨w.heap.size, j, none⟩ = cs[j]? := by
  have h := World.alloc_heap_new w (.cells cs t)
  simp only [World.cell?]
  rw [h]
  rfl

set_option maxRecDepth 100000 in
set_option maxHeartbeats 1000000 in
theorem alive_any (w : World) : Calls Try.prog 6 #[] w fun e w' => e = .returned (.bool true) ∧ Below w.heap.size w w' := by
  have e1 : addV 140737488355328 0 = 140737488355328 := by decide +kernel
  have e2 : addB 140737488355328 0 = true := by decide +kernel
  have e3 : addB 140737488355328 1 = false := by decide +kernel
  have e4 : mulV (-3) 5 = -15 := by decide +kernel
  have e5 : mulB (-3) 5 = true := by decide +kernel
  have e6 : ceilV 7 2 = 4 := by decide +kernel
  have e7 : floorV 7 2 = 3 := by decide +kernel
  have e8 : rightB 1099511627776 = true := by decide +kernel
  have e9 : rightB (-1) = false := by decide +kernel
  have e10 : clampV (-5) = 0 := by decide +kernel
  have e11 : runSum [1, 2, 3] = some 6 := by decide +kernel
  have hc : ∀ j, j < 3 → (w.alloc (.cells #[.int .i64 1, .int .i64 2, .int .i64 3] 2)).cell? ⟨w.heap.size, 0 + j, none⟩ = some (.int .i64 (([1, 2, 3] : List Int)[j]?.getD 0)) := by
    intro j hj
    match j, hj with
    | 0, _ => rw [cell_new_row]; rfl
    | 1, _ => rw [cell_new_row]; rfl
    | 2, _ => rw [cell_new_row]; rfl
  have HI : Hid (Vals.Ints (w.alloc (.cells #[.int .i64 1, .int .i64 2, .int .i64 3] 2)).heap.size (w.alloc (.cells #[.int .i64 1, .int .i64 2, .int .i64 3] 2)) (.slice (some ⟨w.heap.size, 0, none⟩) 3 3) [1, 2, 3]) :=
    Lib.hid (.inr ⟨w.heap.size, 0, 3, rfl, by simp, hc⟩)
  have hB0 : Below w.heap.size w (w.alloc (.cells #[.int .i64 1, .int .i64 2, .int .i64 3] 2)) := (Below.refl _ w).alloc (Nat.le_refl _) _
  clear hc
  go_enter Try.func6, Try.ntmps6
  go_wp2_with (first | (go_at_call 7; refine (add_any _ _ _).mono ?_; rintro e w' ⟨rfl, rfl⟩) | (go_at_call 11; refine (mul_any _ _ _ (by decide) (by decide) (by decide) (by decide)).mono ?_; rintro e w' ⟨rfl, rfl⟩) | (go_at_call 13; refine (ceil_any _ _ _ (by decide) (by decide) (by decide) (by decide)).mono ?_; rintro e w' ⟨rfl, rfl⟩) | (go_at_call 15; refine (floor_any _ _ _ (by decide) (by decide) (by decide) (by decide)).mono ?_; rintro e w' ⟨rfl, rfl⟩) | (go_at_call 17; refine (right_any _ _).mono ?_; rintro e w' ⟨rfl, rfl⟩) | (go_at_call 19; refine (clamp_any _ _).mono ?_; rintro e w' ⟨rfl, rfl⟩) | (go_at_call 21; refine (total_any _ _ _ [1, 2, 3] (by decide) _ HI.out).mono ?_; rintro e w1 ⟨rfl, hb⟩))
  go_ret
  exact ⟨rfl, hB0.trans (hb.mono (by simp))⟩

end Go.Proofs.Ytndbpmhdpjlncaa
