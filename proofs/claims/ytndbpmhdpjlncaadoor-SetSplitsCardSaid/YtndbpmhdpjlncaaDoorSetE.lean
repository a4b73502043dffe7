/- The contract of the document's list of a set's items. -/
import Derived.Test.YtndbpmhdpjlncaaDoorSetD
import Derived.Test.YtndbpmhdpjlncaaDoorLists
namespace Go.Proofs.YtndbpmhdpjlncaaDoor
open Go.RowKit

theorem infoInt : (Tryd.prog.info? 3).map (fun i => (i.zero, i.size, i.bytes)) = some (some (.int .i64 0), 1, 8) := by kernel_rfl
def encI (n : Nat) : Value := .int .i64 (n : Int)
def itemsTo (s k : Nat) : List Nat := (List.range k).filter fun i => s.testBit i
theorem itemsTo_hit (s k : Nat) (h : s.testBit k = true) : itemsTo s (k + 1) = itemsTo s k ++ [k] := by
  simp [itemsTo, List.range_succ, List.filter_append, h]
theorem itemsTo_miss (s k : Nat) (h : s.testBit k = false) : itemsTo s (k + 1) = itemsTo s k := by
  simp [itemsTo, List.range_succ, List.filter_append, h]
theorem itemsTo_le (s k : Nat) : (itemsTo s k).length ≤ k := by
  have := List.length_filter_le (fun i => s.testBit i) (List.range k)
  simpa [itemsTo] using this

set_option maxRecDepth 100000 in
set_option maxHeartbeats 1000000 in
theorem refList_any (s : Nat) (w : World) (hs : s < 18446744073709551616) :
    Calls Tryd.prog 15 #[.int .u64 s] w fun e w' => ∃ v, e = .returned v ∧ w'.ownsRow w.heap.size 3 1 v (items s).length ((items s).map encI) ∧ Below w.heap.size w w' := by
  obtain ⟨i0, hi, hz0, hz1, hz2⟩ := info_parts infoInt
  go_enter Tryd.func15, Tryd.ntmps15
  go_wp2
  go_loopw [3, 4] (fun v i wr => ∃ k : Nat, k ≤ 64 ∧ i = .int .i64 k ∧ wr.ownsRow w.heap.size 3 1 v (itemsTo s k).length ((itemsTo s k).map encI) ∧ Below w.heap.size w wr) (fun _ i _ => 64 - (intOf i).toNat)
  case atStart => exact ⟨0, by omega, rfl, ownsRow_empty w _, (Below.refl _ _).alloc (Nat.le_refl _) _⟩
  case round =>
    obtain ⟨k, hk, rfl, hown, hnx⟩ := hrel
    have hle := itemsTo_le s k
    by_cases hlt : k < 64
    · cases hA : s.testBit k with
      | false =>
        go_wp2_with (go_at_call 13; refine (refHas_nat _ _ _ (by assumption) (by omega)).mono ?_; rintro e w' ⟨rfl, rfl⟩)
        go_roundw
        case rel => exact ⟨k + 1, by omega, by go_num, by rw [itemsTo_miss s k hA]; exact hown, hnx⟩
        case measure => simp [intOf]; omega
      | true =>
        go_wp2_with (first | (go_at_call 13; refine (refHas_nat _ _ _ (by assumption) (by omega)).mono ?_; rintro e w' ⟨rfl, rfl⟩) | (at_builtin; refine wpList_append_own _ rfl _ _ 27 rfl w.heap.size 3 i0 (.int .i64 0) 1 8 Tryd.underlying27 hi hz0 hz1 hz2 rfl (by decide) _ _ _ rfl (hown.alloc _) ⟨wr.heap.size, 0, none⟩ 1 1 [encI k] rfl rfl ?c1 ?c2 ?c3 ?c4 ?c5 ?_))
        case c1 => exact cell_one_new _ _ _
        case c2 => intro u hu; simp at hu; subst hu; rfl
        case c3 => unfold maxLen; omega
        case c4 => omega
        case c5 => have := hnx.size; simp; omega
        intro v' w1 hown' hgrow _
        have hb1 := below_append hown hnx.size hnx hgrow
        have R : w1.ownsRow w.heap.size 3 1 v' (itemsTo s (k + 1)).length ((itemsTo s (k + 1)).map encI) := by
          rw [itemsTo_hit s k hA]; simpa using hown'
        clear hown' hgrow hown hnx
        go_wp2
        go_roundw
        case rel => exact ⟨k + 1, by omega, by go_num, R, hb1⟩
        case measure => simp [intOf]; omega
    · obtain rfl : k = 64 := by omega
      go_wp2
      go_ret
      exact ⟨_, rfl, hown, hnx⟩

end Go.Proofs.YtndbpmhdpjlncaaDoor
