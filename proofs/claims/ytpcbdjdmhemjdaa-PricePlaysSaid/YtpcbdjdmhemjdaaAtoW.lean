/- The document's order of sets. Written by tools/gen_atow.py. -/
import Derived.Test.YtpcbdjdmhemjdaaPriO
import Derived.Test.YtpcbdjdmhemjdaaSetD
import Derived.Test.YtpcbdjdmhemjdaaSlices
import Derived.BigQuiet
import Derived.Deep.QuietTactic
namespace Go.Proofs.Ytpcbdjdmhemjdaa
open Go.RowKit
set_option linter.unusedVariables false

theorem cnt_le (s : Nat) : cnt s ≤ 64 := by
  have := List.length_filter_le (fun i => s.testBit i) (List.range 64)
  simpa [cnt, items] using this
theorem infoInt : (Try.prog.info? 3).map (fun i => (i.zero, i.size, i.bytes)) = some (some (.int .i64 0), 1, 8) := by kernel_rfl
def encI (n : Nat) : Value := .int .i64 (n : Int)
def itemsTo (s k : Nat) : List Nat := (List.range k).filter fun i => s.testBit i
theorem itemsTo_hit (s k : Nat) (h : s.testBit k = true) : itemsTo s (k + 1) = itemsTo s k ++ [k] := by
  simp [itemsTo, List.range_succ, List.filter_append, h]
theorem itemsTo_miss (s k : Nat) (h : s.testBit k = false) : itemsTo s (k + 1) = itemsTo s k := by
  simp [itemsTo, List.range_succ, List.filter_append, h]
theorem itemsTo_le (s k : Nat) : (itemsTo s k).length ≤ k := by
  have := List.length_filter_le (fun i => s.testBit i) (List.range k)
  simpa [itemsTo] using this

set_option maxRecDepth 100000 in
set_option maxHeartbeats 1000000 in
theorem refList_any (s : Nat) (w : World) (hs : s < 18446744073709551616) :
    Calls Try.prog 37 #[.int .u64 s] w fun e w' => ∃ v, e = .returned v ∧ w'.ownsRow w.heap.size 3 1 v (items s).length ((items s).map encI) ∧ Below w.heap.size w w' := by
  obtain ⟨i0, hi, hz0, hz1, hz2⟩ := info_parts infoInt
  go_enter Try.func37, Try.ntmps37
  go_wp2
  go_loopw [3, 4] (fun v i wr => ∃ k : Nat, k ≤ 64 ∧ i = .int .i64 k ∧ wr.ownsRow w.heap.size 3 1 v (itemsTo s k).length ((itemsTo s k).map encI) ∧ Below w.heap.size w wr) (fun _ i _ => 64 - (intOf i).toNat)
  case atStart => exact ⟨0, by omega, rfl, ownsRow_empty w _, (Below.refl _ _).alloc (Nat.le_refl _) _⟩
  case round =>
    obtain ⟨k, hk, rfl, hown, hnx⟩ := hrel
    have hle := itemsTo_le s k
    by_cases hlt : k < 64
    · cases hA : s.testBit k with
      | false =>
        go_wp2_with (go_at_call 38; refine (refHas_nat _ _ _ (by assumption) (by omega)).mono ?_; rintro e w' ⟨rfl, rfl⟩)
        go_roundw
        case rel => exact ⟨k + 1, by omega, by go_num, by rw [itemsTo_miss s k hA]; exact hown, hnx⟩
        case measure => simp [intOf]; omega
      | true =>
        go_wp2_with (first | (go_at_call 38; refine (refHas_nat _ _ _ (by assumption) (by omega)).mono ?_; rintro e w' ⟨rfl, rfl⟩) | (at_builtin; refine wpList_append_own _ rfl _ _ 65 rfl w.heap.size 3 i0 (.int .i64 0) 1 8 Try.underlying65 hi hz0 hz1 hz2 rfl (by decide) _ _ _ rfl (hown.alloc _) ⟨wr.heap.size, 0, none⟩ 1 1 [encI k] rfl rfl ?c1 ?c2 ?c3 ?c4 ?c5 ?_))
        case c1 => exact cell_one_new _ _ _
        case c2 => intro u hu; simp at hu; subst hu; rfl
        case c3 => unfold maxLen; omega
        case c4 => omega
        case c5 => have := hnx.size; simp; omega
        intro v' w1 hown' hgrow _
        have hb1 := below_append hown hnx.size hnx hgrow
        have R : w1.ownsRow w.heap.size 3 1 v' (itemsTo s (k + 1)).length ((itemsTo s (k + 1)).map encI) := by
          rw [itemsTo_hit s k hA]; simpa using hown'
        clear hown' hgrow hown hnx
        go_wp2
        go_roundw
        case rel => exact ⟨k + 1, by omega, by go_num, R, hb1⟩
        case measure => simp [intOf]; omega
    · obtain rfl : k = 64 := by omega
      go_wp2
      go_ret
      exact ⟨_, rfl, hown, hnx⟩

theorem owns_slice {w : World} {B e : Nat} {v : Value} {n : Nat} {xs : List Value} (h : w.ownsRow B e 1 v n xs) : ∃ a c, v = .slice a n c := by
  rcases h.2 with ⟨rfl, rfl⟩ | ⟨g, cap, _, rfl, _⟩
  · exact ⟨_, _, rfl⟩
  · exact ⟨_, _, rfl⟩

theorem refList_len (s : Nat) (w : World) (hs : s < 18446744073709551616) (n : Nat) (hn : Hid (cnt s = n)) :
    Calls Try.prog 37 #[.int .u64 s] w fun e w' => ∃ a c, e = .returned (.slice a n c) ∧ Below w.heap.size w w' := by
  refine (refList_any s w hs).mono ?_
  rintro e w' ⟨v, rfl, h1, h2⟩
  obtain ⟨a, c, rfl⟩ := owns_slice h1
  rw [show (items s).length = n from hn.out]
  exact ⟨a, c, rfl, h2⟩

set_option maxHeartbeats 800000 in
theorem refCmp_any (a b : Nat) (w : World) (ha : a < 18446744073709551616) (hb : b < 18446744073709551616) :
    Calls Try.prog 28 #[.int .u64 a, .int .u64 b] w fun e w' => e = .returned (.int .i64 (cmpS a b)) ∧ Below w.heap.size w w' := by
  have hx := cnt_le a
  have hy := cnt_le b
  obtain ⟨x, HX⟩ : ∃ x, Hid (cnt a = x) := ⟨_, Lib.hid rfl⟩
  obtain ⟨y, HY⟩ : ∃ y, Hid (cnt b = y) := ⟨_, Lib.hid rfl⟩
  rw [HX.out] at hx
  rw [HY.out] at hy
  have hv : cmpS a b = if cmpV x y = 0 then cmpV a b else cmpV x y := by unfold cmpS; rw [HX.out, HY.out]
  have h1 := refList_len a w ha x HX
  have h2 : ∀ w, Calls Try.prog 37 #[.int .u64 b] w fun e w' => ∃ a c, e = .returned (.slice a y c) ∧ Below w.heap.size w w' := fun w => refList_len b w hb y HY
  have H1 := Lib.hid h1; clear h1
  have H2 := Lib.hid h2; clear h2
  rcases Nat.lt_trichotomy x y with h | h | h
  · rw [hv, cmpV_lt (by omega), if_neg (by decide)]
    clear hv
    go_enter Try.func28, Try.ntmps28
    go_wp2_with fail
    refine H1.out.mono ?_; rintro e w1 ⟨p1, c1, rfl, hb1⟩
    go_wp2_with fail
    refine (H2.out _).mono ?_; rintro e w2 ⟨p2, c2, rfl, hb2⟩
    go_wp2
    go_ret
    exact ⟨rfl, hb1.trans (hb2.mono hb1.size)⟩
  · subst h
    have hxx : ((x : Int) == (x : Int)) = true := by simp
    rcases Nat.lt_trichotomy a b with h | h | h
    · rw [hv, cmpV_eq rfl, if_pos rfl, cmpV_lt (by omega)]
      clear hv
      have h' : (a : Int) < (b : Int) := by omega
      go_enter Try.func28, Try.ntmps28
      go_wp2_with fail
      refine H1.out.mono ?_; rintro e w1 ⟨p1, c1, rfl, hb1⟩
      go_wp2_with fail
      refine (H2.out _).mono ?_; rintro e w2 ⟨p2, c2, rfl, hb2⟩
      go_wp2
      go_ret
      exact ⟨rfl, hb1.trans (hb2.mono hb1.size)⟩
    · rw [hv, cmpV_eq rfl, if_pos rfl, cmpV_eq (by omega)]
      clear hv
      have h1 : ¬ (a : Int) < (b : Int) := by omega
      have h2 : ¬ (b : Int) < (a : Int) := by omega
      clear h
      go_enter Try.func28, Try.ntmps28
      go_wp2_with fail
      refine H1.out.mono ?_; rintro e w1 ⟨p1, c1, rfl, hb1⟩
      go_wp2_with fail
      refine (H2.out _).mono ?_; rintro e w2 ⟨p2, c2, rfl, hb2⟩
      go_wp2
      go_ret
      exact ⟨rfl, hb1.trans (hb2.mono hb1.size)⟩
    · rw [hv, cmpV_eq rfl, if_pos rfl, cmpV_gt (by omega)]
      clear hv
      have h1 : ¬ (a : Int) < (b : Int) := by omega
      have h2 : (b : Int) < (a : Int) := by omega
      clear h
      go_enter Try.func28, Try.ntmps28
      go_wp2_with fail
      refine H1.out.mono ?_; rintro e w1 ⟨p1, c1, rfl, hb1⟩
      go_wp2_with fail
      refine (H2.out _).mono ?_; rintro e w2 ⟨p2, c2, rfl, hb2⟩
      go_wp2
      go_ret
      exact ⟨rfl, hb1.trans (hb2.mono hb1.size)⟩
  · rw [hv, cmpV_gt (by omega), if_neg (by decide)]
    clear hv
    have h0 : ((x : Int) == (y : Int)) = false := by rw [beq_eq_false_iff_ne]; omega
    have h1 : ¬ (x : Int) < (y : Int) := by omega
    go_enter Try.func28, Try.ntmps28
    go_wp2_with fail
    refine H1.out.mono ?_; rintro e w1 ⟨p1, c1, rfl, hb1⟩
    go_wp2_with fail
    refine (H2.out _).mono ?_; rintro e w2 ⟨p2, c2, rfl, hb2⟩
    go_wp2
    go_ret
    exact ⟨rfl, hb1.trans (hb2.mono hb1.size)⟩

end Go.Proofs.Ytpcbdjdmhemjdaa
