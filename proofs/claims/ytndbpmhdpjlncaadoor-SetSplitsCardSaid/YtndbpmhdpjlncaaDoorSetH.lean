/- The document's order of sets; are two lists the same; the set of items. -/
import Derived.Test.YtndbpmhdpjlncaaDoorSetG
import Derived.BigQuiet
import Derived.Deep.QuietTactic
namespace Go.Proofs.YtndbpmhdpjlncaaDoor
open Go.RowKit

theorem owns_slice {w : World} {B e : Nat} {v : Value} {n : Nat} {xs : List Value} (h : w.ownsRow B e 1 v n xs) : ∃ a c, v = .slice a n c := by
  rcases h.2 with ⟨rfl, rfl⟩ | ⟨g, cap, _, rfl, _⟩
  · exact ⟨_, _, rfl⟩
  · exact ⟨_, _, rfl⟩

theorem refList_len (s : Nat) (w : World) (hs : s < 18446744073709551616) (n : Nat) (hn : Hid (cnt s = n)) :
    Calls Tryd.prog 15 #[.int .u64 s] w fun e w' => ∃ a c, e = .returned (.slice a n c) ∧ Below w.heap.size w w' := by
  refine (refList_any s w hs).mono ?_
  rintro e w' ⟨v, rfl, h1, h2⟩
  obtain ⟨a, c, rfl⟩ := owns_slice h1
  rw [show (items s).length = n from hn.out]
  exact ⟨a, c, rfl, h2⟩

set_option maxHeartbeats 800000 in
theorem refCmp_any (a b : Nat) (w : World) (ha : a < 18446744073709551616) (hb : b < 18446744073709551616) :
    Calls Tryd.prog 21 #[.int .u64 a, .int .u64 b] w fun e w' => e = .returned (.int .i64 (cmpS a b)) ∧ Below w.heap.size w w' := by
  have hx := cnt_le a
  have hy := cnt_le b
  obtain ⟨x, HX⟩ : ∃ x, Hid (cnt a = x) := ⟨_, Lib.hid rfl⟩
  obtain ⟨y, HY⟩ : ∃ y, Hid (cnt b = y) := ⟨_, Lib.hid rfl⟩
  rw [HX.out] at hx
  rw [HY.out] at hy
  have hv : cmpS a b = if cmpV x y = 0 then cmpV a b else cmpV x y := by unfold cmpS; rw [HX.out, HY.out]
  have h1 := refList_len a w ha x HX
  have h2 : ∀ w, Calls Tryd.prog 15 #[.int .u64 b] w fun e w' => ∃ a c, e = .returned (.slice a y c) ∧ Below w.heap.size w w' := fun w => refList_len b w hb y HY
  have H1 := Lib.hid h1; clear h1
  have H2 := Lib.hid h2; clear h2
  rcases Nat.lt_trichotomy x y with h | h | h
  · rw [hv, cmpV_lt (by omega), if_neg (by decide)]
    clear hv
    go_enter Tryd.func21, Tryd.ntmps21
    go_wp2_with fail
    refine H1.out.mono ?_; rintro e w1 ⟨p1, c1, rfl, hb1⟩
    go_wp2_with fail
    refine (H2.out _).mono ?_; rintro e w2 ⟨p2, c2, rfl, hb2⟩
    go_wp2
    go_ret
    exact ⟨rfl, hb1.trans (hb2.mono hb1.size)⟩
  · subst h
    have hxx : ((x : Int) == (x : Int)) = true := by simp
    rcases Nat.lt_trichotomy a b with h | h | h
    · rw [hv, cmpV_eq rfl, if_pos rfl, cmpV_lt (by omega)]
      clear hv
      have h' : (a : Int) < (b : Int) := by omega
      go_enter Tryd.func21, Tryd.ntmps21
      go_wp2_with fail
      refine H1.out.mono ?_; rintro e w1 ⟨p1, c1, rfl, hb1⟩
      go_wp2_with fail
      refine (H2.out _).mono ?_; rintro e w2 ⟨p2, c2, rfl, hb2⟩
      go_wp2
      go_ret
      exact ⟨rfl, hb1.trans (hb2.mono hb1.size)⟩
    · rw [hv, cmpV_eq rfl, if_pos rfl, cmpV_eq (by omega)]
      clear hv
      have h1 : ¬ (a : Int) < (b : Int) := by omega
      have h2 : ¬ (b : Int) < (a : Int) := by omega
      clear h
      go_enter Tryd.func21, Tryd.ntmps21
      go_wp2_with fail
      refine H1.out.mono ?_; rintro e w1 ⟨p1, c1, rfl, hb1⟩
      go_wp2_with fail
      refine (H2.out _).mono ?_; rintro e w2 ⟨p2, c2, rfl, hb2⟩
      go_wp2
      go_ret
      exact ⟨rfl, hb1.trans (hb2.mono hb1.size)⟩
    · rw [hv, cmpV_eq rfl, if_pos rfl, cmpV_gt (by omega)]
      clear hv
      have h1 : ¬ (a : Int) < (b : Int) := by omega
      have h2 : (b : Int) < (a : Int) := by omega
      clear h
      go_enter Tryd.func21, Tryd.ntmps21
      go_wp2_with fail
      refine H1.out.mono ?_; rintro e w1 ⟨p1, c1, rfl, hb1⟩
      go_wp2_with fail
      refine (H2.out _).mono ?_; rintro e w2 ⟨p2, c2, rfl, hb2⟩
      go_wp2
      go_ret
      exact ⟨rfl, hb1.trans (hb2.mono hb1.size)⟩
  · rw [hv, cmpV_gt (by omega), if_neg (by decide)]
    clear hv
    have h0 : ((x : Int) == (y : Int)) = false := by rw [beq_eq_false_iff_ne]; omega
    have h1 : ¬ (x : Int) < (y : Int) := by omega
    go_enter Tryd.func21, Tryd.ntmps21
    go_wp2_with fail
    refine H1.out.mono ?_; rintro e w1 ⟨p1, c1, rfl, hb1⟩
    go_wp2_with fail
    refine (H2.out _).mono ?_; rintro e w2 ⟨p2, c2, rfl, hb2⟩
    go_wp2
    go_ret
    exact ⟨rfl, hb1.trans (hb2.mono hb1.size)⟩

end Go.Proofs.YtndbpmhdpjlncaaDoor
