/- Sets' order, as numbers. -/
import Derived.Test.YtndbpmhdpjlncaaDoorSetH
namespace Go.Proofs.YtndbpmhdpjlncaaDoor
open Go.RowKit

theorem cmpV_neg (a b : Int) : cmpV a b = -cmpV b a := by
  unfold cmpV
  split <;> split <;> first | omega | (split <;> omega) | skip
theorem cmpV_zero {a b : Int} : cmpV a b = 0 ↔ a = b := by
  unfold cmpV
  split
  · constructor <;> intro h <;> omega
  · split
    · constructor <;> intro h <;> omega
    · constructor <;> intro h <;> omega
theorem cmpV_neg_iff {a b : Int} : cmpV a b < 0 ↔ a < b := by
  unfold cmpV
  split
  · constructor <;> intro h <;> omega
  · split
    · constructor <;> intro h <;> omega
    · constructor <;> intro h <;> omega
theorem cmpS_neg (a b : Nat) : cmpS a b = -cmpS b a := by
  unfold cmpS
  by_cases h : cmpV (cnt a) (cnt b) = 0
  · rw [if_pos h, if_pos (by rw [cmpV_neg, h]; rfl)]; exact cmpV_neg _ _
  · rw [if_neg h, if_neg (by intro e; apply h; rw [cmpV_neg, e]; rfl)]; exact cmpV_neg _ _
theorem cmpS_zero {a b : Nat} : cmpS a b = 0 ↔ a = b := by
  unfold cmpS
  by_cases h : cmpV (cnt a) (cnt b) = 0
  · rw [if_pos h, cmpV_zero]; omega
  · rw [if_neg h]
    constructor
    · intro e; exact absurd e h
    · rintro rfl; exact absurd (cmpV_zero.2 rfl) h
theorem cmpS_lt {a b : Nat} : cmpS a b < 0 ↔ cnt a < cnt b ∨ (cnt a = cnt b ∧ a < b) := by
  unfold cmpS
  by_cases h : cmpV (cnt a) (cnt b) = 0
  · have := cmpV_zero.1 h
    rw [if_pos h, cmpV_neg_iff]; omega
  · have h2 : ¬ (cnt a : Int) = cnt b := fun e => h (cmpV_zero.2 e)
    rw [if_neg h, cmpV_neg_iff]; omega
theorem cmpS_trans {a b c : Nat} (h1 : cmpS a b < 0) (h2 : cmpS b c < 0) : cmpS a c < 0 := by
  rw [cmpS_lt] at *; omega
theorem cnt_and (a b : Nat) : cnt (a &&& b) ≤ cnt a := by
  unfold cnt items
  generalize List.range 64 = l
  induction l with
  | nil => simp
  | cons x l ih =>
    simp only [List.filter_cons, Nat.testBit_and] at ih ⊢
    cases a.testBit x <;> cases b.testBit x <;> simp <;> omega
theorem cmpS_and (a b : Nat) : cmpS (a &&& b) a ≤ 0 := by
  have h1 := cnt_and a b
  have h2 : a &&& b ≤ a := Nat.and_le_left
  by_cases h : cmpS (a &&& b) a < 0
  · omega
  · rw [cmpS_lt] at h
    have : a &&& b = a := by omega
    rw [cmpS_zero.2 this]; omega
theorem within_and (a b : Nat) : withinB (a &&& b) a = true := by
  rw [withinB_iff]
  intro i _ h
  rw [Nat.testBit_and] at h
  simp at h
  exact h.1
theorem apart_andNot (a b : Nat) (hb : b < 18446744073709551616) : apartB (a &&& (18446744073709551615 - b)) b = true := by
  unfold apartB
  rw [List.all_eq_true]
  intro i hi
  have e : (18446744073709551615 - b : Nat) = 2 ^ 64 - (b + 1) := by omega
  rw [e, Nat.testBit_and, Nat.testBit_two_pow_sub_succ hb]
  cases a.testBit i <;> cases b.testBit i <;> simp
theorem cmpS_bd (a b : Nat) : -1 ≤ cmpS a b ∧ cmpS a b ≤ 1 := by
  unfold cmpS cmpV
  split <;> (split <;> first | omega | (split <;> omega))
theorem u64_bd {a : Int} (h : (Lit.int .u64 a).wf = true) : ∃ n : Nat, a = (n : Int) ∧ n < 18446744073709551616 := by
  simp [Lit.wf, IntKind.min, IntKind.max, IntKind.signed, IntKind.bits] at h
  exact ⟨a.toNat, by omega, by omega⟩
end Go.Proofs.YtndbpmhdpjlncaaDoor
