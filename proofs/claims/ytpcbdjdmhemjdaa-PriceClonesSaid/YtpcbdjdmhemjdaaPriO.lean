/- set.Cmp, and sets in their order. Written by tools/gen_prio.py. -/
import Derived.Test.YtpcbdjdmhemjdaaSetC
import Derived.Test.YtpcbdjdmhemjdaaPriN
import Derived.Lib.Strings
namespace Go.Proofs.Ytpcbdjdmhemjdaa
open Go.RowKit
set_option linter.unusedVariables false
attribute [local go_sem] Oper.semAt_some

/-- Which number, which set stands before the other. -/
def cmpV (a b : Int) : Int := if a < b then -1 else if b < a then 1 else 0
def cmpS (a b : Nat) : Int := if cmpV (cnt a) (cnt b) = 0 then cmpV a b else cmpV (cnt a) (cnt b)

theorem cmpV_lt {a b : Int} (h : a < b) : cmpV a b = -1 := if_pos h
theorem cmpV_gt {a b : Int} (h : b < a) : cmpV a b = 1 := by unfold cmpV; rw [if_neg (by omega), if_pos h]
theorem cmpV_eq {a b : Int} (h : a = b) : cmpV a b = 0 := by unfold cmpV; rw [if_neg (by omega), if_neg (by omega)]

set_option maxHeartbeats 400000 in
theorem nan_any (a : Int) (w : World) : Calls Try.prog 50 #[.int .u64 a] w fun e w' => e = .returned (.bool false) ∧ w = w' := by
  have h : (a != a) = false := by simp
  go_enter Try.func50, Try.ntmps50
  go_wp2
  go_ret
  exact ⟨by first | rfl | exact ret_bool h, rfl⟩

set_option maxHeartbeats 400000 in
theorem compareU_any (a b : Int) (w : World) : Calls Try.prog 42 #[.int .u64 a, .int .u64 b] w fun e w' => e = .returned (.int .i64 (cmpV a b)) ∧ w = w' := by
  by_cases h1 : a < b
  · rw [cmpV_lt h1]
    go_enter Try.func42, Try.ntmps42
    go_wp2_with (go_at_call 50; refine (nan_any _ _).mono ?_; rintro e w' ⟨rfl, rfl⟩)
    go_ret
    exact ⟨rfl, rfl⟩
  · by_cases h2 : b < a
    · rw [cmpV_gt h2]
      go_enter Try.func42, Try.ntmps42
      go_wp2_with (go_at_call 50; refine (nan_any _ _).mono ?_; rintro e w' ⟨rfl, rfl⟩)
      go_ret
      exact ⟨rfl, rfl⟩
    · rw [cmpV_eq (by omega)]
      go_enter Try.func42, Try.ntmps42
      go_wp2_with (go_at_call 50; refine (nan_any _ _).mono ?_; rintro e w' ⟨rfl, rfl⟩)
      go_ret
      exact ⟨rfl, rfl⟩
set_option maxHeartbeats 400000 in
theorem nanI_any (a : Int) (w : World) : Calls Try.prog 48 #[.int .i64 a] w fun e w' => e = .returned (.bool false) ∧ w = w' := by
  have h : (a != a) = false := by simp
  go_enter Try.func48, Try.ntmps48
  go_wp2
  go_ret
  exact ⟨by first | rfl | exact ret_bool h, rfl⟩

set_option maxHeartbeats 400000 in
theorem compareI_any (a b : Int) (w : World) : Calls Try.prog 40 #[.int .i64 a, .int .i64 b] w fun e w' => e = .returned (.int .i64 (cmpV a b)) ∧ w = w' := by
  by_cases h1 : a < b
  · rw [cmpV_lt h1]
    go_enter Try.func40, Try.ntmps40
    go_wp2_with (go_at_call 48; refine (nanI_any _ _).mono ?_; rintro e w' ⟨rfl, rfl⟩)
    go_ret
    exact ⟨rfl, rfl⟩
  · by_cases h2 : b < a
    · rw [cmpV_gt h2]
      go_enter Try.func40, Try.ntmps40
      go_wp2_with (go_at_call 48; refine (nanI_any _ _).mono ?_; rintro e w' ⟨rfl, rfl⟩)
      go_ret
      exact ⟨rfl, rfl⟩
    · rw [cmpV_eq (by omega)]
      go_enter Try.func40, Try.ntmps40
      go_wp2_with (go_at_call 48; refine (nanI_any _ _).mono ?_; rintro e w' ⟨rfl, rfl⟩)
      go_ret
      exact ⟨rfl, rfl⟩
def orV (x y : Int) : Int := if x = 0 then y else x
set_option maxHeartbeats 400000 in
theorem or_any (B : Nat) (x y : Int) (w : World) (h0 : w.cell? ⟨B, 0, none⟩ = some (.int .i64 x)) (h1 : w.cell? ⟨B, 1, none⟩ = some (.int .i64 y)) :
    Calls Try.prog 39 #[.slice (some ⟨B, 0, none⟩) 2 2] w fun e w' => e = .returned (.int .i64 (orV x y)) ∧ w = w' := by
  by_cases hx : x = 0
  · subst hx
    rw [show orV 0 y = y from if_pos rfl]
    by_cases hy : y = 0
    · subst hy
      go_enter Try.func39, Try.ntmps39
      go_wp2
      go_loop [8] (fun i => ∃ k : Nat, k ≤ 2 ∧ i = .int .i64 k) (fun i => 2 - (intOf i).toNat)
      case atStart => exact ⟨0, by omega, rfl⟩
      case round =>
        obtain ⟨k, hk, rfl⟩ := hrel
        rcases (show k = 0 ∨ k = 1 ∨ k = 2 by omega) with rfl | rfl | rfl
        · go_wp2
          go_round
          case rel => exact ⟨1, by omega, rfl⟩
          case measure => simp [intOf]
        · go_wp2
          go_round
          case rel => exact ⟨2, by omega, rfl⟩
          case measure => simp [intOf]
        · go_wp2
          go_ret
          exact ⟨rfl, rfl⟩
    · have hy' : (y != 0) = true := by rw [bne_iff_ne]; exact hy
      clear hy
      go_enter Try.func39, Try.ntmps39
      go_wp2
      go_loop [8] (fun i => ∃ k : Nat, k ≤ 1 ∧ i = .int .i64 k) (fun i => 2 - (intOf i).toNat)
      case atStart => exact ⟨0, by omega, rfl⟩
      case round =>
        obtain ⟨k, hk, rfl⟩ := hrel
        rcases (show k = 0 ∨ k = 1 by omega) with rfl | rfl
        · go_wp2
          go_round
          case rel => exact ⟨1, by omega, rfl⟩
          case measure => simp [intOf]
        · go_wp2
          go_ret
          exact ⟨rfl, rfl⟩
  · rw [show orV x y = x from if_neg hx]
    have hx' : (x != 0) = true := by rw [bne_iff_ne]; exact hx
    clear hx
    go_enter Try.func39, Try.ntmps39
    go_wp2
    go_loop [8] (fun i => i = .int .i64 0) (fun i => 2 - (intOf i).toNat)
    case atStart => exact rfl
    case round =>
      obtain rfl := hrel
      go_wp2
      go_ret
      exact ⟨rfl, rfl⟩

set_option maxHeartbeats 400000 in
theorem cmp_any (a b : Nat) (w : World) (ha : a < 18446744073709551616) (hb : b < 18446744073709551616) :
    Calls Try.prog 30 #[.int .u64 a, .int .u64 b] w fun e w' => e = .returned (.int .i64 (cmpS a b)) ∧ Below w.heap.size w w' := by
  have hor : cmpS a b = orV (cmpV (cnt a) (cnt b)) (cmpV a b) := rfl
  rw [hor]
  clear hor
  have HO : ∀ x y : Int, Hid (Calls Try.prog 39 #[.slice (some ⟨w.heap.size, 0, none⟩) 2 2] (w.alloc (.cells #[.int .i64 x, .int .i64 y] 3)) fun e w' => e = .returned (.int .i64 (orV x y)) ∧ (w.alloc (.cells #[.int .i64 x, .int .i64 y] 3)) = w') :=
    fun x y => Lib.hid (or_any _ x y _ (cell_new_row _ _ _ 0) (cell_new_row _ _ _ 1))
  have HO' := Lib.hid HO; clear HO
  go_enter Try.func30, Try.ntmps30
  go_wp2_with (first | (go_at_call 41; refine (count_any _ _ (by assumption)).mono ?_; rintro e w' ⟨rfl, rfl⟩) | (go_at_call 40; refine (compareI_any _ _ _).mono ?_; rintro e w' ⟨rfl, rfl⟩) | (go_at_call 42; refine (compareU_any _ _ _).mono ?_; rintro e w' ⟨rfl, rfl⟩) | (go_at_call 39; refine ((HO'.out _ _).out).mono ?_; rintro e w' ⟨rfl, rfl⟩))
  go_ret
  exact ⟨rfl, (Below.refl _ _).alloc (Nat.le_refl _) _⟩

theorem cmpV_neg (a b : Int) : cmpV a b = -cmpV b a := by
  unfold cmpV
  split <;> split <;> first | omega | (split <;> omega) | skip
theorem cmpV_zero {a b : Int} : cmpV a b = 0 ↔ a = b := by
  unfold cmpV
  split
  · constructor <;> intro h <;> omega
  · split
    · constructor <;> intro h <;> omega
    · constructor <;> intro h <;> omega
theorem cmpV_neg_iff {a b : Int} : cmpV a b < 0 ↔ a < b := by
  unfold cmpV
  split
  · constructor <;> intro h <;> omega
  · split
    · constructor <;> intro h <;> omega
    · constructor <;> intro h <;> omega
theorem cmpS_neg (a b : Nat) : cmpS a b = -cmpS b a := by
  unfold cmpS
  by_cases h : cmpV (cnt a) (cnt b) = 0
  · rw [if_pos h, if_pos (by rw [cmpV_neg, h]; rfl)]; exact cmpV_neg _ _
  · rw [if_neg h, if_neg (by intro e; apply h; rw [cmpV_neg, e]; rfl)]; exact cmpV_neg _ _
theorem cmpS_zero {a b : Nat} : cmpS a b = 0 ↔ a = b := by
  unfold cmpS
  by_cases h : cmpV (cnt a) (cnt b) = 0
  · rw [if_pos h, cmpV_zero]; omega
  · rw [if_neg h]
    constructor
    · intro e; exact absurd e h
    · rintro rfl; exact absurd (cmpV_zero.2 rfl) h
theorem cmpS_lt {a b : Nat} : cmpS a b < 0 ↔ cnt a < cnt b ∨ (cnt a = cnt b ∧ a < b) := by
  unfold cmpS
  by_cases h : cmpV (cnt a) (cnt b) = 0
  · have := cmpV_zero.1 h
    rw [if_pos h, cmpV_neg_iff]; omega
  · have h2 : ¬ (cnt a : Int) = cnt b := fun e => h (cmpV_zero.2 e)
    rw [if_neg h, cmpV_neg_iff]; omega
theorem cmpS_trans {a b c : Nat} (h1 : cmpS a b < 0) (h2 : cmpS b c < 0) : cmpS a c < 0 := by
  rw [cmpS_lt] at *; omega
theorem cnt_and (a b : Nat) : cnt (a &&& b) ≤ cnt a := by
  unfold cnt items
  generalize List.range 64 = l
  induction l with
  | nil => simp
  | cons x l ih =>
    simp only [List.filter_cons, Nat.testBit_and] at ih ⊢
    cases a.testBit x <;> cases b.testBit x <;> simp <;> omega
theorem cmpS_and (a b : Nat) : cmpS (a &&& b) a ≤ 0 := by
  have h1 := cnt_and a b
  have h2 : a &&& b ≤ a := Nat.and_le_left
  by_cases h : cmpS (a &&& b) a < 0
  · omega
  · rw [cmpS_lt] at h
    have : a &&& b = a := by omega
    rw [cmpS_zero.2 this]; omega
theorem within_and (a b : Nat) : withinB (a &&& b) a = true := by
  rw [withinB_iff]
  intro i _ h
  rw [Nat.testBit_and] at h
  simp at h
  exact h.1
theorem cmpS_bd (a b : Nat) : -1 ≤ cmpS a b ∧ cmpS a b ≤ 1 := by
  unfold cmpS cmpV
  split <;> (split <;> first | omega | (split <;> omega))

def ltS (a b : Nat) : Bool := decide (cmpS a b < 0)
def okS (a : Nat) : Prop := a < 18446744073709551616
theorem and_within {a b : Nat} (ha : okS a) (h : withinB a b = true) : b &&& a = a := by
  apply Nat.eq_of_testBit_eq
  intro i
  rw [Nat.testBit_and]
  rcases Nat.lt_or_ge i 64 with hi | hi
  · cases hb : a.testBit i with
    | false => simp
    | true => rw [withinB_iff.1 h i hi hb]; rfl
  · rw [testBit_big ha hi]; simp
theorem sOrd : SOrd ltS withinB okS where
  irr := fun a => by unfold ltS; rw [cmpS_zero.2 rfl]; rfl
  trans := fun a b c h1 h2 => by
    unfold ltS at *
    simp only [decide_eq_true_eq] at *
    exact cmpS_trans h1 h2
  total := fun a b hne h => by
    unfold ltS at *
    simp only [decide_eq_true_eq, decide_eq_false_iff_not] at *
    have h1 : cmpS a b ≠ 0 := fun e => hne (cmpS_zero.1 e)
    have h2 := cmpS_neg b a
    omega
  refl := fun a => withinB_iff.2 (fun i _ h => h)
  wtrans := fun a b c h1 h2 => withinB_iff.2 (fun i hi h => withinB_iff.1 h2 i hi (withinB_iff.1 h1 i hi h))
  wlt := fun a b ha hb h => by
    have h1 := cmpS_and b a
    rw [and_within ha h] at h1
    by_cases he : a = b
    · exact .inl he
    · refine .inr ?_
      unfold ltS
      have h2 : cmpS a b ≠ 0 := fun e => he (cmpS_zero.1 e)
      exact decide_eq_true (by omega)
end Go.Proofs.Ytpcbdjdmhemjdaa
