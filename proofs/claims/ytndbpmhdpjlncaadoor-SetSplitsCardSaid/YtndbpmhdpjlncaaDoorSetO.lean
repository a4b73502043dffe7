/- Contracts of set.Of and of the document's set of items. -/
import Derived.Test.YtndbpmhdpjlncaaDoorSetS
namespace Go.Proofs.YtndbpmhdpjlncaaDoor
open Go.RowKit

def ofStep (s : Nat) (n : Int) : Nat := if itemB n = true then s ||| 2 ^ n.toNat else s
def ofN (xs : List Int) : Nat := xs.foldl ofStep 0
theorem or_lt {s k : Nat} (hs : s < 18446744073709551616) (hk : k < 64) : s ||| 2 ^ k < 18446744073709551616 :=
  Nat.or_lt_two_pow (show s < 2 ^ 64 from hs) (Nat.pow_lt_pow_right (by decide) hk)
theorem ofStep_lt {s : Nat} (n : Int) (hs : s < 18446744073709551616) : ofStep s n < 18446744073709551616 := by
  unfold ofStep; split
  · rename_i h; exact or_lt hs (by have := itemB_t h; omega)
  · exact hs
theorem ofTo_lt (xs : List Int) (k : Nat) : (xs.take k).foldl ofStep 0 < 18446744073709551616 := by
  have : ∀ (ys : List Int) (s : Nat), s < 18446744073709551616 → ys.foldl ofStep s < 18446744073709551616 := by
    intro ys
    induction ys with
    | nil => intro s h; exact h
    | cons y ys ih => intro s h; exact ih _ (ofStep_lt y h)
  exact this _ _ (by decide)
theorem ofTo_succ (xs : List Int) (k : Nat) (x : Int) (h : xs[k]? = some x) : (xs.take (k + 1)).foldl ofStep 0 = ofStep ((xs.take k).foldl ofStep 0) x := by
  rw [List.take_add_one, h]; simp
theorem or_has {s k : Nat} (h : s.testBit k = true) : s ||| 2 ^ k = s := by
  apply Nat.eq_of_testBit_eq; intro i
  rw [Nat.testBit_or, Nat.testBit_two_pow]
  by_cases e : k = i
  · subst e; simp [h]
  · simp [e]
theorem or_new {s k : Nat} (hs : s < 18446744073709551616) (hk : k < 64) (h : s.testBit k = false) : s ||| 2 ^ k = s + 2 ^ k := by
  have hp : 2 ^ k < 2 ^ 64 := Nat.pow_lt_pow_right (by decide) hk
  have e0 : (2 : Nat) ^ 64 = 18446744073709551616 := rfl
  have e := BitVec.add_eq_or_of_and_eq_zero (BitVec.ofNat 65 s) (BitVec.ofNat 65 (2 ^ k)) (by
    apply BitVec.eq_of_toNat_eq
    rw [BitVec.toNat_and, BitVec.toNat_ofNat, BitVec.toNat_ofNat, Nat.mod_eq_of_lt (by omega), Nat.mod_eq_of_lt (by omega)]
    apply Nat.eq_of_testBit_eq; intro i
    rw [Nat.testBit_and, Nat.testBit_two_pow]
    by_cases e : k = i
    · subst e; simp [h]
    · simp [e])
  have e2 := congrArg BitVec.toNat e
  rw [BitVec.toNat_add, BitVec.toNat_or, BitVec.toNat_ofNat, BitVec.toNat_ofNat, Nat.mod_eq_of_lt (a := s) (by omega), Nat.mod_eq_of_lt (a := 2 ^ k) (by omega), Nat.mod_eq_of_lt (by omega)] at e2
  exact e2.symm
theorem or_walk {s : Nat} {n : Int} (hs : s < 18446744073709551616) (h : itemB n = true) : bits .or .u64 (s : Int) (IntKind.u64.wrap (2 ^ n.toNat)) = ((ofStep s n : Nat) : Int) := by
  obtain ⟨h1, h2⟩ := itemB_t h
  obtain ⟨p1, p2⟩ := pow_lt64 (show n.toNat < 64 by omega)
  have e : ((2 : Int) ^ n.toNat) = ((2 ^ n.toNat : Nat) : Int) := by norm_cast
  rw [e, wrap_u64_of _ (by omega), u64_or_nat _ _ hs (by omega)]
  unfold ofStep; rw [if_pos h]

set_option maxRecDepth 100000 in
set_option maxHeartbeats 1000000 in
theorem of_any (a : Option Addr) (n c : Nat) (xs : List Int) (w : World) (hl : xs.length ≤ 1048576) (hx : Sl (Value.int .i64) w.heap.size w (.slice a n c) xs) :
    Calls Tryd.prog 27 #[.slice a n c] w fun e w' => e = .returned (.int .u64 (ofN xs)) ∧ w = w' := by
  rcases hx with ⟨e, rfl⟩ | ⟨b, off, cap, e, _, _, hc⟩
  · cases e
    go_enter Tryd.func27, Tryd.ntmps27
    go_wp2
    go_loop [3, 8] (fun s i => s = .int .u64 0 ∧ i = .int .i64 0) (fun _ _ => 0)
    case atStart => exact ⟨rfl, rfl⟩
    case round =>
      obtain ⟨rfl, rfl⟩ := hrel
      go_wp2
      go_ret
      exact ⟨rfl, rfl⟩
  · cases e
    have HC := Lib.hid hc; clear hc
    obtain ⟨N, hN⟩ : ∃ N, xs.length = N := ⟨_, rfl⟩
    rw [hN] at hl ⊢
    have HN := Lib.hid hN; clear hN
    go_enter Tryd.func27, Tryd.ntmps27
    go_wp2
    go_loop [3, 8] (fun s i => ∃ k : Nat, k ≤ N ∧ i = .int .i64 k ∧ s = .int .u64 (((xs.take k).foldl ofStep 0 : Nat) : Int)) (fun _ i => N - (intOf i).toNat)
    case atStart => exact ⟨0, by omega, rfl, rfl⟩
    case round =>
      obtain ⟨k, hk, rfl, rfl⟩ := hrel
      have hsl := ofTo_lt xs k
      by_cases hlt : k < N
      · obtain ⟨x, hxk⟩ : ∃ x, xs[k]? = some x := ⟨xs[k]'(by rw [HN.out]; exact hlt), List.getElem?_eq_getElem _⟩
        have hcell := HC.out k x hxk
        have HS := Lib.hid (ofTo_succ xs k x hxk)
        obtain ⟨s, hs⟩ : ∃ s, (xs.take k).foldl ofStep 0 = s := ⟨_, rfl⟩
        rw [hs] at hsl HS ⊢
        clear hs hxk
        cases hi : itemB x with
        | true =>
          obtain ⟨i1, i2⟩ := itemB_t hi
          have HW := Lib.hid (or_walk hsl hi)
          go_wp2_with (go_at_call 42; refine (isItem_any _ _).mono ?_; rintro e w' ⟨rfl, rfl⟩)
          go_round
          case rel => exact ⟨k + 1, by omega, by go_num, by rw [HS.out, ← HW.out]⟩
          case measure => simp [intOf]; omega
        | false =>
          have HW : Hid (ofStep s x = s) := Lib.hid (by unfold ofStep; rw [hi]; rfl)
          go_wp2_with (go_at_call 42; refine (isItem_any _ _).mono ?_; rintro e w' ⟨rfl, rfl⟩)
          go_round
          case rel => exact ⟨k + 1, by omega, by go_num, by rw [HS.out, HW.out]⟩
          case measure => simp [intOf]; omega
      · obtain rfl : k = N := by omega
        have HE : Hid ((xs.take k).foldl ofStep 0 = ofN xs) := Lib.hid (by unfold ofN; rw [List.take_of_length_le (by rw [HN.out]; exact Nat.le_refl _)])
        rw [HE.out]
        go_wp2
        go_ret
        exact ⟨rfl, rfl⟩

end Go.Proofs.YtndbpmhdpjlncaaDoor
