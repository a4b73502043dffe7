/- What a word tells: set.readItem; strings.SplitSeq's own call. -/
import Derived.Test.YtndbpmhdpjlncaaDoorSplit
import Derived.Test.YtndbpmhdpjlncaaDoorSetT
import Derived.Lib.SmallJoins
namespace Go.Proofs.YtndbpmhdpjlncaaDoor
open Go.RowKit Go.Shelf

attribute [local go_sem] Oper.semAt_some

theorem ret_pair {x a : Int} {y b : Bool} (h1 : x = a) (h2 : y = b) : Ending.returned (.tuple #[.int .i64 x, .bool y]) = .returned (.tuple #[.int .i64 a, .bool b]) := by rw [h1, h2]
/-- The item that a word tells. -/
def readL (l : List UInt8) : Option Nat :=
  match Lib.atoiAll l with
  | .ok v => if itemB v = true ∧ Lib.decDigits v.toNat = l then some v.toNat else none
  | _ => none

set_option maxHeartbeats 400000 in
theorem splitSeq_any (s : ByteArray) (w : World) :
    Calls Tryd.prog 49 #[.string s, .string ⟨#[44]⟩] w fun e w' => e = .returned (.func (.func 78) #[] #[.pointer (some ⟨w.heap.size + 1, 0, none⟩), .pointer (some ⟨w.heap.size, 0, none⟩), .pointer (some ⟨w.heap.size + 1 + 1, 0, none⟩)]) ∧
      ((w.alloc (.cells #[.string s] 9)).alloc (.cells #[.string ⟨#[44]⟩] 9)).alloc (.cells #[.int .i64 0] 3) = w' := by
  have hmf : ∀ (fn : Fn) (first cap : Array Value) (w : World), (Instr.makeFunc fn first cap).run Tryd.prog w = .ok (.func fn first cap) w := fun _ _ _ _ => rfl
  have h : Calls Tryd.prog 70 #[.string s, .string ⟨#[44]⟩, .int .i64 0] w fun e w' => e = .returned (.func (.func 78) #[] #[.pointer (some ⟨w.heap.size + 1, 0, none⟩), .pointer (some ⟨w.heap.size, 0, none⟩), .pointer (some ⟨w.heap.size + 1 + 1, 0, none⟩)]) ∧
      ((w.alloc (.cells #[.string s] 9)).alloc (.cells #[.string ⟨#[44]⟩] 9)).alloc (.cells #[.int .i64 0] 3) = w' := by
    go_enter Tryd.func70, Tryd.ntmps70
    go_wp2
    go_ret
    exact ⟨rfl, rfl⟩
  have H := Lib.hid h; clear h
  go_enter Tryd.func49, Tryd.ntmps49
  go_wp2_with (go_at_call 70; refine H.out.mono ?_; rintro e w' ⟨rfl, rfl⟩)
  go_ret
  exact ⟨rfl, rfl⟩

theorem atoi_ok (l : List UInt8) (hl : l.length ≤ 1048576) (v : Int) (h : Lib.atoiAll l = .ok v) (w : World) :
    Calls Tryd.prog 71 #[.string ⟨l.toArray⟩] w fun e w' => e = .returned (.tuple #[.int .i64 v, .nilIface]) ∧ Below w.heap.size w w' := by
  refine (Tryd.strconv_Atoi_ok ⟨l.toArray⟩ (by simp [ByteArray.size]; omega) v h w).mono ?_
  rintro e w' ⟨rfl, rfl | ⟨t, rfl⟩⟩
  · exact ⟨rfl, Below.refl _ _⟩
  · exact ⟨rfl, Joins.below_bytesWorld _ _ _ _ (Nat.le_refl _)⟩
theorem atoi_bad (l : List UInt8) (hl : l.length ≤ 1048576) (h : ∀ v, Lib.atoiAll l ≠ .ok v) (w : World) (hE : Env w) :
    Calls Tryd.prog 71 #[.string ⟨l.toArray⟩] w fun e w' => ∃ v p, e = .returned (.tuple #[.int .i64 v, .iface 114 p]) ∧ Below w.heap.size w w' := by
  obtain ⟨te, pe, h1⟩ := hE.syn
  obtain ⟨te2, pe2, h2⟩ := hE.ran
  by_cases hr : Lib.atoiAll l = .range
  · refine (Tryd.strconv_Atoi_range ⟨l.toArray⟩ (by simp [ByteArray.size]; omega) hr _ w h2 (.inr ⟨_, _, rfl⟩)).mono ?_
    rintro e w' ⟨N, rfl, _, _, hb⟩
    exact ⟨_, _, rfl, hb⟩
  · refine (Tryd.strconv_Atoi_bad ⟨l.toArray⟩ (by simp [ByteArray.size]; omega) ⟨h, hr⟩ _ w h1 (.inr ⟨_, _, rfl⟩)).mono ?_
    rintro e w' ⟨N, rfl, _, _, hb⟩
    exact ⟨_, _, rfl, hb⟩

theorem itoa_item (v : Int) (h : itemB v = true) (w : World) : Calls Tryd.prog 51 #[.int .i64 v] w fun e w' => e = .returned (.string ⟨(Lib.decDigits v.toNat).toArray⟩) ∧ w = w' := by
  obtain ⟨h1, h2⟩ := itemB_t h
  obtain ⟨m, rfl⟩ := Int.eq_ofNat_of_zero_le h1
  rw [Int.toNat_natCast]
  exact itoa_any m (by omega) w

set_option maxRecDepth 100000 in
set_option maxHeartbeats 1000000 in
theorem readItem_any (l : List UInt8) (hl : l.length ≤ 1048576) (w : World) (hE : Env w) :
    Calls Tryd.prog 50 #[.string ⟨l.toArray⟩] w fun e w' => e = .returned (.tuple #[.int .i64 ((readL l).getD 0 : Nat), .bool (readL l).isSome]) ∧ Below w.heap.size w w' := by
  by_cases hok : ∃ v, Lib.atoiAll l = .ok v
  · obtain ⟨v, ha⟩ := hok
    have HA := Lib.hid (atoi_ok l hl v ha w)
    cases hi : itemB v with
    | false =>
      rw [show readL l = none from by unfold readL; rw [ha]; simp [hi]]
      clear ha hE
      go_enter Tryd.func50, Tryd.ntmps50
      go_wp2_with (first | (go_at_call 71; refine HA.out.mono ?_; rintro e w1 ⟨rfl, hb⟩) | (go_at_call 42; refine (isItem_any _ _).mono ?_; rintro e w' ⟨rfl, rfl⟩))
      go_ret2
      exact ⟨rfl, hb⟩
    | true =>
      have HT := Lib.hid (itoa_item v hi)
      by_cases hd : Lib.decDigits v.toNat = l
      · have hv : ((v.toNat : Nat) : Int) = v := Int.toNat_of_nonneg (itemB_t hi).1
        rw [show readL l = some v.toNat from by unfold readL; rw [ha]; simp [hi, hd]]
        have HV := Lib.hid hv
        rw [hd] at HT
        clear ha hE hd hv
        go_enter Tryd.func50, Tryd.ntmps50
        go_wp2_with (first | (go_at_call 71; refine HA.out.mono ?_; rintro e w1 ⟨rfl, hb⟩) | (go_at_call 42; refine (isItem_any _ _).mono ?_; rintro e w' ⟨rfl, rfl⟩) | (go_at_call 51; refine (HT.out _).mono ?_; rintro e w' ⟨rfl, rfl⟩))
        go_ret2
        exact ⟨ret_pair HV.out.symm rfl, hb⟩
      · rw [show readL l = none from by unfold readL; rw [ha]; simp [hi, hd]]
        have hq : (Lib.decDigits v.toNat == l) = false := beq_eq_false_iff_ne.2 hd
        clear ha hE hd
        go_enter Tryd.func50, Tryd.ntmps50
        go_wp2_with (first | (go_at_call 71; refine HA.out.mono ?_; rintro e w1 ⟨rfl, hb⟩) | (go_at_call 42; refine (isItem_any _ _).mono ?_; rintro e w' ⟨rfl, rfl⟩) | (go_at_call 51; refine (HT.out _).mono ?_; rintro e w' ⟨rfl, rfl⟩))
        go_ret2
        exact ⟨rfl, hb⟩
  · have hno : ∀ v, Lib.atoiAll l ≠ .ok v := fun v h => hok ⟨v, h⟩
    rw [show readL l = none from by
      unfold readL
      split
      · rename_i v hv; exact absurd hv (hno v)
      · rfl]
    have HA := Lib.hid (atoi_bad l hl hno w hE)
    clear hno hok hE
    go_enter Tryd.func50, Tryd.ntmps50
    go_wp2_with (go_at_call 71; refine HA.out.mono ?_; rintro e w1 ⟨v, p, rfl, hb⟩)
    go_ret2
    exact ⟨rfl, hb⟩

end Go.Proofs.YtndbpmhdpjlncaaDoor
