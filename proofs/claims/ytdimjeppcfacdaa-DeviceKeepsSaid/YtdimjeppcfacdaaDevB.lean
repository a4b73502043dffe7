/- Calls of package device that touch only its own fields. -/
import Derived.Test.YtdimjeppcfacdaaDevA
namespace Go.Proofs.Ytdimjeppcfacdaa
open Go.RowKit

section
variable {b cap lf tn : Nat} {v0 v1 : Value} {dn : Bool}

set_option maxHeartbeats 400000 in
theorem capacity_any (w : World) (h : DevB w b cap v0 v1 dn lf tn) :
    Calls Try.prog 27 #[.pointer (some ⟨b, 0, none⟩)] w fun e w' => e = .returned (.int .i64 cap) ∧ w = w' := by
  have c := h.c0
  go_enter Try.func27, Try.ntmps27
  go_wp2
  go_ret
  exact ⟨rfl, rfl⟩
set_option maxHeartbeats 400000 in
theorem down_any (w : World) (h : DevB w b cap v0 v1 dn lf tn) :
    Calls Try.prog 85 #[.pointer (some ⟨b, 0, none⟩)] w fun e w' => e = .returned (.bool dn) ∧ w = w' := by
  have c := h.c3
  go_enter Try.func85, Try.ntmps85
  go_wp2
  go_ret
  exact ⟨rfl, rfl⟩
set_option maxHeartbeats 400000 in
theorem turned_any (w : World) (h : DevB w b cap v0 v1 dn lf tn) :
    Calls Try.prog 72 #[.pointer (some ⟨b, 0, none⟩)] w fun e w' => e = .returned (.int .i64 tn) ∧ w = w' := by
  have c := h.c5
  go_enter Try.func72, Try.ntmps72
  go_wp2
  go_ret
  exact ⟨rfl, rfl⟩

/-- How many bytes may be turned: as many as were said, or so many that it never ends. -/
def cutN (n : Int) : Nat := if n < 0 then 9223372036854775807 else n.toNat
set_option maxHeartbeats 400000 in
theorem cut_any (w : World) (n : Int) (hn : n ≤ 9223372036854775807) (h : DevB w b cap v0 v1 dn lf tn) :
    Calls Try.prog 68 #[.pointer (some ⟨b, 0, none⟩), .int .i64 n] w fun e w' => e = .returned (.tuple #[]) ∧ DevB w' b cap v0 v1 dn (cutN n) tn ∧ But [b] w w' ∧ w'.heap.size = w.heap.size := by
  have c := h.c4
  have f := h.frozen 4
  have H := Lib.hid h
  clear h
  by_cases h0 : n < 0
  · have HN : Hid (cutN n = 9223372036854775807) := Lib.hid (if_pos h0)
    go_enter Try.func68, Try.ntmps68
    go_wp2
    go_end0
    exact ⟨rfl, by rw [HN.out]; exact H.out.set_lf 9223372036854775807, (But.refl _ _).set (by simp) _, by simp [World.setCell]⟩
  · have HN : Hid ((n : Int) = ((cutN n : Nat) : Int)) := Lib.hid (by unfold cutN; rw [if_neg h0]; omega)
    go_enter Try.func68, Try.ntmps68
    go_wp2
    go_end0
    exact ⟨rfl, by have := H.out.set_lf (cutN n); rw [← HN.out] at this; exact this, (But.refl _ _).set (by simp) _, by simp [World.setCell]⟩
set_option maxHeartbeats 400000 in
theorem restore_any (w : World) (h : DevB w b cap v0 v1 dn lf tn) :
    Calls Try.prog 71 #[.pointer (some ⟨b, 0, none⟩)] w fun e w' => e = .returned (.tuple #[]) ∧ DevB w' b cap v0 v1 false 9223372036854775807 tn ∧ But [b] w w' ∧ w'.heap.size = w.heap.size := by
  have c := h.c4
  have f := h.frozen 4
  have c3 := h.c3
  have f3 := h.frozen 3
  have H := Lib.hid h
  clear h
  go_enter Try.func71, Try.ntmps71
  go_wp2
  go_end0
  exact ⟨rfl, (H.out.set_dn false).set_lf 9223372036854775807, ((But.refl _ _).set (by simp) _).set (by simp) _, by simp [World.setCell]⟩
end

/-- The power is there for so many bytes; an error if that is not enough. -/
def doneN (n lf : Nat) : Nat := min n lf
def downE (n lf : Nat) : Int := if lf < n then 30 else 0
def turnedN (tn k : Nat) : Nat := min (tn + k) 1099511627776
set_option maxRecDepth 100000 in
set_option maxHeartbeats 1000000 in
theorem dturn_any {b cap lf tn : Nat} {v0 v1 : Value} {dn : Bool} (n : Nat) (hn : n ≤ 1073741824) (hlf : lf ≤ 9223372036854775807) (htn : tn ≤ 1099511627776) (w : World) (h : DevB w b cap v0 v1 dn lf tn) :
    Calls Try.prog 119 #[.pointer (some ⟨b, 0, none⟩), .int .i64 n] w fun e w' =>
      e = .returned (.tuple #[.int .i64 (doneN n lf), .int .i64 (downE n lf)]) ∧ DevB w' b cap v0 v1 (dn || decide (lf < n)) (lf - doneN n lf) (turnedN tn (doneN n lf)) ∧ But [b] w w' ∧ w'.heap.size = w.heap.size := by
  have c3 := h.c3
  have f3 := h.frozen 3
  have c4 := h.c4
  have f4 := h.frozen 4
  have c5 := h.c5
  have f5 := h.frozen 5
  have H := Lib.hid h
  clear h
  by_cases hle : n ≤ lf
  · have hd : doneN n lf = n := Nat.min_eq_left hle
    have he : downE n lf = 0 := if_neg (by omega)
    have hdd : decide (lf < n) = false := decide_eq_false (by omega)
    rw [hd, he, hdd, Bool.or_false]
    clear hd he hdd
    go_enter Try.func119, Try.ntmps119
    go_wp2
    all_goals
      go_ret2
      refine ⟨rfl, ?_, ((But.refl _ _).set (by simp) _).set (by simp) _, by simp [World.setCell]⟩
      have h1 := (H.out.set_lf (lf - n)).set_tn (turnedN tn n)
      first
        | (rw [show ((lf - n : Nat) : Int) = (lf : Int) - (n : Int) from by omega, show ((turnedN tn n : Nat) : Int) = (tn : Int) + (n : Int) from by unfold turnedN; omega] at h1; exact h1)
        | (rw [show ((lf - n : Nat) : Int) = (lf : Int) - (n : Int) from by omega, show ((turnedN tn n : Nat) : Int) = 1099511627776 from by unfold turnedN; omega] at h1; exact h1)
  · have hd : doneN n lf = lf := Nat.min_eq_right (by omega)
    have he : downE n lf = 30 := if_pos (by omega)
    have hdd : decide (lf < n) = true := decide_eq_true (by omega)
    rw [hd, he, hdd, Bool.or_true]
    clear hd he hdd
    go_enter Try.func119, Try.ntmps119
    go_wp2
    all_goals
      go_ret2
      refine ⟨rfl, ?_, (((But.refl _ _).set (by simp) _).set (by simp) _).set (by simp) _, by simp [World.setCell]⟩
      have h1 := ((H.out.set_lf 0).set_tn (turnedN tn lf)).set_dn true
      first
        | (rw [show ((turnedN tn lf : Nat) : Int) = (tn : Int) + (lf : Int) from by unfold turnedN; omega] at h1; exact h1)
        | (rw [show ((turnedN tn lf : Nat) : Int) = 1099511627776 from by unfold turnedN; omega] at h1; exact h1)
end Go.Proofs.Ytdimjeppcfacdaa
