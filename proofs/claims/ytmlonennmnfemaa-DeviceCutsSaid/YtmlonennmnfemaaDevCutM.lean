/- What a device comes to in law DeviceCuts. -/
import Derived.Test.YtmlonennmnfemaaDevH
namespace Go.Proofs.Ytmlonennmnfemaa
open Go.RowKit

def cD2 (l0 l1 : List Nat) : DevS := ⟨1000, l0, l1, false, 9223372036854775807, 0⟩
def cD3 (l0 l1 : List Nat) (t : Nat) : DevS := ⟨1000, l0, l1, false, t, 0⟩
def cD4 (l0 l1 : List Nat) (t : Nat) : DevS := ⟨1000, l0 ++ l1.take (doneN l1.length t), l1, decide (t < l1.length), t - doneN l1.length t, turnedN 0 (doneN l1.length t)⟩
def cD6 (l0 l1 : List Nat) (t tn : Nat) : DevS := ⟨1000, l0, l1, false, t, tn⟩
def cD7 (l0 l1 : List Nat) (t tn n : Nat) : DevS := ⟨1000, l0.take (l0.length - doneN (l0.length - n) t), l1, decide (t < l0.length - n), t - doneN (l0.length - n) t, turnedN tn (doneN (l0.length - n) t)⟩
theorem c_load0 (l0 : List Nat) (h0 : l0.length ≤ 500) : loadS (newD 1000) 0 l0 = ⟨1000, l0, [], false, 9223372036854775807, 0⟩ := by
  have e1 : loadS (newD 1000) 0 l0 = (newD 1000).put 0 (l0.take (min l0.length (newD 1000).cap)) := if_neg (by decide)
  have e2 : (newD 1000).cap = 1000 := by decide
  rw [e1, e2, List.take_of_length_le (by omega)]
  rfl
theorem c_load1 (l0 l1 : List Nat) (h1 : l1.length ≤ 500) : loadS ⟨1000, l0, [], false, 9223372036854775807, 0⟩ 1 l1 = cD2 l0 l1 := by
  have e1 : loadS (⟨1000, l0, [], false, 9223372036854775807, 0⟩ : DevS) 1 l1 = (⟨1000, l0, [], false, 9223372036854775807, 0⟩ : DevS).put 1 (l1.take (min l1.length 1000)) := if_neg (by decide)
  rw [e1, List.take_of_length_le (by omega)]
  rfl
theorem c_cut (l0 l1 : List Nat) (t : Nat) : cutS (cD2 l0 l1) t = cD3 l0 l1 t := by
  unfold cutS cD2 cD3 cutN
  rw [if_neg (by omega), Int.toNat_natCast]
theorem c_app (l0 l1 : List Nat) (t : Nat) (h0 : l0.length ≤ 500) (h1 : l1.length ≤ 500) : appS (cD3 l0 l1 t) 0 l1 = (cD4 l0 l1 t, downE l1.length t) := by
  unfold appS
  rw [if_neg (by simp [cD3]), if_neg (by decide), if_neg (by show ¬ 1000 - l0.length < l1.length; omega)]
  simp [cD3, cD4, DevS.turn, DevS.put, DevS.row]
  try rfl
theorem c_rest (l0 l1 : List Nat) (t t2 : Nat) : cutS (restoreS (cD4 l0 l1 t)) t2 = cD6 (l0 ++ l1.take (doneN l1.length t)) l1 t2 (turnedN 0 (doneN l1.length t)) := by
  unfold cutS restoreS cD4 cD6 cutN
  rw [if_neg (by omega), Int.toNat_natCast]
theorem c_trunc (l0 l1 : List Nat) (t tn n : Nat) (hn : n ≤ l0.length) : truncS (cD6 l0 l1 t tn) 0 n = (cD7 l0 l1 t tn n, downE (l0.length - n) t) := by
  unfold truncS
  rw [if_neg (by simp [cD6]), if_neg (by intro h; rcases h with h | h | h; cases h; omega; have h2 : (l0.length : Int) < n := h; omega), Int.toNat_natCast]
  simp [cD6, cD7, DevS.turn, DevS.put, DevS.row]
theorem downE_b (q t : Nat) : ∃ B : Bool, (downE q t == 30) = B ∧ decide (t < q) = B := by
  unfold downE
  by_cases h : t < q
  · exact ⟨true, by rw [if_pos h]; rfl, decide_eq_true h⟩
  · exact ⟨false, by rw [if_neg h]; rfl, decide_eq_false h⟩
theorem off_arg {own : List Nat} {w : World} {v : Value} {l : List Nat} (h : Sl encY w.heap.size w v l) (ho : ∀ k ∈ own, w.heap.size ≤ k) : Off own v := fun ad n c e hn hk => by
  rcases h with ⟨rfl, a', c', e', _⟩ | ⟨b, off, cap, e', hlt, _⟩
  · rw [e] at e'; cases e'; omega
  · rw [e] at e'; cases e'
    have := ho _ hk
    simp at this; omega
end Go.Proofs.Ytmlonennmnfemaa
