/- A slice of numbers that comes in, opened; set.Of and the document's set of items, of whatever slice. -/
import Derived.Test.YtndbpmhdpjlncaaDoorSetP
import Derived.Test.YtndbpmhdpjlncaaDoorSetOrd
import Derived.Test.YtndbpmhdpjlncaaDoorSame
import Derived.ProofKit
import Derived.OpenShut
import Derived.ChangeSlices
import Derived.ChangeMaps5
namespace Go.Proofs.YtndbpmhdpjlncaaDoor
open Go.ChangeShapes Go.WideShapes Go.ChangeAt Go.RowKit

/-- A slice of numbers: of none, at whatever address; or its cells. -/
def Ints (W : World) (a : Option Addr) (n c : Nat) (xs : List Int) : Prop :=
  xs.length = n ∧ (∀ x ∈ xs, -9223372036854775808 ≤ x ∧ x ≤ 9223372036854775807) ∧ (xs = [] ∨ Sl (Value.int .i64) W.heap.size W (.slice a n c) xs)
theorem Ints.below {A B : World} (h : Below A.heap.size A B) {a : Option Addr} {n c : Nat} {xs : List Int} (hx : Ints A a n c xs) : Ints B a n c xs :=
  ⟨hx.1, hx.2.1, hx.2.2.imp id fun h1 => (h1.below h).mono h.size⟩
theorem cellsInt : Tryd.prog.cellsOf 3 = 1 := by kernel_rfl
theorem open_intsI {H : Type} {enc : TypeId × Value → H} {W : World} {base : Nat} {held : Bool} {v : Value} {d : DataW H} {p : List MemPlace}
    (hv : ∃ a n c, v = .slice a n c) (h : DataW.Trod enc Tryd.prog W base (fun _ => true) held 27 v d p) : ∃ a n c xs, v = .slice a n c ∧ Ints W a n c xs := by
  obtain ⟨fuel, hf⟩ := h
  obtain ⟨a', n', c', rfl⟩ := hv
  rcases open_ints Tryd.underlying27 Tryd.underlying3 cellsInt hf with ⟨hcs, _⟩ | ⟨a, len, cap, zs, hcs, _, hl, _, hz, _, hcell, hwz⟩
  · simp [Value.cells] at hcs
    obtain ⟨rfl, rfl, rfl⟩ := hcs
    exact ⟨_, _, _, [], rfl, rfl, (fun x hx => by cases hx), .inl rfl⟩
  · simp [Value.cells] at hcs
    obtain ⟨rfl, rfl, rfl⟩ := hcs
    simp only [if_true] at hz
    refine ⟨_, _, _, zs.take n', rfl, by simp; omega, fun x hx => bounds_i64 (hwz x (List.mem_of_mem_take hx)), ?_⟩
    by_cases h0 : n' = 0
    · subst h0; exact .inl (by simp)
    · obtain ⟨b, off, rfl, hc⟩ := ints_at hcell (by omega)
      have hlen : (zs.take n').length = n' := by simp; omega
      refine .inr (.inr ⟨b, off, c', by rw [hlen], ?_, by rw [hlen]; exact hl, fun j x hj => ?_⟩)
      · have h1 := hc 0 (by omega)
        unfold World.cell? at h1
        by_cases hb : b < W.heap.size
        · exact hb
        · rw [Array.getElem?_eq_none (by simpa using hb)] at h1; cases h1
      · rw [List.getElem?_take] at hj
        split at hj
        · rw [hc j (by omega)]
          have : zs.getD j 0 = x := by simp [List.getD, hj]
          rw [this]
        · cases hj

set_option maxHeartbeats 1000000 in
theorem of_none (a : Option Addr) (c : Nat) (w : World) : Calls Tryd.prog 27 #[.slice a 0 c] w fun e w' => e = .returned (.int .u64 0) ∧ w = w' := by
  go_enter Tryd.func27, Tryd.ntmps27
  go_wp2
  go_loop [3, 8] (fun s i => s = .int .u64 0 ∧ i = .int .i64 0) (fun _ _ => 0)
  case atStart => exact ⟨rfl, rfl⟩
  case round =>
    obtain ⟨rfl, rfl⟩ := hrel
    go_wp2
    go_ret
    exact ⟨rfl, rfl⟩
set_option maxHeartbeats 1000000 in
theorem refOf_none (a : Option Addr) (c : Nat) (w : World) : Calls Tryd.prog 28 #[.slice a 0 c] w fun e w' => e = .returned (.int .u64 0) ∧ w = w' := by
  go_enter Tryd.func28, Tryd.ntmps28
  go_wp2
  go_loop [3, 4] (fun s i => s = .int .u64 0 ∧ i = .int .i64 0) (fun _ _ => 0)
  case atStart => exact ⟨rfl, rfl⟩
  case round =>
    obtain ⟨rfl, rfl⟩ := hrel
    go_wp2
    go_ret
    exact ⟨rfl, rfl⟩
theorem of_ints {a : Option Addr} {n c : Nat} {xs : List Int} {W : World} (h : Ints W a n c xs) (hn : n ≤ 200) :
    Calls Tryd.prog 27 #[.slice a n c] W fun e w' => e = .returned (.int .u64 (ofN xs)) ∧ W = w' := by
  obtain ⟨h1, _, rfl | h3⟩ := h
  · obtain rfl : n = 0 := h1.symm
    exact of_none a c W
  · exact of_any a n c xs W (by omega) h3
theorem refOf_ints {a : Option Addr} {n c : Nat} {xs : List Int} {W : World} (h : Ints W a n c xs) (hn : n ≤ 200) :
    Calls Tryd.prog 28 #[.slice a n c] W fun e w' => e = .returned (.int .u64 (ofN xs)) ∧ W = w' := by
  obtain ⟨h1, h2, rfl | h3⟩ := h
  · obtain rfl : n = 0 := h1.symm
    exact refOf_none a c W
  · exact refOf_any a n c xs W (by omega) h2 h3
end Go.Proofs.YtndbpmhdpjlncaaDoor
