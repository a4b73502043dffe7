/- What comes in, opened: rows of numbers with a sign. -/
import Derived.Test.YtbdigpfeedcgaaaOpenP
import Derived.Test.YtbdigpfeedcgaaaCodN
namespace Go.Proofs.Ytbdigpfeedcgaaa
open Go.ChangeShapes Go.WideShapes Go.ChangeAt Go.RowKit
set_option linter.unusedVariables false

theorem cellsN : Try.prog.cellsOf 2 = 1 := by kernel_rfl
theorem open_nums {H : Type} {enc : TypeId × Value → H} {W : World} {base : Nat} {held : Bool} {v : Value} {d : DataW H} {p : List MemPlace}
    (hv : ∃ a n c, v = .slice a n c) (h : DataW.Trod enc Try.prog W base (fun _ => true) held 46 v d p) : ∃ a n c, ∃ xs : List Int, v = .slice a n c ∧ Sl encN W.heap.size W (.slice a n c) xs ∧ ∀ m ∈ xs, In64 m := by
  obtain ⟨fuel, hf⟩ := h
  obtain ⟨a', n', c', rfl⟩ := hv
  rcases open_ints Try.underlying46 Try.underlying2 cellsN hf with ⟨hcs, _⟩ | ⟨a, len, cap, zs, hcs, _, hl, _, hz, _, hcell, hwz⟩
  · simp [Value.cells] at hcs
    obtain ⟨rfl, rfl, rfl⟩ := hcs
    exact ⟨_, _, _, [], rfl, Sl.nil _ _ _, fun x hx => by cases hx⟩
  · simp [Value.cells] at hcs
    obtain ⟨rfl, rfl, rfl⟩ := hcs
    simp only [if_true] at hz
    refine ⟨_, _, _, zs.take n', rfl, ?_, fun x hx => bounds_i64 (hwz x (List.mem_of_mem_take hx))⟩
    by_cases h0 : n' = 0
    · subst h0; exact .inl ⟨by simp, _, _, rfl, fun e => by cases e⟩
    · obtain ⟨b, off, rfl, hc⟩ := ints_at hcell (by omega)
      have hlen : (zs.take n').length = n' := by simp; omega
      refine .inr ⟨b, off, c', by rw [hlen], ?_, by rw [hlen]; exact hl, fun j x hj => ?_⟩
      · exact block_lt_of_cell (a := ⟨b, off + 0, none⟩) (hc 0 (by omega))
      · rw [List.getElem?_take] at hj
        split at hj
        · rw [hc j (by omega)]
          have : zs.getD j 0 = x := by simp [List.getD, hj]
          rw [this]
          rfl
        · cases hj
end Go.Proofs.Ytbdigpfeedcgaaa
