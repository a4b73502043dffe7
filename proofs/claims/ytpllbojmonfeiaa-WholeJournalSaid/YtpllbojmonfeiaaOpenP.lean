/- What comes in, opened: rows of bytes. -/
import Derived.Test.YtpllbojmonfeiaaOpen
namespace Go.Proofs.Ytpllbojmonfeiaa
open Go.ChangeShapes Go.WideShapes Go.ChangeAt Go.RowKit

theorem cellsB : Try.prog.cellsOf 22 = 1 := by kernel_rfl
theorem list_of_fun {α : Type} (n : Nat) (P : Nat → α → Prop) (h : ∀ i, i < n → ∃ x, P i x) : ∃ l : List α, l.length = n ∧ ∀ j x, l[j]? = some x → P j x := by
  induction n with
  | zero => exact ⟨[], rfl, fun j x hj => by simp at hj⟩
  | succ n ih =>
    obtain ⟨l, hl, hp⟩ := ih (fun i hi => h i (by omega))
    obtain ⟨x, hx⟩ := h n (by omega)
    refine ⟨l ++ [x], by simp [hl], fun j y hj => ?_⟩
    by_cases hjn : j < n
    · rw [List.getElem?_append_left (by omega)] at hj
      exact hp j y hj
    · have hlt := (List.getElem?_eq_some_iff.1 hj).1
      simp [hl] at hlt
      obtain rfl : j = n := by omega
      rw [List.getElem?_append_right (by omega), hl, Nat.sub_self] at hj
      cases hj
      exact hx

theorem open_parts {H : Type} {enc : TypeId × Value → H} {W : World} {base : Nat} {held : Bool} {v : Value} {d : DataW H} {p : List MemPlace}
    (hv : ∃ a n c, v = .slice a n c) (h : DataW.Trod enc Try.prog W base (fun _ => true) held 34 v d p) : ∃ a n c, ∃ ls : List (List Nat), v = .slice a n c ∧ Parts W.heap.size W (.slice a n c) ls ∧ ∀ l ∈ ls, ∀ x ∈ l, x < 256 := by
  obtain ⟨fuel, hf⟩ := h
  obtain ⟨a', n', c', rfl⟩ := hv
  rcases Deep.open_int_rows Try.underlying34 Try.underlying22 Try.underlying5 cellsB cells8 hf with ⟨hcs, _⟩ | ⟨a, len, cap, A, L, C, Z, hcs, _, hl, hm, _, hx⟩
  · simp [Value.cells] at hcs
    obtain ⟨rfl, rfl, rfl⟩ := hcs
    exact ⟨_, _, _, [], rfl, Parts.nil _ _, fun x hx => by cases hx⟩
  · simp [Value.cells] at hcs
    obtain ⟨rfl, rfl, rfl⟩ := hcs
    by_cases h0 : n' = 0
    · subst h0
      exact ⟨_, _, _, [], rfl, .inl ⟨rfl, _, _, rfl⟩, fun x hx => by cases hx⟩
    · obtain ⟨b, off, spot⟩ := a
      have hspot : spot = none := by simpa [Addr.add] using World.cell?_spot (hx 0 (by omega)).1
      subst hspot
      have each : ∀ i, i < n' → ∃ l : List Nat, (∃ v, W.cell? ⟨b, off + i, none⟩ = some v ∧ Sl encY W.heap.size W v l) ∧ ∀ x ∈ l, x < 256 := by
        intro i hi
        obtain ⟨e1, r1, r2, r3, r4, r5, r6⟩ := hx i (by omega)
        have e1' : W.cell? ⟨b, off + i, none⟩ = some (.slice (A i) (L i) (C i)) := by rw [← add_plain]; exact e1
        cases hA : A i with
        | none =>
          have hC := r5 hA
          have hL : L i = 0 := by omega
          rw [hA, hC, hL] at e1'
          exact ⟨[], ⟨_, e1', Sl.nil _ _ _⟩, fun x hx => by cases hx⟩
        | some a' =>
          obtain ⟨_, hc⟩ := r6 a' hA
          rw [hA] at e1'
          obtain ⟨l, h1, h2⟩ := sl_of_ints r1 r3 (by rw [r3]; exact hc) r4
          exact ⟨l, ⟨_, e1', h1⟩, h2⟩
      obtain ⟨ls, hlen, hp⟩ := list_of_fun n' _ each
      refine ⟨_, _, _, ls, rfl, .inr ⟨b, off, c', by rw [hlen], block_lt_of_cell (a := ⟨b, off + 0, none⟩) (by rw [← add_plain]; exact (hx 0 (by omega)).1), fun j l hj => (hp j l hj).1⟩, fun l hl => ?_⟩
      obtain ⟨j, hj⟩ := List.getElem?_of_mem hl
      exact (hp j l hj).2
end Go.Proofs.Ytpllbojmonfeiaa
