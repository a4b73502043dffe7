/- What comes in, opened: rows of rows of pairs. -/
import Derived.Test.YtpdncgjepfgnjaaOpenHp
import Derived.Test.YtpdncgjepfgnjaaMrgA
namespace Go.Proofs.Ytpdncgjepfgnjaa
open Go.ChangeShapes Go.WideShapes Go.ChangeAt Go.RowKit
set_option linter.unusedVariables false

theorem cellsPs : Try.prog.cellsOf 29 = 1 := by kernel_rfl
theorem open_pairs1 {H : Type} {enc : TypeId × Value → H} {W : World} {base n : Nat} {held : Bool} {cs : List Value} {x : DataW H × List MemPlace}
    (hf : DataW.trod enc Try.prog W base (fun _ => true) held n 29 cs = some x) : ∃ y : Value × List (Int × Int), cs = [y.1] ∧ PrL 0 W.heap.size W y.1 y.2 ∧ (∀ z ∈ y.2, In64 z.1 ∧ In64 z.2) ∧ y.2.length ≤ Go.maxLen := by
  have key : ∀ v, (∃ a n c, v = .slice a n c) → (∀ m c, v = .slice none m c → c = 0) → cs = [v] → ∃ y : Value × List (Int × Int), cs = [y.1] ∧ PrL 0 W.heap.size W y.1 y.2 ∧ (∀ z ∈ y.2, In64 z.1 ∧ In64 z.2) ∧ y.2.length ≤ Go.maxLen := fun v hv h0 e => by
    obtain ⟨d, p⟩ := x
    subst e
    obtain ⟨a, m, c, rfl⟩ := hv
    obtain ⟨a', m', c', xs, e, h1, h2, h3⟩ := open_pairs ⟨_, _, _, rfl⟩ (show DataW.Trod enc Try.prog W base (fun _ => true) held 29 (.slice a m c) d p from ⟨n, hf⟩)
    cases e
    exact ⟨(_, xs), rfl, PrL.of_prs h1 h0, h2, h3⟩
  rcases Deep.open_slice Try.underlying29 hf with ⟨rfl, _⟩ | ⟨a, len, cap, m, n, D, Pl, rfl, _⟩
  · exact key _ ⟨_, _, _, rfl⟩ (fun m c e => by cases e; rfl) rfl
  · exact key _ ⟨_, _, _, rfl⟩ (fun m c e => by cases e) rfl
/-- A row of rows, as values and what they hold. -/
structure RowsP (W : World) (sv : Value) (vs : List Value) (ls : List (List (Int × Int))) : Prop where
  row : Sl (fun v : Value => v) W.heap.size W sv vs
  each : LL 0 W.heap.size W vs ls
theorem RowsP.len {W : World} {a : Option Addr} {n c : Nat} {vs : List Value} {ls : List (List (Int × Int))} (h : RowsP W (.slice a n c) vs ls) : n = ls.length := by
  rw [← h.each.len]
  rcases h.row with ⟨rfl, _, _, e, _⟩ | ⟨_, _, _, e, _⟩
  · cases e; rfl
  · cases e; rfl
theorem open_lists {H : Type} {enc : TypeId × Value → H} {W : World} {base : Nat} {held : Bool} {v : Value} {d : DataW H} {p : List MemPlace}
    (hv : ∃ a n c, v = .slice a n c) (h : DataW.Trod enc Try.prog W base (fun _ => true) held 57 v d p) :
    ∃ a n c, ∃ (vs : List Value) (ls : List (List (Int × Int))), v = .slice a n c ∧ RowsP W (.slice a n c) vs ls ∧ (∀ xs ∈ ls, (∀ x ∈ xs, In64 x.1 ∧ In64 x.2) ∧ xs.length ≤ Go.maxLen) ∧ ls.length ≤ Go.maxLen := by
  obtain ⟨a', n', c', rfl⟩ := hv
  have hc0 : a' = none → n' = 0 ∧ c' = 0 := fun e => by
    subst e
    obtain ⟨fuel, hf⟩ := h
    rcases Deep.open_slice Try.underlying57 hf with ⟨hcs, _⟩ | ⟨a, len, cap, m, n, D, Pl, hcs, _⟩
    · simp [Value.cells] at hcs; exact hcs
    · simp [Value.cells] at hcs
  obtain ⟨a, n, c, xs, e, hm, hc, hx⟩ := open_things (z := 1) (fun (W : World) cs (y : Value × List (Int × Int)) => cs = [y.1] ∧ PrL 0 W.heap.size W y.1 y.2 ∧ (∀ z ∈ y.2, In64 z.1 ∧ In64 z.2) ∧ y.2.length ≤ Go.maxLen) Try.underlying57 cellsPs (by decide) (fun n cs x hl hf => open_pairs1 hf) ⟨_, _, _, rfl⟩ h
  cases e
  rcases hx with ⟨rfl, rfl⟩ | ⟨b, off, rfl, hb, rfl, hcs⟩
  · exact ⟨_, _, _, [], [], rfl, ⟨.inl ⟨rfl, _, _, rfl, fun e => (hc0 e).2⟩, ⟨rfl, fun i v xs h1 h2 => by simp at h1⟩⟩, ⟨fun xs hx => (by cases hx), Nat.zero_le _⟩⟩
  · refine ⟨_, _, _, xs.map Prod.fst, xs.map Prod.snd, rfl, ⟨.inr ⟨b, off, c', by rw [List.length_map], hb, by rw [List.length_map]; exact hc, fun j x hj => ?_⟩, ⟨by simp, fun i v ys h1 h2 => ?_⟩⟩, fun ys hys => ?_, by rw [List.length_map]; exact hm⟩
    · rw [List.getElem?_map] at hj
      cases hx : xs[j]? with
      | none => rw [hx] at hj; cases hj
      | some y =>
        rw [hx] at hj
        cases hj
        obtain ⟨cs, h1, h2, rfl, _⟩ := hcs j y hx
        have := h2 0 (by decide)
        simpa using this
    · rw [List.getElem?_map] at h1 h2
      cases hx : xs[i]? with
      | none => rw [hx] at h1; cases h1
      | some y =>
        rw [hx] at h1 h2
        cases h1; cases h2
        obtain ⟨cs, _, _, _, h3, _⟩ := hcs i y hx
        exact h3
    · obtain ⟨y, hy, rfl⟩ := List.mem_map.1 hys
      obtain ⟨j, hj⟩ := List.getElem?_of_mem hy
      obtain ⟨cs, _, _, _, _, h4⟩ := hcs j y hj
      exact h4
end Go.Proofs.Ytpdncgjepfgnjaa
