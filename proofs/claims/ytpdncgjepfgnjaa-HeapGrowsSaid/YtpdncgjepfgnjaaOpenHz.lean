/- What comes in, opened: rows of int64. -/
import Derived.Test.YtpdncgjepfgnjaaOpenHp
import Derived.Test.YtpdncgjepfgnjaaHpFZ
namespace Go.Proofs.Ytpdncgjepfgnjaa
open Go.ChangeShapes Go.WideShapes Go.ChangeAt Go.RowKit
set_option linter.unusedVariables false
theorem open_lnums {H : Type} {enc : TypeId × Value → H} {W : World} {base : Nat} {held : Bool} {v : Value} {d : DataW H} {p : List MemPlace}
    (hv : ∃ a n c, v = .slice a n c) (h : DataW.Trod enc Try.prog W base (fun _ => true) held 47 v d p) :
    ∃ a n c, ∃ xs : List Int, v = .slice a n c ∧ PrsZ W.heap.size W (.slice a n c) xs ∧ (∀ x ∈ xs, In64 x) ∧ xs.length ≤ Go.maxLen := by
  obtain ⟨a, n, c, xs, rfl, hm, hc, hx⟩ := open_things (z := 1) (fun _ cs (y : Int) => cs = [.int .i64 y] ∧ In64 y) Try.underlying47 cells1b (by decide) (fun n cs x hl hf => by
    obtain ⟨v0, rfl⟩ := list1 cs hl
    obtain ⟨k, rfl, hk⟩ := open_i64 hf
    exact ⟨k, rfl, hk⟩) hv h
  refine ⟨a, n, c, xs, rfl, ?_, fun x hx' => ?_, hm⟩
  · rcases hx with ⟨rfl, rfl⟩ | ⟨b, off, rfl, hb, rfl, hcs⟩
    · exact .inl ⟨rfl, _, _, rfl⟩
    · refine .inr ⟨b, off, c, rfl, hb, hc, fun j x hj => ?_⟩
      obtain ⟨cs, h1, h2, rfl, _⟩ := hcs j x hj
      have := h2 0 (by decide)
      simpa using this
  · rcases hx with ⟨rfl, rfl⟩ | ⟨b, off, rfl, hb, rfl, hcs⟩
    · cases hx'
    · obtain ⟨j, hj⟩ := List.getElem?_of_mem hx'
      obtain ⟨cs, h1, h2, _, h3⟩ := hcs j x hj
      exact h3
end Go.Proofs.Ytpdncgjepfgnjaa
