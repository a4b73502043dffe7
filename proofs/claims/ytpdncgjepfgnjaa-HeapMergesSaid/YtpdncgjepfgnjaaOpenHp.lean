/- What comes in, opened: rows of pairs, of a heap's steps. -/
import Derived.Test.YtpdncgjepfgnjaaOpenG
import Derived.Test.YtpdncgjepfgnjaaHpV
namespace Go.Proofs.Ytpdncgjepfgnjaa
open Go.ChangeShapes Go.WideShapes Go.ChangeAt Go.RowKit
set_option linter.unusedVariables false

theorem cellsPr : Try.prog.cellsOf 27 = 2 := by kernel_rfl
theorem cells1a : Try.prog.cellsOf 3 = 1 := by kernel_rfl
theorem cells1b : Try.prog.cellsOf 2 = 1 := by kernel_rfl
def In64 (k : Int) : Prop := -9223372036854775808 ≤ k ∧ k ≤ 9223372036854775807
theorem open_i64 {H : Type} {enc : TypeId × Value → H} {W : World} {base n : Nat} {held : Bool} {v : Value} {x : DataW H × List MemPlace}
    (hf : DataW.trod enc Try.prog W base (fun _ => true) held n 2 [v] = some x) : ∃ k : Int, v = .int .i64 k ∧ In64 k := by
  obtain ⟨k, h, _, hw⟩ := DataW.trod_int Try.underlying2 hf
  simp at h
  exact ⟨k, h, bounds_of_int hw⟩
theorem open_pair {H : Type} {enc : TypeId × Value → H} {W : World} {base n : Nat} {held : Bool} {cs : List Value} {x : DataW H × List MemPlace} (hl : cs.length = 2)
    (hf : DataW.trod enc Try.prog W base (fun _ => true) held n 27 cs = some x) : ∃ y : Int × Int, cs = [.int .i64 y.1, .int .i64 y.2] ∧ In64 y.1 ∧ In64 y.2 := by
  obtain ⟨xs, k, _, _, hlen, hxl, hg⟩ := DataW.trod_struct Try.underlying27 hf
  obtain ⟨v0, v1, rfl⟩ := list2 cs hl
  obtain ⟨y0, y1, rfl⟩ := list2 xs (by simpa using hxl)
  have g0 := hg 0 _ rfl
  have g1 := hg 1 _ rfl
  simp [cells1b] at g0 g1
  obtain ⟨k0, rfl, w0⟩ := open_i64 g0
  obtain ⟨k1, rfl, w1⟩ := open_i64 g1
  exact ⟨(k0, k1), rfl, w0, w1⟩
theorem open_pairs {H : Type} {enc : TypeId × Value → H} {W : World} {base : Nat} {held : Bool} {v : Value} {d : DataW H} {p : List MemPlace}
    (hv : ∃ a n c, v = .slice a n c) (h : DataW.Trod enc Try.prog W base (fun _ => true) held 29 v d p) :
    ∃ a n c, ∃ xs : List (Int × Int), v = .slice a n c ∧ PrsP W.heap.size W (.slice a n c) xs ∧ (∀ x ∈ xs, In64 x.1 ∧ In64 x.2) ∧ xs.length ≤ Go.maxLen := by
  obtain ⟨a, n, c, xs, rfl, hm, hc, hx⟩ := open_things (z := 2) (fun _ cs (y : Int × Int) => cs = [.int .i64 y.1, .int .i64 y.2] ∧ In64 y.1 ∧ In64 y.2) Try.underlying29 cellsPr (by decide) (fun n cs x hl hf => open_pair hl hf) hv h
  refine ⟨a, n, c, xs, rfl, ?_, fun x hx' => ?_, hm⟩
  · rcases hx with ⟨rfl, rfl⟩ | ⟨b, off, rfl, hb, rfl, hcs⟩
    · exact .inl ⟨rfl, _, _, rfl⟩
    · refine .inr ⟨b, off, c, rfl, hb, hc, fun j x hj => ?_⟩
      obtain ⟨cs, h1, h2, rfl, _⟩ := hcs j x hj
      exact ⟨h2 0 (by decide), h2 1 (by decide)⟩
  · rcases hx with ⟨rfl, rfl⟩ | ⟨b, off, rfl, hb, rfl, hcs⟩
    · cases hx'
    · obtain ⟨j, hj⟩ := List.getElem?_of_mem hx'
      obtain ⟨cs, h1, h2, _, h3⟩ := hcs j x hj
      exact h3
end Go.Proofs.Ytpdncgjepfgnjaa
