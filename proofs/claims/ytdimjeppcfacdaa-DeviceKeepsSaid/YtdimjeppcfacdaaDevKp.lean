/- What a row of steps of a device and its clone keeps. -/
import Derived.Test.YtdimjeppcfacdaaDevDo
namespace Go.Proofs.Ytdimjeppcfacdaa
open Go.RowKit
set_option linter.unusedVariables false

/-- Behind k steps: the device at b. -/
structure KeepI (w : World) (b : Nat) (wr : World) : Prop where
  has : ∃ own D v0 v1, Dev own wr b D v0 v1 ∧ ∀ k ∈ own, w.heap.size ≤ k
  below : Below w.heap.size w wr
/-- A row of bytes whose bytes are turned one by one. -/
structure IncI (B0 : Nat) (v : Value) (n : Nat) (w0 wr : World) : Prop where
  row : ∃ xs : List Nat, (∀ x ∈ xs, x < 256) ∧ xs.length = n ∧ wr.ownsRow B0 5 1 v n (xs.map encY)
  but : But v.ownBlock.toList w0 wr
  size : wr.heap.size = w0.heap.size
theorem IncI.start {B0 : Nat} {v : Value} {n : Nat} {w0 : World} {l : List Nat} (hb : ∀ x ∈ l, x < 256) (hl : l.length = n) (h : w0.ownsRow B0 5 1 v n (l.map encY)) : IncI B0 v n w0 w0 := ⟨⟨l, hb, hl, h⟩, But.refl _ _, rfl⟩
theorem IncI.step {B0 n c j : Nat} {a : Option Addr} {w0 wr : World} (h : IncI B0 (.slice a n c) n w0 wr) (hj : j < n) :
    ∃ g x, a = some ⟨g, 0, none⟩ ∧ x < 256 ∧ wr.cell? ⟨g, j, none⟩ = some (.int .u8 (x : Nat)) ∧ wr.frozen? ⟨g, j, none⟩ = false ∧ ∀ y, y < 256 → IncI B0 (.slice a n c) n w0 (wr.setCell ⟨g, j, none⟩ (.int .u8 (y : Nat))) := by
  obtain ⟨xs, hx, hl, hrow⟩ := h.row
  rcases hrow.2 with ⟨e0, h0⟩ | ⟨g, cap, cur, e0, _⟩
  · omega
  · simp only [Value.slice.injEq] at e0
    obtain ⟨rfl, _, rfl⟩ := e0
    obtain ⟨x, hxj⟩ : ∃ x, xs[j]? = some x := ⟨xs[j]'(by omega), List.getElem?_eq_getElem _⟩
    refine ⟨g, x, rfl, hx x (List.mem_of_getElem? hxj), ?_, hrow.frozenAt j, fun y hy => ?_⟩
    · rw [hrow.cellAt j (by omega), List.getElem?_map, hxj]; rfl
    · obtain ⟨h1, h2⟩ := hrow.stored j (.int .u8 (y : Nat))
      refine ⟨⟨xs.set j y, fun z hz => ?_, by rw [List.length_set]; exact hl, ?_⟩, h.but.set (by simp [Value.ownBlock]) _, by simp [World.setCell]; exact h.size⟩
      · rcases List.mem_or_eq_of_mem_set hz with h3 | rfl
        · exact hx z h3
        · exact hy
      · rw [List.map_set]; exact h1
theorem incr8 (x : Nat) : ∃ y : Nat, y < 256 ∧ IntKind.u8.wrap ((x : Int) + 1) = (y : Int) ∧ ((x : Int) + 1) % 256 = (y : Int) := by
  refine ⟨(x + 1) % 256, by omega, ?_, by omega⟩
  rw [IntKind.wrap_u8]
  try omega
def R0 : RefS := ⟨0, [], [], false, 0, 0⟩
theorem r0_at (w : World) : RefAt w R0 (.slice none 0 0) (.slice none 0 0) := ⟨Sl.nil _ _ _, Sl.nil _ _ _, ⟨by decide, by decide, by decide, by decide⟩⟩
theorem off_none (own : List Nat) : Off own (.slice none 0 0) := fun ad m c e => by cases e
/-- A row in new memory lies off what was there. -/
theorem off_row {W W0 : World} {n : Nat} {v : Value} {xs : List Value} (h : W.ownsRow W0.heap.size 5 1 v n xs) (own : List Nat) (ho : ∀ k ∈ own, k < W0.heap.size) : Off own v := off_fresh h own ho
theorem row_block {W : World} {B n : Nat} {v : Value} {xs : List Value} (h : W.ownsRow B 5 1 v n xs) : ∀ k ∈ v.ownBlock.toList, B ≤ k ∧ k < W.heap.size := fun k hk => World.ownsRow.lt h k (by simpa using hk)
theorem own_keep {own : List Nat} {W W' : World} {B n : Nat} {v : Value} {xs : List Value} (h : W.ownsRow B 5 1 v n xs) (hb : But own W W') (hn : ∀ k ∈ v.ownBlock.toList, k ∉ own) : W'.ownsRow B 5 1 v n xs := by
  obtain ⟨h1, h2⟩ := h
  refine ⟨h1, ?_⟩
  rcases h2 with h2 | ⟨g, cap, cur, hv, hg, hh, r⟩
  · exact .inl h2
  · exact .inr ⟨g, cap, cur, hv, hg, (hb.block g (Array.getElem?_eq_some_iff.1 hh).1 (hn g (by rw [hv]; simp [Value.ownBlock]))).trans hh, r⟩
theorem IncI.sl {B0 : Nat} {v : Value} {n : Nat} {w0 wr : World} (h : IncI B0 v n w0 wr) : ∃ a c, v = .slice a n c := by
  obtain ⟨xs, _, hl, hr⟩ := h.row
  rcases hr.2 with ⟨e, e0⟩ | ⟨g, cap, cur, e, _⟩
  · exact ⟨_, _, by rw [e, e0]⟩
  · exact ⟨_, _, e⟩
theorem sl_row {W : World} {B n : Nat} {v : Value} {xs : List Value} (h : W.ownsRow B 5 1 v n xs) : ∃ a c, v = .slice a n c := by
  rcases h.2 with ⟨e, e0⟩ | ⟨g, cap, cur, e, _⟩
  · exact ⟨_, _, by rw [e, e0]⟩
  · exact ⟨_, _, e⟩
theorem but_keeps {own : List Nat} {w W W' : World} (hB : Below w.heap.size w W) (ho : ∀ k ∈ own, w.heap.size ≤ k) (hb : But own W W') : Below w.heap.size w W' := hB.trans (hb.below ho hB.size)
end Go.Proofs.Ytdimjeppcfacdaa
