/- What comes in, opened: rows of frames. -/
import Derived.Test.YtpllbojmonfeiaaOpenP
import Derived.Test.YtpllbojmonfeiaaFrameJM
import Derived.Deep.SlicePairs
namespace Go.Proofs.Ytpllbojmonfeiaa
open Go.ChangeShapes Go.WideShapes Go.ChangeAt Go.RowKit
set_option linter.unusedVariables false

/-- A slice of frames. -/
def Frs (n : Nat) (W : World) (sv : Value) (xs : List (Int × List Nat)) : Prop :=
  (xs = [] ∧ ∃ a c, sv = .slice a 0 c) ∨ ∃ b off cap, sv = .slice (some ⟨b, off, none⟩) xs.length cap ∧ b < n ∧ ∀ j x, xs[j]? = some x → ∃ a c, W.cell? ⟨b, off + j * 2, none⟩ = some (.int .i64 x.1) ∧ W.cell? ⟨b, off + j * 2 + 1, none⟩ = some (.slice a x.2.length c) ∧ Sl encY n W (.slice a x.2.length c) x.2
theorem Frs.below {n : Nat} {A B : World} (h : Below n A B) {sv : Value} {xs : List (Int × List Nat)} : Frs n A sv xs → Frs n B sv xs
  | .inl e => .inl e
  | .inr ⟨b, off, cap, e, hb, hc⟩ => .inr ⟨b, off, cap, e, hb, fun j x hj => by
      obtain ⟨a, c, h1, h2, h3⟩ := hc j x hj
      exact ⟨a, c, (h.cell (p := ⟨b, off + j * 2, none⟩) hb).trans h1, (h.cell (p := ⟨b, off + j * 2 + 1, none⟩) hb).trans h2, h3.below h⟩⟩
theorem Frs.len {n : Nat} {W : World} {a : Option Addr} {m c : Nat} {xs : List (Int × List Nat)} (h : Frs n W (.slice a m c) xs) : m = xs.length := by
  rcases h with ⟨rfl, _, _, e⟩ | ⟨b, off, cap, e, _⟩
  · cases e; rfl
  · cases e; rfl
theorem Frs.at_ {n : Nat} {W : World} {a : Option Addr} {m c k : Nat} {x : Int × List Nat} {xs : List (Int × List Nat)} (h : Frs n W (.slice a m c) xs) (hx : xs[k]? = some x) :
    ∃ b off va vc, a = some ⟨b, off, none⟩ ∧ b < n ∧ W.cell? ⟨b, off + k * 2, none⟩ = some (.int .i64 x.1) ∧ W.cell? ⟨b, off + k * 2 + 1, none⟩ = some (.slice va x.2.length vc) ∧ Sl encY n W (.slice va x.2.length vc) x.2 := by
  rcases h with ⟨rfl, _⟩ | ⟨b, off, cap, e, hb, hc⟩
  · simp at hx
  · cases e
    obtain ⟨va, vc, h1, h2, h3⟩ := hc k x hx
    exact ⟨b, off, va, vc, rfl, hb, h1, h2, h3⟩

theorem cellsF : Try.prog.cellsOf 82 = 2 := by kernel_rfl
theorem cellsI : Try.prog.cellsOf 3 = 1 := by kernel_rfl
theorem open_bytes1 {H : Type} {enc : TypeId × Value → H} {W : World} {base n : Nat} {held : Bool} {v : Value} {x : DataW H × List MemPlace}
    (hf : DataW.trod enc Try.prog W base (fun _ => true) held n 22 [v] = some x) : ∃ a n c, ∃ l : List Nat, v = .slice a n c ∧ Sl encY W.heap.size W (.slice a n c) l ∧ ∀ x ∈ l, x < 256 := by
  rcases open_ints Try.underlying22 Try.underlying5 cells8 hf with ⟨hcs, _⟩ | ⟨a, len, cap, zs, hcs, _, hl, _, hz, _, hcell, hwz⟩
  · simp at hcs
    subst hcs
    exact ⟨_, _, _, [], rfl, Sl.nil _ _ _, fun x hx => by cases hx⟩
  · simp at hcs
    subst hcs
    simp only [if_true] at hz
    obtain ⟨l, h1, h2⟩ := sl_of_ints hl hz hcell hwz
    exact ⟨_, _, _, l, rfl, h1, h2⟩
theorem open_int1 {H : Type} {enc : TypeId × Value → H} {W : World} {base n : Nat} {held : Bool} {v : Value} {x : DataW H × List MemPlace}
    (hf : DataW.trod enc Try.prog W base (fun _ => true) held n 3 [v] = some x) : ∃ k : Int, v = .int .i64 k := by
  obtain ⟨k, h, _, _⟩ := DataW.trod_int Try.underlying3 hf
  simp at h
  exact ⟨k, h⟩

theorem open_frames {H : Type} {enc : TypeId × Value → H} {W : World} {base : Nat} {held : Bool} {v : Value} {d : DataW H} {p : List MemPlace}
    (hv : ∃ a n c, v = .slice a n c) (h : DataW.Trod enc Try.prog W base (fun _ => true) held 104 v d p) : ∃ a n c, ∃ xs : List (Int × List Nat), v = .slice a n c ∧ Frs W.heap.size W (.slice a n c) xs ∧ ∀ x ∈ xs, ∀ y ∈ x.2, y < 256 := by
  obtain ⟨fuel, hf⟩ := h
  obtain ⟨a', n', c', rfl⟩ := hv
  rcases Deep.open_slice_pairs Try.underlying104 Try.underlying82 cellsF rfl rfl cellsI (by kernel_rfl) hf with ⟨hcs, _⟩ | ⟨a, len, cap, m, n, V0, V1, D0, D1, P0, P1, hcs, _, hl, _, hm, _, hx⟩
  · simp [Value.cells] at hcs
    obtain ⟨rfl, rfl, rfl⟩ := hcs
    exact ⟨_, _, _, [], rfl, .inl ⟨rfl, _, _, rfl⟩, fun x hx => by cases hx⟩
  · simp [Value.cells] at hcs
    obtain ⟨rfl, rfl, rfl⟩ := hcs
    simp only [if_true] at hm
    by_cases h0 : n' = 0
    · subst h0
      exact ⟨_, _, _, [], rfl, .inl ⟨rfl, _, _, rfl⟩, fun x hx => by cases hx⟩
    · obtain ⟨b, off, spot⟩ := a
      have hspot : spot = none := by
        have := (hx 0 (by omega)).1
        simpa [Addr.add] using World.cell?_spot this
      subst hspot
      have each : ∀ i, i < n' → ∃ x : Int × List Nat, (∃ a c, W.cell? ⟨b, off + i * 2, none⟩ = some (.int .i64 x.1) ∧ W.cell? ⟨b, off + i * 2 + 1, none⟩ = some (.slice a x.2.length c) ∧ Sl encY W.heap.size W (.slice a x.2.length c) x.2) ∧ ∀ y ∈ x.2, y < 256 := by
        intro i hi
        obtain ⟨e1, e2, r1, r2⟩ := hx i (by omega)
        obtain ⟨k, hk⟩ := open_int1 r1
        obtain ⟨a, n, c, l, hv, hS, hb⟩ := open_bytes1 r2
        rw [add_plain, hk] at e1
        rw [add_plain, hv] at e2
        obtain rfl := hS.len
        exact ⟨(k, l), ⟨a, c, e1, by rw [Nat.add_assoc]; exact e2, hS⟩, hb⟩
      obtain ⟨xs, hlen, hp⟩ := list_of_fun n' _ each
      refine ⟨_, _, _, xs, rfl, .inr ⟨b, off, c', by rw [hlen], block_lt_of_cell (a := ⟨b, off + 0 * 2, none⟩) (by have := (hx 0 (by omega)).1; rw [add_plain] at this; exact this), fun j x hj => (hp j x hj).1⟩, fun x hx => ?_⟩
      obtain ⟨j, hj⟩ := List.getElem?_of_mem hx
      exact (hp j x hj).2
end Go.Proofs.Ytpllbojmonfeiaa
