/- What comes in, opened: what all openers share. -/
import Derived.Test.YtpcbdjdmhemjdaaSlices
import Derived.Deep.Matrix
import Derived.Deep.SlicePairs
import Derived.Carry
import Derived.ChangeSlices
import Derived.ProofKit
import Derived.OpenShut
namespace Go.Proofs.Ytpcbdjdmhemjdaa
open Go.ChangeShapes Go.WideShapes Go.ChangeAt Go.RowKit
set_option linter.unusedVariables false

theorem own : ownKnob Try.prog.godebug = none := by kernel_rfl
theorem laidOut : laidOutB Try.prog = true := by kernel_rfl

/-- All arguments read behind the call as they did. -/
theorem trodAll_below {H : Type} {enc : TypeId × Value → H} {W W' : World} (hb : Below W.heap.size W W') : ∀ (ts : List TypeId) (vs : List Value) (ds : List (DataW H)) (ps : List MemPlace),
    (∀ t ∈ ts, Try.prog.readableRec t = true ∧ t < Try.prog.types.size) → DataW.TrodAll enc Try.prog W 0 (fun _ => true) true ts vs ds ps → (∀ x ∈ ps, x.block < W.heap.size) →
    DataW.TrodAll enc Try.prog W' 0 (fun b => decide (b < W.heap.size)) true ts vs ds ps
  | [], vs, ds, ps, _, h, _ => by
    obtain ⟨rfl, rfl, rfl⟩ := trodAll_nil h
    exact trodAll_mk0
  | t :: ts, vs, ds, ps, hr, h, hlt => by
    obtain ⟨v, vs', d, ds', p, q, rfl, rfl, rfl, h1, h2⟩ := trodAll_cons h
    exact trodAll_cons_mk (Below.trod laidOut (hr t (by simp)).1 (hr t (by simp)).2 h1 hb (fun x hx => hlt x (by simp [hx]))) (trodAll_below hb ts vs' ds' q (fun t ht => hr t (by simp [ht])) h2 (fun x hx => hlt x (by simp [hx])))
theorem list_of_fun {α : Type} (n : Nat) (P : Nat → α → Prop) (h : ∀ i, i < n → ∃ x, P i x) : ∃ l : List α, l.length = n ∧ ∀ j x, l[j]? = some x → P j x := by
  induction n with
  | zero => exact ⟨[], rfl, fun j x hj => by simp at hj⟩
  | succ n ih =>
    obtain ⟨l, hl, hp⟩ := ih (fun i hi => h i (by omega))
    obtain ⟨x, hx⟩ := h n (by omega)
    refine ⟨l ++ [x], by simp [hl], fun j y hj => ?_⟩
    by_cases hjn : j < n
    · rw [List.getElem?_append_left (by omega)] at hj
      exact hp j y hj
    · have hlt := (List.getElem?_eq_some_iff.1 hj).1
      simp [hl] at hlt
      obtain rfl : j = n := by omega
      rw [List.getElem?_append_right (by omega), hl, Nat.sub_self] at hj
      cases hj
      exact hx

/-- A slice of things of z cells each, opened by what each thing is. -/
theorem open_things {H : Type} {enc : TypeId × Value → H} {W : World} {base : Nat} {held : Bool} {v : Value} {d : DataW H} {p : List MemPlace} {t e : TypeId} {z : Nat} {α : Type} (R : World → List Value → α → Prop)
    (ht : Try.prog.underlying t = some (.slice e)) (hz : Try.prog.cellsOf e = z) (hz0 : 0 < z)
    (hone : ∀ (n : Nat) (cs : List Value) x, cs.length = z → DataW.trod enc Try.prog W base (fun _ => true) held n e cs = some x → ∃ y : α, R W cs y)
    (hv : ∃ a n c, v = .slice a n c) (h : DataW.Trod enc Try.prog W base (fun _ => true) held t v d p) :
    ∃ a n c, ∃ xs : List α, v = .slice a n c ∧ xs.length ≤ Go.maxLen ∧ n ≤ c ∧ ((xs = [] ∧ n = 0) ∨ ∃ b off, a = some ⟨b, off, none⟩ ∧ b < W.heap.size ∧ n = xs.length ∧ ∀ j x, xs[j]? = some x → ∃ cs : List Value, cs.length = z ∧ (∀ i, i < z → W.cell? ⟨b, off + j * z + i, none⟩ = cs[i]?) ∧ R W cs x) := by
  obtain ⟨fuel, hf⟩ := h
  obtain ⟨a', n', c', rfl⟩ := hv
  rcases Deep.open_slice ht hf with ⟨hcs, _⟩ | ⟨a, len, cap, m, n, D, Pl, hcs, _, hl, hmax, hm, _, hx⟩
  · simp [Value.cells] at hcs
    obtain ⟨rfl, rfl, rfl⟩ := hcs
    exact ⟨_, _, _, [], rfl, Nat.zero_le _, Nat.le_refl _, .inl ⟨rfl, rfl⟩⟩
  · simp [Value.cells] at hcs
    obtain ⟨rfl, rfl, rfl⟩ := hcs
    simp only [if_true] at hm
    rw [hz] at hx
    by_cases h0 : n' = 0
    · subst h0
      exact ⟨_, _, _, [], rfl, Nat.zero_le _, hl, .inl ⟨rfl, rfl⟩⟩
    · have each0 : ∀ i, i < n' → ∃ (y : α) (cs : List Value), cs.length = z ∧ (∀ j, j < z → W.cell? (a.add (i * z + j)) = cs[j]?) ∧ R W cs y := by
        intro i hi
        obtain ⟨cs', h1, h2⟩ := hx i (by omega)
        obtain ⟨_, hlen, hcell⟩ := World.cells?_some h1
        obtain ⟨y, hy⟩ := hone _ cs' _ hlen h2
        refine ⟨y, cs', hlen, fun j hj => ?_, hy⟩
        have e0 := hcell j (by omega)
        rw [Deep.add_add] at e0
        exact e0
      obtain ⟨b, off, spot⟩ := a
      obtain ⟨y0, cs0, l0, c0, _⟩ := each0 0 (by omega)
      have c00 := c0 0 hz0
      have hex : ∃ u, cs0[0]? = some u := ⟨_, List.getElem?_eq_getElem (by omega)⟩
      obtain ⟨u, hu⟩ := hex
      rw [hu] at c00
      have hspot : spot = none := by simpa [Addr.add] using World.cell?_spot c00
      subst hspot
      have each : ∀ i, i < n' → ∃ y : α, ∃ cs : List Value, cs.length = z ∧ (∀ j, j < z → W.cell? ⟨b, off + i * z + j, none⟩ = cs[j]?) ∧ R W cs y := by
        intro i hi
        obtain ⟨y, cs, h1, h2, h3⟩ := each0 i hi
        refine ⟨y, cs, h1, fun j hj => ?_, h3⟩
        have := h2 j hj
        rw [add_plain] at this
        rw [Nat.add_assoc]; exact this
      obtain ⟨xs, hlen, hp⟩ := list_of_fun n' _ each
      refine ⟨_, _, _, xs, rfl, by rw [hlen]; omega, hl, .inr ⟨b, off, rfl, ?_, hlen.symm, hp⟩⟩
      rw [add_plain] at c00
      exact block_lt_of_cell (a := ⟨b, off + (0 * z + 0), none⟩) c00
theorem bounds_of_int {k : Int} (h : (Lit.int .i64 k).wf = true) : -9223372036854775808 ≤ k ∧ k ≤ 9223372036854775807 := bounds_i64 h
theorem list2 {α : Type} : ∀ l : List α, l.length = 2 → ∃ a b, l = [a, b]
  | [a, b], _ => ⟨a, b, rfl⟩
theorem list3 {α : Type} : ∀ l : List α, l.length = 3 → ∃ a b c, l = [a, b, c]
  | [a, b, c], _ => ⟨a, b, c, rfl⟩
theorem list1 {α : Type} : ∀ l : List α, l.length = 1 → ∃ a, l = [a]
  | [a], _ => ⟨a, rfl⟩
end Go.Proofs.Ytpcbdjdmhemjdaa
