/- What comes in, opened: rows of steps of a device. -/
import Derived.Test.YtdimjeppcfacdaaOpenF
import Derived.Test.YtdimjeppcfacdaaOpenP
import Derived.Deep.SlicePairs
namespace Go.Proofs.Ytdimjeppcfacdaa
open Go.ChangeShapes Go.WideShapes Go.ChangeAt Go.RowKit
set_option linter.unusedVariables false

/-- A step of a device. -/
structure OpS where
  kind : Int
  region : Int
  n : Int
  data : List Nat
structure OpS.Ok (o : OpS) : Prop where
  kind : -9223372036854775808 ≤ o.kind ∧ o.kind ≤ 9223372036854775807
  region : -9223372036854775808 ≤ o.region ∧ o.region ≤ 9223372036854775807
  n : -9223372036854775808 ≤ o.n ∧ o.n ≤ 9223372036854775807
  data : ∀ y ∈ o.data, y < 256
/-- A slice of steps. -/
def Ops (n : Nat) (W : World) (sv : Value) (xs : List OpS) : Prop :=
  (xs = [] ∧ ∃ a c, sv = .slice a 0 c) ∨ ∃ b off cap, sv = .slice (some ⟨b, off, none⟩) xs.length cap ∧ b < n ∧ ∀ j x, xs[j]? = some x → ∃ a c, W.cell? ⟨b, off + j * 4, none⟩ = some (.int .i64 x.kind) ∧ W.cell? ⟨b, off + j * 4 + 1, none⟩ = some (.int .i64 x.region) ∧ W.cell? ⟨b, off + j * 4 + 2, none⟩ = some (.int .i64 x.n) ∧ W.cell? ⟨b, off + j * 4 + 3, none⟩ = some (.slice a x.data.length c) ∧ Sl encY n W (.slice a x.data.length c) x.data
theorem Ops.below {n : Nat} {A B : World} (h : Below n A B) {sv : Value} {xs : List OpS} : Ops n A sv xs → Ops n B sv xs
  | .inl e => .inl e
  | .inr ⟨b, off, cap, e, hb, hc⟩ => .inr ⟨b, off, cap, e, hb, fun j x hj => by
      obtain ⟨a, c, h1, h2, h3, h4, h5⟩ := hc j x hj
      exact ⟨a, c, (h.cell (p := ⟨b, off + j * 4, none⟩) hb).trans h1, (h.cell (p := ⟨b, off + j * 4 + 1, none⟩) hb).trans h2, (h.cell (p := ⟨b, off + j * 4 + 2, none⟩) hb).trans h3, (h.cell (p := ⟨b, off + j * 4 + 3, none⟩) hb).trans h4, h5.below h⟩⟩
theorem Ops.mono {n m : Nat} {W : World} {sv : Value} {xs : List OpS} (hnm : n ≤ m) : Ops n W sv xs → Ops m W sv xs
  | .inl e => .inl e
  | .inr ⟨b, off, cap, e, hb, hc⟩ => .inr ⟨b, off, cap, e, Nat.lt_of_lt_of_le hb hnm, fun j x hj => by
      obtain ⟨a, c, h1, h2, h3, h4, h5⟩ := hc j x hj
      exact ⟨a, c, h1, h2, h3, h4, h5.mono hnm⟩⟩
theorem Ops.len {n : Nat} {W : World} {a : Option Addr} {m c : Nat} {xs : List OpS} (h : Ops n W (.slice a m c) xs) : m = xs.length := by
  rcases h with ⟨rfl, _, _, e⟩ | ⟨b, off, cap, e, _⟩
  · cases e; rfl
  · cases e; rfl
theorem Ops.at_ {n : Nat} {W : World} {a : Option Addr} {m c k : Nat} {x : OpS} {xs : List OpS} (h : Ops n W (.slice a m c) xs) (hx : xs[k]? = some x) :
    ∃ b off va vc, a = some ⟨b, off, none⟩ ∧ b < n ∧ W.cell? ⟨b, off + k * 4, none⟩ = some (.int .i64 x.kind) ∧ W.cell? ⟨b, off + k * 4 + 1, none⟩ = some (.int .i64 x.region) ∧ W.cell? ⟨b, off + k * 4 + 2, none⟩ = some (.int .i64 x.n) ∧ W.cell? ⟨b, off + k * 4 + 3, none⟩ = some (.slice va x.data.length vc) ∧ Sl encY n W (.slice va x.data.length vc) x.data := by
  rcases h with ⟨rfl, _⟩ | ⟨b, off, cap, e, hb, hc⟩
  · simp at hx
  · cases e
    obtain ⟨va, vc, h1, h2, h3, h4, h5⟩ := hc k x hx
    exact ⟨b, off, va, vc, rfl, hb, h1, h2, h3, h4, h5⟩

theorem cellsOp : Try.prog.cellsOf 36 = 4 := by kernel_rfl
theorem open_int1w {H : Type} {enc : TypeId × Value → H} {W : World} {base n : Nat} {held : Bool} {v : Value} {x : DataW H × List MemPlace}
    (hf : DataW.trod enc Try.prog W base (fun _ => true) held n 3 [v] = some x) : ∃ k : Int, v = .int .i64 k ∧ (-9223372036854775808 ≤ k ∧ k ≤ 9223372036854775807) := by
  obtain ⟨k, h, _, hw⟩ := DataW.trod_int Try.underlying3 hf
  simp at h
  exact ⟨k, h, bounds_i64 hw⟩

theorem list4 {α : Type} : ∀ l : List α, l.length = 4 → ∃ a b c d, l = [a, b, c, d]
  | [a, b, c, d], _ => ⟨a, b, c, d, rfl⟩
theorem open_op {H : Type} {enc : TypeId × Value → H} {W : World} {base n : Nat} {held : Bool} {cs : List Value} {x : DataW H × List MemPlace}
    (hf : DataW.trod enc Try.prog W base (fun _ => true) held n 36 cs = some x) : ∃ (o : OpS) (a : Option Addr) (c : Nat), cs = [.int .i64 o.kind, .int .i64 o.region, .int .i64 o.n, .slice a o.data.length c] ∧ Sl encY W.heap.size W (.slice a o.data.length c) o.data ∧ o.Ok := by
  obtain ⟨xs, k, _, _, hlen, hxl, hg⟩ := DataW.trod_struct Try.underlying36 hf
  rw [cellsOp] at hlen
  obtain ⟨v0, v1, v2, v3, rfl⟩ := list4 cs hlen
  obtain ⟨y0, y1, y2, y3, rfl⟩ := list4 xs (by simpa using hxl)
  have g0 := hg 0 _ rfl
  have g1 := hg 1 _ rfl
  have g2 := hg 2 _ rfl
  have g3 := hg 3 _ rfl
  simp [cellsI, cellsB] at g0 g1 g2 g3
  obtain ⟨k0, rfl, w0⟩ := open_int1w g0
  obtain ⟨k1, rfl, w1⟩ := open_int1w g1
  obtain ⟨k2, rfl, w2⟩ := open_int1w g2
  obtain ⟨a, n, c, l, rfl, hS, hb⟩ := open_bytes1 g3
  obtain rfl := hS.len
  exact ⟨⟨k0, k1, k2, l⟩, a, c, rfl, hS, ⟨w0, w1, w2, hb⟩⟩

theorem open_ops {H : Type} {enc : TypeId × Value → H} {W : World} {base : Nat} {held : Bool} {v : Value} {d : DataW H} {p : List MemPlace}
    (hv : ∃ a n c, v = .slice a n c) (h : DataW.Trod enc Try.prog W base (fun _ => true) held 27 v d p) : ∃ a n c, ∃ xs : List OpS, v = .slice a n c ∧ Ops W.heap.size W (.slice a n c) xs ∧ (∀ x ∈ xs, x.Ok) ∧ xs.length ≤ Go.maxLen := by
  obtain ⟨fuel, hf⟩ := h
  obtain ⟨a', n', c', rfl⟩ := hv
  rcases Deep.open_slice Try.underlying27 hf with ⟨hcs, _⟩ | ⟨a, len, cap, m, n, D, Pl, hcs, _, hl, hmax, hm, _, hx⟩
  · simp [Value.cells] at hcs
    obtain ⟨rfl, rfl, rfl⟩ := hcs
    exact ⟨_, _, _, [], rfl, .inl ⟨rfl, _, _, rfl⟩, (fun x hx => by cases hx), Nat.zero_le _⟩
  · simp [Value.cells] at hcs
    obtain ⟨rfl, rfl, rfl⟩ := hcs
    simp only [if_true] at hm
    rw [cellsOp] at hx
    by_cases h0 : n' = 0
    · subst h0
      exact ⟨_, _, _, [], rfl, .inl ⟨rfl, _, _, rfl⟩, (fun x hx => by cases hx), Nat.zero_le _⟩
    · have each0 : ∀ i, i < n' → ∃ (o : OpS) (va : Option Addr) (vc : Nat), W.cell? (a.add (i * 4)) = some (.int .i64 o.kind) ∧ W.cell? (a.add (i * 4 + 1)) = some (.int .i64 o.region) ∧ W.cell? (a.add (i * 4 + 2)) = some (.int .i64 o.n) ∧ W.cell? (a.add (i * 4 + 3)) = some (.slice va o.data.length vc) ∧ Sl encY W.heap.size W (.slice va o.data.length vc) o.data ∧ o.Ok := by
        intro i hi
        obtain ⟨cs', h1, h2⟩ := hx i (by omega)
        obtain ⟨_, hlen, hcell⟩ := World.cells?_some h1
        obtain ⟨o, va, vc, rfl, hS, ok⟩ := open_op h2
        have e0 := hcell 0 (by omega)
        have e1 := hcell 1 (by omega)
        have e2 := hcell 2 (by omega)
        have e3 := hcell 3 (by omega)
        rw [Deep.add_add] at e0 e1 e2 e3
        exact ⟨o, va, vc, by simpa using e0, by simpa using e1, by simpa using e2, by simpa using e3, hS, ok⟩
      obtain ⟨b, off, spot⟩ := a
      have hspot : spot = none := by
        obtain ⟨o, va, vc, e, _⟩ := each0 0 (by omega)
        simpa [Addr.add] using World.cell?_spot e
      subst hspot
      have each : ∀ i, i < n' → ∃ x : OpS, (∃ a c, W.cell? ⟨b, off + i * 4, none⟩ = some (.int .i64 x.kind) ∧ W.cell? ⟨b, off + i * 4 + 1, none⟩ = some (.int .i64 x.region) ∧ W.cell? ⟨b, off + i * 4 + 2, none⟩ = some (.int .i64 x.n) ∧ W.cell? ⟨b, off + i * 4 + 3, none⟩ = some (.slice a x.data.length c) ∧ Sl encY W.heap.size W (.slice a x.data.length c) x.data) ∧ x.Ok := by
        intro i hi
        obtain ⟨o, va, vc, e0, e1, e2, e3, hS, ok⟩ := each0 i hi
        rw [add_plain] at e0 e1 e2 e3
        exact ⟨o, ⟨va, vc, e0, by rw [Nat.add_assoc]; exact e1, by rw [Nat.add_assoc]; exact e2, by rw [Nat.add_assoc]; exact e3, hS⟩, ok⟩
      obtain ⟨xs, hlen, hp⟩ := list_of_fun n' _ each
      refine ⟨_, _, _, xs, rfl, .inr ⟨b, off, c', by rw [hlen], ?_, fun j x hj => (hp j x hj).1⟩, (fun x hx => ?_), by rw [hlen]; exact Nat.le_trans hl hmax⟩
      · obtain ⟨x, ⟨_, _, e, _⟩, _⟩ := each 0 (by omega)
        exact block_lt_of_cell (a := ⟨b, off + 0 * 4, none⟩) e
      · obtain ⟨j, hj⟩ := List.getElem?_of_mem hx
        exact (hp j x hj).2
end Go.Proofs.Ytdimjeppcfacdaa
