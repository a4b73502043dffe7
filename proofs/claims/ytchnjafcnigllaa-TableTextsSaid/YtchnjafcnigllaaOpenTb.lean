/- What comes in, opened: rows of a table's steps. -/
import Derived.Test.YtchnjafcnigllaaOpenG
namespace Go.Proofs.Ytchnjafcnigllaa
open Go.ChangeShapes Go.WideShapes Go.ChangeAt Go.RowKit
set_option linter.unusedVariables false

theorem cells1a : Try.prog.cellsOf 3 = 1 := by kernel_rfl
theorem cells1b : Try.prog.cellsOf 2 = 1 := by kernel_rfl
def In64 (k : Int) : Prop := -9223372036854775808 ≤ k ∧ k ≤ 9223372036854775807
theorem open_i64 {H : Type} {enc : TypeId × Value → H} {W : World} {base n : Nat} {held : Bool} {v : Value} {x : DataW H × List MemPlace}
    (hf : DataW.trod enc Try.prog W base (fun _ => true) held n 2 [v] = some x) : ∃ k : Int, v = .int .i64 k ∧ In64 k := by
  obtain ⟨k, h, _, hw⟩ := DataW.trod_int Try.underlying2 hf
  simp at h
  exact ⟨k, h, bounds_of_int hw⟩
/-- A table's step. -/
structure HOp where
  kind : Int
  k : Int
  v : Int
structure HOp.Ok (o : HOp) : Prop where
  kind : In64 o.kind
  k : In64 o.k
  v : In64 o.v
def HOps (n : Nat) (W : World) (sv : Value) (xs : List HOp) : Prop :=
  (xs = [] ∧ ∃ a c, sv = .slice a 0 c) ∨ ∃ b off cap, sv = .slice (some ⟨b, off, none⟩) xs.length cap ∧ b < n ∧ ∀ j x, xs[j]? = some x → W.cell? ⟨b, off + j * 3, none⟩ = some (.int .i64 x.kind) ∧ W.cell? ⟨b, off + j * 3 + 1, none⟩ = some (.int .i64 x.k) ∧ W.cell? ⟨b, off + j * 3 + 2, none⟩ = some (.int .i64 x.v)
theorem HOps.len {n : Nat} {W : World} {a : Option Addr} {m c : Nat} {xs : List HOp} (h : HOps n W (.slice a m c) xs) : m = xs.length := by
  rcases h with ⟨rfl, _, _, e⟩ | ⟨b, off, cap, e, _⟩
  · cases e; rfl
  · cases e; rfl
theorem HOps.at_ {n : Nat} {W : World} {a : Option Addr} {m c k : Nat} {xs : List HOp} (h : HOps n W (.slice a m c) xs) {x : HOp} (hx : xs[k]? = some x) :
    ∃ b off, a = some ⟨b, off, none⟩ ∧ b < n ∧ W.cell? ⟨b, off + k * 3, none⟩ = some (.int .i64 x.kind) ∧ W.cell? ⟨b, off + k * 3 + 1, none⟩ = some (.int .i64 x.k) ∧ W.cell? ⟨b, off + k * 3 + 2, none⟩ = some (.int .i64 x.v) := by
  rcases h with ⟨rfl, _⟩ | ⟨b, off, cap, e, hb, hc⟩
  · simp at hx
  · cases e
    exact ⟨b, off, rfl, hb, hc k x hx⟩
theorem cellsHo : Try.prog.cellsOf 46 = 3 := by kernel_rfl
theorem open_i64' {H : Type} {enc : TypeId × Value → H} {W : World} {base n : Nat} {held : Bool} {v : Value} {x : DataW H × List MemPlace}
    (hf : DataW.trod enc Try.prog W base (fun _ => true) held n 3 [v] = some x) : ∃ k : Int, v = .int .i64 k ∧ In64 k := by
  obtain ⟨k, h, _, hw⟩ := DataW.trod_int Try.underlying3 hf
  simp at h
  exact ⟨k, h, bounds_of_int hw⟩
theorem open_hop {H : Type} {enc : TypeId × Value → H} {W : World} {base n : Nat} {held : Bool} {cs : List Value} {x : DataW H × List MemPlace} (hl : cs.length = 3)
    (hf : DataW.trod enc Try.prog W base (fun _ => true) held n 46 cs = some x) : ∃ y : HOp, cs = [.int .i64 y.kind, .int .i64 y.k, .int .i64 y.v] ∧ y.Ok := by
  obtain ⟨xs, k, _, _, hlen, hxl, hg⟩ := DataW.trod_struct Try.underlying46 hf
  obtain ⟨v0, v1, v2, rfl⟩ := list3 cs hl
  obtain ⟨y0, y1, y2, rfl⟩ := list3 xs (by simpa using hxl)
  have g0 := hg 0 _ rfl
  have g1 := hg 1 _ rfl
  have g2 := hg 2 _ rfl
  simp [cells1a, cells1b] at g0 g1 g2
  obtain ⟨k0, rfl, w0⟩ := open_i64' g0
  obtain ⟨k1, rfl, w1⟩ := open_i64 g1
  obtain ⟨k2, rfl, w2⟩ := open_i64 g2
  exact ⟨⟨k0, k1, k2⟩, rfl, w0, w1, w2⟩
theorem open_hops {H : Type} {enc : TypeId × Value → H} {W : World} {base : Nat} {held : Bool} {v : Value} {d : DataW H} {p : List MemPlace}
    (hv : ∃ a n c, v = .slice a n c) (h : DataW.Trod enc Try.prog W base (fun _ => true) held 22 v d p) :
    ∃ a n c, ∃ xs : List HOp, v = .slice a n c ∧ HOps W.heap.size W (.slice a n c) xs ∧ (∀ x ∈ xs, x.Ok) ∧ xs.length ≤ Go.maxLen := by
  obtain ⟨a, n, c, xs, rfl, hm, hc, hx⟩ := open_things (z := 3) (fun _ cs (y : HOp) => cs = [.int .i64 y.kind, .int .i64 y.k, .int .i64 y.v] ∧ y.Ok) Try.underlying22 cellsHo (by decide) (fun n cs x hl hf => open_hop hl hf) hv h
  refine ⟨a, n, c, xs, rfl, ?_, fun x hx' => ?_, hm⟩
  · rcases hx with ⟨rfl, rfl⟩ | ⟨b, off, rfl, hb, rfl, hcs⟩
    · exact .inl ⟨rfl, _, _, rfl⟩
    · refine .inr ⟨b, off, c, rfl, hb, fun j x hj => ?_⟩
      obtain ⟨cs, h1, h2, rfl, _⟩ := hcs j x hj
      exact ⟨h2 0 (by decide), h2 1 (by decide), h2 2 (by decide)⟩
  · rcases hx with ⟨rfl, rfl⟩ | ⟨b, off, rfl, hb, rfl, hcs⟩
    · cases hx'
    · obtain ⟨j, hj⟩ := List.getElem?_of_mem hx'
      obtain ⟨cs, h1, h2, _, h3⟩ := hcs j x hj
      exact h3
end Go.Proofs.Ytchnjafcnigllaa
