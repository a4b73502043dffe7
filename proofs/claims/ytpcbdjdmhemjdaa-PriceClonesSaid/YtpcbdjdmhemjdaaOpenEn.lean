/- What comes in, opened: rows of entries, of sets. -/
import Derived.Test.YtpcbdjdmhemjdaaOpenG
import Derived.Test.YtpcbdjdmhemjdaaPriR
import Derived.ChangeArms
import Derived.ChangeShapes
import Derived.WideShapes
namespace Go.Proofs.Ytpcbdjdmhemjdaa
open Go.ChangeShapes Go.WideShapes Go.ChangeAt Go.RowKit
set_option linter.unusedVariables false

theorem cellsAt : Try.prog.cellsOf 41 = 2 := by kernel_rfl
theorem cellsU : Try.prog.cellsOf 32 = 1 := by kernel_rfl
theorem cellsI : Try.prog.cellsOf 2 = 1 := by kernel_rfl
def In64 (k : Int) : Prop := -9223372036854775808 ≤ k ∧ k ≤ 9223372036854775807
theorem u64_bd {a : Int} (h : (Lit.int .u64 a).wf = true) : ∃ n : Nat, a = (n : Int) ∧ okS n := by
  have := bounds_u64 h
  exact ⟨a.toNat, by omega, by unfold okS; omega⟩
theorem open_i64 {H : Type} {enc : TypeId × Value → H} {W : World} {base n : Nat} {held : Bool} {v : Value} {x : DataW H × List MemPlace}
    (hf : DataW.trod enc Try.prog W base (fun _ => true) held n 2 [v] = some x) : ∃ k : Int, v = .int .i64 k ∧ In64 k := by
  obtain ⟨k, h, _, hw⟩ := DataW.trod_int Try.underlying2 hf
  simp at h
  exact ⟨k, h, bounds_of_int hw⟩
theorem open_u64 {H : Type} {enc : TypeId × Value → H} {W : World} {base n : Nat} {held : Bool} {v : Value} {x : DataW H × List MemPlace}
    (hf : DataW.trod enc Try.prog W base (fun _ => true) held n 32 [v] = some x) : ∃ k : Nat, v = .int .u64 (k : Nat) ∧ okS k := by
  obtain ⟨k, h, _, hw⟩ := DataW.trod_int Try.underlying32 hf
  simp at h
  obtain ⟨m, rfl, hm⟩ := u64_bd hw
  exact ⟨m, h, hm⟩
theorem open_ent {H : Type} {enc : TypeId × Value → H} {W : World} {base n : Nat} {held : Bool} {cs : List Value} {x : DataW H × List MemPlace} (hl : cs.length = 2)
    (hf : DataW.trod enc Try.prog W base (fun _ => true) held n 41 cs = some x) : ∃ y : Ent, cs = [.int .u64 (y.1 : Nat), .int .i64 y.2] ∧ okS y.1 ∧ In64 y.2 := by
  obtain ⟨xs, k, _, _, hlen, hxl, hg⟩ := DataW.trod_struct Try.underlying41 hf
  obtain ⟨v0, v1, rfl⟩ := list2 cs hl
  obtain ⟨y0, y1, rfl⟩ := list2 xs (by simpa using hxl)
  have g0 := hg 0 _ rfl
  have g1 := hg 1 _ rfl
  simp [cellsU, cellsI] at g0 g1
  obtain ⟨k0, rfl, w0⟩ := open_u64 g0
  obtain ⟨k1, rfl, w1⟩ := open_i64 g1
  exact ⟨(k0, k1), rfl, w0, w1⟩
theorem open_ents {H : Type} {enc : TypeId × Value → H} {W : World} {base : Nat} {held : Bool} {v : Value} {d : DataW H} {p : List MemPlace}
    (hv : ∃ a n c, v = .slice a n c) (h : DataW.Trod enc Try.prog W base (fun _ => true) held 22 v d p) :
    ∃ a n c, ∃ xs : List Ent, v = .slice a n c ∧ EnsP W.heap.size W (.slice a n c) xs ∧ (∀ x ∈ xs, okS x.1 ∧ In64 x.2) ∧ xs.length ≤ Go.maxLen := by
  obtain ⟨a, n, c, xs, rfl, hm, hc, hx⟩ := open_things (z := 2) (fun _ cs (y : Ent) => cs = [.int .u64 (y.1 : Nat), .int .i64 y.2] ∧ okS y.1 ∧ In64 y.2) Try.underlying22 cellsAt (by decide) (fun n cs x hl hf => open_ent hl hf) hv h
  refine ⟨a, n, c, xs, rfl, ?_, fun x hx' => ?_, hm⟩
  · rcases hx with ⟨rfl, rfl⟩ | ⟨b, off, rfl, hb, rfl, hcs⟩
    · exact .inl ⟨rfl, _, _, rfl⟩
    · refine .inr ⟨b, off, c, rfl, hb, hc, fun j x hj => ?_⟩
      obtain ⟨cs, h1, h2, rfl, _⟩ := hcs j x hj
      exact ⟨h2 0 (by decide), h2 1 (by decide)⟩
  · rcases hx with ⟨rfl, rfl⟩ | ⟨b, off, rfl, hb, rfl, hcs⟩
    · cases hx'
    · obtain ⟨j, hj⟩ := List.getElem?_of_mem hx'
      obtain ⟨cs, h1, h2, _, h3⟩ := hcs j x hj
      exact h3
/-- A slice of sets. -/
def SetP (n : Nat) (W : World) (sv : Value) (xs : List Nat) : Prop :=
  (xs = [] ∧ ∃ a c, sv = .slice a 0 c) ∨ ∃ b off cap, sv = .slice (some ⟨b, off, none⟩) xs.length cap ∧ b < n ∧ xs.length ≤ cap ∧ ∀ (j x : Nat), xs[j]? = some x → W.cell? ⟨b, off + j, none⟩ = some (.int .u64 (x : Nat))
theorem SetP.len {n m c : Nat} {W : World} {a : Option Addr} {xs : List Nat} (h : SetP n W (.slice a m c) xs) : m = xs.length := by
  rcases h with ⟨rfl, _, _, e⟩ | ⟨b, off, cap, e, _⟩
  · cases e; rfl
  · cases e; rfl
theorem SetP.at_ {n m c k x : Nat} {W : World} {a : Option Addr} {xs : List Nat} (h : SetP n W (.slice a m c) xs) (hx : xs[k]? = some x) : ∃ b off, a = some ⟨b, off, none⟩ ∧ b < n ∧ W.cell? ⟨b, off + k, none⟩ = some (.int .u64 (x : Nat)) := by
  rcases h with ⟨rfl, _⟩ | ⟨b, off, cap, e, hb, _, hc⟩
  · simp at hx
  · cases e
    exact ⟨b, off, rfl, hb, hc k x hx⟩
theorem SetP.below {n N : Nat} {W W' : World} {sv : Value} {xs : List Nat} (h : SetP n W sv xs) (hb : Below N W W') (hn : n ≤ N) : SetP n W' sv xs := by
  rcases h with h | ⟨b, off, cap, e, hlt, hcap, hc⟩
  · exact .inl h
  · exact .inr ⟨b, off, cap, e, hlt, hcap, fun j x hj => (hb.cell (p := ⟨b, off + j, none⟩) (by simp; omega)).trans (hc j x hj)⟩
theorem open_sets {H : Type} {enc : TypeId × Value → H} {W : World} {base : Nat} {held : Bool} {v : Value} {d : DataW H} {p : List MemPlace}
    (hv : ∃ a n c, v = .slice a n c) (h : DataW.Trod enc Try.prog W base (fun _ => true) held 23 v d p) :
    ∃ a n c, ∃ xs : List Nat, v = .slice a n c ∧ SetP W.heap.size W (.slice a n c) xs ∧ (∀ x ∈ xs, okS x) ∧ xs.length ≤ Go.maxLen := by
  obtain ⟨a, n, c, xs, rfl, hm, hc, hx⟩ := open_things (z := 1) (fun _ cs (y : Nat) => cs = [.int .u64 (y : Nat)] ∧ okS y) Try.underlying23 cellsU (by decide) (fun n cs x hl hf => by
    obtain ⟨v0, rfl⟩ := list1 cs hl
    obtain ⟨k, rfl, hk⟩ := open_u64 hf
    exact ⟨k, rfl, hk⟩) hv h
  refine ⟨a, n, c, xs, rfl, ?_, fun x hx' => ?_, hm⟩
  · rcases hx with ⟨rfl, rfl⟩ | ⟨b, off, rfl, hb, rfl, hcs⟩
    · exact .inl ⟨rfl, _, _, rfl⟩
    · refine .inr ⟨b, off, c, rfl, hb, hc, fun j x hj => ?_⟩
      obtain ⟨cs, h1, h2, rfl, _⟩ := hcs j x hj
      have := h2 0 (by decide)
      simpa using this
  · rcases hx with ⟨rfl, rfl⟩ | ⟨b, off, rfl, hb, rfl, hcs⟩
    · cases hx'
    · obtain ⟨j, hj⟩ := List.getElem?_of_mem hx'
      obtain ⟨cs, h1, h2, _, h3⟩ := hcs j x hj
      exact h3
end Go.Proofs.Ytpcbdjdmhemjdaa
