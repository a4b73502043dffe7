/- Rows of strings that come in, opened. -/
import Derived.Test.YtchnjafcnigllaaOpenG
import Derived.Test.YtchnjafcnigllaaBut
import Derived.ChangeArms
namespace Go.Proofs.Ytchnjafcnigllaa
open Go.ChangeShapes Go.WideShapes Go.ChangeAt Go.RowKit
set_option linter.unusedVariables false

def Txs (n : Nat) (W : World) (sv : Value) (xs : List ByteArray) : Prop :=
  (xs = [] ∧ ∃ a c, sv = .slice a 0 c) ∨ ∃ b off cap, sv = .slice (some ⟨b, off, none⟩) xs.length cap ∧ b < n ∧ xs.length ≤ cap ∧ ∀ j x, xs[j]? = some x → W.cell? ⟨b, off + j, none⟩ = some (.string x)
theorem Txs.len {n : Nat} {W : World} {a : Option Addr} {m c : Nat} {xs : List ByteArray} (h : Txs n W (.slice a m c) xs) : m = xs.length := by
  rcases h with ⟨rfl, _, _, e⟩ | ⟨b, off, cap, e, _⟩
  · cases e; rfl
  · cases e; rfl
theorem Txs.cap {n : Nat} {W : World} {a : Option Addr} {m c : Nat} {xs : List ByteArray} (h : Txs n W (.slice a m c) xs) : m ≤ c := by
  rcases h with ⟨rfl, _, _, e⟩ | ⟨b, off, cap, e, _, hc, _⟩
  · cases e; exact Nat.zero_le _
  · cases e; exact hc
theorem Txs.at_ {n : Nat} {W : World} {a : Option Addr} {m c k : Nat} {xs : List ByteArray} (h : Txs n W (.slice a m c) xs) {x : ByteArray} (hx : xs[k]? = some x) :
    ∃ b off, a = some ⟨b, off, none⟩ ∧ b < n ∧ W.cell? ⟨b, off + k, none⟩ = some (.string x) := by
  rcases h with ⟨rfl, _⟩ | ⟨b, off, cap, e, hb, _, hc⟩
  · simp at hx
  · cases e
    exact ⟨b, off, rfl, hb, hc k x hx⟩
theorem Txs.below {n N : Nat} {W W' : World} {sv : Value} {xs : List ByteArray} (h : Txs n W sv xs) (hb : Below N W W') (hn : n ≤ N) : Txs n W' sv xs := by
  rcases h with h | ⟨b, off, cap, e, hlt, hcap, hc⟩
  · exact .inl h
  · exact .inr ⟨b, off, cap, e, hlt, hcap, fun j x hj => (hb.cell (p := ⟨b, off + j, none⟩) (by simp; omega)).trans (hc j x hj)⟩
theorem cellsTx : Try.prog.cellsOf 9 = 1 := by kernel_rfl
theorem open_texts {H : Type} {enc : TypeId × Value → H} {W : World} {base : Nat} {held : Bool} {v : Value} {d : DataW H} {p : List MemPlace}
    (hv : ∃ a n c, v = .slice a n c) (h : DataW.Trod enc Try.prog W base (fun _ => true) held 52 v d p) :
    ∃ a n c, ∃ xs : List ByteArray, v = .slice a n c ∧ Txs W.heap.size W (.slice a n c) xs ∧ xs.length ≤ Go.maxLen := by
  obtain ⟨a, n, c, xs, rfl, hm, hc, hx⟩ := open_things (z := 1) (fun _ cs (y : ByteArray) => cs = [.string y]) Try.underlying52 cellsTx (by decide) (fun n cs x hl hf => by
    obtain ⟨s, h1, _⟩ := DataW.trod_string Try.underlying9 hf
    exact ⟨s, h1⟩) hv h
  refine ⟨a, n, c, xs, rfl, ?_, hm⟩
  rcases hx with ⟨rfl, rfl⟩ | ⟨b, off, rfl, hb, rfl, hcs⟩
  · exact .inl ⟨rfl, _, _, rfl⟩
  · refine .inr ⟨b, off, c, rfl, hb, hc, fun j x hj => ?_⟩
    obtain ⟨cs, h1, h2, rfl⟩ := hcs j x hj
    have h3 := h2 0 (by decide)
    simpa using h3
end Go.Proofs.Ytchnjafcnigllaa
