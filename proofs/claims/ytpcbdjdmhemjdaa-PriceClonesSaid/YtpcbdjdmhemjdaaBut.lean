/- Of the blocks that were there only some may have turned. No program is spoken of. -/
import Derived.Test.YtpcbdjdmhemjdaaSlices
namespace Go.Proofs.Ytpcbdjdmhemjdaa
open Go.RowKit

/-- Of the blocks that were there only those of own may have turned. -/
structure But (own : List Nat) (W W' : World) : Prop where
  os : W'.os = W.os
  tape : W'.tape = W.tape
  output : W'.output = W.output
  size : W.heap.size ≤ W'.heap.size
  block : ∀ k, k < W.heap.size → k ∉ own → W'.heap[k]? = W.heap[k]?
theorem But.refl (own : List Nat) (W : World) : But own W W := ⟨rfl, rfl, rfl, Nat.le_refl _, fun _ _ _ => rfl⟩
theorem But.of_below {own : List Nat} {W W' : World} (h : Below W.heap.size W W') : But own W W' := ⟨h.os, h.tape, h.output, h.size, fun k hk _ => h.block k hk⟩
theorem But.trans {own own' : List Nat} {A B C : World} (h : But own A B) (h' : But own' B C) (hs : ∀ k ∈ own', k ∈ own ∨ A.heap.size ≤ k) : But own A C :=
  ⟨h'.os.trans h.os, h'.tape.trans h.tape, h'.output.trans h.output, Nat.le_trans h.size h'.size, fun k hk hn => (h'.block k (Nat.lt_of_lt_of_le hk h.size) (fun e => by
    rcases hs k e with e1 | e1
    · exact hn e1
    · omega)).trans (h.block k hk hn)⟩
theorem But.trans' {own : List Nat} {A B C : World} (h : But own A B) (h' : But own B C) : But own A C := h.trans h' fun _ hk => .inl hk
theorem But.more {own own' : List Nat} {A B : World} (h : But own A B) (hs : ∀ k ∈ own, k ∈ own' ∨ A.heap.size ≤ k) : But own' A B :=
  ⟨h.os, h.tape, h.output, h.size, fun k hk hn => h.block k hk (fun e => by
    rcases hs k e with e1 | e1
    · exact hn e1
    · omega)⟩
theorem But.set {own : List Nat} {A B : World} (h : But own A B) {p : Addr} (hp : p.block ∈ own ∨ A.heap.size ≤ p.block) (u : Value) : But own A (B.setCell p u) :=
  ⟨h.os, h.tape, h.output, by simp [World.setCell]; exact h.size, fun k hk hn => (Below.heap_setCell _ _ _ _ (fun e => by
    rcases hp with hp | hp
    · exact hn (by rw [e]; exact hp)
    · omega)).trans (h.block k hk hn)⟩
theorem But.drew {own : List Nat} {A B : World} (h : But own A B) : But own A B.drew := ⟨h.os, h.tape, h.output, h.size, h.block⟩
theorem But.alloc {own : List Nat} {A B : World} (h : But own A B) (o : Obj) : But own A (B.alloc o) :=
  h.trans (But.of_below (own := []) ((Below.refl _ B).alloc (Nat.le_refl _) o)) (fun _ hk => by cases hk)
theorem But.grown {own : List Nat} {A B C : World} (h : But own A B) {row : Option Nat} (hg : B.grownBy C row) (hr : ∀ k, row = some k → k ∈ own ∨ A.heap.size ≤ k) : But own A C :=
  ⟨hg.os.trans h.os, hg.tape.trans h.tape, hg.output.trans h.output, Nat.le_trans h.size hg.size, fun k hk hn => (hg.block k (Nat.lt_of_lt_of_le hk h.size) (fun e => by
    rcases hr k e.symm with e1 | e1
    · exact hn e1
    · omega)).trans (h.block k hk hn)⟩
theorem But.below {own : List Nat} {A B : World} {n : Nat} (h : But own A B) (ho : ∀ k ∈ own, n ≤ k) (hn : n ≤ A.heap.size) : Below n A B :=
  ⟨h.os, h.tape, h.output, h.size, fun k hk => h.block k (by omega) (fun e => by have := ho k e; omega)⟩
theorem cell_new_at {w : World} {n : Nat} (h : w.heap.size = n) (cs : Array Value) (t : TypeId) (j : Nat) : (w.alloc (.cells cs t)).cell? ⟨n, j, none⟩ = cs[j]? := by subst h; exact cell_new_row w cs t j
theorem heap_alloc_old' (w : World) (o : Obj) (k : Nat) (h : k < w.heap.size) : (w.alloc o).heap[k]? = w.heap[k]? := ((Below.refl w.heap.size w).alloc (Nat.le_refl _) o).block k h
end Go.Proofs.Ytpcbdjdmhemjdaa
