/- Facts for the law on scans. -/
import Derived.Test.YtfhigngfohfclaaRefFS
namespace Go.Proofs.Ytfhigngfohfclaa
open Go.RowKit
set_option linter.unusedVariables false

theorem bool_resS (tmps : Array Value) (w : World) (b : Nat) (v : Value) (hp : tmps.getD 4 undef = .pointer (some ⟨b, 0, none⟩)) (c : w.cell? ⟨b, 0, none⟩ = some v) : (results Try.f10 tmps).run Try.prog w = .ok v w := by
  have hp' : tmps[4]?.getD undef = .pointer (some ⟨b, 0, none⟩) := by simpa using hp
  have k1 : (loadVar 4 ⟨b, 0, none⟩).run Try.prog w = .ok v w := by simp [go_sem, c]
  simp [results, hp', asAddr, k1]
def scI (w8 : World) (q : Nat) (pre : List FX) (W : World) : Prop := Boxed W w8.heap.size 3 (.int .i64 (pre.length : Nat)) ∧ pre.length < q ∧ Below w8.heap.size w8 W
def scX (w8 : World) (q : Nat) (c : Code) (pre : List FX) (W : World) : Prop := c = .exit 0 ∧ Boxed W w8.heap.size 3 (.int .i64 (pre.length : Nat)) ∧ pre.length = q ∧ Below w8.heap.size w8 W
theorem scI_own {w8 : World} {q B : Nat} (hB : w8.heap.size < B) : OwnFrom B (scI w8 q) := fun s W W' row ⟨h1, h0, h2⟩ hg hr =>
  ⟨h1.kept hg (fun e => by have := (hr _ e.symm).1; omega), h0, ownFrom_below (β := Unit) (Nat.le_refl _) (show w8.heap.size ≤ B by omega) () W W' row h2 hg hr⟩
theorem scX_own {w8 : World} {q B : Nat} (hB : w8.heap.size < B) (c : Code) : OwnFrom B (scX w8 q c) := fun s W W' row ⟨hc, h1, h0, h2⟩ hg hr =>
  ⟨hc, h1.kept hg (fun e => by have := (hr _ e.symm).1; omega), h0, ownFrom_below (β := Unit) (Nat.le_refl _) (show w8.heap.size ≤ B by omega) () W W' row h2 hg hr⟩
def scA (A : Act) (z : Nat) (x : FX) (a' : Act) (W : World) : Prop :=
  ∃ Bx va vc, z ≤ Bx ∧ x.2 = .slice va x.1.2.2.length vc ∧ FrameAt W Bx x ∧ Sl encY W.heap.size W x.2 x.1.2.2 ∧ a' = { tmps := (((A.tmps.setIfInBounds 83 (.int .i64 x.1.1)).setIfInBounds 84 (.agg #[.int .i64 x.1.2.1, x.2])).setIfInBounds 17 (.int .i64 x.1.1)).setIfInBounds 18 (.pointer (some ⟨Bx, 0, none⟩)), defers := [] }
theorem next_get {α : Type} {zs : List α} {pre : List (α × Value)} {x : α × Value} (h : (pre ++ [x]).map Prod.fst <+: zs) : pre.length < zs.length ∧ zs[pre.length]? = some x.1 := by
  obtain ⟨t, ht⟩ := h
  have hl : pre.length < zs.length := by
    have := congrArg List.length ht
    simp at this; omega
  refine ⟨hl, ?_⟩
  rw [← ht, List.map_append, List.append_assoc, List.getElem?_append_right (by simp), List.length_map, Nat.sub_self]
  rfl
theorem pre_len {α : Type} {zs : List α} {pre : List (α × Value)} (h : pre.map Prod.fst <+: zs) : pre.length ≤ zs.length := by
  have := h.length_le
  rw [List.length_map] at this; exact this
theorem Sl.setBox {W : World} {n B : Nat} {t : TypeId} {k : Int} {sv u : Value} {l : List Nat} (h : Sl encY n W sv l) (hB : Boxed W B t (.int .i64 k)) : Sl encY n (W.setCell ⟨B, 0, none⟩ u) sv l := by
  rcases h with h | ⟨b, off, cap, e, hb, hcap, hc⟩
  · exact .inl h
  · refine .inr ⟨b, off, cap, e, hb, hcap, fun j x hj => ?_⟩
    have h1 := hc j x hj
    have hne : b ≠ B := by
      rintro rfl
      have h2 : W.heap[b]? = some (.cells #[.int .i64 k] t (0, 0)) := hB
      simp only [World.cell?, h2] at h1
      rcases hoj : off + j with _ | m
      · rw [hoj] at h1; simp [encY] at h1
      · rw [hoj] at h1; simp at h1
    exact (World.cell?_of_block (a := ⟨b, off + j, none⟩) (Below.heap_setCell _ _ _ _ hne)).trans h1
end Go.Proofs.Ytfhigngfohfclaa
