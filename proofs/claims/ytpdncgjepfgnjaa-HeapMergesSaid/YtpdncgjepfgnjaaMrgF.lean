/- HeapMerges: its copies while they are made. -/
import Derived.Test.YtpdncgjepfgnjaaMrgE
namespace Go.Proofs.Ytpdncgjepfgnjaa
open Go.RowKit
set_option linter.unusedVariables false

theorem tot_take {τ : Type} {ls : List (List τ)} {k : Nat} {xs : List τ} (h : ls[k]? = some xs) : totL (ls.take (k + 1)) = totL (ls.take k) + xs.length := by
  rw [take_snoc h]
  simp [totL]
/-- The law's boxes and copies while the lists are copied: its left in the box N + 1. -/
theorem lt_of_get {W : World} {i : Nat} {o : Obj} (h : W.heap[i]? = some o) : i < W.heap.size := (Array.getElem?_eq_some_iff.1 h).1
structure Lw1 (N : Nat) (a1 : Int) (w : World) (ls : List (List (Int × Int))) (sv : Value) (W : World) : Prop where
  cp : CpM N (N + 2) W.heap.size sv ls W
  ne : sv.ownBlock ≠ some (N + 1)
  box : W.heap[N + 1]? = some (.cells #[sv] 57 (0, 0))
  b3 : W.heap[w.heap.size]? = some (.cells #[.int .i64 a1] 3 (0, 0))
  b4 : W.heap[w.heap.size + 1]? = some (.cells #[.bool false] 4 (0, 0))
  bel : Below w.heap.size w W
  lt : w.heap.size + 2 ≤ N
  frm : ∃ g c, sv = .slice (some ⟨g, 0, none⟩) ls.length c
theorem Lw1.start {N : Nat} {a1 : Int} {w w1 : World} (hN : w1.heap.size = N) (hz : w.heap.size + 2 ≤ w1.heap.size) (h3 : w1.heap[w.heap.size]? = some (.cells #[.int .i64 a1] 3 (0, 0))) (h4 : w1.heap[w.heap.size + 1]? = some (.cells #[.bool false] 4 (0, 0))) (hb : Below w.heap.size w w1) :
    Lw1 N a1 w [] (.slice (some ⟨N, 0, none⟩) 0 0) ((w1.alloc (.cells #[] 29)).alloc (.cells #[.slice (some ⟨N, 0, none⟩) 0 0] 57)) := by
  subst hN
  have hb2 : Below w1.heap.size w1 ((w1.alloc (.cells #[] 29)).alloc (.cells #[.slice (some ⟨w1.heap.size, 0, none⟩) 0 0] 57)) := ((Below.refl _ _).alloc (Nat.le_refl _) _).alloc (by simp) _
  have hbx := World.alloc_heap_new (w1.alloc (.cells #[] 29)) (.cells #[.slice (some ⟨w1.heap.size, 0, none⟩) 0 0] 57)
  rw [World.size_alloc] at hbx
  refine ⟨⟨⟨[], (ownsRow_empty w1 _).alloc _, ⟨rfl, fun i v xs h => by simp at h⟩, fun v hv => by cases hv⟩, fun g hg => ?_, Nat.le_refl _⟩, ?_, hbx, (hb2.block _ (by omega)).trans h3, (hb2.block _ (by omega)).trans h4, hb.trans (hb2.mono (by omega)), hz, _, _, rfl⟩
  · simp [Value.ownBlock] at hg; subst hg; simp; omega
  · simp [Value.ownBlock]
/-- Another copy is put behind them. -/
theorem Lw1.snoc {N : Nat} {a1 : Int} {w W0 W W' : World} {ls : List (List (Int × Int))} {sv sv' v : Value} {xs : List (Int × Int)} {vs : List Value} (h : Lw1 N a1 w ls sv W0) (hR : W0.ownsRow N 29 1 sv ls.length vs) (hL : LL (N + 2) W0.heap.size W0 vs ls) (hO : OffR sv vs)
    (hb : Below W0.heap.size W0 W) (hv : PrL W0.heap.size W.heap.size W v xs) (hr' : W'.ownsRow N 29 1 sv' (ls.length + 1) (vs ++ [v])) (hg : W.grownBy W' sv.ownBlock) (hat : sv'.ownBlock = sv.ownBlock ∨ sv'.ownBlock = some W.heap.size) :
    Lw1 N a1 w (ls ++ [xs]) sv' (W'.setCell ⟨N + 1, 0, none⟩ sv') := by
  have hN1 : N + 1 < W0.heap.size := (Array.getElem?_eq_some_iff.1 h.box).1
  have h1 := CpM.snoc hR hL hO rfl (by omega) hb hv hr' hg hat
  have hz1 := hb.size
  have hz2 := hg.size
  have hne' : sv'.ownBlock ≠ some (N + 1) := by
    rcases hat with e | e
    · rw [e]; exact h.ne
    · rw [e]; intro e2; simp at e2; omega
  have hold : ∀ k, k < W0.heap.size → sv.ownBlock ≠ some k → W'.heap[k]? = W0.heap[k]? := fun k hk hn => (hg.block k (by omega) (fun e => hn e.symm)).trans (hb.block k hk)
  have hgN : ∀ k, k < N → sv.ownBlock ≠ some k := fun k hk e => by have := (hR.lt k e).1; omega
  have hl := h.lt
  have hbx := heap_setCell_same W' (N + 1) 0 _ _ sv' ((hold (N + 1) hN1 h.ne).trans h.box)
  refine ⟨(h1.but ((But.refl [N + 1] W').set (p := ⟨N + 1, 0, none⟩) (.inl (by simp)) _) (fun k hk => ?_)).mono (by rw [setCell_size]; exact Nat.le_refl _) (by rw [setCell_size]; exact Nat.le_refl _), hne', by simpa using hbx,
    (Below.heap_setCell _ _ _ _ (show w.heap.size ≠ N + 1 by omega)).trans ((hold _ (by omega) (hgN _ (by omega))).trans h.b3), (Below.heap_setCell _ _ _ _ (show w.heap.size + 1 ≠ N + 1 by omega)).trans ((hold _ (by omega) (hgN _ (by omega))).trans h.b4), ?_, hl, ?_⟩
  · simp at hk; subst hk; exact ⟨.inl (by omega), hne'⟩
  · have hb3 : Below w.heap.size w W := h.bel.trans (hb.mono h.bel.size)
    exact (hb3.grown hg hb3.size (fun k hk => by have := (hR.lt k hk).1; omega)).setCell (by show w.heap.size ≤ N + 1; omega) _
  · rcases hr'.2 with ⟨_, e⟩ | ⟨g, c, cur, e, _⟩
    · omega
    · exact ⟨g, c, by rw [List.length_append]; exact e⟩
end Go.Proofs.Ytpdncgjepfgnjaa
