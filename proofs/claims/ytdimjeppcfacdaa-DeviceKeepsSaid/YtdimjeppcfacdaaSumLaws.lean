/- Small facts that the laws of layer 3 share. -/
import Derived.Test.YtdimjeppcfacdaaSumAlive
import Derived.Test.YtdimjeppcfacdaaOpenP
namespace Go.Proofs.Ytdimjeppcfacdaa
open Go.RowKit SumM

theorem step_below {w W W' : World} (h : Below w.heap.size w W) (h' : Below W.heap.size W W') : Below w.heap.size w W' := h.trans (h'.mono h.size)
theorem hS_step {α : Type} {enc : α → Value} {W W' : World} {v : Value} {xs : List α} (h : Sl enc W.heap.size W v xs) (h' : Below W.heap.size W W') : Sl enc W'.heap.size W' v xs := (h.below h').mono h'.size
theorem seal_Bytes {l : List Nat} (h : Bytes l) (h2 : l.length ≤ 2000) : Bytes (sealL l) := ⟨by rw [seal_len]; omega, seal_bytes h.2⟩
theorem open_seal (l : List Nat) : openL (sealL l) = some l := by
  unfold openL
  rw [seal_len, if_neg (by omega), show l.length + 4 - 4 = l.length from by omega, seal_take, if_pos rfl]
theorem sum_two (l k : List Nat) (hl : ∀ x ∈ l, x < 256) : sumL (l ++ k) = ext (sumL l) k := ext_append 0 (by decide) l k hl
/-- sum.Of of two slices. -/
theorem of_two (v u : Value) (l k : List Nat) (hl : Bytes l) (hk : Bytes k) (w : World) (hS : Sl encY w.heap.size w v l) (hT : Sl encY w.heap.size w u k) :
    Calls Try.prog 16 #[.slice (some ⟨w.heap.size, 0, none⟩) 2 2] (w.alloc (.cells #[v, u] 22)) fun e w' => e = .returned (.int .u32 (sumL (l ++ k) : Nat)) ∧ Below w.heap.size w w' := by
  refine (of_any _ 2 2 [l, k] (by simp) (fun x hx => by simp at hx; rcases hx with rfl | rfl; exact hl; exact hk) _ (Parts.two w v u l k _ hS hT)).mono ?_
  rintro e w' ⟨rfl, hb⟩
  exact ⟨by simp, ((Below.refl _ w).alloc (Nat.le_refl _) _).trans (hb.mono (by simp))⟩
end Go.Proofs.Ytdimjeppcfacdaa
