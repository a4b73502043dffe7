/- Small facts on rows and boxes, of no type. No program is spoken of. -/
import Derived.Test.YtpcbdjdmhemjdaaBut
import Derived.Test.YtpcbdjdmhemjdaaRangeG
namespace Go.Proofs.Ytpcbdjdmhemjdaa
open Go.RowKit
set_option linter.unusedVariables false

theorem But.putObj (W : World) (k : Nat) (o : Obj) : But [k] W (W.putObj k o) := by
  have hg := grownBy_putObj' W k o
  exact ⟨hg.os, hg.tape, hg.output, hg.size, fun j hj hn => hg.block j hj (fun e => by cases e; simp at hn)⟩
theorem take_snoc {α : Type} {l : List α} {k : Nat} {x : α} (h : l[k]? = some x) : l.take (k + 1) = l.take k ++ [x] := by
  obtain ⟨hlt, rfl⟩ := List.getElem?_eq_some_iff.1 h
  rw [List.take_succ_eq_append_getElem hlt]
theorem row_but {own2 : List Nat} {W W' : World} {base e size n : Nat} {v : Value} {xs : List Value} (h : W.ownsRow base e size v n xs) (hb : But own2 W W') (hn : ∀ g, v.ownBlock = some g → g ∉ own2) : W'.ownsRow base e size v n xs := by
  obtain ⟨h1, h2⟩ := h
  refine ⟨h1, ?_⟩
  rcases h2 with h2 | ⟨g, cap, cur, hv, hg, hh, r⟩
  · exact .inl h2
  · exact .inr ⟨g, cap, cur, hv, hg, (hb.block g (Array.getElem?_eq_some_iff.1 hh).1 (hn g (by rw [hv]; rfl))).trans hh, r⟩
theorem boxed_eq {W : World} {B t : Nat} {u v : Value} (h1 : Boxed W B t u) (h2 : Boxed W B t v) : u = v := by
  have h : some (Obj.cells #[u] t (0, 0)) = some (Obj.cells #[v] t (0, 0)) := h1.symm.trans h2
  simpa using h
theorem own_mono {w : World} {base base' : Nat} {e : TypeId} {size : Nat} {v : Value} {n : Nat} {xs : List Value} (h : w.ownsRow base e size v n xs) (hb : base' ≤ base) : w.ownsRow base' e size v n xs :=
  ⟨h.1, h.2.elim .inl fun ⟨g, cap, cur, hv, hg, r⟩ => .inr ⟨g, cap, cur, hv, Nat.le_trans hb hg, r⟩⟩
end Go.Proofs.Ytpcbdjdmhemjdaa
