/- Tables beside each other, and rows beside them. -/
import Derived.Test.YtchnjafcnigllaaTabPl
namespace Go.Proofs.Ytchnjafcnigllaa
open Go.RowKit
set_option linter.unusedVariables false

/-- Another table is turned. -/
theorem TabN.other {W W' : World} {b c : Nat} {l l' : KV} (h : TabN W b l) (hc : TabN W c l') (hb : But [c] W W') (hne : b ≠ c) : TabN W' b l :=
  h.stay (StayN.of_but hb (fun k hk => by simp at hk; subst hk; exact hc.noNode)) (hb.block _ h.lt (by simpa using hne))
/-- A row stays where a table is turned. -/
theorem TabN.row {W W' : World} {c base n : Nat} {l' : KV} {v : Value} {xs : List Value} (hc : TabN W c l') (hr : W.ownsRow base 41 2 v n xs) (hb : But [c] W W') : W'.ownsRow base 41 2 v n xs :=
  row_but hr hb (fun g hg hk => by
    simp at hk; subst hk
    obtain ⟨t, a, h1, _⟩ := hc.at_
    rcases hr.2 with ⟨e, _⟩ | ⟨g', cap, cur, e, _, hh, _⟩
    · rw [e] at hg; simp [Value.ownBlock] at hg
    · rw [e] at hg
      obtain rfl : g' = g := by simpa [Value.ownBlock] using hg
      rw [h1] at hh
      simp at hh)
theorem row_below {W W' : World} {base n : Nat} {v : Value} {xs : List Value} (hr : W.ownsRow base 41 2 v n xs) (hb : Below W.heap.size W W') : W'.ownsRow base 41 2 v n xs := row_but hr (But.of_below (own := []) hb) (fun _ _ hk => by cases hk)
theorem But.low {c N : Nat} {w W W' : World} (h : Below N w W) (hb : But [c] W W') (hc : N ≤ c) (hN : N ≤ w.heap.size) : Below N w W' := h.trans (hb.below (fun k hk => by simp at hk; omega) (Nat.le_trans hN h.size))
/-- A row of steps, behind whatever keeps what there was. -/
theorem HOps.below {n N : Nat} {W W' : World} {sv : Value} {xs : List HOp} (h : HOps n W sv xs) (hb : Below N W W') (hn : n ≤ N) : HOps n W' sv xs := by
  rcases h with h | ⟨b, off, cap, e, hlt, hc⟩
  · exact .inl h
  · exact .inr ⟨b, off, cap, e, hlt, fun j x hj => ⟨(hb.cell (p := ⟨b, off + j * 3, none⟩) (by simp; omega)).trans (hc j x hj).1, (hb.cell (p := ⟨b, off + j * 3 + 1, none⟩) (by simp; omega)).trans (hc j x hj).2.1, (hb.cell (p := ⟨b, off + j * 3 + 2, none⟩) (by simp; omega)).trans (hc j x hj).2.2⟩⟩
theorem HOps.mono {n m : Nat} {W : World} {sv : Value} {xs : List HOp} (h : HOps n W sv xs) (hn : n ≤ m) : HOps m W sv xs := by
  rcases h with h | ⟨b, off, cap, e, hlt, hc⟩
  · exact .inl h
  · exact .inr ⟨b, off, cap, e, by omega, hc⟩
end Go.Proofs.Ytchnjafcnigllaa
