/- What law DeviceCuts wants to see. -/
import Derived.Test.YtmlonennmnfemaaDevAlive
import Derived.Test.YtmlonennmnfemaaDevCutM
import Derived.Deep.DeepCutAuto
namespace Go.Proofs.Ytmlonennmnfemaa
open Go.RowKit

theorem owns_sl {W : World} {base : Nat} {t : TypeId} {v : Value} {n : Nat} {xs : List Value} (h : W.ownsRow base t 1 v n xs) : ∃ p c, v = .slice p n c := by
  rcases h.2 with ⟨e, h0⟩ | ⟨g, cap, cur, e, _⟩
  · rw [h0]; exact ⟨_, _, e⟩
  · exact ⟨_, _, e⟩
theorem hS_st {α : Type} {enc : α → Value} {W W' : World} {v : Value} {xs : List α} (h : Sl enc W.heap.size W v xs) (h' : Below W.heap.size W W') : Sl enc W'.heap.size W' v xs := (h.below h').mono h'.size
/-- It lies in no block below n. -/
def Far (n : Nat) (sv : Value) : Prop := ∀ ad m c, sv = .slice (some ad) m c → n ≤ ad.block
theorem Far.off {n : Nat} {sv : Value} {own : List Nat} (h : Far n sv) (ho : ∀ k ∈ own, k < n) : Off own sv := fun ad m c e _ hk => by
  have h1 := h ad m c e
  have h2 := ho _ hk
  omega
theorem hS_bt {own : List Nat} {W W' : World} {sv : Value} {l : List Nat} (h : Sl encY W.heap.size W sv l) (hb : But own W W') (ho : Off own sv) : Sl encY W'.heap.size W' sv l := h.but hb ho
theorem app_want (l0 l1 : List Nat) (p q k : Nat) (hp : l0.length = p) (hq : l1.length = q) (hk : k ≤ q) (hp5 : p ≤ 1000) (hq5 : q ≤ 1000) (p1 : Option Addr) (c1 : Nat) (w6 w7 : World) (v7 : Value) (hb7 : Below w6.heap.size w6 w7) (hown7 : w7.ownsRow w6.heap.size 5 1 v7 p (l0.map encY)) (hS : Sl encY w7.heap.size w7 (.slice p1 q c1) l1) :
    ∃ p8 c8 w8, (Builtin.append_ #[25, 25] 25 #[v7, .slice p1 k c1]).run Try.prog w7 = .ok (.slice p8 (p + k) c8) w8 ∧ Sl encY w8.heap.size w8 (.slice p8 (p + k) c8) (l0 ++ l1.take k) ∧ Below w6.heap.size w6 w8 ∧ Far w6.heap.size (.slice p8 (p + k) c8) := by
  have hl : (l1.take k).length = k := by rw [List.length_take]; omega
  have hown0 : w7.ownsRow 0 5 1 v7 p (l0.map encY) := ownsRow_base hown7 (Nat.zero_le _)
  obtain ⟨v8, w8, r1, r2, r3, r4⟩ := run_append_bytes w7 v7 p _ hown0 _ _ (l1.take k) (hS.take hk) (by omega)
  rw [hl] at r2
  obtain ⟨p8, c8, rfl⟩ := owns_sl r2
  refine ⟨p8, c8, w8, r1, ?_, hb7.grown r3 hb7.size (fun g hg => (World.ownsRow.lt hown7 g hg).1), fun ad m c e => ?_⟩
  · have e : (l0 ++ l1.take k).length = p + k := by rw [List.length_append, hl, hp]
    have h2 : Sl encY w8.heap.size w8 (.slice p8 (p + k) c8) (l0 ++ l1.take k) := Sl.of_owns (by rw [e, List.map_append]; exact r2)
    exact h2
  · cases e
    have h5 : (Value.slice (some ad) (p + k) c8).ownBlock = some ad.block := rfl
    rcases r4 with e | e
    · rw [h5] at e; exact (World.ownsRow.lt hown7 _ e.symm).1
    · rw [h5] at e
      have e2 := Option.some.inj e
      rw [e2]; exact hb7.size
end Go.Proofs.Ytmlonennmnfemaa
