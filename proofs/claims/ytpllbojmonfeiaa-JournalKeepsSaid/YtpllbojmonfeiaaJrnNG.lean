/- What stays while law JournalKeeps puts one record more behind those that were: two appends and a store in one statement. -/
import Derived.Test.YtpllbojmonfeiaaJrnKp
import Derived.Test.YtpllbojmonfeiaaRegionInvV
import Derived.Laws.AppendOwnNone
namespace Go.Proofs.Ytpllbojmonfeiaa
open Go.RowKit SumM
set_option linter.unusedVariables false

theorem one_cellJ {W : World} {b : Nat} {x : Value} {t : TypeId} (h : W.heap[b]? = some (.cells #[x] t (0, 0))) : ∀ j u, [x][j]? = some u → W.cell? ((⟨b, 0, none⟩ : Addr).add j) = some u := by
  intro j u hj
  match j, hj with
  | 0, hj =>
    simp at hj
    subst hj
    have h1 := cell_of_row W b 0 _ _ _ h
    simpa [Addr.add] using h1
structure NG (wr : World) (s0 xb : Nat) (sv0 : Value) (n1 : Nat) (ysv : List Value) (dv : Value) (L : Nat → Bool) (v : Nat → Value) (W : World) : Prop where
  sz : s0 ≤ W.heap.size
  bel : Below 0 wr W
  kp : ∀ k, k < s0 → k ≠ xb → W.heap[k]? = wr.heap[k]?
  nx : L 9 = false → W.heap[xb]? = wr.heap[xb]?
  o0 : L 0 = true → L 3 = false → W.ownsRow s0 yssT 1 (v 0) 0 []
  o3 : L 3 = true → L 7 = false → W.ownsRow s0 yssT 1 (v 3) n1 ysv
  o6 : L 6 = true → L 7 = false → ∃ g, v 6 = .slice (some ⟨g, 0, none⟩) 1 1 ∧ s0 ≤ g ∧ W.heap[g]? = some (.cells #[dv] yssT (0, 0)) ∧ (L 0 = true → L 3 = false → (v 0).ownBlock ≠ some g) ∧ (L 3 = true → (v 3).ownBlock ≠ some g)
  o7 : L 7 = true → W.ownsRow s0 yssT 1 (v 7) (n1 + 1) (ysv ++ [dv])
  z3 : L 3 = true → L 0 = true
  z7 : L 7 = true → L 3 = true ∧ L 6 = true
  z9 : L 9 = true → L 7 = true
  x9 : L 9 = true → W.heap[xb]? = some (.cells (hasC sv0 (v 7)) rjT (0, 0))
section
variable {wr : World} {s0 xb : Nat} {sv0 : Value} {n1 : Nat} {ysv : List Value} {dv : Value} {L : Nat → Bool} {v : Nat → Value} {W W' : World}
theorem NG.upd (h : NG wr s0 xb sv0 n1 ysv dv L v W) {i : Nat} (u : Value) (h0 : 0 ≠ i) (h3 : 3 ≠ i) (h6 : 6 ≠ i) (h7 : 7 ≠ i) (h9 : 9 ≠ i) : NG wr s0 xb sv0 n1 ysv dv (updL L i) (updV v i u) W := by
  have e0 := updL_ne L h0; have e3 := updL_ne L h3; have e6 := updL_ne L h6; have e7 := updL_ne L h7; have e9 := updL_ne L h9
  have v0 := updV_ne v u h0; have v3 := updV_ne v u h3; have v6 := updV_ne v u h6; have v7 := updV_ne v u h7
  exact ⟨h.sz, h.bel, h.kp, by rw [e9]; exact h.nx, by rw [e0, e3, v0]; exact h.o0, by rw [e3, e7, v3]; exact h.o3, by rw [e6, e7, v6, e0, e3, v0, v3]; exact h.o6, by rw [e7, v7]; exact h.o7, by rw [e3, e0]; exact h.z3, by rw [e7, e3, e6]; exact h.z7, by rw [e9, e7]; exact h.z9, by rw [e9, v7]; exact h.x9⟩
theorem NG.drew (h : NG wr s0 xb sv0 n1 ysv dv L v W) : NG wr s0 xb sv0 n1 ysv dv L v W.drew :=
  ⟨h.sz, h.bel.drew, h.kp, h.nx, h.o0, h.o3, h.o6, h.o7, h.z3, h.z7, h.z9, h.x9⟩
theorem NG.no9 (h : NG wr s0 xb sv0 n1 ysv dv L v W) (h7 : L 7 = false) : L 9 = false := by
  cases e : L 9 with
  | false => rfl
  | true => rw [h.z9 e] at h7; cases h7
theorem NG.no7 (h : NG wr s0 xb sv0 n1 ysv dv L v W) (h3 : L 3 = false) : L 7 = false := by
  cases e : L 7 with
  | false => rfl
  | true => rw [(h.z7 e).1] at h3; cases h3
theorem NG.no76 (h : NG wr s0 xb sv0 n1 ysv dv L v W) (h6 : L 6 = false) : L 7 = false := by
  cases e : L 7 with
  | false => rfl
  | true => rw [(h.z7 e).2] at h6; cases h6
theorem NG.no3 (h : NG wr s0 xb sv0 n1 ysv dv L v W) (h0 : L 0 = false) : L 3 = false := by
  cases e : L 3 with
  | false => rfl
  | true => rw [h.z3 e] at h0; cases h0
theorem NG.lit0 (h : NG wr s0 xb sv0 n1 ysv dv L v W) (hx : xb < s0) (h0 : L 0 = false) : NG wr s0 xb sv0 n1 ysv dv (updL L 0) (updV v 0 (.slice (some ⟨W.heap.size, 0, none⟩) 0 0)) (W.alloc (.cells #[] yssT)) := by
  have f3 := h.no3 h0
  have f7 := h.no7 f3
  have f9 := h.no9 f7
  have e3 := updL_ne L (show 3 ≠ 0 by decide); have e6 := updL_ne L (show 6 ≠ 0 by decide); have e7 := updL_ne L (show 7 ≠ 0 by decide); have e9 := updL_ne L (show 9 ≠ 0 by decide)
  have v3 := updV_ne v (.slice (some ⟨W.heap.size, 0, none⟩) 0 0) (show 3 ≠ 0 by decide); have v6 := updV_ne v (.slice (some ⟨W.heap.size, 0, none⟩) 0 0) (show 6 ≠ 0 by decide)
  have ha : ∀ k, k < W.heap.size → (W.alloc (.cells #[] yssT)).heap[k]? = W.heap[k]? := fun k hk => Below.heap_alloc W _ k hk
  have hsz := h.sz
  refine ⟨by simp; omega, h.bel.alloc (Nat.zero_le _) _, fun k h1 h2 => (ha k (by omega)).trans (h.kp k h1 h2), fun _ => (ha xb (by omega)).trans (h.nx f9), fun _ _ => ?_, ?_, ?_, ?_, ?_, ?_, ?_, ?_⟩
  · rw [updV_self]; exact own_base (ownsRow_empty W yssT) h.sz
  · rw [e3]; intro e; rw [f3] at e; cases e
  · rw [e6, e7, v6, e3, v3, updV_self]
    intro e1 e2
    obtain ⟨g, g1, g2, g3, _, g5⟩ := h.o6 e1 e2
    have hlt := (Array.getElem?_eq_some_iff.1 g3).1
    exact ⟨g, g1, g2, (ha g hlt).trans g3, fun _ _ hg => (by have e : W.heap.size = g := Option.some.inj hg; omega), g5⟩
  · rw [e7]; intro e; rw [f7] at e; cases e
  · rw [e3]; intro e; rw [f3] at e; cases e
  · rw [e7]; intro e; rw [f7] at e; cases e
  · rw [e9]; intro e; rw [f9] at e; cases e
  · rw [e9]; intro e; rw [f9] at e; cases e
theorem NG.lit6 (h : NG wr s0 xb sv0 n1 ysv dv L v W) (hx : xb < s0) (h6 : L 6 = false) : NG wr s0 xb sv0 n1 ysv dv (updL L 6) (updV v 6 (.slice (some ⟨W.heap.size, 0, none⟩) 1 1)) (W.alloc (.cells #[dv] yssT)) := by
  have f7 := h.no76 h6
  have f9 := h.no9 f7
  have e0 := updL_ne L (show 0 ≠ 6 by decide); have e3 := updL_ne L (show 3 ≠ 6 by decide); have e7 := updL_ne L (show 7 ≠ 6 by decide); have e9 := updL_ne L (show 9 ≠ 6 by decide)
  have v0 := updV_ne v (.slice (some ⟨W.heap.size, 0, none⟩) 1 1) (show 0 ≠ 6 by decide); have v3 := updV_ne v (.slice (some ⟨W.heap.size, 0, none⟩) 1 1) (show 3 ≠ 6 by decide)
  have ha : ∀ k, k < W.heap.size → (W.alloc (.cells #[dv] yssT)).heap[k]? = W.heap[k]? := fun k hk => Below.heap_alloc W _ k hk
  have hg := World.grownBy_alloc W (.cells #[dv] yssT) none
  have hn : ∀ {v : Value}, ∀ g, v.ownBlock = some g → (none : Option Nat) ≠ some g := fun _ _ e => by cases e
  have hsz := h.sz
  refine ⟨by simp; omega, h.bel.alloc (Nat.zero_le _) _, fun k h1 h2 => (ha k (by omega)).trans (h.kp k h1 h2), fun _ => (ha xb (by omega)).trans (h.nx f9), ?_, ?_, ?_, ?_, ?_, ?_, ?_, ?_⟩
  · rw [e0, e3, v0]; exact fun e1 e2 => own_grown (h.o0 e1 e2) hg hn
  · rw [e3, e7, v3]; exact fun e1 e2 => own_grown (h.o3 e1 e2) hg hn
  · rw [e7, updV_self, e0, e3, v0, v3]
    intro _ e2
    refine ⟨W.heap.size, rfl, h.sz, World.alloc_heap_new W _, fun e3' e4 hg2 => ?_, fun e3' hg2 => ?_⟩
    · have := (World.ownsRow.lt (h.o0 e3' e4) _ hg2).2; omega
    · have := (World.ownsRow.lt (h.o3 e3' e2) _ hg2).2; omega
  · rw [e7]; intro e; rw [f7] at e; cases e
  · rw [e3, e0]; exact h.z3
  · rw [e7]; intro e; rw [f7] at e; cases e
  · rw [e9]; intro e; rw [f9] at e; cases e
  · rw [e9]; intro e; rw [f9] at e; cases e
theorem NG.app3 (h : NG wr s0 xb sv0 n1 ysv dv L v W) (hx : xb < s0) (h0 : L 0 = true) (h3 : L 3 = false) (v' : Value) (hr : W'.ownsRow s0 yssT 1 v' n1 ysv) (hg : W.grownBy W' (v 0).ownBlock) (hb : Below 0 wr W') (h5 : v'.ownBlock = (v 0).ownBlock ∨ v'.ownBlock = some W.heap.size) : NG wr s0 xb sv0 n1 ysv dv (updL L 3) (updV v 3 v') W' := by
  have f7 := h.no7 h3
  have f9 := h.no9 f7
  have hO := h.o0 h0 h3
  have e0 := updL_ne L (show 0 ≠ 3 by decide); have e6 := updL_ne L (show 6 ≠ 3 by decide); have e7 := updL_ne L (show 7 ≠ 3 by decide); have e9 := updL_ne L (show 9 ≠ 3 by decide)
  have v0 := updV_ne v v' (show 0 ≠ 3 by decide); have v6 := updV_ne v v' (show 6 ≠ 3 by decide)
  have hsz := h.sz
  have hlo : ∀ g, (v 0).ownBlock = some g → s0 ≤ g ∧ g < W.heap.size := fun g hg => World.ownsRow.lt hO g hg
  refine ⟨Nat.le_trans h.sz hg.size, hb, fun k h1 h2 => (hg.block k (by omega) (fun e => by have := (hlo k e.symm).1; omega)).trans (h.kp k h1 h2), fun _ => (hg.block xb (by omega) (fun e => by have := (hlo xb e.symm).1; omega)).trans (h.nx f9), ?_, ?_, ?_, ?_, ?_, ?_, ?_, ?_⟩
  · intro _ e; rw [updL_self] at e; cases e
  · intro _ _; rw [updV_self]; exact hr
  · rw [e6, e7, v6, e0, v0, updV_self]
    intro e1 e2
    obtain ⟨g, g1, g2, g3, g4, _⟩ := h.o6 e1 e2
    have hlt := (Array.getElem?_eq_some_iff.1 g3).1
    have hne := g4 h0 h3
    refine ⟨g, g1, g2, (hg.block g hlt (fun e => hne e.symm)).trans g3, (fun _ e => by rw [updL_self] at e; cases e), fun _ hg2 => ?_⟩
    rcases h5 with h5 | h5
    · exact hne (by rw [← h5]; exact hg2)
    · rw [h5] at hg2
      have e : W.heap.size = g := Option.some.inj hg2
      omega
  · rw [e7]; intro e; rw [f7] at e; cases e
  · rw [e0]; exact fun _ => h0
  · rw [e7]; intro e; rw [f7] at e; cases e
  · rw [e9]; intro e; rw [f9] at e; cases e
  · rw [e9]; intro e; rw [f9] at e; cases e
theorem NG.app7 (h : NG wr s0 xb sv0 n1 ysv dv L v W) (hx : xb < s0) (h3 : L 3 = true) (h6 : L 6 = true) (h7 : L 7 = false) (v' : Value) (hr : W'.ownsRow s0 yssT 1 v' (n1 + 1) (ysv ++ [dv])) (hg : W.grownBy W' (v 3).ownBlock) (hb : Below 0 wr W') : NG wr s0 xb sv0 n1 ysv dv (updL L 7) (updV v 7 v') W' := by
  have f9 := h.no9 h7
  have hO := h.o3 h3 h7
  have e0 := updL_ne L (show 0 ≠ 7 by decide); have e3 := updL_ne L (show 3 ≠ 7 by decide); have e6 := updL_ne L (show 6 ≠ 7 by decide); have e9 := updL_ne L (show 9 ≠ 7 by decide)
  have hsz := h.sz
  have hlo : ∀ g, (v 3).ownBlock = some g → s0 ≤ g ∧ g < W.heap.size := fun g hg => World.ownsRow.lt hO g hg
  refine ⟨Nat.le_trans h.sz hg.size, hb, fun k h1 h2 => (hg.block k (by omega) (fun e => by have := (hlo k e.symm).1; omega)).trans (h.kp k h1 h2), fun _ => (hg.block xb (by omega) (fun e => by have := (hlo xb e.symm).1; omega)).trans (h.nx f9), ?_, ?_, ?_, ?_, ?_, ?_, ?_, ?_⟩
  · rw [e3]; intro _ e; rw [h3] at e; cases e
  · intro _ e; rw [updL_self] at e; cases e
  · intro _ e; rw [updL_self] at e; cases e
  · intro _; rw [updV_self]; exact hr
  · rw [e3, e0]; exact h.z3
  · rw [e3, e6]; exact fun _ => ⟨h3, h6⟩
  · rw [e9]; intro e; rw [f9] at e; cases e
  · rw [e9]; intro e; rw [f9] at e; cases e
theorem NG.st9 (h : NG wr s0 xb sv0 n1 ysv dv L v W) {sv2 rv2 : Value} (hw : wr.heap[xb]? = some (.cells (hasC sv0 rv2) rjT (0, 0))) (hx : xb < s0) (h7 : L 7 = true) (h9 : L 9 = false) (u : Value) : NG wr s0 xb sv0 n1 ysv dv (updL L 9) (updV v 9 u) (W.setCell ⟨xb, 6, none⟩ (v 7)) := by
  have e0 := updL_ne L (show 0 ≠ 9 by decide); have e3 := updL_ne L (show 3 ≠ 9 by decide); have e6 := updL_ne L (show 6 ≠ 9 by decide); have e7 := updL_ne L (show 7 ≠ 9 by decide)
  have v7 := updV_ne v u (show 7 ≠ 9 by decide)
  have hsz := h.sz
  have hh : ∀ k, k ≠ xb → (W.setCell ⟨xb, 6, none⟩ (v 7)).heap[k]? = W.heap[k]? := fun k hk => Below.heap_setCell W ⟨xb, 6, none⟩ (v 7) k hk
  have hO := h.o7 h7
  refine ⟨by simpa using h.sz, h.bel.setCell (p := ⟨xb, 6, none⟩) (Nat.zero_le _) _, fun k h1 h2 => (hh k h2).trans (h.kp k h1 h2), ?_, ?_, ?_, ?_, ?_, ?_, ?_, ?_, ?_⟩
  · intro e; rw [updL_self] at e; cases e
  · rw [e3]; intro _ e; rw [(h.z7 h7).1] at e; cases e
  · rw [e7]; intro _ e; rw [h7] at e; cases e
  · rw [e7]; intro _ e; rw [h7] at e; cases e
  · rw [v7]
    intro _
    obtain ⟨g1, g2⟩ := hO
    refine ⟨g1, ?_⟩
    rcases g2 with g2 | ⟨g, cap, cur, hv, hg0, hb, r⟩
    · exact .inl g2
    · exact .inr ⟨g, cap, cur, hv, hg0, (hh g (by omega)).trans hb, r⟩
  · rw [e3, e0]; exact h.z3
  · rw [e7, e3, e6]; exact h.z7
  · rw [e7]; exact fun _ => h7
  · rw [v7]
    intro _
    have h1 := heap_setCell_same W xb 6 _ rjT (v 7) ((h.nx h9).trans hw)
    refine h1.trans ?_
    simp [hasC]
end
end Go.Proofs.Ytpllbojmonfeiaa
