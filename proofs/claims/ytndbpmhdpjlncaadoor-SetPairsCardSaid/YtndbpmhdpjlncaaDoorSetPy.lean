/- law SetPairs: what stays while it makes the items and numbers that are asked for. -/
import Derived.Test.YtndbpmhdpjlncaaDoorSetPr
import Derived.Test.YtndbpmhdpjlncaaDoorRegionInvV
namespace Go.Proofs.YtndbpmhdpjlncaaDoor.setPairs
open Go.RowKit Go.Shelf Go.Proofs.YtndbpmhdpjlncaaDoor
set_option linter.unusedVariables false

/-- The block of a row lies ahead of some blocks, or behind them. -/
def OffR (lo hi : Nat) (v : Value) : Prop := ∀ g, v.ownBlock = some g → g < lo ∨ hi ≤ g
/-- What stays in the loop over the items: two own rows; what was, and the blocks from lo to hi. -/
structure TI (W0 Wb : World) (B lo hi : Nat) (v1 v2 : Value) (k : Nat) (xs1 xs2 : List Value) (W : World) : Prop where
  o1 : W.ownsRow B 3 1 v1 k xs1
  o2 : W.ownsRow B 2 1 v2 k xs2
  f1 : OffR lo hi v1
  f2 : OffR lo hi v2
  sz : hi ≤ W.heap.size
  bel : Below B W0 W
  mid : ∀ m, lo ≤ m → m < hi → W.heap[m]? = Wb.heap[m]?
/-- The world in the midst of region 17. -/
structure TG (W0 Wb : World) (s0 B lo hi : Nat) (a1 a2 : Value) (k : Nat) (xs1 xs2 : List Value) (i1 i2 : Value) (L : Nat → Bool) (v : Nat → Value) (W : World) : Prop where
  sz : hi ≤ W.heap.size
  bsz : s0 ≤ W.heap.size
  bs0 : B ≤ s0
  bel : Below B W0 W
  mid : ∀ m, lo ≤ m → m < hi → W.heap[m]? = Wb.heap[m]?
  o1 : L 3 = false → W.ownsRow B 3 1 a1 k xs1
  o2 : L 10 = false → W.ownsRow B 2 1 a2 k xs2
  p1 : L 11 = false → v 11 = a1
  p2 : L 12 = false → v 12 = a2
  z1 : L 11 = true → L 0 = true
  z2 : L 12 = true → L 4 = true
  y1 : L 11 = true → L 3 = true ∧ W.ownsRow B 3 1 (v 11) (k + 1) (xs1 ++ [i1]) ∧ OffR lo hi (v 11)
  y2 : L 12 = true → L 10 = true ∧ W.ownsRow B 2 1 (v 12) (k + 1) (xs2 ++ [i2]) ∧ OffR lo hi (v 12)
section
variable {W0 Wb : World} {s0 B lo hi : Nat} {a1 a2 : Value} {k : Nat} {xs1 xs2 : List Value} {i1 i2 : Value} {L : Nat → Bool} {v : Nat → Value} {W W' : World}
theorem updLt {L : Nat → Bool} {i j : Nat} (h : L j = true) : updL L i j = true := by unfold updL; split; rfl; exact h
theorem TG.upd (h : TG W0 Wb s0 B lo hi a1 a2 k xs1 xs2 i1 i2 L v W) {i : Nat} (u : Value) (h3 : 3 ≠ i) (h10 : 10 ≠ i) (h11 : 11 ≠ i) (h12 : 12 ≠ i) : TG W0 Wb s0 B lo hi a1 a2 k xs1 xs2 i1 i2 (updL L i) (updV v i u) W :=
  ⟨h.sz, h.bsz, h.bs0, h.bel, h.mid, by rw [updL_ne _ h3]; exact h.o1, by rw [updL_ne _ h10]; exact h.o2, by rw [updL_ne _ h11, updV_ne v u h11]; exact h.p1, by rw [updL_ne _ h12, updV_ne v u h12]; exact h.p2, by rw [updL_ne _ h11]; exact fun e => updLt (h.z1 e), by rw [updL_ne _ h12]; exact fun e => updLt (h.z2 e), by rw [updL_ne _ h11, updV_ne v u h11]; exact fun e => ⟨updLt (h.y1 e).1, (h.y1 e).2⟩, by rw [updL_ne _ h12, updV_ne v u h12]; exact fun e => ⟨updLt (h.y2 e).1, (h.y2 e).2⟩⟩
theorem TG.set1 (h : TG W0 Wb s0 B lo hi a1 a2 k xs1 xs2 i1 i2 L v W) (u : Value) (h0 : L 0 = true) (h3 : L 3 = true) (hu : W.ownsRow B 3 1 u (k + 1) (xs1 ++ [i1])) (hf : OffR lo hi u) : TG W0 Wb s0 B lo hi a1 a2 k xs1 xs2 i1 i2 (updL L 11) (updV v 11 u) W :=
  ⟨h.sz, h.bsz, h.bs0, h.bel, h.mid, by rw [updL_ne _ (by decide)]; exact h.o1, by rw [updL_ne _ (by decide)]; exact h.o2, (fun e => by rw [updL_self] at e; cases e), by rw [updL_ne _ (by decide), updV_ne v u (by decide)]; exact h.p2, (fun _ => updLt h0), by rw [updL_ne _ (by decide)]; exact fun e => updLt (h.z2 e), (fun _ => by rw [updV_self]; exact ⟨updLt h3, hu, hf⟩), by rw [updL_ne _ (by decide), updV_ne v u (by decide)]; exact fun e => ⟨updLt (h.y2 e).1, (h.y2 e).2⟩⟩
theorem TG.set2 (h : TG W0 Wb s0 B lo hi a1 a2 k xs1 xs2 i1 i2 L v W) (u : Value) (h4 : L 4 = true) (h10 : L 10 = true) (hu : W.ownsRow B 2 1 u (k + 1) (xs2 ++ [i2])) (hf : OffR lo hi u) : TG W0 Wb s0 B lo hi a1 a2 k xs1 xs2 i1 i2 (updL L 12) (updV v 12 u) W :=
  ⟨h.sz, h.bsz, h.bs0, h.bel, h.mid, by rw [updL_ne _ (by decide)]; exact h.o1, by rw [updL_ne _ (by decide)]; exact h.o2, by rw [updL_ne _ (by decide), updV_ne v u (by decide)]; exact h.p1, (fun e => by rw [updL_self] at e; cases e), by rw [updL_ne _ (by decide)]; exact fun e => updLt (h.z1 e), (fun _ => updLt h4), by rw [updL_ne _ (by decide), updV_ne v u (by decide)]; exact fun e => ⟨updLt (h.y1 e).1, (h.y1 e).2⟩, (fun _ => by rw [updV_self]; exact ⟨updLt h10, hu, hf⟩)⟩
theorem TG.alloc (h : TG W0 Wb s0 B lo hi a1 a2 k xs1 xs2 i1 i2 L v W) (o : Obj) : TG W0 Wb s0 B lo hi a1 a2 k xs1 xs2 i1 i2 L v (W.alloc o) := by
  have hg := World.grownBy_alloc W o none
  have hn : ∀ {v : Value}, ∀ g, v.ownBlock = some g → (none : Option Nat) ≠ some g := fun _ _ e => by cases e
  exact ⟨Nat.le_trans h.sz hg.size, Nat.le_trans h.bsz hg.size, h.bs0, h.bel.alloc (Nat.le_trans h.bs0 h.bsz) _, fun m h1 h2 => (Below.heap_alloc W o m (Nat.lt_of_lt_of_le h2 h.sz)).trans (h.mid m h1 h2), fun e => own_grown (h.o1 e) hg hn, fun e => own_grown (h.o2 e) hg hn, h.p1, h.p2, h.z1, h.z2, fun e => ⟨(h.y1 e).1, own_grown (h.y1 e).2.1 hg hn, (h.y1 e).2.2⟩, fun e => ⟨(h.y2 e).1, own_grown (h.y2 e).2.1 hg hn, (h.y2 e).2.2⟩⟩
theorem TG.drew (h : TG W0 Wb s0 B lo hi a1 a2 k xs1 xs2 i1 i2 L v W) : TG W0 Wb s0 B lo hi a1 a2 k xs1 xs2 i1 i2 L v W.drew :=
  ⟨h.sz, h.bsz, h.bs0, h.bel.drew, h.mid, h.o1, h.o2, h.p1, h.p2, h.z1, h.z2, h.y1, h.y2⟩
theorem TG.app1 (h : TG W0 Wb s0 B lo hi a1 a2 k xs1 xs2 i1 i2 L v W) (u : Value) (hL : L 3 = false) (hf : OffR lo hi a1) (hg : W.grownBy W' a1.ownBlock) : TG W0 Wb s0 B lo hi a1 a2 k xs1 xs2 i1 i2 (updL L 3) (updV v 3 u) W' := by
  have ho := h.o1 hL
  refine ⟨Nat.le_trans h.sz hg.size, Nat.le_trans h.bsz hg.size, h.bs0, below_grown2 ho (Nat.le_trans h.bs0 h.bsz) h.bel hg, fun m h1 h2 => (hg.block m (Nat.lt_of_lt_of_le h2 h.sz) (fun e => by rcases hf m e.symm with h5 | h5 <;> omega)).trans (h.mid m h1 h2), (fun e => by rw [updL_self] at e; cases e), ?_, ?_, ?_, ?_, ?_, ?_, ?_⟩
  · rw [updL_ne _ (by decide)]
    exact fun e => own_grown (h.o2 e) hg (fun g hg2 e2 => own_ne ho (h.o2 e) (by decide) g e2 hg2)
  · rw [updL_ne _ (by decide), updV_ne v u (by decide)]; exact h.p1
  · rw [updL_ne _ (by decide), updV_ne v u (by decide)]; exact h.p2
  · rw [updL_ne _ (by decide)]; exact fun e => updLt (h.z1 e)
  · rw [updL_ne _ (by decide)]; exact fun e => updLt (h.z2 e)
  · rw [updL_ne _ (by decide)]
    exact fun e => by have := (h.y1 e).1; rw [hL] at this; cases this
  · rw [updL_ne _ (by decide), updV_ne v u (by decide)]
    exact fun e => ⟨updLt (h.y2 e).1, own_grown (h.y2 e).2.1 hg (fun g hg2 e2 => own_ne ho (h.y2 e).2.1 (by decide) g e2 hg2), (h.y2 e).2.2⟩
theorem TG.app2 (h : TG W0 Wb s0 B lo hi a1 a2 k xs1 xs2 i1 i2 L v W) (u : Value) (hL : L 10 = false) (hf : OffR lo hi a2) (hg : W.grownBy W' a2.ownBlock) : TG W0 Wb s0 B lo hi a1 a2 k xs1 xs2 i1 i2 (updL L 10) (updV v 10 u) W' := by
  have ho := h.o2 hL
  refine ⟨Nat.le_trans h.sz hg.size, Nat.le_trans h.bsz hg.size, h.bs0, below_grown2 ho (Nat.le_trans h.bs0 h.bsz) h.bel hg, fun m h1 h2 => (hg.block m (Nat.lt_of_lt_of_le h2 h.sz) (fun e => by rcases hf m e.symm with h5 | h5 <;> omega)).trans (h.mid m h1 h2), ?_, (fun e => by rw [updL_self] at e; cases e), ?_, ?_, ?_, ?_, ?_, ?_⟩
  · rw [updL_ne _ (by decide)]
    exact fun e => own_grown (h.o1 e) hg (fun g hg2 e2 => own_ne ho (h.o1 e) (by decide) g e2 hg2)
  · rw [updL_ne _ (by decide), updV_ne v u (by decide)]; exact h.p1
  · rw [updL_ne _ (by decide), updV_ne v u (by decide)]; exact h.p2
  · rw [updL_ne _ (by decide)]; exact fun e => updLt (h.z1 e)
  · rw [updL_ne _ (by decide)]; exact fun e => updLt (h.z2 e)
  · rw [updL_ne _ (by decide), updV_ne v u (by decide)]
    exact fun e => ⟨updLt (h.y1 e).1, own_grown (h.y1 e).2.1 hg (fun g hg2 e2 => own_ne ho (h.y1 e).2.1 (by decide) g e2 hg2), (h.y1 e).2.2⟩
  · rw [updL_ne _ (by decide)]
    exact fun e => by have := (h.y2 e).1; rw [hL] at this; cases this
end
/-- Which blocks the operations of region 17 leave. -/
def TK (s0 : Nat) (j m : Nat) (W : World) : Prop :=
  (j = 3 → s0 ≤ m ∨ ∀ cs fr, W.heap[m]? ≠ some (.cells cs 3 fr)) ∧ (j = 10 → s0 ≤ m ∨ ∀ cs fr, W.heap[m]? ≠ some (.cells cs 2 fr))
def TE (s0 : Nat) (j : Nat) (W W' : World) : Prop := W.heap.size ≤ W'.heap.size ∧ ∀ m, m < W.heap.size → TK s0 j m W → W'.heap[m]? = W.heap[m]?
/-- What is said of the values; s0: how large the world was when the round began. -/
def TV (s0 B lo hi : Nat) (a1 a2 al : Value) (pt : Addr) (k : Nat) (xs1 xs2 : List Value) (i1 i2 : Value) (i : Nat) (u : Value) (W : World) : Prop :=
  match i with
  | 0 => u = a1
  | 1 => u = i1
  | 2 => ∃ b, u = .slice (some ⟨b, 0, none⟩) 1 1 ∧ s0 ≤ b ∧ W.heap[b]? = some (.cells #[i1] 3 (0, 0))
  | 3 => W.ownsRow B 3 1 u (k + 1) (xs1 ++ [i1]) ∧ OffR lo hi u
  | 4 => u = a2
  | 5 => u = al
  | 6 => u = i1
  | 7 => u = .pointer (some pt)
  | 8 => u = i2
  | 9 => ∃ b, u = .slice (some ⟨b, 0, none⟩) 1 1 ∧ s0 ≤ b ∧ W.heap[b]? = some (.cells #[i2] 2 (0, 0))
  | 10 => W.ownsRow B 2 1 u (k + 1) (xs2 ++ [i2]) ∧ OffR lo hi u
  | _ => True
theorem own_like {A C : World} {base e s n : Nat} {v : Value} {xs : List Value} (h : A.ownsRow base e s v n xs) (hk : ∀ g, v.ownBlock = some g → C.heap[g]? = A.heap[g]?) : C.ownsRow base e s v n xs := by
  obtain ⟨h1, h2⟩ := h
  refine ⟨h1, ?_⟩
  rcases h2 with h2 | ⟨g, cap, cur, hv, hg0, hh, r⟩
  · exact .inl h2
  · exact .inr ⟨g, cap, cur, hv, hg0, (hk g (by rw [hv]; rfl)).trans hh, r⟩
theorem not_type {W : World} {m e e' : Nat} {cs : Array Value} {fr : Nat × Nat} (h : W.heap[m]? = some (.cells cs e fr)) (hne : e ≠ e') : ∀ cs fr, W.heap[m]? ≠ some (.cells cs e' fr) := fun cs' fr' e2 => by
  rw [h] at e2
  cases e2
  exact hne rfl
theorem TV.keep {s0 B lo hi : Nat} {a1 a2 al : Value} {pt : Addr} {k : Nat} {xs1 xs2 : List Value} {i1 i2 : Value} : ∀ (i j : Nat) (u : Value) (W W' : World), i ≠ j → TV s0 B lo hi a1 a2 al pt k xs1 xs2 i1 i2 i u W → TE s0 j W W' → TV s0 B lo hi a1 a2 al pt k xs1 xs2 i1 i2 i u W' := by
  intro i j u W W' hij h hx
  match i, h with
  | 0, h => exact h
  | 1, h => exact h
  | 2, ⟨b, e, hb, hc⟩ => exact ⟨b, e, hb, (hx.2 b (Array.getElem?_eq_some_iff.1 hc).1 ⟨fun _ => .inl hb, fun _ => .inl hb⟩).trans hc⟩
  | 3, ⟨h1, h2⟩ =>
    refine ⟨own_like h1 fun g hg => ?_, h2⟩
    obtain ⟨_, cur, hcur⟩ := own_at h1 hg
    exact hx.2 g (Array.getElem?_eq_some_iff.1 hcur).1 ⟨fun e => absurd e.symm hij, fun _ => .inr (not_type hcur (by decide))⟩
  | 4, h => exact h
  | 5, h => exact h
  | 6, h => exact h
  | 7, h => exact h
  | 8, h => exact h
  | 9, ⟨b, e, hb, hc⟩ => exact ⟨b, e, hb, (hx.2 b (Array.getElem?_eq_some_iff.1 hc).1 ⟨fun _ => .inl hb, fun _ => .inl hb⟩).trans hc⟩
  | 10, ⟨h1, h2⟩ =>
    refine ⟨own_like h1 fun g hg => ?_, h2⟩
    obtain ⟨_, cur, hcur⟩ := own_at h1 hg
    exact hx.2 g (Array.getElem?_eq_some_iff.1 hcur).1 ⟨fun _ => .inr (not_type hcur (by decide)), fun e => absurd e.symm hij⟩
  | n + 11, h => trivial
theorem TE.refl (s0 : Nat) (j : Nat) (W : World) : TE s0 j W W := ⟨Nat.le_refl _, fun _ _ _ => rfl⟩
theorem TE.alloc (s0 : Nat) (j : Nat) (W : World) (o : Obj) : TE s0 j W (W.alloc o) := ⟨by simp, fun m hm _ => Below.heap_alloc W o m hm⟩
theorem TE.app1 {s0 : Nat} {W W' : World} {v : Value} {n : Nat} {base : Nat} {xs : List Value} (ho : W.ownsRow base 3 1 v n xs) (hl : ∀ g, v.ownBlock = some g → g < s0) (hg : W.grownBy W' v.ownBlock) : TE s0 3 W W' := ⟨hg.size, fun m hm hk => hg.block m hm fun e => by
  obtain ⟨_, cur, hcur⟩ := own_at ho e.symm
  rcases hk.1 rfl with h | h
  · have := hl m e.symm; omega
  · exact h _ _ hcur⟩
theorem TE.app2 {s0 : Nat} {W W' : World} {v : Value} {n : Nat} {base : Nat} {xs : List Value} (ho : W.ownsRow base 2 1 v n xs) (hl : ∀ g, v.ownBlock = some g → g < s0) (hg : W.grownBy W' v.ownBlock) : TE s0 10 W W' := ⟨hg.size, fun m hm hk => hg.block m hm fun e => by
  obtain ⟨_, cur, hcur⟩ := own_at ho e.symm
  rcases hk.2 rfl with h | h
  · have := hl m e.symm; omega
  · exact h _ _ hcur⟩
end Go.Proofs.YtndbpmhdpjlncaaDoor.setPairs
