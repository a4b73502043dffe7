/- The subsets of a set as they are doubled, item by item (plain numbers); set.Subsets$1 for rounds that write older blocks; what stays in the document's Subsets. -/
import Derived.Test.YtndbpmhdpjlncaaDoorSetS
import Derived.Test.YtndbpmhdpjlncaaDoorSetPr
import Derived.Test.YtndbpmhdpjlncaaDoorRegionInvV
namespace Go.Proofs.YtndbpmhdpjlncaaDoor
open Go.RowKit Go.Shelf
set_option linter.unusedVariables false
attribute [local go_sem] Oper.semAt_some

theorem filter_low (n s : Nat) : ((List.range (n + 1)).filter fun i => s.testBit i) = (if s % 2 = 1 then [0] else []) ++ ((List.range n).filter fun i => (s / 2).testBit i).map (· + 1) := by
  rw [List.range_succ_eq_map, List.filter_cons, List.filter_map]
  have e : (List.filter ((fun i => s.testBit i) ∘ Nat.succ) (List.range n)) = (List.range n).filter fun i => (s / 2).testBit i := List.filter_congr fun i _ => by
    show s.testBit (i + 1) = _
    rw [Nat.testBit_succ]
  rw [e, Nat.testBit_zero]
  by_cases h : s % 2 = 1
  · rw [if_pos h, if_pos (by simpa using h)]; rfl
  · rw [if_neg h, if_neg (by simpa using h)]; rfl
theorem dep_add : ∀ (n s i x k : Nat), ((List.range n).filter fun i => s.testBit i)[i]? = some x → k < 2 ^ i → dep n s (2 ^ i + k) = dep n s k + 2 ^ x
  | 0, s, i, x, k, h, _ => by simp at h
  | n + 1, s, i, x, k, h, hk => by
    rw [filter_low] at h
    by_cases hs : s % 2 = 1
    · rw [if_pos hs] at h
      simp only [dep, if_pos hs]
      cases i with
      | zero =>
        simp at h
        subst h
        obtain rfl : k = 0 := by simpa using hk
        simp [dep_zero]
      | succ i =>
        simp only [List.cons_append, List.nil_append, List.getElem?_cons_succ, List.getElem?_map, Option.map_eq_some_iff] at h
        obtain ⟨y, hy, rfl⟩ := h
        have h2 : 2 ^ (i + 1) = 2 ^ i * 2 := Nat.pow_succ 2 i
        have ih := dep_add n (s / 2) i y (k / 2) hy (by omega)
        rw [h2, show (2 ^ i * 2 + k) % 2 = k % 2 from by omega, show (2 ^ i * 2 + k) / 2 = 2 ^ i + k / 2 from by omega, ih, Nat.pow_succ]
        omega
    · rw [if_neg hs] at h
      simp only [dep, if_neg hs]
      simp only [List.nil_append, List.getElem?_map, Option.map_eq_some_iff] at h
      obtain ⟨y, hy, rfl⟩ := h
      rw [dep_add n (s / 2) i y k hy hk, Nat.pow_succ]
      omega
theorem sub_add {s i x k : Nat} (h : (items s)[i]? = some x) (hk : k < 2 ^ i) : sub s (2 ^ i + k) = sub s k + 2 ^ x := dep_add 64 s i x k h hk

/-- What stays as an operation comes up. -/
theorem zupd {L : Nat → Bool} {i : Nat} {ps : List (Nat × Nat)} (h : ∀ p ∈ ps, L p.1 = true → L p.2 = true) (hi : ∀ p ∈ ps, p.1 = i → L p.2 = true) : ∀ p ∈ ps, updL L i p.1 = true → updL L i p.2 = true := by
  intro p hp e
  have ht : ∀ j, L j = true → updL L i j = true := fun j hj => by unfold updL; split; rfl; exact hj
  by_cases h1 : p.1 = i
  · exact ht _ (hi p hp h1)
  · rw [updL_ne _ h1] at e
    exact ht _ (h p hp e)
/-- The world in the midst of region 10 of the document's Subsets. -/
structure SG (W0 : World) (s0 B : Nat) (a1 lv : Value) (k N : Nat) (xs ys : List Value) (i1 : Value) (L : Nat → Bool) (v : Nat → Value) (W : World) : Prop where
  bsz : s0 ≤ W.heap.size
  bs0 : B ≤ s0
  bel : Below B W0 W
  o1 : L 12 = false → W.ownsRow B 22 1 a1 k xs
  ol : W.ownsRow B 3 1 lv N ys
  p1 : L 13 = false → v 13 = a1
  z : ∀ p ∈ [(13, 0), (13, 1), (12, 4), (11, 4), (10, 4)], L p.1 = true → L p.2 = true
  y1 : L 13 = true → L 12 = true ∧ W.ownsRow B 22 1 (v 13) (k + 1) (xs ++ [i1])
section
variable {W0 : World} {s0 B : Nat} {a1 lv : Value} {k N : Nat} {xs ys : List Value} {i1 : Value} {L : Nat → Bool} {v : Nat → Value} {W W' : World}
theorem SG.upd (h : SG W0 s0 B a1 lv k N xs ys i1 L v W) {i : Nat} (u : Value) (h12 : 12 ≠ i) (h13 : 13 ≠ i) (hi : ∀ p ∈ [(13, 0), (13, 1), (12, 4), (11, 4), (10, 4)], p.1 = i → L p.2 = true) : SG W0 s0 B a1 lv k N xs ys i1 (updL L i) (updV v i u) W :=
  ⟨h.bsz, h.bs0, h.bel, by rw [updL_ne _ h12]; exact h.o1, h.ol, by rw [updL_ne _ h13, updV_ne v u h13]; exact h.p1, zupd h.z hi, by rw [updL_ne _ h13, updL_ne _ h12, updV_ne v u h13]; exact h.y1⟩
theorem SG.set (h : SG W0 s0 B a1 lv k N xs ys i1 L v W) (u : Value) (h0 : L 0 = true) (h1 : L 1 = true) (h12 : L 12 = true) (hu : W.ownsRow B 22 1 u (k + 1) (xs ++ [i1])) : SG W0 s0 B a1 lv k N xs ys i1 (updL L 13) (updV v 13 u) W :=
  ⟨h.bsz, h.bs0, h.bel, by rw [updL_ne _ (by decide)]; exact h.o1, h.ol, (fun e => by rw [updL_self] at e; cases e), zupd h.z (fun p hp e => by simp at hp; rcases hp with rfl | rfl | rfl | rfl | rfl <;> first | exact h0 | exact h1 | (simp at e)), fun _ => by rw [updL_ne _ (by decide), updV_self]; exact ⟨h12, hu⟩⟩
theorem SG.alloc (h : SG W0 s0 B a1 lv k N xs ys i1 L v W) (o : Obj) : SG W0 s0 B a1 lv k N xs ys i1 L v (W.alloc o) := by
  have hg := World.grownBy_alloc W o none
  have hn : ∀ {v : Value}, ∀ g, v.ownBlock = some g → (none : Option Nat) ≠ some g := fun _ _ e => by cases e
  exact ⟨Nat.le_trans h.bsz hg.size, h.bs0, h.bel.alloc (Nat.le_trans h.bs0 h.bsz) _, fun e => own_grown (h.o1 e) hg hn, own_grown h.ol hg hn, h.p1, h.z, fun e => ⟨(h.y1 e).1, own_grown (h.y1 e).2 hg hn⟩⟩
theorem SG.drew (h : SG W0 s0 B a1 lv k N xs ys i1 L v W) : SG W0 s0 B a1 lv k N xs ys i1 L v W.drew :=
  ⟨h.bsz, h.bs0, h.bel.drew, h.o1, h.ol, h.p1, h.z, h.y1⟩
theorem SG.app (h : SG W0 s0 B a1 lv k N xs ys i1 L v W) (u : Value) (hL : L 12 = false) (h4 : L 4 = true) (hg : W.grownBy W' a1.ownBlock) : SG W0 s0 B a1 lv k N xs ys i1 (updL L 12) (updV v 12 u) W' := by
  have ho := h.o1 hL
  refine ⟨Nat.le_trans h.bsz hg.size, h.bs0, below_grown2 ho (Nat.le_trans h.bs0 h.bsz) h.bel hg, (fun e => by rw [updL_self] at e; cases e), own_grown h.ol hg (fun g hg2 e2 => own_ne ho h.ol (by decide) g e2 hg2), ?_, zupd h.z (fun p hp e => by simp at hp; rcases hp with rfl | rfl | rfl | rfl | rfl <;> first | exact h4 | (simp at e)), ?_⟩
  · rw [updL_ne _ (by decide), updV_ne v u (by decide)]; exact h.p1
  · rw [updL_ne _ (by decide)]
    exact fun e => by have := (h.y1 e).1; rw [hL] at this; cases this
end
/-- Which blocks the append leaves. -/
def SK (s0 : Nat) (j m : Nat) (W : World) : Prop := j = 12 → s0 ≤ m ∨ ∀ cs fr, W.heap[m]? ≠ some (.cells cs 22 fr)
def SE (s0 : Nat) (j : Nat) (W W' : World) : Prop := W.heap.size ≤ W'.heap.size ∧ ∀ m, m < W.heap.size → SK s0 j m W → W'.heap[m]? = W.heap[m]?
def SV (s0 B : Nat) (a1 lv : Value) (pa pl : Addr) (kk i x y p : Nat) (k : Nat) (xs : List Value) (i1 : Value) (j : Nat) (u : Value) (W : World) : Prop :=
  match j with
  | 0 => u = a1
  | 1 => u = a1
  | 2 => u = .int .i64 (kk : Nat)
  | 3 => u = .pointer (some pa)
  | 4 => u = .int .u64 (y : Nat)
  | 5 => u = lv
  | 6 => u = .int .i64 (i : Nat)
  | 7 => u = .pointer (some pl)
  | 8 => u = .int .i64 (x : Nat)
  | 9 => u = .int .u64 (p : Nat)
  | 10 => u = i1
  | 11 => ∃ b, u = .slice (some ⟨b, 0, none⟩) 1 1 ∧ s0 ≤ b ∧ W.heap[b]? = some (.cells #[i1] 22 (0, 0))
  | 12 => W.ownsRow B 22 1 u (k + 1) (xs ++ [i1])
  | _ => True
theorem own_alike {A C : World} {base e s n : Nat} {v : Value} {xs : List Value} (h : A.ownsRow base e s v n xs) (hk : ∀ g, v.ownBlock = some g → C.heap[g]? = A.heap[g]?) : C.ownsRow base e s v n xs := by
  obtain ⟨h1, h2⟩ := h
  refine ⟨h1, ?_⟩
  rcases h2 with h2 | ⟨g, cap, cur, hv, hg0, hh, r⟩
  · exact .inl h2
  · exact .inr ⟨g, cap, cur, hv, hg0, (hk g (by rw [hv]; rfl)).trans hh, r⟩
theorem SV.keep {s0 B : Nat} {a1 lv : Value} {pa pl : Addr} {kk i x y p : Nat} {k : Nat} {xs : List Value} {i1 : Value} : ∀ (j j' : Nat) (u : Value) (W W' : World), j ≠ j' → SV s0 B a1 lv pa pl kk i x y p k xs i1 j u W → SE s0 j' W W' → SV s0 B a1 lv pa pl kk i x y p k xs i1 j u W' := by
  intro j j' u W W' hij h hx
  match j, h with
  | 0, h => exact h
  | 1, h => exact h
  | 2, h => exact h
  | 3, h => exact h
  | 4, h => exact h
  | 5, h => exact h
  | 6, h => exact h
  | 7, h => exact h
  | 8, h => exact h
  | 9, h => exact h
  | 10, h => exact h
  | 11, ⟨b, e, hb, hc⟩ => exact ⟨b, e, hb, (hx.2 b (Array.getElem?_eq_some_iff.1 hc).1 (fun _ => .inl hb)).trans hc⟩
  | 12, h =>
    refine own_alike h fun g hg => ?_
    obtain ⟨_, cur, hcur⟩ := own_at h hg
    exact hx.2 g (Array.getElem?_eq_some_iff.1 hcur).1 (fun e => absurd e.symm hij)
  | n + 13, h => trivial
theorem SE.refl (s0 : Nat) (j : Nat) (W : World) : SE s0 j W W := ⟨Nat.le_refl _, fun _ _ _ => rfl⟩
theorem SE.alloc (s0 : Nat) (j : Nat) (W : World) (o : Obj) : SE s0 j W (W.alloc o) := ⟨by simp, fun m hm _ => Below.heap_alloc W o m hm⟩
theorem SE.app {s0 : Nat} {W W' : World} {v : Value} {n : Nat} {base : Nat} {xs : List Value} (ho : W.ownsRow base 22 1 v n xs) (hl : ∀ g, v.ownBlock = some g → g < s0) (hg : W.grownBy W' v.ownBlock) : SE s0 12 W W' := ⟨hg.size, fun m hm hk => hg.block m hm fun e => by
  obtain ⟨_, cur, hcur⟩ := own_at ho e.symm
  rcases hk rfl with h | h
  · have := hl m e.symm; omega
  · exact h _ _ hcur⟩
/-- The one cell of a block, as the laws on append ask for it. -/
theorem one_cellA {W : World} {b : Nat} {x : Value} {t : TypeId} (h : W.heap[b]? = some (.cells #[x] t (0, 0))) : ∀ j u, [x][j]? = some u → W.cell? ((⟨b, 0, none⟩ : Addr).add j) = some u := by
  intro j u hj
  match j, hj with
  | 0, hj =>
    simp at hj
    subst hj
    have h1 := Boxed.cell (show Boxed W b t x from h)
    simpa [Addr.add] using h1
/-- The cells of an own row. -/
theorem own_cell {W : World} {base e n g o c j : Nat} {xs : List Value} {x : Value} (h : W.ownsRow base e 1 (.slice (some ⟨g, o, none⟩) n c) n xs) (hj : xs[j]? = some x) : W.cell? ⟨g, o + j, none⟩ = some x := by
  have h1 : xs.length = n := by simpa using h.1
  subst h1
  rcases Sl.of_owns (enc := fun x => x) (xs := xs) (by rw [List.map_id']; exact h) with ⟨e, _⟩ | ⟨b, off, cap, e, hb, hcap, hc⟩
  · cases e
  · cases e
    exact hc j x hj
theorem own_some {W : World} {base e n c : Nat} {a : Option Addr} {xs : List Value} (h : W.ownsRow base e 1 (.slice a n c) n xs) (hn : 0 < n) : ∃ g, a = some ⟨g, 0, none⟩ := by
  rcases h.2 with ⟨e, h0⟩ | ⟨g, cap, cur, e, _⟩
  · omega
  · cases e; exact ⟨g, rfl⟩
end Go.Proofs.YtndbpmhdpjlncaaDoor
