/- HeapMerges: its copies while things come; the search for the least first thing. -/
import Derived.Test.YtpdncgjepfgnjaaMrgF
namespace Go.Proofs.Ytpdncgjepfgnjaa
open Go.RowKit
set_option linter.unusedVariables false
section
variable {τ : Type} (key : τ → Int)
theorem best_app : ∀ (a b : List (List τ)) (i : Nat) (c : Option (τ × Int)), bestF key i c (a ++ b) = bestF key (i + a.length) (bestF key i c a) b
  | [], b, i, c => by simp [bestF]
  | [] :: a, b, i, c => by
    have := best_app a b (i + 1) c
    simp only [List.cons_append, bestF, this, List.length_cons]
    rw [show i + 1 + a.length = i + (a.length + 1) from by omega]
  | (x :: l) :: a, b, i, none => by
    have := best_app a b (i + 1) (some (x, (i : Int)))
    simp only [List.cons_append, bestF, this, List.length_cons]
    rw [show i + 1 + a.length = i + (a.length + 1) from by omega]
  | (x :: l) :: a, b, i, some d => by
    have := best_app a b (i + 1) (if key x < key d.1 then some (x, (i : Int)) else some d)
    simp only [List.cons_append, bestF, this, List.length_cons]
    rw [show i + 1 + a.length = i + (a.length + 1) from by omega]
/-- One step of the search. -/
def stepB (k : Nat) : Option (τ × Int) → List τ → Option (τ × Int)
  | c, [] => c
  | none, x :: _ => some (x, (k : Int))
  | some d, x :: _ => if key x < key d.1 then some (x, (k : Int)) else some d
theorem best_step {ls : List (List τ)} {k : Nat} {xs : List τ} (h : ls[k]? = some xs) : bestF key 0 none (ls.take (k + 1)) = stepB key k (bestF key 0 none (ls.take k)) xs := by
  have hk : (ls.take k).length = k := by have := (List.getElem?_eq_some_iff.1 h).1; simp; omega
  rw [take_snoc h, best_app, hk, Nat.zero_add]
  cases xs with
  | nil => cases bestF key 0 none (ls.take k) <;> rfl
  | cons x r => cases bestF key 0 none (ls.take k) <;> rfl
theorem best_head {ls : List (List τ)} {k : Nat} {y : τ} {i : Int} (h : bestF key 0 none (ls.take k) = some (y, i)) : ∃ (j : Nat) (r : List τ), i = (j : Int) ∧ j < k ∧ ls[j]? = some (y :: r) := by
  rcases best_none key (ls.take k) 0 with ⟨h1, _⟩ | ⟨c, h1, h2, _⟩
  · rw [h] at h1; cases h1
  · rw [h] at h1
    cases h1
    obtain ⟨j, x, r, h3, h4⟩ := heads_mem (ls.take k) 0 _ h2
    rw [Nat.zero_add] at h4
    cases h4
    rw [List.getElem?_take] at h3
    split at h3
    · exact ⟨j, r, rfl, by assumption, h3⟩
    · cases h3
end
/-- Where the least first thing so far stands, as the law has it. -/
def atN : Option ((Int × Int) × Int) → Int
  | none => -1
  | some (_, j) => j
/-- The law's boxes and copies, the merge's boxes and what it has kept, between two things. X: the box of how many came; X + 1: the merge's box of the order. -/
structure LwM (of N X Bk hi most tot n0 : Nat) (ka : Option Addr) (kc : Nat) (vs0 : List Value) (ls0 : List (List (Int × Int))) (sv : Value) (w : World) (c : List (List (Int × Int)) × Nat) (W : World) : Prop where
  cp : CpM N (N + 2) X sv c.1 W
  ne : sv.ownBlock ≠ some (N + 1)
  box : W.heap[N + 1]? = some (.cells #[sv] 57 (0, 0))
  b3 : W.heap[w.heap.size]? = some (.cells #[.int .i64 most] 3 (0, 0))
  b4 : W.heap[w.heap.size + 1]? = some (.cells #[.bool false] 4 (0, 0))
  b9 : W.heap[X]? = some (.cells #[.int .i64 c.2] 3 (0, 0))
  bf : W.cell? ⟨X + 1, 0, none⟩ = some (.func (.func of) #[] #[])
  bk : W.cell? ⟨Bk, 0, none⟩ = some (.slice ka n0 kc)
  ksl : Sl (fun v : Value => v) hi W (.slice ka n0 kc) vs0
  kll : LL (X + 1) hi W vs0 ls0
  bel : Below w.heap.size w W
  num : c.2 + totL c.1 = tot
  len : c.1.length = n0
  hiV : hi ≤ W.heap.size
  klo : ∀ ad, ka = some ad → X + 1 ≤ ad.block
/-- In what order the boxes lie. -/
structure LwO (N X Bk hi B : Nat) (w : World) : Prop where
  a : w.heap.size + 2 ≤ N
  b : N + 1 < X
  c : X + 1 < B
  d : Bk < B
  e : hi ≤ B
  f : X + 2 ≤ Bk
theorem LwM.below {of N X Bk hi B most tot n0 : Nat} {ka : Option Addr} {kc : Nat} {vs0 : List Value} {ls0 : List (List (Int × Int))} {sv : Value} {w : World} {c : List (List (Int × Int)) × Nat} {W W' : World} (h : LwM of N X Bk hi most tot n0 ka kc vs0 ls0 sv w c W) (ho : LwO N X Bk hi B w) (hb : Below B W W') : LwM of N X Bk hi most tot n0 ka kc vs0 ls0 sv w c W' := by
  obtain ⟨o1, o2, o3, o4, o5, o6⟩ := ho
  obtain ⟨vs, hR, hL, hO⟩ := h.cp.row
  refine ⟨⟨⟨vs, ?_, hL.below hb (by omega), hO⟩, h.cp.lt, Nat.le_trans h.cp.hiW hb.size⟩, h.ne, (hb.block _ (by omega)).trans h.box, (hb.block _ (by omega)).trans h.b3, (hb.block _ (by omega)).trans h.b4, (hb.block _ (by omega)).trans h.b9, (hb.cell (p := ⟨X + 1, 0, none⟩) (by show X + 1 < B; omega)).trans h.bf, (hb.cell (p := ⟨Bk, 0, none⟩) o4).trans h.bk, h.ksl.below (hb.mono o5), h.kll.below hb o5, h.bel.trans (hb.mono (by omega)), h.num, h.len, Nat.le_trans h.hiV hb.size, h.klo⟩
  obtain ⟨h1, h2⟩ := hR
  refine ⟨h1, ?_⟩
  rcases h2 with h2 | ⟨g, cap, cur, hv, hg, hh, r⟩
  · exact .inl h2
  · exact .inr ⟨g, cap, cur, hv, hg, (hb.block g (by have := h.cp.lt g (by rw [hv]; rfl); omega)).trans hh, r⟩
/-- The merge's promise for such a caller. -/
theorem lwC {of N X Bk hi B most tot n0 : Nat} {ka : Option Addr} {kc : Nat} {vs0 : List Value} {ls0 : List (List (Int × Int))} {g sc : Nat} {w : World} (key : Int × Int → Int) (ho : LwO N X Bk hi B w) (hg : g < X) :
    MergeC key of (X + 1) Bk B (X + 1) hi ka n0 kc vs0 ls0 [g, X] (fun c : List (List (Int × Int)) × Nat => c.1) (fun c W => LwM of N X Bk hi most tot n0 ka kc vs0 ls0 (.slice (some ⟨g, 0, none⟩) n0 sc) w c W ∧ c.2 < most) (fun c c' => c'.1 = nextL key c.1) where
  keep := fun c W W' h hb => ⟨h.1.below ho hb, h.2⟩
  bf := fun c W h => h.1.bf
  bk := fun c W h => h.1.bk
  kept := fun c W h => ⟨h.1.ksl, h.1.kll⟩
  next := fun c c' h => h
  hiB := ho.e
  lw := fun k hk => by
    have := ho.c
    simp at hk
    omega
section
variable {of N X Bk hi most tot n0 g sc : Nat} {ka : Option Addr} {kc : Nat} {vs0 : List Value} {ls0 : List (List (Int × Int))} {w : World} {c : List (List (Int × Int)) × Nat} {V : World}
/-- What stands in the law's row. -/
theorem LwM.cellAt (h : LwM of N X Bk hi most tot n0 ka kc vs0 ls0 (.slice (some ⟨g, 0, none⟩) n0 sc) w c V) {k : Nat} {xs : List (Int × Int)} (hk : c.1[k]? = some xs) :
    ∃ a cp, V.cell? ⟨g, k, none⟩ = some (.slice a xs.length cp) ∧ V.frozen? ⟨g, k, none⟩ = false ∧ xs.length ≤ cp ∧ PrL (N + 2) X V (.slice a xs.length cp) xs ∧ OffP [g] (.slice a xs.length cp) := by
  obtain ⟨vs, hR, hL, hO⟩ := h.cp.row
  obtain ⟨v, hv, hp⟩ := hL.at_ hk
  obtain ⟨a, cp, rfl, hc⟩ := hp.form
  rw [h.len] at hR
  have hlt : k < n0 := by rw [← h.len]; exact (List.getElem?_eq_some_iff.1 hk).1
  exact ⟨a, cp, (hR.cellAt k (by omega)).trans hv, hR.frozenAt k, hc, hp, hO _ (List.mem_of_getElem? hv)⟩
theorem LwM.headAt (h : LwM of N X Bk hi most tot n0 ka kc vs0 ls0 (.slice (some ⟨g, 0, none⟩) n0 sc) w c V) {k : Nat} {z : Int × Int} {r : List (Int × Int)} (hk : c.1[k]? = some (z :: r)) :
    ∃ b off cap, V.cell? ⟨g, k, none⟩ = some (.slice (some ⟨b, off, none⟩) (r.length + 1) (cap + 1)) ∧ V.frozen? ⟨g, k, none⟩ = false ∧ V.cell? ⟨b, off, none⟩ = some (.int .i64 z.1) ∧ V.cell? ⟨b, off + 1, none⟩ = some (.int .i64 z.2) ∧ r.length ≤ cap ∧
      (∀ u, (cap = 0 ∧ u = .slice (some ⟨b, off, none⟩) r.length 0 ∨ cap ≠ 0 ∧ u = .slice (some ⟨b, off + 2, none⟩) r.length cap) → PrL (N + 2) X V u r ∧ OffP [g] u) := by
  obtain ⟨a, cp, h1, h2, h3, h4, h5⟩ := h.cellAt hk
  obtain ⟨b, off, cap, e, _, _, hrc, d0, d1, htl, ht0⟩ := h4.head
  simp only [Value.slice.injEq] at e
  obtain ⟨rfl, _, rfl⟩ := e
  have hbg : b ∉ [g] := h5 _ _ _ rfl (by simp)
  refine ⟨b, off, cap, by simpa using h1, h2, d0, d1, hrc, fun u hu => ?_⟩
  rcases hu with ⟨e0, rfl⟩ | ⟨e0, rfl⟩
  · have hr0 := ht0 e0
    refine ⟨.inl ⟨hr0, some ⟨b, off, none⟩, 0, by rw [hr0]; rfl, fun e => by cases e⟩, fun ad n c' e hn => ?_⟩
    cases e; exact hbg
  · refine ⟨htl (by omega), fun ad n c' e hn => ?_⟩
    cases e; exact hbg
/-- A thing has come: its list is shorter, one more is counted. -/
theorem LwM.round {B : Nat} (h : LwM of N X Bk hi most tot n0 ka kc vs0 ls0 (.slice (some ⟨g, 0, none⟩) n0 sc) w c V) (ho : LwO N X Bk hi B w) {j : Nat} {x : Int × Int} {r : List (Int × Int)} (hj : c.1[j]? = some (x :: r)) {nv : Value} (hv : PrL (N + 2) X V nv r) (hO : OffP [g] nv) :
    LwM of N X Bk hi most tot n0 ka kc vs0 ls0 (.slice (some ⟨g, 0, none⟩) n0 sc) w (c.1.set j r, c.2 + 1) ((V.setCell ⟨g, j, none⟩ nv).setCell ⟨X, 0, none⟩ (.int .i64 ((c.2 + 1 : Nat) : Int))) ∧ But [g, X] V ((V.setCell ⟨g, j, none⟩ nv).setCell ⟨X, 0, none⟩ (.int .i64 ((c.2 + 1 : Nat) : Int))) := by
  obtain ⟨o1, o2, o3, o4, o5, o6⟩ := ho
  obtain ⟨vs, hR, _, _⟩ := h.cp.row
  have hgX := h.cp.lt g rfl
  have hgN := (hR.lt g rfl).1
  have hgb : g ≠ N + 1 := fun e => h.ne (by rw [e]; rfl)
  have hb : But [g, X] V ((V.setCell ⟨g, j, none⟩ nv).setCell ⟨X, 0, none⟩ (.int .i64 ((c.2 + 1 : Nat) : Int))) := ((But.refl _ V).set (.inl (by simp)) _).set (.inl (by simp)) _
  have hne : ∀ k, k ≠ g → k ≠ X → k ∉ [g, X] := fun k e1 e2 => by simp [e1, e2]
  have hcut := h.cp.cut j nv r hv hO
  refine ⟨⟨hcut.but ((But.refl [X] _).set (p := ⟨X, 0, none⟩) (.inl (by simp)) _) (fun k hk => ?_), h.ne, (hb.block _ (lt_of_get h.box) (hne _ (by omega) (by omega))).trans h.box, (hb.block _ (lt_of_get h.b3) (hne _ (by omega) (by omega))).trans h.b3, (hb.block _ (lt_of_get h.b4) (hne _ (by omega) (by omega))).trans h.b4, ?_,
    (World.cell?_of_block (a := ⟨X + 1, 0, none⟩) (hb.block (X + 1) (cell_lt h.bf) (hne _ (by omega) (by omega)))).trans h.bf, ?_, ?_, h.kll.but hb (fun k hk => by simp at hk; omega) ?_, h.bel.trans (hb.below (fun k hk => by simp at hk; omega) h.bel.size), ?_, by simp [h.len], Nat.le_trans h.hiV hb.size, h.klo⟩, hb⟩
  · simp at hk
    subst hk
    exact ⟨.inr (Nat.le_refl _), fun e => by simp [Value.ownBlock] at e; omega⟩
  · have := heap_setCell_same (V.setCell ⟨g, j, none⟩ nv) X 0 _ _ (.int .i64 ((c.2 + 1 : Nat) : Int)) ((Below.heap_setCell _ _ _ _ (show X ≠ g by omega)).trans h.b9)
    simpa using this
  · exact (World.cell?_of_block (a := ⟨Bk, 0, none⟩) (hb.block Bk (cell_lt h.bk) (hne _ (by omega) (by omega)))).trans h.bk
  · rcases h.ksl with h1 | ⟨b, off, cap, e, h1, h2, h3⟩
    · exact .inl h1
    · refine .inr ⟨b, off, cap, e, h1, h2, fun i v hi => ?_⟩
      cases e
      have hkl := h.klo _ rfl
      exact (World.cell?_of_block (a := ⟨b, off + i, none⟩) (hb.block b (by have := h.hiV; omega) (hne _ (by simp at hkl; omega) (by simp at hkl; omega)))).trans (h3 i v hi)
  · exact h.hiV
  · have := tot_set c.1 j x r hj
    have := h.num
    show c.2 + 1 + totL (c.1.set j r) = tot
    omega
end
theorem drewN_add (V : World) (q n : Nat) : (V.drewN q).drewN n = V.drewN (q + n) := by simp [World.drewN, Nat.add_assoc]
theorem putObj_below {B k : Nat} {W : World} (o : Obj) (hk : B ≤ k) (hB : B ≤ W.heap.size) : Below B W (W.putObj k o) := (But.putObj W k o).below (fun j hj => by simp at hj; omega) hB
/-- A world in which a round stands. -/
theorem JM.put {σ : Type} {B : Nat} {lw : List Nat} {I : σ → World → Prop} {s : σ × World} {W : World} {k : Nat} (o : Obj) (hk : k = B ∨ k = B + 1) (hI : I s.1 W → I s.1 (W.putObj k o)) (h : JM B lw I s W) : JM B lw I s (W.putObj k o) :=
  ⟨hI h.1, h.2.trans' ((But.putObj W k o).more (fun j hj => by
    simp at hj
    subst hj
    rcases hk with rfl | rfl
    · exact .inl (by simp)
    · exact .inl (by simp)))⟩
/-- What a merge's round is handed, with the box of what came. -/
structure JbM {σ : Type} (key : Int × Int → Int) (B : Nat) (lw : List Nat) (lsOf : σ → List (List (Int × Int))) (I : σ → World → Prop) (s : σ × World) (x : Int × Int) (bx : Nat) (W : World) : Prop where
  jm : JM B lw I s W
  best : ∃ j : Nat, bestF key 0 none (lsOf s.1) = some (x, (j : Int))
  box : W.heap[bx]? = some (.cells #[.int .i64 x.1, .int .i64 x.2] 27 (0, 0))
  ge : B + 2 ≤ bx
theorem LwM.start {of N most tot : Nat} {a1 : Int} {g sc n0 : Nat} {ls : List (List (Int × Int))} {w wr W6 : World} (h : Lw1 N a1 w ls (.slice (some ⟨g, 0, none⟩) n0 sc) wr) (hn : ls.length = n0) (ht : totL ls = tot) {X Bk : Nat} (hX : wr.heap.size = X) {ka : Option Addr} {kc : Nat} {vs' : List Value}
    (h1 : W6.cell? ⟨X + 1, 0, none⟩ = some (.func (.func of) #[] #[])) (h2 : W6.cell? ⟨Bk, 0, none⟩ = some (.slice ka n0 kc)) (h3 : Sl (fun v : Value => v) W6.heap.size W6 (.slice ka n0 kc) vs') (h4 : LL (X + 1) W6.heap.size W6 vs' ls)
    (hb : Below (X + 1) ((wr.setCell ⟨w.heap.size, 0, none⟩ (.int .i64 most)).alloc (.cells #[.int .i64 0] 3)) W6) (h5 : ∀ ad, ka = some ad → X + 1 ≤ ad.block) :
    LwM of N X Bk W6.heap.size most tot n0 ka kc vs' ls (.slice (some ⟨g, 0, none⟩) n0 sc) w (ls, 0) W6 := by
  have hN1 := lt_of_get h.box
  have hl := h.lt
  have hw := h.bel.size
  obtain ⟨vs, hR, _, _⟩ := h.cp.row
  have hgN := (hR.lt g rfl).1
  have hb0 : But [w.heap.size] wr ((wr.setCell ⟨w.heap.size, 0, none⟩ (.int .i64 most)).alloc (.cells #[.int .i64 0] 3)) := ((But.refl _ wr).set (.inl (by simp)) _).alloc _
  have hb1 : But [w.heap.size] wr W6 := hb0.trans' ((But.of_below (own := []) (by rw [World.size_alloc, setCell_size, hX]; exact hb)).more (fun k hk => by cases hk))
  have hx : ((wr.setCell ⟨w.heap.size, 0, none⟩ (.int .i64 most)).alloc (.cells #[.int .i64 0] 3)).heap[X]? = some (.cells #[.int .i64 0] 3 (0, 0)) := by
    have := World.alloc_heap_new (wr.setCell ⟨w.heap.size, 0, none⟩ (.int .i64 most)) (.cells #[.int .i64 0] 3)
    rw [setCell_size, hX] at this
    exact this
  have h3s := heap_setCell_same wr w.heap.size 0 _ _ (.int .i64 most) h.b3
  have h3' : W6.heap[w.heap.size]? = some (.cells #[.int .i64 most] 3 (0, 0)) := by
    refine (hb.block _ (by omega)).trans ((heap_alloc_old' _ _ _ (by rw [setCell_size]; omega)).trans ?_)
    simpa using h3s
  have hcp : CpM N (N + 2) X (.slice (some ⟨g, 0, none⟩) n0 sc) ls W6 := by
    have := h.cp.but hb1 (fun k hk => by
      simp at hk
      subst hk
      exact ⟨.inl (by omega), fun e => by simp [Value.ownBlock] at e; omega⟩)
    rw [hX] at this
    exact this
  refine ⟨hcp, h.ne, (hb1.block _ hN1 (by simp; omega)).trans h.box, h3', (hb1.block _ (by omega) (by simp)).trans h.b4, (hb.block X (by omega)).trans hx, h1, h2, h3, h4, h.bel.trans (hb1.below (fun k hk => by simp at hk; omega) hw), by simpa using ht, hn, Nat.le_refl _, h5⟩
end Go.Proofs.Ytpdncgjepfgnjaa
