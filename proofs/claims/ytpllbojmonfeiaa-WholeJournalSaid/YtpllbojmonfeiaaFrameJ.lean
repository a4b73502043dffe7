/- Rows of the call's own, of bytes and of frames, side by side. -/
import Derived.Test.YtpllbojmonfeiaaOpenF
import Derived.Test.YtpllbojmonfeiaaRefQ
import Derived.RangeFuncBox
import Derived.Test.YtpllbojmonfeiaaRangeR
namespace Go.Proofs.Ytpllbojmonfeiaa
open Go.RowKit
set_option linter.unusedVariables false

theorem infoF : (Try.prog.info? 82).map (fun i => (i.zero, i.size, i.bytes)) = some (some (.agg #[.int .i64 0, .slice none 0 0]), 2, 32) := by kernel_rfl
theorem own_grown {A B : World} {base e s n : Nat} {v : Value} {xs : List Value} {row : Option Nat} (h : A.ownsRow base e s v n xs) (hg : A.grownBy B row) (hn : ∀ g, v.ownBlock = some g → row ≠ some g) : B.ownsRow base e s v n xs := by
  obtain ⟨h1, h2⟩ := h
  refine ⟨h1, ?_⟩
  rcases h2 with h2 | ⟨g, cap, cur, hv, hg0, hh, r⟩
  · exact .inl h2
  · exact .inr ⟨g, cap, cur, hv, hg0, (hg.block g (Array.getElem?_eq_some_iff.1 hh).1 (fun e => hn g (by rw [hv]; rfl) e.symm)).trans hh, r⟩
theorem own_below {A B : World} {K base e s n : Nat} {v : Value} {xs : List Value} (h : A.ownsRow base e s v n xs) (hb : Below K A B) (hK : A.heap.size ≤ K) : B.ownsRow base e s v n xs := by
  obtain ⟨h1, h2⟩ := h
  refine ⟨h1, ?_⟩
  rcases h2 with h2 | ⟨g, cap, cur, hv, hg, hh, r⟩
  · exact .inl h2
  · exact .inr ⟨g, cap, cur, hv, hg, (hb.block g (Nat.lt_of_lt_of_le (Array.getElem?_eq_some_iff.1 hh).1 hK)).trans hh, r⟩
theorem own_at {A : World} {base e s n g : Nat} {v : Value} {xs : List Value} (h : A.ownsRow base e s v n xs) (hv : v.ownBlock = some g) : base ≤ g ∧ ∃ cur, A.heap[g]? = some (.cells cur e (0, 0)) := by
  rcases h.2 with ⟨e0, _⟩ | ⟨g', cap, cur, e0, hg, hh, _⟩
  · rw [e0] at hv; cases hv
  · rw [e0] at hv
    cases hv
    exact ⟨hg, cur, hh⟩
/-- Rows of unlike elements lie apart. -/
theorem own_ne {A : World} {b1 e1 s1 n1 b2 e2 s2 n2 : Nat} {v1 v2 : Value} {xs1 xs2 : List Value} (h1 : A.ownsRow b1 e1 s1 v1 n1 xs1) (h2 : A.ownsRow b2 e2 s2 v2 n2 xs2) (hne : e1 ≠ e2) : ∀ g, v1.ownBlock = some g → v2.ownBlock ≠ some g := by
  intro g hg hg2
  obtain ⟨_, c1, e3⟩ := own_at h1 hg
  obtain ⟨_, c2, e4⟩ := own_at h2 hg2
  rw [e3] at e4
  cases e4
  exact hne rfl
theorem own_box {A : World} {b1 e1 s1 n1 B : Nat} {t : TypeId} {v1 u : Value} {xs1 : List Value} (h1 : A.ownsRow b1 e1 s1 v1 n1 xs1) (h2 : Boxed A B t u) (hne : e1 ≠ t) : v1.ownBlock ≠ some B := by
  intro hg
  obtain ⟨_, c1, e3⟩ := own_at h1 hg
  rw [show A.heap[B]? = _ from h2] at e3
  cases e3
  exact hne rfl
theorem boxed_grown {A B : World} {b : Nat} {t : TypeId} {u : Value} {row : Option Nat} (h : Boxed A b t u) (hg : A.grownBy B row) (hn : row ≠ some b) : Boxed B b t u := h.kept hg (fun e => hn e.symm)
theorem boxed_below {A B : World} {K b : Nat} {t : TypeId} {u : Value} (h : Boxed A b t u) (hb : Below K A B) (hK : b < K) : Boxed B b t u := (hb.block b hK).trans h
theorem own_set {A : World} {base e s n b : Nat} {v u w : Value} {t : TypeId} {xs : List Value} (h : A.ownsRow base e s v n xs) (hb : Boxed A b t u) (hne : e ≠ t) : (A.setCell ⟨b, 0, none⟩ w).ownsRow base e s v n xs :=
  own_grown h (grownBy_setCell' A b w) (fun g hg e => by cases e; exact own_box h hb hne hg)

/-- What is kept: a kind, a body, and the slice of the body. -/
abbrev KX := (Nat × List Nat) × Value
def cellsK (ys : List KX) : List Value := ys.flatMap fun y => [.int .i64 y.1.1, y.2]
theorem cellsK_snoc (ys : List KX) (y : KX) : cellsK (ys ++ [y]) = cellsK ys ++ [.int .i64 y.1.1, y.2] := by simp [cellsK]
theorem cellsK_get : ∀ (ys : List KX) (k : Nat) (y : KX), ys[k]? = some y → (cellsK ys)[k * 2]? = some (.int .i64 y.1.1) ∧ (cellsK ys)[k * 2 + 1]? = some y.2
  | [], k, y, h => by simp at h
  | x :: ys, 0, y, h => by
    cases h
    exact ⟨rfl, rfl⟩
  | x :: ys, k + 1, y, h => by
    have ih := cellsK_get ys k y (by simpa using h)
    have e : cellsK (x :: ys) = .int .i64 x.1.1 :: x.2 :: cellsK ys := rfl
    rw [e, show (k + 1) * 2 = k * 2 + 1 + 1 from by omega]
    exact ⟨ih.1, ih.2⟩
/-- How far the frames are joined. -/
structure JI (w : World) (Br Bk : Nat) (l : List (Int × List Nat)) (k : Nat) (v : Value) (wr : World) : Prop where
  res : Boxed wr Br 4 (.bool false)
  all : wr.ownsRow w.heap.size 5 1 v (joinF (keepF (l.take k))).length ((joinF (keepF (l.take k))).map encY)
  kept : ∃ kv ys, Boxed wr Bk 104 kv ∧ wr.ownsRow w.heap.size 82 2 kv ys.length (cellsK ys) ∧ ys.map Prod.fst = keepF (l.take k) ∧ ∀ y ∈ ys, Sl encY w.heap.size w y.2 y.1.2
  b : Below w.heap.size w wr
  short : ∀ x ∈ l.take k, x.2.length ≤ 500
theorem own_base {A : World} {base base' e s n : Nat} {v : Value} {xs : List Value} (h : A.ownsRow base e s v n xs) (hb : base' ≤ base) : A.ownsRow base' e s v n xs := by
  obtain ⟨h1, h2⟩ := h
  refine ⟨h1, ?_⟩
  rcases h2 with h2 | ⟨g, cap, cur, hv, hg, r⟩
  · exact .inl h2
  · exact .inr ⟨g, cap, cur, hv, Nat.le_trans hb hg, r⟩
theorem ownsRow_empty2 (w : World) (e : TypeId) : (w.alloc (.cells #[] e)).ownsRow w.heap.size e 2 (.slice (some ⟨w.heap.size, 0, none⟩) 0 0) 0 [] :=
  ⟨rfl, .inr ⟨w.heap.size, 0, #[], rfl, Nat.le_refl _, World.alloc_heap_new w _, Nat.le_refl _, Nat.zero_le _, rfl, rfl⟩⟩
theorem own_form {A : World} {base e s n : Nat} {v : Value} {xs : List Value} (h : A.ownsRow base e s v n xs) : ∃ a c, v = .slice a n c := by
  rcases h.2 with ⟨rfl, e⟩ | ⟨g, cap, cur, e, _⟩
  · exact ⟨none, 0, by rw [e]⟩
  · exact ⟨_, _, e⟩
theorem JI.skip {w : World} {Br Bk k : Nat} {l : List (Int × List Nat)} {v : Value} {wr w2 : World} {x : Int × List Nat} (h : JI w Br Bk l k v wr) (hx : l[k]? = some x) (hz : writeE x.1 x.2 ≠ 0) (hs : x.2.length ≤ 500) (hb : Below wr.heap.size wr w2) : JI w Br Bk l (k + 1) v w2 := by
  have e : keepF (l.take (k + 1)) = keepF (l.take k) := by rw [take_one _ _ _ hx, keepF_snoc, if_neg hz]
  obtain ⟨kv, ys, h1, h2, h3, h4⟩ := h.kept
  refine ⟨boxed_below h.res hb h.res.lt, by rw [e]; exact own_below h.all hb (Nat.le_refl _), ⟨kv, ys, boxed_below h1 hb h1.lt, own_below h2 hb (Nat.le_refl _), by rw [e]; exact h3, h4⟩, h.b.trans (hb.mono h.b.size), fun y hy => ?_⟩
  rw [take_one _ _ _ hx] at hy
  rcases List.mem_append.1 hy with hy | hy
  · exact h.short y hy
  · simp at hy; rw [hy]; exact hs
theorem short_len {l : List (Int × List Nat)} {k : Nat} (h : ∀ x ∈ l.take k, x.2.length ≤ 500) (hk : k ≤ 10) : (joinF (keepF (l.take k))).length ≤ 5070 := by
  have h1 := joinF_len (keepF_short h)
  have h2 := keepF_len (l.take k)
  have h3 : (l.take k).length ≤ 10 := by rw [List.length_take]; omega
  have : (keepF (l.take k)).length * (500 + 7) ≤ 10 * 507 := Nat.mul_le_mul (by omega) (by omega)
  omega
theorem own_nb {A : World} {b1 e1 s1 n1 g : Nat} {t : TypeId} {v1 : Value} {xs1 : List Value} {cs : Array Value} {fr : Nat × Nat} (h1 : A.ownsRow b1 e1 s1 v1 n1 xs1) (h2 : A.heap[g]? = some (.cells cs t fr)) (hne : e1 ≠ t) : v1.ownBlock ≠ some g := by
  intro hg
  obtain ⟨_, c1, e3⟩ := own_at h1 hg
  rw [h2] at e3
  cases e3
  exact hne rfl
theorem below_grown2 {B : Nat} {W0 wr w1 : World} {e s : Nat} {v : Value} {n : Nat} {xs : List Value} (hown : wr.ownsRow B e s v n xs) (hB : B ≤ wr.heap.size) (hnx : Below B W0 wr) (hgrow : wr.grownBy w1 v.ownBlock) : Below B W0 w1 :=
  hnx.grown hgrow hB (fun j hj => (own_at hown hj).1)
theorem new_cells2 (w : World) (x y : Value) (t : TypeId) : ∀ j u, [x, y][j]? = some u → (w.alloc (.cells #[x, y] t)).cell? ((⟨w.heap.size, 0, none⟩ : Addr).add j) = some u := by
  intro j u hj
  rw [show (⟨w.heap.size, 0, none⟩ : Addr).add j = ⟨w.heap.size, 0 + j, none⟩ from by unfold Addr.add; split <;> simp_all, Nat.zero_add, cell_new_row]
  match j, hj with
  | 0, h => cases h; rfl
  | 1, h => cases h; rfl
  | j + 2, h => simp at h
/-- One more is kept. -/
theorem JI.keep {w : World} {Br Bk k t : Nat} {l : List (Int × List Nat)} {bd : List Nat} {v kv' : Value} {wr W : World} {ys : List KX} {vb u : Value} (h : JI w Br Bk l k v wr) (hx : l[k]? = some ((t : Int), bd)) (hz : writeE (t : Int) bd = 0) (hs : bd.length ≤ 500) (hne : Br ≠ Bk)
    {v' : Value} (hres : Boxed W Br 4 (.bool false)) (hall : W.ownsRow w.heap.size 5 1 v' ((joinF (keepF (l.take k))).length + (frameL t bd).length) ((joinF (keepF (l.take k))).map encY ++ (frameL t bd).map encY))
    (hk : Boxed W Bk 104 u) (hys : ys.map Prod.fst = keepF (l.take k)) (hkept : W.ownsRow w.heap.size 82 2 kv' (ys.length + 1) (cellsK ys ++ [.int .i64 t, vb])) (hS : ∀ y ∈ ys, Sl encY w.heap.size w y.2 y.1.2) (hSb : Sl encY w.heap.size w vb bd) (hb : Below w.heap.size w W) (hBk : w.heap.size ≤ Bk) :
    JI w Br Bk l (k + 1) v' (W.setCell ⟨Bk, 0, none⟩ kv') := by
  have e : keepF (l.take (k + 1)) = keepF (l.take k) ++ [(t, bd)] := by rw [take_one _ _ _ hx, keepF_snoc, if_pos hz]; rfl
  refine ⟨hres.other hne _, ?_, ⟨kv', ys ++ [((t, bd), vb)], hk.set _, ?_, by rw [List.map_append, hys, e]; rfl, fun y hy => ?_⟩, hb.setCell (p := ⟨Bk, 0, none⟩) hBk _, fun y hy => ?_⟩
  · rw [e, joinF_snoc, List.length_append, List.map_append]
    exact own_set hall hk (by decide)
  · rw [cellsK_snoc, List.length_append]
    exact own_set hkept hk (by decide)
  · rcases List.mem_append.1 hy with hy | hy
    · exact hS y hy
    · simp at hy; subst hy; exact hSb
  · rw [take_one _ _ _ hx] at hy
    rcases List.mem_append.1 hy with hy | hy
    · exact h.short y hy
    · simp at hy; subst hy; exact hs
def joI (w8 : World) (pre : List FX) (W : World) : Prop := Boxed W w8.heap.size 3 (.int .i64 (pre.length : Nat)) ∧ Below w8.heap.size w8 W
theorem joI_own {w8 : World} {B : Nat} (hB : w8.heap.size < B) : OwnFrom B (joI w8) := fun s W W' row ⟨h1, h2⟩ hg hr =>
  ⟨h1.kept hg (fun e => by have := (hr _ e.symm).1; omega), ownFrom_below (β := Unit) (Nat.le_refl _) (show w8.heap.size ≤ B by omega) () W W' row h2 hg hr⟩
def joA (A : Act) (z : Nat) (x : FX) (a' : Act) (W : World) : Prop :=
  ∃ Bx va vc, z ≤ Bx ∧ x.2 = .slice va x.1.2.2.length vc ∧ FrameAt W Bx x ∧ Sl encY W.heap.size W x.2 x.1.2.2 ∧ a' = { tmps := ((A.tmps.setIfInBounds 71 (.int .i64 x.1.1)).setIfInBounds 72 (.agg #[.int .i64 x.1.2.1, x.2])).setIfInBounds 16 (.pointer (some ⟨Bx, 0, none⟩)), defers := [] }
theorem Sl.putObj {W : World} {l n : Nat} {o : Obj} {r : Loop} {v : Value} {xs : List Nat} (h : Sl encY n W v xs) (hl : W.heap[l]? = some (.loop r)) : Sl encY n (W.putObj l o) v xs := by
  rcases h with h | ⟨b, off, cap, e, hb, hcap, hc⟩
  · exact .inl h
  · refine .inr ⟨b, off, cap, e, hb, hcap, fun j x hj => ?_⟩
    have hne : b ≠ l := by
      rintro rfl
      have := hc j x hj
      simp [World.cell?, hl] at this
    exact (World.cell?_of_block (a := ⟨b, off + j, none⟩) (World.putObj_heap_other hne)).trans (hc j x hj)
/-- Which frame comes next. -/
theorem next_pos {ks : List (Nat × List Nat)} {pre : List FX} {x : FX} (h : (pre ++ [x]).map Prod.fst <+: posF 0 ks) : pre.length < ks.length ∧ ks[pre.length]? = some x.1.2 := by
  have h1 : (pre ++ [x]).map (fun y => y.1.2) <+: ks := by
    have := h.map Prod.snd
    rw [posF_map, List.map_map] at this
    exact this
  obtain ⟨t, ht⟩ := h1
  have hl : pre.length < ks.length := by
    have := congrArg List.length ht
    simp at this; omega
  refine ⟨hl, ?_⟩
  rw [← ht, List.map_append, List.append_assoc, List.getElem?_append_right (by simp), List.length_map, Nat.sub_self]
  rfl
theorem own_cell {A : World} {base e s n i : Nat} {a : Option Addr} {c : Nat} {xs : List Value} {u : Value} (h : A.ownsRow base e s (.slice a n c) n xs) (hu : xs[i]? = some u) : ∃ g, a = some ⟨g, 0, none⟩ ∧ A.cell? ⟨g, i, none⟩ = some u := by
  rcases h.2 with ⟨e0, h0⟩ | ⟨g, cap, cur, e0, _, hgb, hn, _, hs, ht⟩
  · have := h.1
    subst h0
    simp at this
    rw [this] at hu; simp at hu
  · cases e0
    refine ⟨g, rfl, ?_⟩
    rw [← ht, List.getElem?_take] at hu
    split at hu
    · simp only [World.cell?, hgb]
      simpa using hu
    · cases hu
end Go.Proofs.Ytpllbojmonfeiaa
