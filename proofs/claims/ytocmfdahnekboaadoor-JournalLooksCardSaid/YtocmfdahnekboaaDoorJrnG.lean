/- journal.begin: the frames that a region begins with. -/
import Derived.Test.YtocmfdahnekboaaDoorJrnD
import Derived.Test.YtocmfdahnekboaaDoorJrnN
import Derived.Test.YtocmfdahnekboaaDoorFrameJ
import Derived.StillTailTactics
import Derived.BigQuiet
import Derived.Deep.QuietTactic
namespace Go.Proofs.YtocmfdahnekboaaDoor
open Go.RowKit Go.Shelf
set_option linter.unusedVariables false
attribute [local go_sem] Oper.semAt_some

/-- The frames that a region begins with. -/
def beginFs (age : Nat) (snap : List Nat) : List (Nat × List Nat) := (1, headB age snap.length) :: ((chunksL snap).map (fun c => (2, c)) ++ [(3, [])])
/-- Frames appended one by one. -/
def appsS (D : DevS) (i : Int) : List (Nat × List Nat) → DevS × Int
  | [] => (D, 0)
  | f :: fs => if (appS D i (frameL f.1 f.2)).2 ≠ 0 then appS D i (frameL f.1 f.2) else appsS (appS D i (frameL f.1 f.2)).1 i fs
/-- A slice of frames in a box, beside the boxes of slices.Chunk; what it holds lay at w2 already. -/
structure BegI (own : List Nat) (w2 : World) (X B1 B2 : Nat) (fs : List (Nat × List Nat)) (W : World) : Prop where
  has : ∃ v ys, Boxed W X 92 v ∧ W.ownsRow w2.heap.size 66 2 v ys.length (cellsK ys) ∧ ys.map Prod.fst = fs ∧ ∀ y ∈ ys, Sl encY w2.heap.size w2 y.2 y.1.2 ∧ Off own y.2
  b1 : ∃ u, Boxed W B1 22 u
  b2 : ∃ u, Boxed W B2 3 u
  below : Below w2.heap.size w2 W
theorem own_soft {W W' : World} {row : Option Nat} {B e s n : Nat} {v : Value} {xs : List Value} (h : W.ownsRow B e s v n xs) (hg : W.grownBy W' row) (hr : ∀ r, row = some r → ∃ o : Obj, W.heap[r]? = some o ∧ o.isCells = false) : W'.ownsRow B e s v n xs := by
  refine own_grown h hg fun g hg0 e => ?_
  obtain ⟨o, ho, hc⟩ := hr g e
  obtain ⟨_, cur, hcur⟩ := own_at h hg0
  rw [hcur] at ho; cases ho; cases hc
theorem sl_back {n : Nat} {A W : World} {sv : Value} {l : List Nat} (h : Sl encY W.heap.size W sv l) (hb : Below n A W) (hlow : ∀ ad m c, sv = .slice (some ad) m c → ad.block < n) : Sl encY n A sv l := by
  rcases h with h | ⟨b, off, cap, e, _, hcap, hc⟩
  · exact .inl h
  · have hbn := hlow _ _ _ e
    exact .inr ⟨b, off, cap, e, hbn, hcap, fun j x hj => (World.cell?_of_block (a := ⟨b, off + j, none⟩) (hb.block b hbn)).symm.trans (hc j x hj)⟩
theorem BegI.own {own : List Nat} {w2 : World} {X B1 B2 B : Nat} (hX : X < B) (h1 : B1 < B) (h2 : B2 < B) (hw : w2.heap.size ≤ B) {fs0 : List (Nat × List Nat)} : OwnFrom B (fun (pre : List CX) W => BegI own w2 X B1 B2 (fs0 ++ pre.map (fun x => (2, x.1))) W) := fun pre W W' row ⟨⟨v, ys, g1, g2, g3, g4⟩, ⟨u1, k1⟩, ⟨u2, k2⟩, hb⟩ hg hr =>
  ⟨⟨v, ys, g1.kept hg (fun e => by have := (hr _ e.symm).1; omega), own_soft g2 hg (fun r e => (hr r e).2), g3, g4⟩, ⟨u1, k1.kept hg (fun e => by have := (hr _ e.symm).1; omega)⟩, ⟨u2, k2.kept hg (fun e => by have := (hr _ e.symm).1; omega)⟩, ownFrom_below (β := Unit) (Nat.le_refl _) hw () W W' row hb hg hr⟩
theorem BegI.set {own : List Nat} {w2 : World} {X B1 B2 r : Nat} {fs : List (Nat × List Nat)} {W : World} (h : BegI own w2 X B1 B2 fs W) (hr : r = B1 ∨ r = B2) (hX1 : X ≠ B1) (hX2 : X ≠ B2) (h12 : B1 ≠ B2) (hw1 : w2.heap.size ≤ B1) (hw2 : w2.heap.size ≤ B2) (u : Value) : BegI own w2 X B1 B2 fs (W.setCell ⟨r, 0, none⟩ u) := by
  obtain ⟨⟨v, ys, g1, g2, g3, g4⟩, ⟨u1, k1⟩, ⟨u2, k2⟩, hb⟩ := h
  rcases hr with rfl | rfl
  · exact ⟨⟨v, ys, g1.other hX1 u, own_set g2 k1 (by decide), g3, g4⟩, ⟨u, k1.set u⟩, ⟨u2, k2.other (Ne.symm h12) u⟩, hb.setCell (p := ⟨r, 0, none⟩) hw1 u⟩
  · exact ⟨⟨v, ys, g1.other hX2 u, own_set g2 k2 (by decide), g3, g4⟩, ⟨u1, k1.other h12 u⟩, ⟨u, k2.set u⟩, hb.setCell (p := ⟨r, 0, none⟩) hw2 u⟩
theorem own_one2 (w : World) (x y : Value) (t : TypeId) : (w.alloc (.cells #[x, y] t)).ownsRow w.heap.size t 2 (.slice (some ⟨w.heap.size, 0, none⟩) 1 1) 1 [x, y] :=
  ⟨rfl, .inr ⟨w.heap.size, 1, #[x, y], rfl, Nat.le_refl _, World.alloc_heap_new w _, Nat.le_refl _, by decide, rfl, rfl⟩⟩
/-- One frame more. -/
theorem BegI.step {own : List Nat} {w2 W w1 : World} {X B1 B2 k : Nat} {fs : List (Nat × List Nat)} {v v' u u1 u2 : Value} {ys : List KX} {bd : List Nat} {o : Obj} (hb : Below w2.heap.size w2 W) (h1 : Boxed W X 92 v) (h2 : W.ownsRow w2.heap.size 66 2 v ys.length (cellsK ys)) (h3 : ys.map Prod.fst = fs) (h4 : ∀ y ∈ ys, Sl encY w2.heap.size w2 y.2 y.1.2 ∧ Off own y.2)
    (k1 : Boxed W B1 22 u1) (k2 : Boxed W B2 3 u2) (hX1 : X ≠ B1) (hX2 : X ≠ B2) (hX : w2.heap.size ≤ X) (hS : Sl encY w2.heap.size w2 u bd ∧ Off own u) (hown : w1.ownsRow w2.heap.size 66 2 v' (ys.length + 1) (cellsK ys ++ [.int .i64 (k : Nat), u])) (hg : (W.alloc o).grownBy w1 v.ownBlock) :
    Boxed w1 X 92 v ∧ BegI own w2 X B1 B2 (fs ++ [(k, bd)]) (w1.setCell ⟨X, 0, none⟩ v') ∧ But (X :: v.ownBlock.toList) W (w1.setCell ⟨X, 0, none⟩ v') ∧ (v.ownBlock ≠ some B1 ∧ v.ownBlock ≠ some B2) := by
  have hnb : v.ownBlock ≠ some X := own_box h2 h1 (by decide)
  have hn1 : v.ownBlock ≠ some B1 := own_box h2 k1 (by decide)
  have hn2 : v.ownBlock ≠ some B2 := own_box h2 k2 (by decide)
  have hb1 : Boxed w1 X 92 v := boxed_grown (h1.alloc _) hg hnb
  have hA : Below w2.heap.size w2 (W.alloc o) := hb.alloc hb.size _
  refine ⟨hb1, ⟨⟨v', ys ++ [((k, bd), u)], hb1.set _, ?_, by rw [List.map_append, h3]; rfl, fun y hy => ?_⟩, ⟨u1, (boxed_grown (k1.alloc _) hg hn1).other (Ne.symm hX1) _⟩, ⟨u2, (boxed_grown (k2.alloc _) hg hn2).other (Ne.symm hX2) _⟩, ?_⟩, ?_, hn1, hn2⟩
  · rw [cellsK_snoc, List.length_append]
    exact own_set hown hb1 (by decide)
  · rcases List.mem_append.1 hy with hy | hy
    · exact h4 y hy
    · simp at hy; subst hy; exact hS
  · exact (hA.grown hg hA.size (fun j hj => (own_at h2 hj).1)).setCell (p := ⟨X, 0, none⟩) hX _
  · have hAl : But (X :: v.ownBlock.toList) W (W.alloc o) := But.of_below ((Below.refl _ _).alloc (Nat.le_refl _) _)
    exact (hAl.grown hg (fun g e => by rw [e]; simp)).set (by simp) _
theorem off_newJ {W W0 : World} {e s n : Nat} {v : Value} {xs : List Value} (h : W.ownsRow W0.heap.size e s v n xs) (own : List Nat) (ho : ∀ k ∈ own, k < W0.heap.size) : Off own v := fun ad m c e h0 hk => by
  have hg := World.ownsRow.lt h ad.block (by rw [e]; rfl)
  have := ho _ hk
  omega
theorem own_butG {own : List Nat} {W W' : World} {B e s n : Nat} {v : Value} {xs : List Value} (h : W.ownsRow B e s v n xs) (hb : But own W W') (hn : ∀ g, v.ownBlock = some g → g ∉ own) : W'.ownsRow B e s v n xs := by
  obtain ⟨h1, h2⟩ := h
  refine ⟨h1, ?_⟩
  rcases h2 with h2 | ⟨g, cap, cur, hv, hg, hh, r⟩
  · exact .inl h2
  · exact .inr ⟨g, cap, cur, hv, hg, (hb.block g (Array.getElem?_eq_some_iff.1 hh).1 (hn g (by rw [hv]; rfl))).trans hh, r⟩
theorem appsS_pre (i : Int) : ∀ (pre rest : List (Nat × List Nat)) (D D' : DevS), appsS D i pre = (D', 0) → appsS D i (pre ++ rest) = appsS D' i rest
  | [], rest, D, D', h => by simp only [appsS, Prod.mk.injEq] at h; rw [h.1]; rfl
  | f :: pre, rest, D, D', h => by
    simp only [appsS] at h
    split at h
    · rename_i hne
      exact absurd (by rw [h]) hne
    · rename_i hz
      show (if _ then _ else _) = _
      rw [if_neg hz]
      exact appsS_pre i pre rest _ D' h
theorem appsS_one {i : Int} {f : Nat × List Nat} {rest : List (Nat × List Nat)} {D : DevS} : appsS D i (f :: rest) = if (appS D i (frameL f.1 f.2)).2 ≠ 0 then appS D i (frameL f.1 f.2) else appsS (appS D i (frameL f.1 f.2)).1 i rest := rfl
theorem chunk_mem {l : List Nat} {c : List Nat} (h : c ∈ chunksL l) : c.length ≤ 4096 ∧ ∀ x ∈ c, x ∈ l := by
  unfold chunksL at h
  obtain ⟨i, _, rfl⟩ := List.mem_map.1 h
  exact ⟨by rw [chunkAt_len]; omega, fun x hx => List.mem_of_mem_drop (List.mem_of_mem_take hx)⟩
theorem headB_bytes (age n : Nat) : ∀ x ∈ headB age n, x < 256 := fun x hx => by
  rcases List.mem_append.1 hx with h | h
  · exact uv_byte _ x h
  · exact uv_byte _ x h
theorem beginFs_ok (age : Nat) (ha : age < 18446744073709551616) (snap : List Nat) (hs : ∀ x ∈ snap, x < 256) (hl : snap.length ≤ 1048576) : ∀ f ∈ beginFs age snap, 1 ≤ f.1 ∧ f.1 ≤ 3 ∧ f.2.length ≤ 4096 ∧ ∀ x ∈ f.2, x < 256 := by
  intro f hf
  rcases List.mem_cons.1 hf with rfl | hf
  · exact ⟨Nat.le_refl 1, by show 1 ≤ 3; decide, by have := headB_len age snap.length ha (by omega); show (headB age snap.length).length ≤ 4096; omega, headB_bytes _ _⟩
  · rcases List.mem_append.1 hf with hf | hf
    · obtain ⟨c, hc, rfl⟩ := List.mem_map.1 hf
      obtain ⟨h1, h2⟩ := chunk_mem hc
      exact ⟨by show 1 ≤ 2; decide, by show 2 ≤ 3; decide, h1, fun x hx => hs x (h2 x hx)⟩
    · simp at hf; subst hf
      exact ⟨by decide, by decide, by simp, fun x hx => by cases hx⟩
theorem But.putObj {W : World} {k : Nat} {o : Obj} : But [k] W (W.putObj k o) := by
  have hg := grownBy_putObj' W k o
  exact ⟨hg.os, hg.tape, hg.output, hg.size, fun j hj hn => hg.block j hj (fun e => by cases e; simp at hn)⟩
/-- While frames are appended. -/
structure AppI (own : List Nat) (w7 : World) (b : Nat) (D : DevS) (i : Int) (fs : List (Nat × List Nat)) (k : Nat) (wr : World) : Prop where
  has : ∃ own' Dk x y, Dev own' wr b Dk x y ∧ (∀ g ∈ own', g ∈ own ∨ w7.heap.size ≤ g) ∧ appsS D i (fs.take k) = (Dk, 0)
  but : But own w7 wr
end Go.Proofs.YtocmfdahnekboaaDoor

/- journal.begin. -/
namespace Go.Proofs.YtocmfdahnekboaaDoor
open Go.RowKit Go.Shelf
set_option linter.unusedVariables false
attribute [local go_sem] Oper.semAt_some

/-- A journal at block jb, on the device at b. -/
def JrnAt (W : World) (jb b : Nat) (region : Int) (age cnt fin : Nat) : Prop := W.heap[jb]? = some (.cells #[.pointer (some ⟨b, 0, none⟩), .int .i64 region, .int .u64 (age : Nat), .int .i64 (cnt : Nat), .int .i64 (fin : Nat)] 71 (0, 0))
theorem JrnAt.lt {W : World} {jb b : Nat} {region : Int} {age cnt fin : Nat} (h : JrnAt W jb b region age cnt fin) : jb < W.heap.size := (Array.getElem?_eq_some_iff.1 h).1
theorem JrnAt.but {W W' : World} {own : List Nat} {jb b : Nat} {region : Int} {age cnt fin : Nat} (h : JrnAt W jb b region age cnt fin) (hb : But own W W') (hn : jb ∉ own) : JrnAt W' jb b region age cnt fin := (hb.block jb h.lt hn).trans h
/-- What begin comes to. -/
def BeginTo (own : List Nat) (w : World) (jb b : Nat) (D : DevS) (i : Int) (age : Nat) (snap : List Nat) (r0 : Int) (a0 c0 f0 : Nat) (e : Ending) (w' : World) : Prop :=
  e = .returned (.int .i64 (appsS D i (beginFs age snap)).2) ∧ ∃ own' x y, Dev own' w' b (appsS D i (beginFs age snap)).1 x y ∧ But (jb :: own) w w' ∧ (∀ k ∈ own', k ∈ own ∨ w.heap.size ≤ k) ∧
    ((appsS D i (beginFs age snap)).2 = 0 → JrnAt w' jb b i age 0 (heavyN age snap.length)) ∧ ((appsS D i (beginFs age snap)).2 ≠ 0 → JrnAt w' jb b r0 a0 c0 f0)

theorem begin_end {own own2 : List Nat} {w U : World} {jb b DB : Nat} {D D2 : DevS} {i er r0 : Int} {age a0 c0 f0 : Nat} {snap : List Nat} {x2 y2 : Value} (hRR : appsS D i (beginFs age snap) = (D2, er)) (dev : Dev own2 U b D2 x2 y2) (hs : ∀ g ∈ own2, g ∈ own ∨ w.heap.size ≤ g) (hDB : DB ∉ own2) (hDBw : w.heap.size ≤ DB) (hb : But (jb :: own) w U) (hjD : jb ≠ DB)
    (j0 : er = 0 → JrnAt U jb b i age 0 (heavyN age snap.length)) (j1 : er ≠ 0 → JrnAt U jb b r0 a0 c0 f0) : ∀ e : Ending, e = .returned (.int .i64 er) → BeginTo own w jb b D i age snap r0 a0 c0 f0 e (U.putObj DB (.deferred none)) := by
  rintro e rfl
  have hp : But [DB] U (U.putObj DB (.deferred none)) := But.putObj
  unfold BeginTo
  rw [hRR]
  refine ⟨rfl, own2, x2, y2, dev.but hp (fun k hk hk2 => by simp at hk2; subst hk2; exact hDB hk), hb.trans hp (fun k hk => by simp at hk; subst hk; exact .inr hDBw), hs, fun h => (j0 h).but hp (by simp; exact hjD), fun h => (j1 h).but hp (by simp; exact hjD)⟩
theorem jrn_put {W : World} {jb b : Nat} {region i : Int} {a0 c0 f0 age hv : Nat} (h : JrnAt W jb b region a0 c0 f0) : JrnAt ((((W.setCell ⟨jb, 1, none⟩ (.int .i64 i)).setCell ⟨jb, 2, none⟩ (.int .u64 (age : Nat))).setCell ⟨jb, 3, none⟩ (.int .i64 0)).setCell ⟨jb, 4, none⟩ (.int .i64 (hv : Nat))) jb b i age 0 hv ∧
    But [jb] W ((((W.setCell ⟨jb, 1, none⟩ (.int .i64 i)).setCell ⟨jb, 2, none⟩ (.int .u64 (age : Nat))).setCell ⟨jb, 3, none⟩ (.int .i64 0)).setCell ⟨jb, 4, none⟩ (.int .i64 (hv : Nat))) :=
  ⟨heap_setCell_same _ jb 4 _ _ _ (heap_setCell_same _ jb 3 _ _ _ (heap_setCell_same _ jb 2 _ _ _ (heap_setCell_same W jb 1 _ _ _ h))), ((((But.refl _ _).set (by simp) _).set (by simp) _).set (by simp) _).set (by simp) _⟩

set_option maxRecDepth 100000 in
set_option maxHeartbeats 16000000 in
theorem begin_any {own : List Nat} {b : Nat} {D : DevS} {v0 v1 : Value} (jb : Nat) (i : Int) (age : Nat) (ha : age < 18446744073709551616) (sp : Option Addr) (sc : Nat) (snap : List Nat) (hsb : Bytes snap) (hsl : snap.length ≤ 1048576) (r0 : Int) (a0 c0 f0 : Nat) (w : World)
    (hD : Dev own w b D v0 v1) (hJ : JrnAt w jb b r0 a0 c0 f0) (hjo : jb ∉ own) (hS : Sl encY w.heap.size w (.slice sp snap.length sc) snap) (ho : Off own (.slice sp snap.length sc)) :
    Calls Tryd.prog 38 #[.pointer (some ⟨jb, 0, none⟩), .int .i64 i, .int .u64 (age : Nat), .slice sp snap.length sc] w (BeginTo own w jb b D i age snap r0 a0 c0 f0) := by
  have HS := Lib.hid hS
  have HSB := Lib.hid hsb
  have HO := Lib.hid ho
  have HH := Lib.hid (headOf_any age snap.length ha (by omega) w)
  have hhl := headB_len age snap.length ha (by omega)
  obtain ⟨n, hn⟩ : ∃ n, snap.length = n := ⟨_, rfl⟩
  have HN := Lib.hid hn
  obtain ⟨hl, hhL⟩ : ∃ hl, (headB age snap.length).length = hl := ⟨_, rfl⟩
  have HHL := Lib.hid hhL
  rw [hhL] at HH hhl
  rw [hn] at HS HO hsl ⊢
  rw [hn] at HH
  have HD := Lib.hid hD
  have HJ := Lib.hid hJ
  have HJO := Lib.hid hjo
  have hjl := hJ.lt
  clear hS hsb ho hn hhL hD hJ hjo
  have hz := zframe
  obtain ⟨i1, hi1, hy0, hy1, hy2⟩ := info_parts infoF
  refine (callsIn_wide (n := 3)).1 ?_
  refine callsIn_of_wp_marks Tryd.func38 rfl trivial ?_ rfl
  simp only [Tryd.ntmps38, List.size_toArray, List.length_cons, List.length_nil, Nat.reduceAdd, Nat.reduceSub, Array.replicate_succ, Array.replicate_zero, List.push_toArray, List.append_toArray, List.nil_append, List.cons_append]
  refine wpIn_wide.2 ?_
  go_wp2_with fail
  refine HH.out.mono ?_
  rintro e w2 ⟨r, rfl, hr, hb2⟩
  obtain ⟨rp, rc, hrf⟩ := own_form hr
  subst hrf
  have HR := Lib.hid hr
  have HB2 := Lib.hid hb2
  clear hr hb2 HH
  go_wp2_with fail
  refine (chunk_any _ _ _ _).mono ?_
  rintro e w4 ⟨rfl, hw4⟩
  simp only [World.size_alloc] at hw4 ⊢
  have z4 : w4.heap.size = w2.heap.size + 1 + 1 + 1 + 1 := by rw [hw4]; simp
  have hb24 : Below w2.heap.size w2 w4 := by
    rw [hw4]
    exact ((((Below.refl _ w2).alloc (Nat.le_refl _) _).alloc (by simp) _).alloc (by simp; omega) _).alloc (by simp; omega) _
  have hX4 : Boxed w4 (w2.heap.size + 1) 92 (.slice (some ⟨w2.heap.size, 0, none⟩) 1 1) := by
    rw [hw4]
    have := Boxed.new (w2.alloc (.cells #[.int .i64 1, .slice rp hl rc] 66)) 92 (.slice (some ⟨w2.heap.size, 0, none⟩) 1 1)
    rw [World.size_alloc] at this
    exact (this.alloc _).alloc _
  have hB1 : Boxed w4 (w2.heap.size + 1 + 1) 22 (.slice sp n sc) := by
    rw [hw4]
    have := Boxed.new ((w2.alloc (.cells #[.int .i64 1, .slice rp hl rc] 66)).alloc (.cells #[.slice (some ⟨w2.heap.size, 0, none⟩) 1 1] 92)) 22 (.slice sp n sc)
    simp only [World.size_alloc] at this
    exact this.alloc _
  have hB2 : Boxed w4 (w2.heap.size + 1 + 1 + 1) 3 (.int .i64 4096) := by
    rw [hw4]
    have := Boxed.new (((w2.alloc (.cells #[.int .i64 1, .slice rp hl rc] 66)).alloc (.cells #[.slice (some ⟨w2.heap.size, 0, none⟩) 1 1] 92)).alloc (.cells #[.slice sp n sc] 22)) 3 (.int .i64 4096)
    simp only [World.size_alloc] at this
    exact this
  have hrow4 : w4.ownsRow w2.heap.size 66 2 (.slice (some ⟨w2.heap.size, 0, none⟩) 1 1) 1 [.int .i64 1, .slice rp hl rc] := by
    have := own_one2 w2 (.int .i64 1) (.slice rp hl rc) 66
    rw [hw4]
    exact own_below (K := w2.heap.size + 1) this ((((Below.refl _ _).alloc (by simp) _).alloc (by simp) _).alloc (by simp) _) (by simp)
  have hSr2 : Sl encY w2.heap.size w2 (.slice rp hl rc) (headB age snap.length) := Sl.of_owns (by rw [HHL.out]; rw [← HN.out] at HR; exact HR.out)
  have hI0 : BegI own w2 (w2.heap.size + 1) (w2.heap.size + 1 + 1) (w2.heap.size + 1 + 1 + 1) ([(1, headB age snap.length)] ++ ([] : List CX).map (fun x => (2, x.1))) w4 :=
    ⟨⟨_, [((1, headB age snap.length), .slice rp hl rc)], hX4, hrow4, rfl, fun y hy => by simp at hy; subst hy; exact ⟨hSr2, off_newJ (W0 := w) HR.out own HD.out.lt⟩⟩, ⟨_, hB1⟩, ⟨_, hB2⟩, hb24⟩
  have hS4 : Sl encY w4.heap.size w4 (.slice sp n sc) snap := (HS.out.below (HB2.out.trans (hb24.mono HB2.out.size))).mono (Nat.le_trans HB2.out.size hb24.size)
  have hw2 := HB2.out.size
  have hkv : KeptV w2.heap.size [w2.heap.size + 1 + 1, w2.heap.size + 1 + 1 + 1] (.slice sp n sc) := fun ad m c' e h0 => by
    left
    rcases HS.out with ⟨rfl, a', c'', e', _⟩ | ⟨b', off', cap, e', hb', _⟩
    · rw [e] at e'; cases e'; omega
    · rw [e] at e'; cases e'; show b' < _; omega
  have HI0 := Lib.hid hI0
  have HB24 := Lib.hid hb24
  have cB1 := hB1.cell
  have cB2 := hB2.cell
  clear hI0 hb24 hX4 hB1 hB2 hrow4 hSr2 hw4
  go_wp2_with fail
  rename_i K' hKQ
  refine (wpIn_wide (n := 3)).1 ?_
  refine wpIn_act ?_
  intro A hA
  refine rangeR rfl (by omega) (gf := 65) (lb := #[.pointer (some ⟨w2.heap.size + 1 + 1, 0, none⟩), .pointer (some ⟨w2.heap.size + 1 + 1 + 1, 0, none⟩)]) (by rw [hA]; rfl) trivial (enters_of Tryd.func65 (by kernel_rfl) rfl)
    (chunk1 (w2.heap.size + 1 + 1) (w2.heap.size + 1 + 1 + 1) w2.heap.size [w2.heap.size + 1 + 1, w2.heap.size + 1 + 1 + 1] snap (by rw [HN.out]; exact hsl) sp n sc w4 (by omega) (fun k hk => by simp at hk; omega) (.inr (by simp)) (.inr (by simp)) hkv cB1 cB2 hS4)
    (fun x W l o r hl' ⟨h1, h2⟩ => ⟨by have := sl_putO (o := o) h1 hl'; simpa using this, h2⟩) (fun r h => by simp at h; omega) (by omega) (Below.refl _ _) (fun _ => rfl)
    (fun pre W => BegI own w2 (w2.heap.size + 1) (w2.heap.size + 1 + 1) (w2.heap.size + 1 + 1 + 1) ([(1, headB age snap.length)] ++ pre.map (fun x => (2, x.1))) W) (fun _ _ _ => False)
    (BegI.own (by omega) (by omega) (by omega) (by omega)) (fun _ _ _ _ _ h _ _ => h) (fun pre W r v hr h => BegI.set h (by simpa using hr) (by omega) (by omega) (by omega) (by omega) (by omega) v) (fun _ _ _ _ _ _ h => h)
    HI0.out (fun x => { tmps := (A.tmps.setIfInBounds 24 x.2).setIfInBounds 10 x.2, defers := [] }) ?assign ?body ?done ?stop
  case assign =>
    rintro l x W K hK
    rw [hA] at hK ⊢
    gi_wp2
    exact hK
  case body =>
    rintro l pre ⟨ck, xv⟩ W hI hp hz5 ⟨hxS, hxb⟩
    obtain ⟨⟨v, ys, g1, g2, g3, g4⟩, ⟨u1, k1⟩, ⟨u2, k2⟩, hb⟩ := hI
    dsimp only at hxS hxb
    obtain ⟨xa, xc, hxv⟩ := hxS.form
    subst hxv
    have hpl : pre.length < piecesN n := by
      have h1 := hp.length_le
      unfold chunksL at h1
      rw [List.length_map, List.length_map, List.length_range, List.length_append, List.length_singleton, HN.out] at h1
      omega
    have hyl : ys.length = 1 + pre.length := by
      have h1 := congrArg List.length g3
      rw [List.length_map, List.length_append, List.length_map, List.length_singleton] at h1
      exact h1
    have hpn : piecesN n ≤ 300 := by unfold piecesN; split <;> omega
    have hSx0 : Sl encY w2.heap.size w2 (.slice xa ck.length xc) ck := sl_back hxS hb (fun ad m c' e => by
      obtain ⟨ad0, ha0, hbk⟩ := hxb ad m c' e
      rw [hbk]
      rcases HS.out with ⟨e0, a', c'', e', _⟩ | ⟨b', off', cap, e', hb', _⟩
      · have hn0 : snap.length = 0 := by rw [e0]; rfl
        have : piecesN n = 0 := by rw [← HN.out, hn0]; rfl
        omega
      · rw [ha0] at e'; cases e'; show b' < _; omega)
    have hSx : Sl encY w2.heap.size w2 (.slice xa ck.length xc) ck ∧ Off own (.slice xa ck.length xc) := ⟨hSx0, fun ad m c' e h0 hk => by
      obtain ⟨ad0, ha0, hbk⟩ := hxb ad m c' e
      have hn0 : 0 < n := by
        apply Decidable.byContradiction
        intro h
        have : piecesN n = 0 := by rw [show n = 0 from by omega]; rfl
        omega
      exact HO.out ad0 n sc (by rw [ha0]) hn0 (by rw [← hbk]; exact hk)⟩
    clear hSx0
    have c1 := g1.cell
    obtain ⟨y, hy⟩ : ∃ y, ys.length = y := ⟨_, rfl⟩
    obtain ⟨va, vc, hvf⟩ := own_form g2
    subst hvf
    obtain ⟨q, hq⟩ : ∃ q, ck.length = q := ⟨_, rfl⟩
    rw [hq] at hSx ⊢
    have HST := Lib.hid (fun (v' : Value) (w1 : World) (h1 : w1.ownsRow w2.heap.size 66 2 v' (ys.length + 1) (cellsK ys ++ [.int .i64 ((2 : Nat) : Int), .slice xa q xc])) (h2 : (W.alloc (.cells #[.int .i64 2, .slice xa q xc] 66)).grownBy w1 (Value.slice va ys.length vc).ownBlock) =>
      BegI.step hb g1 g2 g3 g4 k1 k2 (by omega) (by omega) (by omega) hSx h1 h2)
    have HRW := Lib.hid g2
    have HLT : Hid (w2.heap.size + 1 < W.heap.size ∧ w2.heap.size + 1 + 1 + 1 < W.heap.size ∧ ∀ g, (Value.slice va ys.length vc).ownBlock = some g → w2.heap.size ≤ g ∧ g < W.heap.size) := Lib.hid ⟨by omega, by omega, fun g hg => World.ownsRow.lt g2 g hg⟩
    have hyb : ys.length ≤ 400 := by omega
    rw [hy] at HST HRW HLT c1 hyb
    clear hp hxS hxb g1 g2 g3 g4 k1 k2 hb hSx hy hq hyl hpl
    rw [hA]
    gi_wp2_with (gi_at_builtin; refine wpListIn_append_own _ rfl _ _ 92 rfl w2.heap.size 66 i1 (.agg #[.int .i64 0, .slice none 0 0]) 2 32 Tryd.underlying92 hi1 hy0 hy1 hy2 rfl (by decide) _ _ _ rfl (HRW.out.alloc _) ⟨W.heap.size, 0, none⟩ 1 1 [.int .i64 2, .slice xa q xc] rfl rfl (new_cells2 _ _ _ _) (by intro u hu; simp at hu; rcases hu with rfl | rfl <;> rfl) (by unfold maxLen; omega) (by omega) (by have := HLT.out.1; simp; omega) ?_; intro v' w1 hown' hgrow _; obtain ⟨s1, s2, s3, s4⟩ := HST.out v' w1 hown' hgrow; obtain ⟨va', vc', hvf'⟩ := own_form hown'; subst hvf'; have hc1 := s1.cell; have hf1 := s1.frozen; have HS2 := Lib.hid s2; have HS3 := Lib.hid s3; have HS4 := Lib.hid s4; clear s1 s2 s3 s4 hown' hgrow HST)
    refine ⟨⟨HS3.out.size, fun k o hB hk hoc => (HS3.out.block k (Array.getElem?_eq_some_iff.1 hk).1 (fun hm => ?_)).trans hk⟩, ⟨HS3.out.below (n := w2.heap.size) (fun k hk => ?_) (by have := HLT.out.1; omega), fun k h1 h2 => by omega, fun k hk => HS3.out.block k (by have := HLT.out.2.1; simp at hk; omega) (fun hm => ?_)⟩, ?_⟩
    · rcases List.mem_cons.1 hm with h | h
      · omega
      · obtain ⟨_, cur, hcur⟩ := own_at HRW.out (by simpa using h)
        rw [hcur] at hk; cases hk; cases hoc
    · rcases List.mem_cons.1 hk with h | h
      · omega
      · exact (HLT.out.2.2 k (by simpa using h)).1
    · rcases List.mem_cons.1 hm with h | h
      · simp at hk; omega
      · have hg : (Value.slice va y vc).ownBlock = some k := by simpa using h
        have h1 := HS4.out.1
        have h2 := HS4.out.2
        rw [hg] at h1 h2
        simp at hk
        rcases hk with rfl | rfl
        · exact h1 rfl
        · exact h2 rfl
    · show BegI own w2 _ _ _ ([(1, headB age snap.length)] ++ (pre ++ [((ck, Value.slice xa q xc) : CX)]).map (fun x => (2, x.1))) _
      rw [List.map_append, ← List.append_assoc]
      exact HS2.out
  case done =>
    rintro DB zs W hDB hzs ⟨⟨v, ys, g1, g2, g3, g4⟩, _, _, hb⟩ hK
    have hfs : ys.map Prod.fst ++ [(3, [])] = beginFs age snap := by
      rw [g3]
      unfold beginFs
      have hz2 : zs.map Prod.fst = chunksL snap := hzs
      rw [← hz2, List.map_map]
      rfl
    have hyl : ys.length ≤ 400 := by
      have h1 := congrArg List.length hzs
      have h2 := congrArg List.length g3
      unfold chunksL at h1
      rw [List.length_map, List.length_map, List.length_range, HN.out] at h1
      rw [List.length_map, List.length_append, List.length_map, List.length_singleton] at h2
      have : piecesN n ≤ 300 := by unfold piecesN; split <;> omega
      omega
    have c1 := g1.cell
    have f1 := g1.frozen
    have hDl := (Array.getElem?_eq_some_iff.1 hK).1
    obtain ⟨va, vc, hvf⟩ := own_form g2
    subst hvf
    obtain ⟨y, hy⟩ : ∃ y, ys.length = y := ⟨_, rfl⟩
    have HFS := Lib.hid hfs
    have HY := Lib.hid hy
    have HG1 := Lib.hid g1
    have HG2 := Lib.hid g2
    have HG4 := Lib.hid g4
    have HB := Lib.hid hb
    have HKD := Lib.hid hK
    have hXW : w2.heap.size + 1 < W.heap.size := g1.lt
    rw [hy] at HG2 c1 hyl
    have HG1' := HG1
    rw [hy] at HG1
    clear hfs hy g1 g2 g3 g4 hb hK hzs HG1'
    rw [hA]
    refine hKQ _ _ ?_
    go_wp2_with (at_builtin; refine wpList_append_own _ rfl (.tmp 30) (.tmp 32) 92 rfl w2.heap.size 66 i1 (.agg #[.int .i64 0, .slice none 0 0]) 2 32 Tryd.underlying92 hi1 hy0 hy1 hy2 rfl (by decide) _ _ _ rfl (HG2.out.alloc _) ⟨W.heap.size, 0, none⟩ 1 1 [.int .i64 3, .slice none 0 0] rfl rfl (new_cells2 _ _ _ _) (by intro u hu; simp at hu; rcases hu with rfl | rfl <;> rfl) (by unfold maxLen; omega) (by omega) (by simp; omega) ?_)
    intro v' w6 hown6 hg6 _
    have hb16 : Boxed w6 (w2.heap.size + 1) 92 (.slice va y vc) := boxed_grown (HG1.out.alloc _) hg6 (own_box (HG2.out.alloc (.cells #[.int .i64 3, .slice none 0 0] 66)) (HG1.out.alloc _) (by decide))
    have hb6 : Below w2.heap.size w2 w6 := below_grown2 (HG2.out.alloc (.cells #[.int .i64 3, .slice none 0 0] 66)) (by simp; omega) (HB.out.alloc HB.out.size _) hg6
    have hDl6 : w6.heap[DB]? = some (.deferred (some [])) := (hg6.block DB (by simp; omega) (fun e => by
      obtain ⟨_, cur, hcur⟩ := own_at HG2.out e.symm
      rw [hcur] at HKD; cases HKD.out)).trans ((Below.heap_alloc _ _ _ hDl).trans HKD.out)
    obtain ⟨va7, vc7, hv7⟩ := own_form hown6
    subst hv7
    have c6 := hb16.cell
    have f6 := hb16.frozen
    obtain ⟨w7, hw7⟩ : ∃ w7, w6.setCell ⟨w2.heap.size + 1, 0, none⟩ (.slice va7 (y + 1) vc7) = w7 := ⟨_, rfl⟩
    have hX7 : Boxed w7 (w2.heap.size + 1) 92 (.slice va7 (y + 1) vc7) := by rw [← hw7]; exact hb16.set _
    have hR7 : w7.ownsRow w2.heap.size 66 2 (.slice va7 (y + 1) vc7) (y + 1) (cellsK (ys ++ [((3, []), .slice none 0 0)])) := by rw [← hw7, cellsK_snoc]; exact own_set hown6 hb16 (by decide)
    have hB7 : Below w2.heap.size w2 w7 := by rw [← hw7]; exact hb6.setCell (p := ⟨w2.heap.size + 1, 0, none⟩) (by show w2.heap.size ≤ w2.heap.size + 1; omega) _
    have hz7 : w7.heap.size = w6.heap.size := by rw [← hw7]; simp
    have hDB7 : w7.heap[DB]? = some (.deferred (some [])) := by rw [← hw7]; exact (Below.heap_setCell _ _ _ _ (by show DB ≠ w2.heap.size + 1; omega)).trans hDl6
    obtain ⟨ZS, hZS⟩ : ∃ ZS, ys ++ [((3, []), Value.slice none 0 0)] = ZS := ⟨_, rfl⟩
    have HZF : Hid (ZS.map Prod.fst = beginFs age snap) := Lib.hid (by rw [← hZS, List.map_append]; exact HFS.out)
    have HZL : Hid (ZS.length = y + 1) := Lib.hid (by rw [← hZS, List.length_append, HY.out]; rfl)
    have HZS : Hid (∀ z ∈ ZS, Sl encY w2.heap.size w2 z.2 z.1.2 ∧ Off own z.2) := Lib.hid (fun z hz => by
      rw [← hZS] at hz
      rcases List.mem_append.1 hz with h | h
      · exact HG4.out z h
      · simp at h; subst h; exact ⟨Sl.nil _ _ _, fun ad m c e => by cases e⟩)
    rw [hZS] at hR7
    have HW7 := Lib.hid hw7
    have HX7 := Lib.hid hX7
    have HR7 := Lib.hid hR7
    have HB7 := Lib.hid hB7
    have HDB7 := Lib.hid hDB7
    have HD7 := Lib.hid (HD.out.below (HB2.out.trans (hB7.mono HB2.out.size)))
    have HLTO := Lib.hid HD.out.lt
    have hw27 := hB7.size
    clear hown6 hg6 hb16 hb6 hDl6 hX7 hR7 hB7 hDB7 hZS HG1 HG2 HG4 HFS HB HKD hw7 hz7
    go_wp2_with fail
    rw [HW7.out]
    have HAPP0 : Hid (AppI own w7 b D i (ZS.map Prod.fst) 0 w7) := Lib.hid ⟨⟨own, D, v0, v1, HD7.out, fun g hg => .inl hg, rfl⟩, But.refl _ _⟩
    clear HW7
    go_loopw [36] (fun ix wr => ∃ k : Nat, k ≤ y + 1 ∧ ix = .int .i64 k ∧ AppI own w7 b D i (ZS.map Prod.fst) k wr) (fun ix _ => y + 1 - (intOf ix).toNat)
    case atStart => exact ⟨0, Nat.zero_le _, rfl, HAPP0.out⟩
    case round =>
      obtain ⟨k, hk, rfl, ⟨own', Dk, x', y', dk, hgk, hap⟩, hbk⟩ := hrel
      have hltk := dk.lt
      have hoz : ∀ g, (Value.slice va7 (y + 1) vc7).ownBlock = some g → g ∉ own := fun g hg hm => by
        have h1 := (World.ownsRow.lt HR7.out g hg).1
        have h2 := HLTO.out g hm
        omega
      have hRr := own_butG HR7.out hbk hoz
      have hJ7 : JrnAt w7 jb b r0 a0 c0 f0 := ((HB2.out.trans (HB7.out.mono hw2)).block jb hjl).trans HJ.out
      have hJr : JrnAt wr jb b r0 a0 c0 f0 := hJ7.but hbk HJO.out
      have hDBr : wr.heap[DB]? = some (.deferred (some [])) := (hbk.block DB (Array.getElem?_eq_some_iff.1 HDB7.out).1 (fun hm => by have := HLTO.out DB hm; omega)).trans HDB7.out
      by_cases hlt : k < y + 1
      · obtain ⟨⟨⟨kd, bd⟩, zv⟩, hzk⟩ : ∃ z, ZS[k]? = some z := ⟨_, List.getElem?_eq_getElem (by rw [HZL.out]; exact hlt)⟩
        obtain ⟨hzS, hzO⟩ := HZS.out _ (List.mem_of_getElem? hzk)
        obtain ⟨g1, g2⟩ := cellsK_get ZS k _ hzk
        dsimp only at hzS hzO g1 g2
        have hmem : (kd, bd) ∈ beginFs age snap := by rw [← HZF.out]; exact List.mem_map.2 ⟨_, List.mem_of_getElem? hzk, rfl⟩
        obtain ⟨hk1, hk3, hbl, hbb⟩ := beginFs_ok age ha snap HSB.out.2 (by rw [HN.out]; exact hsl) (kd, bd) hmem
        dsimp only at hk1 hk3 hbl hbb
        obtain ⟨za, zc, hzv⟩ := hzS.form
        subst hzv
        obtain ⟨gg, hva, e1⟩ := own_cell hRr g1
        subst hva
        obtain ⟨gg', hva, e2⟩ := own_cell hRr g2
        cases hva
        obtain ⟨q, hq⟩ : ∃ q, bd.length = q := ⟨_, rfl⟩
        rw [hq] at hzS hzO e2
        have hbA : Below wr.heap.size wr (wr.alloc (.cells #[.int .i64 (kd : Nat), .slice za q zc] 66)) := (Below.refl _ _).alloc (Nat.le_refl _) _
        obtain ⟨wA, hwA⟩ : ∃ wA, wr.alloc (.cells #[.int .i64 (kd : Nat), .slice za q zc] 66) = wA := ⟨_, rfl⟩
        rw [hwA] at hbA
        have hSr : Sl encY wr.heap.size wr (.slice za q zc) bd := ((hzS.below HB7.out).mono HB7.out.size).but hbk hzO
        have hSA : Sl encY wA.heap.size wA (.slice za q zc) bd := (hSr.below hbA).mono hbA.size
        have hE0 : writeE (kd : Int) bd = 0 := by unfold writeE; rw [if_neg (by omega), if_neg (by omega)]
        have hWR := write_new (kd : Int) za q zc bd ⟨by omega, hbb⟩ wA hSA
        rw [show writeL (kd : Int) bd = frameL kd bd from by unfold writeL; rw [if_pos hE0, Int.toNat_natCast], hE0] at hWR
        have hflen : (frameL kd bd).length = q + 7 := by rw [frame_len, hq]
        have hfb : ∀ x ∈ frameL kd bd, x < 256 := frame_bytes (by omega) (by omega) hbb
        obtain ⟨FL, hFL⟩ : ∃ FL, frameL kd bd = FL := ⟨_, rfl⟩
        rw [hFL] at hWR hflen hfb
        have hone : ∀ rest, appsS D i (((ZS.map Prod.fst).take k ++ (kd, bd) :: rest)) = if (appS Dk i FL).2 ≠ 0 then appS Dk i FL else appsS (appS Dk i FL).1 i rest := fun rest => by
          rw [appsS_pre i _ _ D Dk hap, appsS_one, show frameL (kd, bd).1 (kd, bd).2 = FL from hFL]
        have hsplit : ∃ rest, beginFs age snap = (ZS.map Prod.fst).take k ++ (kd, bd) :: rest := by
          refine ⟨(ZS.map Prod.fst).drop (k + 1), ?_⟩
          rw [← HZF.out]
          have hgk' : (ZS.map Prod.fst)[k]? = some (kd, bd) := by rw [List.getElem?_map, hzk]; rfl
          have hlk : k < (ZS.map Prod.fst).length := (List.getElem?_eq_some_iff.1 hgk').1
          rw [← (List.getElem?_eq_some_iff.1 hgk').2, ← List.drop_eq_getElem_cons hlk, List.take_append_drop]
        have htk : (ZS.map Prod.fst).take (k + 1) = (ZS.map Prod.fst).take k ++ [(kd, bd)] := by
          have hgk' : (ZS.map Prod.fst)[k]? = some (kd, bd) := by rw [List.getElem?_map, hzk]; rfl
          rw [List.take_add_one, hgk']; rfl
        have HWA := Lib.hid hwA
        have HBA := Lib.hid hbA
        have HWR := Lib.hid hWR
        have HONE := Lib.hid hone
        have HSP := Lib.hid hsplit
        have HTK := Lib.hid htk
        have HDK := Lib.hid dk
        have HGK := Lib.hid hgk
        have HBK := Lib.hid hbk
        have HJR := Lib.hid hJr
        have HDBR := Lib.hid hDBr
        have HFL := Lib.hid hflen
        have HFB := Lib.hid hfb
        have HLK := Lib.hid hltk
        have hki : (k : Int) < ((y : Nat) : Int) + 1 := by omega
        have hk0 : (0 : Int) ≤ k := by omega
        clear hzk hzS hzO g1 g2 hmem hbb hq hbA hwA hSr hSA hE0 hWR hflen hfb hFL hone hsplit htk dk hgk hap hbk hltk hoz hRr hJ7 hJr hDBr HAPP0
        go_wp2_with fail
        rw [HWA.out]
        refine HWR.out.mono ?_
        rintro e w9 ⟨v2, rfl, hv2, hb9⟩
        rw [HFL.out] at hv2
        obtain ⟨fa, fc, hf2⟩ := own_form hv2
        subst hf2
        have hS9 : Sl encY w9.heap.size w9 (.slice fa (q + 7) fc) FL := Sl.of_owns (by rw [HFL.out]; exact hv2)
        have hb0 : Below wr.heap.size wr w9 := HBA.out.trans (hb9.mono HBA.out.size)
        have hd9 := HDK.out.below hb0
        have ho9 : Off own' (.slice fa (q + 7) fc) := off_newJ (W0 := wA) hv2 own' (fun g hg => by have := HLK.out g hg; have := HBA.out.size; omega)
        have hJ9 : JrnAt w9 jb b r0 a0 c0 f0 := (hb0.block jb HJR.out.lt).trans HJR.out
        have j0 : w9.cell? ⟨jb, 0, none⟩ = some (.pointer (some ⟨b, 0, none⟩)) := cell_of_row w9 _ 0 _ _ _ hJ9
        have HAP := Lib.hid (app_any i fa (q + 7) fc FL HFB.out w9 hd9 hS9 ho9)
        have HJ9 := Lib.hid hJ9
        have HDB9 := Lib.hid ((hb0.block DB (Array.getElem?_eq_some_iff.1 HDBR.out).1).trans HDBR.out)
        have HB0 := Lib.hid hb0
        clear hv2 hb9 hS9 hb0 hd9 ho9 hJ9 HWA HWR HBA HDBR HJR HDK
        go_wp2_with fail
        refine HAP.out.mono ?_
        rintro e w10 ⟨rfl, own2, x2, y2, d2, b2, s2⟩
        obtain ⟨AP, hAP⟩ : ∃ AP, appS Dk i FL = AP := ⟨_, rfl⟩
        have HON2 : Hid (∀ rest, appsS D i ((ZS.map Prod.fst).take k ++ (kd, bd) :: rest) = if AP.2 ≠ 0 then AP else appsS AP.1 i rest) := Lib.hid (fun rest => by rw [← hAP]; exact HONE.out rest)
        rw [hAP] at d2 ⊢
        obtain ⟨D2, er⟩ := AP
        dsimp only at d2 HON2 ⊢
        have hg2 : ∀ g ∈ own2, g ∈ own ∨ w7.heap.size ≤ g := fun g hg => by
          rcases s2 g hg with h | h
          · exact HGK.out g h
          · exact .inr (by have := HBK.out.size; have := HB0.out.size; omega)
        have hbk2 : But own w7 w10 := (HBK.out.trans' (But.of_below HB0.out)).trans b2 (fun g hg => HGK.out g hg)
        have hJ10 : JrnAt w10 jb b r0 a0 c0 f0 := HJ9.out.but b2 (fun hm => by
          rcases HGK.out jb hm with h | h
          · exact HJO.out h
          · omega)
        have hDB10 : w10.heap[DB]? = some (.deferred (some [])) := (b2.block DB (Array.getElem?_eq_some_iff.1 HDB9.out).1 (fun hm => by
          rcases HGK.out DB hm with h | h
          · have := HLTO.out DB h; omega
          · have := (Array.getElem?_eq_some_iff.1 HDB7.out).1; omega)).trans HDB9.out
        have HD2 := Lib.hid d2
        have HG2 := Lib.hid hg2
        have HBK2 := Lib.hid hbk2
        have HJ10 := Lib.hid hJ10
        have HDB10 := Lib.hid hDB10
        have hDB7l := (Array.getElem?_eq_some_iff.1 HDB7.out).1
        clear d2 b2 s2 hg2 hbk2 hJ10 hDB10 hAP HAP HONE HJ9 HDB9 HB0 HBK HGK j0
        by_cases her : er = 0
        · subst her
          have hnx : AppI own w7 b D i (ZS.map Prod.fst) (k + 1) w10 := ⟨⟨own2, D2, x2, y2, HD2.out, HG2.out, by rw [HTK.out, HON2.out []]; exact if_neg (fun h => h rfl)⟩, HBK2.out⟩
          have HNX := Lib.hid hnx
          clear hnx
          go_wp2_with fail
          go_roundw
          case rel => first | exact ⟨k + 1, hlt, by go_num, HNX.out⟩ | ((repeat apply Exists.intro); exact ⟨⟨k + 1, hlt, by go_num, HNX.out⟩, rfl⟩)
          case measure => simp [intOf]; omega
        · have heri : (er != 0) = true := by rw [bne_iff_ne]; exact her
          have HRR : Hid (appsS D i (beginFs age snap) = (D2, er)) := Lib.hid (by
            obtain ⟨rest, hrest⟩ := HSP.out
            rw [hrest, HON2.out]
            exact if_pos her)
          have hbw : But (jb :: own) w w10 := ((But.of_below (HB2.out.trans (HB7.out.mono hw2))).more (own' := jb :: own) (fun g hg => .inl hg)).trans' (HBK2.out.more (own' := jb :: own) (fun g hg => .inl (List.mem_cons_of_mem _ hg)))
          have HBW := Lib.hid hbw
          have hw7w : w.heap.size ≤ w7.heap.size := Nat.le_trans hw2 HB7.out.size
          have HEND := Lib.hid (begin_end (jb := jb) (r0 := r0) (a0 := a0) (c0 := c0) (f0 := f0) HRR.out HD2.out (fun g hg => (HG2.out g hg).elim .inl (fun h => .inr (Nat.le_trans hw7w h))) (fun hm => by
            rcases HG2.out DB hm with h | h
            · have := HLTO.out DB h; omega
            · omega) (by omega) HBW.out (by omega) (fun h => absurd h her) (fun _ => HJ10.out))
          clear hbw
          go_wp2
          refine ⟨by simp, .inl ⟨_, _, rfl, run_takeDeferred HDB10.out, ?_⟩⟩
          exact ⟨_, results_tmp rfl _ _ _, HEND.out _ (by first | rfl | simp)⟩
      · obtain rfl : k = y + 1 := by omega
        have hki : ¬ (((y + 1 : Nat)) : Int) < ((y : Nat) : Int) + 1 := by omega
        have HRR : Hid (appsS D i (beginFs age snap) = (Dk, 0)) := Lib.hid (by
          rw [← HZF.out, ← hap, List.take_of_length_le (by rw [List.length_map, HZL.out]; exact Nat.le_refl _)])
        have HHV := Lib.hid (heavy_any age n ha (by omega) wr)
        obtain ⟨HV, hHV⟩ : ∃ HV, heavyN age n = HV := ⟨_, rfl⟩
        have HHVE : Hid (heavyN age snap.length = HV) := Lib.hid (by rw [HN.out]; exact hHV)
        rw [hHV] at HHV
        have HDK := Lib.hid dk
        have HGK := Lib.hid hgk
        have HBK := Lib.hid hbk
        have HJR := Lib.hid hJr
        have HDBR := Lib.hid hDBr
        have hDB7l := (Array.getElem?_eq_some_iff.1 HDB7.out).1
        clear hHV hap dk hgk hbk hltk hoz hRr hJ7 hJr hDBr HAPP0
        go_wp2_with fail
        refine HHV.out.mono ?_
        rintro e w11 ⟨rfl, hb11⟩
        have hJ11 : JrnAt w11 jb b r0 a0 c0 f0 := (hb11.block jb HJR.out.lt).trans HJR.out
        have j1 : w11.cell? ⟨jb, 1, none⟩ = some (.int .i64 r0) := cell_of_row w11 _ 1 _ _ _ hJ11
        have j2 : w11.cell? ⟨jb, 2, none⟩ = some (.int .u64 (a0 : Nat)) := cell_of_row w11 _ 2 _ _ _ hJ11
        have j3 : w11.cell? ⟨jb, 3, none⟩ = some (.int .i64 (c0 : Nat)) := cell_of_row w11 _ 3 _ _ _ hJ11
        have j4 : w11.cell? ⟨jb, 4, none⟩ = some (.int .i64 (f0 : Nat)) := cell_of_row w11 _ 4 _ _ _ hJ11
        have q1 := frozen_of_row w11 jb 1 _ _ hJ11
        have q2 := frozen_of_row w11 jb 2 _ _ hJ11
        have q3 := frozen_of_row w11 jb 3 _ _ hJ11
        have q4 := frozen_of_row w11 jb 4 _ _ hJ11
        obtain ⟨hput, hpb⟩ := jrn_put (i := i) (age := age) (hv := HV) hJ11
        obtain ⟨U, hU⟩ : ∃ U, (((w11.setCell ⟨jb, 1, none⟩ (.int .i64 i)).setCell ⟨jb, 2, none⟩ (.int .u64 (age : Nat))).setCell ⟨jb, 3, none⟩ (.int .i64 0)).setCell ⟨jb, 4, none⟩ (.int .i64 (HV : Nat)) = U := ⟨_, rfl⟩
        rw [hU] at hput hpb
        have hdU := (HDK.out.below hb11).but hpb (fun g hg hg2 => by
          simp at hg2; subst hg2
          rcases HGK.out _ hg with h | h
          · exact HJO.out h
          · omega)
        have hDBU : U.heap[DB]? = some (.deferred (some [])) := (hpb.block DB (Nat.lt_of_lt_of_le (Array.getElem?_eq_some_iff.1 HDBR.out).1 hb11.size) (by simp; omega)).trans ((hb11.block DB (Array.getElem?_eq_some_iff.1 HDBR.out).1).trans HDBR.out)
        have hbw : But (jb :: own) w U := (((But.of_below (HB2.out.trans (HB7.out.mono hw2))).more (own' := jb :: own) (fun g hg => .inl hg)).trans' ((HBK.out.more (own' := jb :: own) (fun g hg => .inl (List.mem_cons_of_mem _ hg))).trans' ((But.of_below hb11).more (own' := jb :: own) (fun g hg => .inl hg)))).trans' (hpb.more (own' := jb :: own) (fun g hg => .inl (by simp at hg; simp [hg])))
        have hw7w : w.heap.size ≤ w7.heap.size := Nat.le_trans hw2 HB7.out.size
        have HEND := Lib.hid (begin_end (r0 := r0) (a0 := a0) (c0 := c0) (f0 := f0) HRR.out hdU (fun g hg => (HGK.out g hg).elim .inl (fun h => .inr (Nat.le_trans hw7w h))) (fun hm => by
          rcases HGK.out DB hm with h | h
          · have := HLTO.out DB h; omega
          · omega) (by omega) hbw (by omega) (fun _ => by rw [HHVE.out]; exact hput) (fun h => absurd rfl h))
        have HDBU := Lib.hid hDBU
        have HU := Lib.hid hU
        clear hJ11 hput hpb hU hdU hDBU hbw hb11 HHV
        go_wp2
        rw [HU.out]
        refine ⟨by simp, .inl ⟨_, _, rfl, run_takeDeferred HDBU.out, ?_⟩⟩
        exact ⟨_, results_tmp rfl _ _ _, HEND.out _ (by first | rfl | simp)⟩
  case stop =>
    rintro D c' pre W hD hp h hK
    exact h.elim
end Go.Proofs.YtocmfdahnekboaaDoor

/- journal.start, and the small ones: Count, Age, Room, Weight. -/
namespace Go.Proofs.YtocmfdahnekboaaDoor
open Go.RowKit Go.Shelf
set_option linter.unusedVariables false
attribute [local go_sem] Oper.semAt_some

/-- Regions emptied one by one, till an error. -/
def wipeS (D : DevS) : Nat → DevS × Int
  | 0 => (D, 0)
  | k + 1 => if (wipeS D k).2 ≠ 0 then wipeS D k else truncS (wipeS D k).1 (k : Nat) 0
/-- What start does to a device. -/
def startS (D : DevS) : DevS × Int := if (wipeS D 2).2 ≠ 0 then wipeS D 2 else appsS (wipeS D 2).1 0 (beginFs 1 [])
theorem wipe_step {D Dk : DevS} {k : Nat} (h : wipeS D k = (Dk, 0)) : wipeS D (k + 1) = truncS Dk (k : Nat) 0 := by
  show (if (wipeS D k).2 ≠ 0 then wipeS D k else truncS (wipeS D k).1 (k : Nat) 0) = _
  rw [h, if_neg (fun h => h rfl)]
theorem wipe_err {D E : DevS} {er : Int} {k : Nat} (hk : k < 2) (h : wipeS D (k + 1) = (E, er)) (he : er ≠ 0) : startS D = (E, er) := by
  have h2 : wipeS D 2 = (E, er) := by
    rcases Nat.lt_or_ge k 1 with h0 | h1
    · obtain rfl : k = 0 := by omega
      show (if (wipeS D 1).2 ≠ 0 then wipeS D 1 else _) = _
      rw [h, if_pos he]
    · obtain rfl : k = 1 := by omega
      exact h
  unfold startS
  rw [h2, if_pos he]
theorem wipe_all {D E : DevS} (h : wipeS D 2 = (E, 0)) : startS D = appsS E 0 (beginFs 1 []) := by
  unfold startS
  rw [h, if_neg (fun h => h rfl)]
/-- What stays while start empties the regions. -/
def WipeI (own : List Nat) (w : World) (b : Nat) (D : DevS) (k : Nat) (W : World) : Prop :=
  ∃ own' Dk x y, Dev own' W b Dk x y ∧ (∀ g ∈ own', g ∈ own ∨ w.heap.size ≤ g) ∧ But own w W ∧ wipeS D k = (Dk, 0)
/-- What start comes to. -/
def StartTo (own : List Nat) (w : World) (jb b : Nat) (D : DevS) (r0 : Int) (a0 c0 f0 : Nat) (e : Ending) (w' : World) : Prop :=
  e = .returned (.int .i64 (startS D).2) ∧ ∃ own' x y, Dev own' w' b (startS D).1 x y ∧ But (jb :: own) w w' ∧ (∀ k ∈ own', k ∈ own ∨ w.heap.size ≤ k) ∧
    ((startS D).2 = 0 → JrnAt w' jb b 0 1 0 (heavyN 1 0)) ∧ ((startS D).2 ≠ 0 → JrnAt w' jb b r0 a0 c0 f0)
theorem start_stop {own own2 : List Nat} {w W : World} {jb b : Nat} {D D2 : DevS} {er r0 : Int} {a0 c0 f0 : Nat} {x y : Value} (h : startS D = (D2, er)) (he : er ≠ 0) (d : Dev own2 W b D2 x y) (hb : But own w W) (hs : ∀ k ∈ own2, k ∈ own ∨ w.heap.size ≤ k) (hj : JrnAt W jb b r0 a0 c0 f0) :
    ∀ e : Ending, e = .returned (.int .i64 er) → StartTo own w jb b D r0 a0 c0 f0 e W := by
  rintro e rfl
  unfold StartTo
  rw [h]
  exact ⟨rfl, own2, x, y, d, hb.more (fun g hg => .inl (List.mem_cons_of_mem _ hg)), hs, fun h => absurd h he, fun _ => hj⟩
theorem start_go {own own1 : List Nat} {w W W' : World} {jb b : Nat} {D E : DevS} {r0 : Int} {a0 c0 f0 : Nat} {e : Ending} (h : wipeS D 2 = (E, 0)) (hb : But own w W) (hs : ∀ k ∈ own1, k ∈ own ∨ w.heap.size ≤ k) (hB : BeginTo own1 W jb b E 0 1 [] r0 a0 c0 f0 e W') : StartTo own w jb b D r0 a0 c0 f0 e W' := by
  obtain ⟨he, own2, x, y, d, hb2, hs2, j0, j1⟩ := hB
  unfold StartTo
  rw [wipe_all h]
  refine ⟨he, own2, x, y, d, (hb.more (own' := jb :: own) (fun g hg => .inl (List.mem_cons_of_mem _ hg))).trans hb2 (fun g hg => ?_), fun k hk => ?_, j0, j1⟩
  · rcases List.mem_cons.1 hg with rfl | hg
    · exact .inl (List.mem_cons_self ..)
    · exact (hs g hg).imp (List.mem_cons_of_mem _) id
  · rcases hs2 k hk with h | h
    · exact hs k h
    · exact .inr (Nat.le_trans hb.size h)

set_option maxRecDepth 100000 in
set_option maxHeartbeats 4000000 in
theorem start_any {own : List Nat} {b : Nat} {D : DevS} {v0 v1 : Value} (jb : Nat) (r0 : Int) (a0 c0 f0 : Nat) (w : World) (hD : Dev own w b D v0 v1) (hJ : JrnAt w jb b r0 a0 c0 f0) (hjo : jb ∉ own) :
    Calls Tryd.prog 47 #[.pointer (some ⟨jb, 0, none⟩)] w (StartTo own w jb b D r0 a0 c0 f0) := by
  have HJ := Lib.hid hJ
  have HJO := Lib.hid hjo
  have HI0 : Hid (WipeI own w b D 0 w) := Lib.hid ⟨own, D, v0, v1, hD, fun g hg => .inl hg, But.refl _ _, rfl⟩
  have hjl := hJ.lt
  clear hD hJ hjo
  go_enter Tryd.func47, Tryd.ntmps47
  go_wp2
  go_loopw [5] (fun ix wr => ∃ k : Nat, k ≤ 2 ∧ ix = .int .i64 k ∧ WipeI own w b D k wr) (fun ix _ => 2 - (intOf ix).toNat)
  case atStart => exact ⟨0, Nat.zero_le _, rfl, HI0.out⟩
  case round =>
    obtain ⟨k, hk, rfl, own', Dk, x, y, dk, hgk, hbk, hwk⟩ := hrel
    have hjk : jb ∉ own' := fun hm => by
      rcases hgk jb hm with h | h
      · exact HJO.out h
      · omega
    have hJr : JrnAt wr jb b r0 a0 c0 f0 := HJ.out.but hbk HJO.out
    have cj : wr.cell? ⟨jb, 0, none⟩ = some (.pointer (some ⟨b, 0, none⟩)) := cell_of_row wr _ 0 _ _ _ hJr
    have HWK := Lib.hid hwk
    have HGK := Lib.hid hgk
    have HBK := Lib.hid hbk
    have HJR := Lib.hid hJr
    have HJK := Lib.hid hjk
    by_cases hlt : k < 2
    · have HT := Lib.hid (trunc_any (k : Nat) 0 wr dk)
      have hki : ((k : Nat) : Int) < 2 := by omega
      clear hwk hgk hbk hJr hjk dk
      go_wp2_with fail
      refine HT.out.mono ?_
      rintro e w2 ⟨rfl, own2, x2, y2, d2, b2, s2⟩
      obtain ⟨TR, hTR⟩ : ∃ TR, truncS Dk (k : Nat) 0 = TR := ⟨_, rfl⟩
      have HS : Hid (wipeS D (k + 1) = TR) := Lib.hid (by rw [← hTR]; exact wipe_step HWK.out)
      rw [hTR] at d2 ⊢
      obtain ⟨D2, er⟩ := TR
      dsimp only at d2 HS ⊢
      have HG2 : Hid (∀ g ∈ own2, g ∈ own ∨ w.heap.size ≤ g) := Lib.hid (fun g hg => by
        rcases s2 g hg with h | h
        · exact HGK.out g h
        · exact .inr (Nat.le_trans HBK.out.size h))
      have HB2 : Hid (But own w w2) := Lib.hid (HBK.out.trans b2 (fun g hg => HGK.out g hg))
      have HJ2 : Hid (JrnAt w2 jb b r0 a0 c0 f0) := Lib.hid (HJR.out.but b2 HJK.out)
      have HD2 := Lib.hid d2
      clear d2 b2 s2 hTR HT cj
      by_cases her : er = 0
      · subst her
        have HNX : Hid (WipeI own w b D (k + 1) w2) := Lib.hid ⟨own2, D2, x2, y2, HD2.out, HG2.out, HB2.out, HS.out⟩
        go_wp2_with fail
        go_roundw
        case rel => first | exact ⟨k + 1, hlt, by go_num, HNX.out⟩ | ((repeat apply Exists.intro); exact ⟨⟨k + 1, hlt, by go_num, HNX.out⟩, rfl⟩)
        case measure => simp [intOf]; omega
      · have heri : (er != 0) = true := by rw [bne_iff_ne]; exact her
        have HEND := Lib.hid (start_stop (wipe_err hlt HS.out her) her HD2.out HB2.out HG2.out HJ2.out)
        go_wp2
        go_ret
        exact HEND.out _ (by first | rfl | simp)
    · obtain rfl : k = 2 := by omega
      have HBG := Lib.hid (begin_any jb 0 1 (by decide) none 0 [] ⟨by decide, fun _ h => absurd h List.not_mem_nil⟩ (by decide) r0 a0 c0 f0 wr dk hJr hjk (.inl ⟨rfl, none, 0, rfl, fun _ => rfl⟩) (fun _ _ _ h => by cases h))
      clear hwk hgk hbk hJr hjk dk
      go_wp2_with fail
      refine HBG.out.mono ?_
      intro e w2 hB
      have HE := Lib.hid (start_go HWK.out HBK.out HGK.out hB)
      obtain ⟨he, _⟩ := hB
      subst he
      go_wp2
      go_ret
      exact HE.out

set_option maxHeartbeats 400000 in
theorem count_any {jb b : Nat} {r0 : Int} {a0 c0 f0 : Nat} (w : World) (hJ : JrnAt w jb b r0 a0 c0 f0) :
    Calls Tryd.prog 14 #[.pointer (some ⟨jb, 0, none⟩)] w fun e w' => e = .returned (.int .i64 (c0 : Nat)) ∧ w = w' := by
  have c := cell_of_row w _ 3 _ _ _ hJ
  clear hJ
  go_enter Tryd.func14, Tryd.ntmps14
  go_wp2
  go_ret
  exact ⟨rfl, rfl⟩
set_option maxHeartbeats 400000 in
theorem age_any {jb b : Nat} {r0 : Int} {a0 c0 f0 : Nat} (w : World) (hJ : JrnAt w jb b r0 a0 c0 f0) :
    Calls Tryd.prog 12 #[.pointer (some ⟨jb, 0, none⟩)] w fun e w' => e = .returned (.int .u64 (a0 : Nat)) ∧ w = w' := by
  have c := cell_of_row w _ 2 _ _ _ hJ
  clear hJ
  go_enter Tryd.func12, Tryd.ntmps12
  go_wp2
  go_ret
  exact ⟨rfl, rfl⟩
end Go.Proofs.YtocmfdahnekboaaDoor

/- journal.open and journal.Open. -/
namespace Go.Proofs.YtocmfdahnekboaaDoor
open Go.RowKit Go.Shelf
set_option linter.unusedVariables false
attribute [local go_sem] Oper.semAt_some

/-- What open does to a device. -/
def openS (D : DevS) : DevS × Int :=
  if D.down = true then (D, 30) else if (newestS D).2.1 = 0 then startS D else truncS D ((newestS D).1 : Nat) ((newestS D).2.2.2 : Nat)
/-- What open comes to. -/
def OpenTo (own : List Nat) (w : World) (jb b : Nat) (D : DevS) (r0 : Int) (a0 c0 f0 : Nat) (e : Ending) (w' : World) : Prop :=
  e = .returned (.int .i64 (openS D).2) ∧ ∃ own' x y, Dev own' w' b (openS D).1 x y ∧ But (jb :: own) w w' ∧ (∀ k ∈ own', k ∈ own ∨ w.heap.size ≤ k) ∧
    (if D.down = true then JrnAt w' jb b r0 a0 c0 f0 else if (newestS D).2.1 = 0 then ((startS D).2 = 0 → JrnAt w' jb b 0 1 0 (heavyN 1 0)) ∧ ((startS D).2 ≠ 0 → JrnAt w' jb b r0 a0 c0 f0)
      else JrnAt w' jb b ((newestS D).1 : Nat) (newestS D).2.1 (newestS D).2.2.1 (newestS D).2.2.2)

theorem kept_below {w W : World} (hb : Below w.heap.size w W) (o : Obj) : Below w.heap.size w (W.alloc o) := hb.alloc hb.size o

set_option maxHeartbeats 1000000 in
theorem open_down {own : List Nat} {b : Nat} {D : DevS} {v0 v1 : Value} (jb : Nat) (r0 : Int) (a0 c0 f0 : Nat) (w : World) (hD : Dev own w b D v0 v1) (hJ : JrnAt w jb b r0 a0 c0 f0) (hjo : jb ∉ own) (hd : D.down = true) :
    Calls Tryd.prog 30 #[.pointer (some ⟨jb, 0, none⟩)] w (OpenTo own w jb b D r0 a0 c0 f0) := by
  have cj : w.cell? ⟨jb, 0, none⟩ = some (.pointer (some ⟨b, 0, none⟩)) := cell_of_row w _ 0 _ _ _ hJ
  have HDN := Lib.hid (down_any w hD.blk)
  rw [hd] at HDN
  have HFIN : Hid (OpenTo own w jb b D r0 a0 c0 f0 (.returned (.int .i64 30)) w) := Lib.hid (by
    have e0 : openS D = (D, 30) := if_pos hd
    unfold OpenTo
    rw [e0, if_pos hd]
    exact ⟨rfl, own, v0, v1, hD, But.refl _ _, fun _ hk => .inl hk, hJ⟩)
  clear hD hJ hjo hd
  go_enter Tryd.func30, Tryd.ntmps30
  go_wp2_with (go_at_call 45; refine HDN.out.mono ?_; rintro e w' ⟨rfl, rfl⟩)
  go_ret
  exact HFIN.out

set_option maxHeartbeats 1000000 in
theorem open_new {own : List Nat} {b : Nat} {D : DevS} {v0 v1 : Value} (jb : Nat) (r0 : Int) (a0 c0 f0 : Nat) (w : World) (hD : Dev own w b D v0 v1) (hJ : JrnAt w jb b r0 a0 c0 f0) (hjo : jb ∉ own) (hd : D.down = false) (h0 : (newestS D).2.1 = 0) :
    Calls Tryd.prog 30 #[.pointer (some ⟨jb, 0, none⟩)] w (OpenTo own w jb b D r0 a0 c0 f0) := by
  have cj : w.cell? ⟨jb, 0, none⟩ = some (.pointer (some ⟨b, 0, none⟩)) := cell_of_row w _ 0 _ _ _ hJ
  have hjl := hJ.lt
  have HDN := Lib.hid (down_any w hD.blk)
  rw [hd] at HDN
  have HNW := Lib.hid (newest_any w hD)
  obtain ⟨⟨n1, n2, n3, n4⟩, hN⟩ : ∃ N, newestS D = N := ⟨_, rfl⟩
  rw [hN] at HNW h0
  dsimp only at h0 HNW
  subst h0
  have hS := fun (W : World) (hb : Below w.heap.size w W) => start_any jb r0 a0 c0 f0 W (hD.below hb) ((hb.block jb hjl).trans hJ) hjo
  have HS := Lib.hid hS
  have HFIN : Hid (∀ (W W' : World) (e : Ending), Below w.heap.size w W → StartTo own W jb b D r0 a0 c0 f0 e W' → OpenTo own w jb b D r0 a0 c0 f0 e W') := Lib.hid (by
    rintro W W' e hb ⟨he, own', x, y, d, hb2, hs, j0, j1⟩
    have e0 : openS D = startS D := by
      unfold openS
      rw [hd, if_neg (by decide), hN]
      rfl
    unfold OpenTo
    rw [e0, hd, if_neg (by decide), hN, if_pos rfl]
    exact ⟨he, own', x, y, d, (But.of_below hb).trans' hb2, fun k hk => (hs k hk).imp id (fun h => Nat.le_trans hb.size h), j0, j1⟩)
  clear hD hJ hjo hd hN hS
  go_enter Tryd.func30, Tryd.ntmps30
  go_wp2_with fail
  refine HDN.out.mono ?_
  rintro e w' ⟨rfl, rfl⟩
  go_wp2_with fail
  refine HNW.out.mono ?_
  rintro e w2 ⟨rfl, hb2⟩
  have HB2 := Lib.hid hb2
  have hz2 := hb2.size
  clear hb2
  go_wp2_with fail
  refine (HS.out _ (kept_below HB2.out _)).mono ?_
  intro e w3 hB
  have HE := Lib.hid (HFIN.out _ _ _ (kept_below HB2.out _) hB)
  obtain ⟨he, _⟩ := hB
  subst he
  go_wp2
  go_ret
  exact HE.out

set_option maxRecDepth 100000 in
set_option maxHeartbeats 4000000 in
theorem open_kept {own : List Nat} {b : Nat} {D : DevS} {v0 v1 : Value} (jb : Nat) (r0 : Int) (a0 c0 f0 : Nat) (w : World) (hD : Dev own w b D v0 v1) (hJ : JrnAt w jb b r0 a0 c0 f0) (hjo : jb ∉ own) (hd : D.down = false) (h0 : (newestS D).2.1 ≠ 0) :
    Calls Tryd.prog 30 #[.pointer (some ⟨jb, 0, none⟩)] w (OpenTo own w jb b D r0 a0 c0 f0) := by
  have cj : w.cell? ⟨jb, 0, none⟩ = some (.pointer (some ⟨b, 0, none⟩)) := cell_of_row w _ 0 _ _ _ hJ
  have hjl := hJ.lt
  have HDN := Lib.hid (down_any w hD.blk)
  rw [hd] at HDN
  have HNW := Lib.hid (newest_any w hD)
  obtain ⟨⟨n1, n2, n3, n4⟩, hN⟩ : ∃ N, newestS D = N := ⟨_, rfl⟩
  rw [hN] at HNW h0
  dsimp only at h0 HNW
  have hn2 : ¬ ((n2 : Nat) : Int) = 0 := by omega
  have HE0 : Hid (openS D = truncS D (n1 : Nat) (n4 : Nat)) := Lib.hid (by
    unfold openS
    rw [hd, if_neg (by decide), hN]
    exact if_neg h0)
  have HN := Lib.hid hN
  have HDF := Lib.hid hd
  have HD := Lib.hid hD
  have HJO := Lib.hid hjo
  have HJ := Lib.hid hJ
  clear hJ hjo hd hN hD
  go_enter Tryd.func30, Tryd.ntmps30
  go_wp2_with fail
  refine HDN.out.mono ?_
  rintro e w' ⟨rfl, rfl⟩
  go_wp2_with fail
  refine HNW.out.mono ?_
  rintro e w2 ⟨rfl, hb2⟩
  have hJ2 : JrnAt w2 jb b r0 a0 c0 f0 := (hb2.block jb hjl).trans HJ.out
  have j0 : w2.cell? ⟨jb, 0, none⟩ = some (.pointer (some ⟨b, 0, none⟩)) := cell_of_row w2 _ 0 _ _ _ hJ2
  have j1 : w2.cell? ⟨jb, 1, none⟩ = some (.int .i64 r0) := cell_of_row w2 _ 1 _ _ _ hJ2
  have j2 : w2.cell? ⟨jb, 2, none⟩ = some (.int .u64 (a0 : Nat)) := cell_of_row w2 _ 2 _ _ _ hJ2
  have j3 : w2.cell? ⟨jb, 3, none⟩ = some (.int .i64 (c0 : Nat)) := cell_of_row w2 _ 3 _ _ _ hJ2
  have j4 : w2.cell? ⟨jb, 4, none⟩ = some (.int .i64 (f0 : Nat)) := cell_of_row w2 _ 4 _ _ _ hJ2
  have q1 := frozen_of_row w2 jb 1 _ _ hJ2
  have q2 := frozen_of_row w2 jb 2 _ _ hJ2
  have q3 := frozen_of_row w2 jb 3 _ _ hJ2
  have q4 := frozen_of_row w2 jb 4 _ _ hJ2
  have HB2 := Lib.hid hb2
  have hz2 := hb2.size
  have hjl2 := hJ2.lt
  have hne : jb ≠ w2.heap.size := by omega
  have HJ2 := Lib.hid hJ2
  clear hb2 hJ2 cj
  go_wp2_with fail
  go_region
  obtain ⟨X, hX⟩ : ∃ X, (((w2.setCell ⟨jb, 1, none⟩ (.int .i64 (n1 : Nat))).setCell ⟨jb, 2, none⟩ (.int .u64 (n2 : Nat))).setCell ⟨jb, 3, none⟩ (.int .i64 (n3 : Nat))).setCell ⟨jb, 4, none⟩ (.int .i64 (n4 : Nat)) = X := ⟨_, rfl⟩
  have hXb : But [jb] w2 X := by rw [← hX]; exact ((((But.refl _ _).set (by simp) _).set (by simp) _).set (by simp) _).set (by simp) _
  have hXj : JrnAt X jb b (n1 : Nat) n2 n3 n4 := by rw [← hX]; exact heap_setCell_same _ jb 4 _ _ _ (heap_setCell_same _ jb 3 _ _ _ (heap_setCell_same _ jb 2 _ _ _ (heap_setCell_same w2 jb 1 _ _ _ HJ2.out)))
  have hXz : X.heap.size = w2.heap.size := by rw [← hX]; simp
  rw [hX]
  obtain ⟨U, hU⟩ : ∃ U, (X.alloc (.cells #[.int .u64 (n2 : Nat), .int .i64 (n3 : Nat), .int .i64 (n4 : Nat)] 69)).drew = U := ⟨_, rfl⟩
  have hUb : Below X.heap.size X U := by rw [← hU]; exact ((Below.refl _ _).alloc (Nat.le_refl _) _).drew
  have hUn : U.heap[w2.heap.size]? = some (.cells #[.int .u64 (n2 : Nat), .int .i64 (n3 : Nat), .int .i64 (n4 : Nat)] 69 (0, 0)) := by rw [← hU, ← hXz]; exact World.alloc_heap_new X _
  rw [hU]
  have hUj : JrnAt U jb b (n1 : Nat) n2 n3 n4 := (hUb.block jb hXj.lt).trans hXj
  have k0 : U.cell? ⟨jb, 0, none⟩ = some (.pointer (some ⟨b, 0, none⟩)) := cell_of_row U _ 0 _ _ _ hUj
  have k1 : U.cell? ⟨w2.heap.size, 2, none⟩ = some (.int .i64 (n4 : Nat)) := cell_of_row U _ 2 _ _ _ hUn
  have HUB : Hid (But [jb] w U) := Lib.hid ((But.of_below HB2.out).trans' (hXb.trans' (But.of_below hUb)))
  have HUJ := Lib.hid hUj
  clear hXb hXj hXz hUb hUn hUj hX j0 j1 j2 j3 j4 q1 q2 q3 q4
  have HU := Lib.hid hU
  clear hU
  go_wp2_with fail
  go_still_tail 7, (by kernel_rfl)
  change wpList _ _ _ _ _ U.drew
  obtain ⟨U2, hU2⟩ : ∃ U2, U.drew = U2 := ⟨_, rfl⟩
  have hb3 : Below U.heap.size U U2 := by rw [← hU2]; exact (Below.refl _ _).drew
  rw [hU2]
  have hB3 : But [jb] w U2 := HUB.out.trans' (But.of_below hb3)
  have hd3 : Dev own U2 b D v0 v1 := HD.out.but hB3 (fun g hg hm => by simp at hm; subst hm; exact HJO.out hg)
  have HJ3 : Hid (JrnAt U2 jb b (n1 : Nat) n2 n3 n4) := Lib.hid ((hb3.block jb HUJ.out.lt).trans HUJ.out)
  have HT := Lib.hid (trunc_any (n1 : Nat) (n4 : Nat) U2 hd3)
  have HB3 := Lib.hid hB3
  clear hU2 hb3 hB3 hd3 k0 k1
  go_wp2_with fail
  refine HT.out.mono ?_
  rintro e w3 ⟨rfl, own2, x2, y2, d2, b2, s2⟩
  have HFIN : Hid (OpenTo own w jb b D r0 a0 c0 f0 (.returned (.int .i64 (truncS D (n1 : Nat) (n4 : Nat)).2)) w3) := Lib.hid (by
    unfold OpenTo
    rw [HE0.out, HDF.out, if_neg (by decide), HN.out, if_neg h0]
    refine ⟨rfl, own2, x2, y2, d2, (HB3.out.more (own' := jb :: own) (fun g hg => .inl (by simp at hg; simp [hg]))).trans' (b2.more (own' := jb :: own) (fun g hg => .inl (List.mem_cons_of_mem _ hg))), fun k hk => (s2 k hk).imp id (fun h => Nat.le_trans HB3.out.size h), HJ3.out.but b2 HJO.out⟩)
  obtain ⟨TR, hTR⟩ : ∃ TR, truncS D (n1 : Nat) (n4 : Nat) = TR := ⟨_, rfl⟩
  rw [hTR] at HFIN ⊢
  clear hTR d2 b2 s2
  go_wp2
  go_ret
  exact HFIN.out
theorem jopen_any {own : List Nat} {b : Nat} {D : DevS} {v0 v1 : Value} (jb : Nat) (r0 : Int) (a0 c0 f0 : Nat) (w : World) (hD : Dev own w b D v0 v1) (hJ : JrnAt w jb b r0 a0 c0 f0) (hjo : jb ∉ own) :
    Calls Tryd.prog 30 #[.pointer (some ⟨jb, 0, none⟩)] w (OpenTo own w jb b D r0 a0 c0 f0) := by
  cases hd : D.down with
  | true => exact open_down jb r0 a0 c0 f0 w hD hJ hjo hd
  | false =>
    by_cases h0 : (newestS D).2.1 = 0
    · exact open_new jb r0 a0 c0 f0 w hD hJ hjo hd h0
    · exact open_kept jb r0 a0 c0 f0 w hD hJ hjo hd h0
end Go.Proofs.YtocmfdahnekboaaDoor

/- journal.Open and Room. -/
namespace Go.Proofs.YtocmfdahnekboaaDoor
open Go.RowKit Go.Shelf
set_option linter.unusedVariables false
attribute [local go_sem] Oper.semAt_some

/-- What Open comes to: an error and no journal, or the journal, whose block is new. -/
def OpensTo (own : List Nat) (w : World) (b : Nat) (D : DevS) (e : Ending) (w' : World) : Prop :=
  (if (openS D).2 = 0 then e = .returned (.tuple #[.pointer (some ⟨w.heap.size, 0, none⟩), .int .i64 0]) else e = .returned (.tuple #[.pointer none, .int .i64 (openS D).2])) ∧
  ∃ e', OpenTo own (w.alloc (.cells #[.pointer (some ⟨b, 0, none⟩), .int .i64 0, .int .u64 0, .int .i64 0, .int .i64 0] 71)) w.heap.size b D 0 0 0 0 e' w'

set_option maxHeartbeats 2000000 in
theorem opens_any {own : List Nat} {b : Nat} {D : DevS} {v0 v1 : Value} (w : World) (hD : Dev own w b D v0 v1) :
    Calls Tryd.prog 10 #[.pointer (some ⟨b, 0, none⟩)] w (OpensTo own w b D) := by
  obtain ⟨A, hA⟩ : ∃ A, w.alloc (.cells #[.pointer (some ⟨b, 0, none⟩), .int .i64 0, .int .u64 0, .int .i64 0, .int .i64 0] 71) = A := ⟨_, rfl⟩
  have hbA : Below w.heap.size w A := by rw [← hA]; exact (Below.refl _ _).alloc (Nat.le_refl _) _
  have hJA : JrnAt A w.heap.size b 0 0 0 0 := by rw [← hA]; exact World.alloc_heap_new w _
  have hnot : w.heap.size ∉ own := fun hm => by have := hD.lt _ hm; omega
  have HO := Lib.hid (jopen_any w.heap.size 0 0 0 0 A (hD.below hbA) hJA hnot)
  have HA := Lib.hid hA
  obtain ⟨OS, hOS⟩ : ∃ OS, openS D = OS := ⟨_, rfl⟩
  obtain ⟨D2, er⟩ := OS
  have HOS := Lib.hid hOS
  clear hA hbA hJA hnot hOS hD
  go_enter Tryd.func10, Tryd.ntmps10
  go_wp2_with fail
  rw [HA.out]
  refine HO.out.mono ?_
  intro e w2 hB
  have HB := Lib.hid hB
  obtain ⟨he, _⟩ := hB
  rw [HOS.out] at he
  dsimp only at he
  subst he
  by_cases her : er = 0
  · subst her
    have HFIN : Hid (OpensTo own w b D (.returned (.tuple #[.pointer (some ⟨w.heap.size, 0, none⟩), .int .i64 0])) w2) := Lib.hid (by
      unfold OpensTo
      rw [HOS.out, if_pos rfl, HA.out]
      exact ⟨rfl, _, HB.out⟩)
    go_wp2
    go_ret2
    exact HFIN.out
  · have heri : (er != 0) = true := by rw [bne_iff_ne]; exact her
    have HFIN : Hid (OpensTo own w b D (.returned (.tuple #[.pointer none, .int .i64 er])) w2) := Lib.hid (by
      unfold OpensTo
      rw [HOS.out, if_neg her, HA.out]
      exact ⟨rfl, _, HB.out⟩)
    go_wp2
    go_ret2
    exact HFIN.out
end Go.Proofs.YtocmfdahnekboaaDoor

/- journal: Room, Weight. -/
namespace Go.Proofs.YtocmfdahnekboaaDoor
open Go.RowKit Go.Shelf
set_option linter.unusedVariables false
attribute [local go_sem] Oper.semAt_some

set_option maxRecDepth 100000 in
set_option maxHeartbeats 4000000 in
theorem room_any {own : List Nat} {b jb : Nat} {D : DevS} {v0 v1 : Value} {r0 : Int} {a0 c0 f0 : Nat} (w : World) (hD : Dev own w b D v0 v1) (hJ : JrnAt w jb b r0 a0 c0 f0) :
    Calls Tryd.prog 16 #[.pointer (some ⟨jb, 0, none⟩)] w fun e w' => e = .returned (.int .i64 ((D.cap : Int) - ((D.row r0).length : Nat))) ∧ Below w.heap.size w w' := by
  have c0' := cell_of_row w _ 0 _ _ _ hJ
  have c1' := cell_of_row w _ 1 _ _ _ hJ
  have HD : ∀ q, Dev own (w.drewN q) b D v0 v1 := fun q => hD.below (Below.drewN_r (Below.refl _ _) q)
  have HC : Hid (∀ q, Calls Tryd.prog 36 #[.pointer (some ⟨b, 0, none⟩)] (w.drewN q) fun e w' => e = .returned (.int .i64 D.cap) ∧ ∃ q', w' = (w.drewN q).drewN q') := Lib.hid (fun q => (capacity_any (w.drewN q) (HD q).blk).mono (by rintro e w' ⟨rfl, rfl⟩; exact ⟨rfl, 0, rfl⟩))
  have HL : Hid (∀ q, Calls Tryd.prog 32 #[.pointer (some ⟨b, 0, none⟩), .int .i64 r0] (w.drewN q) fun e w' => e = .returned (.int .i64 (D.row r0).length) ∧ ∃ q', w' = (w.drewN q).drewN q') := Lib.hid (fun q => (len_any r0 (w.drewN q) (HD q)).mono (by rintro e w' ⟨rfl, rfl⟩; exact ⟨rfl, 0, rfl⟩))
  have hr := (hD.ok.row r0).1
  have hc := hD.ok.cap
  obtain ⟨C, hC⟩ : ∃ C, D.cap = C := ⟨_, rfl⟩
  obtain ⟨N, hN⟩ : ∃ N, (D.row r0).length = N := ⟨_, rfl⟩
  rw [hC] at HC hr hc ⊢
  rw [hN] at HL hr ⊢
  clear hD hJ HD hC hN
  go_enter Tryd.func16, Tryd.ntmps16
  go_wp2_with fail
  go_quiet (first | (go_at_call 36; exact Calls.quiet_of (HC.out _)) | (go_at_call 32; exact Calls.quiet_of (HL.out _)))
  all_goals go_wp2
  all_goals go_ret
  all_goals exact ⟨rfl, Below.drewN_r (Below.refl _ _) _⟩

set_option maxHeartbeats 400000 in
theorem jweight_any (n s : Nat) (h : n ≤ 1048576) (hs : n + 7 = s) (w : World) : Calls Tryd.prog 19 #[.int .i64 n] w fun e w' => e = .returned (.int .i64 (s : Nat)) ∧ w = w' := by
  have HW := Lib.hid (weight_nat n s h hs w)
  clear h hs
  go_enter Tryd.func19, Tryd.ntmps19
  go_wp2_with fail
  refine HW.out.mono ?_
  rintro e w' ⟨rfl, rfl⟩
  go_wp2
  go_ret
  exact ⟨rfl, rfl⟩
end Go.Proofs.YtocmfdahnekboaaDoor
