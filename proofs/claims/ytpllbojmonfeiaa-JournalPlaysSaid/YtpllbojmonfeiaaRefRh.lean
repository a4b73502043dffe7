/- The document's own journal: what is said of how a region is read. -/
import Derived.Test.YtpllbojmonfeiaaRefJn
import Derived.Test.YtpllbojmonfeiaaRegionSeq
import Derived.Test.YtpllbojmonfeiaaRefFS
import Derived.Test.YtpllbojmonfeiaaFrameJ
import Derived.Test.YtpllbojmonfeiaaJrnAl
import Derived.StillTailTactics
namespace Go.Proofs.Ytpllbojmonfeiaa
open Go.RowKit SumM
set_option linter.unusedVariables false
attribute [local go_sem] Oper.semAt_some

/-- A block whose cells are no bytes holds no bytes. -/
theorem off_cells {n : Nat} {W : World} {b : Nat} {cs : Array Value} {t : TypeId} {fr : Nat × Nat} {sv : Value} {l : List Nat} (h : Sl encY n W sv l) (hX : W.heap[b]? = some (.cells cs t fr)) (hv : ∀ (i x : Nat), cs[i]? ≠ some (encY x)) : Off [b] sv := fun ad m c e h0 hk => by
  rcases h with ⟨rfl, a, c', e', _⟩ | ⟨b', off, cap, e', hb, _, hc⟩
  · rw [e] at e'; cases e'; omega
  · rw [e] at e'
    simp only [Value.slice.injEq, Option.some.injEq] at e'
    obtain ⟨rfl, hm, _⟩ := e'
    simp at hk
    subst hk
    have h1 := hc 0 (l[0]'(by omega)) (List.getElem?_eq_getElem _)
    simp only [World.cell?, hX, Nat.add_zero] at h1
    exact hv _ _ (by simpa using h1)
theorem jdC_no (p q r s : Option Addr) (i j k l m n o t : Nat) (cap reg ag en : Int) : ∀ (u x : Nat), (jdC (.slice p i j) (.slice q k l) cap reg ag (.slice r m n) (.slice s o t) en)[u]? ≠ some (encY x) := by
  intro u x
  match u with
  | 0 => simp [encY]
  | 1 => simp [encY]
  | 2 => simp [encY]
  | 3 => simp [encY]
  | 4 => simp [encY]
  | 5 => simp [encY]
  | 6 => simp [encY]
  | 7 => simp [encY]
  | u + 8 => simp
abbrev frT : TypeId := 110
/-- The frames of a region, as they were read; the block of a journal lies beside them. -/
structure FrsAt (w0 : World) (base : Nat) (w2 : World) (N1 : Nat) (ka : Option Addr) (kc : Nat) (ks : List (Nat × List Nat)) : Prop where
  row : ∃ ys : List FX, ys.map Prod.fst = posF 0 ks ∧ w2.ownsRow base frT 3 (.slice ka ks.length kc) ks.length (cellsR ys) ∧ ∀ y ∈ ys, Sl encY w2.heap.size w2 y.2 y.1.2.2 ∧ NewV w0 y.2
  jb : ∃ cs, w2.heap[N1]? = some (.cells cs rjT (0, 0)) ∧ ∀ (i x : Nat), cs[i]? ≠ some (encY x)
theorem FrsAt.get {base : Nat} {w0 w2 W : World} {N1 : Nat} {ka : Option Addr} {kc : Nat} {ks : List (Nat × List Nat)} (h : FrsAt w0 base w2 N1 ka kc ks) (hb : But [N1] w2 W) {k : Nat} {x : Nat × List Nat} (hx : ks[k]? = some x) :
    ∃ g p c, ka = some ⟨g, 0, none⟩ ∧ W.cell? ⟨g, k * 3, none⟩ = some (.int .i64 ((joinF (ks.take k)).length : Nat)) ∧ W.cell? ⟨g, k * 3 + 1, none⟩ = some (.int .i64 (x.1 : Nat)) ∧ W.cell? ⟨g, k * 3 + 2, none⟩ = some (.slice p x.2.length c) ∧ Sl encY w2.heap.size W (.slice p x.2.length c) x.2 ∧ NewV w0 (.slice p x.2.length c) := by
  obtain ⟨ys, h1, h2, h3⟩ := h.row
  obtain ⟨cs, j1, j2⟩ := h.jb
  have hp := posF_get ks 0 k x hx
  rw [← h1, List.getElem?_map] at hp
  obtain ⟨y, hy, hyx⟩ := Option.map_eq_some_iff.1 hp
  obtain ⟨c1, c2, c3⟩ := cellsR_get ys k y hy
  obtain ⟨hS, hNV⟩ := h3 y (List.mem_of_getElem? hy)
  obtain ⟨p, c, hv⟩ := hS.form
  obtain ⟨g, e1, q1⟩ := own_cell h2 c1
  obtain ⟨g', e2, q2⟩ := own_cell h2 c2
  obtain ⟨g'', e3, q3⟩ := own_cell h2 c3
  rw [e1] at e2 e3
  cases e2; cases e3
  subst e1
  obtain ⟨_, cur, hg⟩ := own_at h2 (show (Value.slice (some ⟨g, 0, none⟩) ks.length kc).ownBlock = some g from rfl)
  have hgn : g ≠ N1 := by
    rintro rfl
    rw [j1] at hg
    simp only [Option.some.injEq, Obj.cells.injEq] at hg
    exact absurd hg.2.1 (by decide)
  have hgb := hb.block g (Array.getElem?_eq_some_iff.1 hg).1 (by simp; exact hgn)
  obtain ⟨⟨y1, y2, y3⟩, yv⟩ := y
  dsimp only at hyx hv c1 c2 c3 q1 q2 q3 hS hNV
  simp only [Prod.mk.injEq, Nat.zero_add] at hyx
  obtain ⟨rfl, rfl, rfl⟩ := hyx
  subst hv
  refine ⟨g, p, c, rfl, ?_, ?_, ?_, ?_, hNV⟩
  · exact (World.cell?_of_block (a := ⟨g, k * 3, none⟩) hgb).trans q1
  · exact (World.cell?_of_block (a := ⟨g, k * 3 + 1, none⟩) hgb).trans q2
  · exact (World.cell?_of_block (a := ⟨g, k * 3 + 2, none⟩) hgb).trans q3
  · exact Sl.butN (Nat.le_refl _) hS hb (off_cells hS j1 j2)

/-- What the head's body tells, as the document reads it. -/
def head2E (b : List Nat) : Nat := if takeE b ≠ 0 then takeE b else takeE (uintR b 0).1
def head2N (b : List Nat) : Nat := if takeE b ≠ 0 then 0 else headP b
def head2R (b : List Nat) : Nat := if takeE b ≠ 0 then 0 else (uintR (uintR b 0).1 0).1.length
theorem head2_ok (b : List Nat) : headOk b = (decide (headA b ≠ 0) && decide (head2E b = 0) && decide (head2R b = 0)) := by
  unfold headOk head2E head2R headX
  by_cases h : takeE b ≠ 0
  · have h2 : (wholeR b).2.2 ≠ 0 := fun e => h ((takeE_0 b).2 e)
    have e1 : uintR b 0 = ([], (wholeR b).2.2) := by unfold uintR; rw [if_neg h2, if_pos rfl]
    rw [e1, uintR_nil, if_neg h2, if_pos h, decide_eq_false h2, Bool.and_false, Bool.false_and]
    rw [decide_eq_false h, Bool.and_false, Bool.false_and]
  · have h2 : (wholeR b).2.2 = 0 := (takeE_0 b).1 (Decidable.not_not.1 h)
    have e1 : (uintR b 0).2 = 0 := by unfold uintR; rw [if_pos h2]
    rw [if_neg h, if_neg h, e1]
    have e2 : decide (0 < headA b) = decide (headA b ≠ 0) := decide_eq_decide.2 (by omega)
    have e3 : decide ((uintR (uintR b 0).1 0).2 = 0) = decide (takeE (uintR b 0).1 = 0) := by
      refine decide_eq_decide.2 ?_
      rw [takeE_0]
      generalize (uintR b 0).1 = R
      unfold uintR
      by_cases hw : (wholeR R).2.2 = 0
      · rw [if_pos hw]; exact ⟨fun _ => hw, fun _ => rfl⟩
      · rw [if_neg hw]; exact ⟨fun h3 => absurd h3 hw, fun h3 => absurd h3 hw⟩
    rw [e2, e3]
theorem head2_n {b : List Nat} (h : head2E b = 0) : head2N b = headP b := by
  unfold head2N
  unfold head2E at h
  split
  · rename_i h1
    rw [if_pos h1] at h
    exact absurd h h1
  · rfl
theorem head2N_lt (b : List Nat) : head2N b < 18446744073709551616 := by
  unfold head2N
  split
  · decide
  · exact headP_lt b
/-- The second whole number of the head. -/
theorem rtake_two (b : List Nat) (hb : Bytes b) (p : Option Addr) (m c : Nat) (w : World) (hS : Sl encY w.heap.size w (.slice p m c) (uintR b 0).1) :
    Calls Try.prog 65 #[inV (.slice p m c) (takeE b)] w fun x w' => ∃ q k d, x = .returned (.tuple #[inV (.slice q k d) (head2E b), .int .u64 (head2N b : Nat)]) ∧ k = head2R b ∧ Below w.heap.size w w' := by
  by_cases h : takeE b ≠ 0
  · have h2 : (wholeR b).2.2 ≠ 0 := fun e => h ((takeE_0 b).2 e)
    have e1 : (uintR b 0).1 = [] := by unfold uintR; rw [if_neg h2]
    refine (rtake_bad p m c (takeE b) h (takeE_lt b) w).mono ?_
    rintro x w' ⟨rfl, hb'⟩
    have hm := hS.len
    rw [e1] at hm
    unfold head2E head2N head2R
    rw [if_pos h, if_pos h, if_pos h]
    exact ⟨p, m, c, rfl, hm, hb'⟩
  · have h0 := Decidable.not_not.1 h
    have h2 : (wholeR b).2.2 = 0 := (takeE_0 b).1 h0
    unfold head2E head2N head2R
    rw [if_neg h, if_neg h, if_neg h, h0]
    refine (rtake_any p m c (uintR b 0).1 (uintR_bytes hb 0) w hS).mono ?_
    rintro x w' ⟨q, k, d, rfl, hs, hb'⟩
    exact ⟨q, k, d, rfl, hs.len, hb'⟩

/-- Records in a row of the call's own, their bytes below it. -/
def RcD (P : Value → Prop) (base : Nat) (W : World) (rv : Value) (rs : List (List Nat)) : Prop :=
  ∃ ys : List CX, ys.map Prod.fst = rs ∧ W.ownsRow base yssT 1 rv ys.length (ys.map Prod.snd) ∧ ∀ y ∈ ys, Sl encY base W y.2 y.1 ∧ P y.2
theorem RcD.nil (P : Value → Prop) (base : Nat) (W : World) : RcD P base W (.slice none 0 0) [] := ⟨[], rfl, ⟨rfl, .inl ⟨rfl, rfl⟩⟩, fun y hy => by cases hy⟩
theorem own_far {base b n : Nat} {W W' : World} {rv : Value} {xs : List Value} {cs : Array Value} (h2 : W.ownsRow base yssT 1 rv n xs) (hb : But [b] W W') (hW : W.heap[b]? = some (.cells cs rjT (0, 0))) : W'.ownsRow base yssT 1 rv n xs := by
  obtain ⟨g1, g2⟩ := h2
  refine ⟨g1, ?_⟩
  rcases g2 with g2 | ⟨g, cap, cur, hv', hg, hh, r⟩
  · exact .inl g2
  · refine .inr ⟨g, cap, cur, hv', hg, (hb.block g (Array.getElem?_eq_some_iff.1 hh).1 (fun hm => ?_)).trans hh, r⟩
    simp at hm
    subst hm
    rw [hW] at hh
    simp only [Option.some.injEq, Obj.cells.injEq] at hh
    exact absurd hh.2.1 (by decide)
theorem RcD.but {P : Value → Prop} {base b : Nat} {W W' : World} {rv : Value} {rs : List (List Nat)} {cs : Array Value} (h : RcD P base W rv rs) (hb : But [b] W W') (hW : W.heap[b]? = some (.cells cs rjT (0, 0))) (hv : ∀ (i x : Nat), cs[i]? ≠ some (encY x)) (hB : base ≤ W.heap.size) : RcD P base W' rv rs := by
  obtain ⟨ys, h1, h2, h3⟩ := h
  exact ⟨ys, h1, own_far h2 hb hW, fun y hy => ⟨Sl.butN hB (h3 y hy).1 hb (off_cells (h3 y hy).1 hW hv), (h3 y hy).2⟩⟩
/-- Records in a row of its own, off some blocks. -/
def RcO (X : List Nat) (W : World) (rv : Value) (rs : List (List Nat)) : Prop := (∀ g, rv.ownBlock = some g → g ∉ X) ∧ ∃ (base : Nat) (ys : List CX), ys.map Prod.fst = rs ∧ W.ownsRow base yssT 1 rv ys.length (ys.map Prod.snd) ∧ ∀ y ∈ ys, Sl encY W.heap.size W y.2 y.1 ∧ Off X y.2
theorem RcO.nil (X : List Nat) (W : World) : RcO X W (.slice none 0 0) [] := ⟨fun g h => (by cases h), 0, [], rfl, ⟨rfl, .inl ⟨rfl, rfl⟩⟩, fun y hy => by cases hy⟩
theorem RcO.below {X : List Nat} {W W' : World} {rv : Value} {rs : List (List Nat)} (h : RcO X W rv rs) (hb : Below W.heap.size W W') : RcO X W' rv rs := by
  obtain ⟨h0, base, zs, z1, z2, z3⟩ := h
  exact ⟨h0, base, zs, z1, own_below z2 hb (Nat.le_refl _), fun y hy => ⟨((z3 y hy).1.below hb).mono hb.size, (z3 y hy).2⟩⟩
theorem RcO.but {X : List Nat} {b : Nat} {W W' : World} {rv : Value} {rs : List (List Nat)} {cs : Array Value} (h : RcO X W rv rs) (hb : But [b] W W') (hW : W.heap[b]? = some (.cells cs rjT (0, 0))) (hv : ∀ (i x : Nat), cs[i]? ≠ some (encY x)) : RcO X W' rv rs := by
  obtain ⟨h0, base, ys, h1, h2, h3⟩ := h
  exact ⟨h0, base, ys, h1, own_far h2 hb hW, fun y hy => ⟨(h3 y hy).1.but hb (off_cells (h3 y hy).1 hW hv), (h3 y hy).2⟩⟩
/-- What turns in those blocks alone leaves them. -/
theorem RcO.dev {X : List Nat} {W W' : World} {rv : Value} {rs : List (List Nat)} (h : RcO X W rv rs) (hb : But X W W') : RcO X W' rv rs := by
  obtain ⟨h0, base, ys, h1, ⟨g1, g2⟩, h3⟩ := h
  refine ⟨h0, base, ys, h1, ⟨g1, ?_⟩, fun y hy => ⟨(h3 y hy).1.but hb (h3 y hy).2, (h3 y hy).2⟩⟩
  rcases g2 with g2 | ⟨g, cap, cur, hv', hg, hh, r⟩
  · exact .inl g2
  · exact .inr ⟨g, cap, cur, hv', hg, (hb.block g (Array.getElem?_eq_some_iff.1 hh).1 (h0 g (by rw [hv']; rfl))).trans hh, r⟩
theorem RcO.parts {X : List Nat} {W : World} {rv : Value} {rs : List (List Nat)} (h : RcO X W rv rs) : Parts W.heap.size W rv rs := by
  obtain ⟨_, base, ys, rfl, h3, h4⟩ := h
  rcases Nat.eq_zero_or_pos ys.length with h0 | h0
  · obtain ⟨a, c, hv⟩ := own_form h3
    rw [h0] at hv
    obtain rfl := List.eq_nil_of_length_eq_zero h0
    exact .inl ⟨rfl, a, c, hv⟩
  · rcases h3.2 with ⟨_, e⟩ | ⟨g, cap, cur, hv, hg, hcur, _⟩
    · omega
    · refine .inr ⟨g, 0, cap, by rw [List.length_map]; exact hv, (Array.getElem?_eq_some_iff.1 hcur).1, fun j l hj => ?_⟩
      rw [List.getElem?_map] at hj
      cases hy : ys[j]? with
      | none => rw [hy] at hj; cases hj
      | some y =>
        rw [hy] at hj
        cases hj
        rw [hv] at h3
        obtain ⟨g', hg', hc'⟩ := own_cell h3 (i := j) (u := y.2) (by rw [List.getElem?_map, hy]; rfl)
        cases hg'
        exact ⟨y.2, by rw [Nat.zero_add]; exact hc', (h4 y (List.mem_of_getElem? hy)).1⟩
theorem newV_off {w : World} {v : Value} {X : List Nat} (h : NewV w v) (hX : ∀ k ∈ X, k < w.heap.size) : Off X v := fun ad n c e _ hk => by
  have h1 := h ad n c e
  have h2 := hX _ hk
  omega
/-- What Read hands back. -/
def RdTo (w : World) (l : List Nat) (e : Ending) (w' : World) : Prop :=
  ∃ (sp rp : Option Addr) (sn sc rn rc : Nat) (ag en : Nat), e = .returned (.tuple #[jdV (.slice none 0 0) (.slice none 0 0) 0 0 (ag : Nat) (.slice sp sn sc) (.slice rp rn rc) (en : Nat), .bool (decide ((keptS l).1 ≠ 0))]) ∧ Below w.heap.size w w' ∧
    ((keptS l).1 ≠ 0 → ag = (keptS l).1 ∧ en = (keptS l).2.2 ∧ Sl encY w'.heap.size w' (.slice sp sn sc) (snapL (l.take en)) ∧ ∀ X : List Nat, (∀ k ∈ X, k < w.heap.size) → Off X (.slice sp sn sc) ∧ RcO X w' (.slice rp rn rc) (recsL (l.take en)))

theorem rdTo_bad {w w' : World} {l : List Nat} {sp : Option Addr} {sn sc : Nat} (h : keptS l = (0, 0, 0)) (hb : Below w.heap.size w w') :
    RdTo w l (.returned (.tuple #[jdV (.slice none 0 0) (.slice none 0 0) 0 0 0 (.slice sp sn sc) (.slice none 0 0) 0, .bool false])) w' := by
  refine ⟨sp, none, sn, sc, 0, 0, 0, 0, ?_, hb, fun h0 => absurd (by rw [h]) h0⟩
  rw [h]
  rfl
theorem rdTo_good {w w' : World} {l : List Nat} {sp rp : Option Addr} {sn sc rn rc ag en c : Nat} (hb : Below w.heap.size w w') (h : keptS l = (ag, c, en)) (h0 : ag ≠ 0) (hs : Sl encY w'.heap.size w' (.slice sp sn sc) (snapL (l.take en))) (hr : ∀ X : List Nat, (∀ k ∈ X, k < w.heap.size) → Off X (.slice sp sn sc) ∧ RcO X w' (.slice rp rn rc) (recsL (l.take en))) :
    RdTo w l (.returned (.tuple #[jdV (.slice none 0 0) (.slice none 0 0) 0 0 (ag : Nat) (.slice sp sn sc) (.slice rp rn rc) (en : Nat), .bool true])) w' := by
  refine ⟨sp, rp, sn, sc, rn, rc, ag, en, ?_, hb, fun _ => ⟨by rw [h], by rw [h], hs, hr⟩⟩
  have e : decide ((keptS l).1 ≠ 0) = true := decide_eq_true (by rw [h]; exact h0)
  rw [e]
theorem cellsJ8 {W : World} {b : Nat} {t : TypeId} {v0 v1 v2 v3 v4 v5 v6 v7 : Value} (h : W.heap[b]? = some (.cells #[v0, v1, v2, v3, v4, v5, v6, v7] t (0, 0))) :
    W.cell? ⟨b, 0, none⟩ = some v0 ∧ W.cell? ⟨b, 1, none⟩ = some v1 ∧ W.cell? ⟨b, 2, none⟩ = some v2 ∧ W.cell? ⟨b, 3, none⟩ = some v3 ∧ W.cell? ⟨b, 4, none⟩ = some v4 ∧ W.cell? ⟨b, 5, none⟩ = some v5 ∧ W.cell? ⟨b, 6, none⟩ = some v6 ∧ W.cell? ⟨b, 7, none⟩ = some v7 ∧ ∀ i, W.frozen? ⟨b, i, none⟩ = false :=
  ⟨cell_of_row W b 0 _ _ _ h, cell_of_row W b 1 _ _ _ h, cell_of_row W b 2 _ _ _ h, cell_of_row W b 3 _ _ _ h, cell_of_row W b 4 _ _ _ h, cell_of_row W b 5 _ _ _ h, cell_of_row W b 6 _ _ _ h, cell_of_row W b 7 _ _ _ h, fun i => frozen_of_row W b i _ _ h⟩
theorem set8_below {N b : Nat} {w W : World} {v0 v1 v2 v3 v4 v5 v6 v7 : Value} (h : Below N w W) (hb : N ≤ b) : Below N w ((((((((W.setCell ⟨b, 0, none⟩ v0).setCell ⟨b, 1, none⟩ v1).setCell ⟨b, 2, none⟩ v2).setCell ⟨b, 3, none⟩ v3).setCell ⟨b, 4, none⟩ v4).setCell ⟨b, 5, none⟩ v5).setCell ⟨b, 6, none⟩ v6).setCell ⟨b, 7, none⟩ v7) :=
  (((((((h.setCell (p := ⟨b, 0, none⟩) hb _).setCell (p := ⟨b, 1, none⟩) hb _).setCell (p := ⟨b, 2, none⟩) hb _).setCell (p := ⟨b, 3, none⟩) hb _).setCell (p := ⟨b, 4, none⟩) hb _).setCell (p := ⟨b, 5, none⟩) hb _).setCell (p := ⟨b, 6, none⟩) hb _).setCell (p := ⟨b, 7, none⟩) hb _
theorem bodK_flat (k : Nat) : ∀ (ks : List (Nat × List Nat)), (bodK k ks).flatten.length ≤ (ks.map Prod.snd).flatten.length
  | [] => Nat.le_refl _
  | x :: ks => by
    have ih := bodK_flat k ks
    unfold bodK at ih ⊢
    rw [List.filter_cons]
    split
    · simp at ih ⊢; omega
    · simp at ih ⊢; omega
theorem joinF_flat (ks : List (Nat × List Nat)) : (ks.map Prod.snd).flatten.length ≤ (joinF ks).length := by have := joinF_length ks; omega
/-- A world of the walk: the journal's block, and what lies beside it. -/
structure RdAt (w2 W : World) (N1 : Nat) (ag : Int) (sn rc : Value) (en : Int) : Prop where
  but : But [N1] w2 W
  row : W.heap[N1]? = some (.cells (jdC (.slice none 0 0) (.slice none 0 0) 0 0 ag sn rc en) rjT (0, 0))
theorem RdAt.below {w2 W W' : World} {N1 : Nat} {ag en : Int} {sn rc : Value} (h : RdAt w2 W N1 ag sn rc en) (hb : Below W.heap.size W W') : RdAt w2 W' N1 ag sn rc en :=
  ⟨h.but.trans' (But.of_below hb), (hb.block N1 (Array.getElem?_eq_some_iff.1 h.row).1).trans h.row⟩
theorem RdAt.low {w2 W W' : World} {N1 B : Nat} {ag en : Int} {sn rc : Value} (h : RdAt w2 W N1 ag sn rc en) (hb : Below B W W') (h1 : w2.heap.size ≤ B) (h2 : N1 < B) : RdAt w2 W' N1 ag sn rc en :=
  ⟨⟨hb.os.trans h.but.os, hb.tape.trans h.but.tape, hb.output.trans h.but.output, Nat.le_trans h.but.size hb.size, fun k hk hn => (hb.block k (Nat.lt_of_lt_of_le hk h1)).trans (h.but.block k hk hn)⟩, (hb.block N1 h2).trans h.row⟩
theorem cell_lt {W : World} {g i : Nat} {v : Value} (h : W.cell? ⟨g, i, none⟩ = some v) : g < W.heap.size := by
  apply Decidable.byContradiction
  intro hn
  have : W.heap[g]? = none := Array.getElem?_eq_none (by omega)
  simp [World.cell?, this] at h
theorem one_cellJ2 {W : World} {b : Nat} {x : Value} {t : TypeId} (h : W.heap[b]? = some (.cells #[x] t (0, 0))) : ∀ j u, [x][j]? = some u → W.cell? ((⟨b, 0, none⟩ : Addr).add j) = some u := by
  intro j u hj
  match j, hj with
  | 0, hj =>
    simp at hj
    subst hj
    have h1 := cell_of_row W b 0 _ _ _ h
    simpa [Addr.add] using h1
theorem rd_cell1 (w : World) (x : Value) (t : TypeId) : ∀ j u, [x][j]? = some u → (w.alloc (.cells #[x] t)).cell? ((⟨w.heap.size, 0, none⟩ : Addr).add j) = some u := new_cell1 w x t
theorem rd_below {N : Nat} {w w2 W : World} (h : Below N w w2) (hz : N ≤ w2.heap.size) (h2 : But [N + 1] w2 W) : Below N w W := h.trans (h2.below (n := N) (fun k hk => by simp at hk; omega) hz)

/-- What Read does, whatever it is handed. -/
def JRead : Prop := ∀ (a : Option Addr) (n c : Nat) (l : List Nat), Bytes l → ∀ (w : World), Sl encY w.heap.size w (.slice a n c) l → Calls Try.prog 48 #[.slice a n c] w (RdTo w l)
end Go.Proofs.Ytpllbojmonfeiaa
