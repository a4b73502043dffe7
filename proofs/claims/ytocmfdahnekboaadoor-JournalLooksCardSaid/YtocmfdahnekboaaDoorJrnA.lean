/- What a journal's region has, as lists. -/
import Derived.Test.YtocmfdahnekboaaDoorCodU
import Derived.Test.YtocmfdahnekboaaDoorFrameB
import Derived.BigQuiet
import Derived.Deep.QuietTactic
import Derived.Test.YtocmfdahnekboaaDoorFrameAl
namespace Go.Proofs.YtocmfdahnekboaaDoor
open Go.RowKit
set_option linter.unusedVariables false

/-- How far a region's frames have come. -/
structure OrdS where
  age : Nat
  pieces : Nat
  ready : Bool
def OrdS.next (s : OrdS) : Nat := if s.age = 0 then 1 else if 0 < s.pieces then 2 else if s.ready = true then 4 else 3
/-- What a head's body tells. -/
def headA (b : List Nat) : Nat := (wholeR b).1
def headP (b : List Nat) : Nat := (wholeR (uintR b 0).1).1
def headX (b : List Nat) : List Nat × Nat := uintR (uintR b 0).1 (uintR b 0).2
def headOk (b : List Nat) : Bool := decide (0 < headA b) && decide ((headX b).2 = 0) && decide ((headX b).1.length = 0)
/-- A frame more. -/
def takeS (s : OrdS) (k : Nat) (b : List Nat) : OrdS × Bool :=
  if k ≠ s.next then (s, false)
  else if k = 1 then (⟨headA b, headP b, s.ready⟩, headOk b)
  else if k = 2 then (⟨s.age, s.pieces - 1, s.ready⟩, decide (b.length = 4096) || (decide (s.pieces - 1 = 0) && decide (0 < b.length)))
  else if k = 3 then (⟨s.age, s.pieces, decide (b.length = 0)⟩, decide (b.length = 0))
  else (s, true)
/-- All frames, up to the first that isn't the one that must come: how many records, where the last one ends. -/
def goS (s : OrdS) (c e : Nat) : List (Nat × Nat × List Nat) → OrdS × Nat × Nat
  | [] => (s, c, e)
  | x :: xs => if (takeS s x.2.1 x.2.2).2 = true then goS (takeS s x.2.1 x.2.2).1 (if x.2.1 = 4 then c + 1 else c) (x.1 + (x.2.2.length + 7)) xs else ((takeS s x.2.1 x.2.2).1, c, e)
/-- What a region has: its age, how many records, where they end; age 0, if it doesn't count. -/
def keptS (l : List Nat) : Nat × Nat × Nat :=
  if (goS ⟨0, 0, false⟩ 0 0 (scanL l 0)).1.ready = true then ((goS ⟨0, 0, false⟩ 0 0 (scanL l 0)).1.age, (goS ⟨0, 0, false⟩ 0 0 (scanL l 0)).2.1, (goS ⟨0, 0, false⟩ 0 0 (scanL l 0)).2.2) else (0, 0, 0)

theorem goS_snoc (x : Nat × Nat × List Nat) : ∀ (ys : List (Nat × Nat × List Nat)) (s : OrdS) (c e : Nat) (s' : OrdS) (c' e' : Nat),
    (∀ z, goS s c e (ys ++ z) = goS s' c' e' z) → ∀ z, (takeS s' x.2.1 x.2.2).2 = true → goS s c e (ys ++ [x] ++ z) = goS (takeS s' x.2.1 x.2.2).1 (if x.2.1 = 4 then c' + 1 else c') (x.1 + (x.2.2.length + 7)) z := by
  intro ys s c e s' c' e' h z ht
  rw [List.append_assoc, h]
  show (if (takeS s' x.2.1 x.2.2).2 = true then _ else _) = _
  rw [if_pos ht]
  rfl
theorem headA_lt (b : List Nat) : headA b < 18446744073709551616 := wholeR_lt b
theorem headP_lt (b : List Nat) : headP b < 18446744073709551616 := wholeR_lt _
/-- The order of a region at block b. -/
structure OrdAt (W : World) (b : Nat) (s : OrdS) : Prop where
  blk : W.heap[b]? = some (.cells #[.int .u64 (s.age : Nat), .int .u64 (s.pieces : Nat), .bool s.ready] 116 (0, 0))
  age : s.age < 18446744073709551616
  pieces : s.pieces < 18446744073709551616
theorem OrdAt.lt {W : World} {b : Nat} {s : OrdS} (h : OrdAt W b s) : b < W.heap.size := (Array.getElem?_eq_some_iff.1 h.blk).1
theorem OrdAt.but {W W' : World} {own : List Nat} {b : Nat} {s : OrdS} (h : OrdAt W b s) (hb : But own W W') (hn : b ∉ own) : OrdAt W' b s := ⟨(hb.block b h.lt hn).trans h.blk, h.age, h.pieces⟩
theorem OrdAt.below {W W' : World} {n b : Nat} {s : OrdS} (h : OrdAt W b s) (hb : Below n W W') (hn : b < n) : OrdAt W' b s := ⟨(hb.block b hn).trans h.blk, h.age, h.pieces⟩
theorem OrdAt.c0 {W : World} {b : Nat} {s : OrdS} (h : OrdAt W b s) : W.cell? ⟨b, 0, none⟩ = some (.int .u64 (s.age : Nat)) := cell_of_row W b 0 _ _ _ h.blk
theorem OrdAt.c1 {W : World} {b : Nat} {s : OrdS} (h : OrdAt W b s) : W.cell? ⟨b, 1, none⟩ = some (.int .u64 (s.pieces : Nat)) := cell_of_row W b 1 _ _ _ h.blk
theorem OrdAt.c2 {W : World} {b : Nat} {s : OrdS} (h : OrdAt W b s) : W.cell? ⟨b, 2, none⟩ = some (.bool s.ready) := cell_of_row W b 2 _ _ _ h.blk
theorem OrdAt.frozen {W : World} {b : Nat} {s : OrdS} (h : OrdAt W b s) (i : Nat) : W.frozen? ⟨b, i, none⟩ = false := frozen_of_row W b i _ _ h.blk

set_option maxHeartbeats 400000 in
theorem next_any (b : Nat) (s : OrdS) (w : World) (h : OrdAt w b s) :
    Calls Tryd.prog 78 #[.pointer (some ⟨b, 0, none⟩)] w fun e w' => e = .returned (.int .i64 (s.next : Nat)) ∧ w = w' := by
  have c0 := h.c0
  have c1 := h.c1
  have c2 := h.c2
  obtain ⟨age, pieces, ready⟩ := s
  dsimp only at c0 c1 c2
  clear h
  by_cases h0 : age = 0
  · subst h0
    rw [show OrdS.next ⟨0, pieces, ready⟩ = 1 from rfl]
    go_enter Tryd.func78, Tryd.ntmps78
    go_wp2
    go_ret
    exact ⟨rfl, rfl⟩
  · have e0 : (((age : Nat) : Int) == 0) = false := beq_eq_false_iff_ne.2 (by omega)
    by_cases h1 : 0 < pieces
    · have e1 : (0 : Int) < (pieces : Nat) := by omega
      rw [show OrdS.next ⟨age, pieces, ready⟩ = 2 from by unfold OrdS.next; rw [if_neg h0, if_pos h1]]
      go_enter Tryd.func78, Tryd.ntmps78
      go_wp2
      go_ret
      exact ⟨rfl, rfl⟩
    · have e1 : ¬ (0 : Int) < (pieces : Nat) := by omega
      cases ready with
      | true =>
        rw [show OrdS.next ⟨age, pieces, true⟩ = 4 from by unfold OrdS.next; rw [if_neg h0, if_neg h1, if_pos rfl]]
        go_enter Tryd.func78, Tryd.ntmps78
        go_wp2
        go_ret
        exact ⟨rfl, rfl⟩
      | false =>
        rw [show OrdS.next ⟨age, pieces, false⟩ = 3 from by unfold OrdS.next; rw [if_neg h0, if_neg h1, if_neg Bool.false_ne_true]]
        go_enter Tryd.func78, Tryd.ntmps78
        go_wp2
        go_ret
        exact ⟨rfl, rfl⟩
end Go.Proofs.YtocmfdahnekboaaDoor

/- journal: order.take. -/
namespace Go.Proofs.YtocmfdahnekboaaDoor
open Go.RowKit
set_option linter.unusedVariables false
attribute [local go_sem] Oper.semAt_some

theorem next_quiet (b : Nat) (s : OrdS) (w : World) (h : OrdAt w b s) : ∀ n, Calls Tryd.prog 78 #[.pointer (some ⟨b, 0, none⟩)] (w.drewN n) fun e w' => e = .returned (.int .i64 (s.next : Nat)) ∧ ∃ q, w' = (w.drewN n).drewN q :=
  fun n => (next_any b s (w.drewN n) ⟨h.blk, h.age, h.pieces⟩).mono (by rintro e w' ⟨rfl, rfl⟩; exact ⟨rfl, 0, rfl⟩)
/-- The box of a frame that is handed over. -/
abbrev frBox (w : World) (k : Nat) (v : Value) : World := w.alloc (.cells #[.int .i64 (k : Nat), v] 66)
/-- What take does. -/
def TakeTo (b : Nat) (s : OrdS) (k : Nat) (l : List Nat) (w : World) (e : Ending) (w' : World) : Prop := e = .returned (.bool (takeS s k l).2) ∧ OrdAt w' b (takeS s k l).1 ∧ But [b] w w'

set_option maxRecDepth 100000 in
set_option maxHeartbeats 4000000 in
theorem take_no (b : Nat) (s : OrdS) (k : Nat) (a : Option Addr) (n c : Nat) (l : List Nat) (hk : k ≠ s.next) (w : World) (h : OrdAt w b s) :
    Calls Tryd.prog 73 #[.pointer (some ⟨b, 0, none⟩), .agg #[.int .i64 (k : Nat), .slice a n c]] w (TakeTo b s k l w) := by
  have e0 : takeS s k l = (s, false) := if_pos hk
  have hb : Below w.heap.size w (frBox w k (.slice a n c)) := (Below.refl _ _).alloc (Nat.le_refl _) _
  have HN := Lib.hid (next_quiet b s (frBox w k (.slice a n c)) (h.below hb h.lt))
  have HF : Hid (∀ q, OrdAt ((frBox w k (.slice a n c)).drewN q) b s ∧ But [b] w ((frBox w k (.slice a n c)).drewN q)) := Lib.hid (fun q => ⟨⟨(h.below hb h.lt).blk, h.age, h.pieces⟩, But.of_below (Below.drewN_r hb q)⟩)
  have HE := Lib.hid e0
  obtain ⟨N, hN⟩ : ∃ N, s.next = N := ⟨_, rfl⟩
  rw [hN] at HN hk
  have hkn : (((k : Nat) : Int) != ((N : Nat) : Int)) = true := by rw [bne_iff_ne]; omega
  clear hN h hb e0
  go_enter Tryd.func73, Tryd.ntmps73
  go_wp2_with fail
  go_quiet ((go_at_call 78; exact Calls.quiet_of (HN.out _)))
  all_goals go_wp2
  all_goals go_ret
  all_goals unfold TakeTo
  all_goals rw [HE.out]
  all_goals exact ⟨rfl, (HF.out _).1, (HF.out _).2⟩

set_option maxRecDepth 100000 in
set_option maxHeartbeats 4000000 in
theorem take_rec (b : Nat) (s : OrdS) (a : Option Addr) (n c : Nat) (l : List Nat) (hk : 4 = s.next) (w : World) (h : OrdAt w b s) :
    Calls Tryd.prog 73 #[.pointer (some ⟨b, 0, none⟩), .agg #[.int .i64 4, .slice a n c]] w (TakeTo b s 4 l w) := by
  have e0 : takeS s 4 l = (s, true) := by unfold takeS; rw [if_neg (by omega), if_neg (by omega), if_neg (by omega), if_neg (by omega)]
  have hb : Below w.heap.size w (frBox w 4 (.slice a n c)) := (Below.refl _ _).alloc (Nat.le_refl _) _
  have HN := Lib.hid (next_quiet b s (frBox w 4 (.slice a n c)) (h.below hb h.lt))
  rw [← hk] at HN
  have HF : Hid (∀ q, OrdAt ((frBox w 4 (.slice a n c)).drewN q) b s ∧ But [b] w ((frBox w 4 (.slice a n c)).drewN q)) := Lib.hid (fun q => ⟨⟨(h.below hb h.lt).blk, h.age, h.pieces⟩, But.of_below (Below.drewN_r hb q)⟩)
  have HE := Lib.hid e0
  clear h hb e0 hk
  go_enter Tryd.func73, Tryd.ntmps73
  go_wp2_with fail
  go_quiet ((go_at_call 78; exact Calls.quiet_of (HN.out _)))
  all_goals go_wp2
  all_goals go_ret
  all_goals unfold TakeTo
  all_goals rw [HE.out]
  all_goals exact ⟨rfl, (HF.out _).1, (HF.out _).2⟩
theorem OrdAt.set_ready {W : World} {b : Nat} {s : OrdS} (h : OrdAt W b s) (r : Bool) : OrdAt (W.setCell ⟨b, 2, none⟩ (.bool r)) b ⟨s.age, s.pieces, r⟩ := ⟨heap_setCell_same W b 2 _ _ _ h.blk, h.age, h.pieces⟩
theorem OrdAt.set_pieces {W : World} {b : Nat} {s : OrdS} (h : OrdAt W b s) (p : Nat) (hp : p < 18446744073709551616) : OrdAt (W.setCell ⟨b, 1, none⟩ (.int .u64 (p : Nat))) b ⟨s.age, p, s.ready⟩ := ⟨heap_setCell_same W b 1 _ _ _ h.blk, h.age, hp⟩
theorem OrdAt.set_age {W : World} {b : Nat} {s : OrdS} (h : OrdAt W b s) (p : Nat) (hp : p < 18446744073709551616) : OrdAt (W.setCell ⟨b, 0, none⟩ (.int .u64 (p : Nat))) b ⟨p, s.pieces, s.ready⟩ := ⟨heap_setCell_same W b 0 _ _ _ h.blk, hp, h.pieces⟩

set_option maxRecDepth 100000 in
set_option maxHeartbeats 4000000 in
theorem take_ready (b : Nat) (s : OrdS) (a : Option Addr) (c : Nat) (l : List Nat) (hk : 3 = s.next) (w : World) (h : OrdAt w b s) :
    Calls Tryd.prog 73 #[.pointer (some ⟨b, 0, none⟩), .agg #[.int .i64 3, .slice a l.length c]] w (TakeTo b s 3 l w) := by
  have e0 : takeS s 3 l = (⟨s.age, s.pieces, decide (l.length = 0)⟩, decide (l.length = 0)) := by unfold takeS; rw [if_neg (by omega), if_neg (by omega), if_neg (by omega), if_pos rfl]
  obtain ⟨n, hn⟩ : ∃ n, l.length = n := ⟨_, rfl⟩
  rw [hn] at e0 ⊢
  have hb : Below w.heap.size w (frBox w 3 (.slice a n c)) := (Below.refl _ _).alloc (Nat.le_refl _) _
  have hB := h.below hb h.lt
  have HN := Lib.hid (next_quiet b s (frBox w 3 (.slice a n c)) hB)
  rw [← hk] at HN
  obtain ⟨dz, hdz⟩ : ∃ dz, decide (n = 0) = dz := ⟨_, rfl⟩
  rw [hdz] at e0
  have hz : (((n : Nat) : Int) == 0) = dz := by
    rw [← hdz]
    by_cases h0 : n = 0
    · subst h0; rfl
    · rw [decide_eq_false h0]; exact beq_eq_false_iff_ne.2 (by omega)
  have hz2 : decide (((n : Nat) : Int) = 0) = dz := by
    rw [← hdz]
    by_cases h0 : n = 0
    · subst h0; rfl
    · rw [decide_eq_false h0, decide_eq_false (by omega)]
  have HF : Hid (∀ q, OrdAt ((frBox w 3 (.slice a n c)).drewN q) b s ∧ But [b] w ((frBox w 3 (.slice a n c)).drewN q)) := Lib.hid (fun q => ⟨⟨hB.blk, h.age, h.pieces⟩, But.of_below (Below.drewN_r hb q)⟩)
  have HE := Lib.hid e0
  have hlt := h.lt
  have c2 := h.c2
  have f2 := h.frozen 2
  clear h hb hB e0 hk hn hdz
  go_enter Tryd.func73, Tryd.ntmps73
  go_wp2_with fail
  go_quiet ((go_at_call 78; exact Calls.quiet_of (HN.out _)))
  all_goals go_wp2
  all_goals go_ret
  all_goals unfold TakeTo
  all_goals rw [HE.out]
  all_goals exact ⟨rfl, (HF.out _).1.set_ready _, (HF.out _).2.set (by simp) _⟩

set_option maxRecDepth 100000 in
set_option maxHeartbeats 4000000 in
theorem take_piece (b : Nat) (s : OrdS) (a : Option Addr) (c : Nat) (l : List Nat) (hk : 2 = s.next) (w : World) (h : OrdAt w b s) :
    Calls Tryd.prog 73 #[.pointer (some ⟨b, 0, none⟩), .agg #[.int .i64 2, .slice a l.length c]] w (TakeTo b s 2 l w) := by
  have e0 : takeS s 2 l = (⟨s.age, s.pieces - 1, s.ready⟩, decide (l.length = 4096) || (decide (s.pieces - 1 = 0) && decide (0 < l.length))) := by unfold takeS; rw [if_neg (by omega), if_neg (by omega), if_pos rfl]
  have hp : 0 < s.pieces := by
    apply Decidable.byContradiction
    intro hp
    unfold OrdS.next at hk
    rw [if_neg hp] at hk
    split at hk
    · omega
    · split at hk <;> omega
  obtain ⟨n, hn⟩ : ∃ n, l.length = n := ⟨_, rfl⟩
  rw [hn] at e0 ⊢
  obtain ⟨p, hp1⟩ : ∃ p, s.pieces - 1 = p := ⟨_, rfl⟩
  have hpl := h.pieces
  have hsub : ((s.pieces : Nat) : Int) - 1 = ((p : Nat) : Int) := by omega
  have hp2 : p < 18446744073709551616 := by omega
  rw [hp1] at e0
  have hb : Below w.heap.size w (frBox w 2 (.slice a n c)) := (Below.refl _ _).alloc (Nat.le_refl _) _
  have hB := h.below hb h.lt
  have HN := Lib.hid (next_quiet b s (frBox w 2 (.slice a n c)) hB)
  rw [← hk] at HN
  have HF : Hid (∀ q, OrdAt ((frBox w 2 (.slice a n c)).drewN q) b s ∧ But [b] w ((frBox w 2 (.slice a n c)).drewN q)) := Lib.hid (fun q => ⟨⟨hB.blk, h.age, h.pieces⟩, But.of_below (Below.drewN_r hb q)⟩)
  have hlt := h.lt
  have c1 := h.c1
  have f1 := h.frozen 1
  have HP2 := Lib.hid hp2
  clear h hb hB hk hn hp1 hp hp2
  by_cases h4 : n = 4096
  · subst h4
    have HE := Lib.hid e0
    clear e0
    go_enter Tryd.func73, Tryd.ntmps73
    go_wp2_with fail
    go_quiet ((go_at_call 78; exact Calls.quiet_of (HN.out _)))
    all_goals go_wp2
    all_goals go_ret
    all_goals unfold TakeTo
    all_goals rw [HE.out]
    all_goals exact ⟨rfl, (HF.out _).1.set_pieces _ HP2.out, (HF.out _).2.set (by simp) _⟩
  · have e4 : (((n : Nat) : Int) == 4096) = false := beq_eq_false_iff_ne.2 (by omega)
    rw [decide_eq_false h4, Bool.false_or] at e0
    by_cases hp0 : p = 0
    · subst hp0
      by_cases hn0 : 0 < n
      · have hni : (0 : Int) < (n : Nat) := by omega
        rw [decide_eq_true rfl, decide_eq_true hn0] at e0
        have HE := Lib.hid e0
        clear e0
        go_enter Tryd.func73, Tryd.ntmps73
        go_wp2_with fail
        go_quiet ((go_at_call 78; exact Calls.quiet_of (HN.out _)))
        all_goals go_wp2
        all_goals go_ret
        all_goals unfold TakeTo
        all_goals rw [HE.out]
        all_goals exact ⟨rfl, (HF.out _).1.set_pieces _ HP2.out, (HF.out _).2.set (by simp) _⟩
      · have hni : ¬ (0 : Int) < (n : Nat) := by omega
        rw [decide_eq_true rfl, decide_eq_false hn0] at e0
        have HE := Lib.hid e0
        clear e0
        go_enter Tryd.func73, Tryd.ntmps73
        go_wp2_with fail
        go_quiet ((go_at_call 78; exact Calls.quiet_of (HN.out _)))
        all_goals go_wp2
        all_goals go_ret
        all_goals unfold TakeTo
        all_goals rw [HE.out]
        all_goals exact ⟨rfl, (HF.out _).1.set_pieces _ HP2.out, (HF.out _).2.set (by simp) _⟩
    · have hpi : (((p : Nat) : Int) == 0) = false := beq_eq_false_iff_ne.2 (by omega)
      rw [decide_eq_false hp0, Bool.false_and] at e0
      have HE := Lib.hid e0
      clear e0
      go_enter Tryd.func73, Tryd.ntmps73
      go_wp2_with fail
      go_quiet ((go_at_call 78; exact Calls.quiet_of (HN.out _)))
      all_goals go_wp2
      all_goals go_ret
      all_goals unfold TakeTo
      all_goals rw [HE.out]
      all_goals exact ⟨rfl, (HF.out _).1.set_pieces _ HP2.out, (HF.out _).2.set (by simp) _⟩
end Go.Proofs.YtocmfdahnekboaaDoor

/- journal: order.take of a head; take as a whole. -/
namespace Go.Proofs.YtocmfdahnekboaaDoor
open Go.RowKit
set_option linter.unusedVariables false
attribute [local go_sem] Oper.semAt_some

theorem bytes_drop {l : List Nat} (h : Bytes l) (n : Nat) : Bytes (l.drop n) := ⟨by rw [List.length_drop]; have := h.1; omega, fun x hx => h.2 x (List.mem_of_mem_drop hx)⟩
theorem bytes_nil : Bytes [] := ⟨by simp, fun x hx => by cases hx⟩
theorem uintR_bytes {l : List Nat} (h : Bytes l) (e : Nat) : Bytes (uintR l e).1 := by
  unfold uintR
  split
  · exact bytes_drop h _
  · exact bytes_nil
/-- A block that holds an order holds no bytes. -/
theorem off_ord {n : Nat} {W : World} {ob : Nat} {s : OrdS} {sv : Value} {l : List Nat} (h : Sl encY n W sv l) (hX : OrdAt W ob s) : Off [ob] sv := fun ad m c e h0 hk => by
  rcases h with ⟨rfl, a, c', e', _⟩ | ⟨b, off, cap, e', hb, _, hc⟩
  · rw [e] at e'; cases e'; omega
  · rw [e] at e'
    simp only [Value.slice.injEq, Option.some.injEq] at e'
    obtain ⟨rfl, hm, _⟩ := e'
    simp at hk
    subst hk
    have h1 := hc 0 (l[0]'(by omega)) (List.getElem?_eq_getElem _)
    simp only [World.cell?, hX.blk, Nat.add_zero] at h1
    match off, h1 with
    | 0, h1 => simp [encY] at h1
    | 1, h1 => simp [encY] at h1
    | 2, h1 => simp [encY] at h1
    | k + 3, h1 => simp at h1
theorem InB.ord {n0 ib ob e : Nat} {s : OrdS} {W W' : World} {l : List Nat} (h : InB n0 W ib l e) (ho : OrdAt W ob s) (hb : But [ob] W W') (hne : ib ≠ ob) : InB n0 W' ib l e := by
  obtain ⟨v, h1, h2⟩ := h.blk
  exact ⟨Nat.le_trans h.le hb.size, v, (hb.block ib (Array.getElem?_eq_some_iff.1 h1).1 (by simp; exact hne)).trans h1, Sl.butN h.le h2 hb (off_ord h2 ho)⟩

set_option maxRecDepth 100000 in
set_option maxHeartbeats 8000000 in
theorem take_head (b : Nat) (s : OrdS) (a : Option Addr) (c : Nat) (l : List Nat) (hl : Bytes l) (hl2 : l.length ≤ 1048576) (hk : 1 = s.next) (w : World) (h : OrdAt w b s) (hS : Sl encY w.heap.size w (.slice a l.length c) l) :
    Calls Tryd.prog 73 #[.pointer (some ⟨b, 0, none⟩), .agg #[.int .i64 1, .slice a l.length c]] w (TakeTo b s 1 l w) := by
  have e0 : takeS s 1 l = (⟨headA l, headP l, s.ready⟩, headOk l) := by unfold takeS; rw [if_neg (by omega), if_pos rfl]
  have hBL := Lib.hid hl
  obtain ⟨n, hn⟩ : ∃ n, l.length = n := ⟨_, rfl⟩
  have HNL := Lib.hid hn
  rw [hn] at hS hl2 ⊢
  have hb : Below w.heap.size w (frBox w 1 (.slice a n c)) := (Below.refl _ _).alloc (Nat.le_refl _) _
  have hB := h.below hb h.lt
  have HN := Lib.hid (next_quiet b s (frBox w 1 (.slice a n c)) hB)
  rw [← hk] at HN
  have HF : Hid (∀ q, OrdAt ((frBox w 1 (.slice a n c)).drewN q) b s ∧ Below w.heap.size w ((frBox w 1 (.slice a n c)).drewN q)) := Lib.hid (fun q => ⟨⟨hB.blk, h.age, h.pieces⟩, Below.drewN_r hb q⟩)
  have HFR : Hid (∀ q, Calls Tryd.prog 79 #[.slice a n c] ((frBox w 1 (.slice a n c)).drewN q) fun e w' => ∃ b, e = .returned (.pointer (some ⟨b, 0, none⟩)) ∧ ((frBox w 1 (.slice a n c)).drewN q).heap.size ≤ b ∧ InB w'.heap.size w' b l 0 ∧ Below ((frBox w 1 (.slice a n c)).drewN q).heap.size ((frBox w 1 (.slice a n c)).drewN q) w') := Lib.hid (fun q => from_any a n c l (by omega) _ ((hS.below (Below.drewN_r hb q)).mono (Below.drewN_r hb q).size))
  have HE := Lib.hid e0
  have hlt := h.lt
  have hbx : (frBox w 1 (.slice a n c)).cell? ⟨w.heap.size, 1, none⟩ = some (.slice a n c) := cell_of_row _ _ 1 _ _ _ (World.alloc_heap_new w _)
  have HZF : Hid (w.heap.size ≤ (frBox w 1 (.slice a n c)).heap.size) := Lib.hid hb.size
  clear h hb hB hk hn e0 hS hl
  go_enter Tryd.func73, Tryd.ntmps73
  go_wp2_with fail
  go_quiet ((go_at_call 78; exact Calls.quiet_of (HN.out _)))
  rename_i nq
  go_wp2_with fail
  refine (HFR.out _).mono ?_
  rintro e w3 ⟨ib, rfl, hib, hI3, hb3⟩
  obtain ⟨hO2, hB2⟩ := HF.out nq
  have hib2 : w.heap.size ≤ ib := Nat.le_trans HZF.out hib
  have hO3 := hO2.below hb3 hO2.lt
  have hB3 : Below w.heap.size w w3 := hB2.trans (hb3.mono hB2.size)
  have hU := inUint_any w3.heap.size ib 0 l hBL.out w3 hI3
  have HU := Lib.hid hU
  have HO3 := Lib.hid hO3
  have HB3 := Lib.hid hB3
  clear hI3 hb3 hO2 hB2 hO3 hB3 hU HFR HF HN hib
  go_wp2_with fail
  refine HU.out.mono ?_
  rintro e w4 ⟨rfl, hI4, hb4⟩
  have HU5 := Lib.hid (inUint_any w3.heap.size ib (uintR l 0).2 (uintR l 0).1 (uintR_bytes hBL.out 0) w4 hI4)
  have hO4 := HO3.out.but hb4 (by simp; omega)
  have HO4 := Lib.hid hO4
  have Hb4 := Lib.hid hb4
  clear hI4 hb4 hO4 HU
  go_wp2_with fail
  refine HU5.out.mono ?_
  rintro e w5 ⟨rfl, hI5, hb5⟩
  have hO5 := HO4.out.but hb5 (by simp; omega)
  have g0 := hO5.c0
  have g1 := hO5.c1
  have f0 := hO5.frozen 0
  have f1 := hO5.frozen 1
  obtain ⟨A, hA⟩ : ∃ A, (wholeR l).1 = A := ⟨_, rfl⟩
  obtain ⟨Q, hQ⟩ : ∃ Q, (wholeR (uintR l 0).1).1 = Q := ⟨_, rfl⟩
  obtain ⟨X, hX⟩ : ∃ X, uintR (uintR l 0).1 (uintR l 0).2 = X := ⟨_, rfl⟩
  have hAlt : A < 18446744073709551616 := by rw [← hA]; exact wholeR_lt l
  have hQlt : Q < 18446744073709551616 := by rw [← hQ]; exact wholeR_lt _
  rw [hX] at hI5
  rw [hA, hQ]
  obtain ⟨XL, XE⟩ := X
  dsimp only at hI5
  have hXb : XL.length ≤ 1048576 := by
    have h1 : XL = (uintR (uintR l 0).1 (uintR l 0).2).1 := by rw [hX]
    have h2 : ∀ (l : List Nat) (e : Nat), (uintR l e).1.length ≤ l.length := fun l e => by
      unfold uintR; split
      · rw [List.length_drop]; omega
      · simp
    have h3 := h2 (uintR l 0).1 (uintR l 0).2
    have h4 := h2 l 0
    have h5 := HNL.out
    rw [h1]; omega
  have hput := (hO5.set_age A hAlt).set_pieces Q hQlt
  have hbut5 : But [b] w5 ((w5.setCell ⟨b, 0, none⟩ (.int .u64 (A : Nat))).setCell ⟨b, 1, none⟩ (.int .u64 (Q : Nat))) := ((But.refl _ _).set (by simp) _).set (by simp) _
  have hI6 := hI5.ord hO5 hbut5 (by omega)
  have HER := Lib.hid (err_any _ ib XE XL _ hI6)
  have HLF := Lib.hid (left_any _ ib XE XL hXb _ hI6)
  have hfin : OrdAt ((w5.setCell ⟨b, 0, none⟩ (.int .u64 (A : Nat))).setCell ⟨b, 1, none⟩ (.int .u64 (Q : Nat))) b ⟨A, Q, s.ready⟩ ∧ But [b] w ((w5.setCell ⟨b, 0, none⟩ (.int .u64 (A : Nat))).setCell ⟨b, 1, none⟩ (.int .u64 (Q : Nat))) :=
    ⟨hput, ((But.of_below ((HB3.out.trans ((Hb4.out.below (n := w.heap.size) (by simp; omega) HB3.out.size))).trans (hb5.below (n := w.heap.size) (by simp; omega) (Nat.le_trans HB3.out.size Hb4.out.size)))).trans' hbut5)⟩
  have HFIN := Lib.hid hfin
  have HHA : Hid (headA l = A) := Lib.hid hA
  have HHP : Hid (headP l = Q) := Lib.hid hQ
  have HHX : Hid (headX l = (XL, XE)) := Lib.hid hX
  clear hI5 hb5 hO5 hput hbut5 hI6 hfin hA hQ hX HU5 HO4 Hb4 HO3 HB3
  have fin : ∀ r, headOk l = r → TakeTo b s 1 l w (.returned (.bool r)) ((w5.setCell ⟨b, 0, none⟩ (.int .u64 (A : Nat))).setCell ⟨b, 1, none⟩ (.int .u64 (Q : Nat))) := fun r hr => by
    unfold TakeTo
    rw [HE.out, HHA.out, HHP.out]
    exact ⟨by rw [← hr], HFIN.out.1, HFIN.out.2⟩
  have FIN := Lib.hid fin
  have hok : headOk l = (decide (0 < A) && decide (XE = 0) && decide (XL.length = 0)) := by unfold headOk; rw [HHA.out, HHX.out]
  clear fin
  obtain ⟨L, hL⟩ : ∃ L, XL.length = L := ⟨_, rfl⟩
  rw [hL] at HLF hok
  by_cases hA0 : 0 < A
  · have hAi : (0 : Int) < (A : Nat) := by omega
    rw [decide_eq_true hA0, Bool.true_and] at hok
    by_cases hX0 : XE = 0
    · subst hX0
      rw [decide_eq_true rfl, Bool.true_and] at hok
      by_cases hL0 : L = 0
      · subst hL0
        rw [decide_eq_true rfl] at hok
        have HOK := Lib.hid hok
        clear hok hL
        go_wp2_with fail
        refine HER.out.mono ?_
        rintro e w' ⟨rfl, rfl⟩
        go_wp2_with fail
        refine HLF.out.mono ?_
        rintro e w' ⟨rfl, rfl⟩
        go_wp2
        go_ret
        exact FIN.out _ HOK.out
      · have hLi : (((L : Nat) : Int) == 0) = false := beq_eq_false_iff_ne.2 (by omega)
        rw [decide_eq_false hL0] at hok
        have HOK := Lib.hid hok
        clear hok hL
        go_wp2_with fail
        refine HER.out.mono ?_
        rintro e w' ⟨rfl, rfl⟩
        go_wp2_with fail
        refine HLF.out.mono ?_
        rintro e w' ⟨rfl, rfl⟩
        go_wp2
        go_ret
        exact FIN.out _ HOK.out
    · have hXi : (((XE : Nat) : Int) == 0) = false := beq_eq_false_iff_ne.2 (by omega)
      rw [decide_eq_false hX0, Bool.false_and] at hok
      have HOK := Lib.hid hok
      clear hok hL
      go_wp2_with fail
      refine HER.out.mono ?_
      rintro e w' ⟨rfl, rfl⟩
      go_wp2
      go_ret
      exact FIN.out _ HOK.out
  · have hAi : ¬ (0 : Int) < (A : Nat) := by omega
    rw [decide_eq_false hA0, Bool.false_and, Bool.false_and] at hok
    have HOK := Lib.hid hok
    clear hok hL
    go_wp2
    go_ret
    exact FIN.out _ HOK.out

theorem take_any (b : Nat) (s : OrdS) (k : Nat) (a : Option Addr) (c : Nat) (l : List Nat) (hl : Bytes l) (hl2 : l.length ≤ 1048576) (w : World) (h : OrdAt w b s) (hS : Sl encY w.heap.size w (.slice a l.length c) l) :
    Calls Tryd.prog 73 #[.pointer (some ⟨b, 0, none⟩), .agg #[.int .i64 (k : Nat), .slice a l.length c]] w (TakeTo b s k l w) := by
  by_cases hk : k = s.next
  · have h4 : s.next = 1 ∨ s.next = 2 ∨ s.next = 3 ∨ s.next = 4 := by
      unfold OrdS.next
      split
      · exact .inl rfl
      · split
        · exact .inr (.inl rfl)
        · split
          · exact .inr (.inr (.inr rfl))
          · exact .inr (.inr (.inl rfl))
    rcases h4 with h1 | h1 | h1 | h1
    · obtain rfl : k = 1 := by omega
      exact take_head b s a c l hl hl2 h1.symm w h hS
    · obtain rfl : k = 2 := by omega
      exact take_piece b s a c l h1.symm w h
    · obtain rfl : k = 3 := by omega
      exact take_ready b s a c l h1.symm w h
    · obtain rfl : k = 4 := by omega
      exact take_rec b s a l.length c l h1.symm w h
  · exact take_no b s k a l.length c l hk w h
end Go.Proofs.YtocmfdahnekboaaDoor

/- journal.read. -/
namespace Go.Proofs.YtocmfdahnekboaaDoor
open Go.RowKit Go.Shelf
set_option linter.unusedVariables false
attribute [local go_sem] Oper.semAt_some

/-- What a region has, at block b. -/
def KeptAt (W : World) (b age c e : Nat) : Prop := W.heap[b]? = some (.cells #[.int .u64 (age : Nat), .int .i64 (c : Nat), .int .i64 (e : Nat)] 69 (0, 0))
theorem KeptAt.lt {W : World} {b age c e : Nat} (h : KeptAt W b age c e) : b < W.heap.size := (Array.getElem?_eq_some_iff.1 h).1
theorem KeptAt.set_age {W : World} {b age c e : Nat} (h : KeptAt W b age c e) (x : Nat) : KeptAt (W.setCell ⟨b, 0, none⟩ (.int .u64 (x : Nat))) b x c e := heap_setCell_same W b 0 _ _ _ h
theorem KeptAt.set_c {W : World} {b age c e : Nat} (h : KeptAt W b age c e) (x : Nat) : KeptAt (W.setCell ⟨b, 1, none⟩ (.int .i64 (x : Nat))) b age x e := heap_setCell_same W b 1 _ _ _ h
theorem KeptAt.set_e {W : World} {b age c e : Nat} (h : KeptAt W b age c e) (x : Nat) : KeptAt (W.setCell ⟨b, 2, none⟩ (.int .i64 (x : Nat))) b age c x := heap_setCell_same W b 2 _ _ _ h
theorem KeptAt.but {W W' : World} {own : List Nat} {b age c e : Nat} (h : KeptAt W b age c e) (hb : But own W W') (hn : b ∉ own) : KeptAt W' b age c e := (hb.block b h.lt hn).trans h
theorem scan_len (L : List Nat) : ∀ (n a : Nat), L.length - a ≤ n → (scanL L a).length ≤ L.length - a
  | 0, a, h => by rw [scanL_end (by omega)]; exact Nat.zero_le _
  | n + 1, a, h => by
    by_cases hlt : a < L.length
    · by_cases hz : readE (L.drop a) = 0
      · have hs := step_le hlt hz
        rw [scanL_step hlt hz, List.length_cons]
        have := scan_len L n (a + readN (L.drop a)) (by omega)
        omega
      · rw [scanL_bad hz]; exact Nat.zero_le _
    · rw [scanL_end (by omega)]; exact Nat.zero_le _
theorem scan_bytes (L : List Nat) (hL : ∀ y ∈ L, y < 256) : ∀ (n a : Nat), L.length - a ≤ n → ∀ x ∈ scanL L a, ∀ y ∈ x.2.2, y < 256
  | 0, a, h, x, hx => by rw [scanL_end (by omega)] at hx; cases hx
  | n + 1, a, h, x, hx => by
    by_cases hlt : a < L.length
    · by_cases hz : readE (L.drop a) = 0
      · have hs := step_le hlt hz
        rw [scanL_step hlt hz] at hx
        rcases List.mem_cons.1 hx with rfl | hx
        · intro y hy
          have hy' : y ∈ readB (L.drop a) := hy
          unfold readB at hy'
          rw [if_pos hz] at hy'
          exact hL y (List.mem_of_mem_drop (List.mem_of_mem_take (List.mem_of_mem_drop hy')))
        · exact scan_bytes L hL n (a + readN (L.drop a)) (by omega) x hx
      · rw [scanL_bad hz] at hx; cases hx
    · rw [scanL_end (by omega)] at hx; cases hx
theorem sl_putO {W : World} {l n : Nat} {o : Obj} {r : Loop} {v : Value} {xs : List Nat} (h : Sl encY n W v xs) (hl : W.heap[l]? = some (.loop r)) : Sl encY n (W.putObj l o) v xs := by
  rcases h with h | ⟨b, off, cap, e, hb, hcap, hc⟩
  · exact .inl h
  · refine .inr ⟨b, off, cap, e, hb, hcap, fun j x hj => ?_⟩
    have h1 := hc j x hj
    have hne : b ≠ l := by
      rintro rfl
      simp only [World.cell?, hl] at h1
      cases h1
    exact (World.cell?_of_block (a := ⟨b, off + j, none⟩) (World.putObj_heap_other hne)).trans h1
/-- While the frames are gone through. -/
def ReadI (N : Nat) (pre : List FX) (W : World) : Prop := ∃ s c e, (∀ z, goS ⟨0, 0, false⟩ 0 0 (pre.map Prod.fst ++ z) = goS s c e z) ∧ c ≤ pre.length ∧ KeptAt W (N + 1) 0 c e ∧ OrdAt W (N + 1 + 1) s ∧ KeptAt W N 0 0 0
/-- Where it ends early. -/
def ReadX (N : Nat) (L : List Nat) (cd : Code) (pre : List FX) (W : World) : Prop := cd = .exit 0 ∧ ∃ s c e, goS ⟨0, 0, false⟩ 0 0 (scanL L 0) = (s, c, e) ∧ KeptAt W (N + 1) 0 c e ∧ OrdAt W (N + 1 + 1) s ∧ KeptAt W N 0 0 0
theorem keeps_kept {W W' : World} {row : Option Nat} {B b age c e : Nat} (h : KeptAt W b age c e) (hg : W.grownBy W' row) (hr : ∀ r, row = some r → B ≤ r ∧ ∃ o : Obj, W.heap[r]? = some o ∧ o.isCells = false) (hb : b < B) : KeptAt W' b age c e := keeps_block hg hr hb h
theorem keeps_ord {W W' : World} {row : Option Nat} {B b : Nat} {s : OrdS} (h : OrdAt W b s) (hg : W.grownBy W' row) (hr : ∀ r, row = some r → B ≤ r ∧ ∃ o : Obj, W.heap[r]? = some o ∧ o.isCells = false) (hb : b < B) : OrdAt W' b s := ⟨keeps_block hg hr hb h.blk, h.age, h.pieces⟩
def RI (w : World) (pre : List FX) (W : World) : Prop := ReadI w.heap.size pre W ∧ Below w.heap.size w W
def RX (w : World) (L : List Nat) (cd : Code) (pre : List FX) (W : World) : Prop := ReadX w.heap.size L cd pre W ∧ Below w.heap.size w W
theorem RI_own {w : World} {B : Nat} (hB : w.heap.size + 2 < B) : OwnFrom B (RI w) := fun s W W' row ⟨⟨o, c, e, h1, h2, h3, h4, h5⟩, hb⟩ hg hr =>
  ⟨⟨o, c, e, h1, h2, keeps_kept h3 hg hr (by omega), keeps_ord h4 hg hr (by omega), keeps_kept h5 hg hr (by omega)⟩, ownFrom_below (β := Unit) (Nat.le_refl _) (show w.heap.size ≤ B by omega) () W W' row hb hg hr⟩
theorem RX_own {w : World} {L : List Nat} {B : Nat} (hB : w.heap.size + 2 < B) (cd : Code) : OwnFrom B (RX w L cd) := fun s W W' row ⟨⟨h0, o, c, e, h1, h3, h4, h5⟩, hb⟩ hg hr =>
  ⟨⟨h0, o, c, e, h1, keeps_kept h3 hg hr (by omega), keeps_ord h4 hg hr (by omega), keeps_kept h5 hg hr (by omega)⟩, ownFrom_below (β := Unit) (Nat.le_refl _) (show w.heap.size ≤ B by omega) () W W' row hb hg hr⟩
theorem RI_set {w : World} {pre : List FX} {W : World} (h : RI w pre W) {r : Nat} (hr : w.heap.size + 2 < r) (v : Value) : RI w pre (W.setCell ⟨r, 0, none⟩ v) := by
  obtain ⟨⟨o, c, e, h1, h2, h3, h4, h5⟩, hb⟩ := h
  have hbt : But [r] W (W.setCell ⟨r, 0, none⟩ v) := (But.refl _ _).set (by simp) _
  exact ⟨⟨o, c, e, h1, h2, h3.but hbt (by simp; omega), h4.but hbt (by simp; omega), h5.but hbt (by simp; omega)⟩, hb.setCell (p := ⟨r, 0, none⟩) (by show w.heap.size ≤ r; omega) v⟩
theorem RX_set {w : World} {L : List Nat} {cd : Code} {pre : List FX} {W : World} (h : RX w L cd pre W) {r : Nat} (hr : w.heap.size + 2 < r) (v : Value) : RX w L cd pre (W.setCell ⟨r, 0, none⟩ v) := by
  obtain ⟨⟨h0, o, c, e, h1, h3, h4, h5⟩, hb⟩ := h
  have hbt : But [r] W (W.setCell ⟨r, 0, none⟩ v) := (But.refl _ _).set (by simp) _
  exact ⟨⟨h0, o, c, e, h1, h3.but hbt (by simp; omega), h4.but hbt (by simp; omega), h5.but hbt (by simp; omega)⟩, hb.setCell (p := ⟨r, 0, none⟩) (by show w.heap.size ≤ r; omega) v⟩
def rdA (A : Act) (z : Nat) (x : FX) (a' : Act) (W : World) : Prop :=
  ∃ Bx va vc, z ≤ Bx ∧ x.2 = .slice va x.1.2.2.length vc ∧ FrameAt W Bx x ∧ Sl encY W.heap.size W x.2 x.1.2.2 ∧ a' = { tmps := (((A.tmps.setIfInBounds 9 (.int .i64 x.1.1)).setIfInBounds 10 (.agg #[.int .i64 x.1.2.1, x.2])).setIfInBounds 5 (.int .i64 x.1.1)).setIfInBounds 6 (.pointer (some ⟨Bx, 0, none⟩)), defers := [] }
theorem keepsFrom_but {own : List Nat} {B : Nat} {W W' : World} (h : But own W W') (ho : ∀ k ∈ own, k < B) : KeepsFrom B W W' :=
  ⟨h.size, fun k o hB hk _ => (h.block k (Array.getElem?_eq_some_iff.1 hk).1 (fun hm => by have := ho k hm; omega)).trans hk⟩
theorem kept_res (f : Func) (s : Nat) (hf : f.results = #[.cell s 69]) (tmps : Array Value) (w : World) (b : Nat) (v0 v1 v2 : Value) (hp : tmps.getD s undef = .pointer (some ⟨b, 0, none⟩))
    (hg : w.heap[b]? = some (.cells #[v0, v1, v2] 69 (0, 0))) : (results f tmps).run Tryd.prog w = .ok (.agg #[v0, v1, v2]) w := by
  have hp' : tmps[s]?.getD undef = .pointer (some ⟨b, 0, none⟩) := by simpa using hp
  have k1 := run_loadVar_row (P := Tryd.prog) w b 69 69 #[v0, v1, v2] (0, 0) _ hg Tryd.underlying69 rfl (by kernel_rfl)
  simp [results, hf, hp', asAddr, k1]

theorem kept_put {W : World} {b age c e : Nat} (h : KeptAt W b age c e) (x y : Nat) (xi yi : Int) (hx : xi = x) (hy : yi = y) : KeptAt ((W.setCell ⟨b, 1, none⟩ (.int .i64 xi)).setCell ⟨b, 2, none⟩ (.int .i64 yi)) b age x y := by
  subst hx; subst hy; exact (h.set_c x).set_e y
theorem kept_put1 {W : World} {b age c e : Nat} (h : KeptAt W b age c e) (y : Nat) (yi : Int) (hy : yi = y) : KeptAt (W.setCell ⟨b, 2, none⟩ (.int .i64 yi)) b age c y := by
  subst hy; exact h.set_e y
theorem kpo_but {own bs : List Nat} {w W W' : World} (h : But own W W') (hlt : ∀ k ∈ bs, k < W.heap.size) (hn : ∀ k ∈ bs, k ∉ own) : KpO 0 0 bs w W W' :=
  ⟨⟨h.os, h.tape, h.output, h.size, fun k hk => by omega⟩, fun k h1 h2 => by omega, fun k hk => h.block k (hlt k hk) (hn k hk)⟩

set_option maxRecDepth 100000 in
set_option maxHeartbeats 8000000 in
theorem jread_any (a : Option Addr) (c : Nat) (L : List Nat) (hL : Bytes L) (hL2 : L.length ≤ 1048576) (w : World) (hS : Sl encY w.heap.size w (.slice a L.length c) L) :
    Calls Tryd.prog 63 #[.slice a L.length c] w fun e w' => e = .returned (.agg #[.int .u64 ((keptS L).1 : Nat), .int .i64 ((keptS L).2.1 : Nat), .int .i64 ((keptS L).2.2 : Nat)]) ∧ Below w.heap.size w w' := by
  have HB := Lib.hid hL
  have HS := Lib.hid hS
  obtain ⟨n, hn⟩ : ∃ n, L.length = n := ⟨_, rfl⟩
  have HN := Lib.hid hn
  rw [hn] at HS hL2 ⊢
  clear hn hS hL
  have hz := zframe
  have hzk : ∀ (w : World), (zeroValue 69).run Tryd.prog w = .ok (.agg #[.int .u64 0, .int .i64 0, .int .i64 0]) w := fun w => by kernel_rfl
  have hzo : ∀ (w : World), (zeroValue 116).run Tryd.prog w = .ok (.agg #[.int .u64 0, .int .u64 0, .bool false]) w := fun w => by kernel_rfl
  refine (callsIn_wide (n := 3)).1 ?_
  refine callsIn_of_wp_marks Tryd.func63 rfl trivial ?_ rfl
  simp only [Tryd.ntmps63, List.size_toArray, List.length_cons, List.length_nil, Nat.reduceAdd, Nat.reduceSub, Array.replicate_succ, Array.replicate_zero, List.push_toArray, List.append_toArray, List.nil_append, List.cons_append]
  refine wpIn_wide.2 ?_
  go_wp2_with fail
  obtain ⟨w3, hw3⟩ : ∃ w3, (((w.alloc (.cells #[.int .u64 0, .int .i64 0, .int .i64 0] 69)).alloc (.cells #[.int .u64 0, .int .i64 0, .int .i64 0] 69)).alloc (.cells #[.int .u64 0, .int .u64 0, .bool false] 116)) = w3 := ⟨_, rfl⟩
  rw [hw3]
  have z3 : w.heap.size + 1 + 1 < w3.heap.size := by rw [← hw3]; simp
  have K0 : KeptAt w3 w.heap.size 0 0 0 := by rw [← hw3]; exact (Below.heap_alloc _ _ _ (by simp; omega)).trans ((Below.heap_alloc _ _ _ (by simp)).trans (World.alloc_heap_new w _))
  have K1 : KeptAt w3 (w.heap.size + 1) 0 0 0 := by
    rw [← hw3]
    have := World.alloc_heap_new (w.alloc (.cells #[.int .u64 0, .int .i64 0, .int .i64 0] 69)) (.cells #[.int .u64 0, .int .i64 0, .int .i64 0] 69)
    rw [World.size_alloc] at this
    exact (Below.heap_alloc _ _ _ (by simp)).trans this
  have O3 : OrdAt w3 (w.heap.size + 1 + 1) ⟨0, 0, false⟩ := by
    rw [← hw3]
    have := World.alloc_heap_new ((w.alloc (.cells #[.int .u64 0, .int .i64 0, .int .i64 0] 69)).alloc (.cells #[.int .u64 0, .int .i64 0, .int .i64 0] 69)) (.cells #[.int .u64 0, .int .u64 0, .bool false] 116)
    simp only [World.size_alloc] at this
    exact ⟨this, by decide, by decide⟩
  have hb3 : Below w.heap.size w w3 := by rw [← hw3]; exact (((Below.refl _ w).alloc (Nat.le_refl _) _).alloc (by simp) _).alloc (by simp; omega) _
  have HSC := Lib.hid (scan_any a n c L (by rw [HN.out]; exact hL2) w3 ((HS.out.below hb3).mono hb3.size))
  rw [HN.out] at HSC
  clear hw3
  refine HSC.out.mono ?_
  rintro e w10 ⟨Bs, g, vsa, vsc, rfl, hs1, hs2, hs3, hs4, hcB, hSB, hkB, hb10⟩
  have hI0 : RI w [] w10 := ⟨⟨⟨0, 0, false⟩, 0, 0, fun z => rfl, Nat.le_refl _, (hb10.block _ (by omega)).trans K1, O3.below hb10 (by omega), (hb10.block _ (by omega)).trans K0⟩, hb3.trans (hb10.mono hb3.size)⟩
  have HI0 := Lib.hid hI0
  have hz10 := hb10.size
  clear hI0 hb10 HSC K0 K1 O3 hb3
  go_wp2_with fail
  rename_i K' hKQ
  refine (wpIn_wide (n := 3)).1 ?_
  refine wpIn_act ?_
  intro A hA
  have HSB := Lib.hid (scan_bound L L.length 0 (by omega))
  have HSL := Lib.hid (scan_len L L.length 0 (by omega))
  have HSY := Lib.hid (scan_bytes L HB.out.2 L.length 0 (by omega))
  have tail : ∀ (D : Nat) (W : World) (s : OrdS) (c0 e0 : Nat), w10.heap.size ≤ D → goS ⟨0, 0, false⟩ 0 0 (scanL L 0) = (s, c0, e0) → KeptAt W (w.heap.size + 1) 0 c0 e0 → OrdAt W (w.heap.size + 1 + 1) s → KeptAt W w.heap.size 0 0 0 → Below w.heap.size w W → W.heap[D]? = some (.deferred (some [])) →
      K' { A with defers := { target := .collected D, args := #[] } :: A.defers } W := by
    intro D W s c0 e0 hD hg hK1 hO hK0 hBW hK
    have hDl := (Array.getElem?_eq_some_iff.1 hK).1
    have o0 := hO.c0
    have o2 := hO.c2
    have k0 : W.cell? ⟨w.heap.size + 1, 0, none⟩ = some (.int .u64 0) := cell_of_row W _ 0 _ _ _ hK1
    have k1 : W.cell? ⟨w.heap.size + 1, 1, none⟩ = some (.int .i64 (c0 : Nat)) := cell_of_row W _ 1 _ _ _ hK1
    have k2 : W.cell? ⟨w.heap.size + 1, 2, none⟩ = some (.int .i64 (e0 : Nat)) := cell_of_row W _ 2 _ _ _ hK1
    have g0 := frozen_of_row W (w.heap.size + 1) 0 _ _ hK1
    have r0 : W.cell? ⟨w.heap.size, 0, none⟩ = some (.int .u64 0) := cell_of_row W _ 0 _ _ _ hK0
    have r1 : W.cell? ⟨w.heap.size, 1, none⟩ = some (.int .i64 0) := cell_of_row W _ 1 _ _ _ hK0
    have r2 : W.cell? ⟨w.heap.size, 2, none⟩ = some (.int .i64 0) := cell_of_row W _ 2 _ _ _ hK0
    have q0 := frozen_of_row W w.heap.size 0 _ _ hK0
    have q1 := frozen_of_row W w.heap.size 1 _ _ hK0
    have q2 := frozen_of_row W w.heap.size 2 _ _ hK0
    obtain ⟨age, pc, rdy⟩ := s
    dsimp only at o0 o2
    have HG := Lib.hid hg
    have HK1 := Lib.hid hK1
    have HK0 := Lib.hid hK0
    have HBW := Lib.hid hBW
    have HKD := Lib.hid hK
    have hDN : w.heap.size + 1 + 1 < D := by omega
    clear hg hK1 hO hK0 hBW hK
    rw [hA]
    refine hKQ _ _ ?_
    cases rdy with
    | false =>
      have HV : Hid (keptS L = (0, 0, 0)) := Lib.hid (by unfold keptS; rw [HG.out]; exact if_neg Bool.false_ne_true)
      go_wp2
      obtain ⟨U, hU⟩ : ∃ U, (((W.setCell ⟨w.heap.size, 0, none⟩ (.int .u64 0)).setCell ⟨w.heap.size, 1, none⟩ (.int .i64 0)).setCell ⟨w.heap.size, 2, none⟩ (.int .i64 0)) = U := ⟨_, rfl⟩
      rw [hU]
      have hbt : But [w.heap.size, w.heap.size + 1] W U := by rw [← hU]; exact (((But.refl _ _).set (by simp) _).set (by simp) _).set (by simp) _
      have hKU : KeptAt U w.heap.size 0 0 0 := by rw [← hU]; exact ((HK0.out.set_age 0).set_c 0).set_e 0
      have hBU : Below w.heap.size w U := HBW.out.trans (hbt.below (n := w.heap.size) (by simp) HBW.out.size)
      have hKD2 := (hbt.block D hDl (by simp; omega)).trans HKD.out
      refine ⟨by simp, .inl ⟨_, _, rfl, run_takeDeferred hKD2, ?_⟩⟩
      refine ⟨_, kept_res _ 2 rfl _ _ w.heap.size _ _ _ rfl ((World.putObj_heap_other (by omega)).trans hKU), ?_, hBU.trans (belowK_b (w := w) (Nat.le_refl _) _ D _ (.deferred none) (by omega) hKD2 rfl rfl)⟩
      rw [HV.out]
    | true =>
      have HV : Hid (keptS L = (age, c0, e0)) := Lib.hid (by unfold keptS; rw [HG.out]; exact if_pos rfl)
      go_wp2
      obtain ⟨U, hU⟩ : ∃ U, ((((W.setCell ⟨w.heap.size + 1, 0, none⟩ (.int .u64 (age : Nat))).setCell ⟨w.heap.size, 0, none⟩ (.int .u64 (age : Nat))).setCell ⟨w.heap.size, 1, none⟩ (.int .i64 (c0 : Nat))).setCell ⟨w.heap.size, 2, none⟩ (.int .i64 (e0 : Nat))) = U := ⟨_, rfl⟩
      rw [hU]
      have hbt : But [w.heap.size, w.heap.size + 1] W U := by rw [← hU]; exact ((((But.refl _ _).set (by simp) _).set (by simp) _).set (by simp) _).set (by simp) _
      have hKU : KeptAt U w.heap.size age c0 e0 := by rw [← hU]; exact (((HK0.out.but (own := [w.heap.size + 1]) ((But.refl _ _).set (by simp) _) (by simp)).set_age age).set_c c0).set_e e0
      have hBU : Below w.heap.size w U := HBW.out.trans (hbt.below (n := w.heap.size) (by simp) HBW.out.size)
      have hKD2 := (hbt.block D hDl (by simp; omega)).trans HKD.out
      refine ⟨by simp, .inl ⟨_, _, rfl, run_takeDeferred hKD2, ?_⟩⟩
      refine ⟨_, kept_res _ 2 rfl _ _ w.heap.size _ _ _ rfl ((World.putObj_heap_other (by omega)).trans hKU), ?_, hBU.trans (belowK_b (w := w) (Nat.le_refl _) _ D _ (.deferred none) (by omega) hKD2 rfl rfl)⟩
      rw [HV.out]
  refine rangeS rfl (by omega) (gf := 61) (lb := #[.pointer (some ⟨Bs, 0, none⟩)]) (by rw [hA]; rfl) trivial (enters_of Tryd.func61 (by kernel_rfl) rfl)
    (frames1 Bs 0 [Bs, g] L HB.out vsa n vsc w10 (Nat.zero_le _) (fun k hk => by simp at hk; omega) (.inr (by simp)) (fun ad m c' e h0 => by
      rcases hkB ad m c' e h0 with h | h
      · exact .inl h
      · exact .inr (by simp at h; simp [h])) hcB hSB) (rdA A w10.heap.size)
    (fun x a' W l o r hl ⟨Bx, va, vc, h1, h2, h3, h4, h5⟩ => ⟨Bx, va, vc, h1, h2, h3.putObj hl, by have := sl_putO (o := o) h4 hl; simpa using this, h5⟩) (fun r h => by simp at h; omega) (Nat.zero_le _) (Below.refl _ _) (fun _ => rfl)
    (RI w) (RX w L) (RI_own (by omega)) (fun cd => RX_own (by omega) cd)
    (fun s W r v hr h => by simp at hr; exact RI_set h (by omega) v) (fun cd s W r v hr h => by simp at hr; exact RX_set h (by omega) v)
    HI0.out ?assign ?body ?done ?stop
  case assign =>
    rintro l pre ⟨⟨p, kk, bd⟩, v⟩ W K hi hry hz3 hK
    obtain ⟨va, vc, hv⟩ := (show Sl encY _ W v bd from hry).form
    subst hv
    dsimp only [encF]
    have hryA := (hry.below ((Below.refl W.heap.size W).alloc (Nat.le_refl _) (.cells #[.int .i64 kk, .slice va bd.length vc] 66))).mono (m := (W.alloc (.cells #[.int .i64 kk, .slice va bd.length vc] 66)).heap.size) (by simp)
    have HRY := Lib.hid hryA
    have hiA : RI w pre (W.alloc (.cells #[.int .i64 kk, .slice va bd.length vc] 66)) := (RI_own (w := w) (B := w10.heap.size) (by omega)).alloc _ hi
    have HIA := Lib.hid hiA
    clear hryA hry hiA
    rw [hA]
    gi_wp2
    refine hK _ _ ((KeepsOthers.alloc _ _).from _) ⟨(Below.refl _ W).alloc (Nat.zero_le _) _, fun k h1 h2 => by omega, fun k hk => Below.heap_alloc W _ _ (by simp at hk; omega)⟩ HIA.out ?_
    exact ⟨W.heap.size, va, vc, by omega, rfl, World.alloc_heap_new W _, HRY.out, by rw [hA]; rfl⟩
  case body =>
    rintro l pre ⟨⟨p, kk, bd⟩, v⟩ a' W hI hp hz3 ⟨Bx, va, vc, hBx, hv, hF, hSv, rfl⟩
    dsimp only at hv
    subst hv
    have hmem : (p, kk, bd) ∈ scanL L 0 := hp.subset (List.mem_map.2 ⟨((p, kk, bd), .slice va bd.length vc), List.mem_append_right _ (List.mem_singleton.2 rfl), rfl⟩)
    have hpb := (HSB.out (p, kk, bd) hmem).2
    dsimp only at hpb
    have hpl : pre.length < L.length := by
      have h1 := hp.length_le
      have h2 := HSL.out
      simp at h1
      omega
    obtain ⟨⟨s, c0, e0, hgo, hc0, hK1, hO, hK0⟩, hBW⟩ := hI
    unfold FrameAt at hF
    dsimp only at hF hSv
    obtain ⟨tl, htl⟩ := hp
    rw [List.map_append, List.append_assoc] at htl
    have hgx := hgo ([(p, kk, bd)] ++ tl)
    rw [show pre.map Prod.fst ++ ([(p, kk, bd)] ++ tl) = scanL L 0 from htl] at hgx
    have hbb : Bytes bd := ⟨by have := HB.out.1; omega, fun y hy => HSY.out (p, kk, bd) hmem y hy⟩
    obtain ⟨f1, f2, f3, f4⟩ := cell2 hF
    have HT := Lib.hid (take_any (w.heap.size + 1 + 1) s kk va vc bd hbb (by rw [HN.out] at hpb; omega) W hO hSv)
    unfold TakeTo at HT
    obtain ⟨T, hT⟩ : ∃ T, takeS s kk bd = T := ⟨_, rfl⟩
    obtain ⟨s', ok⟩ := T
    rw [hT] at HT
    dsimp only at HT
    rw [HN.out] at hpb hpl
    have HGX := Lib.hid hgx
    have HTT := Lib.hid hT
    have HK1 := Lib.hid hK1
    have HK0 := Lib.hid hK0
    have HBW := Lib.hid hBW
    have HGO := Lib.hid hgo
    have hFlt := (Array.getElem?_eq_some_iff.1 hF).1
    have HF := Lib.hid hF
    obtain ⟨q, hq⟩ : ∃ q, bd.length = q := ⟨_, rfl⟩
    have HQ := Lib.hid hq
    rw [hq] at f2 HT hpb HF ⊢
    clear hgx hT hK1 hK0 hBW hgo hbb hO hSv htl hq hF hmem
    rw [hA]
    gi_wp2_with fail
    refine ⟨trivial, ?_⟩
    refine (CallsIn.inRound l (callsIn_wide.2 HT.out)).mono ?_
    rintro e w11 ⟨rfl, hO11, hb11⟩
    have hBxn : Bx ∉ [w.heap.size + 1 + 1] := by simp; omega
    have hF11 := (hb11.block Bx hFlt hBxn).trans HF.out
    have hK11 := HK1.out.but hb11 (by simp)
    have hK00 := HK0.out.but hb11 (by simp; omega)
    have hB11 : Below w.heap.size w w11 := HBW.out.trans (hb11.below (n := w.heap.size) (by simp; omega) HBW.out.size)
    have hkf : KeepsFrom w10.heap.size W w11 := keepsFrom_but hb11 (by simp; omega)
    obtain ⟨f1, f2, f3, f4⟩ := cell2 hF11
    cases ok with
    | false =>
      have hbr : RX w L (.exit 0) (pre ++ [(((p, kk, bd), Value.slice va q vc) : FX)]) w11 := by
        refine ⟨⟨rfl, s', c0, e0, ?_, hK11, hO11, hK00⟩, hB11⟩
        rw [HGX.out]
        show (if (takeS s kk bd).2 = true then _ else ((takeS s kk bd).1, c0, e0)) = _
        rw [HTT.out]; rfl
      have HBR := Lib.hid hbr
      have HKF := Lib.hid hkf
      clear hbr hkf hB11 hK00 hK11 hF11 hO11 hb11
      gi_wp2
      exact ⟨HKF.out, HBR.out⟩
    | true =>
      have HGN : Hid (∀ z, goS ⟨0, 0, false⟩ 0 0 ((pre ++ [(((p, kk, bd), Value.slice va q vc) : FX)]).map Prod.fst ++ z) = goS s' (if kk = 4 then c0 + 1 else c0) (p + (q + 7)) z) := Lib.hid (fun z => by
        rw [List.map_append]
        have h1 := goS_snoc (p, kk, bd) (pre.map Prod.fst) ⟨0, 0, false⟩ 0 0 s c0 e0 HGO.out z (by show (takeS s kk bd).2 = true; rw [HTT.out])
        dsimp only at h1
        rw [HTT.out, HQ.out] at h1
        exact h1)
      obtain ⟨sz, hsz⟩ : ∃ sz, q + 7 = sz := ⟨_, rfl⟩
      rw [hsz] at HGN hpb
      have HSZ := Lib.hid hsz
      have hq7 : q ≤ 1048576 := by omega
      have k1 : w11.cell? ⟨w.heap.size + 1, 1, none⟩ = some (.int .i64 (c0 : Nat)) := cell_of_row w11 _ 1 _ _ _ hK11
      have g1 := frozen_of_row w11 (w.heap.size + 1) 1 _ _ hK11
      have g2 := frozen_of_row w11 (w.heap.size + 1) 2 _ _ hK11
      have k2 : w11.cell? ⟨w.heap.size + 1, 2, none⟩ = some (.int .i64 (e0 : Nat)) := cell_of_row w11 _ 2 _ _ _ hK11
      have hcb : c0 < 1048576 := by omega
      have hBx1 : Bx ≠ w.heap.size + 1 := by omega
      have hBx2 : w.heap.size + 1 ≠ Bx := by omega
      have HK11 := Lib.hid hK11
      have HK00 := Lib.hid hK00
      have HO11 := Lib.hid hO11
      have HB11 := Lib.hid hB11
      have HKF := Lib.hid hkf
      have Hb11 := Lib.hid hb11
      clear hsz hK11 hK00 hO11 hB11 hkf hb11 hF11
      by_cases hk4 : kk = 4
      · subst hk4
        rw [if_pos rfl] at HGN
        gi_wp2_with (refine ⟨trivial, ?_⟩; gi_at_call 29; refine (CallsIn.inRound l (callsIn_wide.2 (weight_nat q sz hq7 HSZ.out _))).mono ?_; rintro e w' ⟨rfl, rfl⟩)
        have hbt : But [w.heap.size + 1 + 1, w.heap.size + 1] W ((w11.setCell ⟨w.heap.size + 1, 1, none⟩ (.int .i64 ((c0 : Int) + 1))).setCell ⟨w.heap.size + 1, 2, none⟩ (.int .i64 ((p : Int) + (sz : Int)))) := (Hb11.out.more (own' := [w.heap.size + 1 + 1, w.heap.size + 1]) (fun k hk => .inl (by simp at hk; simp [hk]))).trans' (((But.refl _ w11).set (by simp) _).set (by simp) _)
        refine ⟨keepsFrom_but hbt (by simp; omega), kpo_but hbt (by simp; omega) (by simp; omega), ⟨s', c0 + 1, p + sz, HGN.out, by simp; omega, kept_put HK11.out (c0 + 1) (p + sz) _ _ (by omega) (by omega), HO11.out.but (((But.refl [w.heap.size + 1] w11).set (by simp) _).set (by simp) _) (by simp), HK00.out.but (((But.refl [w.heap.size + 1] w11).set (by simp) _).set (by simp) _) (by simp)⟩, ?_⟩
        exact (HB11.out.setCell (p := ⟨w.heap.size + 1, 1, none⟩) (by show w.heap.size ≤ w.heap.size + 1; omega) _).setCell (p := ⟨w.heap.size + 1, 2, none⟩) (by show w.heap.size ≤ w.heap.size + 1; omega) _
      · rw [if_neg hk4] at HGN
        have hki : (((kk : Nat) : Int) == 4) = false := beq_eq_false_iff_ne.2 (by omega)
        gi_wp2_with (refine ⟨trivial, ?_⟩; gi_at_call 29; refine (CallsIn.inRound l (callsIn_wide.2 (weight_nat q sz hq7 HSZ.out _))).mono ?_; rintro e w' ⟨rfl, rfl⟩)
        have hbt : But [w.heap.size + 1 + 1, w.heap.size + 1] W (w11.setCell ⟨w.heap.size + 1, 2, none⟩ (.int .i64 ((p : Int) + (sz : Int)))) := (Hb11.out.more (own' := [w.heap.size + 1 + 1, w.heap.size + 1]) (fun k hk => .inl (by simp at hk; simp [hk]))).trans' ((But.refl _ w11).set (by simp) _)
        refine ⟨keepsFrom_but hbt (by simp; omega), kpo_but hbt (by simp; omega) (by simp; omega), ⟨s', c0, p + sz, HGN.out, by simp; omega, kept_put1 HK11.out (p + sz) _ (by omega), HO11.out.but ((But.refl [w.heap.size + 1] w11).set (by simp) _) (by simp), HK00.out.but ((But.refl [w.heap.size + 1] w11).set (by simp) _) (by simp)⟩, ?_⟩
        exact HB11.out.setCell (p := ⟨w.heap.size + 1, 2, none⟩) (by show w.heap.size ≤ w.heap.size + 1; omega) _
  case done =>
    rintro D zs W hD hzs ⟨⟨s, c0, e0, hgo, _, hK1, hO, hK0⟩, hBW⟩ hK
    have hg := hgo []
    rw [List.append_nil, show zs.map Prod.fst = scanL L 0 from hzs] at hg
    exact tail D W s c0 e0 hD hg hK1 hO hK0 hBW hK
  case stop =>
    rintro D c' pre W hD hp ⟨⟨rfl, s, c0, e0, hg, hK1, hO, hK0⟩, hBW⟩ hK
    refine wpIn_exit ?_
    show Exit.inBlock 0 _ (.exit 0) _ _
    simp only [Exit.inBlock, if_pos]
    simp only [Exit.then]
    exact tail D W s c0 e0 hD hg hK1 hO hK0 hBW hK
end Go.Proofs.YtocmfdahnekboaaDoor
