/- The statement's play: a table and its pairs behind a row of steps. -/
import Derived.Test.YtchnjafcnigllaaTabAl
import Derived.Test.YtchnjafcnigllaaOpenTb
namespace Go.Proofs.Ytchnjafcnigllaa
open Go.RowKit
set_option linter.unusedVariables false
attribute [local go_sem] Oper.semAt_some eqSeq8

/-- What a step makes of the pairs. -/
def stepL (l : KV) (o : HOp) : KV :=
  if o.kind = 0 ∨ o.kind = 1 ∨ o.kind = 2 then Tr.insK ltN o.k o.v l else if o.kind = 3 then l.filter (fun x => decide (x.1 ≠ o.k)) else if o.kind = 4 then [] else l
def playL (ops : List HOp) : KV := ops.foldl stepL []
theorem stepL_rise {l : KV} (o : HOp) (h : Tr.Rising ltN l) : Tr.Rising ltN (stepL l o) := by
  unfold stepL
  split
  · exact (Tr.insK_rising ordN o.k o.v l h).1
  · split
    · exact Tr.filter_rising ordN o.k h
    · split
      · exact List.Pairwise.nil
      · exact h
theorem stepL_len (l : KV) (o : HOp) : (stepL l o).length ≤ l.length + 1 := by
  unfold stepL
  split
  · exact insK_len _ _ _
  · split
    · have := List.length_filter_le (fun x : Int × Int => decide (x.1 ≠ o.k)) l
      omega
    · split
      · simp
      · omega
theorem playL_snoc (ops : List HOp) (o : HOp) : playL (ops ++ [o]) = stepL (playL ops) o := by unfold playL; rw [List.foldl_append]; rfl
theorem playL_len : ∀ (n : Nat) (ops : List HOp), ops.length = n → (playL ops).length ≤ n
  | 0, ops, h => by obtain rfl := List.eq_nil_of_length_eq_zero h; exact Nat.le_refl _
  | n + 1, ops, h => by
    obtain ⟨ys, y, rfl⟩ : ∃ ys y, ops = ys ++ [y] := ⟨ops.dropLast, ops.getLast (by intro e; rw [e] at h; cases h), (List.dropLast_concat_getLast _).symm⟩
    rw [List.length_append, List.length_singleton] at h
    rw [playL_snoc]
    have h1 := playL_len n ys (by omega)
    have h2 := stepL_len (playL ys) y
    omega
theorem playL_rise : ∀ (n : Nat) (ops : List HOp), ops.length = n → Tr.Rising ltN (playL ops)
  | 0, ops, h => by obtain rfl := List.eq_nil_of_length_eq_zero h; exact List.Pairwise.nil
  | n + 1, ops, h => by
    obtain ⟨ys, y, rfl⟩ : ∃ ys y, ops = ys ++ [y] := ⟨ops.dropLast, ops.getLast (by intro e; rw [e] at h; cases h), (List.dropLast_concat_getLast _).symm⟩
    rw [List.length_append, List.length_singleton] at h
    rw [playL_snoc]
    exact stepL_rise y (playL_rise n ys (by omega))

/-- What stays between two steps. -/
structure PlJ (w : World) (l : KV) (v : Value) (W : World) : Prop where
  tab : TabN W w.heap.size l
  row : W.ownsRow (w.heap.size + 1) 41 2 v l.length (flatVP l)
  bel : Below w.heap.size w W
theorem PlJ.alloc {w : World} {l : KV} {v : Value} {W : World} (h : PlJ w l v W) (o : Obj) : PlJ w l v (W.alloc o) := ⟨h.tab.below ((Below.refl _ _).alloc (Nat.le_refl _) o), h.row.alloc o, h.bel.alloc (by have := h.bel.size; omega) o⟩
theorem PlJ.prs {w : World} {l : KV} {a : Option Addr} {n c : Nat} {W : World} (h : PlJ w l (.slice a n c) W) : PrsP W.heap.size W (.slice a n c) l ∧ n = l.length := by
  have h1 := PrsP.of_owns h.row
  exact ⟨h1, h1.len⟩

set_option maxRecDepth 100000 in
set_option maxHeartbeats 16000000 in
theorem play_any (a : Option Addr) (n c : Nat) (ops : List HOp) (hl : ops.length ≤ 100) (w : World) (hs : HOps w.heap.size w (.slice a n c) ops) :
    Calls Try.prog 10 #[.slice a n c] w fun e w' => ∃ v, e = .returned (.tuple #[.pointer (some ⟨w.heap.size, 0, none⟩), v, .bool true]) ∧ PlJ w (playL ops) v w' := by
  obtain rfl := hs.len
  have HS := Lib.hid hs
  obtain ⟨n, hn⟩ : ∃ n, ops.length = n := ⟨_, rfl⟩
  have HN := Lib.hid hn
  rw [hn] at hl ⊢
  clear hs hn
  go_enter Try.func10, Try.ntmps10
  go_wp2
  go_loopw [6, 18] (fun v i wr => ∃ m : Nat, i = .int .i64 m ∧ m ≤ n ∧ PlJ w (playL (ops.take m)) v wr) (fun _ i _ => n - (intOf i).toNat)
  case atStart =>
    have e1 : (w.alloc (Obj.cells #[.pointer none] 73)).heap.size = w.heap.size + 1 := by simp
    have ht : TabN (w.alloc (Obj.cells #[.pointer none] 73)) w.heap.size [] := ⟨⟨.nil, none, World.alloc_heap_new w _, rfl, rfl⟩, List.Pairwise.nil⟩
    refine ⟨0, rfl, Nat.zero_le _, ht.below ((Below.refl _ _).alloc (Nat.le_refl _) _), ?_, ((Below.refl _ _).alloc (Nat.le_refl _) _).alloc (by simp) _⟩
    have h := own_empty (w.alloc (Obj.cells #[.pointer none] 73)) 41 2 (w.heap.size + 1) (by simp)
    rw [e1] at h
    exact h
  case round =>
    obtain ⟨m, rfl, hm, hJ⟩ := hrel
    obtain ⟨va, vc, rfl⟩ := own_form hJ.row
    by_cases hlt : m < n
    · obtain ⟨x, hx⟩ : ∃ x, ops[m]? = some x := ⟨_, List.getElem?_eq_getElem (by rw [HN.out]; exact hlt)⟩
      obtain ⟨g, off, rfl, hg, f0, f1, f2⟩ := HS.out.at_ hx
      have d0 := (hJ.bel.cell (p := ⟨g, off + m * 3, none⟩) hg).trans f0
      have d1 := (hJ.bel.cell (p := ⟨g, off + m * 3 + 1, none⟩) hg).trans f1
      have d2 := (hJ.bel.cell (p := ⟨g, off + m * 3 + 2, none⟩) hg).trans f2
      have hll := playL_len m (ops.take m) (by rw [List.length_take, HN.out]; omega)
      have hnx : playL (ops.take (m + 1)) = stepL (playL (ops.take m)) x := by rw [take_snoc hx, playL_snoc]
      obtain ⟨l, hl2⟩ : ∃ l, playL (ops.take m) = l := ⟨_, rfl⟩
      rw [hl2] at hJ hll hnx ⊢
      have b1 : (0 : Int) ≤ m := by omega
      have b2 : (m : Int) < n := by omega
      have hJ1 := hJ.alloc (Obj.cells #[.int .i64 x.kind, .int .i64 x.k, .int .i64 x.v] 46)
      have hnew := World.alloc_heap_new wr (Obj.cells #[.int .i64 x.kind, .int .i64 x.k, .int .i64 x.v] 46)
      have hWR : w.heap.size < wr.heap.size ∧ wr.heap.size < (wr.alloc (Obj.cells #[.int .i64 x.kind, .int .i64 x.k, .int .i64 x.v] 46)).heap.size := ⟨hJ.tab.lt, by simp⟩
      clear hl2 f0 f1 f2 hx hg
      go_upto_region 6 with fail
      obtain ⟨W1, hW1⟩ : ∃ W1, wr.alloc (Obj.cells #[.int .i64 x.kind, .int .i64 x.k, .int .i64 x.v] 46) = W1 := ⟨_, rfl⟩
      rw [hW1] at hJ1 hnew hWR ⊢
      have e0 : W1.cell? ⟨wr.heap.size, 0, none⟩ = some (.int .i64 x.kind) := cell_of_row W1 _ 0 _ _ _ hnew
      have e1 : W1.cell? ⟨wr.heap.size, 1, none⟩ = some (.int .i64 x.k) := cell_of_row W1 _ 1 _ _ _ hnew
      have e2 : W1.cell? ⟨wr.heap.size, 2, none⟩ = some (.int .i64 x.v) := cell_of_row W1 _ 2 _ _ _ hnew
      have hp1 := PrsP.of_owns hJ1.row
      obtain ⟨t, ht⟩ : ∃ t, (Tr.getK x.k l).isSome = t := ⟨_, rfl⟩
      have hnn : (Tr.getK x.k l).isNone = !t := by rw [← ht]; simp
      have hne : ((!t) == t) = false := by cases t <;> rfl
      have HG := Lib.hid (refGet_any x.k va l.length vc l (by omega) W1 hp1)
      rw [ht] at HG
      clear hJ hnew hW1 d0 d1 d2
      have hkinds : x.kind = 0 ∨ x.kind = 1 ∨ x.kind = 2 ∨ x.kind = 3 ∨ x.kind = 4 ∨ (x.kind ≠ 0 ∧ x.kind ≠ 1 ∧ x.kind ≠ 2 ∧ x.kind ≠ 3 ∧ x.kind ≠ 4) := by omega
      rcases hkinds with hkk | hkk | hkk | hkk | hkk | hkk
      -- kind 0: put
      · have hk0 : x.kind = 0 := hkk
        rw [hk0] at e0
        have hst : stepL l x = Tr.insK ltN x.k x.v l := if_pos (.inl hk0)
        have HPT := Lib.hid (tablePutN x.k x.v _ _ _ hJ1.tab (by omega))
        rw [hnn] at HPT
        have HJ1 := Lib.hid hJ1
        have HNX := Lib.hid hnx
        have HW := Lib.hid hWR
        have HST := Lib.hid hst
        have HD8 := Lib.hid (insD8 x.k x.v l hJ1.tab.rise)
        clear hJ1 hst hp1 hnx hWR hkk
        go_wp2_with fail
        refine HG.out.mono ?_
        rintro e w1x ⟨rfl, hx1⟩
        obtain rfl := hx1.symm
        go_wp2_with fail
        refine HPT.out.mono ?_
        rintro e W2 ⟨rfl, h2, b2⟩
        have hlt1 : wr.heap.size < W1.heap.size := HW.out.2
        have q1 : W2.cell? ⟨wr.heap.size, 1, none⟩ = some (.int .i64 x.k) := (World.cell?_of_block (a := ⟨wr.heap.size, 1, none⟩) (b2.block _ hlt1 (by have := HW.out.1; simp; omega))).trans e1
        have q2 : W2.cell? ⟨wr.heap.size, 2, none⟩ = some (.int .i64 x.v) := (World.cell?_of_block (a := ⟨wr.heap.size, 2, none⟩) (b2.block _ hlt1 (by have := HW.out.1; simp; omega))).trans e2
        have hrow2 := row_but HJ1.out.row b2 (fun g' hg' hk => by have := (World.ownsRow.lt HJ1.out.row g' hg').1; simp at hk; omega)
        have HRP := Lib.hid (refPut_any x.k x.v va l.length vc l (by omega) W2 (PrsP.of_owns hrow2))
        rw [← HD8.out] at HRP
        have B2 := Lib.hid (HJ1.out.bel.trans (b2.below (fun k hk => by simp at hk; omega) HJ1.out.bel.size))
        have H2 := Lib.hid h2
        have HZ2 : Hid (w.heap.size + 1 ≤ W2.heap.size) := Lib.hid (by have := h2.lt; omega)
        clear h2 b2 hrow2 HPT HG HJ1 e0 e1 e2
        go_wp2_with fail
        refine HRP.out.mono ?_
        rintro e W3 ⟨v3, rfl, hrow3, hb3⟩
        obtain ⟨a3, c3, rfl⟩ := own_form hrow3
        have h3 := H2.out.below hb3
        have HLN := Lib.hid (tableLenN _ _ _ h3)
        have HJ3 : Hid (PlJ w (playL (ops.take (m + 1))) (.slice a3 (Tr.insK ltN x.k x.v l).length c3) W3) := Lib.hid (by
          rw [HNX.out, HST.out]
          exact ⟨h3, own_mono hrow3 HZ2.out, B2.out.trans (hb3.mono B2.out.size)⟩)
        clear hrow3 hb3 h3 HRP H2 B2 HZ2 q1 q2
        go_wp2_with fail
        refine HLN.out.mono ?_
        rintro e W3x ⟨rfl, hx3⟩
        obtain rfl := hx3.symm
        go_wp2_with fail
        go_roundw
        case rel => exact ⟨m + 1, by go_num, by omega, HJ3.out⟩
        case measure => simp [intOf]; omega
      -- kind 1: put
      · have hk0 : x.kind = 1 := hkk
        rw [hk0] at e0
        have hst : stepL l x = Tr.insK ltN x.k x.v l := if_pos (.inr (.inl hk0))
        have HPT := Lib.hid (tablePutN x.k x.v _ _ _ hJ1.tab (by omega))
        rw [hnn] at HPT
        have HJ1 := Lib.hid hJ1
        have HNX := Lib.hid hnx
        have HW := Lib.hid hWR
        have HST := Lib.hid hst
        have HD8 := Lib.hid (insD8 x.k x.v l hJ1.tab.rise)
        clear hJ1 hst hp1 hnx hWR hkk
        go_wp2_with fail
        refine HG.out.mono ?_
        rintro e w1x ⟨rfl, hx1⟩
        obtain rfl := hx1.symm
        go_wp2_with fail
        refine HPT.out.mono ?_
        rintro e W2 ⟨rfl, h2, b2⟩
        have hlt1 : wr.heap.size < W1.heap.size := HW.out.2
        have q1 : W2.cell? ⟨wr.heap.size, 1, none⟩ = some (.int .i64 x.k) := (World.cell?_of_block (a := ⟨wr.heap.size, 1, none⟩) (b2.block _ hlt1 (by have := HW.out.1; simp; omega))).trans e1
        have q2 : W2.cell? ⟨wr.heap.size, 2, none⟩ = some (.int .i64 x.v) := (World.cell?_of_block (a := ⟨wr.heap.size, 2, none⟩) (b2.block _ hlt1 (by have := HW.out.1; simp; omega))).trans e2
        have hrow2 := row_but HJ1.out.row b2 (fun g' hg' hk => by have := (World.ownsRow.lt HJ1.out.row g' hg').1; simp at hk; omega)
        have HRP := Lib.hid (refPut_any x.k x.v va l.length vc l (by omega) W2 (PrsP.of_owns hrow2))
        rw [← HD8.out] at HRP
        have B2 := Lib.hid (HJ1.out.bel.trans (b2.below (fun k hk => by simp at hk; omega) HJ1.out.bel.size))
        have H2 := Lib.hid h2
        have HZ2 : Hid (w.heap.size + 1 ≤ W2.heap.size) := Lib.hid (by have := h2.lt; omega)
        clear h2 b2 hrow2 HPT HG HJ1 e0 e1 e2
        go_wp2_with fail
        refine HRP.out.mono ?_
        rintro e W3 ⟨v3, rfl, hrow3, hb3⟩
        obtain ⟨a3, c3, rfl⟩ := own_form hrow3
        have h3 := H2.out.below hb3
        have HLN := Lib.hid (tableLenN _ _ _ h3)
        have HJ3 : Hid (PlJ w (playL (ops.take (m + 1))) (.slice a3 (Tr.insK ltN x.k x.v l).length c3) W3) := Lib.hid (by
          rw [HNX.out, HST.out]
          exact ⟨h3, own_mono hrow3 HZ2.out, B2.out.trans (hb3.mono B2.out.size)⟩)
        clear hrow3 hb3 h3 HRP H2 B2 HZ2 q1 q2
        go_wp2_with fail
        refine HLN.out.mono ?_
        rintro e W3x ⟨rfl, hx3⟩
        obtain rfl := hx3.symm
        go_wp2_with fail
        go_roundw
        case rel => exact ⟨m + 1, by go_num, by omega, HJ3.out⟩
        case measure => simp [intOf]; omega
      -- kind 2: put
      · have hk0 : x.kind = 2 := hkk
        rw [hk0] at e0
        have hst : stepL l x = Tr.insK ltN x.k x.v l := if_pos (.inr (.inr hk0))
        have HPT := Lib.hid (tablePutN x.k x.v _ _ _ hJ1.tab (by omega))
        rw [hnn] at HPT
        have HJ1 := Lib.hid hJ1
        have HNX := Lib.hid hnx
        have HW := Lib.hid hWR
        have HST := Lib.hid hst
        have HD8 := Lib.hid (insD8 x.k x.v l hJ1.tab.rise)
        clear hJ1 hst hp1 hnx hWR hkk
        go_wp2_with fail
        refine HG.out.mono ?_
        rintro e w1x ⟨rfl, hx1⟩
        obtain rfl := hx1.symm
        go_wp2_with fail
        refine HPT.out.mono ?_
        rintro e W2 ⟨rfl, h2, b2⟩
        have hlt1 : wr.heap.size < W1.heap.size := HW.out.2
        have q1 : W2.cell? ⟨wr.heap.size, 1, none⟩ = some (.int .i64 x.k) := (World.cell?_of_block (a := ⟨wr.heap.size, 1, none⟩) (b2.block _ hlt1 (by have := HW.out.1; simp; omega))).trans e1
        have q2 : W2.cell? ⟨wr.heap.size, 2, none⟩ = some (.int .i64 x.v) := (World.cell?_of_block (a := ⟨wr.heap.size, 2, none⟩) (b2.block _ hlt1 (by have := HW.out.1; simp; omega))).trans e2
        have hrow2 := row_but HJ1.out.row b2 (fun g' hg' hk => by have := (World.ownsRow.lt HJ1.out.row g' hg').1; simp at hk; omega)
        have HRP := Lib.hid (refPut_any x.k x.v va l.length vc l (by omega) W2 (PrsP.of_owns hrow2))
        rw [← HD8.out] at HRP
        have B2 := Lib.hid (HJ1.out.bel.trans (b2.below (fun k hk => by simp at hk; omega) HJ1.out.bel.size))
        have H2 := Lib.hid h2
        have HZ2 : Hid (w.heap.size + 1 ≤ W2.heap.size) := Lib.hid (by have := h2.lt; omega)
        clear h2 b2 hrow2 HPT HG HJ1 e0 e1 e2
        go_wp2_with fail
        refine HRP.out.mono ?_
        rintro e W3 ⟨v3, rfl, hrow3, hb3⟩
        obtain ⟨a3, c3, rfl⟩ := own_form hrow3
        have h3 := H2.out.below hb3
        have HLN := Lib.hid (tableLenN _ _ _ h3)
        have HJ3 : Hid (PlJ w (playL (ops.take (m + 1))) (.slice a3 (Tr.insK ltN x.k x.v l).length c3) W3) := Lib.hid (by
          rw [HNX.out, HST.out]
          exact ⟨h3, own_mono hrow3 HZ2.out, B2.out.trans (hb3.mono B2.out.size)⟩)
        clear hrow3 hb3 h3 HRP H2 B2 HZ2 q1 q2
        go_wp2_with fail
        refine HLN.out.mono ?_
        rintro e W3x ⟨rfl, hx3⟩
        obtain rfl := hx3.symm
        go_wp2_with fail
        go_roundw
        case rel => exact ⟨m + 1, by go_num, by omega, HJ3.out⟩
        case measure => simp [intOf]; omega
      -- kind 3: drop
      · have hk0 : x.kind = 3 := hkk
        rw [hk0] at e0
        have hst : stepL l x = l.filter (fun y => decide (y.1 ≠ x.k)) := by unfold stepL; rw [if_neg (by omega), if_pos hk0]
        have HPT := Lib.hid (tableDropN x.k _ _ _ hJ1.tab (by omega))
        rw [ht] at HPT
        have HJ1 := Lib.hid hJ1
        have HNX := Lib.hid hnx
        have HW := Lib.hid hWR
        have HST := Lib.hid hst
        clear hJ1 hst hp1 hnx hWR hkk
        go_wp2_with fail
        refine HG.out.mono ?_
        rintro e w1x ⟨rfl, hx1⟩
        obtain rfl := hx1.symm
        go_wp2_with fail
        refine HPT.out.mono ?_
        rintro e W2 ⟨rfl, h2, b2⟩
        have hlt1 : wr.heap.size < W1.heap.size := HW.out.2
        have q1 : W2.cell? ⟨wr.heap.size, 1, none⟩ = some (.int .i64 x.k) := (World.cell?_of_block (a := ⟨wr.heap.size, 1, none⟩) (b2.block _ hlt1 (by have := HW.out.1; simp; omega))).trans e1
        have hrow2 := row_but HJ1.out.row b2 (fun g' hg' hk => by have := (World.ownsRow.lt HJ1.out.row g' hg').1; simp at hk; omega)
        have HRP := Lib.hid (refDrop_any x.k va l.length vc l (by omega) W2 (PrsP.of_owns hrow2))
        have B2 := Lib.hid (HJ1.out.bel.trans (b2.below (fun k hk => by simp at hk; omega) HJ1.out.bel.size))
        have H2 := Lib.hid h2
        have HZ2 : Hid (w.heap.size + 1 ≤ W2.heap.size) := Lib.hid (by have := h2.lt; omega)
        clear h2 b2 hrow2 HPT HG HJ1 e0 e1 e2
        go_wp2_with fail
        refine HRP.out.mono ?_
        rintro e W3 ⟨v3, rfl, hrow3, hb3⟩
        obtain ⟨a3, c3, rfl⟩ := own_form hrow3
        have h3 := H2.out.below hb3
        have HLN := Lib.hid (tableLenN _ _ _ h3)
        have HJ3 : Hid (PlJ w (playL (ops.take (m + 1))) (.slice a3 (l.filter (fun y => decide (y.1 ≠ x.k))).length c3) W3) := Lib.hid (by
          rw [HNX.out, HST.out]
          exact ⟨h3, own_mono hrow3 HZ2.out, B2.out.trans (hb3.mono B2.out.size)⟩)
        obtain ⟨ln, hln⟩ : ∃ ln, (l.filter (fun y => decide (y.1 ≠ x.k))).length = ln := ⟨_, rfl⟩
        rw [hln] at HLN HJ3 ⊢
        clear hrow3 hb3 h3 HRP H2 B2 HZ2 q1 hln
        go_wp2_with fail
        refine HLN.out.mono ?_
        rintro e W3x ⟨rfl, hx3⟩
        obtain rfl := hx3.symm
        go_wp2_with fail
        go_roundw
        case rel => exact ⟨m + 1, by go_num, by omega, HJ3.out⟩
        case measure => simp [intOf]; omega
      -- kind 4: clear
      · have hk0 : x.kind = 4 := hkk
        rw [hk0] at e0
        have hst : stepL l x = [] := by unfold stepL; rw [if_neg (by omega), if_neg (by omega), if_pos hk0]
        have HPT := Lib.hid (tableClearN _ _ _ hJ1.tab)
        have HJ1 := Lib.hid hJ1
        have HNX := Lib.hid hnx
        have HST := Lib.hid hst
        clear hJ1 hst hp1 hnx hWR hkk
        go_wp2_with fail
        refine HG.out.mono ?_
        rintro e w1x ⟨rfl, hx1⟩
        obtain rfl := hx1.symm
        go_wp2_with fail
        refine HPT.out.mono ?_
        rintro e W2 ⟨rfl, h2, b2⟩
        have HLN : Hid (Calls Try.prog 28 #[.pointer (some ⟨w.heap.size, 0, none⟩)] W2 fun e w' => e = .returned (.int .i64 0) ∧ w' = W2) := Lib.hid (tableLenN _ _ _ h2)
        have HJ3 : Hid (PlJ w (playL (ops.take (m + 1))) (.slice none 0 0) W2) := Lib.hid (by
          rw [HNX.out, HST.out]
          exact ⟨h2, World.ownsRow_nil _ _ _ _, HJ1.out.bel.trans (b2.below (fun k hk => by simp at hk; omega) HJ1.out.bel.size)⟩)
        clear h2 b2 HPT HG HJ1 e0 e1 e2
        go_wp2_with fail
        refine HLN.out.mono ?_
        rintro e W3x ⟨rfl, hx3⟩
        obtain rfl := hx3.symm
        go_wp2_with fail
        go_roundw
        case rel => exact ⟨m + 1, by go_num, by omega, HJ3.out⟩
        case measure => simp [intOf]; omega
      -- any other kind: get
      · have hst : stepL l x = l := by unfold stepL; rw [if_neg (by omega), if_neg (by omega), if_neg (by omega)]
        have g0 : (x.kind == 0) = false := by simp; omega
        have g1 : (x.kind == 1) = false := by simp; omega
        have g2 : (x.kind == 2) = false := by simp; omega
        have g3 : (x.kind == 3) = false := by simp; omega
        have g4 : (x.kind == 4) = false := by simp; omega
        have HPT := Lib.hid (tableGetN x.k _ _ _ hJ1.tab)
        rw [ht] at HPT
        have HJ1 := Lib.hid hJ1
        have HNX := Lib.hid hnx
        have HST := Lib.hid hst
        obtain ⟨z, hz⟩ : ∃ z, (Tr.getK x.k l).getD 0 = z := ⟨_, rfl⟩
        rw [hz] at HG HPT
        clear hJ1 hst hp1 hnx hWR hkk hz
        go_wp2_with fail
        refine HG.out.mono ?_
        rintro e w1x ⟨rfl, hx1⟩
        obtain rfl := hx1.symm
        go_wp2_with fail
        refine HPT.out.mono ?_
        rintro e W2 ⟨rfl, n2, hw2⟩
        have hb2 : Below W1.heap.size W1 W2 := by rw [hw2]; exact below_dr W1 n2
        have h2 := HJ1.out.tab.below hb2
        have HLN := Lib.hid (tableLenN _ _ _ h2)
        have HJ3 : Hid (PlJ w (playL (ops.take (m + 1))) (.slice va l.length vc) W2) := Lib.hid (by
          rw [HNX.out, HST.out]
          exact ⟨h2, row_but HJ1.out.row (But.of_below (own := []) hb2) (fun _ _ hk => by cases hk), HJ1.out.bel.trans (hb2.mono HJ1.out.bel.size)⟩)
        clear h2 hb2 hw2 HPT HG HJ1 e0 e1 e2
        go_wp2_with fail
        refine HLN.out.mono ?_
        rintro e W3x ⟨rfl, hx3⟩
        obtain rfl := hx3.symm
        go_wp2_with fail
        go_roundw
        case rel => exact ⟨m + 1, by go_num, by omega, HJ3.out⟩
        case measure => simp [intOf]; omega
    · obtain rfl : m = n := by omega
      have htk : ops.take m = ops := List.take_of_length_le (by have := HN.out; omega)
      rw [htk] at hJ ⊢
      have HJ := Lib.hid hJ
      clear hJ
      go_wp2
      refine bodyPost_ret (results_tmp3 rfl _ _ _) rfl ?_
      exact ⟨_, rfl, HJ.out⟩
end Go.Proofs.Ytchnjafcnigllaa
