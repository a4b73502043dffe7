/- A store in memory: Put and Rise. -/
import Derived.Test.YtpcbdjdmhemjdaaPriK
import Derived.OneCell
namespace Go.Proofs.Ytpcbdjdmhemjdaa
open Go.RowKit
set_option linter.unusedVariables false
attribute [local go_sem] Oper.semAt_some

theorem put_no {es : List Ent} {e : Ent} (h : risesP es e = false) : putP es e = es := by unfold putP putE; rw [if_neg (by show ¬ risesP es e = true; rw [h]; decide)]
set_option maxRecDepth 100000 in
set_option maxHeartbeats 4000000 in
theorem put_any {b : Nat} {sv : Value} {es : List Ent} (e : Ent) (w : World) (h : PS w b sv es) (hs : okS e.1) (hlen : es.length ≤ 1048570) :
    Calls Try.prog 19 #[.pointer (some ⟨b, 0, none⟩), .int .u64 (e.1 : Nat), .int .i64 e.2] w fun o w' => o = .returned (.bool (risesP es e)) ∧ ∃ sv', PS w' b sv' (putP es e) ∧ But [b] w w' := by
  obtain ⟨a, c, rfl⟩ := h.form
  obtain ⟨k, u⟩ := e
  simp only at hs ⊢
  obtain ⟨w1, hw1⟩ : ∃ w1, w.alloc (.cells #[.int .u64 (k : Nat), .int .i64 u] 41) = w1 := ⟨_, rfl⟩
  have hb01 : Below w.heap.size w w1 := by rw [← hw1]; exact (Below.refl _ _).alloc (Nat.le_refl _) _
  have hnew : w1.heap[w.heap.size]? = some (.cells #[.int .u64 (k : Nat), .int .i64 u] 41) := by rw [← hw1]; exact World.alloc_heap_new w _
  have hbl : w.heap.size < w1.heap.size := (Array.getElem?_eq_some_iff.1 hnew).1
  have h1 : PS w1 b _ es := h.below hb01
  have c0 := fun p => BelW.cell (w := w1) (a := ⟨w.heap.size, 0, none⟩) hbl (cell_of_row w1 _ 0 _ _ _ hnew) p
  have c1 := fun p => BelW.cell (w := w1) (a := ⟨w.heap.size, 1, none⟩) hbl (cell_of_row w1 _ 1 _ _ _ hnew) p
  have c2 := fun p => BelW.cell (w := w1) (a := ⟨b, 0, none⟩) h1.lt h1.cell p
  have HR := Lib.hid (fun (p : BelW w1) => rises_any a es.length c es (k, u) p.W hs h.tie (by omega) (h1.below p.h).row)
  have HW := Lib.hid hw1
  have HB := Lib.hid hb01
  have H1 := Lib.hid h1
  have HNEW := Lib.hid hnew
  have HLT := Lib.hid h.lt
  have HBL := Lib.hid hbl
  have HTI := Lib.hid h.tie
  clear hw1 hb01 hnew h h1 hbl
  go_enter Try.func19, Try.ntmps19
  go_upto_region 2 with fail
  rw [HW.out]
  cases hr : risesP es (k, u) with
  | false =>
    rw [show rises withinB 2199023255552 es (k, u) = false from hr] at HR
    refine wp_region_bel (by kernel_rfl) (by kernel_rfl) ?_
    repeat (quiet_step (first | (go_at_call 31; exact Calls.bel_of (HR.out _))))
    refine wpQuiet_nil ?_
    rintro W3 ⟨p, rfl⟩
    have HF := Lib.hid p.h
    clear c0 c1 c2
    go_wp2
    go_ret
    exact ⟨rfl, ⟨_, (by rw [put_no hr]; exact H1.out.below HF.out)⟩, (But.of_below (own := [b]) HB.out).trans' (But.of_below HF.out)⟩
  | true =>
    rw [show rises withinB 2199023255552 es (k, u) = true from hr] at HR
    refine wp_region_bel (by kernel_rfl) (by kernel_rfl) ?_
    repeat (quiet_step (first | (go_at_call 31; exact Calls.bel_of (HR.out _))))
    refine wpQuiet_nil ?_
    rintro W3 ⟨p, rfl⟩
    have HF := Lib.hid p.h
    clear c0 c1 c2
    obtain ⟨w3, hw3⟩ : ∃ x, p.W = x := ⟨_, rfl⟩
    rw [hw3] at HF ⊢
    clear hw3 p
    have h3 : PS w3 b (.slice a es.length c) es := H1.out.below HF.out
    have hb3 : Below w.heap.size w w3 := HB.out.trans (HF.out.mono HB.out.size)
    have c3 : ∀ W, Below w3.heap.size w3 W → W.cell? ⟨b, 0, none⟩ = some (.slice a es.length c) := fun W hW => (hW.cell (p := ⟨b, 0, none⟩) h3.lt).trans h3.cell
    have c4 : ∀ W, Below w3.heap.size w3 W → W.cell? ⟨w.heap.size, 0, none⟩ = some (.int .u64 (k : Nat)) ∧ W.cell? ⟨w.heap.size, 1, none⟩ = some (.int .i64 u) := fun W hW => by
      have hlt3 : w.heap.size < w3.heap.size := Nat.lt_of_lt_of_le HBL.out HF.out.size
      have hk : W.heap[w.heap.size]? = some (.cells #[.int .u64 (k : Nat), .int .i64 u] 41) := (hW.block _ hlt3).trans ((HF.out.block _ HBL.out).trans HNEW.out)
      exact ⟨cell_of_row W _ 0 _ _ _ hk, cell_of_row W _ 1 _ _ _ hk⟩
    have HC3 := Lib.hid c3
    have HC4 := Lib.hid c4
    have HCL := Lib.hid (fun (W : World) (hW : Below w3.heap.size w3 W) => cloneE a es.length c es W (by omega) (h3.below hW).row h3.nil)
    have HRA := Lib.hid (fun (W : World) (rv : Value) (hW : Below w3.heap.size w3 W) (hrow : W.ownsRow w3.heap.size 41 2 rv es.length (flatVE es)) => raise_any w3.heap.size rv (k, u) es W hs HTI.out hlen hr hW.size hrow)
    have H3 := Lib.hid h3
    have HB3 := Lib.hid hb3
    clear c3 c4 h3 hb3
    go_wp2_with fail
    have c5 := HC3.out _ (Below.refl _ _).drew
    obtain ⟨c6, c7⟩ := HC4.out _ (Below.refl _ _).drew
    go_region_with (first
      | (go_at_call 27; refine (HCL.out _ (Below.refl _ _).drew).mono ?_; rintro o w5 ⟨v5, rfl, hown, hb⟩; have HO := Lib.hid hown; have HB5 := Lib.hid ((Below.refl w3.heap.size w3).drew.trans hb); obtain ⟨c8, c9⟩ := HC4.out _ HB5.out; clear hown hb)
      | (go_at_call 33; refine (HRA.out _ _ HB5.out (own_mono HO.out (Nat.le_refl _))).mono ?_; rintro o w6 ⟨v', rfl, hown, hgr⟩; obtain ⟨a', c', rfl⟩ := own_form hown
         have HLT5 := Lib.hid (World.ownsRow.lt HO.out)
         have hblk : w6.heap[b]? = some (.cells #[.slice a es.length c] 39) := (hgr.block b (Nat.lt_of_lt_of_le H3.out.lt HB5.out.size) (fun e => by have h9 : w3.heap.size ≤ b := (HLT5.out b e.symm).1; have := H3.out.lt; omega)).trans ((HB5.out.block b H3.out.lt).trans H3.out.blk)
         have k0 : w6.cell? ⟨b, 0, none⟩ = some (.slice a es.length c) := cell_of_row w6 b 0 _ _ _ hblk
         have kf : w6.frozen? ⟨b, 0, none⟩ = false := frozen_of_row w6 b 0 _ _ hblk
         have HBLK := Lib.hid hblk
         have HO6 := Lib.hid hown
         have HG6 := Lib.hid hgr
         clear hown hgr hblk))
    all_goals (
      go_wp2
      go_ret
      refine ⟨by rw [hr]; rfl, .slice a' (putE ltS withinB 2199023255552 es (k, u)).length c', PS.fresh (base := w3.heap.size) ?_ ?_ (put_tight sOrd HTI.out hs), ?_⟩
      · simpa using heap_setCell_same w6 b 0 _ _ (.slice a' (putE ltS withinB 2199023255552 es (k, u)).length c') HBLK.out
      · exact ownsRow_setCell_below HO6.out (a := ⟨b, 0, none⟩) H3.out.lt _
      · refine But.set ((But.of_below (own := [b]) (HB3.out.trans (HB5.out.mono HB3.out.size))).trans (own' := (Value.ownBlock v5).toList) ⟨HG6.out.os, HG6.out.tape, HG6.out.output, HG6.out.size, fun j hj hn => HG6.out.block j hj (fun e => hn (by rw [← e]; simp))⟩ (fun j hj => .inr ?_)) (p := ⟨b, 0, none⟩) (.inl (by simp)) _
        have h9 : w3.heap.size ≤ j := (HLT5.out j (by simpa using hj)).1
        exact Nat.le_trans HB3.out.size h9)
end Go.Proofs.Ytpcbdjdmhemjdaa
