/- A store in memory: Of. -/
import Derived.Test.YtpcbdjdmhemjdaaPriP
namespace Go.Proofs.Ytpcbdjdmhemjdaa
open Go.RowKit
set_option linter.unusedVariables false
attribute [local go_sem] Oper.semAt_some

theorem ins_len {lt : Nat → Nat → Bool} (e : Ent) : ∀ es : List Ent, (insE lt e es).length = es.length + 1
  | [] => rfl
  | x :: r => by
    unfold insE
    split
    · rfl
    · rw [List.length_cons, ins_len e r, List.length_cons]
theorem put_len (es : List Ent) (e : Ent) : (putP es e).length ≤ es.length + 1 := by
  unfold putP putE
  split
  · rw [ins_len]
    have := List.length_filter_le (fun x : Ent => !(withinB e.1 x.1 && decide (x.2 ≤ e.2))) es
    unfold dropE
    omega
  · omega
abbrev ofP (xs : List Ent) : List Ent := ofE ltS withinB 2199023255552 xs
theorem of_snoc (xs : List Ent) (e : Ent) : ofP (xs ++ [e]) = putP (ofP xs) e := by unfold ofP ofE putP; rw [List.foldl_append]; rfl
theorem of_take {xs : List Ent} {m : Nat} {e : Ent} (h : xs[m]? = some e) : ofP (xs.take (m + 1)) = putP (ofP (xs.take m)) e := by rw [take_snoc h, of_snoc]
theorem of_len : ∀ (m : Nat) (xs : List Ent), m ≤ xs.length → (ofP (xs.take m)).length ≤ m
  | 0, xs, _ => by simp [ofP, ofE]
  | m + 1, xs, h => by
    obtain ⟨e, he⟩ : ∃ e, xs[m]? = some e := ⟨_, List.getElem?_eq_getElem (by omega)⟩
    rw [of_take he]
    have := of_len m xs (by omega)
    have := put_len (ofP (xs.take m)) e
    omega
/-- A row does not lie in a block of another type. -/
theorem own_off {W : World} {base e e' size n b : Nat} {v : Value} {xs : List Value} {cs : Array Value} (h : W.ownsRow base e size v n xs) (hb : W.heap[b]? = some (.cells cs e')) (hne : e ≠ e') : v.ownBlock ≠ some b := fun ho => by
  rcases h.2 with ⟨e1, _⟩ | ⟨g, cap, cur, e1, _, h', _⟩
  · rw [e1] at ho; cases ho
  · rw [e1] at ho
    cases ho
    rw [hb] at h'
    cases h'
    exact hne rfl
theorem of_tie {xs : List Ent} (h : ∀ x ∈ xs, okS x.1) : Tie (ofP xs) := of_tight sOrd tight_nil h
theorem of_len' (xs : List Ent) : (ofP xs).length ≤ xs.length := by have := of_len xs.length xs (Nat.le_refl _); rwa [List.take_length] at this
set_option maxRecDepth 100000 in
set_option maxHeartbeats 8000000 in
theorem of_any (a : Option Addr) (n c : Nat) (xs : List Ent) (w : World) (hok : ∀ x ∈ xs, okS x.1) (hlen : xs.length ≤ 1048000) (hz : EnsP w.heap.size w (.slice a n c) xs) :
    Calls Try.prog 17 #[.slice a n c] w fun o w' => ∃ b sv, o = .returned (.pointer (some ⟨b, 0, none⟩)) ∧ w.heap.size ≤ b ∧ PS w' b sv (ofP xs) ∧ Below w.heap.size w w' := by
  have hn := hz.len
  have HZ := Lib.hid hz
  have HN := Lib.hid hn.symm
  have HOK := Lib.hid hok
  have hn0 : n ≤ 1048000 := by omega
  clear hz hn hok hlen
  go_enter Try.func17, Try.ntmps17
  go_wp2
  obtain ⟨w1, hw1⟩ : ∃ w1, w.alloc (.cells #[.slice none 0 0] 39) = w1 := ⟨_, rfl⟩
  have hb01 : Below w.heap.size w w1 := by rw [← hw1]; exact (Below.refl _ _).alloc (Nat.le_refl _) _
  have hnew : w1.heap[w.heap.size]? = some (.cells #[.slice none 0 0] 39) := by rw [← hw1]; exact World.alloc_heap_new w _
  have HB1 := Lib.hid hb01
  have HNEW := Lib.hid hnew
  have HW1 := Lib.hid hw1
  clear hb01 hnew hw1
  try rw [HW1.out]
  go_loopw [8] (fun i wr => ∃ (m : Nat) (sv : Value), i = .int .i64 m ∧ m ≤ n ∧ wr.heap[w.heap.size]? = some (.cells #[sv] 39) ∧ wr.ownsRow w.heap.size 41 2 sv (ofP (xs.take m)).length (flatVE (ofP (xs.take m))) ∧ Below w.heap.size w wr) (fun i _ => n - (intOf i).toNat)
  case atStart => exact ⟨0, _, rfl, Nat.zero_le _, HNEW.out, World.ownsRow_nil _ _ _ _, HB1.out⟩
  case round =>
    obtain ⟨m, sv, rfl, hm, hblk, hrow, hB⟩ := hrel
    obtain ⟨wo, hwo⟩ : ∃ x, x = wr := ⟨wr, rfl⟩
    subst hwo
    have hbs : w.heap.size < wo.heap.size := (Array.getElem?_eq_some_iff.1 hblk).1
    have HBLK := Lib.hid hblk
    have HROW := Lib.hid hrow
    have HB := Lib.hid hB
    by_cases hlt : m < n
    · obtain ⟨⟨k, u⟩, hx⟩ : ∃ x, xs[m]? = some x := ⟨_, List.getElem?_eq_getElem (by rw [HN.out]; exact hlt)⟩
      obtain ⟨g, off, rfl, hg, f0, f1⟩ := HZ.out.at_ hx
      have hkok : okS k := HOK.out _ (List.mem_of_getElem? hx)
      have d0 := (hB.cell (p := ⟨g, off + m * 2, none⟩) hg).trans f0
      have d1 := (hB.cell (p := ⟨g, off + m * 2 + 1, none⟩) hg).trans f1
      simp only at d0 d1
      have b1 : (0 : Int) ≤ m := by omega
      have b2 : (m : Int) < n := by omega
      have hstep := of_take hx
      have hal : (ofP (xs.take m)).length ≤ m := of_len m xs (by rw [HN.out]; omega)
      have hti : Tie (ofP (xs.take m)) := of_tie (fun x hx' => HOK.out x (List.mem_of_mem_take hx'))
      obtain ⟨acc, hacc⟩ : ∃ acc, ofP (xs.take m) = acc := ⟨_, rfl⟩
      rw [hacc] at hstep hal hti hrow HROW
      obtain ⟨sa, sc, hsv⟩ := own_form hrow
      subst hsv
      obtain ⟨W1, hW1⟩ : ∃ W1, wo.alloc (.cells #[.int .u64 (k : Nat), .int .i64 u] 41) = W1 := ⟨_, rfl⟩
      have hb2 : Below wo.heap.size wo W1 := by rw [← hW1]; exact (Below.refl _ _).alloc (Nat.le_refl _) _
      have hn2 : W1.heap[wo.heap.size]? = some (.cells #[.int .u64 (k : Nat), .int .i64 u] 41) := by rw [← hW1]; exact World.alloc_heap_new wo _
      have c0 : W1.cell? ⟨wo.heap.size, 0, none⟩ = some (.int .u64 (k : Nat)) := cell_of_row W1 _ 0 _ _ _ hn2
      have c1 : W1.cell? ⟨wo.heap.size, 1, none⟩ = some (.int .i64 u) := cell_of_row W1 _ 1 _ _ _ hn2
      have hblk1 : W1.heap[w.heap.size]? = some (.cells #[.slice sa acc.length sc] 39) := (hb2.block _ hbs).trans hblk
      have c2 : W1.cell? ⟨w.heap.size, 0, none⟩ = some (.slice sa acc.length sc) := cell_of_row W1 _ 0 _ _ _ hblk1
      have hrow1 : W1.ownsRow w.heap.size 41 2 (.slice sa acc.length sc) acc.length (flatVE acc) := row_but hrow (But.of_below (own := []) hb2) (fun _ _ hk => nomatch hk)
      have HRI := Lib.hid (rises_any sa acc.length sc acc (k, u) W1 hkok hti (by omega) (EnsP.of_owns hrow1))
      have HRA := Lib.hid (fun (W : World) (hr : risesP acc (k, u) = true) (hb : Below W1.heap.size W1 W) => raise_any w.heap.size (.slice sa acc.length sc) (k, u) acc W hkok hti (by omega) hr (Nat.le_trans (Nat.le_of_lt hbs) (Nat.le_trans hb2.size hb.size)) (row_but hrow1 (But.of_below (own := []) hb) (fun _ _ hk => nomatch hk)))
      have HLT := Lib.hid (World.ownsRow.lt hrow1)
      have HW := Lib.hid hW1
      have HB2 := Lib.hid hb2
      have HN2 := Lib.hid hn2
      have HBK1 := Lib.hid hblk1
      have HR1 := Lib.hid hrow1
      have HST := Lib.hid hstep
      have HAC := Lib.hid hacc
      clear hB hblk hrow f0 f1 hx hstep hacc hW1 hb2 hn2 hblk1 hrow1 hbs hal
      go_upto_region 5 with fail
      rw [HW.out]
      cases hr : risesP acc (k, u) with
      | false =>
        rw [show rises withinB 2199023255552 acc (k, u) = false from hr] at HRI
        go_wp2_with fail
        refine HRI.out.mono ?_
        rintro o w3 ⟨rfl, hb3⟩
        have HB3 := Lib.hid hb3
        clear hb3 c0 c1 c2
        go_wp2_with fail
        go_roundw
        case rel => exact ⟨m + 1, .slice sa acc.length sc, by go_num, by omega, (HB3.out.block _ (Array.getElem?_eq_some_iff.1 HBK1.out).1).trans HBK1.out, by rw [HST.out, put_no hr]; exact row_but HR1.out (But.of_below (own := []) HB3.out) (fun _ _ hk => nomatch hk), HB.out.trans ((HB2.out.mono HB.out.size).trans (HB3.out.mono (Nat.le_trans HB.out.size HB2.out.size)))⟩
        case measure => simp [intOf]; omega
      | true =>
        rw [show rises withinB 2199023255552 acc (k, u) = true from hr] at HRI
        go_wp2_with fail
        refine HRI.out.mono ?_
        rintro o w3 ⟨rfl, hb3⟩
        have hl1 : wo.heap.size < W1.heap.size := (Array.getElem?_eq_some_iff.1 HN2.out).1
        have hblk3 : w3.heap[w.heap.size]? = some (.cells #[.slice sa acc.length sc] 39) := (hb3.block _ (Array.getElem?_eq_some_iff.1 HBK1.out).1).trans HBK1.out
        have e0 := (hb3.cell (p := ⟨wo.heap.size, 0, none⟩) hl1).trans c0
        have e1 := (hb3.cell (p := ⟨wo.heap.size, 1, none⟩) hl1).trans c1
        have e2 : w3.cell? ⟨w.heap.size, 0, none⟩ = some (.slice sa acc.length sc) := cell_of_row w3 _ 0 _ _ _ hblk3
        have HBK3 := Lib.hid hblk3
        have HR3 : Hid (w3.ownsRow w.heap.size 41 2 (.slice sa acc.length sc) acc.length (flatVE acc)) := Lib.hid (row_but HR1.out (But.of_below (own := []) hb3) (fun _ _ hk => nomatch hk))
        have HB3 := Lib.hid hb3
        have HRA2 := Lib.hid (HRA.out w3 hr hb3)
        clear hb3 c0 c1 c2 hl1 hblk3
        go_wp2_with fail
        refine HRA2.out.mono ?_
        rintro o w4 ⟨v', rfl, hown, hgr⟩
        obtain ⟨a', c', rfl⟩ := own_form hown
        have hnb := own_off HR3.out HBK3.out (by decide)
        have hblk4 : w4.heap[w.heap.size]? = some (.cells #[.slice sa acc.length sc] 39) := (hgr.block _ (Array.getElem?_eq_some_iff.1 HBK3.out).1 (fun e => hnb e.symm)).trans HBK3.out
        have k0 : w4.cell? ⟨w.heap.size, 0, none⟩ = some (.slice sa acc.length sc) := cell_of_row w4 _ 0 _ _ _ hblk4
        have kf : w4.frozen? ⟨w.heap.size, 0, none⟩ = false := frozen_of_row w4 _ 0 _ _ hblk4
        have HBK4 := Lib.hid hblk4
        have HO := Lib.hid hown
        have HB4 : Hid (Below w.heap.size w w4) := Lib.hid ((HB.out.trans ((HB2.out.mono HB.out.size).trans (HB3.out.mono (Nat.le_trans HB.out.size HB2.out.size)))).grown hgr (Nat.le_trans HB.out.size (Nat.le_trans HB2.out.size HB3.out.size)) (fun j hj => (HLT.out j hj).1))
        clear hown hgr hblk4 e0 e1 e2
        go_wp2_with fail
        go_roundw
        case rel =>
          refine ⟨m + 1, .slice a' (putE ltS withinB 2199023255552 acc (k, u)).length c', by go_num, by omega, ?_, ?_, ?_⟩
          · simpa using heap_setCell_same w4 w.heap.size 0 _ _ (.slice a' (putE ltS withinB 2199023255552 acc (k, u)).length c') HBK4.out
          · rw [HST.out]
            exact ownsRow_setCell_other HO.out (a := ⟨w.heap.size, 0, none⟩) (own_off HO.out HBK4.out (by decide)) _
          · exact HB4.out.setCell (p := ⟨w.heap.size, 0, none⟩) (Nat.le_refl _) _
        case measure => simp [intOf]; omega
    · obtain rfl : m = n := by omega
      clear hB hblk hrow
      go_wp2_with fail
      go_ret
      have htk : xs.take m = xs := List.take_of_length_le (by rw [HN.out]; exact Nat.le_refl _)
      refine ⟨w.heap.size, sv, rfl, Nat.le_refl _, PS.fresh (base := w.heap.size) HBLK.out ?_ (of_tie HOK.out), HB.out⟩
      have h9 := HROW.out
      rw [htk] at h9
      exact h9
end Go.Proofs.Ytpcbdjdmhemjdaa
