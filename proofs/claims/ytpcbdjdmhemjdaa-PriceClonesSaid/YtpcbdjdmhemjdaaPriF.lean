/- slices.DeleteFunc at entries, of a row's end. -/
import Derived.Test.YtpcbdjdmhemjdaaPriE
namespace Go.Proofs.Ytpcbdjdmhemjdaa
open Go.RowKit
set_option linter.unusedVariables false
attribute [local go_sem] Oper.semAt_some

theorem drop_goes (e : Ent) (es : List Ent) : dropE withinB e es = es.filter fun x => !goesB e x := rfl
/-- What stands in a row behind some rounds. -/
structure DelI (e : Ent) (M : List Ent) (p : Nat) (i j : Nat) (M' : List Ent) : Prop where
  len : M'.length = M.length
  lt : i < j
  le : p + j ≤ M.length
  head : M'.take (p + i) = M.take p ++ dropE withinB e ((M.drop p).take j)
  tail : M'.drop (p + j) = M.drop (p + j)
theorem drop_take_succ {e x : Ent} {D : List Ent} {j : Nat} (h : D[j]? = some x) : dropE withinB e (D.take (j + 1)) = dropE withinB e (D.take j) ++ (if goesB e x = true then [] else [x]) := by
  rw [drop_goes, drop_goes, take_snoc h, List.filter_append]
  congr 1
  cases hg : goesB e x <;> simp [hg]
theorem DelI.first {e x : Ent} {M : List Ent} {p j : Nat} (hx : (M.drop p)[j]? = some x) (hgo : goesB e x = true) (hno : ∀ (t : Nat) (y : Ent), t < j → (M.drop p)[t]? = some y → goesB e y = false) : DelI e M p j (j + 1) M := by
  have hj := (List.getElem?_eq_some_iff.1 hx).1
  rw [List.length_drop] at hj
  refine ⟨rfl, Nat.lt_succ_self _, by omega, ?_, rfl⟩
  rw [drop_take_succ hx, if_pos hgo, List.append_nil, drop_goes, List.filter_eq_self.2 (fun y hy => ?_), List.take_add]
  obtain ⟨t, ht⟩ := List.getElem?_of_mem hy
  rw [List.getElem?_take] at ht
  split at ht
  · rename_i hlt; rw [hno t y hlt ht]; rfl
  · cases ht
theorem DelI.at_ {e : Ent} {M M' : List Ent} {p i j : Nat} (h : DelI e M p i j M') (hj : p + j < M.length) : M'[p + j]? = M[p + j]? := by
  have := congrArg (fun l => l[0]?) h.tail
  simpa using this
theorem DelI.goes {e x : Ent} {M M' : List Ent} {p i j : Nat} (h : DelI e M p i j M') (hx : M[p + j]? = some x) (hgo : goesB e x = true) : DelI e M p i (j + 1) M' := by
  have hj := (List.getElem?_eq_some_iff.1 hx).1
  refine ⟨h.len, by have := h.lt; omega, by omega, ?_, ?_⟩
  · rw [h.head, drop_take_succ (D := M.drop p) (j := j) (x := x) (by rw [List.getElem?_drop]; exact hx), if_pos hgo, List.append_nil]
  · rw [← Nat.add_assoc, ← List.drop_drop, h.tail, List.drop_drop]
theorem DelI.stays {e x : Ent} {M M' : List Ent} {p i j : Nat} (h : DelI e M p i j M') (hx : M[p + j]? = some x) (hgo : goesB e x = false) : DelI e M p (i + 1) (j + 1) (M'.set (p + i) x) := by
  have hj := (List.getElem?_eq_some_iff.1 hx).1
  have hl := h.len
  have hlt := h.lt
  refine ⟨by rw [List.length_set]; exact h.len, by omega, by omega, ?_, ?_⟩
  · rw [← Nat.add_assoc, take_snoc (x := x) (by rw [List.getElem?_set_self (by omega)]), List.take_set_of_le (Nat.le_refl _), h.head, drop_take_succ (D := M.drop p) (j := j) (x := x) (by rw [List.getElem?_drop]; exact hx), if_neg (by rw [hgo]; decide), List.append_assoc]
  · rw [List.drop_set_of_lt (by omega), ← Nat.add_assoc, ← List.drop_drop, h.tail, List.drop_drop]
theorem DelI.done {e : Ent} {M M' : List Ent} {p i j : Nat} (h : DelI e M p i j M') (hj : p + j = M.length) : M'.take (p + i) = M.take p ++ dropE withinB e (M.drop p) ∧ (dropE withinB e (M.drop p)).length = i := by
  have h1 := h.head
  rw [show (M.drop p).take j = M.drop p from List.take_of_length_le (by rw [List.length_drop]; omega)] at h1
  refine ⟨h1, ?_⟩
  have h2 := congrArg List.length h1
  have hl := h.len
  have hlt := h.lt
  rw [List.length_append, List.length_take, List.length_take] at h2
  omega
theorem FirstGo.none {e : Ent} {es : List Ent} (h : FirstGo e es (-1)) : dropE withinB e es = es := by
  rw [drop_goes]
  refine List.filter_eq_self.2 (fun x hx => ?_)
  rcases h with ⟨_, h⟩ | ⟨j, x', hj, _⟩
  · rw [h x hx]; rfl
  · omega
theorem zeroTE (w : World) : (zeroValue 41).run Try.prog w = .ok (.agg #[.int .u64 0, .int .i64 0]) w := by kernel_rfl
set_option maxRecDepth 100000 in
set_option maxHeartbeats 8000000 in
theorem delete_any (base g n cap p Be : Nat) (e : Ent) (M : List Ent) (w : World) (he : okS e.1) (hok : ∀ x ∈ M, okS x.1) (hM : M.length = n) (hlen : n ≤ 1048576) (hp : p ≤ n) (k0 : w.cell? ⟨Be, 0, none⟩ = some (.int .u64 (e.1 : Nat))) (k1 : w.cell? ⟨Be, 1, none⟩ = some (.int .i64 e.2)) (hBe : Be < w.heap.size) (hBg : Be ≠ g)
    (hrow : w.ownsRow base 41 2 (.slice (some ⟨g, 0, none⟩) n cap) n (flatVE M)) (a : Option Addr) (c : Nat) (ha : p < n → a = some ⟨g, p * 2, none⟩ ∧ c = cap - p) :
    Calls Try.prog 45 #[.slice a (n - p) c, .func (.func 46) #[] #[.pointer (some ⟨Be, 0, none⟩)]] w fun o w' => ∃ m a' c', m = (dropE withinB e (M.drop p)).length ∧ p + m ≤ n ∧ o = .returned (.slice a' m c') ∧ w'.ownsRow base 41 2 (.slice (some ⟨g, 0, none⟩) (p + m) cap) (p + m) (flatVE (M.take p ++ dropE withinB e (M.drop p))) ∧ But [g] w w' := by
  obtain ⟨cur, hgb, hbg, hncap, hcm, hcs, _⟩ := own_cells hrow
  have hgs : g < w.heap.size := (Array.getElem?_eq_some_iff.1 hgb).1
  have HI := Lib.hid (index_any a (n - p) c Be e (M.drop p) w he (fun x hx => hok x (List.mem_of_mem_drop hx)) (by rw [List.length_drop]; omega) k0 k1 hBe (EnsP.of_tail hrow hM hp a c ha))
  have HR := Lib.hid (fun (x : Ent) (W : World) (hx : okS x.1) (hb : But [g] w W) => raise1_any Be e x W he hx ((World.cell?_of_block (a := ⟨Be, 0, none⟩) (hb.block Be hBe (by simp; exact hBg))).trans k0) ((World.cell?_of_block (a := ⟨Be, 1, none⟩) (hb.block Be hBe (by simp; exact hBg))).trans k1) (Nat.lt_of_lt_of_le hBe hb.size))
  have HROW := Lib.hid hrow
  have HOK := Lib.hid hok
  have HM := Lib.hid hM
  obtain ⟨q, hq⟩ : ∃ q, n - p = q := ⟨_, rfl⟩
  rw [hq] at HI ⊢
  have HQ : Hid (p + q = n) := Lib.hid (by omega)
  have HHA := Lib.hid ha
  have HCAP := Lib.hid hncap
  have hq0 : q ≤ 1048576 := by omega
  clear hrow hok hM k0 k1 ha hgb hcs hq hlen hncap
  go_enter Try.func45, Try.ntmps45
  go_wp2_with fail
  refine HI.out.mono ?_
  rintro o w1 ⟨r, rfl, hf, hb⟩
  have HB1 : Hid (But [g] w w1) := Lib.hid (But.of_below hb)
  have HR1 : Hid (w1.ownsRow base 41 2 (.slice (some ⟨g, 0, none⟩) n cap) n (flatVE M)) := Lib.hid (row_but HROW.out (But.of_below (own := []) hb) (fun _ _ hk => nomatch hk))
  have HF := Lib.hid hf
  clear hb hf
  by_cases hr : r = -1
  · subst hr
    go_wp2_with fail
    go_ret
    have hd := HF.out.none
    have hl : (M.drop p).length = q := by rw [List.length_drop, HM.out]; have := HQ.out; omega
    refine ⟨q, a, c, by rw [hd, hl], by have := HQ.out; omega, rfl, ?_, HB1.out⟩
    rw [hd, List.take_append_drop, HQ.out]
    exact HR1.out
  · obtain ⟨j0, x0, hj0, hx0, hgo0, hno0⟩ : ∃ (j : Nat) (x : Ent), r = j ∧ (M.drop p)[j]? = some x ∧ goesB e x = true ∧ ∀ (t : Nat) (y : Ent), t < j → (M.drop p)[t]? = some y → goesB e y = false := by
      rcases HF.out with ⟨h, _⟩ | h
      · exact absurd h hr
      · exact h
    subst hj0
    have hj0q : j0 < q := by have := (List.getElem?_eq_some_iff.1 hx0).1; rw [List.length_drop, HM.out] at this; have := HQ.out; omega
    have hpn : p < n := by have := HQ.out; omega
    obtain ⟨ea, ec⟩ := HHA.out hpn
    subst ea
    have HD0 := Lib.hid (DelI.first hx0 hgo0 hno0)
    obtain ⟨off, hoff⟩ : ∃ off, p * 2 = off := ⟨_, rfl⟩
    rw [hoff]
    have HOFF := Lib.hid hoff
    have hqc : q ≤ c := by have := HCAP.out; have := HQ.out; omega
    have HC := Lib.hid ec
    have hjm : ((j0 : Int) == -1) = false := by rw [beq_eq_false_iff_ne]; omega
    clear hx0 hgo0 hno0 hoff hr HHA HF ec
    go_wp2
    clear hjm
    go_loopw [5, 6] (fun iv jv wr => ∃ (i j : Nat) (M' : List Ent), iv = .int .i64 i ∧ jv = .int .i64 j ∧ DelI e M p i j M' ∧ wr.ownsRow base 41 2 (.slice (some ⟨g, 0, none⟩) n cap) n (flatVE M') ∧ But [g] w wr) (fun _ jv _ => q - (intOf jv).toNat)
    case atStart => exact ⟨j0, j0 + 1, M, rfl, by go_num, HD0.out, HR1.out, HB1.out⟩
    case round =>
      obtain ⟨i, j, M', rfl, rfl, hD, hR, hB⟩ := hrel
      obtain ⟨wo, hwo⟩ : ∃ x, x = wr := ⟨wr, rfl⟩
      subst hwo
      have hl := hD.len
      have hij := hD.lt
      have hle := hD.le
      have HD := Lib.hid hD
      have HRR := Lib.hid hR
      have HBB := Lib.hid hB
      have hgw : g < wo.heap.size := Nat.lt_of_lt_of_le hgs hB.size
      have hjq : j ≤ q := by have := HQ.out; have := HM.out; omega
      have hi0 : (0 : Int) ≤ i := by omega
      have hj0' : (0 : Int) ≤ j := by omega
      by_cases hlt : j < q
      · have hjn : p + j < n := by have := HQ.out; omega
        obtain ⟨⟨k, u⟩, hx⟩ : ∃ x, M[p + j]? = some x := ⟨_, List.getElem?_eq_getElem (by rw [HM.out]; exact hjn)⟩
        have hx' : M'[p + j]? = some (k, u) := by rw [hD.at_ (by rw [HM.out]; exact hjn)]; exact hx
        obtain ⟨f0, f1⟩ := flatVE_get M' _ _ hx'
        have d0 : wo.cell? ⟨g, off + j * 2, none⟩ = some (.int .u64 (k : Nat)) := by rw [hR.cellAt _ (by have := HOFF.out; omega), show off + j * 2 = (p + j) * 2 from by have := HOFF.out; omega]; exact f0
        have d1 : wo.cell? ⟨g, off + j * 2 + 1, none⟩ = some (.int .i64 u) := by rw [hR.cellAt _ (by have := HOFF.out; omega), show off + j * 2 + 1 = (p + j) * 2 + 1 from by have := HOFF.out; omega]; exact f1
        have hkok : okS k := HOK.out _ (List.mem_of_getElem? hx)
        have g2 : (j : Int) < q := by omega
        have HX := Lib.hid hx
        clear hD hR hB hx hx' f0 f1 hl hle
        obtain ⟨W1, hW1⟩ : ∃ W1, wo.alloc (.cells #[.int .u64 (k : Nat), .int .i64 u] 41) = W1 := ⟨_, rfl⟩
        have hb01 : Below wo.heap.size wo W1 := by rw [← hW1]; exact (Below.refl _ _).alloc (Nat.le_refl _) _
        have hnew : W1.heap[wo.heap.size]? = some (.cells #[.int .u64 (k : Nat), .int .i64 u] 41) := by rw [← hW1]; exact World.alloc_heap_new wo _
        have hbl : wo.heap.size < W1.heap.size := (Array.getElem?_eq_some_iff.1 hnew).1
        have c0 : W1.cell? ⟨wo.heap.size, 0, none⟩ = some (.int .u64 (k : Nat)) := cell_of_row W1 _ 0 _ _ _ hnew
        have c1 : W1.cell? ⟨wo.heap.size, 1, none⟩ = some (.int .i64 u) := cell_of_row W1 _ 1 _ _ _ hnew
        have hB1 : But [g] w W1 := HBB.out.trans' (But.of_below hb01)
        have HW1 := Lib.hid hW1
        have HB01 := Lib.hid hb01
        have HB1' := Lib.hid hB1
        have HBL := Lib.hid hbl
        clear hW1 hb01 hB1 hnew hbl
        cases hgo : goesB e (k, u) with
        | true =>
          have HC1 := Lib.hid (HR.out (k, u) W1 hkok HB1'.out)
          rw [hgo] at HC1
          go_upto_region 8 with fail
          rw [HW1.out]
          go_wp2_with fail
          refine HC1.out.mono ?_
          rintro o w2 ⟨rfl, hb2⟩
          have HB2 := Lib.hid hb2
          clear hb2 c0 c1
          go_wp2_with fail
          go_roundw
          case rel => exact ⟨i, j + 1, M', rfl, by go_num, HD.out.goes HX.out hgo, row_but HRR.out (But.of_below (own := []) (HB01.out.trans (HB2.out.mono HB01.out.size))) (fun _ _ hk => nomatch hk), HB1'.out.trans' (But.of_below HB2.out)⟩
          case measure => simp [intOf]; omega
        | false =>
          have HC1 := Lib.hid (HR.out (k, u) W1 hkok HB1'.out)
          rw [hgo] at HC1
          go_upto_region 8 with fail
          rw [HW1.out]
          go_wp2_with fail
          refine HC1.out.mono ?_
          rintro o w2 ⟨rfl, hb2⟩
          have e0 := (hb2.cell (p := ⟨wo.heap.size, 0, none⟩) HBL.out).trans c0
          have e1 := (hb2.cell (p := ⟨wo.heap.size, 1, none⟩) HBL.out).trans c1
          have hR2 : w2.ownsRow base 41 2 (.slice (some ⟨g, 0, none⟩) n cap) n (flatVE M') := row_but HRR.out (But.of_below (own := []) (HB01.out.trans (hb2.mono HB01.out.size))) (fun _ _ hk => nomatch hk)
          have hB2 : But [g] w w2 := HB1'.out.trans' (But.of_below hb2)
          have hfl : (flatVE M').length = n * 2 := hR2.1
          obtain ⟨v0, hv0⟩ : ∃ v, (flatVE M')[(p + i) * 2]? = some v := ⟨_, List.getElem?_eq_getElem (by omega)⟩
          obtain ⟨v1, hv1⟩ : ∃ v, (flatVE M')[(p + i) * 2 + 1]? = some v := ⟨_, List.getElem?_eq_getElem (by omega)⟩
          have s0 : w2.cell? ⟨g, off + i * 2, none⟩ = some v0 := by rw [hR2.cellAt _ (by have := HOFF.out; omega), show off + i * 2 = (p + i) * 2 from by have := HOFF.out; omega]; exact hv0
          have s1 : w2.cell? ⟨g, off + i * 2 + 1, none⟩ = some v1 := by rw [hR2.cellAt _ (by have := HOFF.out; omega), show off + i * 2 + 1 = (p + i) * 2 + 1 from by have := HOFF.out; omega]; exact hv1
          have t0 : w2.frozen? ⟨g, off + i * 2, none⟩ = false := hR2.frozenAt _
          have t1 : w2.frozen? ⟨g, off + i * 2 + 1, none⟩ = false := hR2.frozenAt _
          have g3 : (i : Int) < q := by omega
          have HR2 := Lib.hid hR2
          have HB2 := Lib.hid hB2
          clear hb2 c0 c1 hR2 hB2 hv0 hv1 hfl d0 d1
          go_wp2_with fail
          go_roundw
          case rel =>
            refine ⟨i + 1, j + 1, _, by go_num, by go_num, HD.out.stays HX.out hgo, ?_, ?_⟩
            · have h1 := (HR2.out.stored ((p + i) * 2) (.int .u64 (k : Nat))).1
              have h2 := (h1.stored ((p + i) * 2 + 1) (.int .i64 u)).1
              rw [flatVE_set]
              rw [show (p + i) * 2 = off + i * 2 from by have := HOFF.out; omega] at h2 ⊢
              exact h2
            · exact (HB2.out.set (p := ⟨g, off + i * 2, none⟩) (.inl (by simp)) _).set (p := ⟨g, off + i * 2 + 1, none⟩) (.inl (by simp)) _
          case measure => simp [intOf]; omega
      · obtain rfl : j = q := by omega
        have hne : ¬ c = i := by omega
        have hic : i ≤ c := by omega
        have hdone := HD.out.done (by rw [HM.out]; exact HQ.out)
        have HDN := Lib.hid hdone
        have hin : i < n := by have := HQ.out; omega
        have HCE := Lib.hid (show off + i * 2 + (j - i) * 2 ≤ cap * 2 from by have := HC.out; have := HOFF.out; have := HQ.out; have := HCAP.out; omega)
        have HT : Hid (wo.ownsRow base 41 2 (.slice (some ⟨g, 0, none⟩) (p + i) cap) (p + i) (flatVE (M.take p ++ dropE withinB e (M.drop p)))) := Lib.hid (by rw [← hdone.1, flatVE_take]; exact own_take hR (by have := HQ.out; omega))
        have HKO : Hid ((p + i) * 2 ≤ off + i * 2) := Lib.hid (by have := HOFF.out; omega)
        have hsub : 0 < j - i := by omega
        clear hD hR hB hl hle hdone
        go_wp2_with (refine wpList_clear_row rfl (.tmp 38) 22 rfl 41 Try.underlying22 (.agg #[.int .u64 0, .int .i64 0]) zeroTE rfl g (off + i * 2) (j - i) (c - i) rfl hsub base (p + i) cap _ HT.out HKO.out HCE.out ?_; intro w4 HR4 HB4)
        go_ret
        exact ⟨i, _, _, HDN.out.2.symm, by have := HQ.out; omega, rfl, HR4.out, HBB.out.trans' HB4.out⟩
end Go.Proofs.Ytpcbdjdmhemjdaa
