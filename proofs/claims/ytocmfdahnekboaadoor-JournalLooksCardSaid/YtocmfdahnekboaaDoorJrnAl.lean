/- saleroomlaw07.alive. -/
import Derived.Test.YtocmfdahnekboaaDoorJrnPw
import Derived.Lib.SlBytesConst
import Derived.Test.YtocmfdahnekboaaDoorJrnR
namespace Go.Proofs.YtocmfdahnekboaaDoor
open Go.RowKit Go.Shelf
set_option linter.unusedVariables false
attribute [local go_sem] Oper.semAt_some

theorem fresh_5 : freshL.take 5 = [2, 0, 1, 1, 0] := by
  unfold freshL
  have e : beginFs 1 [] = [(1, headB 1 0), (3, [])] := rfl
  rw [e, head_10]
  rfl
theorem s_jr : strOfNums ([2, 0, 1, 1, 0].map Int.ofNat) = ⟨#[2, 0, 1, 1, 0]⟩ := by decide +kernel
theorem s_xyz : strOfNums ([120, 121, 122].map Int.ofNat) = ⟨#[120, 121, 122]⟩ := by decide +kernel
theorem heavy_23 : heavyN 2 3 = 26 := by
  have e : headB 2 3 = [2, 1] := by
    unfold headB
    rw [uv_lt (by decide), show piecesN 3 = 1 from rfl, uv_lt (by decide)]
    rfl
  unfold heavyN
  rw [e]
  rfl
/-- How much the numbers and lengths come to. -/
def sumR (pre : List NX) : Nat := (pre.map fun x => x.1 + x.2.1.length).sum
def AlvI (w : World) (NB : Nat) (pre : List NX) (W : World) : Prop := Boxed W NB 3 (.int .i64 (sumR pre : Nat)) ∧ Below NB w W

set_option maxRecDepth 100000 in
set_option maxHeartbeats 8000000 in
theorem jAlive_any (w : World) : Calls Tryd.prog 4 #[] w fun e w' => e = .returned (.bool true) ∧ Below w.heap.size w w' := by
  have hcv := fun (w : World) (C : Array Value) (n c : Nat) => Lib.run_convert_bytes_const (P := Tryd.prog) w 22 5 C n c Tryd.underlying22 Tryd.underlying5
  refine (callsIn_wide (n := 5)).1 ?_
  refine callsIn_of_wp_marks Tryd.func4 rfl trivial ?_ rfl
  simp only [Tryd.ntmps4, List.size_toArray, List.length_cons, List.length_nil, Nat.reduceAdd, Nat.reduceSub, Array.replicate_succ, Array.replicate_zero, List.push_toArray, List.append_toArray, List.nil_append, List.cons_append]
  refine wpIn_wide.2 ?_
  go_wp2_with fail
  refine (new_any 200 w).mono ?_
  rintro e w1 ⟨rfl, hD1, hb1⟩
  have HO := Lib.hid (new_st (w := w) hb1 hD1 (by simp) rfl rfl rfl (by decide))
  have hz1 := hb1.size
  clear hD1 hb1
  go_wp2_with fail
  refine HO.out.mono ?_
  rintro e w2 (⟨_, rfl, own2, D2, hst2, h0, h1, hcap2, hleft2⟩ | ⟨hc, _⟩)
  rotate_left
  · exact absurd hc (by decide)
  have hcap2' : D2.cap = 200 := hcap2
  have hleft2' : 9223372036854775807 ≤ D2.left + 16 := hleft2
  have HS2 := Lib.hid hst2
  have HBY := Lib.hid (by obtain ⟨x, y, d⟩ := hst2.dev; exact bytes_any 0 w2 d : Calls Tryd.prog 11 #[.pointer (some ⟨w.heap.size, 0, none⟩), .int .i64 0] w2 _)
  have hrow2 : D2.row 0 = freshL := h0
  rw [hrow2, fresh_len] at HBY
  clear hst2 HO hcap2 hleft2
  go_wp2_with fail
  refine HBY.out.mono ?_
  rintro e w3 ⟨vb, rfl, hob, hb3⟩
  have hst3 := HS2.out.below hb3
  obtain ⟨ba, bc, hvb⟩ := own_form hob
  subst hvb
  have hS3 : Sl encY w3.heap.size w3 (.slice ba 16 bc) freshL := Sl.of_owns (by rw [fresh_len]; exact hob)
  obtain ⟨bb, bo, rfl⟩ : ∃ b o, ba = some ⟨b, o, none⟩ := by
    rcases hS3 with ⟨e, _⟩ | ⟨b, off, cap, e, _⟩
    · exfalso
      have := fresh_len
      rw [e] at this
      simp at this
    · simp only [Value.slice.injEq] at e; exact ⟨_, _, e.1⟩
  have hcb := hS3.capb
  have hS5 := hS3.take (k := 5) (by decide)
  rw [fresh_5] at hS5
  have hstr : (convert 22 9 (.slice (some ⟨bb, bo, none⟩) 5 bc)).run Tryd.prog w3 = .ok (.string (strOfNums ([2, 0, 1, 1, 0].map Int.ofNat))) w3 := (bytesIn_of hS5).convert (P := Tryd.prog) (by simp) bc 22 5 9 Tryd.underlying22 Tryd.underlying5 Tryd.underlying9
  rw [s_jr] at hstr
  have hc5 : 5 ≤ bc := by omega
  have HS3 := Lib.hid hst3
  have HAG := Lib.hid (age_any w3 hst3.jrn)
  have hzw3 := hst3.bel.size
  have hbl4 : Below w3.heap.size w3 (w3.alloc (.cells #[.int .u8 97, .int .u8 98] 5 (2, 3))) := (Below.refl _ _).alloc (Nat.le_refl _) _
  have HAP := Lib.hid (append_st (hst3.below hbl4) (some ⟨w3.heap.size, 0, none⟩) 2 [97, 98] ⟨by decide, by decide⟩ (by decide) (lit_at _ w3 rfl [97, 98] 2 rfl #[.int .u8 97, .int .u8 98] (2, 3) rfl) (by rw [hcap2']; decide) (by simp; omega))
  have hr2 : recsL (D2.row (0 : Nat)) = [] ∧ snapL (D2.row (0 : Nat)) = [] := by
    have h := kept_begin (age := 1) (snap := []) (by decide) (by decide) (fun x hx => by cases hx) (by simp)
    rw [show D2.row ((0 : Nat) : Int) = freshL from hrow2]
    exact ⟨h.2.2, h.2.1⟩
  have HR2 := Lib.hid hr2
  clear hob hb3 hst3 hS3 hS5 HBY hbl4 hr2 h0 hrow2
  go_wp2_with fail
  refine HAG.out.mono ?_
  rintro e w' ⟨rfl, rfl⟩
  go_wp2_with fail
  refine HAP.out.mono ?_
  rintro e w4 ⟨rfl, own3, D3, hst4, hap, hbt4, hs4⟩
  have HS4 := Lib.hid hst4
  have HCT := Lib.hid (count_any w4 hst4.jrn)
  have hcap3 : D3.cap = 200 := by rw [hap.cap, hcap2']
  have hleft3 : 9223372036854775807 ≤ D3.left + 25 := by have := hap.left; simp at this; omega
  have hrec3 : recsL (D3.row ((0 : Nat) : Int)) = [[97, 98]] := by rw [hap.recs, HR2.out.1]; rfl
  have hoth3 : (D3.row (1 - ((0 : Nat) : Int))).length = 0 := by rw [hap.other]; show D2.r1.length = 0; rw [h1]; rfl
  have hzw4 := hst4.bel.size
  have hown4 : ∀ k ∈ own3, k < w4.heap.size := by obtain ⟨x, y, d⟩ := hst4.dev; exact d.lt
  have hbl5 : Below w4.heap.size w4 (w4.alloc (.cells #[.int .i64 0] 3)) := (Below.refl _ _).alloc (Nat.le_refl _) _
  have hN5 : Boxed (w4.alloc (.cells #[.int .i64 0] 3)) w4.heap.size 3 (.int .i64 0) := Boxed.new w4 _ _
  have hst5 := hst4.below hbl5
  obtain ⟨w5, hw5⟩ : ∃ w5, w4.alloc (.cells #[.int .i64 0] 3) = w5 := ⟨_, rfl⟩
  rw [hw5] at hbl5 hN5 hst5
  have HRC := Lib.hid (by obtain ⟨x, y, d⟩ := hst5.dev; exact records_any w5 d hst5.jrn : Calls Tryd.prog 15 #[.pointer (some ⟨w1.heap.size, 0, none⟩)] w5 _)
  have HS5 := Lib.hid hst5
  have HW5 := Lib.hid hw5
  have HB5 := Lib.hid hbl5
  have HN5 := Lib.hid hN5
  have hn5 := hN5.lt
  have hRB : Bytes (D3.row ((0 : Nat) : Int)) := by have := hst4.dok.row ((0 : Nat) : Int); have h2 := hst4.dok.cap; exact ⟨by omega, this.2⟩
  obtain ⟨L, hL⟩ : ∃ L, D3.row ((0 : Nat) : Int) = L := ⟨_, rfl⟩
  rw [hL] at HRC hrec3 hRB
  have HREC : Hid (bodF 4 (scanL L 0) = [[97, 98]]) := Lib.hid hrec3
  have HRB := Lib.hid hRB
  clear hst4 hap hbt4 hs4 hst5 hw5 hbl5 hN5 hrec3 hRB hL HAP HAG hstr HR2 h1 HS3
  go_wp2_with fail
  refine HCT.out.mono ?_
  rintro e w' ⟨rfl, rfl⟩
  go_wp2_with fail
  rw [HW5.out]
  refine HRC.out.mono ?_
  rintro e w6 ⟨R, X, K, Bs, g, va, vc, rfl, hRC, hb6⟩
  have hz6 := hb6.size
  have hI0 : AlvI w5 w4.heap.size [] w6 := ⟨(hb6.block _ hn5).trans HN5.out, hb6.mono (by omega)⟩
  have hRl := hRC.br.lt
  have hXl := hRC.bd.bx.lt
  have hKl := hRC.bd.bk.lt
  have hsl := hRC.bd.sc.hs
  have hgl := hRC.bd.sc.hg
  have hR1 := hRC.l1
  have hX1 := hRC.bd.l1
  have hK1 := hRC.bd.l2
  have hs1 := hRC.bd.sc.l1
  have hg1 := hRC.bd.sc.l2
  have HI0 := Lib.hid hI0
  have HRCC := Lib.hid hRC
  clear hI0 hRC hb6 HRC HCT
  go_wp2_with fail
  rename_i K' hKQ
  refine (wpIn_wide (n := 5)).1 ?_
  refine wpIn_act ?_
  intro A hA
  have one : ∀ (pre : List NX) (x : NX) (zs : List CX), pre ++ [x] = idxC zs → zs.map Prod.fst <+: bodF 4 (scanL L 0) → pre = [] ∧ x.1 = 0 ∧ x.2.1 = [97, 98] := by
    intro pre x zs h1 h2
    rw [HREC.out] at h2
    have e1 := congrArg List.length h1
    rw [idxC_len, List.length_append, List.length_singleton] at e1
    have e2 := h2.length_le
    rw [List.length_map, List.length_singleton] at e2
    have hp : pre = [] := List.eq_nil_of_length_eq_zero (by omega)
    subst hp
    have e3 := congrArg (fun l => l.map Prod.snd) h1
    simp only [idxC_snd] at e3
    have e4 : zs = [x.2] := by rw [← e3]; rfl
    subst e4
    refine ⟨rfl, idxC_last h1, ?_⟩
    obtain ⟨t, ht⟩ := h2
    simp at ht
    exact ht.1
  refine rangeP rfl (by omega) (gf := 35) (lb := #[.pointer (some ⟨R, 0, none⟩)]) (by rw [hA]; rfl) trivial (enters_of Tryd.func35 (by kernel_rfl) rfl)
    (records1 R X K Bs g w4.heap.size va vc L HRB.out HRB.out.1 w6 (by omega) (HRCC.out.le (Nat.zero_le _)))
    (fun x W l o r hl' h => RyB.putO hl' h) (fun r h => by simp at h; omega) (by omega) (Below.refl _ _) (fun _ => rfl)
    (AlvI w5 w4.heap.size) (fun _ _ _ => False) (fun pre A C row ⟨h1, h2⟩ hg hr => ⟨keeps_block hg hr (by omega) h1, ownFrom_below (β := Unit) (show w4.heap.size ≤ w5.heap.size by omega) (show w4.heap.size ≤ w6.heap.size by omega) () A C row h2 hg hr⟩) (fun _ _ _ _ _ h _ _ => h)
    (fun pre W r v hr ⟨h1, h2⟩ => by
      have hr' : w4.heap.size < r := by simp at hr; omega
      exact ⟨h1.other (by omega) v, h2.setCell (p := ⟨r, 0, none⟩) (by show w4.heap.size ≤ r; omega) v⟩) (fun _ _ _ _ _ _ h => h)
    (fun pre W r v hr1 hr2 ⟨h1, h2⟩ => ⟨h1.other (by omega) v, h2.setCell (p := ⟨r, 0, none⟩) (by show w4.heap.size ≤ r; omega) v⟩) (fun _ _ _ _ _ _ _ h => h)
    HI0.out (fun x => { tmps := ((((A.tmps.setIfInBounds 54 (.int .i64 (x.1 : Nat))).setIfInBounds 55 x.2.2).setIfInBounds 6 (.int .i64 (x.1 : Nat))).setIfInBounds 7 x.2.2), defers := [] }) ?assign ?body ?done ?stop
  case assign =>
    rintro l x W KK hK
    rw [hA] at hK ⊢
    gi_wp2
    exact hK
  case body =>
    rintro l pre ⟨i, ck, xv⟩ W ⟨h1, h2⟩ ⟨zs, hzs, hp⟩ hz5 hxR
    have hxS : Sl encY W.heap.size W xv ck := hxR.1
    obtain ⟨rfl, hi, hck⟩ := one pre (i, ck, xv) zs hzs hp
    dsimp only at hi hck
    subst hi; subst hck
    obtain ⟨xa, xc, rfl⟩ := hxS.form
    have c1 : W.cell? ⟨w4.heap.size, 0, none⟩ = some (.int .i64 0) := h1.cell
    have f1 := h1.frozen
    have hbt : But [w4.heap.size] W (W.setCell ⟨w4.heap.size, 0, none⟩ (.int .i64 2)) := (But.refl _ _).set (by simp) _
    have HFIN : Hid (KeepsFrom w6.heap.size W (W.setCell ⟨w4.heap.size, 0, none⟩ (.int .i64 2)) ∧ KpO w4.heap.size 5 [R, K, X, Bs, g] w6 W (W.setCell ⟨w4.heap.size, 0, none⟩ (.int .i64 2)) ∧ AlvI w5 w4.heap.size ([] ++ [((0, [97, 98], .slice xa ([97, 98] : List Nat).length xc) : NX)]) (W.setCell ⟨w4.heap.size, 0, none⟩ (.int .i64 2))) := Lib.hid
      ⟨⟨by simp, fun j o hB hk hoc => (hbt.block j (Array.getElem?_eq_some_iff.1 hk).1 (by simp; omega)).trans hk⟩, ⟨(Below.refl _ W).setCell (p := ⟨w4.heap.size, 0, none⟩) (Nat.le_refl _) _, fun j h1 h2 => (setCell_heap (by omega)), fun j hk => setCell_heap (by simp at hk; omega)⟩, h1.set _, h2.setCell (p := ⟨w4.heap.size, 0, none⟩) (Nat.le_refl _) _⟩
    clear h1 h2 hzs hp hxR hxS hbt
    rw [hA]
    gi_wp2
    exact HFIN.out
  case stop =>
    rintro D c' pre W hD hp h hK
    exact h.elim
  case done =>
    rintro DB ys W hDB ⟨zs, hzs, hfs⟩ ⟨h1, h2⟩ hK
    have hsum : sumR ys = 2 := by
      have hl : zs.length = 1 := by
        have := congrArg List.length hfs
        rw [List.length_map, HREC.out] at this
        exact this
      obtain ⟨z, rfl⟩ : ∃ z, zs = [z] := by
        match zs, hl with
        | [z], _ => exact ⟨z, rfl⟩
      rw [HREC.out] at hfs
      simp at hfs
      rw [hzs]
      show sumR [(0, z)] = 2
      unfold sumR
      simp [hfs]
    rw [hsum] at h1
    have hst7 : St w W own3 w1.heap.size w.heap.size D3 0 1 (0 + 1) (16 + ([97, 98].length + 7)) := HS4.out.below (HB5.out.trans h2)
    have c1 := h1.cell
    have HK7 := Lib.hid hK
    have HN7 := Lib.hid h1
    have HS7 := Lib.hid hst7
    clear h1 h2 hK hst7 hzs hfs hsum
    rw [hA]
    refine hKQ _ _ ?_
    have HRM : Hid (Calls Tryd.prog 16 #[.pointer (some ⟨w1.heap.size, 0, none⟩)] W fun e W' => e = .returned (.int .i64 175) ∧ Below W.heap.size W W') := Lib.hid (by
      have := room_st HS7.out
      rw [hcap3] at this
      exact this)
    have hbl8 : ∀ W8 : World, Below W8.heap.size W8 (W8.alloc (.cells #[.int .u8 120, .int .u8 121, .int .u8 122] 5 (3, 4))) := fun W8 => (Below.refl _ _).alloc (Nat.le_refl _) _
    go_wp2_with fail
    refine HRM.out.mono ?_
    rintro e w8 ⟨rfl, hb8⟩
    have hst8 := HS7.out.below hb8
    have hN8 : Boxed w8 w4.heap.size 3 (.int .i64 2) := (hb8.block _ HN7.out.lt).trans HN7.out
    have hK8 := (hb8.block _ (Array.getElem?_eq_some_iff.1 HK7.out).1).trans HK7.out
    have hoff8 : Off own3 (.slice (some ⟨w8.heap.size, 0, none⟩) 3 3) := fun ad m c e _ hm => by
      cases e
      obtain ⟨x, y, d⟩ := hst8.dev
      exact absurd (d.lt _ hm) (Nat.lt_irrefl _)
    have HCO := Lib.hid (compact_st (hst8.below (hbl8 w8)) (some ⟨w8.heap.size, 0, none⟩) 3 [120, 121, 122] ⟨by decide, by decide⟩ (lit_at _ w8 rfl [120, 121, 122] 3 rfl #[.int .u8 120, .int .u8 121, .int .u8 122] (3, 4) rfl) hoff8 (by decide) (by rw [show heavyN (1 + 1) [120, 121, 122].length = 26 from heavy_23, hcap3]; decide) (by rw [show heavyN (1 + 1) [120, 121, 122].length = 26 from heavy_23, hoth3]; omega))
    have HN8 := Lib.hid hN8
    have HK8 := Lib.hid hK8
    have hz8 := hb8.size
    have hDl := (Array.getElem?_eq_some_iff.1 HK7.out).1
    have hjl1 : w1.heap.size < w4.heap.size := HS4.out.jrn.lt
    clear hst8 hN8 hK8 hoff8 hb8 HRM
    go_wp2_with fail
    refine HCO.out.mono ?_
    rintro e w9 ⟨rfl, own4, D4, hst9, hco, hbt9, hs9⟩
    have hlow4 : ∀ k ∈ own4, k < w4.heap.size ∨ w8.heap.size ≤ k := fun k hk => (hs9 k hk).imp (hown4 k) (fun h => by simp at h; omega)
    have hN9 : Boxed w9 w4.heap.size 3 (.int .i64 2) := (hbt9.block _ (Nat.lt_of_lt_of_le HN8.out.lt (hbl8 w8).size) (fun hm => by
      rcases List.mem_cons.1 hm with h | h
      · omega
      · have := hown4 _ h; omega)).trans (((hbl8 w8).block _ HN8.out.lt).trans HN8.out)
    have hK9 : w9.heap[DB]? = some (.deferred (some [])) := (hbt9.block _ (by have := (hbl8 w8).size; omega) (fun hm => by
      rcases List.mem_cons.1 hm with h | h
      · omega
      · have := hown4 _ h; omega)).trans (((hbl8 w8).block _ (by omega)).trans HK8.out)
    have hz9 : w8.heap.size ≤ w9.heap.size := Nat.le_trans (hbl8 w8).size hbt9.size
    have HOP := Lib.hid (reopen_st hst9)
    have HSN4 : Hid (snapL (D4.row ((1 - 0 : Nat) : Int)) = [120, 121, 122]) := Lib.hid hco.snap
    have HN9 := Lib.hid hN9
    have HK9 := Lib.hid hK9
    have hown9 : ∀ k ∈ own4, k < w9.heap.size := by obtain ⟨x, y, d⟩ := hst9.dev; exact d.lt
    clear hst9 hco hbt9 hs9 hN9 hK9 HCO
    go_wp2_with fail
    refine HOP.out.mono ?_
    rintro e w10 ⟨rfl, own5, hst10, hbt10, hs10, _, _⟩
    have hN10 : Boxed w10 w4.heap.size 3 (.int .i64 2) := (hbt10.block _ HN9.out.lt (fun hm => by rcases hlow4 _ hm with h | h <;> omega)).trans HN9.out
    have hK10 : w10.heap[DB]? = some (.deferred (some [])) := (hbt10.block _ (by omega) (fun hm => by rcases hlow4 _ hm with h | h <;> omega)).trans HK9.out
    have HAG2 := Lib.hid (age_any w10 hst10.jrn)
    have HSN := Lib.hid (by obtain ⟨x, y, d⟩ := hst10.dev; exact snapshot_any w10 d hst10.jrn : Calls Tryd.prog 18 #[.pointer (some ⟨w9.heap.size, 0, none⟩)] w10 _)
    rw [HSN4.out] at HSN
    have c10 := hN10.cell
    have HS10 := Lib.hid hst10
    have HK10 := Lib.hid hK10
    have hDl10 := (Array.getElem?_eq_some_iff.1 hK10).1
    clear hst10 hbt10 hs10 hN10 hK10 HOP
    go_wp2_with fail
    refine HAG2.out.mono ?_
    rintro e w' ⟨rfl, rfl⟩
    go_wp2_with fail
    refine HSN.out.mono ?_
    rintro e w11 ⟨vs, rfl, hos, hb11⟩
    have hSs : Sl encY w11.heap.size w11 vs [120, 121, 122] := Sl.of_owns hos
    obtain ⟨sa, sc, rfl⟩ := hSs.form
    have hstr : (convert 22 9 (.slice sa 3 sc)).run Tryd.prog w11 = .ok (.string (strOfNums ([120, 121, 122].map Int.ofNat))) w11 := (bytesIn_of hSs).convert (P := Tryd.prog) (by simp) sc 22 5 9 Tryd.underlying22 Tryd.underlying5 Tryd.underlying9
    rw [s_xyz] at hstr
    have hst11 := HS10.out.below hb11
    have HCT := Lib.hid (count_any w11 hst11.jrn)
    have HWG := Lib.hid (jweight_any 2 9 (by decide) rfl w11)
    have HHV := Lib.hid (fun W => heavy_any 2 3 (by decide) (by decide) W)
    have HHV2 := Lib.hid (fun W => heavy_any 1 0 (by decide) (by decide) W)
    rw [heavy_23] at HHV
    rw [heavy_10] at HHV2
    have hbw : Below w.heap.size w w11 := hst11.bel
    have HBW := Lib.hid hbw
    have HK11 : Hid (w11.heap[DB]? = some (.deferred (some []))) := Lib.hid ((hb11.block _ hDl10).trans HK10.out)
    clear hos hSs hst11 hb11 hbw HSN HAG2
    rw [show ([120, 121, 122] : List Nat).length = 3 from rfl]
    go_wp2_with fail
    refine HCT.out.mono ?_
    rintro e w' ⟨rfl, rfl⟩
    go_wp2_with fail
    refine HWG.out.mono ?_
    rintro e w' ⟨rfl, rfl⟩
    go_wp2_with fail
    refine (HHV.out w11).mono ?_
    rintro e w12 ⟨rfl, hb12⟩
    go_wp2_with fail
    refine (HHV2.out w12).mono ?_
    rintro e w13 ⟨rfl, hb13⟩
    have hK13 : w13.heap[DB]? = some (.deferred (some [])) := (hb13.block _ (by have := hb12.size; have := (Array.getElem?_eq_some_iff.1 HK11.out).1; omega)).trans ((hb12.block _ (Array.getElem?_eq_some_iff.1 HK11.out).1).trans HK11.out)
    have hbw13 : Below w.heap.size w w13 := (HBW.out.trans (hb12.mono HBW.out.size)).trans (hb13.mono (Nat.le_trans HBW.out.size hb12.size))
    have HK13 := Lib.hid hK13
    have HEND : ∀ e : Ending, e = .returned (.bool true) → e = .returned (.bool true) ∧ Below w.heap.size w (w13.putObj DB (.deferred none)) := fun e he => ⟨he, hbw13.trans ((But.putObj : But [DB] w13 _).below (n := w.heap.size) (by simp; omega) hbw13.size)⟩
    have HE := Lib.hid HEND
    clear hb12 hb13 hK13 hbw13 HEND hstr c10
    go_wp2
    refine ⟨by simp, .inl ⟨_, _, rfl, run_takeDeferred HK13.out, ?_⟩⟩
    exact ⟨_, results_tmp rfl _ _ _, HE.out _ (by first | rfl | simp)⟩
end Go.Proofs.YtocmfdahnekboaaDoor

/- What journals have, held against each other. -/
namespace Go.Proofs.YtocmfdahnekboaaDoor
open Go.RowKit Go.Shelf SumM
set_option linter.unusedVariables false

theorem HasAt.below {n : Nat} {W W' : World} {sv rv : Value} {S : List Nat} {rs : List (List Nat)} (h : HasAt n W sv rv S rs) (hb : Below W.heap.size W W') : HasAt n W' sv rv S rs := by
  obtain ⟨h1, ys, h2, h3, h4⟩ := h
  exact ⟨own_below h1 hb (Nat.le_refl _), ys, h2, own_below h3 hb (Nat.le_refl _), fun y hy => by
    have := RyB.keep (n := n) (x := y) (h4 y hy) hb.size (fun k cs fr _ hk => (hb.block k (Array.getElem?_eq_some_iff.1 hk).1).trans hk)
    exact this⟩
/-- It stays as older blocks, and those of other things, are written. -/
theorem HasAt.but {n : Nat} {own : List Nat} {W W' : World} {sv rv : Value} {S : List Nat} {rs : List (List Nat)} (h : HasAt n W sv rv S rs) (hb : But own W W') (ho : ∀ k ∈ own, k < n) : HasAt n W' sv rv S rs := by
  obtain ⟨h1, ys, h2, h3, h4⟩ := h
  have hn : ∀ {e s m : Nat} {v : Value} {xs : List Value}, W.ownsRow n e s v m xs → ∀ g, v.ownBlock = some g → g ∉ own := fun hr g hg hm => by
    have := (World.ownsRow.lt hr g hg).1
    have := ho g hm
    omega
  exact ⟨own_butG h1 hb (hn h1), ys, h2, own_butG h3 hb (hn h3), fun y hy => by
    have := RyB.keep (n := n) (x := y) (h4 y hy) hb.size (fun k cs fr hk0 hk => (hb.block k (Array.getElem?_eq_some_iff.1 hk).1 (fun hm => by have := ho k hm; omega)).trans hk)
    exact this⟩
theorem recs_parts {n : Nat} {W : World} {rv : Value} {rs : List (List Nat)} (h : Recs n W rv rs) : Parts W.heap.size W rv rs := by
  obtain ⟨ys, rfl, h3, h4⟩ := h
  rcases Nat.eq_zero_or_pos ys.length with h0 | h0
  · obtain ⟨a, c, hv⟩ := own_form h3
    rw [h0] at hv
    obtain rfl := List.eq_nil_of_length_eq_zero h0
    exact .inl ⟨rfl, a, c, hv⟩
  · rcases h3.2 with ⟨_, e⟩ | ⟨g, cap, cur, hv, hg, hcur, _⟩
    · omega
    · refine .inr ⟨g, 0, cap, by rw [List.length_map]; exact hv, (Array.getElem?_eq_some_iff.1 hcur).1, fun j l hj => ?_⟩
      rw [List.getElem?_map] at hj
      cases hy : ys[j]? with
      | none => rw [hy] at hj; cases hj
      | some y =>
        rw [hy] at hj
        cases hj
        rw [hv] at h3
        obtain ⟨g', hg', hc'⟩ := own_cell h3 (i := j) (u := y.2) (by rw [List.getElem?_map, hy]; rfl)
        cases hg'
        exact ⟨y.2, by rw [Nat.zero_add]; exact hc', (h4 y (List.mem_of_getElem? hy)).1⟩
/-- Not more than can be gone over. -/
def FewL (S : List Nat) (rs : List (List Nat)) : Prop := S.length ≤ 1048576 ∧ rs.length ≤ 1048576 ∧ ∀ x ∈ rs, x.length ≤ 1048576
theorem mem_flat {x : List Nat} : ∀ {rs : List (List Nat)}, x ∈ rs → x.length ≤ rs.flatten.length
  | y :: rs, h => by
    rw [List.flatten_cons, List.length_append]
    rcases List.mem_cons.1 h with rfl | h
    · omega
    · have := mem_flat h
      omega
theorem few_of {L : List Nat} (h : Bytes L) : FewL (snapL L) (recsL L) := by
  have h1 := bods_len 2 L h.2
  have h2 := bods_count 4 L h.2
  have h3 := bods_len 4 L h.2
  have h4 := h.1
  refine ⟨by show (bodF 2 (scanL L 0)).flatten.length ≤ _; omega, by show (bodF 4 (scanL L 0)).length ≤ _; omega, fun x hx => ?_⟩
  have := mem_flat hx
  show x.length ≤ _
  have h5 : (recsL L).flatten.length = (bodF 4 (scanL L 0)).flatten.length := rfl
  omega
theorem St.row {w W : World} {own : List Nat} {jb b : Nat} {D : DevS} {r a c f : Nat} (h : St w W own jb b D r a c f) : Bytes (D.row (r : Nat)) := by
  have h1 := h.dok.row ((r : Nat) : Int)
  have h2 := h.dok.cap
  exact ⟨by omega, h1.2⟩
end Go.Proofs.YtocmfdahnekboaaDoor
