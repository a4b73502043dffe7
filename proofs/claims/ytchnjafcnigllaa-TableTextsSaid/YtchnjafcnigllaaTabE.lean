/- A table's nodes: put, drop. -/
import Derived.Test.YtchnjafcnigllaaTabD
namespace Go.Proofs.Ytchnjafcnigllaa
open Go.RowKit
set_option linter.unusedVariables false

theorem put_size (k v : Int) : ∀ t : TrN, (Tr.put ltN k v t).size ≤ t.size + 1
  | .nil => by simp [Tr.put, Tr.size]
  | .node a b l r => by
    have h1 := put_size k v l
    have h2 := put_size k v r
    unfold Tr.put
    split
    · simp [Tr.size]
    · split
      · rw [Tr.even_size]; simp only [Tr.size]; omega
      · rw [Tr.even_size]; simp only [Tr.size]; omega
theorem put_eq {k v b : Int} {l r : TrN} : Tr.put ltN k v (.node k b l r) = .node k v l r := by
  unfold Tr.put; rw [if_pos rfl]
theorem put_lt {k v a b : Int} {l r : TrN} (h : k < a) : Tr.put ltN k v (.node a b l r) = (Tr.node a b (Tr.put ltN k v l) r).even := by
  conv => lhs; unfold Tr.put
  rw [if_neg (by omega), if_pos (show ltN k a = true from decide_eq_true h)]
theorem put_gt {k v a b : Int} {l r : TrN} (h : a < k) : Tr.put ltN k v (.node a b l r) = (Tr.node a b l (Tr.put ltN k v r)).even := by
  conv => lhs; unfold Tr.put
  rw [if_neg (by omega), if_neg (by rw [show ltN k a = false from decide_eq_false (by omega)]; decide)]

set_option maxRecDepth 100000 in
set_option maxHeartbeats 4000000 in
theorem putN (k v : Int) : ∀ (t : TrN) (p : Value) (w : World), AtN w t p → t.size ≤ 100000 → Calls Try.prog 53 #[p, .int .i64 k, .int .i64 v] w fun e w' => ∃ p', e = .returned p' ∧ AtN w' (Tr.put ltN k v t) p' ∧ Below w.heap.size w w'
  | .nil, p, w, h, ht => by
    obtain rfl := h
    clear ht
    go_enter Try.func53, Try.ntmps53
    go_wp2
    go_ret
    exact ⟨_, rfl, at_new (l := .nil) (r := .nil) k v rfl rfl rfl, (Below.refl _ _).alloc (Nat.le_refl _) _⟩
  | .node a b l r, p, w, h, ht => by
    have IHL := putN k v l
    have IHR := putN k v r
    have hzl := put_size k v l
    have hzr := put_size k v r
    rcases Int.lt_trichotomy k a with hk | hk | hk
    · have HRE := Lib.hid (put_lt (k := k) (v := v) (a := a) (b := b) (l := l) (r := r) hk)
      obtain ⟨g, la, ra, rfl, hb, hl, hr, c0, c1, c2, c3, c4⟩ := h.cells
      have HC := Lib.hid (fun W => compareN k a W)
      have HS := Lib.hid (sideN k a b l r _ w h)
      have H := Lib.hid h
      have HI := Lib.hid (IHL _ w hl (by simp [Tr.size] at ht; omega))
      have HWT := Lib.hid (fun (W : World) (q : Value) (hb : Below w.heap.size w W) (hq : AtN W (Tr.put ltN k v l) q) => withN false (.node a b l r) (Tr.put ltN k v l) _ q W (h.below hb) hq rfl (by omega) (by have := hzl; simp [Tr.size] at ht; omega))
      have HEV := Lib.hid (fun (W : World) (q : Value) (hq : AtN W (.node a b (Tr.put ltN k v l) r) q) => evenN (.node a b (Tr.put ltN k v l) r) q W hq rfl (by have := hzl; simp [Tr.size] at ht ⊢; omega))
      rw [show bitI false = 0 from rfl] at HWT
      rw [cmp_lt hk] at HC
      have hlt : ltN k a = true := decide_eq_true hk
      rw [hlt, if_pos rfl] at HS
      clear h hb hl hr ht c1 c2
      go_enter Try.func53, Try.ntmps53
      go_wp2_with fail
      refine (HC.out _).mono ?_
      rintro e w1 ⟨rfl, rfl⟩
      go_wp2_with fail
      refine HS.out.mono ?_
      rintro e w2 ⟨rfl, rfl⟩
      go_wp2_with fail
      refine HI.out.mono ?_
      rintro e w3 ⟨p1, rfl, h1, hb1⟩
      obtain ⟨a1, rfl⟩ := h1.form
      have HW2 := Lib.hid (HWT.out _ _ hb1 h1)
      have B1 := Lib.hid hb1
      clear h1 hb1 HWT HI HS HC
      go_wp2_with fail
      refine HW2.out.mono ?_
      rintro e w4 ⟨p2, rfl, h2, hb2⟩
      obtain ⟨a2, rfl⟩ := h2.form
      have HE2 := Lib.hid (HEV.out _ _ h2)
      have B2 := Lib.hid hb2
      clear h2 hb2 HEV HW2
      go_wp2_with fail
      refine HE2.out.mono ?_
      rintro e w5 ⟨p3, rfl, h3, hb3⟩
      obtain ⟨a3, rfl⟩ := h3.form
      have H3 := Lib.hid h3
      have B3 := Lib.hid hb3
      clear h3 hb3 HE2
      go_wp2_with fail
      go_ret
      exact ⟨_, rfl, by rw [HRE.out]; exact H3.out, B1.out.trans ((B2.out.mono B1.out.size).trans (B3.out.mono (Nat.le_trans B1.out.size B2.out.size)))⟩
    · subst hk
      obtain ⟨g, la, ra, rfl, hb, hl, hr, c0, c1, c2, c3, c4⟩ := h.cells
      have HC := Lib.hid (fun W => compareN k k W)
      have HH := Lib.hid (holdingN k v _ _ w h rfl)
      rw [cmp_eq] at HC
      have HRE := Lib.hid (put_eq (k := k) (v := v) (b := b) (l := l) (r := r))
      clear h hb hl hr ht c1 c2 IHL IHR hzl hzr
      go_enter Try.func53, Try.ntmps53
      go_wp2_with fail
      refine (HC.out _).mono ?_
      rintro e w1 ⟨rfl, rfl⟩
      go_wp2_with fail
      refine HH.out.mono ?_
      rintro e w2 ⟨p1, rfl, h1, hb1⟩
      obtain ⟨a1, rfl⟩ := h1.form
      have H1 := Lib.hid h1
      have B1 := Lib.hid hb1
      clear h1 hb1 HH
      go_wp2_with fail
      go_ret
      exact ⟨_, rfl, by rw [HRE.out]; exact H1.out, B1.out⟩
    · have HRE := Lib.hid (put_gt (k := k) (v := v) (a := a) (b := b) (l := l) (r := r) hk)
      obtain ⟨g, la, ra, rfl, hb, hl, hr, c0, c1, c2, c3, c4⟩ := h.cells
      have HC := Lib.hid (fun W => compareN k a W)
      have HS := Lib.hid (sideN k a b l r _ w h)
      have H := Lib.hid h
      have HI := Lib.hid (IHR _ w hr (by simp [Tr.size] at ht; omega))
      have HWT := Lib.hid (fun (W : World) (q : Value) (hb : Below w.heap.size w W) (hq : AtN W (Tr.put ltN k v r) q) => withN true (.node a b l r) (Tr.put ltN k v r) _ q W (h.below hb) hq rfl (by omega) (by have := hzr; simp [Tr.size] at ht; omega))
      have HEV := Lib.hid (fun (W : World) (q : Value) (hq : AtN W (.node a b l (Tr.put ltN k v r)) q) => evenN (.node a b l (Tr.put ltN k v r)) q W hq rfl (by have := hzr; simp [Tr.size] at ht ⊢; omega))
      rw [show bitI true = 1 from rfl] at HWT
      rw [cmp_gt hk] at HC
      have hlt : ltN k a = false := decide_eq_false (by omega)
      rw [hlt, if_neg (by decide)] at HS
      clear h hb hl hr ht c1 c2
      go_enter Try.func53, Try.ntmps53
      go_wp2_with fail
      refine (HC.out _).mono ?_
      rintro e w1 ⟨rfl, rfl⟩
      go_wp2_with fail
      refine HS.out.mono ?_
      rintro e w2 ⟨rfl, rfl⟩
      go_wp2_with fail
      refine HI.out.mono ?_
      rintro e w3 ⟨p1, rfl, h1, hb1⟩
      obtain ⟨a1, rfl⟩ := h1.form
      have HW2 := Lib.hid (HWT.out _ _ hb1 h1)
      have B1 := Lib.hid hb1
      clear h1 hb1 HWT HI HS HC
      go_wp2_with fail
      refine HW2.out.mono ?_
      rintro e w4 ⟨p2, rfl, h2, hb2⟩
      obtain ⟨a2, rfl⟩ := h2.form
      have HE2 := Lib.hid (HEV.out _ _ h2)
      have B2 := Lib.hid hb2
      clear h2 hb2 HEV HW2
      go_wp2_with fail
      refine HE2.out.mono ?_
      rintro e w5 ⟨p3, rfl, h3, hb3⟩
      obtain ⟨a3, rfl⟩ := h3.form
      have H3 := Lib.hid h3
      have B3 := Lib.hid hb3
      clear h3 hb3 HE2
      go_wp2_with fail
      go_ret
      exact ⟨_, rfl, by rw [HRE.out]; exact H3.out, B1.out.trans ((B2.out.mono B1.out.size).trans (B3.out.mono (Nat.le_trans B1.out.size B2.out.size)))⟩

theorem drop_size (k : Int) : ∀ t : TrN, (Tr.drop ltN t k).size ≤ t.size := by
  intro t
  induction t generalizing k with
  | nil => exact Nat.le_refl _
  | node a b l r ihl ihr =>
    unfold Tr.drop
    split
    · split
      · simp only [Tr.size]; omega
      · rw [Tr.even_size]
        simp only [Tr.size]
        have := ihr (by assumption)
        have := ihr
        rename_i k' v' _ _
        have := ihr k'
        omega
    · split
      · rw [Tr.even_size]; simp only [Tr.size]; have := ihl k; omega
      · rw [Tr.even_size]; simp only [Tr.size]; have := ihr k; omega
theorem drop_none {k b : Int} {l r : TrN} (h : (r.end_ false).top? = none) : Tr.drop ltN (.node k b l r) k = l := by
  unfold Tr.drop; rw [if_pos rfl, h]
theorem drop_some {k b k' v' : Int} {l r : TrN} (h : (r.end_ false).top? = some (k', v')) : Tr.drop ltN (.node k b l r) k = (Tr.node k' v' l (Tr.drop ltN r k')).even := by
  conv => lhs; unfold Tr.drop
  rw [if_pos rfl, h]
theorem drop_lt {k a b : Int} {l r : TrN} (h : k < a) : Tr.drop ltN (.node a b l r) k = (Tr.node a b (Tr.drop ltN l k) r).even := by
  conv => lhs; unfold Tr.drop
  rw [if_neg (by omega), if_pos (show ltN k a = true from decide_eq_true h)]
theorem drop_gt {k a b : Int} {l r : TrN} (h : a < k) : Tr.drop ltN (.node a b l r) k = (Tr.node a b l (Tr.drop ltN r k)).even := by
  conv => lhs; unfold Tr.drop
  rw [if_neg (by omega), if_neg (by rw [show ltN k a = false from decide_eq_false (by omega)]; decide)]

/-- What drop promises of a tree. -/
def DropTo (t : TrN) : Prop := ∀ (k : Int) (p : Value) (w : World), AtN w t p → t.size ≤ 100000 → Calls Try.prog 54 #[p, .int .i64 k] w fun e w' => ∃ p', e = .returned p' ∧ AtN w' (Tr.drop ltN t k) p' ∧ Below w.heap.size w w'
set_option maxRecDepth 100000 in
set_option maxHeartbeats 8000000 in
theorem beneathN (a b : Int) (l r : TrN) (IH : DropTo r) (p : Value) (w : World) (h : AtN w (.node a b l r) p) (ht : (Tr.node a b l r).size ≤ 100000) : Calls Try.prog 72 #[p] w fun e w' => ∃ p', e = .returned p' ∧ AtN w' (Tr.drop ltN (.node a b l r) a) p' ∧ Below w.heap.size w w' := by
  obtain ⟨g, la, ra, rfl, hb, hl, hr, c0, c1, c2, c3, c4⟩ := h.cells
  have hgl : g < w.heap.size := (Array.getElem?_eq_some_iff.1 hb).1
  have HEND := Lib.hid (endN false r _ w hr)
  rw [show bitI false = 0 from rfl] at HEND
  have H := Lib.hid h
  have HL := Lib.hid hl
  have HR := Lib.hid hr
  have HT := Lib.hid ht
  clear h hb hl hr ht c0 c1 c2
  go_enter Try.func72, Try.ntmps72
  go_wp2_with fail
  refine HEND.out.mono ?_
  rintro e w1 ⟨pn, rfl, hn, rfl⟩
  have HN := Lib.hid hn
  clear HEND
  cases hT : r.end_ false with
  | nil =>
    rw [hT] at hn
    obtain rfl := hn
    have HRE := Lib.hid (drop_none (k := a) (b := b) (l := l) (r := r) (by rw [hT]; rfl))
    clear hT HN
    go_wp2_with fail
    go_ret
    exact ⟨_, rfl, by rw [HRE.out]; exact HL.out, Below.refl _ _⟩
  | node k' v' l' r' =>
    rw [hT] at hn
    obtain ⟨gn, _, _, rfl, hbn, _, _, d0, d1, _, _, _⟩ := hn.cells
    have hgn := (Array.getElem?_eq_some_iff.1 hbn).1
    have HRE := Lib.hid (drop_some (k := a) (b := b) (l := l) (r := r) (by rw [hT]; rfl : (r.end_ false).top? = some (k', v')))
    have hds := drop_size k' r
    have htt := HT.out
    simp only [Tr.size] at htt
    have HH : Hid (∀ W, Below w1.heap.size w1 W → _) := Lib.hid (fun W hb => holdingN k' v' (.node a b l r) _ W (H.out.below hb) rfl)
    have HD : Hid (∀ W, Below w1.heap.size w1 W → _) := Lib.hid (fun W hb => IH k' _ W (HR.out.below hb) (by omega))
    have HW := Lib.hid (fun (W : World) (q1 q2 : Value) (h1 : AtN W ((Tr.node a b l r).holding k' v') q1) (h2 : AtN W (Tr.drop ltN r k') q2) => withN true ((Tr.node a b l r).holding k' v') (Tr.drop ltN r k') q1 q2 W h1 h2 rfl (by simp only [Tr.holding, Tr.size]; omega) (by omega))
    rw [show bitI true = 1 from rfl] at HW
    have HE := Lib.hid (fun (W : World) (q : Value) (h1 : AtN W (.node k' v' l (Tr.drop ltN r k')) q) => evenN (.node k' v' l (Tr.drop ltN r k')) q W h1 rfl (by simp only [Tr.size]; omega))
    have KS : Hid (∀ W, Below w1.heap.size w1 W → W.cell? ⟨g, 3, none⟩ = some (.pointer la) ∧ W.cell? ⟨g, 4, none⟩ = some (.pointer ra) ∧ W.cell? ⟨gn, 0, none⟩ = some (.int .i64 k') ∧ W.cell? ⟨gn, 1, none⟩ = some (.int .i64 v')) := Lib.hid (fun W hb => ⟨(hb.cell (p := ⟨g, 3, none⟩) hgl).trans c3, (hb.cell (p := ⟨g, 4, none⟩) hgl).trans c4, (hb.cell (p := ⟨gn, 0, none⟩) hgn).trans d0, (hb.cell (p := ⟨gn, 1, none⟩) hgn).trans d1⟩)
    clear hn hbn hT hds htt hgl hgn HN
    go_upto_region 4 with fail
    go_region_held3 (fun W => W.cell? ⟨g, 3, none⟩ = some (.pointer la) ∧ W.cell? ⟨g, 4, none⟩ = some (.pointer ra) ∧ W.cell? ⟨gn, 0, none⟩ = some (.int .i64 k') ∧ W.cell? ⟨gn, 1, none⟩ = some (.int .i64 v')) (first | go_keep | exact KS.out _ B5.out | exact KS.out _ B4.out | exact KS.out _ B3.out | exact KS.out _ B2.out) (first
      | (go_at_call 68; refine (HH.out _ (Below.refl _ _).drew).mono ?_; rintro e w2 ⟨p1, rfl, h1, hb1⟩; obtain ⟨a1, rfl⟩ := h1.form; have H1 := Lib.hid h1; have B2 := Lib.hid ((Below.refl w1.heap.size w1).drew.trans hb1); clear h1 hb1)
      | (go_at_call 54; refine (HD.out _ B2.out).mono ?_; rintro e w3 ⟨p2, rfl, h2, hb2⟩; obtain ⟨a2, rfl⟩ := h2.form; have H2 := Lib.hid h2; have H1' := Lib.hid (H1.out.below hb2); have B3 := Lib.hid (B2.out.trans (hb2.mono B2.out.size)); clear h2 hb2)
      | (go_at_call 70; refine (HW.out _ _ _ H1'.out H2.out).mono ?_; rintro e w4 ⟨p3, rfl, h3, hb3⟩; obtain ⟨a3, rfl⟩ := h3.form; have H3 := Lib.hid h3; have B4 := Lib.hid (B3.out.trans (hb3.mono B3.out.size)); clear h3 hb3)
      | (go_at_call 71; refine (HE.out _ _ H3.out).mono ?_; rintro e w5 ⟨p4, rfl, h4, hb4⟩; obtain ⟨a4, rfl⟩ := h4.form; have H4 := Lib.hid h4; have B5 := Lib.hid (B4.out.trans (hb4.mono B4.out.size)); clear h4 hb4))
    all_goals
      go_wp2_with fail
      go_ret
      exact ⟨_, rfl, by rw [HRE.out]; exact H4.out, B5.out⟩

set_option maxRecDepth 100000 in
set_option maxHeartbeats 4000000 in
theorem dropN : ∀ t : TrN, DropTo t
  | .nil => fun k p w h ht => by
    obtain rfl := h
    clear ht
    go_enter Try.func54, Try.ntmps54
    go_wp2
    go_ret
    exact ⟨_, rfl, rfl, Below.refl _ _⟩
  | .node a b l r => fun k p w h ht => by
    have IHL := dropN l
    have IHR := dropN r
    have hzl := drop_size k l
    have hzr := drop_size k r
    rcases Int.lt_trichotomy k a with hk | hk | hk
    · have HRE := Lib.hid (drop_lt (k := k) (a := a) (b := b) (l := l) (r := r) hk)
      obtain ⟨g, la, ra, rfl, hb, hl, hr, c0, c1, c2, c3, c4⟩ := h.cells
      have HC := Lib.hid (fun W => compareN k a W)
      have HS := Lib.hid (sideN k a b l r _ w h)
      have H := Lib.hid h
      have HI := Lib.hid (IHL k _ w hl (by simp [Tr.size] at ht; omega))
      have HWT := Lib.hid (fun (W : World) (q : Value) (hb : Below w.heap.size w W) (hq : AtN W (Tr.drop ltN l k) q) => withN false (.node a b l r) (Tr.drop ltN l k) _ q W (h.below hb) hq rfl (by omega) (by have := hzl; simp [Tr.size] at ht; omega))
      have HEV := Lib.hid (fun (W : World) (q : Value) (hq : AtN W (.node a b (Tr.drop ltN l k) r) q) => evenN (.node a b (Tr.drop ltN l k) r) q W hq rfl (by have := hzl; simp [Tr.size] at ht ⊢; omega))
      rw [show bitI false = 0 from rfl] at HWT
      rw [cmp_lt hk] at HC
      have hlt : ltN k a = true := decide_eq_true hk
      rw [hlt, if_pos rfl] at HS
      clear h hb hl hr ht c1 c2
      go_enter Try.func54, Try.ntmps54
      go_wp2_with fail
      refine (HC.out _).mono ?_
      rintro e w1 ⟨rfl, rfl⟩
      go_wp2_with fail
      refine HS.out.mono ?_
      rintro e w2 ⟨rfl, rfl⟩
      go_wp2_with fail
      refine HI.out.mono ?_
      rintro e w3 ⟨p1, rfl, h1, hb1⟩
      obtain ⟨a1, rfl⟩ := h1.form
      have HW2 := Lib.hid (HWT.out _ _ hb1 h1)
      have B1 := Lib.hid hb1
      clear h1 hb1 HWT HI HS HC
      go_wp2_with fail
      refine HW2.out.mono ?_
      rintro e w4 ⟨p2, rfl, h2, hb2⟩
      obtain ⟨a2, rfl⟩ := h2.form
      have HE2 := Lib.hid (HEV.out _ _ h2)
      have B2 := Lib.hid hb2
      clear h2 hb2 HEV HW2
      go_wp2_with fail
      refine HE2.out.mono ?_
      rintro e w5 ⟨p3, rfl, h3, hb3⟩
      obtain ⟨a3, rfl⟩ := h3.form
      have H3 := Lib.hid h3
      have B3 := Lib.hid hb3
      clear h3 hb3 HE2
      go_wp2_with fail
      go_ret
      exact ⟨_, rfl, by rw [HRE.out]; exact H3.out, B1.out.trans ((B2.out.mono B1.out.size).trans (B3.out.mono (Nat.le_trans B1.out.size B2.out.size)))⟩
    · subst hk
      have HB := Lib.hid (beneathN k b l r IHR p w h ht)
      obtain ⟨g, la, ra, rfl, hb, hl, hr, c0, c1, c2, c3, c4⟩ := h.cells
      have HC := Lib.hid (fun W => compareN k k W)
      rw [cmp_eq] at HC
      clear h hb hl hr ht c1 c2 IHL IHR hzl hzr
      go_enter Try.func54, Try.ntmps54
      go_wp2_with fail
      refine (HC.out _).mono ?_
      rintro e w1 ⟨rfl, rfl⟩
      go_wp2_with fail
      refine HB.out.mono ?_
      rintro e w2 ⟨p1, rfl, h1, hb1⟩
      obtain ⟨a1, rfl⟩ := h1.form
      have H1 := Lib.hid h1
      have B1 := Lib.hid hb1
      clear h1 hb1 HB
      go_wp2_with fail
      go_ret
      exact ⟨_, rfl, H1.out, B1.out⟩
    · have HRE := Lib.hid (drop_gt (k := k) (a := a) (b := b) (l := l) (r := r) hk)
      obtain ⟨g, la, ra, rfl, hb, hl, hr, c0, c1, c2, c3, c4⟩ := h.cells
      have HC := Lib.hid (fun W => compareN k a W)
      have HS := Lib.hid (sideN k a b l r _ w h)
      have H := Lib.hid h
      have HI := Lib.hid (IHR k _ w hr (by simp [Tr.size] at ht; omega))
      have HWT := Lib.hid (fun (W : World) (q : Value) (hb : Below w.heap.size w W) (hq : AtN W (Tr.drop ltN r k) q) => withN true (.node a b l r) (Tr.drop ltN r k) _ q W (h.below hb) hq rfl (by omega) (by have := hzr; simp [Tr.size] at ht; omega))
      have HEV := Lib.hid (fun (W : World) (q : Value) (hq : AtN W (.node a b l (Tr.drop ltN r k)) q) => evenN (.node a b l (Tr.drop ltN r k)) q W hq rfl (by have := hzr; simp [Tr.size] at ht ⊢; omega))
      rw [show bitI true = 1 from rfl] at HWT
      rw [cmp_gt hk] at HC
      have hlt : ltN k a = false := decide_eq_false (by omega)
      rw [hlt, if_neg (by decide)] at HS
      clear h hb hl hr ht c1 c2
      go_enter Try.func54, Try.ntmps54
      go_wp2_with fail
      refine (HC.out _).mono ?_
      rintro e w1 ⟨rfl, rfl⟩
      go_wp2_with fail
      refine HS.out.mono ?_
      rintro e w2 ⟨rfl, rfl⟩
      go_wp2_with fail
      refine HI.out.mono ?_
      rintro e w3 ⟨p1, rfl, h1, hb1⟩
      obtain ⟨a1, rfl⟩ := h1.form
      have HW2 := Lib.hid (HWT.out _ _ hb1 h1)
      have B1 := Lib.hid hb1
      clear h1 hb1 HWT HI HS HC
      go_wp2_with fail
      refine HW2.out.mono ?_
      rintro e w4 ⟨p2, rfl, h2, hb2⟩
      obtain ⟨a2, rfl⟩ := h2.form
      have HE2 := Lib.hid (HEV.out _ _ h2)
      have B2 := Lib.hid hb2
      clear h2 hb2 HEV HW2
      go_wp2_with fail
      refine HE2.out.mono ?_
      rintro e w5 ⟨p3, rfl, h3, hb3⟩
      obtain ⟨a3, rfl⟩ := h3.form
      have H3 := Lib.hid h3
      have B3 := Lib.hid hb3
      clear h3 hb3 HE2
      go_wp2_with fail
      go_ret
      exact ⟨_, rfl, by rw [HRE.out]; exact H3.out, B1.out.trans ((B2.out.mono B1.out.size).trans (B3.out.mono (Nat.le_trans B1.out.size B2.out.size)))⟩
end Go.Proofs.Ytchnjafcnigllaa
