/- A table's nodes: put, drop. -/
import Derived.Test.YtfgppkmhjjnnnaaDoorTabUD
namespace Go.Proofs.YtfgppkmhjjnnnaaDoor
open Go.RowKit
set_option linter.unusedVariables false

theorem put_size (k v : Int) : ∀ t : TrN, (Tr.put ltN k v t).size ≤ t.size + 1
  | .nil => by simp [Tr.put, Tr.size]
  | .node a b l r => by
    have h1 := put_size k v l
    have h2 := put_size k v r
    unfold Tr.put
    split
    · simp [Tr.size]
    · split
      · rw [Tr.even_size]; simp only [Tr.size]; omega
      · rw [Tr.even_size]; simp only [Tr.size]; omega
theorem put_eq {k v b : Int} {l r : TrN} : Tr.put ltN k v (.node k b l r) = .node k v l r := by
  unfold Tr.put; rw [if_pos rfl]
theorem put_lt {k v a b : Int} {l r : TrN} (h : k < a) : Tr.put ltN k v (.node a b l r) = (Tr.node a b (Tr.put ltN k v l) r).even := by
  conv => lhs; unfold Tr.put
  rw [if_neg (by omega), if_pos (show ltN k a = true from decide_eq_true h)]
theorem put_gt {k v a b : Int} {l r : TrN} (h : a < k) : Tr.put ltN k v (.node a b l r) = (Tr.node a b l (Tr.put ltN k v r)).even := by
  conv => lhs; unfold Tr.put
  rw [if_neg (by omega), if_neg (by rw [show ltN k a = false from decide_eq_false (by omega)]; decide)]

set_option maxRecDepth 100000 in
set_option maxHeartbeats 4000000 in
theorem putN (k v : Int) : ∀ (t : TrN) (p : Value) (w : World), AtN w t p → t.size ≤ 100000 → Calls Tryd.prog 50 #[p, .int .u64 k, .int .i64 v] w fun e w' => ∃ p', e = .returned p' ∧ AtN w' (Tr.put ltN k v t) p' ∧ Below w.heap.size w w'
  | .nil, p, w, h, ht => by
    obtain rfl := h
    clear ht
    go_enter Tryd.func50, Tryd.ntmps50
    go_wp2
    go_ret
    exact ⟨_, rfl, at_new (l := .nil) (r := .nil) k v rfl rfl rfl, (Below.refl _ _).alloc (Nat.le_refl _) _⟩
  | .node a b l r, p, w, h, ht => by
    have IHL := putN k v l
    have IHR := putN k v r
    have hzl := put_size k v l
    have hzr := put_size k v r
    rcases Int.lt_trichotomy k a with hk | hk | hk
    · have HRE := Lib.hid (put_lt (k := k) (v := v) (a := a) (b := b) (l := l) (r := r) hk)
      obtain ⟨g, la, ra, rfl, hb, hl, hr, c0, c1, c2, c3, c4⟩ := h.cells
      have HC := Lib.hid (fun W => compareN k a W)
      have HS := Lib.hid (sideN k a b l r _ w h)
      have H := Lib.hid h
      have HI := Lib.hid (IHL _ w hl (by simp [Tr.size] at ht; omega))
      have HWT := Lib.hid (fun (W : World) (q : Value) (hb : Below w.heap.size w W) (hq : AtN W (Tr.put ltN k v l) q) => withN false (.node a b l r) (Tr.put ltN k v l) _ q W (h.below hb) hq rfl (by omega) (by have := hzl; simp [Tr.size] at ht; omega))
      have HEV := Lib.hid (fun (W : World) (q : Value) (hq : AtN W (.node a b (Tr.put ltN k v l) r) q) => evenN (.node a b (Tr.put ltN k v l) r) q W hq rfl (by have := hzl; simp [Tr.size] at ht ⊢; omega))
      rw [show bitI false = 0 from rfl] at HWT
      rw [cmp_lt hk] at HC
      have hlt : ltN k a = true := decide_eq_true hk
      rw [hlt, if_pos rfl] at HS
      clear h hb hl hr ht c1 c2
      go_enter Tryd.func50, Tryd.ntmps50
      go_wp2_with fail
      refine (HC.out _).mono ?_
      rintro e w1 ⟨rfl, rfl⟩
      go_wp2_with fail
      refine HS.out.mono ?_
      rintro e w2 ⟨rfl, rfl⟩
      go_wp2_with fail
      refine HI.out.mono ?_
      rintro e w3 ⟨p1, rfl, h1, hb1⟩
      obtain ⟨a1, rfl⟩ := h1.form
      have HW2 := Lib.hid (HWT.out _ _ hb1 h1)
      have B1 := Lib.hid hb1
      clear h1 hb1 HWT HI HS HC
      go_wp2_with fail
      refine HW2.out.mono ?_
      rintro e w4 ⟨p2, rfl, h2, hb2⟩
      obtain ⟨a2, rfl⟩ := h2.form
      have HE2 := Lib.hid (HEV.out _ _ h2)
      have B2 := Lib.hid hb2
      clear h2 hb2 HEV HW2
      go_wp2_with fail
      refine HE2.out.mono ?_
      rintro e w5 ⟨p3, rfl, h3, hb3⟩
      obtain ⟨a3, rfl⟩ := h3.form
      have H3 := Lib.hid h3
      have B3 := Lib.hid hb3
      clear h3 hb3 HE2
      go_wp2_with fail
      go_ret
      exact ⟨_, rfl, by rw [HRE.out]; exact H3.out, B1.out.trans ((B2.out.mono B1.out.size).trans (B3.out.mono (Nat.le_trans B1.out.size B2.out.size)))⟩
    · subst hk
      obtain ⟨g, la, ra, rfl, hb, hl, hr, c0, c1, c2, c3, c4⟩ := h.cells
      have HC := Lib.hid (fun W => compareN k k W)
      have HH := Lib.hid (holdingN k v _ _ w h rfl)
      rw [cmp_eq] at HC
      have HRE := Lib.hid (put_eq (k := k) (v := v) (b := b) (l := l) (r := r))
      clear h hb hl hr ht c1 c2 IHL IHR hzl hzr
      go_enter Tryd.func50, Tryd.ntmps50
      go_wp2_with fail
      refine (HC.out _).mono ?_
      rintro e w1 ⟨rfl, rfl⟩
      go_wp2_with fail
      refine HH.out.mono ?_
      rintro e w2 ⟨p1, rfl, h1, hb1⟩
      obtain ⟨a1, rfl⟩ := h1.form
      have H1 := Lib.hid h1
      have B1 := Lib.hid hb1
      clear h1 hb1 HH
      go_wp2_with fail
      go_ret
      exact ⟨_, rfl, by rw [HRE.out]; exact H1.out, B1.out⟩
    · have HRE := Lib.hid (put_gt (k := k) (v := v) (a := a) (b := b) (l := l) (r := r) hk)
      obtain ⟨g, la, ra, rfl, hb, hl, hr, c0, c1, c2, c3, c4⟩ := h.cells
      have HC := Lib.hid (fun W => compareN k a W)
      have HS := Lib.hid (sideN k a b l r _ w h)
      have H := Lib.hid h
      have HI := Lib.hid (IHR _ w hr (by simp [Tr.size] at ht; omega))
      have HWT := Lib.hid (fun (W : World) (q : Value) (hb : Below w.heap.size w W) (hq : AtN W (Tr.put ltN k v r) q) => withN true (.node a b l r) (Tr.put ltN k v r) _ q W (h.below hb) hq rfl (by omega) (by have := hzr; simp [Tr.size] at ht; omega))
      have HEV := Lib.hid (fun (W : World) (q : Value) (hq : AtN W (.node a b l (Tr.put ltN k v r)) q) => evenN (.node a b l (Tr.put ltN k v r)) q W hq rfl (by have := hzr; simp [Tr.size] at ht ⊢; omega))
      rw [show bitI true = 1 from rfl] at HWT
      rw [cmp_gt hk] at HC
      have hlt : ltN k a = false := decide_eq_false (by omega)
      rw [hlt, if_neg (by decide)] at HS
      clear h hb hl hr ht c1 c2
      go_enter Tryd.func50, Tryd.ntmps50
      go_wp2_with fail
      refine (HC.out _).mono ?_
      rintro e w1 ⟨rfl, rfl⟩
      go_wp2_with fail
      refine HS.out.mono ?_
      rintro e w2 ⟨rfl, rfl⟩
      go_wp2_with fail
      refine HI.out.mono ?_
      rintro e w3 ⟨p1, rfl, h1, hb1⟩
      obtain ⟨a1, rfl⟩ := h1.form
      have HW2 := Lib.hid (HWT.out _ _ hb1 h1)
      have B1 := Lib.hid hb1
      clear h1 hb1 HWT HI HS HC
      go_wp2_with fail
      refine HW2.out.mono ?_
      rintro e w4 ⟨p2, rfl, h2, hb2⟩
      obtain ⟨a2, rfl⟩ := h2.form
      have HE2 := Lib.hid (HEV.out _ _ h2)
      have B2 := Lib.hid hb2
      clear h2 hb2 HEV HW2
      go_wp2_with fail
      refine HE2.out.mono ?_
      rintro e w5 ⟨p3, rfl, h3, hb3⟩
      obtain ⟨a3, rfl⟩ := h3.form
      have H3 := Lib.hid h3
      have B3 := Lib.hid hb3
      clear h3 hb3 HE2
      go_wp2_with fail
      go_ret
      exact ⟨_, rfl, by rw [HRE.out]; exact H3.out, B1.out.trans ((B2.out.mono B1.out.size).trans (B3.out.mono (Nat.le_trans B1.out.size B2.out.size)))⟩

theorem drop_size (k : Int) : ∀ t : TrN, (Tr.drop ltN t k).size ≤ t.size := by
  intro t
  induction t generalizing k with
  | nil => exact Nat.le_refl _
  | node a b l r ihl ihr =>
    unfold Tr.drop
    split
    · split
      · simp only [Tr.size]; omega
      · rw [Tr.even_size]
        simp only [Tr.size]
        have := ihr (by assumption)
        have := ihr
        rename_i k' v' _ _
        have := ihr k'
        omega
    · split
      · rw [Tr.even_size]; simp only [Tr.size]; have := ihl k; omega
      · rw [Tr.even_size]; simp only [Tr.size]; have := ihr k; omega
theorem drop_none {k b : Int} {l r : TrN} (h : (r.end_ false).top? = none) : Tr.drop ltN (.node k b l r) k = l := by
  unfold Tr.drop; rw [if_pos rfl, h]
theorem drop_some {k b k' v' : Int} {l r : TrN} (h : (r.end_ false).top? = some (k', v')) : Tr.drop ltN (.node k b l r) k = (Tr.node k' v' l (Tr.drop ltN r k')).even := by
  conv => lhs; unfold Tr.drop
  rw [if_pos rfl, h]
theorem drop_lt {k a b : Int} {l r : TrN} (h : k < a) : Tr.drop ltN (.node a b l r) k = (Tr.node a b (Tr.drop ltN l k) r).even := by
  conv => lhs; unfold Tr.drop
  rw [if_neg (by omega), if_pos (show ltN k a = true from decide_eq_true h)]
theorem drop_gt {k a b : Int} {l r : TrN} (h : a < k) : Tr.drop ltN (.node a b l r) k = (Tr.node a b l (Tr.drop ltN r k)).even := by
  conv => lhs; unfold Tr.drop
  rw [if_neg (by omega), if_neg (by rw [show ltN k a = false from decide_eq_false (by omega)]; decide)]

end Go.Proofs.YtfgppkmhjjnnnaaDoor