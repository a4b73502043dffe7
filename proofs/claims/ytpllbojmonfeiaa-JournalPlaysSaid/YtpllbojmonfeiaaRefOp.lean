/- The document's own journal: Open. -/
import Derived.Test.YtpllbojmonfeiaaRefDj
import Derived.Test.YtpllbojmonfeiaaJrnPw
import Derived.Test.YtpllbojmonfeiaaRegionInv
import Derived.BigRegion
import Derived.Test.YtpllbojmonfeiaaRegionSeq
namespace Go.Proofs.Ytpllbojmonfeiaa
open Go.RowKit SumM
set_option linter.unusedVariables false
attribute [local go_sem] Oper.semAt_some

/-- The region that counts as the document says, and what it has. -/
def opR (la lb : List Nat) : Nat := if (keptS la).1 < (keptS lb).1 then 1 else 0
def opK (la lb : List Nat) : Nat × Nat × Nat := if (keptS la).1 < (keptS lb).1 then keptS lb else keptS la
/-- The region that counts is told in the block X; the journal's lies at Z. -/
structure SelAt (E : List Nat) (w6 : World) (X Z : Nat) (zc : Array Value) (k : Nat × Nat × Nat) (row : List Nat) (W : World) : Prop where
  but : But [X, Z] w6 W
  sel : ∃ (xs xr : Option Addr) (xsn xsc xrn xrc xag xen : Nat), W.heap[X]? = some (.cells (jdC (.slice none 0 0) (.slice none 0 0) 0 0 (xag : Nat) (.slice xs xsn xsc) (.slice xr xrn xrc) (xen : Nat)) rjT (0, 0)) ∧ xag = k.1 ∧ xen = k.2.2 ∧
    Sl encY W.heap.size W (.slice xs xsn xsc) (snapL (row.take xen)) ∧ RcO E W (.slice xr xrn xrc) (recsL (row.take xen)) ∧ Off E (.slice xs xsn xsc)
  jrn : W.heap[Z]? = some (.cells zc rjT (0, 0))
/-- A journal of the document's, whatever it holds. -/
def IsJd (v : Value) : Prop := ∃ (p0 p1 ps pr : Option Addr) (n0 c0 n1 c1 ns cs nr cr : Nat) (i2 i3 i4 i7 : Int), v = jdV (.slice p0 n0 c0) (.slice p1 n1 c1) i2 i3 i4 (.slice ps ns cs) (.slice pr nr cr) i7
theorem DocJ.isJd {X : List Nat} {W : World} {v : Value} {l0 l1 : List Nat} {cap r a f : Nat} (h : DocJ X W v l0 l1 cap r a f) : IsJd v := by
  obtain ⟨p0, p1, ps, pr, n0, c0, n1, c1, ns, cs, nr, cr, e, _⟩ := h.val
  exact ⟨p0, p1, ps, pr, n0, c0, n1, c1, ns, cs, nr, cr, _, _, _, _, e⟩
/-- What Open hands back. -/
def OpD (E : List Nat) (w : World) (la lb : List Nat) (cap : Nat) (e : Ending) (w' : World) : Prop := Below w.heap.size w w' ∧
  (((keptS la).1 = 0 ∧ (keptS lb).1 = 0 ∧ ((16 ≤ cap ∧ ∃ v, e = .returned (.tuple #[v, .int .i64 0]) ∧ DocJ E w' v freshL [] cap 0 1 16) ∨ (cap < 16 ∧ ∃ v, IsJd v ∧ e = .returned (.tuple #[v, .int .i64 6])))) ∨
   ((opK la lb).1 ≠ 0 ∧ ∃ v, e = .returned (.tuple #[v, .int .i64 0]) ∧ DocJ E w' v (if opR la lb = 0 then la.take (opK la lb).2.2 else la) (if opR la lb = 0 then lb else lb.take (opK la lb).2.2) cap (opR la lb) (opK la lb).1 (opK la lb).2.2))

set_option maxRecDepth 100000 in
set_option maxHeartbeats 8000000 in
theorem jopen_of (HRD : JRead) (a b : Option Addr) (n c m d : Nat) (la lb : List Nat) (hla : Bytes la) (hlb : Bytes lb) (cap : Nat) (hcap : cap ≤ 1048576) (w : World) (hA : Sl encY w.heap.size w (.slice a n c) la) (hB : Sl encY w.heap.size w (.slice b m d) lb) (E : List Nat) (hE : ∀ k ∈ E, k < w.heap.size) (hoA : Off E (.slice a n c)) (hoB : Off E (.slice b m d)) :
    Calls Try.prog 29 #[.slice a n c, .slice b m d, .int .i64 (cap : Nat)] w (OpD E w la lb cap) := by
  have hz := zjd
  obtain ⟨N, hN⟩ : ∃ N, w.heap.size = N := ⟨_, rfl⟩
  have HLA := Lib.hid hla
  have HLB := Lib.hid hlb
  have HSA := Lib.hid hA
  have HSB := Lib.hid hB
  have HNN := Lib.hid hN
  have HE := Lib.hid hE
  have HOA := Lib.hid hoA
  have HOB := Lib.hid hoB
  have HFA := Lib.hid (fun (W : World) (h : Below w.heap.size w W) => HRD a n c la hla W ((hA.below h).mono h.size))
  have HFB := Lib.hid (fun (W : World) (h : Below w.heap.size w W) => HRD b m d lb hlb W ((hB.below h).mono h.size))
  clear HRD hla hlb hA hB hE hoA hoB
  go_enter Try.func29, Try.ntmps29
  go_wp2_with fail
  obtain ⟨w1, hw1⟩ : ∃ w1, (w.alloc (.cells (jdC (.slice none 0 0) (.slice none 0 0) 0 0 0 (.slice none 0 0) (.slice none 0 0) 0) rjT)) = w1 := ⟨_, rfl⟩
  have rN : w1.heap[N]? = some (.cells (jdC (.slice none 0 0) (.slice none 0 0) 0 0 0 (.slice none 0 0) (.slice none 0 0) 0) rjT (0, 0)) := by rw [← hw1, ← hN]; exact World.alloc_heap_new w _
  have hb1 : Below w.heap.size w w1 := by rw [← hw1]; exact (Below.refl _ _).alloc (Nat.le_refl _) _
  rw [hw1]
  have HN1 := Lib.hid rN
  have HB1 := Lib.hid hb1
  have HC1 := Lib.hid (HFA.out w1 hb1)
  unfold RdTo at HC1
  obtain ⟨oka, hoka⟩ : ∃ oka, decide ((keptS la).1 ≠ 0) = oka := ⟨_, rfl⟩
  obtain ⟨okb, hokb⟩ : ∃ okb, decide ((keptS lb).1 ≠ 0) = okb := ⟨_, rfl⟩
  rw [hoka] at HC1
  have HOKA := Lib.hid hoka
  have HOKB := Lib.hid hokb
  clear hoka hokb
  clear hw1 rN hb1 hN HFA
  go_wp2_with fail
  refine HC1.out.mono ?_
  rintro e w2 ⟨xs, xr, xsn, xsc, xrn, xrc, xag, xen, rfl, hb2, hx⟩
  obtain ⟨w3, hw3⟩ : ∃ w3, w2.alloc (.cells (jdC (.slice none 0 0) (.slice none 0 0) 0 0 (xag : Nat) (.slice xs xsn xsc) (.slice xr xrn xrc) (xen : Nat)) rjT) = w3 := ⟨_, rfl⟩
  have b3 : Below w2.heap.size w2 w3 := by rw [← hw3]; exact (Below.refl _ _).alloc (Nat.le_refl _) _
  have rX : w3.heap[w2.heap.size]? = some (.cells (jdC (.slice none 0 0) (.slice none 0 0) 0 0 (xag : Nat) (.slice xs xsn xsc) (.slice xr xrn xrc) (xen : Nat)) rjT (0, 0)) := by rw [← hw3]; exact World.alloc_heap_new _ _
  have hb03 : Below w.heap.size w w3 := (HB1.out.trans (hb2.mono HB1.out.size)).trans (b3.mono (Nat.le_trans HB1.out.size hb2.size))
  have HX : Hid ((keptS la).1 ≠ 0 → xag = (keptS la).1 ∧ xen = (keptS la).2.2 ∧ Sl encY w3.heap.size w3 (.slice xs xsn xsc) (snapL (la.take xen)) ∧ RcO E w3 (.slice xr xrn xrc) (recsL (la.take xen)) ∧ Off E (.slice xs xsn xsc)) := Lib.hid (fun h => by
    obtain ⟨h1, h2, h3, h4⟩ := hx h
    obtain ⟨h5, h6⟩ := h4 E (fun k hk => Nat.lt_of_lt_of_le (HE.out k hk) HB1.out.size)
    exact ⟨h1, h2, (h3.below b3).mono b3.size, h6.below b3, h5⟩)
  obtain ⟨X, hXX⟩ : ∃ X, w2.heap.size = X := ⟨_, rfl⟩
  rw [hXX] at rX
  have HXL : Hid (N < X) := Lib.hid (by have h1 := (Array.getElem?_eq_some_iff.1 HN1.out).1; have := hb2.size; omega)
  have rN3 := (b3.block N (by have := HXL.out; omega)).trans ((hb2.block N (Array.getElem?_eq_some_iff.1 HN1.out).1).trans HN1.out)
  have HN3 := Lib.hid rN3
  have HX3 := Lib.hid rX
  have HB3 := Lib.hid hb03
  have HC2 := Lib.hid (HFB.out w3 hb03)
  unfold RdTo at HC2
  rw [HOKB.out] at HC2
  have HW3 := Lib.hid hw3
  have HXE := Lib.hid hXX
  clear hb2 hx hw3 b3 rX hb03 hXX rN3 HC1 HN1 HB1 HFB
  go_upto_region 2 with fail
  rw [HW3.out, HXE.out]
  clear HW3 HXE
  go_wp2_with fail
  refine HC2.out.mono ?_
  rintro e w4 ⟨ys, yr, ysn, ysc, yrn, yrc, yag, yen, rfl, hb4, hy⟩
  obtain ⟨w6, hw6⟩ : ∃ w6, (w4.alloc (.cells (jdC (.slice none 0 0) (.slice none 0 0) 0 0 (yag : Nat) (.slice ys ysn ysc) (.slice yr yrn yrc) (yen : Nat)) rjT)).alloc (.cells (jdC (.slice a n c) (.slice b m d) (cap : Nat) 0 0 (.slice none 0 0) (.slice none 0 0) 0) rjT) = w6 := ⟨_, rfl⟩
  have b6 : Below w4.heap.size w4 w6 := by rw [← hw6]; exact in_new2_below _ _ _
  have rY : w6.heap[w4.heap.size]? = some (.cells (jdC (.slice none 0 0) (.slice none 0 0) 0 0 (yag : Nat) (.slice ys ysn ysc) (.slice yr yrn yrc) (yen : Nat)) rjT (0, 0)) := by rw [← hw6, Below.heap_alloc _ _ _ (by simp)]; exact World.alloc_heap_new w4 _
  have rZ : w6.heap[w4.heap.size + 1]? = some (.cells (jdC (.slice a n c) (.slice b m d) (cap : Nat) 0 0 (.slice none 0 0) (.slice none 0 0) 0) rjT (0, 0)) := by rw [← hw6]; exact in_new2 _ _ _
  have b36 : Below w3.heap.size w3 w6 := hb4.trans (b6.mono hb4.size)
  have HX6 : Hid ((keptS la).1 ≠ 0 → xag = (keptS la).1 ∧ xen = (keptS la).2.2 ∧ Sl encY w6.heap.size w6 (.slice xs xsn xsc) (snapL (la.take xen)) ∧ RcO E w6 (.slice xr xrn xrc) (recsL (la.take xen)) ∧ Off E (.slice xs xsn xsc)) := Lib.hid (fun h => by
    obtain ⟨h1, h2, h3, h4, h5⟩ := HX.out h
    exact ⟨h1, h2, (h3.below b36).mono b36.size, h4.below b36, h5⟩)
  have HY6 : Hid ((keptS lb).1 ≠ 0 → yag = (keptS lb).1 ∧ yen = (keptS lb).2.2 ∧ Sl encY w6.heap.size w6 (.slice ys ysn ysc) (snapL (lb.take yen)) ∧ RcO E w6 (.slice yr yrn yrc) (recsL (lb.take yen)) ∧ Off E (.slice ys ysn ysc)) := Lib.hid (fun h => by
    obtain ⟨h1, h2, h3, h4⟩ := hy h
    obtain ⟨h5, h6⟩ := h4 E (fun k hk => Nat.lt_of_lt_of_le (HE.out k hk) HB3.out.size)
    exact ⟨h1, h2, (h3.below b6).mono b6.size, h6.below b6, h5⟩)
  obtain ⟨Y, hYY⟩ : ∃ Y, w4.heap.size = Y := ⟨_, rfl⟩
  rw [hYY] at rY rZ
  have HYL : Hid (X < Y) := Lib.hid (by have h1 := (Array.getElem?_eq_some_iff.1 HX3.out).1; have := hb4.size; omega)
  have HN6 := Lib.hid ((b36.block N (Array.getElem?_eq_some_iff.1 HN3.out).1).trans HN3.out)
  have HX8 := Lib.hid ((b36.block X (Array.getElem?_eq_some_iff.1 HX3.out).1).trans HX3.out)
  have HY8 := Lib.hid rY
  have HZ8 := Lib.hid rZ
  have hb06 : Below w.heap.size w w6 := HB3.out.trans (b36.mono HB3.out.size)
  have HSA6 := Lib.hid ((HSA.out.below hb06).mono hb06.size)
  have HSB6 := Lib.hid ((HSB.out.below hb06).mono hb06.size)
  have HB6 := Lib.hid hb06
  have HW6 := Lib.hid hw6
  have HYE := Lib.hid hYY
  clear hb4 hy hw6 b6 rY rZ b36 hYY hb06 HC2 HX HN3 HX3 HB3 
  go_upto_region 4 with fail
  rw [HW6.out, HYE.out]
  clear HW6 HYE
  by_cases hno : oka = false ∧ okb = false
  · obtain ⟨rfl, rfl⟩ := hno
    have hb0 : (keptS la).1 = 0 ∧ (keptS lb).1 = 0 := by
      have h1 := HOKA.out
      have h2 := HOKB.out
      simp at h1 h2
      exact ⟨h1, h2⟩
    have HB0 := Lib.hid hb0
    have hZ := HZ8.out
    obtain ⟨z0, z1, z2, z3, z4, z5, z6, z7, zf⟩ := cellsJ8 hZ
    have zf0 := zf 0
    have zf1 := zf 1
    obtain ⟨w7, hw7⟩ : ∃ w7, (w6.setCell ⟨Y + 1, 0, none⟩ (.slice none 0 0)).setCell ⟨Y + 1, 1, none⟩ (.slice none 0 0) = w7 := ⟨_, rfl⟩
    have rZ7 : w7.heap[Y + 1]? = some (.cells (jdC (.slice none 0 0) (.slice none 0 0) (cap : Nat) 0 0 (.slice none 0 0) (.slice none 0 0) 0) rjT (0, 0)) := by
      rw [← hw7]
      exact heap_setCell_same _ (Y + 1) 1 _ _ _ (heap_setCell_same _ (Y + 1) 0 _ _ _ hZ)
    have hbN : But [Y + 1] w6 w7 := by rw [← hw7]; exact ((But.refl _ _).set (by simp) _).set (by simp) _
    have HZ7 := Lib.hid rZ7
    have HN7 := Lib.hid ((hbN.block N (Array.getElem?_eq_some_iff.1 HN6.out).1 (by have := HXL.out; have := HYL.out; simp; omega)).trans HN6.out)
    have HB7 : Hid (Below w.heap.size w w7) := Lib.hid (HB6.out.trans (hbN.below (fun k hk => by simp at hk; have := HXL.out; have := HYL.out; have := HNN.out; omega) HB6.out.size))
    have HBG := Lib.hid (jbegin_any 1 (by decide) (by decide) none 0 0 [] (fun x hx => by cases hx) (by simp) w7 (Sl.nil _ _ _))
    have HW7 := Lib.hid hw7
    clear hb0 hZ zf hw7 rZ7 hbN z2 z3 z4 z5 z6 z7
    go_upto_region 6 with fail
    rw [HW7.out]
    clear HW7 z0 z1 zf0 zf1
    go_wp2_with fail
    refine HBG.out.mono ?_
    rintro e w8 ⟨p, k, q, rfl, hs8, hb8, hnb⟩
    have HOP : Hid (Off E (.slice p k q)) := Lib.hid (fun ad m e h _ hm => by
      have h1 := hnb ad m e h
      have h2 := HE.out _ hm
      have h3 := HB7.out.size
      omega)
    clear hnb
    obtain rfl : k = 16 := by have := hs8.len; rw [this]; exact fresh_len
    have hZ := (hb8.block (Y + 1) (Array.getElem?_eq_some_iff.1 HZ7.out).1).trans HZ7.out
    have hNw := (hb8.block N (Array.getElem?_eq_some_iff.1 HN7.out).1).trans HN7.out
    obtain ⟨z0, z1, z2, z3, z4, z5, z6, z7, zf⟩ := cellsJ8 hZ
    obtain ⟨n0, n1, n2, n3, n4, n5, n6, n7, nf⟩ := cellsJ8 hNw
    have zf0 := zf 0
    have zf4 := zf 4
    have zf7 := zf 7
    have nf0 := nf 0
    have nf1 := nf 1
    have nf2 := nf 2
    have nf3 := nf 3
    have nf4 := nf 4
    have nf5 := nf 5
    have nf6 := nf 6
    have nf7 := nf 7
    have HZ9 := Lib.hid hZ
    have HN9 := Lib.hid hNw
    have HS8 := Lib.hid hs8
    have HB9 : Hid (Below w.heap.size w w8) := Lib.hid (HB7.out.trans (hb8.mono HB7.out.size))
    clear hZ hNw zf nf hs8 hb8
    by_cases hc16 : cap < 16
    · have hci : (cap : Int) < 16 := by omega
      go_wp2
      refine bodyPost_ret (jd_res2 _ 6 7 rfl _ _ N _ _ _ _ _ _ _ _ _ rfl rfl (heap_set8 HN9.out)) rfl ?_
      refine ⟨set8_below HB9.out (by rw [HNN.out]; exact Nat.le_refl _), .inl ⟨HB0.out.1, HB0.out.2, .inr ⟨hc16, _, ⟨_, _, _, _, _, _, _, _, _, _, _, _, _, _, _, _, rfl⟩, rfl⟩⟩⟩
    · have hci : ¬ (cap : Int) < 16 := by omega
      obtain ⟨w9, hw9⟩ : ∃ w9, ((w8.setCell ⟨Y + 1, 0, none⟩ (.slice p 16 q)).setCell ⟨Y + 1, 4, none⟩ (.int .u64 1)).setCell ⟨Y + 1, 7, none⟩ (.int .i64 16) = w9 := ⟨_, rfl⟩
      have rZ9 : w9.heap[Y + 1]? = some (.cells (jdC (.slice p 16 q) (.slice none 0 0) (cap : Nat) 0 1 (.slice none 0 0) (.slice none 0 0) 16) rjT (0, 0)) := by
        rw [← hw9]
        exact heap_setCell_same _ (Y + 1) 7 _ _ _ (heap_setCell_same _ (Y + 1) 4 _ _ _ (heap_setCell_same _ (Y + 1) 0 _ _ _ HZ9.out))
      have hbN : But [Y + 1] w8 w9 := by rw [← hw9]; exact (((But.refl _ _).set (by simp) _).set (by simp) _).set (by simp) _
      have rN9 := (hbN.block N (Array.getElem?_eq_some_iff.1 HN9.out).1 (by have := HXL.out; have := HYL.out; simp; omega)).trans HN9.out
      have hb9 : Below w.heap.size w w9 := HB9.out.trans (hbN.below (fun k hk => by simp at hk; have := HXL.out; have := HYL.out; have := HNN.out; omega) HB9.out.size)
      have hs9 := HS8.out.but hbN (off_cells HS8.out HZ9.out (jdC_no _ _ _ _ _ _ _ _ _ _ _ _ _ _ _ _))
      have HRN := Lib.hid rN9
      have HRZ := Lib.hid rZ9
      have HS9 := Lib.hid hs9
      have HB10 := Lib.hid hb9
      have HW9 := Lib.hid hw9
      clear hw9 rZ9 hbN rN9 hb9 hs9 n0 n1 n2 n3 n4 n5 n6 n7 nf0 nf1 nf2 nf3 nf4 nf5 nf6 nf7
      go_upto_region 12 with fail
      rw [HW9.out]
      clear HW9 z0 z1 z2 z3 z4 z5 z6 z7 zf0 zf4 zf7
      obtain ⟨z0, z1, z2, z3, z4, z5, z6, z7, zf⟩ := cellsJ8 HRZ.out
      obtain ⟨n0, n1, n2, n3, n4, n5, n6, n7, nf⟩ := cellsJ8 HRN.out
      have nf0 := nf 0
      have nf1 := nf 1
      have nf2 := nf 2
      have nf3 := nf 3
      have nf4 := nf 4
      have nf5 := nf 5
      have nf6 := nf 6
      have nf7 := nf 7
      clear zf nf
      go_wp2
      refine bodyPost_ret (jd_res2 _ 6 7 rfl _ _ N _ _ _ _ _ _ _ _ _ rfl rfl (heap_set8 HRN.out)) rfl ?_
      have hbE := set8_but w9 N (v0 := .slice p 16 q) (v1 := .slice none 0 0) (v2 := .int .i64 (cap : Nat)) (v3 := .int .i64 0) (v4 := .int .u64 1) (v5 := .slice none 0 0) (v6 := .slice none 0 0) (v7 := .int .i64 16)
      have hsn : snapL freshL = [] ∧ recsL freshL = [] := fresh_snap
      refine ⟨set8_below HB10.out (by rw [HNN.out]; exact Nat.le_refl _), .inl ⟨HB0.out.1, HB0.out.2, .inl ⟨by omega, _, rfl, ⟨p, none, none, none, 16, q, 0, 0, 0, 0, 0, 0, rfl, ?_, Sl.nil _ _ _, ?_, ?_, HOP.out, off_nil _, off_nil _⟩⟩⟩⟩
      · exact HS9.out.but hbE (off_cells HS9.out HRN.out (jdC_no _ _ _ _ _ _ _ _ _ _ _ _ _ _ _ _))
      · rw [if_pos rfl, hsn.1]; exact Sl.nil _ _ _
      · rw [if_pos rfl, hsn.2]; exact RcO.nil _ _
  · have hA0 : oka = true → (keptS la).1 ≠ 0 := fun h => by have := HOKA.out; rw [h] at this; exact of_decide_eq_true this
    have hA1 : oka = false → (keptS la).1 = 0 := fun h => by have := HOKA.out; rw [h] at this; exact Decidable.not_not.1 (of_decide_eq_false this)
    have hB0 : okb = true → (keptS lb).1 ≠ 0 := fun h => by have := HOKB.out; rw [h] at this; exact of_decide_eq_true this
    have hB1 : okb = false → (keptS lb).1 = 0 := fun h => by have := HOKB.out; rw [h] at this; exact Decidable.not_not.1 (of_decide_eq_false this)
    have HA0 := Lib.hid hA0
    have HA1 := Lib.hid hA1
    have HB0 := Lib.hid hB0
    have HB1' := Lib.hid hB1
    have HNO := Lib.hid hno
    clear hA0 hA1 hB0 hB1 hno
    go_cut [33] from 28 to 32 (fun cv wx => cv = .bool false ∧ wx = w6)
    case first =>
      cases oka with
      | true =>
        go_wp2_with fail
        go_meet
        exact ⟨rfl, rfl⟩
      | false =>
        cases okb with
        | true =>
          go_wp2_with fail
          go_meet
          exact ⟨rfl, rfl⟩
        | false => exact absurd ⟨rfl, rfl⟩ HNO.out
    case rest =>
      obtain ⟨rfl, hwc⟩ := hcut
      rw [hwc]
      clear hwc
      go_upto_region 13 with fail
      go_cut [64] from 53 to 63 (fun cv wx => cv = .bool (decide ((keptS la).1 < (keptS lb).1)) ∧ wx = w6)
      case first =>
        cases hokb : okb with
        | false =>
          have h0 := HB1'.out hokb
          subst hokb
          go_wp2_with fail
          go_meet
          exact ⟨congrArg Value.bool (decide_eq_false (by omega)).symm, rfl⟩
        | true =>
          have h0 := HB0.out hokb
          cases hoka : oka with
          | false =>
            have h1 := HA1.out hoka
            subst hokb
            subst hoka
            go_wp2_with fail
            go_meet
            exact ⟨congrArg Value.bool (decide_eq_true (by omega)).symm, rfl⟩
          | true =>
            have h1 := HA0.out hoka
            have hx4 := (cellsJ8 HX8.out).2.2.2.2.1
            have hy4 := (cellsJ8 HY8.out).2.2.2.2.1
            have e1 := (HX6.out h1).1
            have e2 := (HY6.out h0).1
            have E1 := Lib.hid e1
            have E2 := Lib.hid e2
            subst hokb
            subst hoka
            clear h0 h1 e1 e2
            go_wp2_with fail
            go_meet
            exact ⟨congrArg Value.bool (by rw [← E1.out, ← E2.out]), rfl⟩
      case rest =>
        obtain ⟨rfl, hwc⟩ := hcut
        rw [hwc]
        clear hwc
        go_upto_if 64 with fail
        go_cut [] from 64 to 66 (fun wx => SelAt E w6 X (Y + 1) (jdC (.slice a n c) (.slice b m d) (cap : Nat) (opR la lb : Nat) 0 (.slice none 0 0) (.slice none 0 0) 0) (opK la lb) (if opR la lb = 0 then la else lb) wx)
        case first =>
          by_cases hlt : (keptS la).1 < (keptS lb).1
          · rw [decide_eq_true hlt]
            have e1 : opR la lb = 1 := if_pos hlt
            have e2 : opK la lb = keptS lb := if_pos hlt
            have hy := HY6.out (by omega)
            have HY := Lib.hid hy
            have E1 := Lib.hid e1
            have E2 := Lib.hid e2
            obtain ⟨x0, x1, x2, x3, x4, x5, x6, x7, xf⟩ := cellsJ8 HX8.out
            obtain ⟨y0, y1, y2, y3, y4, y5, y6, y7, _⟩ := cellsJ8 HY8.out
            have xf0 := xf 0
            have xf1 := xf 1
            have xf2 := xf 2
            have xf3 := xf 3
            have xf4 := xf 4
            have xf5 := xf 5
            have xf6 := xf 6
            have xf7 := xf 7
            have z3 := (cellsJ8 HZ8.out).2.2.2.1
            have zf3 := (cellsJ8 HZ8.out).2.2.2.2.2.2.2.2 3
            have hXZ : Y + 1 ≠ X := by have := HYL.out; omega
            clear xf hlt e1 e2 hy
            go_wp2_with fail
            go_meet
            rw [E1.out, E2.out, if_neg (by decide)]
            obtain ⟨h1, h2, h3, h4, h5⟩ := HY.out
            have hb8 := set8_but w6 X (v0 := .slice none 0 0) (v1 := .slice none 0 0) (v2 := .int .i64 0) (v3 := .int .i64 0) (v4 := .int .u64 (yag : Nat)) (v5 := .slice ys ysn ysc) (v6 := .slice yr yrn yrc) (v7 := .int .i64 (yen : Nat))
            have hc6 := jdC_no none none xs xr 0 0 0 0 xsn xsc xrn xrc 0 0 (xag : Nat) (xen : Nat)
            have hZ8 := (hb8.block (Y + 1) (Array.getElem?_eq_some_iff.1 HZ8.out).1 (by simp; exact hXZ)).trans HZ8.out
            have hX8 := heap_set8 (v0 := .slice none 0 0) (v1 := .slice none 0 0) (v2 := .int .i64 0) (v3 := .int .i64 0) (v4 := .int .u64 (yag : Nat)) (v5 := .slice ys ysn ysc) (v6 := .slice yr yrn yrc) (v7 := .int .i64 (yen : Nat)) HX8.out
            have h3' := h3.but hb8 (off_cells h3 HX8.out hc6)
            have h4' := h4.but hb8 HX8.out hc6
            obtain ⟨w8, hw8⟩ : ∃ w8, ((((((((w6.setCell ⟨X, 0, none⟩ (.slice none 0 0)).setCell ⟨X, 1, none⟩ (.slice none 0 0)).setCell ⟨X, 2, none⟩ (.int .i64 0)).setCell ⟨X, 3, none⟩ (.int .i64 0)).setCell ⟨X, 4, none⟩ (.int .u64 (yag : Nat))).setCell ⟨X, 5, none⟩ (.slice ys ysn ysc)).setCell ⟨X, 6, none⟩ (.slice yr yrn yrc)).setCell ⟨X, 7, none⟩ (.int .i64 (yen : Nat))) = w8 := ⟨_, rfl⟩
            rw [hw8] at hb8 hZ8 hX8 h3' h4' ⊢
            have hb9 : But [Y + 1] w8 (w8.setCell ⟨Y + 1, 3, none⟩ (.int .i64 1)) := (But.refl _ _).set (by simp) _
            have hcZ := jdC_no a b none none n c m d 0 0 0 0 (cap : Nat) 0 0 0
            refine ⟨(hb8.more (fun k hk => .inl (by simp at hk ⊢; omega))).trans' (hb9.more (fun k hk => .inl (by simp at hk ⊢; omega))), ⟨ys, yr, ysn, ysc, yrn, yrc, yag, yen, ?_, h1, h2, h3'.but hb9 (off_cells h3' hZ8 hcZ), h4'.but hb9 hZ8 hcZ, h5⟩, heap_setCell_same w8 (Y + 1) 3 _ _ _ hZ8⟩
            exact (hb9.block X (Array.getElem?_eq_some_iff.1 hX8).1 (by simp; omega)).trans hX8
          · rw [decide_eq_false hlt]
            have e1 : opR la lb = 0 := if_neg hlt
            have e2 : opK la lb = keptS la := if_neg hlt
            have E1 := Lib.hid e1
            have E2 := Lib.hid e2
            have HLT := Lib.hid hlt
            clear hlt e1 e2
            go_wp2_with fail
            go_meet
            rw [E1.out, E2.out, if_pos rfl]
            have h0 : (keptS la).1 ≠ 0 := by
              have := HLT.out
              intro h
              have hb : (keptS lb).1 = 0 := by omega
              refine HNO.out ⟨?_, ?_⟩
              · have := HOKA.out; rw [h] at this; simpa using this.symm
              · have := HOKB.out; rw [hb] at this; simpa using this.symm
            obtain ⟨h1, h2, h3, h4, h5⟩ := HX6.out h0
            exact ⟨But.refl _ _, ⟨xs, xr, xsn, xsc, xrn, xrc, xag, xen, HX8.out, h1, h2, h3, h4, h5⟩, HZ8.out⟩
        case rest =>
          have hk0 : (opK la lb).1 ≠ 0 := by
            unfold opK
            split
            · omega
            · intro h
              refine HNO.out ⟨?_, ?_⟩
              · have := HOKA.out; rw [h] at this; simpa using this.symm
              · have := HOKB.out; rw [show (keptS lb).1 = 0 from by omega] at this; simpa using this.symm
          have HK0 := Lib.hid hk0
          obtain ⟨⟨ka, kc, kf⟩, hK⟩ : ∃ K, opK la lb = K := ⟨_, rfl⟩
          obtain ⟨r, hr⟩ : ∃ r, opR la lb = r := ⟨_, rfl⟩
          have hr01 : r = 0 ∨ r = 1 := by rw [← hr]; unfold opR; split; exact .inr rfl; exact .inl rfl
          rw [hK, hr] at hcut
          have HK := Lib.hid hK
          have HR := Lib.hid hr
          have HR01 := Lib.hid hr01
          obtain ⟨hbt, ⟨ts, tr, tsn, tsc, trn, trc, tag, ten, rX7, rfl, rfl, hS7, hP7, hO7⟩, rZ7⟩ := hcut
          have HO7 := Lib.hid hO7
          clear hO7
          have HBT := Lib.hid hbt
          have HX7 := Lib.hid rX7
          have HZ7 := Lib.hid rZ7
          have HS7 := Lib.hid hS7
          have HP7 := Lib.hid hP7
          clear hk0 hK hr hr01 hbt rX7 rZ7 hS7 hP7 HX8 HY8 HZ8 HX6 HY6
          obtain ⟨x0, x1, x2, x3, x4, x5, x6, x7, _⟩ := cellsJ8 HX7.out
          obtain ⟨z0, z1, z2, z3, z4, z5, z6, z7, zf⟩ := cellsJ8 HZ7.out
          have zf4 := zf 4
          have zf5 := zf 5
          have zf6 := zf 6
          have zf7 := zf 7
          have hXZ : Y + 1 ≠ X := by have := HYL.out; omega
          have hXZ' : X ≠ Y + 1 := by omega
          clear zf z0 z1 z2 z3 x0 x1 x2 x3
          go_upto_region 16 with fail
          go_region
          obtain ⟨w8, hw8⟩ : ∃ w8, ((((wc.setCell ⟨Y + 1, 4, none⟩ (.int .u64 (tag : Nat))).setCell ⟨Y + 1, 5, none⟩ (.slice ts tsn tsc)).setCell ⟨Y + 1, 6, none⟩ (.slice tr trn trc)).setCell ⟨Y + 1, 7, none⟩ (.int .i64 (ten : Nat))).drew = w8 := ⟨_, rfl⟩
          have rZ8 : w8.heap[Y + 1]? = some (.cells (jdC (.slice a n c) (.slice b m d) (cap : Nat) (r : Nat) (tag : Nat) (.slice ts tsn tsc) (.slice tr trn trc) (ten : Nat)) rjT (0, 0)) := by
            rw [← hw8]
            exact heap_setCell_same _ (Y + 1) 7 _ _ _ (heap_setCell_same _ (Y + 1) 6 _ _ _ (heap_setCell_same _ (Y + 1) 5 _ _ _ (heap_setCell_same _ (Y + 1) 4 _ _ _ HZ7.out)))
          have hb8 : But [Y + 1] wc w8 := by rw [← hw8]; exact (((((But.refl _ _).set (by simp) _).set (by simp) _).set (by simp) _).set (by simp) _).drew
          have hcZ := jdC_no a b none none n c m d 0 0 0 0 (cap : Nat) (r : Nat) 0 0
          have hcX := jdC_no none none ts tr 0 0 0 0 tsn tsc trn trc 0 0 (tag : Nat) (ten : Nat)
          have hbX : But [X, Y + 1] w6 w8 := HBT.out.trans' (hb8.more (fun k hk => .inl (by simp at hk ⊢; omega)))
          have rN8 := (hbX.block N (Array.getElem?_eq_some_iff.1 HN6.out).1 (by have := HXL.out; have := HYL.out; simp; omega)).trans HN6.out
          have hS8 := HS7.out.but hb8 (off_cells HS7.out HZ7.out hcZ)
          have hP8 := HP7.out.but hb8 HZ7.out hcZ
          have hbw : Below w.heap.size w w8 := HB6.out.trans (hbX.below (fun k hk => by simp at hk; have := HXL.out; have := HYL.out; have := HNN.out; omega) HB6.out.size)
          have hSA := (HSA.out.below hbw).mono hbw.size
          have hSB := (HSB.out.below hbw).mono hbw.size
          have HZ8 := Lib.hid rZ8
          have HN8 := Lib.hid rN8
          have HS8 := Lib.hid hS8
          have HP8 := Lib.hid hP8
          have HBW := Lib.hid hbw
          have HSA8 := Lib.hid hSA
          have HSB8 := Lib.hid hSB
          rw [hw8]
          clear hw8 rZ8 hb8 hcZ hcX hbX rN8 hS8 hP8 hbw hSA hSB x4 x5 x6 x7 z4 z5 z6 z7 zf4 zf5 zf6 zf7
          go_upto_region 17 with fail
          have hrow : keptS (if r = 0 then la else lb) = (tag, kc, ten) := by
            have h1 := HK.out
            have h2 := HR.out
            unfold opK at h1
            unfold opR at h2
            split at h1
            · rename_i h; rw [if_pos h] at h2; rw [← h2, if_neg (by decide)]; exact h1
            · rename_i h; rw [if_neg h] at h2; rw [← h2, if_pos rfl]; exact h1
          have htag : tag ≠ 0 := by have := HK0.out; rw [HK.out] at this; exact this
          have hbr : ∀ x ∈ (if r = 0 then la else lb), x < 256 := by split; exact HLA.out.2; exact HLB.out.2
          have hle := (kept_age hbr hrow htag).1
          have hSR : Sl encY w8.heap.size w8 (if r = 0 then Value.slice a n c else .slice b m d) (if r = 0 then la else lb) := by split; exact HSA8.out; exact HSB8.out
          obtain ⟨g, o, nn, cc, hsel, hnn⟩ : ∃ g o nn cc, (if r = 0 then Value.slice a n c else .slice b m d) = .slice (some ⟨g, o, none⟩) nn cc ∧ ten ≤ nn := by
            obtain ⟨pa, pc, hpv⟩ := hSR.form
            rw [hpv] at hSR
            have hne : (if r = 0 then la else lb) ≠ [] := fun h => by rw [h, kept_nil] at hrow; exact htag (by cases hrow; rfl)
            obtain ⟨y, hy⟩ : ∃ y, (if r = 0 then la else lb)[0]? = some y := by
              cases hl : (if r = 0 then la else lb) with
              | nil => exact absurd hl hne
              | cons y ys => exact ⟨y, rfl⟩
            obtain ⟨g, o, e, _⟩ := hSR.at_ hy
            rw [e] at hpv
            exact ⟨g, o, _, _, hpv, hle⟩
          rw [hsel] at hSR
          have hcap2 := hSR.capb
          have hcut := hSR.take hnn
          obtain ⟨q0, m0, d0, hq0⟩ : ∃ q0 m0 d0, (if r = 0 then Value.slice (some ⟨g, o, none⟩) ten cc else .slice a n c) = .slice q0 m0 d0 := by split; exact ⟨_, _, _, rfl⟩; exact ⟨_, _, _, rfl⟩
          obtain ⟨q1, m1, d1, hq1⟩ : ∃ q1 m1 d1, (if r = 0 then Value.slice b m d else .slice (some ⟨g, o, none⟩) ten cc) = .slice q1 m1 d1 := by split; exact ⟨_, _, _, rfl⟩; exact ⟨_, _, _, rfl⟩
          have HD0 : Hid (Sl encY w8.heap.size w8 (.slice q0 m0 d0) (if r = 0 then la.take ten else la)) := Lib.hid (by
            rw [← hq0]
            rcases HR01.out with h | h
            · rw [if_pos h, if_pos h]; rw [if_pos h] at hcut; exact hcut
            · rw [if_neg (by omega), if_neg (by omega)]; exact HSA8.out)
          have HD1 : Hid (Sl encY w8.heap.size w8 (.slice q1 m1 d1) (if r = 0 then lb else lb.take ten)) := Lib.hid (by
            rw [← hq1]
            rcases HR01.out with h | h
            · rw [if_pos h, if_pos h]; exact HSB8.out
            · rw [if_neg (by omega), if_neg (by omega)]; rw [if_neg (by omega)] at hcut; exact hcut)
          have hoS : Off E (if r = 0 then Value.slice a n c else .slice b m d) := by split; exact HOA.out; exact HOB.out
          rw [hsel] at hoS
          have hoC : Off E (.slice (some ⟨g, o, none⟩) ten cc) := fun ad m e h h0 => by cases h; exact hoS ⟨g, o, none⟩ _ _ rfl (by omega)
          have HO0 : Hid (Off E (.slice q0 m0 d0)) := Lib.hid (by rw [← hq0]; split; exact hoC; exact HOA.out)
          have HO1 : Hid (Off E (.slice q1 m1 d1)) := Lib.hid (by rw [← hq1]; split; exact HOB.out; exact hoC)
          clear hoS hoC
          have HRG := Lib.hid (fun (W : World) => jregion_any a b n c m d (cap : Nat) (r : Nat) (tag : Nat) ts tr tsn trn tsc trc (ten : Nat) r HR01.out W)
          have HST := Lib.hid (fun (W : World) => jset_any a b n c m d (cap : Nat) (r : Nat) (tag : Nat) ts tr tsn trn tsc trc (ten : Nat) r HR01.out (some ⟨g, o, none⟩) ten cc W)
          rw [hsel] at HRG
          rw [hq0, hq1] at HST
          have hn1 : (ten : Int) ≤ (nn : Int) := by omega
          have hn2 : (nn : Int) ≤ (cc : Int) := by omega
          have hn3 : (0 : Int) ≤ (ten : Int) := by omega
          have hn4 : (ten : Int) ≤ (cc : Int) := by omega
          clear hrow htag hbr hle hSR hsel hcut hq0 hq1 hnn hcap2
          refine region_seq (l := [_, _, _, _, _, _, _, _, _, _, _]) (t := [_, _]) (by kernel_rfl) (by decide +kernel) (by decide +kernel) (fun v => { tmps := #[Value.slice a n c, Value.slice b m d, Value.int IntKind.i64 (cap : Int), undef, undef, undef, Value.pointer (some ⟨N, 0, none⟩), Value.int IntKind.i64 0, Value.pointer (some ⟨X, 0, none⟩), Value.bool oka, Value.pointer (some ⟨Y, 0, none⟩), Value.bool okb, Value.pointer (some ⟨Y + 1, 0, none⟩), undef, Value.tuple #[jdV (Value.slice none 0 0) (Value.slice none 0 0) 0 0 ((xag : Int)) (Value.slice xs xsn xsc) (Value.slice xr xrn xrc) (xen : Int), Value.bool oka], Value.slice a n c, Value.tuple #[jdV (Value.slice none 0 0) (Value.slice none 0 0) 0 0 ((xag : Int)) (Value.slice xs xsn xsc) (Value.slice xr xrn xrc) (xen : Int), Value.bool oka], jdV (Value.slice none 0 0) (Value.slice none 0 0) 0 0 ((xag : Int)) (Value.slice xs xsn xsc) (Value.slice xr xrn xrc) (xen : Int), Value.bool oka, Value.tuple #[jdV (Value.slice none 0 0) (Value.slice none 0 0) 0 0 ((yag : Int)) (Value.slice ys ysn ysc) (Value.slice yr yrn yrc) (yen : Int), Value.bool okb], Value.slice b m d, Value.tuple #[jdV (Value.slice none 0 0) (Value.slice none 0 0) 0 0 ((yag : Int)) (Value.slice ys ysn ysc) (Value.slice yr yrn yrc) (yen : Int), Value.bool okb], jdV (Value.slice none 0 0) (Value.slice none 0 0) 0 0 ((yag : Int)) (Value.slice ys ysn ysc) (Value.slice yr yrn yrc) (yen : Int), Value.bool okb, Value.slice a n c, Value.slice b m d, Value.int IntKind.i64 (cap : Int), Value.agg #[Value.slice a n c, Value.slice b m d, Value.int IntKind.i64 (cap : Int), Value.int IntKind.i64 0, Value.int IntKind.u64 0, Value.slice none 0 0, Value.slice none 0 0, Value.int IntKind.i64 0], u28, u29, u30, u31, u32, Value.bool false, undef, undef, undef, undef, undef, undef, undef, undef, undef, undef, undef, undef, undef, undef, undef, undef, undef, undef, undef, u53, u54, u55, u56, u57, u58, u59, u60, u61, u62, u63, u64, u65, u66, Value.pointer (some ⟨X, 4, none⟩), Value.int IntKind.u64 (tag : Int), Value.pointer (some ⟨X, 5, none⟩), Value.slice ts tsn tsc, Value.pointer (some ⟨X, 6, none⟩), Value.slice tr trn trc, Value.pointer (some ⟨X, 7, none⟩), Value.int IntKind.i64 (ten : Int), Value.pointer (some ⟨Y + 1, 4, none⟩), Value.pointer (some ⟨Y + 1, 5, none⟩), Value.pointer (some ⟨Y + 1, 6, none⟩), Value.pointer (some ⟨Y + 1, 7, none⟩), v 0, v 1, v 2, v 3, v 4, v 5, v 6, v 7, v 8, v 9, v 10], defers := [] }) (fun W => Below w8.heap.size w8 W) (fun i' u W => match i' with
            | 0 => u = jdV (.slice a n c) (.slice b m d) (cap : Nat) (r : Nat) (tag : Nat) (.slice ts tsn tsc) (.slice tr trn trc) (ten : Nat)
            | 1 => u = .pointer (some ⟨Y + 1, 3, none⟩)
            | 2 => u = .int .i64 (r : Nat)
            | 3 => u = jdV (.slice a n c) (.slice b m d) (cap : Nat) (r : Nat) (tag : Nat) (.slice ts tsn tsc) (.slice tr trn trc) (ten : Nat)
            | 4 => u = .pointer (some ⟨Y + 1, 3, none⟩)
            | 5 => u = .int .i64 (r : Nat)
            | 6 => u = .slice (some ⟨g, o, none⟩) nn cc
            | 7 => u = .pointer (some ⟨Y + 1, 7, none⟩)
            | 8 => u = .int .i64 (ten : Nat)
            | 9 => u = .slice (some ⟨g, o, none⟩) ten cc
            | 10 => u = jdV (.slice q0 m0 d0) (.slice q1 m1 d1) (cap : Nat) (r : Nat) (tag : Nat) (.slice ts tsn tsc) (.slice tr trn trc) (ten : Nat)
            | _ => True) (fun A B => Below A.heap.size A B) ?hC ?hV (fun _ => undef) ?h0 ?hop ?hend
          case hC => exact fun A B h h2 => h.trans (h2.mono h.size)
          case h0 => exact (Below.refl _ w8).drew
          case hV =>
            intro i' u A B h hx
            match i', h with
            | 0, h => exact h
            | 1, h => exact h
            | 2, h => exact h
            | 3, h => exact h
            | 4, h => exact h
            | 5, h => exact h
            | 6, h => exact h
            | 7, h => exact h
            | 8, h => exact h
            | 9, h => exact h
            | 10, h => exact h
            | n + 11, h => trivial
          case hop =>
            simp only [AllDo]
            refine ⟨?o0, ?o1, ?o2, ?o3, ?o4, ?o5, ?o6, ?o7, ?o8, ?o9, ?o10, trivial⟩
            all_goals intro v W hc hd Q hQ
            all_goals simp [Region.binds] at hd
            all_goals rw [if_pos (show Region.wanted _ _ = true from rfl)]
            case o0 =>
              obtain ⟨z0, z1, z2, z3, z4, z5, z6, z7, _⟩ := cellsJ8 ((hc.block (Y + 1) (Array.getElem?_eq_some_iff.1 HZ8.out).1).trans HZ8.out)
              go_wp2
              exact ⟨_, rfl, Below.refl _ _, rfl⟩
            case o1 =>
              go_wp2
              exact ⟨_, rfl, Below.refl _ _, rfl⟩
            case o2 =>
              have z3 := (cellsJ8 ((hc.block (Y + 1) (Array.getElem?_eq_some_iff.1 HZ8.out).1).trans HZ8.out)).2.2.2.1
              go_wp2
              refine ⟨_, ?_, Below.refl _ _, rfl⟩
              simp [updV, hd]
            case o3 =>
              obtain ⟨z0, z1, z2, z3, z4, z5, z6, z7, _⟩ := cellsJ8 ((hc.block (Y + 1) (Array.getElem?_eq_some_iff.1 HZ8.out).1).trans HZ8.out)
              go_wp2
              exact ⟨_, rfl, Below.refl _ _, rfl⟩
            case o4 =>
              go_wp2
              exact ⟨_, rfl, Below.refl _ _, rfl⟩
            case o5 =>
              have z3 := (cellsJ8 ((hc.block (Y + 1) (Array.getElem?_eq_some_iff.1 HZ8.out).1).trans HZ8.out)).2.2.2.1
              go_wp2
              refine ⟨_, ?_, Below.refl _ _, rfl⟩
              simp [updV, hd]
            case o6 =>
              obtain ⟨h1, h2⟩ := hd
              go_wp2_with fail
              refine (HRG.out W).mono ?_
              rintro e W' ⟨rfl, hb'⟩
              go_wp2
              refine ⟨.slice (some ⟨g, o, none⟩) nn cc, ?_, hb', rfl⟩
              simp [updV, h1, h2]
            case o7 =>
              go_wp2
              exact ⟨_, rfl, Below.refl _ _, rfl⟩
            case o8 =>
              have z7 := (cellsJ8 ((hc.block (Y + 1) (Array.getElem?_eq_some_iff.1 HZ8.out).1).trans HZ8.out)).2.2.2.2.2.2.2.1
              go_wp2
              refine ⟨_, ?_, Below.refl _ _, rfl⟩
              simp [updV, hd]
            case o9 =>
              obtain ⟨h1, h2⟩ := hd
              go_wp2
              refine ⟨.slice (some ⟨g, o, none⟩) ten cc, ?_, Below.refl _ _, rfl⟩
              simp [updV, h1, h2]
            case o10 =>
              obtain ⟨h1, h2, h3, h4⟩ := hd
              go_wp2_with fail
              refine (HST.out W).mono ?_
              rintro e W' ⟨rfl, hb'⟩
              go_wp2
              refine ⟨jdV (.slice q0 m0 d0) (.slice q1 m1 d1) (cap : Nat) (r : Nat) (tag : Nat) (.slice ts tsn tsc) (.slice tr trn trc) (ten : Nat), ?_, hb', rfl⟩
              simp [updV, h1, h2, h3, h4]
          case hend =>
            intro v W hc hv
            have e10 : v 10 = .agg #[.slice q0 m0 d0, .slice q1 m1 d1, .int .i64 (cap : Nat), .int .i64 (r : Nat), .int .u64 (tag : Nat), .slice ts tsn tsc, .slice tr trn trc, .int .i64 (ten : Nat)] := hv 10 (by decide)
            have hNW := (hc.block N (Array.getElem?_eq_some_iff.1 HN8.out).1).trans HN8.out
            obtain ⟨n0, n1, n2, n3, n4, n5, n6, n7, nf⟩ := cellsJ8 hNW
            have nf0 := nf 0
            have nf1 := nf 1
            have nf2 := nf 2
            have nf3 := nf 3
            have nf4 := nf 4
            have nf5 := nf 5
            have nf6 := nf 6
            have nf7 := nf 7
            have HNW := Lib.hid hNW
            have HCW := Lib.hid hc
            clear hNW nf hc hv
            simp only [SeqDoes]
            intro Q1 hQ1
            rw [if_pos (show Region.wanted _ _ = true from rfl)]
            go_wp2_with fail
            intro Q2 hQ2
            rw [if_pos (show Region.wanted _ _ = true from rfl)]
            go_wp2
            refine bodyPost_ret (jd_res2 _ 6 7 rfl _ _ N _ _ _ _ _ _ _ _ _ rfl rfl (heap_set8 HNW.out)) rfl ?_
            have hbE := set8_but W N (v0 := .slice q0 m0 d0) (v1 := .slice q1 m1 d1) (v2 := .int .i64 (cap : Nat)) (v3 := .int .i64 (r : Nat)) (v4 := .int .u64 (tag : Nat)) (v5 := .slice ts tsn tsc) (v6 := .slice tr trn trc) (v7 := .int .i64 (ten : Nat))
            have hcN := jdC_no none none none none 0 0 0 0 0 0 0 0 0 0 0 0
            have hk0 := HK0.out
            have hbw8 := HBW.out.trans (HCW.out.mono HBW.out.size)
            unfold OpD
            rw [HR.out]
            rw [HK.out] at hk0 ⊢
            refine ⟨set8_below hbw8 (by rw [HNN.out]; exact Nat.le_refl _), .inr ⟨hk0, _, rfl, ⟨q0, q1, ts, tr, m0, d0, m1, d1, tsn, tsc, trn, trc, rfl, ?_, ?_, ?_, ?_, HO0.out, HO1.out, HO7.out⟩⟩⟩
            · have h := (HD0.out.below HCW.out).mono HCW.out.size
              exact h.but hbE (off_cells h HNW.out hcN)
            · have h := (HD1.out.below HCW.out).mono HCW.out.size
              exact h.but hbE (off_cells h HNW.out hcN)
            · have h := (HS8.out.below HCW.out).mono HCW.out.size
              have h2 := h.but hbE (off_cells h HNW.out hcN)
              have e : (if r = 0 then (if r = 0 then la.take ten else la) else (if r = 0 then lb else lb.take ten)) = (if r = 0 then la else lb).take ten := by split <;> rfl
              show Sl encY _ _ _ (snapL (if r = 0 then (if r = 0 then la.take ten else la) else (if r = 0 then lb else lb.take ten)))
              rw [e]; exact h2
            · have h2 := ((HP8.out.below HCW.out).but hbE HNW.out hcN)
              have e : (if r = 0 then (if r = 0 then la.take ten else la) else (if r = 0 then lb else lb.take ten)) = (if r = 0 then la else lb).take ten := by split <;> rfl
              show RcO _ _ _ (recsL (if r = 0 then (if r = 0 then la.take ten else la) else (if r = 0 then lb else lb.take ten)))
              rw [e]; exact h2
end Go.Proofs.Ytpllbojmonfeiaa
