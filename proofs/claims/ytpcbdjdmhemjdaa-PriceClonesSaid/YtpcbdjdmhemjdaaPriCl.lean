/- What law PriceClones keeps beside its walks: its boxes, its rows, its two stores. -/
import Derived.Test.YtpcbdjdmhemjdaaPriZ
namespace Go.Proofs.Ytpcbdjdmhemjdaa
open Go.RowKit
set_option linter.unusedVariables false

/-- It ends as it should, and what is asked holds. -/
def NormP (Q1 : Act → World → Prop) : Exit → Act → World → Prop
  | .normal, a, w => Q1 a w
  | _, _, _ => False
/-- A region, what it leaves said of the act it begins with. -/
theorem wp_mid {P : Program} {c : Code} {Q : Exit → Act → World → Prop} {a : Act} {w : World} (R : Act → Act → World → Prop)
    (h1 : ∀ Q1 : Act → World → Prop, (∀ a' w', R a a' w' → Q1 a' w') → c.wp P (NormP Q1) a w) (h2 : ∀ a' w', R a a' w' → Q .normal a' w') : c.wp P Q a w :=
  Code.wp_mono (fun e a' w' hq => by
    cases e with
    | normal => exact hq
    | _ => exact False.elim hq) (h1 (Q .normal) h2)
/-- A block of one value that is no set holds no entries. -/
theorem off_one {n : Nat} {W : World} {sv : Value} {es : List Ent} (h : EnsP n W sv es) {b t : Nat} {v : Value} (hb : W.heap[b]? = some (.cells #[v] t)) (hv : ∀ k, v ≠ .int .u64 k) : OffE [b] sv := fun ad n' c' e h0 => by
  rcases h with ⟨rfl, a', c'', e2⟩ | ⟨g, off, cap, e2, hg, hcap, hc⟩
  · rw [e2] at e; cases e; omega
  · rw [e2] at e
    cases e
    obtain ⟨x, hx⟩ : ∃ x, es[0]? = some x := ⟨_, List.getElem?_eq_getElem (by omega)⟩
    obtain ⟨h1, _⟩ := hc 0 x hx
    intro hk
    obtain rfl : g = b := by simpa using hk
    have hgt : W.heap[(⟨g, off + 0 * 2, none⟩ : Addr).block]? = some (.cells #[v] t) := hb
    simp only [World.cell?, hgt] at h1
    match off, h1 with
    | 0, h1 => simp at h1; exact hv _ h1
    | o + 1, h1 => simp at h1
/-- The numbers of a row of entries, from the m-th on. -/
def RowL (N : Nat) (la : Option Addr) (E : List Ent) (m : Nat) (W : World) : Prop := ∀ j x, m ≤ j → E[j]? = some x → ∃ g, la = some ⟨g, 0, none⟩ ∧ N ≤ g ∧ W.cell? ⟨g, j * 2 + 1, none⟩ = some (.int .i64 x.2) ∧ W.frozen? ⟨g, j * 2 + 1, none⟩ = false
theorem RowL.of {N : Nat} {la : Option Addr} {lc n : Nat} {E : List Ent} {W : World} (h : W.ownsRow N 41 2 (.slice la n lc) n (flatVE E)) : RowL N la E 0 W := fun j x _ hx => by
  have hu : (flatVE E)[j * 2 + 1]? = some (.int .i64 x.2) := by
    have e1 := flatVE_drop E j
    obtain ⟨q1, q2⟩ := List.getElem?_eq_some_iff.1 hx
    rw [List.drop_eq_getElem_cons q1, q2, flatVE_cons] at e1
    have e2 := congrArg (fun l => l[1]?) e1
    simp only [List.getElem?_cons_succ, List.getElem?_cons_zero, List.getElem?_drop] at e2
    exact e2.symm
  rcases h.2 with ⟨e0, h0⟩ | ⟨g, cap, cur, e0, hN, hgb, hn, _, hs, ht⟩
  · have := h.1
    subst h0
    simp at this
    rw [this] at hu; simp at hu
  · cases e0
    refine ⟨g, rfl, hN, ?_, frozen_of_row W g _ _ _ hgb⟩
    rw [← ht, List.getElem?_take] at hu
    split at hu
    · simp only [World.cell?, hgb]
      simpa using hu
    · cases hu
theorem cell_set_off (W : World) (g i j : Nat) (u : Value) (h : i ≠ j) : (W.setCell ⟨g, i, none⟩ u).cell? ⟨g, j, none⟩ = W.cell? ⟨g, j, none⟩ := by
  have := World.cell?_setCells_out g [u] i W ⟨g, j, none⟩ (fun _ _ => by simp only [List.length_cons, List.length_nil]; omega)
  simpa [World.setCells] using this
theorem RowL.set {N : Nat} {la : Option Addr} {E : List Ent} {m g : Nat} {W : World} (h : RowL N la E m W) (hla : la = some ⟨g, 0, none⟩) (u : Value) : RowL N la E (m + 1) (W.setCell ⟨g, m * 2 + 1, none⟩ u) := fun j x hj hx => by
  obtain ⟨g', e, hN, hc, hf⟩ := h j x (by omega) hx
  obtain rfl : g' = g := by rw [hla] at e; cases e; rfl
  exact ⟨g', hla, hN, by rw [cell_set_off W g' _ _ u (by omega)]; exact hc, by simpa using hf⟩
/-- The law's boxes, rows and stores. -/
structure CJ (a wb pb qb : Nat) (M : Int) (va : Option Addr) (n vc : Nat) (ps qs : Value) (E qe : List Ent) (W : World) : Prop where
  mo : Boxed W a 3 (.int .i64 M)
  re : Boxed W (a + 1) 4 (.bool false)
  wv : Boxed W wb 22 (.slice va n vc)
  en : EnsP wb W (.slice va n vc) E
  pp : PS W pb ps E
  qq : PS W qb qs qe
section
variable {a wb pb qb : Nat} {M : Int} {va : Option Addr} {n vc : Nat} {ps qs : Value} {E qe : List Ent} {W W' : World}
theorem CJ.but {own : List Nat} (h : CJ a wb pb qb M va n vc ps qs E qe W) (hb : But own W W') (hn : ∀ k ∈ [a, a + 1, wb, pb, qb], k ∉ own) (ho : ∀ N v xs, EnsP N W v xs → OffE own v) : CJ a wb pb qb M va n vc ps qs E qe W' :=
  ⟨(hb.block _ h.mo.lt (hn _ (by simp))).trans h.mo, (hb.block _ h.re.lt (hn _ (by simp))).trans h.re, (hb.block _ h.wv.lt (hn _ (by simp))).trans h.wv, h.en.but hb (ho _ _ _ h.en) (Nat.le_of_lt h.wv.lt), h.pp.but hb (hn _ (by simp)) (ho _ _ _ h.pp.row), h.qq.but hb (hn _ (by simp)) (ho _ _ _ h.qq.row)⟩
theorem CJ.below (h : CJ a wb pb qb M va n vc ps qs E qe W) (hb : Below W.heap.size W W') : CJ a wb pb qb M va n vc ps qs E qe W' :=
  h.but (own := []) (But.of_below hb) (fun _ _ => by simp) (fun _ _ _ _ _ _ _ _ _ hk => nomatch hk)
/-- The first number is set. -/
theorem CJ.setM (h : CJ a wb pb qb M va n vc ps qs E qe W) (M' : Int) (hw : a < wb) (hp : a < pb) (hq : a < qb) : CJ a wb pb qb M' va n vc ps qs E qe (W.setCell ⟨a, 0, none⟩ (.int .i64 M')) := by
  have hb : But [a] W (W.setCell ⟨a, 0, none⟩ (.int .i64 M')) := (But.refl _ W).set (.inl (by simp)) _
  have ho : ∀ N v xs, EnsP N W v xs → OffE [a] v := fun N v xs hE => off_one hE h.mo (fun k e => by cases e)
  exact ⟨h.mo.set _, (hb.block _ h.re.lt (by simp)).trans h.re, (hb.block _ h.wv.lt (by simp; omega)).trans h.wv, h.en.but hb (ho _ _ _ h.en) (Nat.le_of_lt h.wv.lt), h.pp.but hb (by simp; omega) (ho _ _ _ h.pp.row), h.qq.but hb (by simp; omega) (ho _ _ _ h.qq.row)⟩
end
/-- What stays while the entries are gone over: the counter alone turns. -/
structure AlQ (w4 : World) (cb : Nat) (E : List Ent) (most : Nat) (st : List Ent × Nat) (W : World) : Prop where
  but : But [cb] w4 W
  cnt : Boxed W cb 3 (.int .i64 (st.2 : Nat))
  rest : st.1 = E.drop st.2
  low : st.2 < most ∧ st.2 ≤ E.length
section
variable {w4 : World} {cb most : Nat} {E : List Ent} {st : List Ent × Nat} {W : World}
theorem AlQ.below {W' : World} (h : AlQ w4 cb E most st W) (hb : Below W.heap.size W W') : AlQ w4 cb E most st W' :=
  ⟨h.but.trans' (But.of_below hb), (hb.block _ h.cnt.lt).trans h.cnt, h.rest, h.low⟩
theorem AlQ.noRec (hcb : cb < w4.heap.size) (st : List Ent × Nat) : NoRec w4.heap.size (AlQ w4 cb E most st) := fun W o k hk h => by
  have hb := But.putObj W k o
  exact ⟨h.but.trans hb (fun j hj => by simp at hj; omega), (hb.block _ h.cnt.lt (by simp; omega)).trans h.cnt, h.rest, h.low⟩
theorem alQC {zs : List Ent} {B1 : Nat} {sv : Value} (h1 : Boxed w4 B1 22 sv) (hE : EnsP w4.heap.size w4 sv zs) (ho : OffE [cb] sv) (n1 : B1 ≠ cb) : EntC B1 w4.heap.size sv zs Prod.fst (AlQ w4 cb E most) (fun st x W => AlQ w4 cb E most st W ∧ ∃ r, st.1 = x :: r) (fun st st' => st'.1 = st.1.tail) where
  row := fun st W h => ⟨(h.but.block _ h1.lt (by simpa using n1)).trans h1, hE.but h.but ho (Nat.le_refl _)⟩
  alloc := fun st W o h => h.below ((Below.refl _ _).alloc (Nat.le_refl _) _)
  yield := fun st W x r h e => ⟨h, r, e⟩
  next := fun st st' h => h
/-- The counter, when all is gone over or it was broken off. -/
structure CntQ (w4 : World) (cb m : Nat) (W : World) : Prop where
  but : But [cb] w4 W
  cnt : Boxed W cb 3 (.int .i64 (m : Nat))
theorem CntQ.noRec {m : Nat} (hcb : cb < w4.heap.size) {W : World} {o : Obj} {k : Nat} (hk : w4.heap.size ≤ k) (h : CntQ w4 cb m W) : CntQ w4 cb m (W.putObj k o) := by
  have hb := But.putObj W k o
  exact ⟨h.but.trans hb (fun j hj => by simp at hj; omega), (hb.block _ h.cnt.lt (by simp; omega)).trans h.cnt⟩
end
end Go.Proofs.Ytpcbdjdmhemjdaa
