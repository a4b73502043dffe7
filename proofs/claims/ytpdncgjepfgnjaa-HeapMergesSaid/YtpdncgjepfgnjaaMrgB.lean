/- A heap and a row of what is left of lists, in blocks of their own: addNext. -/
import Derived.Test.YtpdncgjepfgnjaaMrgA
import Derived.Test.YtpdncgjepfgnjaaMrgN
import Derived.Test.YtpdncgjepfgnjaaHpD
namespace Go.Proofs.Ytpdncgjepfgnjaa
open Go.RowKit
set_option linter.unusedVariables false

/-- The heap at b, of an order of, and the row sv of what is left of the lists ls (they lie from lo on, below hi; all else lies from hi on). -/
structure MrgM (of lo hi b : Nat) (sv : Value) (own : List Nat) (l : List ((Int × Int) × Int)) (ls : List (List (Int × Int))) (W : World) : Prop where
  heap : ∃ v, HeapP own W b (.func (.func of) #[] #[]) v l 0
  row : ∃ vs, W.ownsRow hi 29 1 sv ls.length vs ∧ LL lo hi W vs ls
  gno : ∀ k, sv.ownBlock = some k → k ∉ own
  ge : ∀ k ∈ own, hi ≤ k
  hiW : hi ≤ W.heap.size
/-- The blocks of both. -/
def mown (sv : Value) (own : List Nat) : List Nat := sv.ownBlock.toList ++ own
theorem mown_mem {sv : Value} {own : List Nat} {k : Nat} : k ∈ mown sv own ↔ sv.ownBlock = some k ∨ k ∈ own := by
  unfold mown
  rw [List.mem_append]
  cases sv.ownBlock with
  | none => simp
  | some g => simp [eq_comm]
section
variable {of lo hi b : Nat} {sv : Value} {own : List Nat} {l : List ((Int × Int) × Int)} {ls : List (List (Int × Int))} {W W' : World}
theorem MrgM.lt (h : MrgM of lo hi b sv own l ls W) : ∀ k ∈ mown sv own, hi ≤ k ∧ k < W.heap.size := fun k hk => by
  obtain ⟨v, hH⟩ := h.heap
  obtain ⟨vs, hR, _⟩ := h.row
  rcases mown_mem.1 hk with e | e
  · exact hR.lt k e
  · exact ⟨h.ge k e, hH.lt k e⟩
/-- Others' blocks turn. -/
theorem MrgM.but {own2 : List Nat} (h : MrgM of lo hi b sv own l ls W) (hb : But own2 W W') (hn : ∀ k ∈ own2, (k < lo ∨ hi ≤ k) ∧ k ∉ mown sv own) : MrgM of lo hi b sv own l ls W' := by
  obtain ⟨v, hH⟩ := h.heap
  obtain ⟨vs, hR, hL⟩ := h.row
  exact ⟨⟨v, hH.but hb (fun k hk hk2 => (hn k hk2).2 (mown_mem.2 (.inr hk)))⟩, ⟨vs, row_but hR hb (fun g hg hk2 => (hn g hk2).2 (mown_mem.2 (.inl hg))), hL.but hb (fun k hk => (hn k hk).1) h.hiW⟩, h.gno, h.ge, Nat.le_trans h.hiW hb.size⟩
theorem MrgM.below (h : MrgM of lo hi b sv own l ls W) (hb : Below W.heap.size W W') : MrgM of lo hi b sv own l ls W' := h.but (own2 := []) (But.of_below hb) (fun k hk => by cases hk)
/-- The heap has been worked on. -/
theorem MrgM.heap' (h : MrgM of lo hi b sv own l ls W) {own' : List Nat} {l' : List ((Int × Int) × Int)} (hb : But own W W') (hh : ∃ v, HeapP own' W' b (.func (.func of) #[] #[]) v l' 0) (ho : ∀ k ∈ own', k ∈ own ∨ W.heap.size ≤ k) : MrgM of lo hi b sv own' l' ls W' := by
  obtain ⟨vs, hR, hL⟩ := h.row
  have hz := h.hiW
  refine ⟨hh, ⟨vs, row_but hR hb h.gno, hL.but hb (fun k hk => .inr (h.ge k hk)) hz⟩, fun k hk hk2 => ?_, fun k hk => ?_, Nat.le_trans hz hb.size⟩
  · rcases ho k hk2 with e | e
    · exact h.gno k hk e
    · have := (hR.lt k hk).2; omega
  · rcases ho k hk with e | e
    · exact h.ge k e
    · omega
end
/-- One list becomes shorter. -/
theorem MrgM.cut {of lo hi b g n cap : Nat} {own : List Nat} {l : List ((Int × Int) × Int)} {ls : List (List (Int × Int))} {W : World} (h : MrgM of lo hi b (.slice (some ⟨g, 0, none⟩) n cap) own l ls W) (i : Nat) (nv : Value) (r : List (Int × Int)) (hv : PrL lo hi W nv r) :
    MrgM of lo hi b (.slice (some ⟨g, 0, none⟩) n cap) own l (ls.set i r) (W.setCell ⟨g, i, none⟩ nv) := by
  obtain ⟨v, hH⟩ := h.heap
  obtain ⟨vs, hR, hL⟩ := h.row
  have hz := h.hiW
  have hg := (hR.lt g rfl).1
  have hb : But [g] W (W.setCell ⟨g, i, none⟩ nv) := (But.refl _ W).set (.inl (by simp)) _
  obtain ⟨n', e⟩ : ∃ n', n = n' := ⟨_, rfl⟩
  have hn : n = ls.length := by
    rcases hR.2 with ⟨e, _⟩ | ⟨_, _, _, e, _⟩
    · cases e
    · cases e; rfl
  subst hn
  refine ⟨⟨v, hH.but hb (fun k hk hk2 => h.gno g rfl (by simp at hk2; rw [← hk2]; exact hk))⟩, ⟨vs.set i nv, ?_, (hL.but hb (fun k hk => by simp at hk; right; omega) hz).set i nv r (hv.but hb (fun k hk => by simp at hk; right; omega) hz)⟩, h.gno, h.ge, Nat.le_trans hz hb.size⟩
  have := hR.stored i nv
  rw [List.length_set]
  exact this.1
theorem set_same {α : Type} {l : List α} {i : Nat} {x : α} (h : l[i]? = some x) : l.set i x = l := by
  obtain ⟨hlt, e⟩ := List.getElem?_eq_some_iff.1 h
  rw [← e, List.set_getElem_self]

set_option maxRecDepth 100000 in
set_option maxHeartbeats 4000000 in
theorem addNext_any {of : Nat} {key : Int × Int → Int} (ho : OrdP of key) {lo hi b : Nat} {sv : Value} {own : List Nat} {l : List ((Int × Int) × Int)} {ls : List (List (Int × Int))} (i : Nat) (xs : List (Int × Int)) (w : World)
    (h : MrgM of lo hi b sv own l ls w) (hx : ls[i]? = some xs) (hxl : xs.length ≤ 1048576) (hll : ls.length ≤ 1048576) (hm : l.length < 1073741824) :
    Calls Try.prog 57 #[.pointer (some ⟨b, 0, none⟩), sv, .int .i64 i] w fun e w' => e = .returned (.tuple #[]) ∧
      ∃ own', MrgM of lo hi b sv own' (addL key l xs (i : Int)) (ls.set i xs.tail) w' ∧ But (mown sv own) w w' ∧ ∀ k ∈ own', k ∈ own ∨ w.heap.size ≤ k := by
  have H := Lib.hid h
  obtain ⟨vs, hR, hL⟩ := h.row
  have hlt : i < ls.length := (List.getElem?_eq_some_iff.1 hx).1
  obtain ⟨u, hu, hPL⟩ := hL.at_ hx
  obtain ⟨ua, uc, rfl, huc⟩ := hPL.form
  obtain ⟨g, cap, rfl⟩ : ∃ g cap, sv = .slice (some ⟨g, 0, none⟩) ls.length cap := by
    obtain ⟨g, cap, e, _⟩ := hR.form (by omega)
    exact ⟨g, cap, e⟩
  have hcell : w.cell? ⟨g, i, none⟩ = some (.slice ua xs.length uc) := (hR.cellAt i (by omega)).trans hu
  have hno : w.frozen? ⟨g, i, none⟩ = false := hR.frozenAt i
  have HLX := Lib.hid hx
  have HR := Lib.hid hR
  have HL := Lib.hid hL
  have HU := Lib.hid hu
  obtain ⟨n, hn⟩ : ∃ n, ls.length = n := ⟨_, rfl⟩
  have HN := Lib.hid hn
  rw [hn] at hlt hll ⊢
  have b1 : (0 : Int) ≤ i := by omega
  have b2 : (i : Int) < n := by omega
  clear h hn hR hL hu
  cases xs with
  | nil =>
    clear hPL hno
    simp only [List.length_nil] at hcell
    go_enter Try.func57, Try.ntmps57
    go_wp2
    go_end0
    refine ⟨rfl, own, ?_, But.refl _ _, fun k hk => .inl hk⟩
    show MrgM of lo hi b _ own l (ls.set i []) w
    rw [set_same HLX.out, ← HN.out]
    exact H.out
  | cons x r =>
    obtain ⟨gx, off, xc, e, hgl, hgh, hrc, d0, d1, htl, ht0⟩ := hPL.head
    simp only [Value.slice.injEq] at e
    obtain ⟨rfl, hlen, rfl⟩ := e
    obtain ⟨k, u⟩ := x
    simp only [List.length_cons] at hcell hxl huc
    simp only at d0 d1
    obtain ⟨m, hmr⟩ : ∃ m, r.length = m := ⟨_, rfl⟩
    have HTL := Lib.hid htl
    have HT0 := Lib.hid ht0
    have HMR := Lib.hid hmr
    rw [hmr] at hcell hrc hxl huc
    clear htl ht0 hlen hPL hmr
    have HADD := Lib.hid (fun (W : World) v h => addP ho (own := own) (b := b) (v := v) (l := l) (puts := 0) ((k, u), (i : Int)) hm W h)
    unfold valNP at HADD
    obtain ⟨v0, hH0⟩ := H.out.heap
    have HH := Lib.hid hH0
    clear hH0
    have b3 : (0 : Int) < (m : Int) + 1 := by omega
    have b4 : (1 : Int) ≤ (m : Int) + 1 := by omega
    have b5 : ((m : Int) + 1) ≤ (xc : Int) + 1 := by omega
    go_enter Try.func57, Try.ntmps57
    go_upto_region 3 with (go_at_call 43; refine (HADD.out _ _ HH.out).mono ?_; rintro e w2 ⟨rfl, g2, v2, h2, hb2, hg2⟩; have HH2 := Lib.hid h2; have HB2 := Lib.hid hb2; have HG2 := Lib.hid hg2; clear h2 hb2 hg2)
    have hM2 := H.out.heap' HB2.out ⟨v2, HH2.out⟩ (fun k hk => by
      rcases List.mem_cons.1 hk with rfl | hk
      · exact HG2.out
      · exact .inl hk)
    obtain ⟨vs2, hR2, hL2⟩ := hM2.row
    rw [HN.out] at hR2
    have hno2 : w2.frozen? ⟨g, i, none⟩ = false := hR2.frozenAt i
    have hgu : w2.cell? ⟨g, i, none⟩ = some (.slice (some ⟨gx, off, none⟩) (m + 1) (xc + 1)) := (World.cell?_of_block (HB2.out.block g (HR.out.lt g rfl).2 (H.out.gno g rfl))).trans hcell
    have HM2 := Lib.hid hM2
    clear hM2 hR2 hL2 hcell hno d0 d1
    have fin : ∀ nv, PrL lo hi w2 nv r → MrgM of lo hi b (.slice (some ⟨g, 0, none⟩) n cap) (g2 :: own) (putL (ahK key) l ((k, u), (i : Int))) (ls.set i r) (w2.setCell ⟨g, i, none⟩ nv) ∧ But (mown (.slice (some ⟨g, 0, none⟩) n cap) own) w (w2.setCell ⟨g, i, none⟩ nv) := fun nv hnv => by
      have q := HM2.out.cut i nv r hnv
      rw [HN.out] at q
      exact ⟨q, (HB2.out.more (fun k hk => .inl (mown_mem.2 (.inr hk)))).set (.inl (mown_mem.2 (.inl rfl))) _⟩
    have hb' := fun (h : PrL lo hi w (.slice (some ⟨gx, off + 2, none⟩) r.length xc) r) => h.but HB2.out (fun k hk => .inr (H.out.ge k hk)) H.out.hiW
    have HFIN := Lib.hid fin
    have HBUT := Lib.hid hb'
    have hsub : ∀ k ∈ g2 :: own, k ∈ own ∨ w.heap.size ≤ k := fun k hk => by
      rcases List.mem_cons.1 hk with rfl | hk
      · exact HG2.out
      · exact .inl hk
    clear fin hb'
    go_wp2
    · have hx0 : xc = 0 := by assumption
      go_end0
      have hr0 := HT0.out hx0
      have hm0 : m = 0 := by rw [← HMR.out, hr0]; rfl
      obtain ⟨q1, q2⟩ := HFIN.out (.slice (some ⟨gx, off, none⟩) m 0) (.inl ⟨hr0, _, _, by rw [hm0], fun h => by cases h⟩)
      refine ⟨rfl, g2 :: own, ?_, ?_, hsub⟩
      · simpa [addL] using q1
      · simpa using q2
    · have hx0 : ¬ xc = 0 := by assumption
      go_end0
      have q := HBUT.out (HTL.out (by omega))
      rw [HMR.out] at q
      obtain ⟨q1, q2⟩ := HFIN.out _ q
      refine ⟨rfl, g2 :: own, ?_, ?_, hsub⟩
      · simpa [addL] using q1
      · simpa using q2
end Go.Proofs.Ytpdncgjepfgnjaa
