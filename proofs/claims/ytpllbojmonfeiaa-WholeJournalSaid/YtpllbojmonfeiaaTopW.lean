/- saleroomtop.has: what a journal has, as a struct of two. -/
import Derived.Test.YtpllbojmonfeiaaJrnR
import Derived.Test.YtpllbojmonfeiaaJrnAl
import Derived.Test.YtpllbojmonfeiaaJrnKp
import Derived.Test.YtpllbojmonfeiaaRegionInvV
import Derived.Laws.AppendOwnNone
import Derived.Test.YtpllbojmonfeiaaOpenF
import Derived.Test.YtpllbojmonfeiaaOpenP
import Derived.Deep.SlicePairs
namespace Go.Proofs.Ytpllbojmonfeiaa
open Go.RowKit Go.Shelf SumM
set_option linter.unusedVariables false
attribute [local go_sem] Oper.semAt_some

abbrev kpT : TypeId := 54
/-- A snapshot and records, as a struct of two. -/
abbrev kpV (sv rv : Value) : Value := .agg #[sv, rv]
abbrev kpC (sv rv : Value) : Array Value := #[sv, rv]
theorem zkp (w : World) : (zeroValue kpT).run Try.prog w = .ok (kpV (.slice none 0 0) (.slice none 0 0)) w := by kernel_rfl
/-- What stays while the records are put together. -/
def KsI (w : World) (XB B : Nat) (S : List Nat) (sv : Value) (pre : List NX) (W : World) : Prop :=
  ∃ rv, W.heap[XB]? = some (.cells (kpC sv rv) kpT (0, 0)) ∧ W.ownsRow B yssT 1 rv pre.length (pre.map fun x => x.2.2) ∧ (∀ y ∈ pre, RyB B y.2 W) ∧ W.heap[w.heap.size]? = some (.cells (kpC (.slice none 0 0) (.slice none 0 0)) kpT (0, 0)) ∧ W.ownsRow w.heap.size 5 1 sv S.length (S.map encY) ∧ Below w.heap.size w W
theorem KsI.own {w : World} {XB B B0 : Nat} {S : List Nat} {sv : Value} (h1 : XB < B0) (h2 : w.heap.size < B0) : OwnFrom B0 (KsI w XB B S sv) := fun pre A C row ⟨rv, g1, g2, g3, g4, g5, g6⟩ hg hr =>
  ⟨rv, keeps_block hg hr h1 g1, own_soft g2 hg (fun r e => (hr r e).2), fun y hy => (g3 y hy).soft hg (fun r e => (hr r e).2), keeps_block hg hr h2 g4, own_soft g5 hg (fun r e => (hr r e).2), ownFrom_below (β := Unit) (Nat.le_refl _) (show w.heap.size ≤ B0 by omega) () A C row g6 hg hr⟩
theorem KsI.set {w W : World} {XB B r : Nat} {S : List Nat} {sv : Value} {pre : List NX} (h : KsI w XB B S sv pre W) (h1 : XB < r) (h2 : w.heap.size < r) (h3 : r < B) (h4 : ∀ g, sv.ownBlock = some g → g < r) (v : Value) : KsI w XB B S sv pre (W.setCell ⟨r, 0, none⟩ v) := by
  obtain ⟨rv, g1, g2, g3, g4, g5, g6⟩ := h
  exact ⟨rv, (Below.heap_setCell W ⟨r, 0, none⟩ v XB (by show XB ≠ r; omega)).trans g1, own_low g2 h3 v, fun y hy => (g3 y hy).low h3 v, (Below.heap_setCell W ⟨r, 0, none⟩ v w.heap.size (by show w.heap.size ≠ r; omega)).trans g4,
    own_butG g5 (own := [r]) ((But.refl _ _).set (by simp) _) (fun g hg hm => by have := h4 g hg; simp at hm; omega), g6.setCell (p := ⟨r, 0, none⟩) (by show w.heap.size ≤ r; omega) v⟩
theorem kept_res54 (f : Func) (s : Nat) (hf : f.results = #[.cell s kpT]) (tmps : Array Value) (w : World) (b : Nat) (sv rv : Value) (hp : tmps.getD s undef = .pointer (some ⟨b, 0, none⟩))
    (hg : w.heap[b]? = some (.cells (kpC sv rv) kpT (0, 0))) : (results f tmps).run Try.prog w = .ok (kpV sv rv) w := by
  have hp' : tmps[s]?.getD undef = .pointer (some ⟨b, 0, none⟩) := by simpa using hp
  have k1 := run_loadVar_row (P := Try.prog) w b kpT kpT (kpC sv rv) (0, 0) _ hg Try.underlying54 rfl (by kernel_rfl)
  simp [results, hf, hp', asAddr, k1]

set_option maxRecDepth 100000 in
set_option maxHeartbeats 8000000 in
theorem kept_any {own : List Nat} {b jb : Nat} {D : DevS} {v0 v1 : Value} {r0 : Int} {a0 c0 f0 : Nat} (w : World) (hD : Dev own w b D v0 v1) (hJ : JrnAt w jb b r0 a0 c0 f0) :
    Calls Try.prog 28 #[.pointer (some ⟨jb, 0, none⟩)] w fun e w' => ∃ sv rv, e = .returned (kpV sv rv) ∧ HasAt w.heap.size w' sv rv (snapL (D.row r0)) (recsL (D.row r0)) ∧ Below w.heap.size w w' := by
  have hz := zkp
  have hrow := hD.ok.row r0
  have hcap := hD.ok.cap
  obtain ⟨i1, hi1, hy0, hy1, hy2⟩ := info_parts infoB
  have hb0 : Below w.heap.size w (w.alloc (.cells (kpC (.slice none 0 0) (.slice none 0 0)) kpT)) := (Below.refl _ _).alloc (Nat.le_refl _) _
  have hX0 : (w.alloc (.cells (kpC (.slice none 0 0) (.slice none 0 0)) kpT)).heap[w.heap.size]? = some (.cells (kpC (.slice none 0 0) (.slice none 0 0)) kpT (0, 0)) := World.alloc_heap_new w _
  have HSN := Lib.hid (snapshot_any (w.alloc (.cells (kpC (.slice none 0 0) (.slice none 0 0)) kpT)) (hD.below hb0) ((hb0.block jb hJ.lt).trans hJ))
  have HRC := Lib.hid (fun (W : World) (hb : Below w.heap.size w W) => records_any W (hD.below hb) ((hb.block jb hJ.lt).trans hJ))
  have HBL : Hid (Bytes (D.row r0)) := Lib.hid ⟨by omega, hrow.2⟩
  obtain ⟨L, hL⟩ : ∃ L, D.row r0 = L := ⟨_, rfl⟩
  rw [hL] at HSN HRC HBL ⊢
  obtain ⟨S, hS⟩ : ∃ S, snapL L = S := ⟨_, rfl⟩
  rw [hS] at HSN ⊢
  clear hS
  obtain ⟨wa, hwa⟩ : ∃ wa, w.alloc (.cells (kpC (.slice none 0 0) (.slice none 0 0)) kpT) = wa := ⟨_, rfl⟩
  rw [hwa] at hb0 hX0 HSN
  have HB0 := Lib.hid hb0
  have HX0 := Lib.hid hX0
  have HWA := Lib.hid hwa
  have hzl : w.heap.size < wa.heap.size := (Array.getElem?_eq_some_iff.1 hX0).1
  clear hD hJ hrow hcap hL hwa hb0 hX0
  refine (callsIn_wide (n := 5)).1 ?_
  refine callsIn_of_wp_marks Try.func28 rfl trivial ?_ rfl
  simp only [Try.ntmps28, List.size_toArray, List.length_cons, List.length_nil, Nat.reduceAdd, Nat.reduceSub, Array.replicate_succ, Array.replicate_zero, List.push_toArray, List.append_toArray, List.nil_append, List.cons_append]
  refine wpIn_wide.2 ?_
  go_wp2_with fail
  rw [HWA.out]
  refine HSN.out.mono ?_
  rintro e w1 ⟨sv, rfl, hs, hb1⟩
  obtain ⟨sa, sc, hsv⟩ := own_form hs
  subst hsv
  have hsg : ∀ g, (Value.slice sa S.length sc).ownBlock = some g → g < w1.heap.size := fun g hg => (World.ownsRow.lt hs g hg).2
  have hX1 : w1.heap[w.heap.size]? = some (.cells (kpC (.slice none 0 0) (.slice none 0 0)) kpT (0, 0)) := (hb1.block _ hzl).trans HX0.out
  have hbw1 : Below w.heap.size w w1 := HB0.out.trans (hb1.mono (by omega))
  have hbX : Below w1.heap.size w1 (w1.alloc (.cells (kpC (.slice sa S.length sc) (.slice none 0 0)) kpT)) := (Below.refl _ _).alloc (Nat.le_refl _) _
  have hXB : (w1.alloc (.cells (kpC (.slice sa S.length sc) (.slice none 0 0)) kpT)).heap[w1.heap.size]? = some (.cells (kpC (.slice sa S.length sc) (.slice none 0 0)) kpT (0, 0)) := World.alloc_heap_new w1 _
  have hz1 := hb1.size
  obtain ⟨w2, hw2⟩ : ∃ w2, w1.alloc (.cells (kpC (.slice sa S.length sc) (.slice none 0 0)) kpT) = w2 := ⟨_, rfl⟩
  rw [hw2] at hbX hXB
  have hxl : w1.heap.size < w2.heap.size := (Array.getElem?_eq_some_iff.1 hXB).1
  have hbw2 : Below w.heap.size w w2 := hbw1.trans (hbX.mono (by omega))
  have HR2 := Lib.hid (HRC.out w2 hbw2)
  have HW2 := Lib.hid hw2
  have HX2 : Hid (w2.heap[w.heap.size]? = some (.cells (kpC (.slice none 0 0) (.slice none 0 0)) kpT (0, 0))) := Lib.hid ((hbX.block _ (by omega)).trans hX1)
  have HS2 : Hid (w2.ownsRow w.heap.size 5 1 (.slice sa S.length sc) S.length (S.map encY)) := Lib.hid (own_base (own_below hs hbX (Nat.le_refl _)) (by omega))
  have HXB := Lib.hid hXB
  have HBW2 := Lib.hid hbw2
  have HSG := Lib.hid hsg
  clear hw2 hbX hXB hbw2 hsg hs hb1 hX1 hbw1 HSN HRC HX0
  go_wp2_with fail
  rw [HW2.out]
  refine HR2.out.mono ?_
  rintro e w3 ⟨R, X, K, Bs, g, va, vc, rfl, hRC, hb3⟩
  have hz3 := hb3.size
  have hB3 : Below w.heap.size w w3 := HBW2.out.trans (hb3.mono HBW2.out.size)
  have hI0 : KsI w w1.heap.size (w3.heap.size + 7) S (.slice sa S.length sc) [] w3 :=
    ⟨.slice none 0 0, (hb3.block _ hxl).trans HXB.out, World.ownsRow_nil _ _ _ _, (fun y hy => by cases hy), (hb3.block _ (by omega)).trans HX2.out, own_below HS2.out hb3 (Nat.le_refl _), hB3⟩
  have hRl := hRC.br.lt
  have hXl := hRC.bd.bx.lt
  have hKl := hRC.bd.bk.lt
  have hsl := hRC.bd.sc.hs
  have hgl := hRC.bd.sc.hg
  have hR1 := hRC.l1
  have hX1 := hRC.bd.l1
  have hK1 := hRC.bd.l2
  have hs1 := hRC.bd.sc.l1
  have hg1 := hRC.bd.sc.l2
  have HI0 := Lib.hid hI0
  have HRCC := Lib.hid hRC
  clear hI0 hRC hb3 hB3 HR2
  go_wp2_with fail
  rename_i K' hKQ
  refine (wpIn_wide (n := 5)).1 ?_
  refine wpIn_act ?_
  intro A hA
  refine rangeP rfl (by omega) (gf := 55) (lb := #[.pointer (some ⟨R, 0, none⟩)]) (by rw [hA]; rfl) trivial (enters_of Try.func55 (by kernel_rfl) rfl)
    (records1 R X K Bs g w.heap.size va vc L HBL.out HBL.out.1 w3 (by omega) (HRCC.out.le (Nat.zero_le _)))
    (fun x W l o r hl' h => RyB.putO hl' h) (fun r h => by simp at h; omega) (by omega) (Below.refl _ _) (fun _ => rfl)
    (KsI w w1.heap.size (w3.heap.size + 7) S (.slice sa S.length sc)) (fun _ _ _ => False) (KsI.own (by omega) (by omega)) (fun _ _ _ _ _ h _ _ => h)
    (fun pre W r v hr h => by
      have hr' : r < w3.heap.size ∧ w2.heap.size ≤ r := by simp at hr; omega
      exact h.set (by omega) (by omega) (by omega) (fun gg hg => by have := HSG.out gg hg; omega) v) (fun _ _ _ _ _ _ h => h)
    (fun pre W r v hr1 hr2 h => h.set (by omega) (by omega) (by omega) (fun gg hg => by have := HSG.out gg hg; omega) v) (fun _ _ _ _ _ _ _ h => h)
    HI0.out (fun x => { tmps := (((A.tmps.setIfInBounds 11 (.int .i64 (x.1 : Nat))).setIfInBounds 12 x.2.2).setIfInBounds 5 x.2.2), defers := [] }) ?assign ?body ?done ?stop
  case assign =>
    rintro l x W KK hK
    rw [hA] at hK ⊢
    gi_wp2
    exact hK
  case body =>
    rintro l pre ⟨i, ck, xv⟩ W ⟨rv, h1, h2, h3, h4, h5, h6⟩ ⟨zs, hzs, hp⟩ hz5 hxR
    have hxR' : RyB (w3.heap.size + 7) (ck, xv) W := hxR
    have hi : i = pre.length := idxC_last hzs
    have hnl : pre.length ≤ 1048576 := by
      have e1 := congrArg List.length hzs
      rw [idxC_len, List.length_append, List.length_singleton] at e1
      have e2 := hp.length_le
      rw [List.length_map] at e2
      have e3 := bods_count 4 L HBL.out.2
      have e4 := HBL.out.1
      omega
    obtain ⟨xa, xc, hxv⟩ := hxR'.1.form
    dsimp only at hxv
    subst hxv
    obtain ⟨ra, rc, hrv⟩ := own_form h2
    subst hrv
    have c6 : W.cell? ⟨w1.heap.size, 1, none⟩ = some (.slice ra pre.length rc) := cell_of_row W _ 1 _ _ _ h1
    have hnb : (Value.slice ra pre.length rc).ownBlock ≠ some w1.heap.size := own_nb h2 h1 (by decide)
    have hgl2 : Hid (∀ gg, (Value.slice ra pre.length rc).ownBlock = some gg → w3.heap.size + 7 ≤ gg ∧ gg < W.heap.size) := Lib.hid (fun gg hg => World.ownsRow.lt h2 gg hg)
    have H1 := Lib.hid h1
    have H2 := Lib.hid h2
    have H3 := Lib.hid h3
    have H4 := Lib.hid h4
    have H5 := Lib.hid h5
    have H6 := Lib.hid h6
    have HNB := Lib.hid hnb
    have HXR := Lib.hid hxR'
    obtain ⟨n, hn⟩ : ∃ n, pre.length = n := ⟨_, rfl⟩
    have HN := Lib.hid hn
    rw [hn] at c6 H1 H2 HNB hgl2 hnl hi
    subst hi
    obtain ⟨q, hq⟩ : ∃ q, ck.length = q := ⟨_, rfl⟩
    rw [hq] at HXR ⊢
    have hxl2 : w1.heap.size < W.heap.size := (Array.getElem?_eq_some_iff.1 h1).1
    clear h1 h2 h3 h4 h5 h6 hzs hp hxR hxR' hnb hn hq
    rw [hA]
    gi_wp2_with (gi_at_builtin; refine wpListIn_append_own _ rfl _ _ 34 rfl (w3.heap.size + 7) yssT i1 (.slice none 0 0) 1 24 Try.underlying34 hi1 hy0 hy1 hy2 rfl (by decide) (.slice ra i rc) i (pre.map fun x => x.2.2) rfl (H2.out.alloc _) ⟨W.heap.size, 0, none⟩ 1 1 [.slice xa q xc] rfl rfl (new_cell1 _ _ _) (by intro u hu; simp at hu; subst hu; rfl) (by unfold maxLen; omega) (by omega) (by simp; omega) ?_; intro v' w4 hown' hgrow _; obtain ⟨va', vc', hvf'⟩ := own_form hown'; subst hvf'; have hX4 : w4.heap[w1.heap.size]? = some (.cells (kpC (.slice sa S.length sc) (.slice ra i rc)) kpT (0, 0)) := (hgrow.block _ (by simp; omega) (fun e => HNB.out e.symm)).trans ((Below.heap_alloc _ _ _ (by omega)).trans H1.out); have hc4 := cell_of_row w4 _ 1 _ _ _ hX4; have hf4 := frozen_of_row w4 w1.heap.size 1 _ _ hX4; have HX4 := Lib.hid hX4; have HOW := Lib.hid hown'; have HGR := Lib.hid hgrow; clear hX4 hown' hgrow)
    have hbA : Below W.heap.size W (W.alloc (.cells #[.slice xa q xc] yssT)) := (Below.refl _ _).alloc (Nat.le_refl _) _
    have hbt : But (w1.heap.size :: (Value.slice ra i rc).ownBlock.toList) W (w4.setCell ⟨w1.heap.size, 1, none⟩ (.slice va' (i + 1) vc')) := ((But.of_below hbA : But (w1.heap.size :: (Value.slice ra i rc).ownBlock.toList) W _).grown HGR.out (fun gg e => by rw [e]; simp)).set (by simp) _
    have hlow : ∀ j ∈ (w1.heap.size :: (Value.slice ra i rc).ownBlock.toList), j = w1.heap.size ∨ w3.heap.size + 7 ≤ j := fun j hj => by
      rcases List.mem_cons.1 hj with h | h
      · exact .inl h
      · exact .inr (hgl2.out j (by simpa using h)).1
    have hoT : ∀ k ∈ (w1.heap.size :: (Value.slice ra i rc).ownBlock.toList), ∀ (cs : Array Value) (fr : Nat × Nat), W.heap[k]? ≠ some (Obj.cells cs 5 fr) := fun k hk cs fr e => by
      rcases List.mem_cons.1 hk with h | h
      · subst h; rw [H1.out] at e; cases e
      · obtain ⟨_, cur, hcur⟩ := own_at H2.out (by simpa using h)
        rw [hcur] at e; cases e
    refine ⟨⟨hbt.size, fun j o hB' hk hoc => (hbt.block j (Array.getElem?_eq_some_iff.1 hk).1 (fun hm => ?_)).trans hk⟩, ⟨hbt.below (n := w.heap.size) (fun j hj => by rcases hlow j hj with h | h <;> omega) (by omega), fun j h1 h2 => hbt.block j (by omega) (fun hm => by rcases hlow j hm with h | h <;> omega), fun j hk => hbt.block j (by simp at hk; omega) (fun hm => ?_)⟩, ?_⟩
    · rcases List.mem_cons.1 hm with h | h
      · omega
      · obtain ⟨_, cur, hcur⟩ := own_at H2.out (by simpa using h)
        rw [hcur] at hk; cases hk; cases hoc
    · rcases hlow j hm with h | h
      · simp at hk; omega
      · simp at hk; omega
    · refine ⟨.slice va' (i + 1) vc', heap_setCell_same w4 w1.heap.size 1 _ _ _ HX4.out, ?_, ?_, (hbt.block _ (by omega) (fun hm => by rcases hlow _ hm with h | h <;> omega)).trans H4.out, own_butG H5.out hbt (fun gg hg hm => by have := HSG.out gg hg; rcases hlow _ hm with h | h <;> omega), H6.out.trans (hbt.below (n := w.heap.size) (fun j hj => by rcases hlow j hj with h | h <;> omega) H6.out.size)⟩
      · rw [List.length_append, List.length_singleton, HN.out, List.map_append]
        exact own_butG HOW.out (own := [w1.heap.size]) ((But.refl _ _).set (by simp) _) (fun gg hg hm => by have := (World.ownsRow.lt HOW.out gg hg).1; simp at hm; omega)
      · intro y hy
        rcases List.mem_append.1 hy with h | h
        · exact (H3.out y h).but hbt hoT
        · simp at h; subst h
          exact HXR.out.but hbt hoT
  case done =>
    rintro DB zs W hDB ⟨ws, hws, hwf⟩ ⟨rv, h1, h2, h3, h4, h5, h6⟩ hK
    subst hws
    have e1 : (idxC ws).map (fun x => x.2.2) = ws.map Prod.snd := by
      have : (idxC ws).map (fun x => x.2.2) = ((idxC ws).map Prod.snd).map Prod.snd := by rw [List.map_map]; rfl
      rw [this, idxC_snd]
    rw [e1, idxC_len] at h2
    obtain ⟨ra, rc, hrv⟩ := own_form h2
    subst hrv
    have k0 := cell_of_row W _ 0 _ _ _ h1
    have k1 := cell_of_row W _ 1 _ _ _ h1
    have m0 := cell_of_row W _ 0 _ _ _ h4
    have m1 := cell_of_row W _ 1 _ _ _ h4
    have f0 := frozen_of_row W w.heap.size 0 _ _ h4
    have f1 := frozen_of_row W w.heap.size 1 _ _ h4
    have hDl := (Array.getElem?_eq_some_iff.1 hK).1
    have H2 := Lib.hid h2
    have H3 := Lib.hid h3
    have H4 := Lib.hid h4
    have H5 := Lib.hid h5
    have H6 := Lib.hid h6
    have HK := Lib.hid hK
    have HWF := Lib.hid hwf
    have hne : w.heap.size ≠ w1.heap.size := by omega
    clear h1 h2 h3 h4 h5 h6 hK hwf e1
    rw [hA]
    refine hKQ _ _ ?_
    go_wp2
    obtain ⟨U, hU⟩ : ∃ U, (W.setCell ⟨w.heap.size, 0, none⟩ (.slice sa S.length sc)).setCell ⟨w.heap.size, 1, none⟩ (.slice ra ws.length rc) = U := ⟨_, rfl⟩
    rw [hU]
    have hbt : But [w.heap.size] W U := by rw [← hU]; exact ((But.refl _ _).set (by simp) _).set (by simp) _
    have hUX : U.heap[w.heap.size]? = some (.cells (kpC (.slice sa S.length sc) (.slice ra ws.length rc)) kpT (0, 0)) := by rw [← hU]; exact heap_set2 H4.out
    have hKD := (hbt.block DB hDl (by simp; omega)).trans HK.out
    have hp : But [DB] U (U.putObj DB (.deferred none)) := But.putObj
    have hb2 : But [w.heap.size, DB] W (U.putObj DB (.deferred none)) := (hbt.more (own' := [w.heap.size, DB]) (fun g hg => .inl (by simp at hg; simp [hg]))).trans' (hp.more (own' := [w.heap.size, DB]) (fun g hg => .inl (by simp at hg; simp [hg])))
    refine ⟨by simp, .inl ⟨_, _, rfl, run_takeDeferred hKD, ?_⟩⟩
    refine ⟨_, kept_res54 _ 2 rfl _ _ w.heap.size _ _ rfl ((World.putObj_heap_other (by omega)).trans hUX), _, _, rfl, ⟨?_, ws, HWF.out, ?_, fun y hy => ?_⟩, H6.out.trans (hb2.below (n := w.heap.size) (by simp; omega) H6.out.size)⟩
    · exact own_butG H5.out hb2 (fun gg hg hm => by
        have h7 := HSG.out gg hg
        obtain ⟨h8, _, _⟩ := own_at H5.out hg
        simp at hm
        rcases hm with h | h
        · obtain ⟨_, cur, hcur⟩ := own_at H5.out hg
          rw [h, H4.out] at hcur; cases hcur
        · omega)
    · exact own_base (own_butG H2.out hb2 (fun gg hg hm => by
        obtain ⟨h8, cur, hcur⟩ := own_at H2.out hg
        simp at hm
        rcases hm with h | h
        · omega
        · subst h; rw [HK.out] at hcur; cases hcur)) (by omega)
    · obtain ⟨y', hy', e⟩ : ∃ y' ∈ idxC ws, y'.2 = y := by
        have : y ∈ (idxC ws).map Prod.snd := by rw [idxC_snd]; exact hy
        exact List.mem_map.1 this
      have h9 := H3.out y' hy'
      rw [e] at h9
      have h10 := h9.but hb2 (fun k hk cs fr e => by
        simp at hk
        rcases hk with h | h
        · subst h; rw [H4.out] at e; cases e
        · subst h; rw [HK.out] at e; cases e)
      exact ⟨h10.1, h10.2.le (by omega)⟩
  case stop =>
    rintro D c' pre W hD hp h hK
    exact h.elim
end Go.Proofs.Ytpllbojmonfeiaa

/- saleroomtop.sameKept: are two snapshots with records the same? -/
namespace Go.Proofs.Ytpllbojmonfeiaa
open Go.RowKit Go.Shelf SumM
set_option linter.unusedVariables false
attribute [local go_sem] Oper.semAt_some

set_option maxRecDepth 100000 in
set_option maxHeartbeats 8000000 in
theorem ksame_any
    (sa ta : Option Addr) (sn sc tn tc : Nat) (ra qa : Option Addr) (rn rc qn qc : Nat) (S T : List Nat) (R Q : List (List Nat)) (w : World)
    (hS : Sl encY w.heap.size w (.slice sa sn sc) S) (hT : Sl encY w.heap.size w (.slice ta tn tc) T) (hR : Parts w.heap.size w (.slice ra rn rc) R) (hQ : Parts w.heap.size w (.slice qa qn qc) Q)
    (lS : S.length ≤ 1048576) (lT : T.length ≤ 1048576) (lR : R.length ≤ 1048576) (lQ : Q.length ≤ 1048576) (bR : ∀ x ∈ R, x.length ≤ 1048576) (bQ : ∀ x ∈ Q, x.length ≤ 1048576) :
    Calls Try.prog 27 #[kpV (.slice sa sn sc) (.slice ra rn rc), kpV (.slice ta tn tc) (.slice qa qn qc)] w fun e w' => e = .returned (.bool (decide (S = T) && decide (R = Q))) ∧ Below w.heap.size w w' := by
  obtain ⟨w2, hw2⟩ : ∃ w2, (w.alloc (.cells (kpC (.slice sa sn sc) (.slice ra rn rc)) kpT)).alloc (.cells (kpC (.slice ta tn tc) (.slice qa qn qc)) kpT) = w2 := ⟨_, rfl⟩
  have hb2 : Below w.heap.size w w2 := by rw [← hw2]; exact ((Below.refl _ _).alloc (Nat.le_refl _) _).alloc (by simp) _
  have hA2 : w2.heap[w.heap.size]? = some (.cells (kpC (.slice sa sn sc) (.slice ra rn rc)) kpT (0, 0)) := by rw [← hw2]; exact (Below.heap_alloc _ _ _ (by simp)).trans (World.alloc_heap_new w _)
  have hB2 : w2.heap[w.heap.size + 1]? = some (.cells (kpC (.slice ta tn tc) (.slice qa qn qc)) kpT (0, 0)) := by
    rw [← hw2]
    have := World.alloc_heap_new (w.alloc (.cells (kpC (.slice sa sn sc) (.slice ra rn rc)) kpT)) (.cells (kpC (.slice ta tn tc) (.slice qa qn qc)) kpT)
    rw [World.size_alloc] at this; exact this
  have HSM := Lib.hid (fun q => sameQ_any sa ta sn sc tn tc S T (w2.drewN q) lS lT (sl_drew ((hS.below hb2).mono hb2.size) q) (sl_drew ((hT.below hb2).mono hb2.size) q))
  have HP := Lib.hid (hR.below hb2)
  have HPQ := Lib.hid (hQ.below hb2)
  have hrn : rn = R.length := hR.len
  have hqn : qn = Q.length := hQ.len
  have a5 := cell_of_row w2 _ 0 _ _ _ hA2
  have a6 := cell_of_row w2 _ 1 _ _ _ hA2
  have b5 := cell_of_row w2 _ 0 _ _ _ hB2
  have b6 := cell_of_row w2 _ 1 _ _ _ hB2
  have HW2 := Lib.hid hw2
  have HB2 := Lib.hid hb2
  subst hrn; subst hqn
  clear hS hT hR hQ hw2 hA2 hB2 hb2
  by_cases hST : S = T
  · rw [decide_eq_true hST, Bool.true_and]
    rw [show decide (S = T) = true from decide_eq_true hST] at HSM
    clear hST
    by_cases hl : R.length = Q.length
    · obtain ⟨N, hN⟩ : ∃ N, Q.length = N := ⟨_, rfl⟩
      rw [hN] at hl
      rw [hl] at HP a5 a6 HW2 lR ⊢
      rw [hN] at HPQ b5 b6 HW2 lQ ⊢
      have HRL := Lib.hid hl
      have HQL := Lib.hid hN
      clear hl hN
      go_enter Try.func27, Try.ntmps27
      go_wp2_with fail
      rw [HW2.out]
      refine (HSM.out 0).mono ?_
      rintro e w' ⟨rfl, q0, rfl⟩
      have hq0 : (w2.drewN 0).drewN q0 = w2.drewN q0 := by rw [drewN_add, Nat.zero_add]
      rw [hq0]
      clear hq0
      go_wp2
      go_loopw [24] (fun i wr => ∃ k : Nat, k ≤ N ∧ i = .int .i64 k ∧ (∀ j, j < k → R[j]? = Q[j]?) ∧ ∃ q, wr = w2.drewN q) (fun i _ => N - (intOf i).toNat)
      case atStart => exact ⟨0, by omega, rfl, fun j hj => by omega, q0, rfl⟩
      case round =>
        obtain ⟨k, hk, rfl, hall, q, hwr⟩ := hrel
        have HA := Lib.hid hall; clear hall
        have a6' : wr.cell? ⟨w.heap.size, 1, none⟩ = some (.slice ra N rc) := by rw [hwr]; exact a6
        have b6' : wr.cell? ⟨w.heap.size + 1, 1, none⟩ = some (.slice qa N qc) := by rw [hwr]; exact b6
        have HWR := Lib.hid hwr
        have hcw : ∀ p, wr.cell? p = w2.cell? p := fun p => by rw [hwr]; rfl
        clear hwr
        by_cases hlt : k < N
        · obtain ⟨x, hxk⟩ : ∃ x, R[k]? = some x := ⟨R[k]'(by rw [HRL.out]; exact hlt), List.getElem?_eq_getElem _⟩
          obtain ⟨y, hyk⟩ : ∃ y, Q[k]? = some y := ⟨Q[k]'(by rw [HQL.out]; exact hlt), List.getElem?_eq_getElem _⟩
          obtain ⟨b1, o1, e1, _, v1, hc1, hs1⟩ := HP.out.at_ hxk
          obtain ⟨b2, o2, e2, _, v2, hc2, hs2⟩ := HPQ.out.at_ hyk
          subst e1; subst e2
          obtain ⟨p1, d1, hv1⟩ := hs1.form
          obtain ⟨p2, d2, hv2⟩ := hs2.form
          subst hv1; subst hv2
          have hc1' : wr.cell? ⟨b1, o1 + k, none⟩ = some (.slice p1 x.length d1) := (hcw _).trans hc1
          have hc2' : wr.cell? ⟨b2, o2 + k, none⟩ = some (.slice p2 y.length d2) := (hcw _).trans hc2
          have hlx := bR x (List.mem_of_getElem? hxk)
          have hly := bQ y (List.mem_of_getElem? hyk)
          have HSK := Lib.hid (fun q => sameQ_any p1 p2 x.length d1 y.length d2 x y (w2.drewN q) hlx hly (sl_drew (hs1.mono HB2.out.size) q) (sl_drew (hs2.mono HB2.out.size) q))
          have HSK2 : Hid (∀ n, Calls Try.prog 41 #[.slice p1 x.length d1, .slice p2 y.length d2] (wr.drewN n) fun e w' => e = .returned (.bool (decide (x = y))) ∧ ∃ q', w' = (wr.drewN n).drewN q') := Lib.hid (fun n => by rw [HWR.out, drewN_add]; exact HSK.out _)
          have HXK := Lib.hid hxk; have HYK := Lib.hid hyk
          have g1 : (0 : Int) ≤ k := by omega
          have g2 : (k : Int) < N := by omega
          obtain ⟨bx, hbx⟩ : ∃ bx, decide (x = y) = bx := ⟨_, rfl⟩
          have HBX := Lib.hid hbx
          rw [hbx] at HSK2
          clear hxk hyk hs1 hs2 hlx hly HSK hbx hc1 hc2 hcw
          cases bx with
          | true =>
            go_wp2
            go_quiet ((go_at_call 41; exact Calls.quiet_of (HSK2.out _)))
            all_goals go_wp2
            all_goals
              go_roundw
              case rel => exact ⟨k + 1, by omega, by go_num, fun j hj => by
                rcases Nat.lt_succ_iff_lt_or_eq.1 hj with h | rfl
                · exact HA.out j h
                · rw [HXK.out, HYK.out, of_decide_eq_true HBX.out], _, by rw [HWR.out, drewN_add]⟩
              case measure => simp [intOf]; omega
          | false =>
            have HD : Hid (decide (R = Q) = false) := Lib.hid (decide_eq_false fun h => of_decide_eq_false HBX.out (by have := HXK.out; rw [h, HYK.out] at this; cases this; rfl))
            go_wp2
            go_quiet ((go_at_call 41; exact Calls.quiet_of (HSK2.out _)))
            all_goals go_wp2
            all_goals go_ret
            all_goals exact ⟨ret_boolY HD.out.symm, by rw [HWR.out]; exact Below.drewN_r (Below.drewN_r HB2.out _) _⟩
        · obtain rfl : k = N := by omega
          have HD : Hid (decide (R = Q) = true) := Lib.hid (decide_eq_true (List.ext_getElem? fun j => by
            by_cases hj : j < k
            · exact HA.out j hj
            · rw [List.getElem?_eq_none (by rw [HRL.out]; omega), List.getElem?_eq_none (by rw [HQL.out]; omega)]))
          clear hcw
          go_wp2
          go_ret
          exact ⟨ret_boolY HD.out.symm, by rw [HWR.out]; exact Below.drewN_r HB2.out _⟩
    · have hd : decide (R = Q) = false := decide_eq_false (fun h => hl (by rw [h]))
      have hli : ((R.length : Int) != (Q.length : Int)) = true := by rw [bne_iff_ne]; omega
      rw [hd]
      clear hd hl
      go_enter Try.func27, Try.ntmps27
      go_wp2_with fail
      rw [HW2.out]
      refine (HSM.out 0).mono ?_
      rintro e w' ⟨rfl, q, rfl⟩
      go_wp2
      go_ret
      exact ⟨rfl, Below.drewN_r HB2.out _⟩
  · rw [decide_eq_false hST, Bool.false_and]
    rw [show decide (S = T) = false from decide_eq_false hST] at HSM
    clear hST
    go_enter Try.func27, Try.ntmps27
    go_wp2_with fail
    rw [HW2.out]
    refine (HSM.out 0).mono ?_
    rintro e w' ⟨rfl, q, rfl⟩
    go_wp2
    go_ret
    exact ⟨rfl, Below.drewN_r HB2.out _⟩
end Go.Proofs.Ytpllbojmonfeiaa

/- saleroomtop.soundJournal: there is a journal at all. -/
namespace Go.Proofs.Ytpllbojmonfeiaa
open Go.RowKit Go.Shelf SumM
set_option linter.unusedVariables false
attribute [local go_sem] Oper.semAt_some

set_option maxRecDepth 100000 in
set_option maxHeartbeats 8000000 in
theorem sound_any (w : World) : Calls Try.prog 26 #[] w fun e w' => e = .returned (.bool true) ∧ Below w.heap.size w w' := by
  have hcv := fun (w : World) (C : Array Value) (n c : Nat) => Lib.run_convert_bytes_const (P := Try.prog) w 22 5 C n c Try.underlying22 Try.underlying5
  go_enter Try.func26, Try.ntmps26
  go_wp2_with fail
  refine (new_any 200 w).mono ?_
  rintro e w1 ⟨rfl, hD1, hb1⟩
  have HO := Lib.hid (new_st (w := w) hb1 hD1 (by simp) rfl rfl rfl (by decide))
  have hz1 := hb1.size
  clear hD1 hb1
  go_wp2_with fail
  refine HO.out.mono ?_
  rintro e w2 (⟨_, rfl, own2, D2, hst2, h0, h1, hcap2, hleft2⟩ | ⟨hc, _⟩)
  rotate_left
  · exact absurd hc (by decide)
  have hcap2' : D2.cap = 200 := hcap2
  have hleft2' : 9223372036854775807 ≤ D2.left + 16 := hleft2
  have hbl4 : Below w2.heap.size w2 (w2.alloc (.cells #[.int .u8 97, .int .u8 98] 5 (2, 3))) := (Below.refl _ _).alloc (Nat.le_refl _) _
  have HAP := Lib.hid (append_st (hst2.below hbl4) (some ⟨w2.heap.size, 0, none⟩) 2 [97, 98] ⟨by decide, by decide⟩ (by decide) (lit_at _ w2 rfl [97, 98] 2 rfl #[.int .u8 97, .int .u8 98] (2, 3) rfl) (by rw [hcap2']; decide) (by simp; omega))
  clear hst2 HO hcap2 hleft2 hbl4
  go_wp2_with fail
  refine HAP.out.mono ?_
  rintro e w4 ⟨rfl, own3, D3, hst4, hap, hbt4, hs4⟩
  have HRO := Lib.hid (reopen_st hst4)
  clear hst4 hap hbt4 hs4 HAP
  go_wp2_with fail
  refine HRO.out.mono ?_
  rintro e w5 ⟨rfl, own5, hst5, _, _, _, _⟩
  have HCT := Lib.hid (count_any w5 hst5.jrn)
  have HB := Lib.hid hst5.bel
  clear hst5 HRO
  go_wp2_with fail
  refine HCT.out.mono ?_
  rintro e w' ⟨rfl, rfl⟩
  go_wp2
  go_ret
  exact ⟨rfl, HB.out⟩
end Go.Proofs.Ytpllbojmonfeiaa

/- What stays while law WholeJournal puts one record more behind those that were: two appends and a store in one statement (out of JrnNG, for a struct of two cells). -/
namespace Go.Proofs.Ytpllbojmonfeiaa
open Go.RowKit SumM
set_option linter.unusedVariables false

theorem one_cellK {W : World} {b : Nat} {x : Value} {t : TypeId} (h : W.heap[b]? = some (.cells #[x] t (0, 0))) : ∀ j u, [x][j]? = some u → W.cell? ((⟨b, 0, none⟩ : Addr).add j) = some u := by
  intro j u hj
  match j, hj with
  | 0, hj =>
    simp at hj
    subst hj
    have h1 := cell_of_row W b 0 _ _ _ h
    simpa [Addr.add] using h1
structure NK (wr : World) (s0 xb : Nat) (sv0 : Value) (n1 : Nat) (ysv : List Value) (dv : Value) (L : Nat → Bool) (v : Nat → Value) (W : World) : Prop where
  sz : s0 ≤ W.heap.size
  bel : Below 0 wr W
  kp : ∀ k, k < s0 → k ≠ xb → W.heap[k]? = wr.heap[k]?
  nx : L 9 = false → W.heap[xb]? = wr.heap[xb]?
  o0 : L 0 = true → L 3 = false → W.ownsRow s0 yssT 1 (v 0) 0 []
  o3 : L 3 = true → L 7 = false → W.ownsRow s0 yssT 1 (v 3) n1 ysv
  o6 : L 6 = true → L 7 = false → ∃ g, v 6 = .slice (some ⟨g, 0, none⟩) 1 1 ∧ s0 ≤ g ∧ W.heap[g]? = some (.cells #[dv] yssT (0, 0)) ∧ (L 0 = true → L 3 = false → (v 0).ownBlock ≠ some g) ∧ (L 3 = true → (v 3).ownBlock ≠ some g)
  o7 : L 7 = true → W.ownsRow s0 yssT 1 (v 7) (n1 + 1) (ysv ++ [dv])
  z3 : L 3 = true → L 0 = true
  z7 : L 7 = true → L 3 = true ∧ L 6 = true
  z9 : L 9 = true → L 7 = true
  x9 : L 9 = true → W.heap[xb]? = some (.cells (kpC sv0 (v 7)) kpT (0, 0))
section
variable {wr : World} {s0 xb : Nat} {sv0 : Value} {n1 : Nat} {ysv : List Value} {dv : Value} {L : Nat → Bool} {v : Nat → Value} {W W' : World}
theorem NK.upd (h : NK wr s0 xb sv0 n1 ysv dv L v W) {i : Nat} (u : Value) (h0 : 0 ≠ i) (h3 : 3 ≠ i) (h6 : 6 ≠ i) (h7 : 7 ≠ i) (h9 : 9 ≠ i) : NK wr s0 xb sv0 n1 ysv dv (updL L i) (updV v i u) W := by
  have e0 := updL_ne L h0; have e3 := updL_ne L h3; have e6 := updL_ne L h6; have e7 := updL_ne L h7; have e9 := updL_ne L h9
  have v0 := updV_ne v u h0; have v3 := updV_ne v u h3; have v6 := updV_ne v u h6; have v7 := updV_ne v u h7
  exact ⟨h.sz, h.bel, h.kp, by rw [e9]; exact h.nx, by rw [e0, e3, v0]; exact h.o0, by rw [e3, e7, v3]; exact h.o3, by rw [e6, e7, v6, e0, e3, v0, v3]; exact h.o6, by rw [e7, v7]; exact h.o7, by rw [e3, e0]; exact h.z3, by rw [e7, e3, e6]; exact h.z7, by rw [e9, e7]; exact h.z9, by rw [e9, v7]; exact h.x9⟩
theorem NK.drew (h : NK wr s0 xb sv0 n1 ysv dv L v W) : NK wr s0 xb sv0 n1 ysv dv L v W.drew :=
  ⟨h.sz, h.bel.drew, h.kp, h.nx, h.o0, h.o3, h.o6, h.o7, h.z3, h.z7, h.z9, h.x9⟩
theorem NK.no9 (h : NK wr s0 xb sv0 n1 ysv dv L v W) (h7 : L 7 = false) : L 9 = false := by
  cases e : L 9 with
  | false => rfl
  | true => rw [h.z9 e] at h7; cases h7
theorem NK.no7 (h : NK wr s0 xb sv0 n1 ysv dv L v W) (h3 : L 3 = false) : L 7 = false := by
  cases e : L 7 with
  | false => rfl
  | true => rw [(h.z7 e).1] at h3; cases h3
theorem NK.no76 (h : NK wr s0 xb sv0 n1 ysv dv L v W) (h6 : L 6 = false) : L 7 = false := by
  cases e : L 7 with
  | false => rfl
  | true => rw [(h.z7 e).2] at h6; cases h6
theorem NK.no3 (h : NK wr s0 xb sv0 n1 ysv dv L v W) (h0 : L 0 = false) : L 3 = false := by
  cases e : L 3 with
  | false => rfl
  | true => rw [h.z3 e] at h0; cases h0
theorem NK.lit0 (h : NK wr s0 xb sv0 n1 ysv dv L v W) (hx : xb < s0) (h0 : L 0 = false) : NK wr s0 xb sv0 n1 ysv dv (updL L 0) (updV v 0 (.slice (some ⟨W.heap.size, 0, none⟩) 0 0)) (W.alloc (.cells #[] yssT)) := by
  have f3 := h.no3 h0
  have f7 := h.no7 f3
  have f9 := h.no9 f7
  have e3 := updL_ne L (show 3 ≠ 0 by decide); have e6 := updL_ne L (show 6 ≠ 0 by decide); have e7 := updL_ne L (show 7 ≠ 0 by decide); have e9 := updL_ne L (show 9 ≠ 0 by decide)
  have v3 := updV_ne v (.slice (some ⟨W.heap.size, 0, none⟩) 0 0) (show 3 ≠ 0 by decide); have v6 := updV_ne v (.slice (some ⟨W.heap.size, 0, none⟩) 0 0) (show 6 ≠ 0 by decide)
  have ha : ∀ k, k < W.heap.size → (W.alloc (.cells #[] yssT)).heap[k]? = W.heap[k]? := fun k hk => Below.heap_alloc W _ k hk
  have hsz := h.sz
  refine ⟨by simp; omega, h.bel.alloc (Nat.zero_le _) _, fun k h1 h2 => (ha k (by omega)).trans (h.kp k h1 h2), fun _ => (ha xb (by omega)).trans (h.nx f9), fun _ _ => ?_, ?_, ?_, ?_, ?_, ?_, ?_, ?_⟩
  · rw [updV_self]; exact own_base (ownsRow_empty W yssT) h.sz
  · rw [e3]; intro e; rw [f3] at e; cases e
  · rw [e6, e7, v6, e3, v3, updV_self]
    intro e1 e2
    obtain ⟨g, g1, g2, g3, _, g5⟩ := h.o6 e1 e2
    have hlt := (Array.getElem?_eq_some_iff.1 g3).1
    exact ⟨g, g1, g2, (ha g hlt).trans g3, fun _ _ hg => (by have e : W.heap.size = g := Option.some.inj hg; omega), g5⟩
  · rw [e7]; intro e; rw [f7] at e; cases e
  · rw [e3]; intro e; rw [f3] at e; cases e
  · rw [e7]; intro e; rw [f7] at e; cases e
  · rw [e9]; intro e; rw [f9] at e; cases e
  · rw [e9]; intro e; rw [f9] at e; cases e
theorem NK.lit6 (h : NK wr s0 xb sv0 n1 ysv dv L v W) (hx : xb < s0) (h6 : L 6 = false) : NK wr s0 xb sv0 n1 ysv dv (updL L 6) (updV v 6 (.slice (some ⟨W.heap.size, 0, none⟩) 1 1)) (W.alloc (.cells #[dv] yssT)) := by
  have f7 := h.no76 h6
  have f9 := h.no9 f7
  have e0 := updL_ne L (show 0 ≠ 6 by decide); have e3 := updL_ne L (show 3 ≠ 6 by decide); have e7 := updL_ne L (show 7 ≠ 6 by decide); have e9 := updL_ne L (show 9 ≠ 6 by decide)
  have v0 := updV_ne v (.slice (some ⟨W.heap.size, 0, none⟩) 1 1) (show 0 ≠ 6 by decide); have v3 := updV_ne v (.slice (some ⟨W.heap.size, 0, none⟩) 1 1) (show 3 ≠ 6 by decide)
  have ha : ∀ k, k < W.heap.size → (W.alloc (.cells #[dv] yssT)).heap[k]? = W.heap[k]? := fun k hk => Below.heap_alloc W _ k hk
  have hg := World.grownBy_alloc W (.cells #[dv] yssT) none
  have hn : ∀ {v : Value}, ∀ g, v.ownBlock = some g → (none : Option Nat) ≠ some g := fun _ _ e => by cases e
  have hsz := h.sz
  refine ⟨by simp; omega, h.bel.alloc (Nat.zero_le _) _, fun k h1 h2 => (ha k (by omega)).trans (h.kp k h1 h2), fun _ => (ha xb (by omega)).trans (h.nx f9), ?_, ?_, ?_, ?_, ?_, ?_, ?_, ?_⟩
  · rw [e0, e3, v0]; exact fun e1 e2 => own_grown (h.o0 e1 e2) hg hn
  · rw [e3, e7, v3]; exact fun e1 e2 => own_grown (h.o3 e1 e2) hg hn
  · rw [e7, updV_self, e0, e3, v0, v3]
    intro _ e2
    refine ⟨W.heap.size, rfl, h.sz, World.alloc_heap_new W _, fun e3' e4 hg2 => ?_, fun e3' hg2 => ?_⟩
    · have := (World.ownsRow.lt (h.o0 e3' e4) _ hg2).2; omega
    · have := (World.ownsRow.lt (h.o3 e3' e2) _ hg2).2; omega
  · rw [e7]; intro e; rw [f7] at e; cases e
  · rw [e3, e0]; exact h.z3
  · rw [e7]; intro e; rw [f7] at e; cases e
  · rw [e9]; intro e; rw [f9] at e; cases e
  · rw [e9]; intro e; rw [f9] at e; cases e
theorem NK.app3 (h : NK wr s0 xb sv0 n1 ysv dv L v W) (hx : xb < s0) (h0 : L 0 = true) (h3 : L 3 = false) (v' : Value) (hr : W'.ownsRow s0 yssT 1 v' n1 ysv) (hg : W.grownBy W' (v 0).ownBlock) (hb : Below 0 wr W') (h5 : v'.ownBlock = (v 0).ownBlock ∨ v'.ownBlock = some W.heap.size) : NK wr s0 xb sv0 n1 ysv dv (updL L 3) (updV v 3 v') W' := by
  have f7 := h.no7 h3
  have f9 := h.no9 f7
  have hO := h.o0 h0 h3
  have e0 := updL_ne L (show 0 ≠ 3 by decide); have e6 := updL_ne L (show 6 ≠ 3 by decide); have e7 := updL_ne L (show 7 ≠ 3 by decide); have e9 := updL_ne L (show 9 ≠ 3 by decide)
  have v0 := updV_ne v v' (show 0 ≠ 3 by decide); have v6 := updV_ne v v' (show 6 ≠ 3 by decide)
  have hsz := h.sz
  have hlo : ∀ g, (v 0).ownBlock = some g → s0 ≤ g ∧ g < W.heap.size := fun g hg => World.ownsRow.lt hO g hg
  refine ⟨Nat.le_trans h.sz hg.size, hb, fun k h1 h2 => (hg.block k (by omega) (fun e => by have := (hlo k e.symm).1; omega)).trans (h.kp k h1 h2), fun _ => (hg.block xb (by omega) (fun e => by have := (hlo xb e.symm).1; omega)).trans (h.nx f9), ?_, ?_, ?_, ?_, ?_, ?_, ?_, ?_⟩
  · intro _ e; rw [updL_self] at e; cases e
  · intro _ _; rw [updV_self]; exact hr
  · rw [e6, e7, v6, e0, v0, updV_self]
    intro e1 e2
    obtain ⟨g, g1, g2, g3, g4, _⟩ := h.o6 e1 e2
    have hlt := (Array.getElem?_eq_some_iff.1 g3).1
    have hne := g4 h0 h3
    refine ⟨g, g1, g2, (hg.block g hlt (fun e => hne e.symm)).trans g3, (fun _ e => by rw [updL_self] at e; cases e), fun _ hg2 => ?_⟩
    rcases h5 with h5 | h5
    · exact hne (by rw [← h5]; exact hg2)
    · rw [h5] at hg2
      have e : W.heap.size = g := Option.some.inj hg2
      omega
  · rw [e7]; intro e; rw [f7] at e; cases e
  · rw [e0]; exact fun _ => h0
  · rw [e7]; intro e; rw [f7] at e; cases e
  · rw [e9]; intro e; rw [f9] at e; cases e
  · rw [e9]; intro e; rw [f9] at e; cases e
theorem NK.app7 (h : NK wr s0 xb sv0 n1 ysv dv L v W) (hx : xb < s0) (h3 : L 3 = true) (h6 : L 6 = true) (h7 : L 7 = false) (v' : Value) (hr : W'.ownsRow s0 yssT 1 v' (n1 + 1) (ysv ++ [dv])) (hg : W.grownBy W' (v 3).ownBlock) (hb : Below 0 wr W') : NK wr s0 xb sv0 n1 ysv dv (updL L 7) (updV v 7 v') W' := by
  have f9 := h.no9 h7
  have hO := h.o3 h3 h7
  have e0 := updL_ne L (show 0 ≠ 7 by decide); have e3 := updL_ne L (show 3 ≠ 7 by decide); have e6 := updL_ne L (show 6 ≠ 7 by decide); have e9 := updL_ne L (show 9 ≠ 7 by decide)
  have hsz := h.sz
  have hlo : ∀ g, (v 3).ownBlock = some g → s0 ≤ g ∧ g < W.heap.size := fun g hg => World.ownsRow.lt hO g hg
  refine ⟨Nat.le_trans h.sz hg.size, hb, fun k h1 h2 => (hg.block k (by omega) (fun e => by have := (hlo k e.symm).1; omega)).trans (h.kp k h1 h2), fun _ => (hg.block xb (by omega) (fun e => by have := (hlo xb e.symm).1; omega)).trans (h.nx f9), ?_, ?_, ?_, ?_, ?_, ?_, ?_, ?_⟩
  · rw [e3]; intro _ e; rw [h3] at e; cases e
  · intro _ e; rw [updL_self] at e; cases e
  · intro _ e; rw [updL_self] at e; cases e
  · intro _; rw [updV_self]; exact hr
  · rw [e3, e0]; exact h.z3
  · rw [e3, e6]; exact fun _ => ⟨h3, h6⟩
  · rw [e9]; intro e; rw [f9] at e; cases e
  · rw [e9]; intro e; rw [f9] at e; cases e
theorem NK.st9 (h : NK wr s0 xb sv0 n1 ysv dv L v W) {sv2 rv2 : Value} (hw : wr.heap[xb]? = some (.cells (kpC sv0 rv2) kpT (0, 0))) (hx : xb < s0) (h7 : L 7 = true) (h9 : L 9 = false) (u : Value) : NK wr s0 xb sv0 n1 ysv dv (updL L 9) (updV v 9 u) (W.setCell ⟨xb, 1, none⟩ (v 7)) := by
  have e0 := updL_ne L (show 0 ≠ 9 by decide); have e3 := updL_ne L (show 3 ≠ 9 by decide); have e6 := updL_ne L (show 6 ≠ 9 by decide); have e7 := updL_ne L (show 7 ≠ 9 by decide)
  have v7 := updV_ne v u (show 7 ≠ 9 by decide)
  have hsz := h.sz
  have hh : ∀ k, k ≠ xb → (W.setCell ⟨xb, 1, none⟩ (v 7)).heap[k]? = W.heap[k]? := fun k hk => Below.heap_setCell W ⟨xb, 1, none⟩ (v 7) k hk
  have hO := h.o7 h7
  refine ⟨by simpa using h.sz, h.bel.setCell (p := ⟨xb, 1, none⟩) (Nat.zero_le _) _, fun k h1 h2 => (hh k h2).trans (h.kp k h1 h2), ?_, ?_, ?_, ?_, ?_, ?_, ?_, ?_, ?_⟩
  · intro e; rw [updL_self] at e; cases e
  · rw [e3]; intro _ e; rw [(h.z7 h7).1] at e; cases e
  · rw [e7]; intro _ e; rw [h7] at e; cases e
  · rw [e7]; intro _ e; rw [h7] at e; cases e
  · rw [v7]
    intro _
    obtain ⟨g1, g2⟩ := hO
    refine ⟨g1, ?_⟩
    rcases g2 with g2 | ⟨g, cap, cur, hv, hg0, hb, r⟩
    · exact .inl g2
    · exact .inr ⟨g, cap, cur, hv, hg0, (hh g (by omega)).trans hb, r⟩
  · rw [e3, e0]; exact h.z3
  · rw [e7, e3, e6]; exact h.z7
  · rw [e7]; exact fun _ => h7
  · rw [v7]
    intro _
    have h1 := heap_setCell_same W xb 1 _ kpT (v 7) ((h.nx h9).trans hw)
    refine h1.trans ?_
    simp [kpC]
end
end Go.Proofs.Ytpllbojmonfeiaa

/- What comes in, opened: rows of steps with losses of power. -/
namespace Go.Proofs.Ytpllbojmonfeiaa
open Go.ChangeShapes Go.WideShapes Go.ChangeAt Go.RowKit
set_option linter.unusedVariables false

/-- A step, and where the power goes in it. -/
structure KpS where
  kind : Int
  cut : Int
  data : List Nat
structure KpS.Ok (o : KpS) : Prop where
  kind : -9223372036854775808 ≤ o.kind ∧ o.kind ≤ 9223372036854775807
  cut : -9223372036854775808 ≤ o.cut ∧ o.cut ≤ 9223372036854775807
  data : ∀ y ∈ o.data, y < 256
/-- A slice of steps. -/
def Kps (n : Nat) (W : World) (sv : Value) (xs : List KpS) : Prop :=
  (xs = [] ∧ ∃ a c, sv = .slice a 0 c) ∨ ∃ b off cap, sv = .slice (some ⟨b, off, none⟩) xs.length cap ∧ b < n ∧ ∀ j x, xs[j]? = some x → ∃ a c, W.cell? ⟨b, off + j * 3, none⟩ = some (.int .i64 x.kind) ∧ W.cell? ⟨b, off + j * 3 + 1, none⟩ = some (.int .i64 x.cut) ∧ W.cell? ⟨b, off + j * 3 + 2, none⟩ = some (.slice a x.data.length c) ∧ Sl encY n W (.slice a x.data.length c) x.data
theorem Kps.below {n : Nat} {A B : World} (h : Below n A B) {sv : Value} {xs : List KpS} : Kps n A sv xs → Kps n B sv xs
  | .inl e => .inl e
  | .inr ⟨b, off, cap, e, hb, hc⟩ => .inr ⟨b, off, cap, e, hb, fun j x hj => by
      obtain ⟨a, c, h1, h2, h4, h5⟩ := hc j x hj
      exact ⟨a, c, (h.cell (p := ⟨b, off + j * 3, none⟩) hb).trans h1, (h.cell (p := ⟨b, off + j * 3 + 1, none⟩) hb).trans h2, (h.cell (p := ⟨b, off + j * 3 + 2, none⟩) hb).trans h4, h5.below h⟩⟩
theorem Kps.mono {n m : Nat} {W : World} {sv : Value} {xs : List KpS} (hnm : n ≤ m) : Kps n W sv xs → Kps m W sv xs
  | .inl e => .inl e
  | .inr ⟨b, off, cap, e, hb, hc⟩ => .inr ⟨b, off, cap, e, Nat.lt_of_lt_of_le hb hnm, fun j x hj => by
      obtain ⟨a, c, h1, h2, h4, h5⟩ := hc j x hj
      exact ⟨a, c, h1, h2, h4, h5.mono hnm⟩⟩
theorem Kps.len {n : Nat} {W : World} {a : Option Addr} {m c : Nat} {xs : List KpS} (h : Kps n W (.slice a m c) xs) : m = xs.length := by
  rcases h with ⟨rfl, _, _, e⟩ | ⟨b, off, cap, e, _⟩
  · cases e; rfl
  · cases e; rfl
theorem Kps.at_ {n : Nat} {W : World} {a : Option Addr} {m c k : Nat} {x : KpS} {xs : List KpS} (h : Kps n W (.slice a m c) xs) (hx : xs[k]? = some x) :
    ∃ b off va vc, a = some ⟨b, off, none⟩ ∧ b < n ∧ W.cell? ⟨b, off + k * 3, none⟩ = some (.int .i64 x.kind) ∧ W.cell? ⟨b, off + k * 3 + 1, none⟩ = some (.int .i64 x.cut) ∧ W.cell? ⟨b, off + k * 3 + 2, none⟩ = some (.slice va x.data.length vc) ∧ Sl encY n W (.slice va x.data.length vc) x.data := by
  rcases h with ⟨rfl, _⟩ | ⟨b, off, cap, e, hb, hc⟩
  · simp at hx
  · cases e
    obtain ⟨va, vc, h1, h2, h4, h5⟩ := hc k x hx
    exact ⟨b, off, va, vc, rfl, hb, h1, h2, h4, h5⟩

theorem cellsKp : Try.prog.cellsOf 52 = 3 := by kernel_rfl
theorem open_int1k {H : Type} {enc : TypeId × Value → H} {W : World} {base n : Nat} {held : Bool} {v : Value} {x : DataW H × List MemPlace}
    (hf : DataW.trod enc Try.prog W base (fun _ => true) held n 3 [v] = some x) : ∃ k : Int, v = .int .i64 k ∧ (-9223372036854775808 ≤ k ∧ k ≤ 9223372036854775807) := by
  obtain ⟨k, h, _, hw⟩ := DataW.trod_int Try.underlying3 hf
  simp at h
  exact ⟨k, h, bounds_i64 hw⟩

theorem list3k {α : Type} : ∀ l : List α, l.length = 3 → ∃ a b c, l = [a, b, c]
  | [a, b, c], _ => ⟨a, b, c, rfl⟩
theorem open_keep1 {H : Type} {enc : TypeId × Value → H} {W : World} {base n : Nat} {held : Bool} {cs : List Value} {x : DataW H × List MemPlace}
    (hf : DataW.trod enc Try.prog W base (fun _ => true) held n 52 cs = some x) : ∃ (o : KpS) (a : Option Addr) (c : Nat), cs = [.int .i64 o.kind, .int .i64 o.cut, .slice a o.data.length c] ∧ Sl encY W.heap.size W (.slice a o.data.length c) o.data ∧ o.Ok := by
  obtain ⟨xs, k, _, _, hlen, hxl, hg⟩ := DataW.trod_struct Try.underlying52 hf
  rw [cellsKp] at hlen
  obtain ⟨v0, v1, v2, rfl⟩ := list3k cs hlen
  obtain ⟨y0, y1, y2, rfl⟩ := list3k xs (by simpa using hxl)
  have g0 := hg 0 _ rfl
  have g1 := hg 1 _ rfl
  have g2 := hg 2 _ rfl
  simp [cellsI, cellsB] at g0 g1 g2
  obtain ⟨k0, rfl, w0⟩ := open_int1k g0
  obtain ⟨k1, rfl, w1⟩ := open_int1k g1
  obtain ⟨a, n, c, l, rfl, hS, hb⟩ := open_bytes1 g2
  obtain rfl := hS.len
  exact ⟨⟨k0, k1, l⟩, a, c, rfl, hS, ⟨w0, w1, hb⟩⟩

theorem open_keeps {H : Type} {enc : TypeId × Value → H} {W : World} {base : Nat} {held : Bool} {v : Value} {d : DataW H} {p : List MemPlace}
    (hv : ∃ a n c, v = .slice a n c) (h : DataW.Trod enc Try.prog W base (fun _ => true) held 50 v d p) : ∃ a n c, ∃ xs : List KpS, v = .slice a n c ∧ Kps W.heap.size W (.slice a n c) xs ∧ (∀ x ∈ xs, x.Ok) ∧ xs.length ≤ Go.maxLen := by
  obtain ⟨fuel, hf⟩ := h
  obtain ⟨a', n', c', rfl⟩ := hv
  rcases Deep.open_slice Try.underlying50 hf with ⟨hcs, _⟩ | ⟨a, len, cap, m, n, D, Pl, hcs, _, hl, hmax, hm, _, hx⟩
  · simp [Value.cells] at hcs
    obtain ⟨rfl, rfl, rfl⟩ := hcs
    exact ⟨_, _, _, [], rfl, .inl ⟨rfl, _, _, rfl⟩, (fun x hx => by cases hx), Nat.zero_le _⟩
  · simp [Value.cells] at hcs
    obtain ⟨rfl, rfl, rfl⟩ := hcs
    simp only [if_true] at hm
    rw [cellsKp] at hx
    by_cases h0 : n' = 0
    · subst h0
      exact ⟨_, _, _, [], rfl, .inl ⟨rfl, _, _, rfl⟩, (fun x hx => by cases hx), Nat.zero_le _⟩
    · have each0 : ∀ i, i < n' → ∃ (o : KpS) (va : Option Addr) (vc : Nat), W.cell? (a.add (i * 3)) = some (.int .i64 o.kind) ∧ W.cell? (a.add (i * 3 + 1)) = some (.int .i64 o.cut) ∧ W.cell? (a.add (i * 3 + 2)) = some (.slice va o.data.length vc) ∧ Sl encY W.heap.size W (.slice va o.data.length vc) o.data ∧ o.Ok := by
        intro i hi
        obtain ⟨cs', h1, h2⟩ := hx i (by omega)
        obtain ⟨_, hlen, hcell⟩ := World.cells?_some h1
        obtain ⟨o, va, vc, rfl, hS, ok⟩ := open_keep1 h2
        have e0 := hcell 0 (by omega)
        have e1 := hcell 1 (by omega)
        have e2 := hcell 2 (by omega)
        rw [Deep.add_add] at e0 e1 e2
        exact ⟨o, va, vc, by simpa using e0, by simpa using e1, by simpa using e2, hS, ok⟩
      obtain ⟨b, off, spot⟩ := a
      have hspot : spot = none := by
        obtain ⟨o, va, vc, e, _⟩ := each0 0 (by omega)
        simpa [Addr.add] using World.cell?_spot e
      subst hspot
      have each : ∀ i, i < n' → ∃ x : KpS, (∃ a c, W.cell? ⟨b, off + i * 3, none⟩ = some (.int .i64 x.kind) ∧ W.cell? ⟨b, off + i * 3 + 1, none⟩ = some (.int .i64 x.cut) ∧ W.cell? ⟨b, off + i * 3 + 2, none⟩ = some (.slice a x.data.length c) ∧ Sl encY W.heap.size W (.slice a x.data.length c) x.data) ∧ x.Ok := by
        intro i hi
        obtain ⟨o, va, vc, e0, e1, e2, hS, ok⟩ := each0 i hi
        rw [add_plain] at e0 e1 e2
        exact ⟨o, ⟨va, vc, e0, by rw [Nat.add_assoc]; exact e1, by rw [Nat.add_assoc]; exact e2, hS⟩, ok⟩
      obtain ⟨xs, hlen, hp⟩ := list_of_fun n' _ each
      refine ⟨_, _, _, xs, rfl, .inr ⟨b, off, c', by rw [hlen], ?_, fun j x hj => (hp j x hj).1⟩, (fun x hx => ?_), by rw [hlen]; exact Nat.le_trans hl hmax⟩
      · obtain ⟨x, ⟨_, _, e, _⟩, _⟩ := each 0 (by omega)
        exact block_lt_of_cell (a := ⟨b, off + 0 * 3, none⟩) e
      · obtain ⟨j, hj⟩ := List.getElem?_of_mem hx
        exact (hp j x hj).2
end Go.Proofs.Ytpllbojmonfeiaa

/- A snapshot and records that a law holds in a struct of two, off the device's blocks. -/
namespace Go.Proofs.Ytpllbojmonfeiaa
open Go.RowKit SumM
set_option linter.unusedVariables false

/-- Nothing of it lies in the blocks A. -/
structure NowK (W : World) (base : Nat) (A : List Nat) (sv rv : Value) (S : List Nat) (R : List (List Nat)) : Prop where
  sl : Sl encY W.heap.size W sv S
  so : Off A sv
  rows : ∃ ys : List CX, ys.map Prod.fst = R ∧ W.ownsRow base yssT 1 rv ys.length (ys.map Prod.snd) ∧ ∀ y ∈ ys, Sl encY W.heap.size W y.2 y.1 ∧ Off A y.2
  ro : ∀ g, rv.ownBlock = some g → g ∉ A
theorem sl_lt {W : World} {sv : Value} {l : List Nat} (h : Sl encY W.heap.size W sv l) : ∀ ad n c, sv = .slice (some ad) n c → 0 < n → ad.block < W.heap.size := by
  intro ad n c e hn
  rcases h with ⟨_, a', c', e2, _⟩ | ⟨b', o', cap', e2, hlt, _⟩
  · rw [e] at e2
    injection e2 with e3 e4
    omega
  · rw [e] at e2
    injection e2 with e3 e4 e5
    cases e3
    exact hlt
theorem Off.to {A B : List Nat} {W : World} {sv : Value} {l : List Nat} (h : Off A sv) (hs : Sl encY W.heap.size W sv l) (hAB : ∀ k ∈ B, k ∈ A ∨ W.heap.size ≤ k) : Off B sv := by
  intro ad n c e hn hm
  rcases hAB _ hm with h1 | h1
  · exact h ad n c e hn h1
  · have := sl_lt hs ad n c e hn; omega
section
variable {W W' : World} {base : Nat} {A B : List Nat} {sv rv : Value} {S : List Nat} {R : List (List Nat)}
theorem NowK.row_lt (h : NowK W base A sv rv S R) : ∀ g, rv.ownBlock = some g → base ≤ g ∧ g < W.heap.size := fun g hg => by
  obtain ⟨ys, _, h3, _⟩ := h.rows
  exact World.ownsRow.lt h3 g hg
theorem NowK.to (h : NowK W base A sv rv S R) (hAB : ∀ k ∈ B, k ∈ A ∨ W.heap.size ≤ k) : NowK W base B sv rv S R := by
  obtain ⟨ys, y1, y2, y3⟩ := h.rows
  refine ⟨h.sl, h.so.to h.sl hAB, ⟨ys, y1, y2, fun y hy => ⟨(y3 y hy).1, (y3 y hy).2.to (y3 y hy).1 hAB⟩⟩, fun g hg hm => ?_⟩
  rcases hAB g hm with h1 | h1
  · exact h.ro g hg h1
  · have := (h.row_lt g hg).2; omega
theorem NowK.but (h : NowK W base A sv rv S R) (hb : But B W W') (hBA : ∀ k ∈ B, k ∈ A ∨ W.heap.size ≤ k) : NowK W' base A sv rv S R := by
  have hb' : But A W W' := hb.more hBA
  obtain ⟨ys, y1, y2, y3⟩ := h.rows
  exact ⟨h.sl.but hb' h.so, h.so, ⟨ys, y1, own_butG y2 hb' h.ro, fun y hy => ⟨(y3 y hy).1.but hb' (y3 y hy).2, (y3 y hy).2⟩⟩, h.ro⟩
theorem NowK.form (h : NowK W base A sv rv S R) : ∃ sa sc ra rc, sv = .slice sa S.length sc ∧ rv = .slice ra R.length rc := by
  obtain ⟨ys, y1, y2, _⟩ := h.rows
  obtain ⟨sa, sc, e1⟩ := h.sl.form
  obtain ⟨ra, rc, e2⟩ := own_form y2
  exact ⟨sa, sc, ra, rc, e1, by rw [e2, ← y1, List.length_map]⟩
end
/-- What has hands back lies off whatever was there. -/
theorem has_now {n : Nat} {W : World} {A : List Nat} {sv rv : Value} {S : List Nat} {R : List (List Nat)} (h : HasAt n W sv rv S R) (hA : ∀ k ∈ A, k < n) : NowK W n A sv rv S R := by
  obtain ⟨h1, ys, y1, y2, y3⟩ := h
  refine ⟨Sl.of_owns h1, ?_, ⟨ys, y1, y2, fun y hy => ⟨(y3 y hy).1, ?_⟩⟩, fun g hg hm => ?_⟩
  · intro ad m c e hm hk
    obtain ⟨a', c', e'⟩ := own_form h1
    rcases h1.2 with ⟨e2, _⟩ | ⟨g, cap, cur, e2, hg0, _⟩
    · rw [e] at e2; cases e2
    · rw [e] at e2
      injection e2 with e3 e4 e5
      cases e3
      have := hA _ hk
      have hg1 : n ≤ g := hg0
      have hk2 : g < n := this
      omega
  · intro ad m c e hm hk
    have h2 := ((y3 y hy).2 ad m c e).1
    have := hA _ hk
    omega
  · have h1 := (World.ownsRow.lt y2 g hg).1
    have := hA _ hm
    omega
end Go.Proofs.Ytpllbojmonfeiaa
