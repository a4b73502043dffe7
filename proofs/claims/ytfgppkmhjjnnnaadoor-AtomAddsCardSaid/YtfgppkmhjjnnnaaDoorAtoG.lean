/- atom.greatest: a table of the greatest value of each set. -/
import Derived.Test.YtfgppkmhjjnnnaaDoorAtoN
import Derived.Test.YtfgppkmhjjnnnaaDoorRangeK
namespace Go.Proofs.YtfgppkmhjjnnnaaDoor
open Go.RowKit
set_option linter.unusedVariables false
attribute [local go_sem] Oper.semAt_some

/-- No cells lie there. -/
def NotCells (W : World) (k : Nat) : Prop := ∀ cs ty z, W.heap[k]? ≠ some (.cells cs ty z)
theorem NotCells.stay {W W' : World} {k : Nat} (h : NotCells W k) (e : W'.heap[k]? = W.heap[k]?) : NotCells W' k := fun cs ty z hc => h cs ty z (e.symm.trans hc)
theorem NotCells.put {W : World} {k : Nat} {o : Obj} (h : NotCells W k) (ho : ∀ cs ty z, o ≠ .cells cs ty z) : NotCells (W.putObj k o) k := fun cs ty z hc => by
  by_cases hk : k < W.heap.size
  · rw [World.putObj_heap_same hk] at hc
    cases hc
    exact ho _ _ _ rfl
  · have : (W.putObj k o).heap[k]? = none := by
      rw [Array.getElem?_eq_none_iff]
      have := (But.putObj W k o).size
      simp [World.putObj] at *
      omega
    rw [this] at hc
    cases hc
theorem within_full (a : Nat) : withinB a 18446744073709551615 = true := by
  rw [withinB_iff]
  intro i hi _
  rw [show (18446744073709551615 : Nat) = 2 ^ 64 - 1 from by decide, Nat.testBit_two_pow_sub_one]
  exact decide_eq_true hi
/-- What stays while the greatest values are gathered: what is to come, what came, the table. -/
structure GrJ (w : World) (sv : Value) (s : Nat) (L : List Ent) (st : List Ent × List Ent × KV) (W : World) : Prop where
  bel : Below w.heap.size w W
  tab : TabN W w.heap.size st.2.2
  b1 : Boxed W (w.heap.size + 1) 22 sv
  b2 : Boxed W (w.heap.size + 2) 23 (.int .u64 (s : Nat))
  inv : GInv st.2.1 st.2.2
  hist : st.2.1 ++ st.1 = L
  len : st.2.2.length ≤ st.2.1.length
  nr3 : NotCells W (w.heap.size + 3)
  nr4 : NotCells W (w.heap.size + 4)
  siz : w.heap.size + 5 ≤ W.heap.size
section
variable {w : World} {sv : Value} {s : Nat} {L : List Ent} {st : List Ent × List Ent × KV} {W : World}
theorem GrJ.below {W' : World} (h : GrJ w sv s L st W) (hb : Below W.heap.size W W') : GrJ w sv s L st W' := by
  have hz := h.siz
  have hs := hb.size
  exact ⟨h.bel.trans (hb.mono h.bel.size), h.tab.below hb, (hb.block _ h.b1.lt).trans h.b1, (hb.block _ h.b2.lt).trans h.b2, h.inv, h.hist, h.len, h.nr3.stay (hb.block _ (by omega)), h.nr4.stay (hb.block _ (by omega)), by omega⟩
theorem GrJ.recd {k : Nat} {o : Obj} (hk : k = w.heap.size + 3 ∨ k = w.heap.size + 4) (ho : ∀ cs ty z, o ≠ .cells cs ty z) (h : GrJ w sv s L st W) : GrJ w sv s L st (W.putObj k o) := by
  have hb := But.putObj W k o
  have hz := h.siz
  have hs := hb.size
  have hkn : NotCells W k := by
    rcases hk with rfl | rfl
    · exact h.nr3
    · exact h.nr4
  refine ⟨h.bel.trans (hb.below (fun j hj => by simp at hj; omega) h.bel.size), ?_, (hb.block _ h.b1.lt (by simp; omega)).trans h.b1, (hb.block _ h.b2.lt (by simp; omega)).trans h.b2, h.inv, h.hist, h.len, ?_, ?_, by omega⟩
  · exact h.tab.stay (StayN.of_but hb (fun j hj cs => by simp at hj; subst hj; exact hkn cs _ _)) (hb.block _ h.tab.lt (by simp; omega))
  · by_cases e : k = w.heap.size + 3
    · subst e; exact h.nr3.put ho
    · exact h.nr3.stay (hb.block _ (by omega) (by simp; omega))
  · by_cases e : k = w.heap.size + 4
    · subst e; exact h.nr4.put ho
    · exact h.nr4.stay (hb.block _ (by omega) (by simp; omega))
theorem GrJ.turn {W' : World} {rem : List Ent} {dn : List Ent} {l : KV} {x : Ent} (h : GrJ w sv s L (x :: rem, dn, l) W) (hx : 1 ≤ x.2) (hb : But [w.heap.size] W W') (ht : TabN W' w.heap.size (gPut l x)) : GrJ w sv s L (rem, dn ++ [x], gPut l x) W' := by
  have hz := h.siz
  have hs := hb.size
  have hl := gPut_len l x
  have hlen := h.len
  simp only at hlen
  exact ⟨h.bel.trans (hb.below (fun j hj => by simp at hj; omega) h.bel.size), ht, (hb.block _ h.b1.lt (by simp)).trans h.b1, (hb.block _ h.b2.lt (by simp)).trans h.b2, h.inv.step x hx, by rw [← h.hist]; simp, by simp; omega, h.nr3.stay (hb.block _ (by omega) (by simp)), h.nr4.stay (hb.block _ (by omega) (by simp)), by omega⟩
theorem grC {zs : List Ent} (hs : EnsP w.heap.size w sv zs) : WinC (w.heap.size + 1) (w.heap.size + 2) w.heap.size sv zs s Prod.fst (GrJ w sv s L) (fun st x W => GrJ w sv s L st W ∧ ∃ r, st.1 = x :: r) (fun st st' => st'.1 = st.1.tail) where
  row := fun st W h => ⟨h.b1, h.b2, hs.below h.bel (Nat.le_refl _)⟩
  alloc := fun st W o h => h.below ((Below.refl _ _).alloc (Nat.le_refl _) _)
  yield := fun st W x r h e => ⟨h, r, e⟩
  next := fun st st' h => h
end
set_option maxRecDepth 100000 in
set_option maxHeartbeats 8000000 in
theorem greatest_any (a : Option Addr) (n c : Nat) (zs : List Ent) (hok : ∀ x ∈ zs, okS x.1) (hlen : zs.length ≤ 10000) (w : World) (hz : EnsP w.heap.size w (.slice a n c) zs) :
    Calls Tryd.prog 24 #[.slice a n c] w fun e w' => e = .returned (.pointer (some ⟨w.heap.size, 0, none⟩)) ∧ (∃ l, TabN w' w.heap.size l ∧ l.length ≤ zs.length ∧ GInv (zs.filter (rightA 1099511627776)) l) ∧ Below w.heap.size w w' := by
  obtain ⟨s, hsv⟩ : ∃ s, s = 18446744073709551615 := ⟨_, rfl⟩
  have hs : okS s := by rw [hsv]; unfold okS; decide
  have HF := Lib.hid (fun W => full_any 64 W (by decide) (by decide))
  rw [full64] at HF
  rw [← hsv] at HF
  obtain ⟨L, hL⟩ : ∃ L, zs.filter (inA s) = L := ⟨_, rfl⟩
  have hLr : zs.filter (rightA 1099511627776) = L := by
    rw [← hL]
    refine List.filter_congr (fun x hx => ?_)
    have : withinB x.1 s = true := by rw [hsv]; exact within_full _
    unfold inA; rw [this, Bool.and_true]
  have HL := Lib.hid hL
  have HZ := Lib.hid hz
  have HOK := Lib.hid hok
  have HXL : Hid (∀ y ∈ L, 1 ≤ y.2) := Lib.hid (fun y hy => (right_of (by rw [← hLr] at hy; exact (List.mem_filter.1 hy).2)).2.1)
  have HLL : Hid (L.length ≤ zs.length) := Lib.hid (by rw [← hL]; exact List.length_filter_le _ _)
  have HWO := Lib.hid (fun W => withinOf a n c s W)
  rw [hLr]
  clear hL hz hok hLr hsv
  refine (callsIn_wide (n := 3)).1 ?_
  refine callsIn_of_wp_marks Tryd.func24 rfl trivial ?_ rfl
  simp only [Tryd.ntmps24, List.size_toArray, List.length_cons, List.length_nil, Nat.reduceAdd, Nat.reduceSub, Array.replicate_succ, Array.replicate_zero, List.push_toArray, List.append_toArray, List.nil_append, List.cons_append]
  refine wpIn_wide.2 ?_
  obtain ⟨w1, hw1⟩ : ∃ w1, w.alloc (Obj.cells #[.pointer none] 66) = w1 := ⟨_, rfl⟩
  have HW1 := Lib.hid hw1
  clear hw1
  go_upto_region 2 with fail
  rw [HW1.out]
  go_wp2_with fail
  refine (HF.out _).mono ?_
  rintro e wx ⟨rfl, hx⟩
  obtain rfl := hx
  go_wp2_with fail
  refine (HWO.out _).mono ?_
  rintro e w2 ⟨rfl, hw2⟩
  have HW2 := Lib.hid hw2
  clear hw2
  go_wp2_with fail
  have hz1 : w1.heap.size = w.heap.size + 1 := by rw [← HW1.out]; simp
  have hb12 : Below w1.heap.size w1 w2 := by rw [HW2.out]; exact ((Below.refl _ _).alloc (Nat.le_refl _) _).alloc (by simp) _
  have hz2 : w2.heap.size = w.heap.size + 3 := by rw [HW2.out]; simp [hz1]
  have hm1 : TabN w1 w.heap.size [] := by
    rw [← HW1.out]
    exact ⟨⟨.nil, none, World.alloc_heap_new w _, rfl, rfl⟩, List.Pairwise.nil⟩
  have hb01 : Below w.heap.size w w1 := by rw [← HW1.out]; exact (Below.refl _ _).alloc (Nat.le_refl _) _
  have hJ2 : ∀ r, GrJ w (.slice a n c) s L (L, [], []) ((w2.alloc (.deferred (some []))).alloc (.loop r)) := by
    intro r
    have hb2 : Below w2.heap.size w2 ((w2.alloc (.deferred (some []))).alloc (.loop r)) := ((Below.refl w2.heap.size w2).alloc (Nat.le_refl _) (.deferred (some []))).alloc (by simp) (.loop r)
    have q1 : Boxed w2 (w.heap.size + 1) 22 (.slice a n c) := by rw [HW2.out, ← hz1]; exact (Boxed.new w1 _ _).alloc _
    have q2 : Boxed w2 (w.heap.size + 2) 23 (.int .u64 (s : Nat)) := by
      have h := Boxed.new (w1.alloc (.cells #[.slice a n c] 22)) 23 (.int .u64 (s : Nat))
      rw [World.size_alloc, hz1] at h
      rw [HW2.out]
      exact h
    refine ⟨(hb01.trans (hb12.mono hb01.size)).trans (hb2.mono (by omega)), (hm1.below hb12).below hb2, (hb2.block _ q1.lt).trans q1, (hb2.block _ q2.lt).trans q2, GInv.nil, rfl, Nat.le_refl _, ?_, ?_, by simp [hz2]⟩
    · intro cs ty z hc
      have h1 := World.alloc_heap_new w2 (.deferred (some []))
      have h2 := heap_alloc_old' (w2.alloc (.deferred (some []))) (.loop r) w2.heap.size (by simp)
      rw [h1, hz2] at h2
      rw [h2] at hc
      cases hc
    · intro cs ty z hc
      have h1 := World.alloc_heap_new (w2.alloc (.deferred (some []))) (.loop r)
      rw [World.size_alloc, hz2] at h1
      rw [h1] at hc
      cases hc
  have HJ2 := Lib.hid hJ2
  have HZ2 := Lib.hid hz2
  have HZ1 := Lib.hid hz1
  clear hz1 hb12 hz2 hm1 hb01 hJ2
  rename_i K hKQ
  refine (wpIn_wide (n := 3)).1 ?_
  refine wpIn_actG ?_
  intro A hA
  rw [HZ1.out] at hA
  refine rangeK rfl (by omega) (gf := 39) (lb := #[.pointer (some ⟨w.heap.size + 1, 0, none⟩), .pointer (some ⟨w.heap.size + 2, 0, none⟩)]) (by rw [hA]; rfl) trivial (enters_of Tryd.func39 (by kernel_rfl) rfl) (encs := fun (x : Ent) => #[.agg #[.int .u64 (x.1 : Nat), .int .i64 x.2]]) (fun _ => rfl)
    (GrJ w (.slice a n c) s L) (fun st x W => GrJ w (.slice a n c) s L st W ∧ ∃ r, st.1 = x :: r)
    (fun (st : List Ent × List Ent × KV) (x : Ent) a1 W => (GrJ w (.slice a n c) s L st W ∧ ∃ r, st.1 = x :: r) ∧ ∃ Bx, w.heap.size + 5 ≤ Bx ∧ W.heap[Bx]? = some (.cells #[.int .u64 (x.1 : Nat), .int .i64 x.2] 28 (0, 0)) ∧ a1 = { tmps := ((A.tmps.setIfInBounds 10 (.agg #[.int .u64 (x.1 : Nat), .int .i64 x.2])).setIfInBounds 4 (.pointer (some ⟨Bx, 0, none⟩))), defers := [] })
    (fun c W => False) (fun st st' => st'.1 = st.1.tail) (fun st _ => st.1 = []) (L, [], [])
    (fun st W r h => GrJ.recd (by rw [HZ2.out]; exact .inr rfl) (fun _ _ _ e => by cases e) h)
    (fun st x a1 W r ⟨⟨h1, hg⟩, Bx, h2, h3, h5⟩ => ⟨⟨GrJ.recd (by rw [HZ2.out]; exact .inr rfl) (fun _ _ _ e => by cases e) h1, hg⟩, Bx, h2, (World.putObj_heap_other (by rw [HZ2.out]; omega)).trans h3, h5⟩)
    (fun c W r h => h) (fun _ _ _ h => h) (fun r => HJ2.out r)
    (within1 hs HOK.out (by omega) (grC HZ.out) HL.out.symm)
    ?assign ?body ?done ?stop
  case assign =>
    rintro l0 st ⟨x, u⟩ W K' ⟨hj, hg⟩ hzW hK
    rw [hA] at hK ⊢
    have hb := (Below.refl W.heap.size W).alloc (Nat.le_refl _) (.cells #[.int .u64 (x : Nat), .int .i64 u] 28)
    have hj2 := hj.below hb
    rw [HZ2.out] at hzW
    have HH : Hid (((GrJ w (.slice a n c) s L st (W.alloc (.cells #[.int .u64 (x : Nat), .int .i64 u] 28)) ∧ ∃ r, st.1 = (x, u) :: r)) ∧ SameRec w2.heap.size W (W.alloc (.cells #[.int .u64 (x : Nat), .int .i64 u] 28)) ∧ (W.alloc (.cells #[.int .u64 (x : Nat), .int .i64 u] 28)).heap[W.heap.size]? = some (.cells #[.int .u64 (x : Nat), .int .i64 u] 28 (0, 0)) ∧ w.heap.size + 5 ≤ W.heap.size) := Lib.hid ⟨⟨hj2, hg⟩, ⟨hb.block _ (by rw [HZ2.out]; omega), hb.block _ (by rw [HZ2.out]; omega)⟩, World.alloc_heap_new W _, by omega⟩
    clear hj hg hj2 hb
    gi_wp2
    exact hK _ _ ⟨HH.out.1, W.heap.size, HH.out.2.2.2, HH.out.2.2.1, rfl⟩ HH.out.2.1
  case body =>
    rintro l9 ⟨rem, dn, l⟩ ⟨x, u⟩ a1 V ⟨⟨hj, r, hr⟩, Bx, hBx, hx, rfl⟩ hzV
    simp only at hr
    subst hr
    have c0 : V.cell? ⟨Bx, 0, none⟩ = some (.int .u64 (x : Nat)) := cell_of_row V Bx 0 _ _ _ hx
    have c1 : V.cell? ⟨Bx, 1, none⟩ = some (.int .i64 u) := cell_of_row V Bx 1 _ _ _ hx
    have hBlt : Bx < V.heap.size := (Array.getElem?_eq_some_iff.1 hx).1
    have hu : 1 ≤ u := HXL.out (x, u) (by rw [← hj.hist]; simp)
    have hll : l.length ≤ 100000 := by
      have h1 := hj.len
      have h2 := congrArg List.length hj.hist
      have h3 := HLL.out
      simp at h1 h2
      omega
    have HG := Lib.hid (tableGetN (x : Int) w.heap.size l V hj.tab)
    have HP := Lib.hid (fun q => tablePutN (x : Int) u w.heap.size l (V.drewN q) (hj.tab.below (below_dr V q)) hll)
    have hj5 := hj.siz
    have hEN1 : ∀ q, (Tr.getK (x : Int) l).getD 0 < u → ∀ U, But [w.heap.size] (V.drewN q) U → TabN U w.heap.size (Tr.insK ltN (x : Int) u l) → SameRec w2.heap.size V U ∧ ∃ s' : List Ent × List Ent × KV, s'.1 = r ∧ GrJ w (.slice a n c) s L s' U := fun q hlt U hb ht => by
      have hz2 := HZ2.out
      have hbq : But [w.heap.size] V U := (But.of_below (below_dr V q)).trans' hb
      have e : gPut l (x, u) = Tr.insK ltN (x : Int) u l := by unfold gPut; rw [if_pos hlt]
      exact ⟨⟨hbq.block _ (by omega) (by simp; omega), hbq.block _ (by omega) (by simp; omega)⟩, (r, dn ++ [(x, u)], gPut l (x, u)), rfl, hj.turn hu hbq (by rw [e]; exact ht)⟩
    have hEN2 : ∀ q, ¬ (Tr.getK (x : Int) l).getD 0 < u → SameRec w2.heap.size V (V.drewN q) ∧ ∃ s' : List Ent × List Ent × KV, s'.1 = r ∧ GrJ w (.slice a n c) s L s' (V.drewN q) := fun q hlt => by
      have e : gPut l (x, u) = l := by unfold gPut; rw [if_neg hlt]
      exact ⟨⟨rfl, rfl⟩, (r, dn ++ [(x, u)], gPut l (x, u)), rfl, hj.turn hu (But.of_below (below_dr V q)) (by rw [e]; exact hj.tab.below (below_dr V q))⟩
    have HEN1 := Lib.hid hEN1
    have HEN2 := Lib.hid hEN2
    clear hj hx hEN1 hEN2 hj5 hll hu
    obtain ⟨g, hg⟩ : ∃ g, (Tr.getK (x : Int) l).getD 0 = g := ⟨_, rfl⟩
    rw [hg] at HG HEN1 HEN2
    obtain ⟨gb, hgb⟩ : ∃ gb, (Tr.getK (x : Int) l).isSome = gb := ⟨_, rfl⟩
    obtain ⟨gc, hgc⟩ : ∃ gc, (Tr.getK (x : Int) l).isNone = gc := ⟨_, rfl⟩
    rw [hgb] at HG
    rw [hgc] at HP
    clear hg hgb hgc
    rw [hA]
    by_cases hlt : g < u
    · have g1 : decide (g < u) = true := decide_eq_true hlt
      gi_wp2_with fail
      refine ⟨trivial, ?_⟩
      refine (CallsIn.inRound l9 (callsIn_wide.2 HG.out)).mono ?_
      rintro e V2 ⟨rfl, q, rfl⟩
      gi_wp2_with fail
      refine ⟨trivial, ?_⟩
      refine (CallsIn.inRound l9 (callsIn_wide.2 (HP.out q))).mono ?_
      rintro e V3 ⟨rfl, ht3, hb3⟩
      have H3 := Lib.hid (HEN1.out q hlt V3 hb3 ht3)
      clear ht3 hb3
      gi_wp2_with fail
      exact H3.out
    · have g1 : decide (g < u) = false := decide_eq_false hlt
      gi_wp2_with fail
      refine ⟨trivial, ?_⟩
      refine (CallsIn.inRound l9 (callsIn_wide.2 HG.out)).mono ?_
      rintro e V2 ⟨rfl, q, rfl⟩
      have H3 := Lib.hid (HEN2.out q hlt)
      gi_wp2_with fail
      exact H3.out
  case done =>
    rintro ⟨rem, dn, l⟩ W hj he hD
    simp only at he
    subst he
    have hj2 := GrJ.recd (k := w.heap.size + 3) (o := .deferred none) (.inl rfl) (fun _ _ _ e => by cases e) hj
    have hh := hj2.hist
    have hdn : dn = L := by simpa using hh
    subst hdn
    have HB := Lib.hid hj2.bel
    have HT := Lib.hid hj2.tab
    have HI := Lib.hid hj2.inv
    have HLE : Hid (l.length ≤ zs.length) := Lib.hid (Nat.le_trans hj2.len HLL.out)
    have HD := Lib.hid hD
    rw [HZ2.out] at HD
    rw [hA]
    refine hKQ _ _ ?_
    clear hj hh hD hj2
    rw [HZ2.out]
    go_wp2_with fail
    refine ⟨by simp, .inl ⟨_, _, rfl, run_takeDeferred HD.out, ?_⟩⟩
    exact ⟨_, results_tmp rfl _ _ _, rfl, ⟨l, HT.out, HLE.out, HI.out⟩, HB.out⟩
  case stop =>
    rintro c W hF hD
    exact hF.elim
end Go.Proofs.YtfgppkmhjjnnnaaDoor
