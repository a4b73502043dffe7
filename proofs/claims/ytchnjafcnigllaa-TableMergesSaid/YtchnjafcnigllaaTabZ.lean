/- table.Merge: a clone of the one, into which the other's pairs are put, one by one. -/
import Derived.Test.YtchnjafcnigllaaTabU
import Derived.Test.YtchnjafcnigllaaTabQ
import Derived.Test.YtchnjafcnigllaaRangeL
namespace Go.Proofs.Ytchnjafcnigllaa
open Go.RowKit
set_option linter.unusedVariables false
attribute [local go_sem] Oper.semAt_some

/-- What is put for a key of the other table. -/
def mval (la : KV) (y : Int × Int) : Int := match Tr.getK y.1 la with
  | some x => bits .xor .i64 y.1 (bits .and .i64 x y.2)
  | none => y.2
def mergeL (la lb : KV) : KV := lb.foldl (fun acc y => Tr.insK ltN y.1 (mval la y) acc) la
theorem mergeL_snoc (la xs : KV) (y : Int × Int) : mergeL la (xs ++ [y]) = Tr.insK ltN y.1 (mval la y) (mergeL la xs) := by unfold mergeL; rw [List.foldl_append]; rfl
theorem mergeL_len (la : KV) : ∀ (xs acc : KV), (xs.foldl (fun acc y => Tr.insK ltN y.1 (mval la y) acc) acc).length ≤ acc.length + xs.length
  | [], acc => by simp
  | y :: r, acc => by
    have h := mergeL_len la r (Tr.insK ltN y.1 (mval la y) acc)
    have h2 := insK_len y.1 (mval la y) acc
    simp only [List.foldl_cons, List.length_cons]
    omega
theorem merge_len (la lb : KV) : (mergeL la lb).length ≤ la.length + lb.length := mergeL_len la lb la
theorem get_ins {k k' v : Int} (hne : k' ≠ k) : ∀ l : KV, Tr.getK k (Tr.insK ltN k' v l) = Tr.getK k l
  | [] => by simp [Tr.insK, Tr.getK, Ne.symm hne]
  | (a, b) :: r => by
    have ih := get_ins (v := v) hne r
    unfold Tr.insK
    split
    · rename_i h
      subst h
      simp [Tr.getK, Ne.symm hne]
    · split
      · simp [Tr.getK, Ne.symm hne]
      · simp only [Tr.getK]
        rw [ih]
theorem get_fold (la : KV) {k : Int} : ∀ (xs acc : KV), (∀ y ∈ xs, y.1 ≠ k) → Tr.getK k (xs.foldl (fun acc y => Tr.insK ltN y.1 (mval la y) acc) acc) = Tr.getK k acc
  | [], acc, h => rfl
  | y :: r, acc, h => by
    simp only [List.foldl_cons]
    rw [get_fold la r _ (fun z hz => h z (List.mem_cons_of_mem _ hz)), get_ins (h y (List.mem_cons_self))]
theorem get_merge (la : KV) {k : Int} (xs : KV) (h : ∀ y ∈ xs, y.1 ≠ k) : Tr.getK k (mergeL la xs) = Tr.getK k la := get_fold la xs la h
/-- What stays while the other table is told. -/
structure MgJ (w : World) (X XB Bh b B : Nat) (la lb : KV) (s : KV × KV) (W : World) : Prop where
  tab : TabN W X (mergeL la s.2)
  bel : Below w.heap.size w W
  fn : Boxed W w.heap.size 67 (.func (.func 36) #[] #[])
  xb : Boxed W XB 24 (.pointer (some ⟨X, 0, none⟩))
  ptr : W.heap[Bh]? = some (.cells #[.pointer (some ⟨b, 0, none⟩)] 24 (0, 0))
  app : s.2 ++ s.1 = lb
  n1 : NC W B
  n2 : NC W (B + 1)
section
variable {w : World} {X XB Bh b B : Nat} {la lb : KV}
theorem MgJ.noRec (h0 : w.heap.size < B) (h1 : XB < B) (h2 : Bh < B) (s : KV × KV) : NoRecL B (MgJ w X XB Bh b B la lb s) := fun W o k hk ho h =>
  ⟨h.tab.put (by rcases hk with rfl | rfl; exact h.n1; exact h.n2), h.bel.trans ((But.putObj W k o).below (fun j hj => by simp at hj; omega) h.bel.size), ((But.putObj W k o).block _ h.fn.lt (by simp; omega)).trans h.fn, ((But.putObj W k o).block _ h.xb.lt (by simp; omega)).trans h.xb, ((But.putObj W k o).block _ (Array.getElem?_eq_some_iff.1 h.ptr).1 (by simp; omega)).trans h.ptr, h.app, h.n1.put ho, h.n2.put ho⟩
theorem mgC (w : World) (X XB Bh b B : Nat) (la lb : KV) : EachC w Prod.fst (MgJ w X XB Bh b B la lb) (fun s x W => MgJ w X XB Bh b B la lb s W ∧ ∃ r, s.1 = x :: r) (fun s s' => s'.1 = s.1.tail) where
  stay := fun s W h => StayN.of_below h.bel
  drew := fun s W h => ⟨h.tab.stay (fun b cs hb => hb) rfl, h.bel.drew, h.fn, h.xb, h.ptr, h.app, h.n1, h.n2⟩
  yield := fun s W x r h e => ⟨h, r, e⟩
  next := fun s s' h => h
end
set_option maxRecDepth 100000 in
set_option maxHeartbeats 8000000 in
theorem merge_any (a b : Nat) (la lb : KV) (hla : la.length ≤ 1000) (hlb : lb.length ≤ 1000) (w : World) (hTa : TabN w a la) (hTb : TabN w b lb) :
    Calls Try.prog 35 #[.pointer (some ⟨a, 0, none⟩), .pointer (some ⟨b, 0, none⟩), .func (.func 36) #[] #[]] w fun e w' => ∃ X, e = .returned (.pointer (some ⟨X, 0, none⟩)) ∧ TabN w' X (mergeL la lb) ∧ Below w.heap.size w w' ∧ w.heap.size ≤ X := by
  have HMA := Lib.hid (fun W => made_any a W)
  have HMB := Lib.hid (fun W => made_any b W)
  have HAL := Lib.hid (fun W => allN b W)
  have HRI := Lib.hid hTb.rise
  have HTA := Lib.hid hTa
  have HTB := Lib.hid hTb
  have HLA := Lib.hid hla
  have HLB := Lib.hid hlb
  clear hTa hTb hla hlb
  refine (callsIn_wide (n := 3)).1 ?_
  refine callsIn_of_wp_marks Try.func35 rfl trivial ?_ rfl
  simp only [Try.ntmps35, List.size_toArray, List.length_cons, List.length_nil, Nat.reduceAdd, Nat.reduceSub, Array.replicate_succ, Array.replicate_zero, List.push_toArray, List.append_toArray, List.nil_append, List.cons_append]
  refine wpIn_wide.2 ?_
  obtain ⟨w1, hw1⟩ : ∃ w1, w.alloc (Obj.cells #[.func (.func 36) #[] #[]] 67) = w1 := ⟨_, rfl⟩
  have hb1 : Below w.heap.size w w1 := by rw [← hw1]; exact (Below.refl _ _).alloc (Nat.le_refl _) _
  have hz1 : w1.heap.size = w.heap.size + 1 := by rw [← hw1]; simp
  have hf1 : Boxed w1 w.heap.size 67 (.func (.func 36) #[] #[]) := by rw [← hw1]; exact Boxed.new w _ _
  have HW1 := Lib.hid hw1
  have HB1 := Lib.hid hb1
  have HZ1 := Lib.hid hz1
  have HF1 := Lib.hid hf1
  have HCL := Lib.hid (tableCloneN a la w1 (HTA.out.below hb1))
  clear hw1 hb1 hz1 hf1
  go_upto_region 1 with fail
  rw [HW1.out]
  go_wp2_with fail
  refine (HMA.out _).mono ?_
  rintro e wx ⟨rfl, hx⟩
  obtain rfl := hx.symm
  go_wp2_with fail
  refine HCL.out.mono ?_
  rintro e w2 ⟨rfl, hc2, hb2⟩
  have HC2 := Lib.hid hc2
  have HB2 := Lib.hid hb2
  clear hc2 hb2
  go_upto_region 2 with fail
  obtain ⟨X, hX⟩ : ∃ X, w1.heap.size = X := ⟨_, rfl⟩
  rw [hX] at HC2
  have HX : Hid (X = w.heap.size + 1) := Lib.hid (by rw [← hX]; exact HZ1.out)
  have hXZ : w1.heap.size = X := hX
  rw [hX]
  clear hX
  obtain ⟨w3, hw3⟩ : ∃ w3, w2.alloc (Obj.cells #[.pointer (some ⟨X, 0, none⟩)] 24) = w3 := ⟨_, rfl⟩
  have hb23 : Below w2.heap.size w2 w3 := by rw [← hw3]; exact (Below.refl _ _).alloc (Nat.le_refl _) _
  have hz3 : w3.heap.size = w2.heap.size + 1 := by rw [← hw3]; simp
  have hxb3 : Boxed w3 w2.heap.size 24 (.pointer (some ⟨X, 0, none⟩)) := by rw [← hw3]; exact Boxed.new w2 _ _
  have hx2 : X < w2.heap.size := HC2.out.lt
  have hbel3 : Below w.heap.size w w3 := HB1.out.trans ((HB2.out.trans (hb23.mono HB2.out.size)).mono HB1.out.size)
  have hf3 : Boxed w3 w.heap.size 67 (.func (.func 36) #[] #[]) := by
    have h1 : Boxed w2 w.heap.size 67 (.func (.func 36) #[] #[]) := (HB2.out.block _ HF1.out.lt).trans HF1.out
    exact (hb23.block _ h1.lt).trans h1
  obtain ⟨XB, hXB⟩ : ∃ XB, w2.heap.size = XB := ⟨_, rfl⟩
  rw [hXB] at hz3 hxb3 hx2
  rw [hw3]
  have HC3 := Lib.hid (HC2.out.below hb23)
  have HXB3 := Lib.hid hxb3
  have HF3 := Lib.hid hf3
  have HBEL3 := Lib.hid hbel3
  have HZ3 := Lib.hid hz3
  have HX2 := Lib.hid hx2
  rw [hXB]
  clear hw3 hb23 hz3 hxb3 hx2 hbel3 hf3 hXB hXZ HC2 HB2 HB1 HZ1 HF1 HCL
  go_wp2_with fail
  refine (HMB.out _).mono ?_
  rintro e wx ⟨rfl, hx⟩
  obtain rfl := hx.symm
  go_wp2_with fail
  refine (HAL.out _).mono ?_
  rintro e w4 ⟨rfl, hw4⟩
  have HW4 := Lib.hid hw4
  clear hw4
  go_wp2_with fail
  have hb34 : Below w3.heap.size w3 w4 := by rw [HW4.out]; exact (Below.refl _ _).alloc (Nat.le_refl _) _
  have hz4 : w4.heap.size = XB + 2 := by rw [HW4.out]; simp [HZ3.out]
  have hp4 : w4.heap[XB + 1]? = some (.cells #[.pointer (some ⟨b, 0, none⟩)] 24 (0, 0)) := by rw [HW4.out, ← HZ3.out]; exact World.alloc_heap_new w3 _
  have HC4 := Lib.hid (HC3.out.below hb34)
  have HXB4 : Hid (Boxed w4 XB 24 (.pointer (some ⟨X, 0, none⟩))) := Lib.hid ((hb34.block _ HXB3.out.lt).trans HXB3.out)
  have HF4 : Hid (Boxed w4 w.heap.size 67 (.func (.func 36) #[] #[])) := Lib.hid ((hb34.block _ HF3.out.lt).trans HF3.out)
  have HBEL4 : Hid (Below w.heap.size w w4) := Lib.hid (HBEL3.out.trans (hb34.mono HBEL3.out.size))
  have HP4 := Lib.hid hp4
  have HZ4 := Lib.hid hz4
  clear hb34 hz4 hp4 HC3 HXB3 HF3 HBEL3
  rename_i K hKQ
  refine (wpIn_wide (n := 3)).1 ?_
  refine wpIn_actG ?_
  intro A hA
  obtain ⟨t, ad, h1, h2, h3⟩ := HTB.out.at_
  have HA1 := Lib.hid h1
  have HA2 := Lib.hid h2
  have HA3 := Lib.hid h3
  clear h1 h2 h3
  refine rangeL rfl (by omega) (gf := 45) (lb := #[.pointer (some ⟨XB + 1, 0, none⟩)]) (by rw [hA]; first | rfl | (simp [Act.eval, HZ3.out]; done)) trivial (enters_of Try.func45 (by kernel_rfl) rfl) (encs := fun (x : Int × Int) => #[.int .i64 x.1, .int .i64 x.2]) (fun _ => rfl)
    (MgJ w X XB (XB + 1) b w4.heap.size la lb) (fun s x W => MgJ w X XB (XB + 1) b w4.heap.size la lb s W ∧ ∃ r, s.1 = x :: r)
    (fun (s : KV × KV) (x : Int × Int) a1 W => (MgJ w X XB (XB + 1) b w4.heap.size la lb s W ∧ ∃ r, s.1 = x :: r) ∧ a1 = { tmps := (((A.tmps.setIfInBounds 18 (.int .i64 x.1)).setIfInBounds 19 (.int .i64 x.2)).setIfInBounds 8 (.int .i64 x.1)).setIfInBounds 9 (.int .i64 x.2), defers := [] })
    (fun c W => False) (fun s s' => s'.1 = s.1.tail) (fun s _ => s.1 = []) (lb, [])
    (fun s => MgJ.noRec (by have := HZ4.out; have := HX.out; have := HX2.out; omega) (by have := HZ4.out; omega) (by have := HZ4.out; omega) s)
    (fun s x a1 W o k hk ho ⟨⟨h1, hg⟩, h5⟩ => ⟨⟨MgJ.noRec (by have := HZ4.out; have := HX.out; have := HX2.out; omega) (by have := HZ4.out; omega) (by have := HZ4.out; omega) s W o k hk ho h1, hg⟩, h5⟩)
    (fun c W o k hk ho h => h) (fun _ _ _ _ _ _ h => h) (fun r => ?start)
    (all1N (b := b) (t := t) (a := ad) (mgC w X XB (XB + 1) b w4.heap.size la lb) (fun W hW => ⟨cell_of_row W _ 0 _ _ _ hW.ptr, cell_of_row W b 0 _ _ _ ((hW.bel.block b (Array.getElem?_eq_some_iff.1 HA1.out).1).trans HA1.out)⟩) HA2.out HA3.out.symm)
    ?assign ?body ?done ?stop
  case start =>
    have e1 : (w4.alloc (.deferred (some []))).heap.size = w4.heap.size + 1 := by rw [World.size_alloc]
    have hb := ((Below.refl w4.heap.size w4).alloc (Nat.le_refl _) (.deferred (some []))).alloc (by simp) (.loop r)
    refine ⟨HC4.out.below hb, HBEL4.out.trans (hb.mono HBEL4.out.size), (HF4.out.alloc _).alloc _, (HXB4.out.alloc _).alloc _, (hb.block _ (Array.getElem?_eq_some_iff.1 HP4.out).1).trans HP4.out, rfl, fun o e => ?_, fun o e => ?_⟩
    · rw [heap_alloc_old' _ _ _ (by omega), World.alloc_heap_new] at e
      cases e; rfl
    · have h := World.alloc_heap_new (w4.alloc (.deferred (some []))) (.loop r)
      rw [e1] at h
      rw [h] at e
      cases e; rfl
  case assign =>
    rintro l0 s ⟨x, u⟩ W K' hj hzW hK
    rw [hA] at hK ⊢
    gi_wp2
    exact hK _ _ ⟨hj, rfl⟩ ⟨rfl, rfl⟩
  case body =>
    rintro l0 ⟨rem, out⟩ ⟨x, u⟩ a1 V ⟨⟨hj, r, hr⟩, rfl⟩ hzV
    simp only at hr
    subst hr
    have happ := congrArg List.length hj.app
    simp only [List.length_append, List.length_cons] at happ
    have hri := HRI.out
    rw [← hj.app] at hri
    obtain ⟨_, _, hlow, _, _⟩ := Tr.rising_parts ordN hri
    have hgm := get_merge la (k := x) out (fun y hy => Tr.ne_of ordN (hlow y hy))
    have hml := merge_len la out
    have HGT := Lib.hid (tableGetN x X _ V hj.tab)
    rw [hgm] at HGT
    have HLEN : Hid ((mergeL la out).length ≤ 100000) := Lib.hid (by have := HLA.out; have := HLB.out; omega)
    have cf := hj.fn.cell
    have cx := hj.xb.cell
    have HSN : Hid (∀ (W4 : World), TabN W4 X (Tr.insK ltN x (mval la (x, u)) (mergeL la out)) → TabN W4 X (mergeL la (out ++ [(x, u)]))) := Lib.hid (fun W4 h => by rw [mergeL_snoc]; exact h)
    have HJ := Lib.hid hj
    have hord : w.heap.size < X ∧ X < XB ∧ XB + 2 ≤ w4.heap.size := by have := HX.out; have := HX2.out; have := HZ4.out; omega
    clear hj happ hri hlow hgm hml
    have HFIN : Hid (∀ (W4 : World) (n : Nat), TabN W4 X (mergeL la (out ++ [(x, u)])) → But [X] (V.drewN n) W4 → SameRec w4.heap.size V W4 ∧ MgJ w X XB (XB + 1) b w4.heap.size la lb (r, out ++ [(x, u)]) W4) := Lib.hid (fun W4 n hT hb => by
      have hj := HJ.out
      have hb' : But [X] V W4 := (But.of_below (below_dr V n)).trans hb (fun k hk => .inl hk)
      exact ⟨⟨hb'.block _ (by omega) (by simp; omega), hb'.block _ (by omega) (by simp; omega)⟩, hT, hj.bel.trans (hb'.below (fun k hk => by simp at hk; omega) hj.bel.size), (hb'.block _ hj.fn.lt (by simp; omega)).trans hj.fn, (hb'.block _ hj.xb.lt (by simp; omega)).trans hj.xb, (hb'.block _ (Array.getElem?_eq_some_iff.1 hj.ptr).1 (by simp; omega)).trans hj.ptr, by rw [← hj.app]; simp, hj.n1.but hb' (by simp; omega) (by omega), hj.n2.but hb' (by simp; omega) (by omega)⟩)
    rw [hA]
    gi_wp2_with fail
    refine ⟨trivial, ?_⟩
    refine (callsIn_wide.2 HGT.out).mono ?_
    rintro e V2 ⟨rfl, nd, hV2⟩
    have hT2 : TabN V2 X (mergeL la out) := by rw [hV2]; exact HJ.out.tab.below (below_dr V nd)
    have cx2 : V2.cell? ⟨XB, 0, none⟩ = some (.pointer (some ⟨X, 0, none⟩)) := by rw [hV2]; exact cx
    have cf2 : V2.cell? ⟨w.heap.size, 0, none⟩ = some (.func (.func 36) #[] #[]) := by rw [hV2]; exact cf
    have HV2 := Lib.hid hV2
    clear hV2 HGT cx cf
    cases hg : Tr.getK x la with
    | none =>
      have hmv : mval la (x, u) = u := by unfold mval; simp only [hg]
      rw [hmv] at HSN
      have HP := Lib.hid (tablePutN x u X _ V2 hT2 HLEN.out)
      clear hT2 hmv hg
      simp only [Option.getD_none, Option.isSome_none]
      gi_wp2_with fail
      refine ⟨trivial, ?_⟩
      refine (callsIn_wide.2 HP.out).mono ?_
      rintro e W4 ⟨rfl, hT4, hb4⟩
      rw [HV2.out] at hb4
      have HE := Lib.hid (HFIN.out W4 nd (HSN.out W4 hT4) hb4)
      clear hT4 hb4
      gi_wp2_with fail
      exact ⟨HE.out.1, _, rfl, HE.out.2⟩
    | some z =>
      have hmv : mval la (x, u) = bits .xor .i64 x (bits .and .i64 z u) := by unfold mval; simp only [hg]
      rw [hmv] at HSN
      have HP := Lib.hid (tablePutN x (bits .xor .i64 x (bits .and .i64 z u)) X _ V2 hT2 HLEN.out)
      have HM1 := Lib.hid (merges1_any x z u V2)
      clear hT2 hmv hg
      simp only [Option.getD_some, Option.isSome_some]
      gi_wp2_with fail
      refine ⟨trivial, ?_⟩
      refine (callsIn_wide.2 HM1.out).mono ?_
      rintro e wx ⟨rfl, hx⟩
      obtain rfl := hx.symm
      gi_wp2_with fail
      refine ⟨trivial, ?_⟩
      refine (callsIn_wide.2 HP.out).mono ?_
      rintro e W4 ⟨rfl, hT4, hb4⟩
      rw [HV2.out] at hb4
      have HE := Lib.hid (HFIN.out W4 nd (HSN.out W4 hT4) hb4)
      clear hT4 hb4
      gi_wp2_with fail
      exact ⟨HE.out.1, _, rfl, HE.out.2⟩
  case done =>
    rintro ⟨rem, out⟩ W hj he hD
    simp only at he
    subst he
    have hL2 := hj.app
    rw [List.append_nil] at hL2
    simp only at hL2
    subst hL2
    rw [hA]
    refine hKQ _ _ ?_
    have cx := hj.xb.cell
    have hj2 := MgJ.noRec (la := la) (lb := out) (by have := HZ4.out; have := HX.out; have := HX2.out; omega) (by have := HZ4.out; omega) (by have := HZ4.out; omega) ([], out) W (.deferred none) _ (.inl rfl) rfl hj
    have HJ := Lib.hid hj2
    have HD := Lib.hid hD
    clear hj hj2 hD
    go_wp2_with fail
    refine ⟨by simp, .inl ⟨_, _, rfl, run_takeDeferred HD.out, ?_⟩⟩
    exact ⟨_, results_tmp rfl _ _ _, X, rfl, HJ.out.tab, HJ.out.bel, by have := HX.out; omega⟩
  case stop =>
    rintro c W h hD
    exact h.elim
end Go.Proofs.Ytchnjafcnigllaa
