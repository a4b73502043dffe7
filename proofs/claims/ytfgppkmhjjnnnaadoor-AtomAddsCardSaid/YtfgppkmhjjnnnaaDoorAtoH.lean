/- atom.ordered: a table's things as atoms, in order of their sets. -/
import Derived.Test.YtfgppkmhjjnnnaaDoorAtoS
namespace Go.Proofs.YtfgppkmhjjnnnaaDoor
open Go.RowKit
set_option linter.unusedVariables false
attribute [local go_sem] Oper.semAt_some

theorem entsOf_app (l : KV) (x : Nat) (u : Int) : entsOf (l ++ [((x : Int), u)]) = entsOf l ++ [(x, u)] := by
  unfold entsOf; rw [List.map_append]; rfl
theorem entsOf_len (l : KV) : (entsOf l).length = l.length := by unfold entsOf; simp
/-- What stays while a table's things are gathered. -/
structure OrJ (w : World) (b : Nat) (L : KV) (st : KV × KV) (W : World) : Prop where
  bel : Below w.heap.size w W
  box : Boxed W (w.heap.size + 1) 53 (.pointer (some ⟨b, 0, none⟩))
  row : ∃ v, Boxed W w.heap.size 22 v ∧ W.ownsRow w.heap.size 28 2 v st.2.length (flatVE (entsOf st.2)) ∧ ∀ g, v.ownBlock = some g → g ≠ w.heap.size ∧ g ≠ w.heap.size + 1 ∧ g ≠ w.heap.size + 2 ∧ g ≠ w.heap.size + 3
  hist : st.2 ++ st.1 = L
section
variable {w : World} {b : Nat} {L : KV} {st : KV × KV} {W : World}
theorem OrJ.keep (h : OrJ w b L st W) {own2 : List Nat} {W' : World} (hb : But own2 W W') (ho : ∀ k ∈ own2, w.heap.size + 2 ≤ k ∧ ∀ v, Boxed W w.heap.size 22 v → v.ownBlock ≠ some k) : OrJ w b L st W' := by
  obtain ⟨u, h1, h2, h3⟩ := h.row
  exact ⟨h.bel.trans (hb.below (fun k hk => by have := (ho k hk).1; omega) h.bel.size), (hb.block _ h.box.lt (fun hk => by have := (ho _ hk).1; omega)).trans h.box,
    ⟨u, (hb.block _ h1.lt (fun hk => by have := (ho _ hk).1; omega)).trans h1, row_but h2 hb (fun g hg hk => (ho _ hk).2 u h1 hg), h3⟩, h.hist⟩
theorem OrJ.noRec (st : KV × KV) : NoRec (w.heap.size + 2) (OrJ w b L st) := fun W o k hk h =>
  h.keep (But.putObj W k o) (fun j hj => by
    simp at hj; subst hj
    obtain ⟨u, h1, h2, h3⟩ := h.row
    refine ⟨by omega, fun v hv e => ?_⟩
    have := h3 j (boxed_eq hv h1 ▸ e)
    omega)
theorem OrJ.alloc (h : OrJ w b L st W) (o : Obj) : OrJ w b L st (W.alloc o) := h.keep (own2 := []) (But.of_below ((Below.refl _ _).alloc (Nat.le_refl _) _)) (fun k hk => by cases hk)
theorem OrJ.drew (h : OrJ w b L st W) : OrJ w b L st W.drew := h.keep (own2 := []) (But.refl _ _).drew (fun k hk => by cases hk)
theorem OrJ.app {r out : KV} {x : Nat} {y : Int} (h : OrJ w b L (((x : Int), y) :: r, out) W) (hz : w.heap.size + 4 ≤ W.heap.size) {v v' : Value} (hv : Boxed W w.heap.size 22 v) (ob : Obj) {w1 : World}
    (hown : w1.ownsRow w.heap.size 28 2 v' (out.length + 1) (flatVE (entsOf out) ++ [.int .u64 (x : Nat), .int .i64 y])) (hg : (W.alloc ob).grownBy w1 v.ownBlock) (hat : v'.ownBlock = v.ownBlock ∨ v'.ownBlock = some (W.alloc ob).heap.size) :
    OrJ w b L (r, out ++ [((x : Int), y)]) (w1.setCell ⟨w.heap.size, 0, none⟩ v') ∧ SameRec (w.heap.size + 2) W (w1.setCell ⟨w.heap.size, 0, none⟩ v') := by
  obtain ⟨u, h1, h2, h3⟩ := h.row
  obtain rfl := boxed_eq hv h1
  have hlv := World.ownsRow.lt h2
  have hsz := hg.size
  have hsame : ∀ k, k < W.heap.size → v.ownBlock ≠ some k → k ≠ w.heap.size → (w1.setCell ⟨w.heap.size, 0, none⟩ v').heap[k]? = W.heap[k]? := fun k hk hne hkb => by
    rw [Below.heap_setCell _ _ _ _ (by simpa using hkb), hg.block k (by simp; omega) (fun e => hne e.symm), heap_alloc_old' W ob k hk]
  have hbut : But (w.heap.size :: (match v.ownBlock with | some g => [g] | none => [])) W (w1.setCell ⟨w.heap.size, 0, none⟩ v') :=
    (((But.refl _ W).alloc ob).grown hg (fun k hk => .inl (by rw [hk]; simp))).set (.inl (by simp)) _
  have hvo : ∀ k ∈ (match v.ownBlock with | some g => [g] | none => []), v.ownBlock = some k := fun k hk => by
    cases e : v.ownBlock with
    | none => rw [e] at hk; cases hk
    | some g => rw [e] at hk; simp at hk; rw [hk]
  refine ⟨⟨h.bel.trans (hbut.below (fun k hk => ?_) h.bel.size), ?_, ⟨v', ?_, ?_, fun g hg' => ?_⟩, by rw [← h.hist]; simp⟩, hsame _ (by omega) (fun e => (h3 _ e).2.2.1 rfl) (by omega), hsame _ (by omega) (fun e => (h3 _ e).2.2.2 rfl) (by omega)⟩
  · rcases List.mem_cons.1 hk with rfl | hk
    · omega
    · exact (hlv _ (hvo _ hk)).1
  · exact (hsame _ h.box.lt (fun e => (h3 _ e).2.1 rfl) (by omega)).trans h.box
  · have hb1 : Boxed w1 w.heap.size 22 v := (hv.alloc ob).kept hg (fun e => (h3 _ e.symm).1 rfl)
    exact hb1.set v'
  · simp only
    rw [List.length_append, entsOf_app, flatVE_app]
    refine row_but hown ((But.refl [w.heap.size] w1).set (.inl (by simp)) _) (fun g hg' hk => ?_)
    simp at hk
    subst hk
    rcases hat with e | e
    · exact (h3 _ (e ▸ hg')).1 rfl
    · rw [hg'] at e; simp at e; omega
  · rcases hat with e | e
    · exact h3 g (e ▸ hg')
    · rw [hg'] at e
      have hgz : g = W.heap.size + 1 := by simpa using e
      exact ⟨by omega, by omega, by omega, by omega⟩
theorem orC (w : World) (b : Nat) (L : KV) : EachC w Prod.fst (OrJ w b L) (fun s x W => OrJ w b L s W ∧ ∃ r, s.1 = x :: r) (fun s s' => s'.1 = s.1.tail) where
  stay := fun s W h => StayN.of_below h.bel
  drew := fun s W h => h.drew
  yield := fun s W x r h e => ⟨h, r, e⟩
  next := fun s s' h => h
end
set_option maxRecDepth 100000 in
set_option maxHeartbeats 8000000 in
theorem ordered_any (b : Nat) (l : KV) (hn : ∀ y ∈ l, ∃ z : Nat, y.1 = z ∧ okS z) (hlen : l.length ≤ 10000) (w : World) (hT : TabN w b l) :
    Calls Tryd.prog 23 #[.pointer (some ⟨b, 0, none⟩)] w fun e w' => ∃ v S, e = .returned v ∧ w'.ownsRow w.heap.size 28 2 v S.length (flatVE S) ∧ S.Perm (entsOf l) ∧ (S.Pairwise fun x y => ltS y.1 x.1 = false) ∧ Below w.heap.size w w' := by
  obtain ⟨i0, hi, hz0, hz1, hz2⟩ := info_parts infoTE
  obtain ⟨t, ta, h1, h2, h3⟩ := hT.at_
  have HN := Lib.hid hn
  have HAT := Lib.hid h1
  have HT2 := Lib.hid h2
  have HT3 := Lib.hid h3
  have HALL := Lib.hid (fun W => allN b W)
  clear hn hT h1 h2 h3
  refine (callsIn_wide (n := 3)).1 ?_
  refine callsIn_of_wp_marks Tryd.func23 rfl trivial ?_ rfl
  simp only [Tryd.ntmps23, List.size_toArray, List.length_cons, List.length_nil, Nat.reduceAdd, Nat.reduceSub, Array.replicate_succ, Array.replicate_zero, List.push_toArray, List.append_toArray, List.nil_append, List.cons_append]
  refine wpIn_wide.2 ?_
  obtain ⟨w1, hw1⟩ : ∃ w1, w.alloc (Obj.cells #[.slice none 0 0] 22) = w1 := ⟨_, rfl⟩
  have HW1 := Lib.hid hw1
  clear hw1
  go_upto_region 2 with fail
  rw [HW1.out]
  go_wp2_with fail
  refine (HALL.out _).mono ?_
  rintro e w2 ⟨rfl, hw2⟩
  have HW2 := Lib.hid hw2
  clear hw2
  go_wp2_with fail
  have hz1 : w1.heap.size = w.heap.size + 1 := by rw [← HW1.out]; simp
  have hb12 : Below w1.heap.size w1 w2 := by rw [HW2.out]; exact (Below.refl _ _).alloc (Nat.le_refl _) _
  have hz2 : w2.heap.size = w.heap.size + 2 := by rw [HW2.out]; simp [hz1]
  have hm1 : Boxed w1 w.heap.size 22 (.slice none 0 0) := by rw [← HW1.out]; exact Boxed.new w _ _
  have hb01 : Below w.heap.size w w1 := by rw [← HW1.out]; exact (Below.refl _ _).alloc (Nat.le_refl _) _
  have hJ2 : OrJ w b l (l, []) w2 := by
    refine ⟨hb01.trans (hb12.mono hb01.size), ?_, ⟨.slice none 0 0, (hb12.block _ hm1.lt).trans hm1, ⟨rfl, .inl ⟨rfl, rfl⟩⟩, fun g hg => by cases hg⟩, rfl⟩
    rw [HW2.out, ← hz1]; exact Boxed.new w1 _ _
  have HJ2 := Lib.hid hJ2
  have HZ2 := Lib.hid hz2
  have HZ1 := Lib.hid hz1
  clear hz1 hb12 hz2 hm1 hb01 hJ2
  rename_i K hKQ
  refine (wpIn_wide (n := 3)).1 ?_
  refine wpIn_actG ?_
  intro A hA
  rw [HZ1.out] at hA
  refine rangeG rfl (by omega) (gf := 41) (lb := #[.pointer (some ⟨w.heap.size + 1, 0, none⟩)]) (by rw [hA]; rfl) trivial (enters_of Tryd.func41 (by kernel_rfl) rfl) (encs := fun (x : Int × Int) => #[.int .u64 x.1, .int .i64 x.2]) (fun _ => rfl)
    (OrJ w b l) (fun s x W => OrJ w b l s W ∧ ∃ r, s.1 = x :: r)
    (fun (s : KV × KV) (x : Int × Int) a1 W => (OrJ w b l s W ∧ ∃ r, s.1 = x :: r) ∧ a1 = { tmps := (((A.tmps.setIfInBounds 8 (.int .u64 x.1)).setIfInBounds 9 (.int .i64 x.2)).setIfInBounds 4 (.int .u64 x.1)).setIfInBounds 5 (.int .i64 x.2), defers := [] })
    (fun c W => False) (fun s s' => s'.1 = s.1.tail) (fun s _ => s.1 = []) (l, [])
    (fun s W o k hk h => OrJ.noRec s W o k (by rw [HZ2.out] at hk; exact hk) h)
    (fun s x a1 W o k hk ⟨⟨h1, hg⟩, h5⟩ => ⟨⟨OrJ.noRec s W o k (by rw [HZ2.out] at hk; exact hk) h1, hg⟩, h5⟩)
    (fun c W o k hk h => h) (fun _ _ _ _ _ h => h) (fun r => (HJ2.out.alloc _).alloc _)
    (all1N (t := t) (a := ta) (orC w b l) (fun W hW => ⟨hW.box.cell, cell_of_row W b 0 _ _ _ ((hW.bel.block b (Array.getElem?_eq_some_iff.1 HAT.out).1).trans HAT.out)⟩) HT2.out HT3.out.symm)
    ?assign ?body ?done ?stop
  case assign =>
    rintro l0 s ⟨x, u⟩ W K' hj hzW hK
    rw [hA] at hK ⊢
    gi_wp2
    exact hK _ _ ⟨hj, rfl⟩ ⟨rfl, rfl⟩
  case body =>
    rintro l0 ⟨rem, out⟩ ⟨x0, u⟩ a1 V ⟨⟨hj, r, hr⟩, rfl⟩ hzV
    simp only at hr
    subst hr
    obtain ⟨x, rfl, hx⟩ := HN.out (x0, u) (by rw [← hj.hist]; simp)
    obtain ⟨vo, hvo, hrow, hne⟩ := hj.row
    simp only at hrow
    have hc := hvo.cell
    rw [HZ2.out] at hzV ⊢
    have hol : out.length ≤ 10000 := by
      have := congrArg List.length hj.hist
      simp at this
      omega
    have HJ := Lib.hid hj
    have HVO := Lib.hid hvo
    have HROW := Lib.hid hrow
    have hzV2 : w.heap.size ≤ V.heap.size := by omega
    clear hj hne hrow hvo hx
    rw [hA]
    have HARM : Hid (∀ (v' : Value) (w5 : World), w5.ownsRow w.heap.size 28 2 v' (out.length + 1) (flatVE (entsOf out) ++ [.int .u64 (x : Nat), .int .i64 u]) → (V.alloc (.cells #[.int .u64 (x : Nat), .int .i64 u] 28)).grownBy w5 vo.ownBlock → (v'.ownBlock = vo.ownBlock ∨ v'.ownBlock = some (V.alloc (.cells #[.int .u64 (x : Nat), .int .i64 u] 28)).heap.size) →
      (OrJ w b l (r, out ++ [((x : Int), u)]) (w5.setCell ⟨w.heap.size, 0, none⟩ v') ∧ SameRec (w.heap.size + 2) V (w5.setCell ⟨w.heap.size, 0, none⟩ v')) ∧ w5.cell? ⟨w.heap.size, 0, none⟩ = some vo ∧ w5.frozen? ⟨w.heap.size, 0, none⟩ = false) := Lib.hid (by
      intro v' w5 hown' hgrow hat
      have hb5 : Boxed w5 w.heap.size 22 vo := (HVO.out.alloc _).kept hgrow (fun e => HVO.out.not_row (by decide) HROW.out e)
      exact ⟨HJ.out.app (by omega) HVO.out _ hown' hgrow hat, hb5.cell, hb5.frozen⟩)
    gi_wp2_with (gi_at_builtin; refine wpListIn_append_own_at _ rfl _ _ 22 rfl w.heap.size 28 i0 (.agg #[.int .u64 0, .int .i64 0]) 2 16 Tryd.underlying22 hi hz0 hz1 hz2 rfl (by decide) _ _ _ rfl (HROW.out.alloc _) ⟨V.heap.size, 0, none⟩ 1 1 [.int .u64 (x : Nat), .int .i64 u] rfl rfl (World.news_of_block (World.alloc_heap_new V _)) (by simp [Value.oneCell']) (by unfold maxLen; omega) (by omega) (by simp; omega) ?_; intro v' w5 hown' hgrow _ hat; have harm := HARM.out v' w5 hown' hgrow hat; obtain ⟨ha1, hc3, hf3⟩ := harm; have HA1 := Lib.hid ha1; obtain ⟨g', cap', rfl⟩ := ownsRow_succ hown'; clear ha1 hgrow hat hown')
    exact ⟨HA1.out.2, (r, out ++ [((x : Int), u)]), rfl, HA1.out.1⟩
  case done =>
    rintro ⟨rem, out⟩ W hj he hD
    simp only at he
    subst he
    have hL := hj.hist
    simp only [List.append_nil] at hL
    subst hL
    rw [hA]
    refine hKQ _ _ ?_
    obtain ⟨vo, hvo, hrow, hne⟩ := hj.row
    simp only at hrow
    have hokE : ∀ x ∈ entsOf out, okS x.1 := fun x hx => by
      unfold entsOf at hx
      obtain ⟨y, hy, rfl⟩ := List.mem_map.1 hx
      obtain ⟨z, e1, e2⟩ := HN.out y hy
      simp only [e1, Int.toNat_natCast]
      exact e2
    rw [← entsOf_len] at hrow
    have HS := Lib.hid (sort_any hokE (by rw [entsOf_len]; omega) hrow hj.bel.size)
    have c0 := hvo.cell
    have HVO := Lib.hid hvo
    have HNE := Lib.hid hne
    have HBEL := Lib.hid hj.bel
    have HD := Lib.hid hD
    rw [HZ2.out] at HD ⊢
    clear hj hvo hne hD hrow hokE
    go_wp2_with fail
    refine HS.out.mono ?_
    rintro e w3 ⟨rfl, S, hp, hs, hown, own, ho, hbut⟩
    have bx : Boxed w3 w.heap.size 22 vo := (hbut.block _ HVO.out.lt (fun hk => (HNE.out _ (ho _ hk)).1 rfl)).trans HVO.out
    have c1 : w3.cell? ⟨w.heap.size, 0, none⟩ = some vo := bx.cell
    clear bx
    have hD3 : w3.heap[w.heap.size + 2]? = some (.deferred (some [])) := (hbut.block _ (Array.getElem?_eq_some_iff.1 HD.out).1 (fun hk => (HNE.out _ (ho _ hk)).2.2.1 rfl)).trans HD.out
    have HD3 := Lib.hid hD3
    have HFIN : Hid ((w3.putObj (w.heap.size + 2) (.deferred none)).ownsRow w.heap.size 28 2 vo S.length (flatVE S) ∧ Below w.heap.size w (w3.putObj (w.heap.size + 2) (.deferred none))) := Lib.hid (by
      have hb := But.putObj w3 (w.heap.size + 2) (.deferred none)
      refine ⟨row_but hown hb (fun g hg hk => ?_), (HBEL.out.trans (hbut.below (fun k hk => ?_) HBEL.out.size)).trans (hb.below (fun k hk => by simp at hk; omega) ?_)⟩
      · simp at hk
        subst hk
        exact (HNE.out _ hg).2.2.1 rfl
      · exact (World.ownsRow.lt hown _ (ho k hk)).1
      · exact Nat.le_trans HBEL.out.size hbut.size)
    have HP := Lib.hid hp
    have HPW := Lib.hid hs
    clear hp hs hown hbut hD3 ho
    go_wp2_with fail
    refine ⟨by simp, .inl ⟨_, _, rfl, run_takeDeferred HD3.out, ?_⟩⟩
    exact ⟨_, results_tmp rfl _ _ _, vo, S, rfl, HFIN.out.1, HP.out, HPW.out, HFIN.out.2⟩
  case stop =>
    rintro c W hF hD
    exact hF.elim
end Go.Proofs.YtfgppkmhjjnnnaaDoor
