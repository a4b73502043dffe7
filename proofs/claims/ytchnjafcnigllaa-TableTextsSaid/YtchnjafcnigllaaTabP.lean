/- What comes one by one of a table, collected as a row of pairs: the statement's own pairs. -/
import Derived.Test.YtchnjafcnigllaaTabR
import Derived.Test.YtchnjafcnigllaaTabI
import Derived.Test.YtchnjafcnigllaaTabH
namespace Go.Proofs.Ytchnjafcnigllaa
open Go.RowKit
set_option linter.unusedVariables false
attribute [local go_sem] Oper.semAt_some

/-- What stays while pairs collects: its two boxes, the row, and all that was there. -/
structure PrJ (w : World) (most : Nat) (out : KV) (W : World) : Prop where
  bel : Below w.heap.size w W
  mst : Boxed W w.heap.size 3 (.int .i64 most)
  row : ∃ v, Boxed W (w.heap.size + 2) 25 v ∧ W.ownsRow w.heap.size 41 2 v out.length (flatVP out) ∧ ∀ g, v.ownBlock = some g → g ≠ w.heap.size ∧ g ≠ w.heap.size + 2 ∧ g ≠ w.heap.size + 3 ∧ g ≠ w.heap.size + 4
section
variable {w : World} {most : Nat} {out : KV} {W : World}
theorem PrJ.keep (h : PrJ w most out W) {own2 : List Nat} {W' : World} (hb : But own2 W W') (ho : ∀ k ∈ own2, w.heap.size ≤ k ∧ k ≠ w.heap.size ∧ k ≠ w.heap.size + 2 ∧ ∀ v, Boxed W (w.heap.size + 2) 25 v → v.ownBlock ≠ some k) : PrJ w most out W' := by
  obtain ⟨u, h1, h2, h3⟩ := h.row
  exact ⟨h.bel.trans (hb.below (fun k hk => (ho k hk).1) h.bel.size), (hb.block _ h.mst.lt (fun hk => (ho _ hk).2.1 rfl)).trans h.mst,
    u, (hb.block _ h1.lt (fun hk => (ho _ hk).2.2.1 rfl)).trans h1, row_but h2 hb (fun g hg hk => (ho _ hk).2.2.2 u h1 hg), h3⟩
theorem PrJ.noRec : NoRec (w.heap.size + 3) (PrJ w most out) := fun W o k hk h =>
  h.keep (But.putObj W k o) (fun j hj => by
    simp at hj; subst hj
    obtain ⟨u, h1, h2, h3⟩ := h.row
    refine ⟨by omega, by omega, by omega, fun v hv e => ?_⟩
    have := h3 j (boxed_eq hv h1 ▸ e)
    omega)
theorem PrJ.alloc (h : PrJ w most out W) (o : Obj) : PrJ w most out (W.alloc o) := h.keep (own2 := []) (But.of_below ((Below.refl _ _).alloc (Nat.le_refl _) _)) (fun k hk => by cases hk)
theorem PrJ.drew (h : PrJ w most out W) : PrJ w most out W.drew := h.keep (own2 := []) (But.refl _ _).drew (fun k hk => by cases hk)
/-- One more is kept. -/
theorem PrJ.app (h : PrJ w most out W) (x : Int × Int) (hz : w.heap.size + 5 ≤ W.heap.size) {v v' : Value} (hv : Boxed W (w.heap.size + 2) 25 v) (ob : Obj) {w1 : World}
    (hown : w1.ownsRow w.heap.size 41 2 v' (out.length + 1) (flatVP out ++ [.int .i64 x.1, .int .i64 x.2])) (hg : (W.alloc ob).grownBy w1 v.ownBlock) (hat : v'.ownBlock = v.ownBlock ∨ v'.ownBlock = some (W.alloc ob).heap.size) :
    PrJ w most (out ++ [x]) (w1.setCell ⟨w.heap.size + 2, 0, none⟩ v') ∧ SameRec (w.heap.size + 3) W (w1.setCell ⟨w.heap.size + 2, 0, none⟩ v') := by
  obtain ⟨u, h1, h2, h3⟩ := h.row
  obtain rfl := boxed_eq hv h1
  have hlv := World.ownsRow.lt h2
  have hsz := hg.size
  have hsame : ∀ k, k < W.heap.size → v.ownBlock ≠ some k → k ≠ w.heap.size + 2 → (w1.setCell ⟨w.heap.size + 2, 0, none⟩ v').heap[k]? = W.heap[k]? := fun k hk hne hkb => by
    rw [Below.heap_setCell _ _ _ _ (by simpa using hkb), hg.block k (by simp; omega) (fun e => hne e.symm), heap_alloc_old' W ob k hk]
  have hbut : But ((w.heap.size + 2) :: (match v.ownBlock with | some g => [g] | none => [])) W (w1.setCell ⟨w.heap.size + 2, 0, none⟩ v') :=
    (((But.refl _ W).alloc ob).grown hg (fun k hk => .inl (by rw [hk]; simp))).set (.inl (by simp)) _
  have hvo : ∀ k ∈ (match v.ownBlock with | some g => [g] | none => []), v.ownBlock = some k := fun k hk => by
    cases e : v.ownBlock with
    | none => rw [e] at hk; cases hk
    | some g => rw [e] at hk; simp at hk; rw [hk]
  refine ⟨⟨h.bel.trans (hbut.below (fun k hk => ?_) h.bel.size), ?_, v', ?_, ?_, fun g hg' => ?_⟩, hsame _ (by omega) (fun e => (h3 _ e).2.2.1 rfl) (by omega), hsame _ (by omega) (fun e => (h3 _ e).2.2.2 rfl) (by omega)⟩
  · rcases List.mem_cons.1 hk with rfl | hk
    · omega
    · exact (hlv _ (hvo _ hk)).1
  · exact (hsame _ h.mst.lt (fun e => (h3 _ e).1 rfl) (by omega)).trans h.mst
  · have hb1 : Boxed w1 (w.heap.size + 2) 25 v := (hv.alloc ob).kept hg (fun e => (h3 _ e.symm).2.1 rfl)
    exact hb1.set v'
  · rw [List.length_append, flatVP_app]
    refine row_but hown ((But.refl [w.heap.size + 2] w1).set (.inl (by simp)) _) (fun g hg' hk => ?_)
    simp at hk
    subst hk
    rcases hat with e | e
    · exact (h3 _ (e ▸ hg')).2.1 rfl
    · rw [hg'] at e; simp at e; omega
  · rcases hat with e | e
    · exact h3 g (e ▸ hg')
    · rw [hg'] at e
      have hgz : g = W.heap.size + 1 := by simpa using e
      exact ⟨by omega, by omega, by omega, by omega⟩
end
/-- Between two rounds of pairs: what is still to come, what came. -/
def PrA (w : World) (most : Nat) (L : KV) (s : KV × KV) (W : World) : Prop := PrJ w most s.2 W ∧ s.2 ++ s.1 = L ∧ s.2.length < most
theorem pairC (w : World) (most : Nat) (L : KV) : EachC w Prod.fst (PrA w most L) (fun s x W => PrA w most L s W ∧ ∃ r, s.1 = x :: r) (fun s s' => s'.1 = s.1.tail) where
  stay := fun s W h => StayN.of_below h.1.bel
  drew := fun s W h => ⟨h.1.drew, h.2⟩
  yield := fun s W x r h e => ⟨h, r, e⟩
  next := fun s s' h => h

theorem eqSeq8 (f : Fn) (a c : Array Value) (w : World) : (binOp .eql 32 (.func f a c) .nilFunc).run Try.prog w = .ok (.bool false) w := by kernel_rfl
attribute [local go_sem] eqSeq8

set_option maxRecDepth 100000 in
set_option maxHeartbeats 8000000 in
theorem pairs_any (gf : Nat) (lb : Array Value) (most : Nat) (hm1 : 1 ≤ most) (hm2 : most ≤ 1048576) (L : KV) (w : World) (heg : ∀ args w, (callFunc gf args).run Try.prog w = .ok (.enter gf args) w)
    (hS : ∀ Jx : Code → World → Prop, SeqG Fence.wide 2 Try.prog gf lb (fun x => #[.int .i64 x.1, .int .i64 x.2]) (w.heap.size + 3) (PrA w most L) (fun s x W => PrA w most L s W ∧ ∃ r, s.1 = x :: r) Jx (fun s s' => s'.1 = s.1.tail) (fun s _ => s.1 = []) (L, [])) :
    Calls Try.prog 13 #[.func (.func gf) #[] lb, .int .i64 most] w fun e w' => ∃ v, e = .returned v ∧ w'.ownsRow w.heap.size 41 2 v (L.take most).length (flatVP (L.take most)) ∧ Below w.heap.size w w' := by
  obtain ⟨i0, hi, hz0, hz1, hz2⟩ := info_parts infoTP
  have HG := Lib.hid heg
  have HSQ := Lib.hid hS
  clear heg hS
  refine (callsIn_wide (n := 3)).1 ?_
  refine callsIn_of_wp_marks Try.func13 rfl trivial ?_ rfl
  simp only [Try.ntmps13, List.size_toArray, List.length_cons, List.length_nil, Nat.reduceAdd, Nat.reduceSub, Array.replicate_succ, Array.replicate_zero, List.push_toArray, List.append_toArray, List.nil_append, List.cons_append]
  refine wpIn_wide.2 ?_
  go_wp2_with fail
  obtain ⟨w3, hw3⟩ : ∃ w3, ((w.alloc (Obj.cells #[.int .i64 most] 3)).alloc (Obj.cells #[] 41)).alloc (Obj.cells #[.slice (some ⟨w.heap.size + 1, 0, none⟩) 0 0] 25) = w3 := ⟨_, rfl⟩
  have hz3 : w3.heap.size = w.heap.size + 3 := by rw [← hw3]; simp
  have HJ0 : Hid (PrJ w most [] w3) := Lib.hid (by
    rw [← hw3]
    have e1 : (w.alloc (Obj.cells #[.int .i64 most] 3)).heap.size = w.heap.size + 1 := by simp
    have e2 : ((w.alloc (Obj.cells #[.int .i64 most] 3)).alloc (Obj.cells #[] 41)).heap.size = w.heap.size + 2 := by simp
    refine ⟨(((Below.refl _ _).alloc (Nat.le_refl _) _).alloc (by simp) _).alloc (by simp; omega) _, ((Boxed.new w _ _).alloc _).alloc _, .slice (some ⟨w.heap.size + 1, 0, none⟩) 0 0, ?_, ?_, fun g hg => ?_⟩
    · have h := Boxed.new ((w.alloc (Obj.cells #[.int .i64 most] 3)).alloc (Obj.cells #[] 41)) 25 (.slice (some ⟨w.heap.size + 1, 0, none⟩) 0 0)
      rw [e2] at h
      exact h
    · have h := own_empty (w.alloc (Obj.cells #[.int .i64 most] 3)) 41 2 w.heap.size (by simp)
      rw [e1] at h
      exact h.alloc _
    · have : g = w.heap.size + 1 := by simpa [Value.ownBlock] using hg.symm
      exact ⟨by omega, by omega, by omega, by omega⟩)
  have HZ3 := Lib.hid hz3
  rw [hw3]
  clear hw3 hz3
  rename_i K hKQ
  refine (wpIn_wide (n := 3)).1 ?_
  refine wpIn_actG ?_
  intro A hA
  have tail : ∀ (out : KV) (W : World), PrJ w most out W → out = L.take most → W.heap[w.heap.size + 3]? = some (.deferred (some [])) →
      K { A with defers := { target := .collected w3.heap.size, args := #[] } :: A.defers } W := by
    intro out W hj htk hD
    rw [hA]
    refine hKQ _ _ ?_
    obtain ⟨vo, hvo, hrow, hne⟩ := hj.row
    have hc := hvo.cell
    have hj2 := PrJ.noRec W (.deferred none) _ (.inl rfl) hj
    obtain ⟨v2, q1, q2, q3⟩ := hj2.row
    have HQ2 := Lib.hid q2
    have HE2 := Lib.hid hj2
    have HEQ : Hid (v2 = vo) := Lib.hid (boxed_eq q1 ((World.putObj_heap_other (by omega)).trans hvo))
    have HD := Lib.hid hD
    have HT := Lib.hid htk
    clear hj hj2 hvo hrow hne q1 q2 q3 hD htk
    rw [HZ3.out]
    go_wp2_with fail
    refine ⟨by simp, .inl ⟨_, _, rfl, run_takeDeferred HD.out, ?_⟩⟩
    have hq := HQ2.out
    rw [HEQ.out, HT.out] at hq
    exact ⟨_, results_tmp rfl _ _ _, vo, rfl, hq, HE2.out.bel⟩
  have HTAIL := Lib.hid tail
  clear tail
  refine rangeG rfl (by omega) (gf := gf) (lb := lb) (by rw [hA]; rfl) trivial HG.out (encs := fun (x : Int × Int) => #[.int .i64 x.1, .int .i64 x.2]) (fun _ => rfl)
    (PrA w most L) (fun s x W => PrA w most L s W ∧ ∃ r, s.1 = x :: r)
    (fun (s : KV × KV) (x : Int × Int) a1 W => (PrA w most L s W ∧ ∃ r, s.1 = x :: r) ∧ a1 = { tmps := (((A.tmps.setIfInBounds 13 (.int .i64 x.1)).setIfInBounds 14 (.int .i64 x.2)).setIfInBounds 6 (.int .i64 x.1)).setIfInBounds 7 (.int .i64 x.2), defers := [] })
    (fun c W => c = .exit 0 ∧ ∃ out, PrJ w most out W ∧ out = L.take most) (fun s s' => s'.1 = s.1.tail) (fun s _ => s.1 = []) (L, [])
    (fun s W o k hk h => ⟨PrJ.noRec W o k (by rw [HZ3.out] at hk; exact hk) h.1, h.2⟩)
    (fun s x a1 W o k hk ⟨⟨h1, hg⟩, h5⟩ => ⟨⟨⟨PrJ.noRec W o k (by rw [HZ3.out] at hk; exact hk) h1.1, h1.2⟩, hg⟩, h5⟩)
    (fun c W o k hk ⟨h0, l1, h, h2⟩ => ⟨h0, l1, PrJ.noRec W o k (by rw [HZ3.out] at hk; exact hk) h, h2⟩) (fun _ _ _ _ _ h => h) (fun r => ⟨(HJ0.out.alloc _).alloc _, rfl, hm1⟩)
    (by rw [HZ3.out]; exact HSQ.out _)
    ?assign ?body ?done ?stop
  case assign =>
    rintro l0 s ⟨x, u⟩ W K' hj hzW hK
    rw [hA] at hK ⊢
    gi_wp2
    exact hK _ _ ⟨hj, rfl⟩ ⟨rfl, rfl⟩
  case body =>
    rintro l0 ⟨rem, out⟩ ⟨x, u⟩ a1 V ⟨⟨⟨hj, hL, hlt⟩, r, hr⟩, rfl⟩ hzV
    simp only at hj hL hlt hr ⊢
    subst hr
    obtain ⟨vo, hvo, hrow, hne⟩ := hj.row
    have hc := hvo.cell
    have hm0 := hj.mst.cell
    rw [HZ3.out] at hzV ⊢
    have HJ := Lib.hid hj
    have HLL := Lib.hid hL
    have HVO := Lib.hid hvo
    have HROW := Lib.hid hrow
    have hzV2 : w.heap.size ≤ V.heap.size := by omega
    have hnx : ((out.length : Int) + 1) = ((out.length + 1 : Nat) : Int) := by omega
    have HNX := Lib.hid hnx
    clear hj hne hrow hvo hnx hL
    rw [hA]
    have HARM : Hid (∀ (v' : Value) (w5 : World), w5.ownsRow w.heap.size 41 2 v' (out.length + 1) (flatVP out ++ [.int .i64 x, .int .i64 u]) → (V.alloc (.cells #[.int .i64 x, .int .i64 u] 41)).grownBy w5 vo.ownBlock → (v'.ownBlock = vo.ownBlock ∨ v'.ownBlock = some (V.alloc (.cells #[.int .i64 x, .int .i64 u] 41)).heap.size) →
      (PrJ w most (out ++ [(x, u)]) (w5.setCell ⟨w.heap.size + 2, 0, none⟩ v') ∧ SameRec (w.heap.size + 3) V (w5.setCell ⟨w.heap.size + 2, 0, none⟩ v')) ∧ w5.cell? ⟨w.heap.size + 2, 0, none⟩ = some vo ∧ w5.frozen? ⟨w.heap.size + 2, 0, none⟩ = false ∧ w5.cell? ⟨w.heap.size, 0, none⟩ = some (.int .i64 most)) := Lib.hid (by
      intro v' w5 hown' hgrow hat
      have hb5 : Boxed w5 (w.heap.size + 2) 25 vo := (HVO.out.alloc _).kept hgrow (fun e => HVO.out.not_row (by decide) HROW.out e)
      have hn5 : Boxed w5 w.heap.size 3 (.int .i64 most) := (HJ.out.mst.alloc _).kept hgrow (fun e => HJ.out.mst.not_row (by decide) HROW.out e)
      exact ⟨HJ.out.app (x, u) (by omega) HVO.out _ hown' hgrow hat, hb5.cell, hb5.frozen, hn5.cell⟩)
    by_cases hb : out.length + 1 = most
    · have hbq : (((out.length + 1 : Nat) : Int) == (most : Int)) = true := by rw [hb]; simp
      gi_wp2_with (gi_at_builtin; refine wpListIn_append_own_at _ rfl _ _ 25 rfl w.heap.size 41 i0 (.agg #[.int .i64 0, .int .i64 0]) 2 16 Try.underlying25 hi hz0 hz1 hz2 rfl (by decide) _ _ _ rfl (HROW.out.alloc _) ⟨V.heap.size, 0, none⟩ 1 1 [.int .i64 x, .int .i64 u] rfl rfl (World.news_of_block (World.alloc_heap_new V _)) (by simp [Value.oneCell']) (by unfold maxLen; omega) (by omega) (by simp; omega) ?_; intro v' w5 hown' hgrow _ hat; have harm := HARM.out v' w5 hown' hgrow hat; obtain ⟨ha1, hc3, hf3, hn3⟩ := harm; have HA1 := Lib.hid ha1; obtain ⟨g', cap', rfl⟩ := ownsRow_succ hown'; clear ha1 hgrow hat hown')
      have h := HA1.out
      rw [hb] at h
      exact ⟨h.2, rfl, out ++ [(x, u)], h.1, by rw [← HLL.out, List.take_append, List.take_of_length_le (by omega), show most - out.length = 1 from by omega]; rfl⟩
    · have hbq : (((out.length + 1 : Nat) : Int) == (most : Int)) = false := by simp; omega
      gi_wp2_with (gi_at_builtin; refine wpListIn_append_own_at _ rfl _ _ 25 rfl w.heap.size 41 i0 (.agg #[.int .i64 0, .int .i64 0]) 2 16 Try.underlying25 hi hz0 hz1 hz2 rfl (by decide) _ _ _ rfl (HROW.out.alloc _) ⟨V.heap.size, 0, none⟩ 1 1 [.int .i64 x, .int .i64 u] rfl rfl (World.news_of_block (World.alloc_heap_new V _)) (by simp [Value.oneCell']) (by unfold maxLen; omega) (by omega) (by simp; omega) ?_; intro v' w5 hown' hgrow _ hat; have harm := HARM.out v' w5 hown' hgrow hat; obtain ⟨ha1, hc3, hf3, hn3⟩ := harm; have HA1 := Lib.hid ha1; obtain ⟨g', cap', rfl⟩ := ownsRow_succ hown'; clear ha1 hgrow hat hown')
      exact ⟨HA1.out.2, (r, out ++ [(x, u)]), rfl, HA1.out.1, by rw [← HLL.out]; simp, by simp; omega⟩
  case done =>
    rintro ⟨rem, out⟩ W ⟨hj, hL, hlt⟩ he hD
    simp only at hj hL hlt he
    subst he
    rw [List.append_nil] at hL
    subst hL
    exact HTAIL.out out W hj (List.take_of_length_le (by omega)).symm (by rw [← HZ3.out]; exact hD)
  case stop =>
    rintro c W ⟨rfl, out, hj, ho⟩ hD
    refine wpIn_exit ?_
    simp only [Exit.inBlock, if_pos]
    exact HTAIL.out out W hj ho (by rw [← HZ3.out]; exact hD)

/-- What pairs makes of All. -/
theorem pairsAll (Bh b : Nat) (l : KV) (most : Nat) (hm1 : 1 ≤ most) (hm2 : most ≤ 1048576) (w : World) (hT : TabN w b l) (hp : w.heap[Bh]? = some (.cells #[.pointer (some ⟨b, 0, none⟩)] 24 (0, 0))) :
    Calls Try.prog 13 #[.func (.func 45) #[] #[.pointer (some ⟨Bh, 0, none⟩)], .int .i64 most] w fun e w' => ∃ v, e = .returned v ∧ w'.ownsRow w.heap.size 41 2 v (l.take most).length (flatVP (l.take most)) ∧ Below w.heap.size w w' := by
  obtain ⟨t, a, h1, h2, h3⟩ := hT.at_
  exact pairs_any _ _ most hm1 hm2 l w (enters_of Try.func45 (by kernel_rfl) rfl) (fun Jx => all1N (t := t) (a := a) (pairC w most l) (fun W hW => ⟨cell_of_row W Bh 0 _ _ _ ((hW.1.bel.block Bh (Array.getElem?_eq_some_iff.1 hp).1).trans hp), cell_of_row W b 0 _ _ _ ((hW.1.bel.block b (Array.getElem?_eq_some_iff.1 h1).1).trans h1)⟩) h2 h3.symm)
/-- What pairs makes of Back. -/
theorem pairsBack (Bh b : Nat) (l : KV) (most : Nat) (hm1 : 1 ≤ most) (hm2 : most ≤ 1048576) (w : World) (hT : TabN w b l) (hp : w.heap[Bh]? = some (.cells #[.pointer (some ⟨b, 0, none⟩)] 24 (0, 0))) :
    Calls Try.prog 13 #[.func (.func 47) #[] #[.pointer (some ⟨Bh, 0, none⟩)], .int .i64 most] w fun e w' => ∃ v, e = .returned v ∧ w'.ownsRow w.heap.size 41 2 v (l.reverse.take most).length (flatVP (l.reverse.take most)) ∧ Below w.heap.size w w' := by
  obtain ⟨t, a, h1, h2, h3⟩ := hT.at_
  exact pairs_any _ _ most hm1 hm2 l.reverse w (enters_of Try.func47 (by kernel_rfl) rfl) (fun Jx => back1N (t := t) (a := a) (pairC w most l.reverse) (fun W hW => ⟨cell_of_row W Bh 0 _ _ _ ((hW.1.bel.block Bh (Array.getElem?_eq_some_iff.1 hp).1).trans hp), cell_of_row W b 0 _ _ _ ((hW.1.bel.block b (Array.getElem?_eq_some_iff.1 h1).1).trans h1)⟩) h2 (by rw [h3]))
end Go.Proofs.Ytchnjafcnigllaa
