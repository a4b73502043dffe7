/- What comes one by one, collected, where the iterator has boxes of its own, which stay: a frame of blocks goes with the state. -/
import Derived.Test.YtchnjafcnigllaaTabP
import Derived.Test.YtchnjafcnigllaaRangeH
namespace Go.Proofs.Ytchnjafcnigllaa
open Go.RowKit
set_option linter.unusedVariables false
attribute [local go_sem] Oper.semAt_some eqSeq8

/-- Blocks that stay while pairs collects. -/
structure FrS (w : World) (F : List (Nat × Obj)) (W : World) : Prop where
  at_ : ∀ x ∈ F, W.heap[x.1]? = some x.2 ∧ w.heap.size + 5 ≤ x.1
  off : ∀ x ∈ F, ∀ v, Boxed W (w.heap.size + 2) 25 v → v.ownBlock ≠ some x.1
section
variable {w : World} {most : Nat} {L : KV} {W : World} {F F' : List (Nat × Obj)}
theorem FrS.nil : FrS w [] W := ⟨(fun x h => nomatch h), (fun x h => nomatch h)⟩
theorem FrS.sub (h : FrS w F W) (hs : ∀ x ∈ F', x ∈ F) : FrS w F' W := ⟨fun x hx => h.at_ x (hs x hx), fun x hx => h.off x (hs x hx)⟩
theorem FrS.but {own : List Nat} {W' : World} (h : FrS w F W) (hb : But own W W') (hB : w.heap.size + 2 < W.heap.size) (h2 : w.heap.size + 2 ∉ own) (ho : ∀ x ∈ F, x.1 ∉ own) : FrS w F W' :=
  ⟨fun x hx => ⟨(hb.block _ (Array.getElem?_eq_some_iff.1 (h.at_ x hx).1).1 (ho x hx)).trans (h.at_ x hx).1, (h.at_ x hx).2⟩, fun x hx v hv => h.off x hx v ((hb.block _ hB h2).symm.trans hv)⟩
/-- One more is kept. -/
theorem FrS.app (h : FrS w F W) {out : KV} (hj : PrJ w most out W) {v v' : Value} (hv : Boxed W (w.heap.size + 2) 25 v) (ob : Obj) {w1 : World}
    (hg : (W.alloc ob).grownBy w1 v.ownBlock) (hat : v'.ownBlock = v.ownBlock ∨ v'.ownBlock = some (W.alloc ob).heap.size) (hv' : Boxed (w1.setCell ⟨w.heap.size + 2, 0, none⟩ v') (w.heap.size + 2) 25 v') : FrS w F (w1.setCell ⟨w.heap.size + 2, 0, none⟩ v') := by
  have hlt : ∀ x ∈ F, x.1 < W.heap.size := fun x hx => (Array.getElem?_eq_some_iff.1 (h.at_ x hx).1).1
  have hsame : ∀ k, k < W.heap.size → v.ownBlock ≠ some k → k ≠ w.heap.size + 2 → (w1.setCell ⟨w.heap.size + 2, 0, none⟩ v').heap[k]? = W.heap[k]? := fun k hk hne hkb => by
    rw [Below.heap_setCell _ _ _ _ (by simpa using hkb), hg.block k (by simp; omega) (fun e => hne e.symm), heap_alloc_old' W ob k hk]
  refine ⟨fun x hx => ⟨(hsame _ (hlt x hx) (h.off x hx v hv) (by have := (h.at_ x hx).2; omega)).trans (h.at_ x hx).1, (h.at_ x hx).2⟩, fun x hx u hu => ?_⟩
  obtain rfl := boxed_eq hv' hu
  rcases hat with e | e
  · rw [e]; exact h.off x hx v hv
  · rw [e]
    have := hlt x hx
    simp
    omega
/-- Between two rounds: what is still to come, what came, what stays. -/
def PrF (w : World) (most : Nat) (L : KV) (s : KV × KV × List (Nat × Obj)) (W : World) : Prop := (PrJ w most s.2.1 W ∧ s.2.1 ++ s.1 = L ∧ s.2.1.length < most) ∧ FrS w s.2.2 W
/-- Where the row is full. -/
def JxF (w : World) (most : Nat) (L : KV) (s : KV × KV × List (Nat × Obj)) (c : Code) (W : World) : Prop := c = .exit 0 ∧ ∃ out, PrJ w most out W ∧ out = L.take most ∧ FrS w s.2.2 W
theorem PrJ.box {out : KV} (h : PrJ w most out W) : w.heap.size + 2 < W.heap.size := by
  obtain ⟨u, h1, _⟩ := h.row
  exact h1.lt
theorem FrS.noRec (h : FrS w F W) (hB : w.heap.size + 2 < W.heap.size) {o : Obj} {k : Nat} (hk : k = w.heap.size + 3 ∨ k = w.heap.size + 3 + 1) : FrS w F (W.putObj k o) :=
  h.but (But.putObj W k o) hB (by simp; omega) (fun x hx => by have := (h.at_ x hx).2; simp; omega)
theorem PrF.noRec {s : KV × KV × List (Nat × Obj)} (h : PrF w most L s W) {o : Obj} {k : Nat} (hk : k = w.heap.size + 3 ∨ k = w.heap.size + 3 + 1) : PrF w most L s (W.putObj k o) :=
  ⟨⟨PrJ.noRec W o k hk h.1.1, h.1.2⟩, h.2.noRec h.1.1.box hk⟩
theorem JxF.noRec {s : KV × KV × List (Nat × Obj)} {c : Code} (h : JxF w most L s c W) {o : Obj} {k : Nat} (hk : k = w.heap.size + 3 ∨ k = w.heap.size + 3 + 1) : JxF w most L s c (W.putObj k o) := by
  obtain ⟨h0, out, h1, h2, h3⟩ := h
  exact ⟨h0, out, PrJ.noRec W o k hk h1, h2, h3.noRec h1.box hk⟩
end

set_option maxRecDepth 100000 in
set_option maxHeartbeats 8000000 in
theorem pairsF (gf : Nat) (lb : Array Value) (most : Nat) (hm1 : 1 ≤ most) (hm2 : most ≤ 1048576) (L : KV) (w : World) (heg : ∀ args w, (callFunc gf args).run Try.prog w = .ok (.enter gf args) w)
    (hS : SeqH Fence.wide 2 Try.prog gf lb (fun x => #[.int .i64 x.1, .int .i64 x.2]) (w.heap.size + 3) (PrF w most L) (fun s x W => PrF w most L s W ∧ ∃ r, s.1 = x :: r) (JxF w most L) (fun s s' => s'.1 = s.1.tail ∧ s'.2.2 = s.2.2) (fun s _ => s.1 = []) (L, [], [])) :
    Calls Try.prog 13 #[.func (.func gf) #[] lb, .int .i64 most] w fun e w' => ∃ v, e = .returned v ∧ w'.ownsRow w.heap.size 41 2 v (L.take most).length (flatVP (L.take most)) ∧ Below w.heap.size w w' := by
  obtain ⟨i0, hi, hz0, hz1, hz2⟩ := info_parts infoTP
  have HG := Lib.hid heg
  have HSQ := Lib.hid hS
  clear heg hS
  refine (callsIn_wide (n := 3)).1 ?_
  refine callsIn_of_wp_marks Try.func13 rfl trivial ?_ rfl
  simp only [Try.ntmps13, List.size_toArray, List.length_cons, List.length_nil, Nat.reduceAdd, Nat.reduceSub, Array.replicate_succ, Array.replicate_zero, List.push_toArray, List.append_toArray, List.nil_append, List.cons_append]
  refine wpIn_wide.2 ?_
  go_wp2_with fail
  obtain ⟨w3, hw3⟩ : ∃ w3, ((w.alloc (Obj.cells #[.int .i64 most] 3)).alloc (Obj.cells #[] 41)).alloc (Obj.cells #[.slice (some ⟨w.heap.size + 1, 0, none⟩) 0 0] 25) = w3 := ⟨_, rfl⟩
  have hz3 : w3.heap.size = w.heap.size + 3 := by rw [← hw3]; simp
  have HJ0 : Hid (PrJ w most [] w3) := Lib.hid (by
    rw [← hw3]
    have e1 : (w.alloc (Obj.cells #[.int .i64 most] 3)).heap.size = w.heap.size + 1 := by simp
    have e2 : ((w.alloc (Obj.cells #[.int .i64 most] 3)).alloc (Obj.cells #[] 41)).heap.size = w.heap.size + 2 := by simp
    refine ⟨(((Below.refl _ _).alloc (Nat.le_refl _) _).alloc (by simp) _).alloc (by simp; omega) _, ((Boxed.new w _ _).alloc _).alloc _, .slice (some ⟨w.heap.size + 1, 0, none⟩) 0 0, ?_, ?_, fun g hg => ?_⟩
    · have h := Boxed.new ((w.alloc (Obj.cells #[.int .i64 most] 3)).alloc (Obj.cells #[] 41)) 25 (.slice (some ⟨w.heap.size + 1, 0, none⟩) 0 0)
      rw [e2] at h
      exact h
    · have h := own_empty (w.alloc (Obj.cells #[.int .i64 most] 3)) 41 2 w.heap.size (by simp)
      rw [e1] at h
      exact h.alloc _
    · have : g = w.heap.size + 1 := by simpa [Value.ownBlock] using hg.symm
      exact ⟨by omega, by omega, by omega, by omega⟩)
  have HZ3 := Lib.hid hz3
  rw [hw3]
  clear hw3 hz3
  rename_i K hKQ
  refine (wpIn_wide (n := 3)).1 ?_
  refine wpIn_actG ?_
  intro A hA
  have tail : ∀ (out : KV) (W : World), PrJ w most out W → out = L.take most → W.heap[w.heap.size + 3]? = some (.deferred (some [])) →
      K { A with defers := { target := .collected w3.heap.size, args := #[] } :: A.defers } W := by
    intro out W hj htk hD
    rw [hA]
    refine hKQ _ _ ?_
    obtain ⟨vo, hvo, hrow, hne⟩ := hj.row
    have hc := hvo.cell
    have hj2 := PrJ.noRec W (.deferred none) _ (.inl rfl) hj
    obtain ⟨v2, q1, q2, q3⟩ := hj2.row
    have HQ2 := Lib.hid q2
    have HE2 := Lib.hid hj2
    have HEQ : Hid (v2 = vo) := Lib.hid (boxed_eq q1 ((World.putObj_heap_other (by omega)).trans hvo))
    have HD := Lib.hid hD
    have HT := Lib.hid htk
    clear hj hj2 hvo hrow hne q1 q2 q3 hD htk
    rw [HZ3.out]
    go_wp2_with fail
    refine ⟨by simp, .inl ⟨_, _, rfl, run_takeDeferred HD.out, ?_⟩⟩
    have hq := HQ2.out
    rw [HEQ.out, HT.out] at hq
    exact ⟨_, results_tmp rfl _ _ _, vo, rfl, hq, HE2.out.bel⟩
  have HTAIL := Lib.hid tail
  clear tail
  refine rangeH rfl (by omega) (gf := gf) (lb := lb) (by rw [hA]; rfl) trivial HG.out (encs := fun (x : Int × Int) => #[.int .i64 x.1, .int .i64 x.2]) (fun _ => rfl)
    (PrF w most L) (fun s x W => PrF w most L s W ∧ ∃ r, s.1 = x :: r)
    (fun (s : KV × KV × List (Nat × Obj)) (x : Int × Int) a1 W => (PrF w most L s W ∧ ∃ r, s.1 = x :: r) ∧ a1 = { tmps := (((A.tmps.setIfInBounds 13 (.int .i64 x.1)).setIfInBounds 14 (.int .i64 x.2)).setIfInBounds 6 (.int .i64 x.1)).setIfInBounds 7 (.int .i64 x.2), defers := [] })
    (JxF w most L) (fun s s' => s'.1 = s.1.tail ∧ s'.2.2 = s.2.2) (fun s _ => s.1 = []) (L, [], [])
    (fun s W o k hk h => h.noRec (by rw [HZ3.out] at hk; exact hk))
    (fun s x a1 W o k hk ⟨⟨h1, hg⟩, h5⟩ => ⟨⟨h1.noRec (by rw [HZ3.out] at hk; exact hk), hg⟩, h5⟩)
    (fun s c W o k hk h => h.noRec (by rw [HZ3.out] at hk; exact hk)) (fun _ _ _ _ _ h => h) (fun r => ⟨⟨(HJ0.out.alloc _).alloc _, rfl, hm1⟩, FrS.nil⟩)
    (by rw [HZ3.out]; exact HSQ.out)
    ?assign ?body ?done ?stop
  case assign =>
    rintro l0 s ⟨x, u⟩ W K' hj hzW hK
    rw [hA] at hK ⊢
    gi_wp2
    exact hK _ _ ⟨hj, rfl⟩ ⟨rfl, rfl⟩
  case body =>
    rintro l0 ⟨rem, out, Fr⟩ ⟨x, u⟩ a1 V ⟨⟨⟨⟨hj, hL, hlt⟩, hFr⟩, r, hr⟩, rfl⟩ hzV
    have HFR := Lib.hid hFr
    clear hFr
    simp only at hj hL hlt hr ⊢
    subst hr
    obtain ⟨vo, hvo, hrow, hne⟩ := hj.row
    have hc := hvo.cell
    have hm0 := hj.mst.cell
    rw [HZ3.out] at hzV ⊢
    have HJ := Lib.hid hj
    have HLL := Lib.hid hL
    have HVO := Lib.hid hvo
    have HROW := Lib.hid hrow
    have hzV2 : w.heap.size ≤ V.heap.size := by omega
    have hnx : ((out.length : Int) + 1) = ((out.length + 1 : Nat) : Int) := by omega
    have HNX := Lib.hid hnx
    clear hj hne hrow hvo hnx hL
    rw [hA]
    have HARM : Hid (∀ (v' : Value) (w5 : World), w5.ownsRow w.heap.size 41 2 v' (out.length + 1) (flatVP out ++ [.int .i64 x, .int .i64 u]) → (V.alloc (.cells #[.int .i64 x, .int .i64 u] 41)).grownBy w5 vo.ownBlock → (v'.ownBlock = vo.ownBlock ∨ v'.ownBlock = some (V.alloc (.cells #[.int .i64 x, .int .i64 u] 41)).heap.size) →
      ((PrJ w most (out ++ [(x, u)]) (w5.setCell ⟨w.heap.size + 2, 0, none⟩ v') ∧ SameRec (w.heap.size + 3) V (w5.setCell ⟨w.heap.size + 2, 0, none⟩ v')) ∧ FrS w Fr (w5.setCell ⟨w.heap.size + 2, 0, none⟩ v')) ∧ w5.cell? ⟨w.heap.size + 2, 0, none⟩ = some vo ∧ w5.frozen? ⟨w.heap.size + 2, 0, none⟩ = false ∧ w5.cell? ⟨w.heap.size, 0, none⟩ = some (.int .i64 most)) := Lib.hid (by
      intro v' w5 hown' hgrow hat
      have hb5 : Boxed w5 (w.heap.size + 2) 25 vo := (HVO.out.alloc _).kept hgrow (fun e => HVO.out.not_row (by decide) HROW.out e)
      have hn5 : Boxed w5 w.heap.size 3 (.int .i64 most) := (HJ.out.mst.alloc _).kept hgrow (fun e => HJ.out.mst.not_row (by decide) HROW.out e)
      exact ⟨⟨HJ.out.app (x, u) (by omega) HVO.out _ hown' hgrow hat, HFR.out.app HJ.out HVO.out _ hgrow hat (hb5.set v')⟩, hb5.cell, hb5.frozen, hn5.cell⟩)
    by_cases hb : out.length + 1 = most
    · have hbq : (((out.length + 1 : Nat) : Int) == (most : Int)) = true := by rw [hb]; simp
      gi_wp2_with (gi_at_builtin; refine wpListIn_append_own_at _ rfl _ _ 25 rfl w.heap.size 41 i0 (.agg #[.int .i64 0, .int .i64 0]) 2 16 Try.underlying25 hi hz0 hz1 hz2 rfl (by decide) _ _ _ rfl (HROW.out.alloc _) ⟨V.heap.size, 0, none⟩ 1 1 [.int .i64 x, .int .i64 u] rfl rfl (World.news_of_block (World.alloc_heap_new V _)) (by simp [Value.oneCell']) (by unfold maxLen; omega) (by omega) (by simp; omega) ?_; intro v' w5 hown' hgrow _ hat; have harm := HARM.out v' w5 hown' hgrow hat; obtain ⟨ha1, hc3, hf3, hn3⟩ := harm; have HA1 := Lib.hid ha1; obtain ⟨g', cap', rfl⟩ := ownsRow_succ hown'; clear ha1 hgrow hat hown')
      have h := HA1.out
      rw [hb] at h
      exact ⟨h.1.2, rfl, out ++ [(x, u)], h.1.1, by rw [← HLL.out, List.take_append, List.take_of_length_le (by omega), show most - out.length = 1 from by omega]; rfl, h.2⟩
    · have hbq : (((out.length + 1 : Nat) : Int) == (most : Int)) = false := by simp; omega
      gi_wp2_with (gi_at_builtin; refine wpListIn_append_own_at _ rfl _ _ 25 rfl w.heap.size 41 i0 (.agg #[.int .i64 0, .int .i64 0]) 2 16 Try.underlying25 hi hz0 hz1 hz2 rfl (by decide) _ _ _ rfl (HROW.out.alloc _) ⟨V.heap.size, 0, none⟩ 1 1 [.int .i64 x, .int .i64 u] rfl rfl (World.news_of_block (World.alloc_heap_new V _)) (by simp [Value.oneCell']) (by unfold maxLen; omega) (by omega) (by simp; omega) ?_; intro v' w5 hown' hgrow _ hat; have harm := HARM.out v' w5 hown' hgrow hat; obtain ⟨ha1, hc3, hf3, hn3⟩ := harm; have HA1 := Lib.hid ha1; obtain ⟨g', cap', rfl⟩ := ownsRow_succ hown'; clear ha1 hgrow hat hown')
      exact ⟨HA1.out.1.2, (r, out ++ [(x, u)], Fr), ⟨rfl, rfl⟩, ⟨HA1.out.1.1, by rw [← HLL.out]; simp, by simp; omega⟩, HA1.out.2⟩
  case done =>
    rintro ⟨rem, out, Fr⟩ W ⟨⟨hj, hL, hlt⟩, _⟩ he hD
    simp only at hj hL hlt he
    subst he
    rw [List.append_nil] at hL
    subst hL
    exact HTAIL.out out W hj (List.take_of_length_le (by omega)).symm (by rw [← HZ3.out]; exact hD)
  case stop =>
    rintro ⟨rem, out0, Fr⟩ c W ⟨rfl, out, hj, ho, _⟩ hD
    refine wpIn_exit ?_
    simp only [Exit.inBlock, if_pos]
    exact HTAIL.out out W hj ho (by rw [← HZ3.out]; exact hD)

end Go.Proofs.Ytchnjafcnigllaa
