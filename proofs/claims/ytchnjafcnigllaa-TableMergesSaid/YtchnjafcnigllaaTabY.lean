/- What lies between two keys, one by one: an iterator over an iterator. -/
import Derived.Test.YtchnjafcnigllaaTabX
import Derived.Test.YtchnjafcnigllaaTabJ
import Derived.RangeFuncNested
namespace Go.Proofs.Ytchnjafcnigllaa
open Go.RowKit
set_option linter.unusedVariables false
attribute [local go_sem] Oper.semAt_some

theorem yieldAny {F : Fence} (hd : F.depth = none) {m : Nat} (m' l2 : Nat) {P : Program} {l : Nat} {args : Array Value} {W : World} {R : Ending → World → Prop} (h : YieldAt F m P l args W R) : YieldAt (F.inRound l2) m' P l args W R := by
  obtain ⟨fn, tmps, assign, body, hy, hF, hr⟩ := h
  exact ⟨fn, tmps, assign, body, hy, hF, fun c cs _ => hr c cs (fun d hd' => by rw [hd] at hd'; cases hd')⟩
theorem betweenOf (b : Nat) (lo hi : Int) (w : World) :
    Calls Try.prog 39 #[.pointer (some ⟨b, 0, none⟩), .int .i64 lo, .int .i64 hi] w fun e w' => e = .returned (.func (.func 62) #[] #[.pointer (some ⟨w.heap.size, 0, none⟩), .pointer (some ⟨w.heap.size + 1, 0, none⟩), .pointer (some ⟨w.heap.size + 2, 0, none⟩)]) ∧ w' = ((w.alloc (.cells #[.pointer (some ⟨b, 0, none⟩)] 24)).alloc (.cells #[.int .i64 lo] 2)).alloc (.cells #[.int .i64 hi] 2) := by
  go_enter Try.func39, Try.ntmps39
  go_wp2
  go_ret
  exact ⟨rfl, rfl⟩
section
variable {w : World} {most : Nat} {L : KV} {A : World}
theorem PrF.below {s : KV × KV × List (Nat × Obj)} {A' : World} (h : PrF w most L s A) (hb : Below A.heap.size A A') : PrF w most L s A' :=
  ⟨⟨h.1.1.keep (own2 := []) (But.of_below hb) (fun k hk => by cases hk), h.1.2⟩, h.2.but (own := []) (But.of_below hb) h.1.1.box (by simp) (fun x hx => by simp)⟩
/-- What stays while what lies between two keys is told. -/
structure BwJ (w : World) (most : Nat) (L : KV) (hi : Int) (Rd : World → Prop) (B : Nat) (F : List (Nat × Obj)) (s : KV × KV) (A : World) : Prop where
  rd : Rd A
  pr : PrF w most L (s.1.filter (fun x => ltN x.1 hi), s.2, F) A
  off : ∀ v, Boxed A (w.heap.size + 2) 25 v → v.ownBlock ≠ some B ∧ v.ownBlock ≠ some (B + 1)
  ris : Tr.Rising ltN s.1
/-- How it ends. -/
def BwX (w : World) (most : Nat) (L : KV) (Rd : World → Prop) (Dn : Code → World → Prop) (B : Nat) (F : List (Nat × Obj)) (A : World) : Prop :=
  ((Rd A ∧ ∃ out, PrF w most L ([], out, F) A) ∨ (∃ s c, Dn c A ∧ JxF w most L s c A ∧ s.2.2 = F)) ∧ ∀ v, Boxed A (w.heap.size + 2) 25 v → v.ownBlock ≠ some B ∧ v.ownBlock ≠ some (B + 1)
variable {hi : Int} {Rd : World → Prop} {Dn : Code → World → Prop} {B : Nat} {F : List (Nat × Obj)}
theorem PrJ.off_put {out : KV} {k : Nat} {o : Obj} (h : PrJ w most out A) (hk : w.heap.size + 5 ≤ k) (ho : ∀ v, Boxed A (w.heap.size + 2) 25 v → v.ownBlock ≠ some k) : PrJ w most out (A.putObj k o) :=
  h.keep (But.putObj A k o) (fun j hj => by simp at hj; subst hj; exact ⟨by omega, by omega, by omega, ho⟩)
theorem FrS.off_put {k : Nat} {o : Obj} (h : FrS w F A) (hB : w.heap.size + 2 < A.heap.size) (hk : w.heap.size + 5 ≤ k) (ho : ∀ x ∈ F, x.1 ≠ k) : FrS w F (A.putObj k o) :=
  h.but (But.putObj A k o) hB (by simp; omega) (fun x hx => by simpa using ho x hx)
theorem box_put {v : Value} {k : Nat} {o : Obj} (hk : w.heap.size + 5 ≤ k) (h : Boxed (A.putObj k o) (w.heap.size + 2) 25 v) : Boxed A (w.heap.size + 2) 25 v := (World.putObj_heap_other (by omega)).symm.trans h
theorem BwJ.noRec (hB : w.heap.size + 5 ≤ B) (hF : ∀ x ∈ F, x.1 < B) (hRd : ∀ A A', SameRec (w.heap.size + 3) A A' → Rd A → Rd A') (s : KV × KV) : NoRec B (BwJ w most L hi Rd B F s) := fun W o k hk h => by
  have hk5 : w.heap.size + 5 ≤ k := by omega
  exact ⟨hRd W _ ⟨World.putObj_heap_other (by omega), World.putObj_heap_other (by omega)⟩ h.rd,
    ⟨⟨h.pr.1.1.off_put hk5 (fun v hv => by rcases hk with rfl | rfl; exact (h.off v hv).1; exact (h.off v hv).2), h.pr.1.2⟩, h.pr.2.off_put h.pr.1.1.box hk5 (fun x hx => by have := hF x hx; omega)⟩,
    fun v hv => h.off v (box_put hk5 hv), h.ris⟩
theorem BwX.noRec (hB : w.heap.size + 5 ≤ B) (hF : ∀ x ∈ F, x.1 < B) (hRd : ∀ A A', SameRec (w.heap.size + 3) A A' → Rd A → Rd A') (hDn : ∀ c A A', SameRec (w.heap.size + 3) A A' → Dn c A → Dn c A') : NoRec B (BwX w most L Rd Dn B F) := fun W o k hk ⟨h, hoff⟩ => by
  have hk5 : w.heap.size + 5 ≤ k := by omega
  have ho : ∀ v, Boxed W (w.heap.size + 2) 25 v → v.ownBlock ≠ some k := fun v hv => by rcases hk with rfl | rfl; exact (hoff v hv).1; exact (hoff v hv).2
  have hsr : SameRec (w.heap.size + 3) W (W.putObj k o) := ⟨World.putObj_heap_other (by omega), World.putObj_heap_other (by omega)⟩
  refine ⟨?_, fun v hv => hoff v (box_put hk5 hv)⟩
  rcases h with ⟨h1, out, h2⟩ | ⟨s, c, h1, ⟨h2, out, h3, h4, h5⟩, h6⟩
  · exact .inl ⟨hRd _ _ hsr h1, out, ⟨⟨h2.1.1.off_put hk5 ho, h2.1.2⟩, h2.2.off_put h2.1.1.box hk5 (fun x hx => by have := hF x hx; omega)⟩⟩
  · exact .inr ⟨s, c, hDn _ _ _ hsr h1, ⟨h2, out, h3.off_put hk5 ho, h4, h5.off_put h3.box hk5 (fun x hx => by rw [h6] at hx; have := hF x hx; omega)⟩, h6⟩
theorem PrF.drew {s : KV × KV × List (Nat × Obj)} (h : PrF w most L s A) : PrF w most L s A.drew := ⟨⟨h.1.1.drew, h.1.2⟩, h.2.but (own := []) (But.refl _ A).drew h.1.1.box (by simp) (fun x hx => by simp)⟩
theorem bwC (hRd : ∀ A A', SameRec (w.heap.size + 3) A A' → Rd A → Rd A') : EachC w Prod.fst (BwJ w most L hi Rd B F) (fun s x W => BwJ w most L hi Rd B F s W ∧ ∃ r, s.1 = x :: r) (fun s s' => s'.1 = s.1.tail) where
  stay := fun s W h => StayN.of_below h.pr.1.1.bel
  drew := fun s W h => ⟨hRd W W.drew ⟨rfl, rfl⟩ h.rd, h.pr.drew, h.off, h.ris⟩
  yield := fun s W x r h e => ⟨h, r, e⟩
  next := fun s s' h => h
theorem filter_high {x : Int × Int} {r : KV} {hi : Int} (hr : Tr.Rising ltN (x :: r)) (hx : ltN x.1 hi = false) : (x :: r).filter (fun y => ltN y.1 hi) = [] := by
  rw [List.filter_eq_nil_iff]
  intro y hy
  rcases List.mem_cons.1 hy with rfl | hy
  · rw [hx]; simp
  · have h1 := (List.pairwise_cons.1 hr).1 y hy
    unfold ltN at *
    simp at h1 hx ⊢
    omega
end

set_option maxRecDepth 100000 in
set_option maxHeartbeats 8000000 in
theorem between1 (w : World) (most : Nat) (b B1 B2 B3 : Nat) (lo hi : Int) (l : KV) (hT : TabN w b l) (h1 : w.heap[B1]? = some (.cells #[.pointer (some ⟨b, 0, none⟩)] 24 (0, 0))) (h2 : w.heap[B2]? = some (.cells #[.int .i64 lo] 2 (0, 0))) (h3 : w.heap[B3]? = some (.cells #[.int .i64 hi] 2 (0, 0))) (L : KV) (hL : L = (l.filter fun x => !(ltN x.1 lo)).filter fun x => ltN x.1 hi) :
    SeqH Fence.wide 2 Try.prog 62 #[.pointer (some ⟨B1, 0, none⟩), .pointer (some ⟨B2, 0, none⟩), .pointer (some ⟨B3, 0, none⟩)] (fun (x : Int × Int) => #[.int .i64 x.1, .int .i64 x.2]) (w.heap.size + 3) (PrF w most L) (fun s x W => PrF w most L s W ∧ ∃ r, s.1 = x :: r) (JxF w most L) (fun s s' => s'.1 = s.1.tail ∧ s'.2.2 = s.2.2) (fun s _ => s.1 = []) (L, [], []) := by
  intro l' Rd Dn W hRd hDn hRz hDz hR0 hJ0 hY
  have hzW : w.heap.size + 5 ≤ W.heap.size := hRz W hR0
  have hbW := hJ0.1.1.bel
  have hc1 : W.cell? ⟨B1, 0, none⟩ = some (.pointer (some ⟨b, 0, none⟩)) := cell_of_row W B1 0 _ _ _ ((hbW.block B1 (Array.getElem?_eq_some_iff.1 h1).1).trans h1)
  have hc2 : W.cell? ⟨B2, 0, none⟩ = some (.int .i64 lo) := cell_of_row W B2 0 _ _ _ ((hbW.block B2 (Array.getElem?_eq_some_iff.1 h2).1).trans h2)
  obtain ⟨W1, hW1⟩ : ∃ W1, W.alloc (.cells #[.func (.yield l') #[] #[]] 47) = W1 := ⟨_, rfl⟩
  have hb01 : Below W.heap.size W W1 := by rw [← hW1]; exact (Below.refl _ _).alloc (Nat.le_refl _) _
  have hz1 : W1.heap.size = W.heap.size + 1 := by rw [← hW1]; simp
  have hy1 : W1.heap[W.heap.size]? = some (.cells #[.func (.yield l') #[] #[]] 47 (0, 0)) := by rw [← hW1]; exact World.alloc_heap_new W _
  have d1 : W1.cell? ⟨B1, 0, none⟩ = some (.pointer (some ⟨b, 0, none⟩)) := (World.cell?_of_block (a := ⟨B1, 0, none⟩) (hb01.block _ (by have := (Array.getElem?_eq_some_iff.1 h1).1; show B1 < W.heap.size; omega))).trans hc1
  have d2 : W1.cell? ⟨B2, 0, none⟩ = some (.int .i64 lo) := (World.cell?_of_block (a := ⟨B2, 0, none⟩) (hb01.block _ (by have := (Array.getElem?_eq_some_iff.1 h2).1; show B2 < W.heap.size; omega))).trans hc2
  have HW1 := Lib.hid hW1
  have HB01 := Lib.hid hb01
  have HZ1 := Lib.hid hz1
  have HY1 := Lib.hid hy1
  have HRD := Lib.hid hRd
  have HDN := Lib.hid hDn
  have HR0 := Lib.hid hR0
  have HJ0 := Lib.hid hJ0
  have HY := Lib.hid hY
  have HZW := Lib.hid hzW
  have HT := Lib.hid hT
  have H1 := Lib.hid h1
  have H2 := Lib.hid h2
  have H3 := Lib.hid h3
  have HL := Lib.hid hL
  have HFR := Lib.hid (fromOfN b lo W1)
  have hl1 := (Array.getElem?_eq_some_iff.1 h1).1
  have hl3 := (Array.getElem?_eq_some_iff.1 h3).1
  clear hW1 hb01 hz1 hy1 hRd hDn hRz hDz hR0 hJ0 hY hT h1 h2 h3 hbW hc1 hc2 hzW hL
  refine callsIn_wide.2 ((callsIn_wide (n := 3)).1 ?_)
  refine callsIn_of_wp_marks Try.func62 rfl trivial ?_ rfl
  simp only [Try.ntmps62, List.size_toArray, List.length_cons, List.length_nil, Nat.reduceAdd, Nat.reduceSub, Array.replicate_succ, Array.replicate_zero, List.push_toArray, List.append_toArray, List.nil_append, List.cons_append]
  refine wpIn_wide.2 ?_
  go_upto_region 1 with fail
  rw [HW1.out]
  go_wp2_with fail
  refine HFR.out.mono ?_
  rintro e W2 ⟨rfl, hW2⟩
  have HW2 := Lib.hid hW2
  clear hW2
  go_wp2_with fail
  have hb12 : Below W1.heap.size W1 W2 := by rw [HW2.out]; exact ((Below.refl _ _).alloc (Nat.le_refl _) _).alloc (by simp) _
  have hz2 : W2.heap.size = W.heap.size + 3 := by rw [HW2.out]; simp [HZ1.out]
  have hp2 : W2.heap[W.heap.size + 1]? = some (.cells #[.pointer (some ⟨b, 0, none⟩)] 24 (0, 0)) := by
    rw [HW2.out, ← HZ1.out, heap_alloc_old' _ _ _ (by simp)]
    exact World.alloc_heap_new W1 _
  have hk2 : W2.heap[W.heap.size + 2]? = some (.cells #[.int .i64 lo] 2 (0, 0)) := by
    have h := World.alloc_heap_new (W1.alloc (.cells #[.pointer (some ⟨b, 0, none⟩)] 24)) (.cells #[.int .i64 lo] 2)
    rw [World.size_alloc, HZ1.out] at h
    rw [HW2.out]
    exact h
  have hy2 : W2.heap[W.heap.size]? = some (.cells #[.func (.yield l') #[] #[]] 47 (0, 0)) := (hb12.block _ (by have := HZ1.out; omega)).trans HY1.out
  have hb02 : Below W.heap.size W W2 := HB01.out.trans (hb12.mono HB01.out.size)
  obtain ⟨FB, hFB⟩ : ∃ FB, [(W.heap.size, Obj.cells #[.func (.yield l') #[] #[]] 47 (0, 0)), (W.heap.size + 1, Obj.cells #[.pointer (some ⟨b, 0, none⟩)] 24 (0, 0)), (W.heap.size + 2, Obj.cells #[.int .i64 lo] 2 (0, 0))] = FB := ⟨_, rfl⟩
  have hoff0 : ∀ v, Boxed W2 (w.heap.size + 2) 25 v → ∀ g, v.ownBlock = some g → g < W.heap.size := fun v hv g hg => by
    obtain ⟨u, r1, r2, _⟩ := HJ0.out.1.1.row
    have hv0 := (hb02.block _ HJ0.out.1.1.box).symm.trans hv
    obtain rfl := boxed_eq hv0 r1
    exact (World.ownsRow.lt r2 g hg).2
  have hF2 : PrF w most L (L, [], FB) W2 := by
    have hz := HZW.out
    refine ⟨(HJ0.out.below hb02).1, fun x hx => ?_, fun x hx v hv e => ?_⟩
    · rw [← hFB] at hx
      simp only [List.mem_cons, List.not_mem_nil, or_false] at hx
      rcases hx with rfl | rfl | rfl
      · exact ⟨hy2, hz⟩
      · exact ⟨hp2, by simp; omega⟩
      · exact ⟨hk2, by simp; omega⟩
    · have := hoff0 v hv _ e
      rw [← hFB] at hx
      simp only [List.mem_cons, List.not_mem_nil, or_false] at hx
      rcases hx with rfl | rfl | rfl <;> (dsimp only at this; omega)
  have HFB : Hid (∀ x ∈ FB, x.1 < W2.heap.size) := Lib.hid (fun x hx => by
    rw [← hFB] at hx
    simp only [List.mem_cons, List.not_mem_nil, or_false] at hx
    rcases hx with rfl | rfl | rfl <;> simp <;> omega)
  have HFY : Hid ((W.heap.size, Obj.cells #[.func (.yield l') #[] #[]] 47 (0, 0)) ∈ FB) := Lib.hid (by rw [← hFB]; simp)
  have HFP : Hid ((W.heap.size + 1, Obj.cells #[.pointer (some ⟨b, 0, none⟩)] 24 (0, 0)) ∈ FB) := Lib.hid (by rw [← hFB]; simp)
  have HFK : Hid ((W.heap.size + 2, Obj.cells #[.int .i64 lo] 2 (0, 0)) ∈ FB) := Lib.hid (by rw [← hFB]; simp)
  have HF2 := Lib.hid hF2
  have HOF := Lib.hid hoff0
  have HZ2 := Lib.hid hz2
  have HRD2 : Hid (Rd W2) := Lib.hid (HRD.out W W2 ⟨hb02.block _ (by have := HZW.out; omega), hb02.block _ (by have := HZW.out; omega)⟩ HR0.out)
  clear hb12 hz2 hp2 hk2 hy2 hb02 hF2 hoff0 hFB d1 d2
  refine (wpIn_wide (n := 3)).1 ?_
  refine wpIn_actG ?_
  intro A hA
  obtain ⟨t, a, ha1, ha2, ha3⟩ := HT.out.at_
  have HA1 := Lib.hid ha1
  have HA2 := Lib.hid ha2
  have HA3 := Lib.hid ha3
  have hB5 : w.heap.size + 5 ≤ W2.heap.size := by have := HZ2.out; have := HZW.out; omega
  have HB5 := Lib.hid hB5
  clear ha1 ha2 ha3 hB5
  refine rangeG rfl (by omega) (gf := 48) (lb := #[.pointer (some ⟨W.heap.size + 1, 0, none⟩), .pointer (some ⟨W.heap.size + 2, 0, none⟩)]) (by rw [hA]; first | rfl | (simp [Act.eval, HZ1.out]; done)) trivial (enters_of Try.func48 (by kernel_rfl) rfl) (encs := fun (x : Int × Int) => #[.int .i64 x.1, .int .i64 x.2]) (fun _ => rfl)
    (BwJ w most L hi Rd W2.heap.size FB) (fun s x V => BwJ w most L hi Rd W2.heap.size FB s V ∧ ∃ r, s.1 = x :: r)
    (fun (s : KV × KV) (x : Int × Int) a1 V => (BwJ w most L hi Rd W2.heap.size FB s V ∧ ∃ r, s.1 = x :: r) ∧ a1 = { tmps := (((A.tmps.setIfInBounds 10 (.int .i64 x.1)).setIfInBounds 11 (.int .i64 x.2)).setIfInBounds 5 (.int .i64 x.1)).setIfInBounds 6 (.int .i64 x.2), defers := [] })
    (fun c V => c = .ret ∧ BwX w most L Rd Dn W2.heap.size FB V) (fun s s' => s'.1 = s.1.tail) (fun s _ => s.1 = []) (l.filter (fun x => !(ltN x.1 lo)), [])
    (fun s => BwJ.noRec HB5.out HFB.out HRD.out s)
    (fun s x a1 V o k hk ⟨⟨h1, hg⟩, h5⟩ => ⟨⟨BwJ.noRec HB5.out HFB.out HRD.out s V o k hk h1, hg⟩, h5⟩)
    (fun c V o k hk h => ⟨h.1, BwX.noRec HB5.out HFB.out HRD.out HDN.out V o k hk h.2⟩) (fun _ _ _ _ _ h => h) (fun r => ?start)
    (from1N (t := t) (a := a) (bwC HRD.out) (fun V hV => ⟨cell_of_row V _ 0 _ _ _ (hV.pr.2.at_ _ HFP.out).1, cell_of_row V _ 0 _ _ _ (hV.pr.2.at_ _ HFK.out).1, cell_of_row V b 0 _ _ _ ((hV.pr.1.1.bel.block b (Array.getElem?_eq_some_iff.1 HA1.out).1).trans HA1.out)⟩) HA2.out (by rw [HA3.out]; exact HT.out.rise) (by show _ = fromL lo t; rw [← HA3.out]; rfl))
    ?assign ?body ?done ?stop
  case start =>
    have hb := ((Below.refl W2.heap.size W2).alloc (Nat.le_refl _) (.deferred (some []))).alloc (by simp) (.loop r)
    refine ⟨HRD.out W2 _ ⟨hb.block _ (by have := HB5.out; omega), hb.block _ (by have := HB5.out; omega)⟩ HRD2.out, ?_, fun v hv => ?_, List.Pairwise.sublist List.filter_sublist HT.out.rise⟩
    · have h := HF2.out.below hb
      rw [HL.out] at h ⊢
      exact h
    · have hv2 : Boxed W2 (w.heap.size + 2) 25 v := (hb.block _ (by have := HB5.out; omega)).symm.trans hv
      have h1 := HOF.out v hv2
      have h2 := HZ2.out
      exact ⟨fun e => by have := h1 _ e; omega, fun e => by have := h1 _ e; omega⟩
  case assign =>
    rintro l0 s ⟨x, u⟩ V K' hj hzV hK
    rw [hA] at hK ⊢
    gi_wp2
    exact hK _ _ ⟨hj, rfl⟩ ⟨rfl, rfl⟩
  case body =>
    rintro l2 ⟨rem, out⟩ ⟨x, u⟩ a1 V ⟨⟨hj, r, hr⟩, rfl⟩ hzV
    simp only at hr
    subst hr
    have hcy : V.cell? ⟨W.heap.size, 0, none⟩ = some (.func (.yield l') #[] #[]) := cell_of_row V _ 0 _ _ _ (hj.pr.2.at_ _ HFY.out).1
    have hch : V.cell? ⟨B3, 0, none⟩ = some (.int .i64 hi) := cell_of_row V B3 0 _ _ _ ((hj.pr.1.1.bel.block B3 hl3).trans H3.out)
    have HLS := Lib.hid (lessN x hi V)
    cases hlt : ltN x hi with
    | false =>
      rw [hlt] at HLS
      have HX : Hid (BwX w most L Rd Dn W2.heap.size FB V) := Lib.hid ⟨.inl ⟨hj.rd, out, by
        have h := hj.pr
        simp only [filter_high hj.ris hlt] at h
        exact h⟩, hj.off⟩
      clear hj
      rw [hA]
      gi_wp2_with fail
      refine ⟨trivial, ?_⟩
      refine (callsIn_wide.2 HLS.out).mono ?_
      rintro e W4 ⟨rfl, hx⟩
      obtain rfl := hx.symm
      gi_wp2_with fail
      refine ⟨fun f h => (by cases h), ?_⟩
      gi_wp2_with fail
      exact ⟨SameRec.refl _ _, rfl, HX.out⟩
    | true =>
      rw [hlt] at HLS
      have hlB := HFB.out
      obtain ⟨o1, ho1⟩ : ∃ o, V.heap[W2.heap.size]? = some o := ⟨_, Array.getElem?_eq_getElem (by omega)⟩
      obtain ⟨o2, ho2⟩ : ∃ o, V.heap[W2.heap.size + 1]? = some o := ⟨_, Array.getElem?_eq_getElem (by omega)⟩
      have hfil : ((x, u) :: r).filter (fun y => ltN y.1 hi) = (x, u) :: r.filter (fun y => ltN y.1 hi) := List.filter_cons_of_pos hlt
      have hpr : PrF w most L ((x, u) :: r.filter (fun y => ltN y.1 hi), out, (W2.heap.size, o1) :: (W2.heap.size + 1, o2) :: FB) V := by
        have h := hj.pr
        simp only [hfil] at h
        refine ⟨h.1, fun y hy => ?_, fun y hy v hv => ?_⟩
        · rcases List.mem_cons.1 hy with rfl | hy
          · exact ⟨ho1, HB5.out⟩
          · rcases List.mem_cons.1 hy with rfl | hy
            · exact ⟨ho2, by have := HB5.out; simp; omega⟩
            · exact h.2.at_ y hy
        · rcases List.mem_cons.1 hy with rfl | hy
          · exact (hj.off v hv).1
          · rcases List.mem_cons.1 hy with rfl | hy
            · exact (hj.off v hv).2
            · exact h.2.off y hy v hv
      have hya := HY.out _ (x, u) V hj.rd ⟨hpr, _, rfl⟩
      have hyb := yieldAny rfl 0 l2 hya
      obtain ⟨fn, tmps, assign, body, hy, hR⟩ := hyb
      dsimp only at hy
      have HR := Lib.hid hR
      have HO1 := Lib.hid ho1
      have HO2 := Lib.hid ho2
      have HRI := Lib.hid hj.ris
      have hSR : ∀ (W4 : World), FrS w ((W2.heap.size, o1) :: (W2.heap.size + 1, o2) :: FB) W4 → SameRec W2.heap.size V W4 ∧ FrS w FB W4 ∧ ∀ v, Boxed W4 (w.heap.size + 2) 25 v → v.ownBlock ≠ some W2.heap.size ∧ v.ownBlock ≠ some (W2.heap.size + 1) := fun W4 h =>
        ⟨⟨(h.at_ (W2.heap.size, o1) (by simp)).1.trans HO1.out.symm, (h.at_ (W2.heap.size + 1, o2) (by simp)).1.trans HO2.out.symm⟩, h.sub (fun y hy => List.mem_cons_of_mem _ (List.mem_cons_of_mem _ hy)), fun v hv => ⟨h.off (W2.heap.size, o1) (by simp) v hv, h.off (W2.heap.size + 1, o2) (by simp) v hv⟩⟩
      have HSR := Lib.hid hSR
      clear hj hpr hya hR ho1 ho2 hfil hSR
      rw [hA]
      gi_wp2_with fail
      refine ⟨trivial, ?_⟩
      refine (callsIn_wide.2 HLS.out).mono ?_
      rintro e W4 ⟨rfl, hx⟩
      obtain rfl := hx.symm
      gi_wp2_with fail
      refine HR.out.mono ?_
      rintro e W4 (⟨rfl, hr4, ⟨rem4, out4, F4⟩, ⟨hs1, hs2⟩, hp4⟩ | ⟨rfl, c, hd4, hx4⟩)
      · simp only [List.tail_cons] at hs1 hs2
        subst hs1
        subst hs2
        obtain ⟨k1, k2, k3⟩ := HSR.out W4 hp4.2
        have HJ4 : Hid (BwJ w most L hi Rd W2.heap.size FB (r, out4) W4) := Lib.hid ⟨hr4, ⟨hp4.1, k2⟩, k3, (List.pairwise_cons.1 HRI.out).2⟩
        have HK1 := Lib.hid k1
        clear hr4 hp4 k1 k2 k3
        gi_wp2_with fail
        exact ⟨HK1.out, (r, out4), rfl, HJ4.out⟩
      · obtain ⟨hx0, out4, hx1, hx2, hx3⟩ := hx4
        obtain ⟨k1, k2, k3⟩ := HSR.out W4 hx3
        have HX : Hid (BwX w most L Rd Dn W2.heap.size FB W4) := Lib.hid ⟨.inr ⟨([], [], FB), c, hd4, ⟨hx0, out4, hx1, hx2, k2⟩, rfl⟩, k3⟩
        have HK1 := Lib.hid k1
        clear hd4 hx0 hx1 hx2 hx3 k1 k2 k3
        gi_wp2_with fail
        exact ⟨HK1.out, rfl, HX.out⟩
  case done =>
    rintro ⟨rem, out⟩ V hj he hD
    simp only at he
    subst he
    rw [hA]
    have hj2 := BwJ.noRec HB5.out HFB.out HRD.out ([], out) V (.deferred none) _ (.inl rfl) hj
    have HJ := Lib.hid hj2
    have HD := Lib.hid hD
    clear hj hj2 hD
    go_wp2_with fail
    refine ⟨by simp, .inl ⟨_, _, rfl, run_takeDeferred HD.out, ?_⟩⟩
    exact ⟨_, results_none rfl _ _ _, ⟨_, rfl⟩, .inl ⟨HJ.out.rd, _, rfl, HJ.out.pr⟩⟩
  case stop =>
    rintro c V ⟨rfl, h⟩ hD
    have hj2 := BwX.noRec HB5.out HFB.out HRD.out HDN.out V (.deferred none) _ (.inl rfl) h
    have HJ := Lib.hid hj2
    have HD := Lib.hid hD
    clear h hj2 hD
    rw [hA]
    gi_wp2_with fail
    refine ⟨by simp, .inl ⟨_, _, rfl, run_takeDeferred HD.out, ?_⟩⟩
    refine ⟨_, results_none rfl _ _ _, ⟨_, rfl⟩, ?_⟩
    rcases HJ.out.1 with ⟨h1, out, h2⟩ | ⟨s, c, h1, h2, _⟩
    · exact .inl ⟨h1, _, rfl, h2⟩
    · exact .inr ⟨s, c, h1, h2⟩
/-- What pairs makes of Between. -/
theorem pairsBetween (B1 B2 B3 b : Nat) (lo hi : Int) (l : KV) (most : Nat) (hm1 : 1 ≤ most) (hm2 : most ≤ 1048576) (w : World) (hT : TabN w b l) (h1 : w.heap[B1]? = some (.cells #[.pointer (some ⟨b, 0, none⟩)] 24 (0, 0))) (h2 : w.heap[B2]? = some (.cells #[.int .i64 lo] 2 (0, 0))) (h3 : w.heap[B3]? = some (.cells #[.int .i64 hi] 2 (0, 0))) (L : KV) (hL : L = (l.filter fun x => !(ltN x.1 lo)).filter fun x => ltN x.1 hi) :
    Calls Try.prog 13 #[.func (.func 62) #[] #[.pointer (some ⟨B1, 0, none⟩), .pointer (some ⟨B2, 0, none⟩), .pointer (some ⟨B3, 0, none⟩)], .int .i64 most] w fun e w' => ∃ v, e = .returned v ∧ w'.ownsRow w.heap.size 41 2 v (L.take most).length (flatVP (L.take most)) ∧ Below w.heap.size w w' :=
  pairsF _ _ most hm1 hm2 L w (enters_of Try.func62 (by kernel_rfl) rfl) (between1 w most b B1 B2 B3 lo hi l hT h1 h2 h3 L hL)
end Go.Proofs.Ytchnjafcnigllaa
