/- A heap in memory: From. -/
import Derived.Test.YtpdncgjepfgnjaaHpVI
import Derived.Test.YtpdncgjepfgnjaaHeapQ
import Derived.Test.YtpdncgjepfgnjaaHpX
namespace Go.Proofs.Ytpdncgjepfgnjaa
open Go.RowKit
set_option linter.unusedVariables false
attribute [local go_sem] Oper.semAt_some

theorem eqSeqI (f : Fn) (a c : Array Value) (w : World) : (binOp .eql 69 (.func f a c) .nilFunc).run Try.prog w = .ok (.bool false) w := by kernel_rfl
attribute [local go_sem] eqSeqI

/-- What stays between two puts: the heap's list is that of the first k things. -/
structure FromJI (key : Int → Int) (w : World) (of b Bv Bh B : Nat) (sv : Value) (xs : List Int) (s : Nat × List Nat) (W : World) : Prop where
  heap : ∃ v, HeapI s.2 W b (.func (.func of) #[] #[]) v (heapS key (xs.take s.1)) s.1
  own : ∀ k ∈ s.2, w.heap.size ≤ k ∧ k ≠ B ∧ k ≠ B + 1 ∧ k ≠ Bh
  le : s.1 ≤ xs.length
  bel : Below w.heap.size w W
  ptr : W.heap[Bh]? = some (.cells #[.pointer (some ⟨b, 0, none⟩)] 60 (0, 0))
theorem FromJI.but {key : Int → Int} {w : World} {of b Bv Bh B : Nat} {sv : Value} {xs : List Int} {s : Nat × List Nat} {W W' : World} (h : FromJI key w of b Bv Bh B sv xs s W) {own : List Nat} (hb : But own W W') (ho : ∀ k ∈ own, w.heap.size ≤ k ∧ k ∉ s.2 ∧ k ≠ Bh) : FromJI key w of b Bv Bh B sv xs s W' := by
  obtain ⟨v, hv⟩ := h.heap
  refine ⟨⟨v, hv.but hb (fun k hk hk2 => (ho k hk2).2.1 hk)⟩, h.own, h.le, h.bel.trans (hb.below (fun k hk => (ho k hk).1) h.bel.size), (hb.block Bh (Array.getElem?_eq_some_iff.1 h.ptr).1 (fun hk => (ho Bh hk).2.2 rfl)).trans h.ptr⟩
theorem FromJI.noRec {key : Int → Int} {w : World} {of b Bv Bh B : Nat} {sv : Value} {xs : List Int} (hB : w.heap.size ≤ B) (hh : Bh < B) (s : Nat × List Nat) : NoRec B (FromJI key w of b Bv Bh B sv xs s) := fun W o k hk h =>
  h.but (But.putObj W k o) (fun j hj => by
    simp at hj; subst hj
    rcases hk with rfl | rfl
    · exact ⟨hB, fun hm => (h.own _ hm).2.1 rfl, by omega⟩
    · exact ⟨by omega, fun hm => (h.own _ hm).2.2.1 rfl, by omega⟩)


set_option maxRecDepth 100000 in
set_option maxHeartbeats 4000000 in
theorem fromI {of : Nat} {key : Int → Int} (ho : OrdI of key) (Bv : Nat) (a : Option Addr) (n c : Nat) (xs : List Int) (hx : xs.length ≤ 1073741823) (w : World) (hv : w.cell? ⟨Bv, 0, none⟩ = some (.slice a n c)) (hs : PrsI w.heap.size w (.slice a n c) xs) :
    Calls Try.prog 35 #[.func (.func of) #[] #[], .func (.func 62) #[] #[.pointer (some ⟨Bv, 0, none⟩)]] w fun e w' => ∃ b own v, e = .returned (.pointer (some ⟨b, 0, none⟩)) ∧ HeapI own w' b (.func (.func of) #[] #[]) v (heapS key xs) xs.length ∧ (∀ k ∈ own, w.heap.size ≤ k) ∧ Below w.heap.size w w' := by
  have HO := Lib.hid ho
  have HV := Lib.hid hv
  have HS := Lib.hid hs
  have HNE := Lib.hid (newI (.func (.func of) #[] #[]) w ⟨of, rfl⟩)
  have hbv := World.block_lt_of_cell? w _ hv
  simp only at hbv
  clear hv hs
  refine (callsIn_wide (n := 3)).1 ?_
  refine callsIn_of_wp_marks Try.func35 rfl trivial ?_ rfl
  simp only [Try.ntmps35, List.size_toArray, List.length_cons, List.length_nil, Nat.reduceAdd, Nat.reduceSub, Array.replicate_succ, Array.replicate_zero, List.push_toArray, List.append_toArray, List.nil_append, List.cons_append]
  refine wpIn_wide.2 ?_
  go_wp2_with (go_at_call 28; refine HNE.out.mono ?_; rintro e w1 ⟨rfl, h1, b1⟩; have H1 := Lib.hid h1; have B1 := Lib.hid b1; clear h1 b1)
  have hz1 := B1.out.size
  have hlt1 := H1.out.lt w.heap.size (by simp)
  obtain ⟨w2, hw2⟩ : ∃ w2, w1.alloc (Obj.cells #[Value.pointer (some ⟨w.heap.size, 0, none⟩)] 60) = w2 := ⟨_, rfl⟩
  have hb2 : Below w1.heap.size w1 w2 := by rw [← hw2]; exact (Below.refl _ _).alloc (Nat.le_refl _) _
  have hz2 : w2.heap.size = w1.heap.size + 1 := by rw [← hw2]; simp
  have hp2 : w2.heap[w1.heap.size]? = some (.cells #[.pointer (some ⟨w.heap.size, 0, none⟩)] 60 (0, 0)) := by rw [← hw2]; exact World.alloc_heap_new w1 _
  have h2 := H1.out.below hb2 (Nat.le_refl _)
  have HJ0 : Hid (FromJI key w of w.heap.size Bv w1.heap.size w2.heap.size (.slice a n c) xs (0, [w.heap.size]) w2) := Lib.hid ⟨⟨_, h2⟩, fun k hk => by simp at hk; subst hk; omega, Nat.zero_le _, B1.out.trans (hb2.mono hz1), hp2⟩
  have HZ2 := Lib.hid hz2
  have HW2 := Lib.hid hw2
  rw [hw2]
  clear hw2 hb2 hz2 hp2 h2
  rename_i K hKQ
  refine (wpIn_wide (n := 3)).1 ?_
  refine wpIn_actG ?_
  intro A hA
  refine rangeG rfl (by omega) (gf := 62) (lb := #[.pointer (some ⟨Bv, 0, none⟩)]) (by rw [hA]; rfl) trivial (enters_of Try.func62 (by kernel_rfl) rfl) (encs := fun (x : Int) => #[valI x]) (fun _ => rfl)
    (FromJI key w of w.heap.size Bv w1.heap.size w2.heap.size (.slice a n c) xs) (fun s x W => FromJI key w of w.heap.size Bv w1.heap.size w2.heap.size (.slice a n c) xs s W ∧ xs[s.1]? = some x)
    (fun s x a1 W => FromJI key w of w.heap.size Bv w1.heap.size w2.heap.size (.slice a n c) xs s W ∧ xs[s.1]? = some x ∧ a1 = { tmps := (A.tmps.setIfInBounds 13 (valI x)).setIfInBounds 6 (valI x), defers := [] })
    (fun _ _ => False) (fun s s' => s'.1 = s.1 + 1) (fun s _ => s.1 = xs.length) (0, [w.heap.size])
    (FromJI.noRec (by have := HZ2.out; omega) (by have := HZ2.out; omega))
    (fun s x a1 W o k hk ⟨h1, h2, h5⟩ => ⟨FromJI.noRec (by have := HZ2.out; omega) (by have := HZ2.out; omega) s W o k hk h1, h2, h5⟩)
    (fun _ _ _ _ _ h => h) (fun _ _ _ _ _ h => h) (fun r => (HJ0.out.but (But.of_below (own := []) ((Below.refl _ _).alloc (Nat.le_refl _) _)) (fun k hk => by cases hk)).but (But.of_below (own := []) ((Below.refl _ _).alloc (Nat.le_refl _) _)) (fun k hk => by cases hk))
    (values1I (by omega) rfl (pos := Prod.fst) ⟨fun s W h => (h.bel.cell (p := ⟨Bv, 0, none⟩) hbv).trans HV.out, fun s W h => ⟨_, HS.out.below h.bel (Nat.le_refl _)⟩, fun s W h => h.le, fun s W x h hz hx => ⟨h, hx⟩, fun s W h he => he, fun s s' h => h⟩)
    ?assign ?body ?done ?stop
  case assign =>
    rintro l s x W K' ⟨hj, hx⟩ hzW hK
    rw [hA] at hK ⊢
    unfold valI at hK ⊢
    gi_wp2
    exact hK _ _ ⟨hj, hx, rfl⟩ (SameRec.refl _ _)
  case body =>
    rintro l s x a1 V ⟨hj, hx, rfl⟩ hzV
    obtain ⟨v, hH⟩ := hj.heap
    have hlt : s.1 < xs.length := (List.getElem?_eq_some_iff.1 hx).1
    have htk : xs.take (s.1 + 1) = xs.take s.1 ++ [x] := take_snoc hx
    have hlen : (xs.take s.1).length = s.1 := by simp; omega
    have hPT := putI HO.out x (by rw [heapS_len, hlen]; omega) (by omega) (by omega) V hH
    have HHS : Hid (putL (ahK key) (heapS key (xs.take s.1)) (x, (s.1 : Int) + 1) = heapS key (xs.take (s.1 + 1))) := Lib.hid (by rw [htk, heapS_snoc, hlen])
    have hcp := cell_of_row V _ 0 _ _ _ hj.ptr
    simp at hcp
    have HJ := Lib.hid hj
    have HPT := Lib.hid hPT
    have HB1 : Hid (V.heap[w1.heap.size]? = some (.cells #[.pointer (some ⟨w.heap.size, 0, none⟩)] 60 (0, 0))) := Lib.hid hj.ptr
    clear hj hH hPT htk
    unfold valI at HPT ⊢
    rw [hA]
    gi_wp2_with (refine ⟨trivial, ?_⟩; gi_at_call 30; refine (CallsIn.inRound l (callsIn_wide.2 HPT.out)).mono ?_; rintro e w' ⟨rfl, g, v', h3, b3, g3⟩; have H3 := Lib.hid h3; have B3 := Lib.hid b3; have G3 := Lib.hid g3; clear h3 b3 g3)
    rw [HHS.out] at H3
    have hown := HJ.out.own
    have hV1 := (Array.getElem?_eq_some_iff.1 HB1.out).1
    have hzw := HZ2.out
    refine ⟨⟨B3.out.block _ (by omega) (fun hk => (hown _ hk).2.1 rfl), B3.out.block _ (by omega) (fun hk => (hown _ hk).2.2.1 rfl)⟩, (s.1 + 1, g :: s.2), rfl, ⟨v', ?_⟩, fun k hk => ?_, hlt, HJ.out.bel.trans (B3.out.below (fun k hk => (hown k hk).1) HJ.out.bel.size), (B3.out.block _ hV1 (fun hk => (hown _ hk).2.2.2 rfl)).trans HB1.out⟩
    · show HeapI _ _ _ _ _ _ ((s.1 + 1 : Nat) : Int)
      push_cast
      exact H3.out
    · rcases List.mem_cons.1 hk with rfl | hk
      · rcases G3.out with h | h
        · exact hown _ h
        · exact ⟨by omega, by omega, by omega, by omega⟩
      · exact hown _ hk
  case done =>
    rintro s W hj he hD
    rw [hA]
    refine hKQ _ _ ?_
    have hcp := cell_of_row W _ 0 _ _ _ hj.ptr
    simp at hcp
    have HJ := Lib.hid hj
    have HD := Lib.hid hD
    have HE := Lib.hid he
    clear hj hD he
    go_wp2_with fail
    have hj2 := FromJI.noRec (by have := HZ2.out; omega) (by have := HZ2.out; omega) s W (.deferred none) _ (.inl rfl) HJ.out
    obtain ⟨v, hv⟩ := hj2.heap
    have he := HE.out
    rw [show xs.take s.1 = xs from by rw [he]; exact List.take_length, he] at hv
    refine ⟨by simp, .inl ⟨_, _, rfl, run_takeDeferred HD.out, ?_⟩⟩
    exact ⟨_, results_tmp rfl _ _ _, w.heap.size, s.2, v, rfl, hv, fun k hk => (HJ.out.own k hk).1, hj2.bel⟩
  case stop =>
    rintro c W h _
    exact h.elim

end Go.Proofs.Ytpdncgjepfgnjaa
