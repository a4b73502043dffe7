/- atom.Union. -/
import Derived.Test.YtfgppkmhjjnnnaaDoorAtoC
namespace Go.Proofs.YtfgppkmhjjnnnaaDoor
open Go.RowKit
set_option linter.unusedVariables false
attribute [local go_sem] Oper.semAt_some

def umax (l : List Ent) : Nat := l.foldr (fun e m => e.1 ||| m) 0
theorem umax_cons (x : Ent) (r : List Ent) : umax (x :: r) = x.1 ||| umax r := rfl
/-- What stays while all items are gathered: what is to come, those so far. -/
structure UnJ (w : World) (sv : Value) (s : Nat) (L : List Ent) (st : List Ent × Nat) (W : World) : Prop where
  bel : Below w.heap.size w W
  max : Boxed W w.heap.size 23 (.int .u64 (st.2 : Nat))
  b1 : Boxed W (w.heap.size + 1) 22 sv
  b2 : Boxed W (w.heap.size + 2) 23 (.int .u64 (s : Nat))
  hist : st.2 ||| umax st.1 = umax L
  nn : okS st.2
  sub : ∀ y ∈ st.1, y ∈ L
section
variable {w : World} {sv : Value} {s : Nat} {L : List Ent} {st : List Ent × Nat} {W : World}
theorem UnJ.below {W' : World} (h : UnJ w sv s L st W) (hb : Below W.heap.size W W') : UnJ w sv s L st W' :=
  ⟨h.bel.trans (hb.mono h.bel.size), (hb.block _ h.max.lt).trans h.max, (hb.block _ h.b1.lt).trans h.b1, (hb.block _ h.b2.lt).trans h.b2, h.hist, h.nn, h.sub⟩
theorem UnJ.noRec (st : List Ent × Nat) : NoRec (w.heap.size + 3) (UnJ w sv s L st) := fun W o k hk h => by
  have hb := But.putObj W k o
  exact ⟨h.bel.trans (hb.below (fun j hj => by simp at hj; omega) h.bel.size), (hb.block _ h.max.lt (by simp; omega)).trans h.max, (hb.block _ h.b1.lt (by simp; omega)).trans h.b1, (hb.block _ h.b2.lt (by simp; omega)).trans h.b2, h.hist, h.nn, h.sub⟩
theorem unC {zs : List Ent} (hs : EnsP w.heap.size w sv zs) : WinC (w.heap.size + 1) (w.heap.size + 2) w.heap.size sv zs s Prod.fst (UnJ w sv s L) (fun st x W => UnJ w sv s L st W ∧ ∃ r, st.1 = x :: r) (fun st st' => st'.1 = st.1.tail) where
  row := fun st W h => ⟨h.b1, h.b2, hs.below h.bel (Nat.le_refl _)⟩
  alloc := fun st W o h => h.below ((Below.refl _ _).alloc (Nat.le_refl _) _)
  yield := fun st W x r h e => ⟨h, r, e⟩
  next := fun st st' h => h
end
set_option maxRecDepth 100000 in
set_option maxHeartbeats 8000000 in
theorem union_any (a : Option Addr) (n c : Nat) (zs : List Ent) (hok : ∀ x ∈ zs, okS x.1) (hlen : zs.length ≤ 1000000) (w : World) (hz : EnsP w.heap.size w (.slice a n c) zs) :
    Calls Tryd.prog 17 #[.slice a n c] w fun e w' => e = .returned (.int .u64 ((umax (zs.filter (inA 18446744073709551615)) : Nat) : Int)) ∧ Below w.heap.size w w' := by
  obtain ⟨s, hsv⟩ : ∃ s, s = 18446744073709551615 := ⟨_, rfl⟩
  have hs : okS s := by rw [hsv]; unfold okS; decide
  have HF := Lib.hid (fun W => full_any 64 W (by decide) (by decide))
  rw [full64] at HF
  rw [← hsv] at HF ⊢
  clear hsv
  obtain ⟨L, hL⟩ : ∃ L, zs.filter (inA s) = L := ⟨_, rfl⟩
  have HL := Lib.hid hL
  have HZ := Lib.hid hz
  have HOK := Lib.hid hok
  have HXL : Hid (∀ y ∈ L, okS y.1) := Lib.hid (fun y hy => hok y (by rw [← hL] at hy; exact (List.mem_filter.1 hy).1))
  have HWO := Lib.hid (fun W => withinOf a n c s W)
  rw [hL]
  clear hL hz hok
  refine (callsIn_wide (n := 3)).1 ?_
  refine callsIn_of_wp_marks Tryd.func17 rfl trivial ?_ rfl
  simp only [Tryd.ntmps17, List.size_toArray, List.length_cons, List.length_nil, Nat.reduceAdd, Nat.reduceSub, Array.replicate_succ, Array.replicate_zero, List.push_toArray, List.append_toArray, List.nil_append, List.cons_append]
  refine wpIn_wide.2 ?_
  obtain ⟨w1, hw1⟩ : ∃ w1, w.alloc (Obj.cells #[.int .u64 0] 23) = w1 := ⟨_, rfl⟩
  have HW1 := Lib.hid hw1
  clear hw1
  go_upto_region 2 with fail
  rw [HW1.out]
  go_wp2_with fail
  refine (HF.out _).mono ?_
  rintro e wx ⟨rfl, hx⟩
  obtain rfl := hx
  go_wp2_with fail
  refine (HWO.out _).mono ?_
  rintro e w2 ⟨rfl, hw2⟩
  have HW2 := Lib.hid hw2
  clear hw2
  go_wp2_with fail
  have hz1 : w1.heap.size = w.heap.size + 1 := by rw [← HW1.out]; simp
  have hb12 : Below w1.heap.size w1 w2 := by rw [HW2.out]; exact ((Below.refl _ _).alloc (Nat.le_refl _) _).alloc (by simp) _
  have hz2 : w2.heap.size = w.heap.size + 3 := by rw [HW2.out]; simp [hz1]
  have hm1 : Boxed w1 w.heap.size 23 (.int .u64 0) := by rw [← HW1.out]; exact Boxed.new w _ _
  have hb01 : Below w.heap.size w w1 := by rw [← HW1.out]; exact (Below.refl _ _).alloc (Nat.le_refl _) _
  have hJ2 : UnJ w (.slice a n c) s L (L, 0) w2 := by
    refine ⟨hb01.trans (hb12.mono hb01.size), (hb12.block _ hm1.lt).trans hm1, ?_, ?_, by simp, by show (0 : Nat) < 18446744073709551616; decide, fun y hy => hy⟩
    · rw [HW2.out, ← hz1]; exact (Boxed.new w1 _ _).alloc _
    · have h := Boxed.new (w1.alloc (.cells #[.slice a n c] 22)) 23 (.int .u64 (s : Nat))
      rw [World.size_alloc, hz1] at h
      rw [HW2.out]
      exact h
  have HJ2 := Lib.hid hJ2
  have HZ2 := Lib.hid hz2
  have HZ1 := Lib.hid hz1
  clear hz1 hb12 hz2 hm1 hb01 hJ2
  rename_i K hKQ
  refine (wpIn_wide (n := 3)).1 ?_
  refine wpIn_actG ?_
  intro A hA
  rw [HZ1.out] at hA
  refine rangeG rfl (by omega) (gf := 39) (lb := #[.pointer (some ⟨w.heap.size + 1, 0, none⟩), .pointer (some ⟨w.heap.size + 2, 0, none⟩)]) (by rw [hA]; rfl) trivial (enters_of Tryd.func39 (by kernel_rfl) rfl) (encs := fun (x : Ent) => #[.agg #[.int .u64 (x.1 : Nat), .int .i64 x.2]]) (fun _ => rfl)
    (UnJ w (.slice a n c) s L) (fun st x W => UnJ w (.slice a n c) s L st W ∧ ∃ r, st.1 = x :: r)
    (fun (st : List Ent × Nat) (x : Ent) a1 W => (UnJ w (.slice a n c) s L st W ∧ ∃ r, st.1 = x :: r) ∧ ∃ Bx, w.heap.size + 5 ≤ Bx ∧ W.heap[Bx]? = some (.cells #[.int .u64 (x.1 : Nat), .int .i64 x.2] 28 (0, 0)) ∧ a1 = { tmps := ((A.tmps.setIfInBounds 8 (.agg #[.int .u64 (x.1 : Nat), .int .i64 x.2])).setIfInBounds 4 (.pointer (some ⟨Bx, 0, none⟩))), defers := [] })
    (fun c W => False) (fun st st' => st'.1 = st.1.tail) (fun st _ => st.1 = []) (L, 0)
    (fun st W o k hk h => UnJ.noRec st W o k (by rw [HZ2.out] at hk; exact hk) h)
    (fun st x a1 W o k hk ⟨⟨h1, hg⟩, Bx, h2, h3, h5⟩ => ⟨⟨UnJ.noRec st W o k (by rw [HZ2.out] at hk; exact hk) h1, hg⟩, Bx, h2, (World.putObj_heap_other (by rw [HZ2.out] at hk; omega)).trans h3, h5⟩)
    (fun c W o k hk h => h) (fun _ _ _ _ _ h => h) (fun r => HJ2.out.below (((Below.refl w2.heap.size w2).alloc (Nat.le_refl _) (.deferred (some []))).alloc (by simp) (.loop r)))
    (within1 hs HOK.out hlen (unC HZ.out) HL.out.symm)
    ?assign ?body ?done ?stop
  case assign =>
    rintro l0 st ⟨x, u⟩ W K' ⟨hj, hg⟩ hzW hK
    rw [hA] at hK ⊢
    have hb := (Below.refl W.heap.size W).alloc (Nat.le_refl _) (.cells #[.int .u64 (x : Nat), .int .i64 u] 28)
    have hj2 := hj.below hb
    rw [HZ2.out] at hzW
    have HH : Hid (((UnJ w (.slice a n c) s L st (W.alloc (.cells #[.int .u64 (x : Nat), .int .i64 u] 28)) ∧ ∃ r, st.1 = (x, u) :: r)) ∧ SameRec w2.heap.size W (W.alloc (.cells #[.int .u64 (x : Nat), .int .i64 u] 28)) ∧ (W.alloc (.cells #[.int .u64 (x : Nat), .int .i64 u] 28)).heap[W.heap.size]? = some (.cells #[.int .u64 (x : Nat), .int .i64 u] 28 (0, 0)) ∧ w.heap.size + 5 ≤ W.heap.size) := Lib.hid ⟨⟨hj2, hg⟩, ⟨hb.block _ (by rw [HZ2.out]; omega), hb.block _ (by rw [HZ2.out]; omega)⟩, World.alloc_heap_new W _, by omega⟩
    clear hj hg hj2 hb
    gi_wp2
    exact hK _ _ ⟨HH.out.1, W.heap.size, HH.out.2.2.2, HH.out.2.2.1, rfl⟩ HH.out.2.1
  case body =>
    rintro l9 ⟨rem, m⟩ ⟨x, u⟩ a1 V ⟨⟨hj, r, hr⟩, Bx, hBx, hx, rfl⟩ hzV
    simp only at hr
    subst hr
    have c0 : V.cell? ⟨w.heap.size, 0, none⟩ = some (.int .u64 (m : Nat)) := hj.max.cell
    have f0 := hj.max.frozen
    have c1 : V.cell? ⟨Bx, 0, none⟩ = some (.int .u64 (x : Nat)) := cell_of_row V Bx 0 _ _ _ hx
    have hh := hj.hist
    have hm : okS m := hj.nn
    have hxok : okS x := HXL.out (x, u) (hj.sub _ List.mem_cons_self)
    simp only [umax_cons] at hh
    have hor := u64_or_nat m x hm hxok
    have hok2 : okS (m ||| x) := Nat.or_lt_two_pow (n := 64) hm hxok
    have HEND : Hid (SameRec w2.heap.size V (V.setCell ⟨w.heap.size, 0, none⟩ (.int .u64 ((m ||| x : Nat) : Int))) ∧ ∃ st', st'.1 = r ∧ UnJ w (.slice a n c) s L st' (V.setCell ⟨w.heap.size, 0, none⟩ (.int .u64 ((m ||| x : Nat) : Int)))) := Lib.hid (by
      have hbu : But [w.heap.size] V (V.setCell ⟨w.heap.size, 0, none⟩ (.int .u64 ((m ||| x : Nat) : Int))) := (But.refl _ V).set (.inl (by simp)) _
      have hz2 := HZ2.out
      have hl1 := hj.b1.lt
      have hl2 := hj.b2.lt
      refine ⟨⟨hbu.block _ (by omega) (by simp; omega), hbu.block _ (by omega) (by simp; omega)⟩, (r, m ||| x), rfl, hj.bel.trans (hbu.below (fun k hk => by simp at hk; omega) hj.bel.size), hj.max.set _, (hbu.block _ hl1 (by simp)).trans hj.b1, (hbu.block _ hl2 (by simp)).trans hj.b2, ?_, hok2, fun y hy => hj.sub y (List.mem_cons_of_mem _ hy)⟩
      simp only
      rw [Nat.or_assoc]
      exact hh)
    clear hj hx hh
    rw [hA]
    gi_wp2_with fail
    exact HEND.out
  case done =>
    rintro ⟨rem, m⟩ W hj he hD
    simp only at he
    subst he
    have hh := hj.hist
    have hm : m = umax L := by
      simp only [umax, List.foldr_nil, Nat.or_zero] at hh ⊢
      exact hh
    subst hm
    have c0 : W.cell? ⟨w.heap.size, 0, none⟩ = some (.int .u64 ((umax L : Nat) : Int)) := hj.max.cell
    have hj2 := UnJ.noRec _ W (.deferred none) _ (.inl rfl) hj
    have HB := Lib.hid hj2.bel
    have HD := Lib.hid hD
    rw [HZ2.out] at HD
    rw [hA]
    refine hKQ _ _ ?_
    clear hj hh hD hj2
    rw [HZ2.out]
    go_wp2_with fail
    refine ⟨by simp, .inl ⟨_, _, rfl, run_takeDeferred HD.out, ?_⟩⟩
    exact ⟨_, results_tmp rfl _ _ _, rfl, HB.out⟩
  case stop =>
    rintro c W hF hD
    exact hF.elim
end Go.Proofs.YtfgppkmhjjnnnaaDoor
