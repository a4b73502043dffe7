/- atom.Value. -/
import Derived.Test.YtfgppkmhjjnnnaaDoorAtoA
namespace Go.Proofs.YtfgppkmhjjnnnaaDoor
open Go.RowKit
set_option linter.unusedVariables false
attribute [local go_sem] Oper.semAt_some

theorem withinOf (a : Option Addr) (n c s : Nat) (w : World) :
    Calls Tryd.prog 25 #[.slice a n c, .int .u64 (s : Nat)] w fun e w' => e = .returned (.func (.func 39) #[] #[.pointer (some ⟨w.heap.size, 0, none⟩), .pointer (some ⟨w.heap.size + 1, 0, none⟩)]) ∧ w' = (w.alloc (.cells #[.slice a n c] 22)).alloc (.cells #[.int .u64 (s : Nat)] 23) := by
  go_enter Tryd.func25, Tryd.ntmps25
  go_wp2
  go_ret
  exact ⟨rfl, rfl⟩
def vmax (l : List Ent) : Int := l.foldr (fun e m => max m e.2) 0
theorem vmax_cons (x : Ent) (r : List Ent) : vmax (x :: r) = max (vmax r) x.2 := rfl
theorem vmax_nonneg : ∀ l : List Ent, 0 ≤ vmax l
  | [] => Int.le_refl _
  | x :: r => by rw [vmax_cons]; have := vmax_nonneg r; omega
theorem vmax_in (s : Nat) : ∀ zs : List Ent, vmax (zs.filter (inA s)) = askL withinB (zs.filter (rightA 1099511627776)) s
  | [] => rfl
  | x :: r => by
    have ih := vmax_in s r
    have e : inA s x = (rightA 1099511627776 x && withinB x.1 s) := rfl
    rw [List.filter_cons, List.filter_cons, e]
    cases h1 : rightA 1099511627776 x with
    | false => simpa using ih
    | true =>
      cases h2 : withinB x.1 s with
      | false =>
        simp only [Bool.and_false, Bool.false_eq_true, if_false, if_true]
        rw [askL_cons, if_neg (by rw [h2]; decide)]
        exact ih
      | true =>
        simp only [Bool.and_true, if_true]
        rw [askL_cons, if_pos h2, vmax_cons, ih]
/-- What stays while the greatest value is looked for: what is to come, the greatest so far. -/
structure VaJ (w : World) (sv : Value) (s : Nat) (L : List Ent) (st : List Ent × Int) (W : World) : Prop where
  bel : Below w.heap.size w W
  max : Boxed W w.heap.size 2 (.int .i64 st.2)
  b1 : Boxed W (w.heap.size + 1) 22 sv
  b2 : Boxed W (w.heap.size + 2) 23 (.int .u64 (s : Nat))
  hist : Max.max st.2 (vmax st.1) = vmax L
  nn : 0 ≤ st.2
section
variable {w : World} {sv : Value} {s : Nat} {L : List Ent} {st : List Ent × Int} {W : World}
theorem VaJ.below {W' : World} (h : VaJ w sv s L st W) (hb : Below W.heap.size W W') : VaJ w sv s L st W' :=
  ⟨h.bel.trans (hb.mono h.bel.size), (hb.block _ h.max.lt).trans h.max, (hb.block _ h.b1.lt).trans h.b1, (hb.block _ h.b2.lt).trans h.b2, h.hist, h.nn⟩
theorem VaJ.noRec (st : List Ent × Int) : NoRec (w.heap.size + 3) (VaJ w sv s L st) := fun W o k hk h => by
  have hb := But.putObj W k o
  exact ⟨h.bel.trans (hb.below (fun j hj => by simp at hj; omega) h.bel.size), (hb.block _ h.max.lt (by simp; omega)).trans h.max, (hb.block _ h.b1.lt (by simp; omega)).trans h.b1, (hb.block _ h.b2.lt (by simp; omega)).trans h.b2, h.hist, h.nn⟩
theorem vaC {zs : List Ent} (hs : EnsP w.heap.size w sv zs) : WinC (w.heap.size + 1) (w.heap.size + 2) w.heap.size sv zs s Prod.fst (VaJ w sv s L) (fun st x W => VaJ w sv s L st W ∧ ∃ r, st.1 = x :: r) (fun st st' => st'.1 = st.1.tail) where
  row := fun st W h => ⟨h.b1, h.b2, hs.below h.bel (Nat.le_refl _)⟩
  alloc := fun st W o h => h.below ((Below.refl _ _).alloc (Nat.le_refl _) _)
  yield := fun st W x r h e => ⟨h, r, e⟩
  next := fun st st' h => h
end
set_option maxRecDepth 100000 in
set_option maxHeartbeats 8000000 in
theorem value_any (a : Option Addr) (n c s : Nat) (zs : List Ent) (hs : okS s) (hok : ∀ x ∈ zs, okS x.1) (hlen : zs.length ≤ 1000000) (w : World) (hz : EnsP w.heap.size w (.slice a n c) zs) :
    Calls Tryd.prog 15 #[.slice a n c, .int .u64 (s : Nat)] w fun e w' => e = .returned (.int .i64 (askL withinB (zs.filter (rightA 1099511627776)) s)) ∧ Below w.heap.size w w' := by
  rw [← vmax_in]
  obtain ⟨L, hL⟩ : ∃ L, zs.filter (inA s) = L := ⟨_, rfl⟩
  have HL := Lib.hid hL
  have HZ := Lib.hid hz
  have HOK := Lib.hid hok
  have HWO := Lib.hid (fun W => withinOf a n c s W)
  rw [hL]
  clear hL hz hok
  refine (callsIn_wide (n := 3)).1 ?_
  refine callsIn_of_wp_marks Tryd.func15 rfl trivial ?_ rfl
  simp only [Tryd.ntmps15, List.size_toArray, List.length_cons, List.length_nil, Nat.reduceAdd, Nat.reduceSub, Array.replicate_succ, Array.replicate_zero, List.push_toArray, List.append_toArray, List.nil_append, List.cons_append]
  refine wpIn_wide.2 ?_
  obtain ⟨w1, hw1⟩ : ∃ w1, w.alloc (Obj.cells #[.int .i64 0] 2) = w1 := ⟨_, rfl⟩
  have HW1 := Lib.hid hw1
  clear hw1
  go_upto_region 2 with fail
  rw [HW1.out]
  go_wp2_with fail
  refine (HWO.out _).mono ?_
  rintro e w2 ⟨rfl, hw2⟩
  have HW2 := Lib.hid hw2
  clear hw2
  go_wp2_with fail
  have hz1 : w1.heap.size = w.heap.size + 1 := by rw [← HW1.out]; simp
  have hb12 : Below w1.heap.size w1 w2 := by rw [HW2.out]; exact ((Below.refl _ _).alloc (Nat.le_refl _) _).alloc (by simp) _
  have hz2 : w2.heap.size = w.heap.size + 3 := by rw [HW2.out]; simp [hz1]
  have hm1 : Boxed w1 w.heap.size 2 (.int .i64 0) := by rw [← HW1.out]; exact Boxed.new w _ _
  have hb01 : Below w.heap.size w w1 := by rw [← HW1.out]; exact (Below.refl _ _).alloc (Nat.le_refl _) _
  have hJ2 : VaJ w (.slice a n c) s L (L, 0) w2 := by
    refine ⟨hb01.trans (hb12.mono hb01.size), (hb12.block _ hm1.lt).trans hm1, ?_, ?_, by have := vmax_nonneg L; simp only; omega, Int.le_refl _⟩
    · rw [HW2.out, ← hz1]; exact (Boxed.new w1 _ _).alloc _
    · have h := Boxed.new (w1.alloc (.cells #[.slice a n c] 22)) 23 (.int .u64 (s : Nat))
      rw [World.size_alloc, hz1] at h
      rw [HW2.out]
      exact h
  have HJ2 := Lib.hid hJ2
  have HZ2 := Lib.hid hz2
  have HZ1 := Lib.hid hz1
  clear hz1 hb12 hz2 hm1 hb01 hJ2
  rename_i K hKQ
  refine (wpIn_wide (n := 3)).1 ?_
  refine wpIn_actG ?_
  intro A hA
  rw [HZ1.out] at hA
  refine rangeG rfl (by omega) (gf := 39) (lb := #[.pointer (some ⟨w.heap.size + 1, 0, none⟩), .pointer (some ⟨w.heap.size + 2, 0, none⟩)]) (by rw [hA]; rfl) trivial (enters_of Tryd.func39 (by kernel_rfl) rfl) (encs := fun (x : Ent) => #[.agg #[.int .u64 (x.1 : Nat), .int .i64 x.2]]) (fun _ => rfl)
    (VaJ w (.slice a n c) s L) (fun st x W => VaJ w (.slice a n c) s L st W ∧ ∃ r, st.1 = x :: r)
    (fun (st : List Ent × Int) (x : Ent) a1 W => (VaJ w (.slice a n c) s L st W ∧ ∃ r, st.1 = x :: r) ∧ ∃ Bx, w.heap.size + 5 ≤ Bx ∧ W.heap[Bx]? = some (.cells #[.int .u64 (x.1 : Nat), .int .i64 x.2] 28 (0, 0)) ∧ a1 = { tmps := ((A.tmps.setIfInBounds 10 (.agg #[.int .u64 (x.1 : Nat), .int .i64 x.2])).setIfInBounds 6 (.pointer (some ⟨Bx, 0, none⟩))), defers := [] })
    (fun c W => False) (fun st st' => st'.1 = st.1.tail) (fun st _ => st.1 = []) (L, 0)
    (fun st W o k hk h => VaJ.noRec st W o k (by rw [HZ2.out] at hk; exact hk) h)
    (fun st x a1 W o k hk ⟨⟨h1, hg⟩, Bx, h2, h3, h5⟩ => ⟨⟨VaJ.noRec st W o k (by rw [HZ2.out] at hk; exact hk) h1, hg⟩, Bx, h2, (World.putObj_heap_other (by rw [HZ2.out] at hk; omega)).trans h3, h5⟩)
    (fun c W o k hk h => h) (fun _ _ _ _ _ h => h) (fun r => HJ2.out.below (((Below.refl w2.heap.size w2).alloc (Nat.le_refl _) (.deferred (some []))).alloc (by simp) (.loop r)))
    (within1 hs HOK.out hlen (vaC HZ.out) HL.out.symm)
    ?assign ?body ?done ?stop
  case assign =>
    rintro l0 st ⟨x, u⟩ W K' ⟨hj, hg⟩ hzW hK
    rw [hA] at hK ⊢
    have hb := (Below.refl W.heap.size W).alloc (Nat.le_refl _) (.cells #[.int .u64 (x : Nat), .int .i64 u] 28)
    have hj2 := hj.below hb
    rw [HZ2.out] at hzW
    have HH : Hid (((VaJ w (.slice a n c) s L st (W.alloc (.cells #[.int .u64 (x : Nat), .int .i64 u] 28)) ∧ ∃ r, st.1 = (x, u) :: r)) ∧ SameRec w2.heap.size W (W.alloc (.cells #[.int .u64 (x : Nat), .int .i64 u] 28)) ∧ (W.alloc (.cells #[.int .u64 (x : Nat), .int .i64 u] 28)).heap[W.heap.size]? = some (.cells #[.int .u64 (x : Nat), .int .i64 u] 28 (0, 0)) ∧ w.heap.size + 5 ≤ W.heap.size) := Lib.hid ⟨⟨hj2, hg⟩, ⟨hb.block _ (by rw [HZ2.out]; omega), hb.block _ (by rw [HZ2.out]; omega)⟩, World.alloc_heap_new W _, by omega⟩
    clear hj hg hj2 hb
    gi_wp2
    exact hK _ _ ⟨HH.out.1, W.heap.size, HH.out.2.2.2, HH.out.2.2.1, rfl⟩ HH.out.2.1
  case body =>
    rintro l9 ⟨rem, m⟩ ⟨x, u⟩ a1 V ⟨⟨hj, r, hr⟩, Bx, hBx, hx, rfl⟩ hzV
    simp only at hr
    subst hr
    have c0 : V.cell? ⟨w.heap.size, 0, none⟩ = some (.int .i64 m) := hj.max.cell
    have f0 := hj.max.frozen
    have c1 : V.cell? ⟨Bx, 1, none⟩ = some (.int .i64 u) := cell_of_row V Bx 1 _ _ _ hx
    have hh := hj.hist
    simp only [vmax_cons] at hh
    have HEND : Hid (SameRec w2.heap.size V (V.setCell ⟨w.heap.size, 0, none⟩ (.int .i64 (Max.max m u))) ∧ ∃ st', st'.1 = r ∧ VaJ w (.slice a n c) s L st' (V.setCell ⟨w.heap.size, 0, none⟩ (.int .i64 (Max.max m u)))) := Lib.hid (by
      have hbu : But [w.heap.size] V (V.setCell ⟨w.heap.size, 0, none⟩ (.int .i64 (Max.max m u))) := (But.refl _ V).set (.inl (by simp)) _
      have hz2 := HZ2.out
      have hl1 := hj.b1.lt
      have hl2 := hj.b2.lt
      refine ⟨⟨hbu.block _ (by omega) (by simp; omega), hbu.block _ (by omega) (by simp; omega)⟩, (r, Max.max m u), rfl, hj.bel.trans (hbu.below (fun k hk => by simp at hk; omega) hj.bel.size), hj.max.set _, (hbu.block _ hl1 (by simp)).trans hj.b1, (hbu.block _ hl2 (by simp)).trans hj.b2, ?_, ?_⟩
      · simp only; omega
      · have := hj.nn; simp only at this ⊢; omega)
    clear hj hx hh
    rw [hA]
    by_cases hmu : m < u
    · have hmx : Max.max m u = u := by omega
      rw [hmx] at HEND
      have g1 : decide (m ≤ u) = true := decide_eq_true (by omega)
      have g2 : decide (u ≤ m) = false := decide_eq_false (by omega)
      have g3 : ¬ u ≤ m := by omega
      gi_wp2_with fail
      all_goals first | exact HEND.out | (exfalso; omega)
    · have hmx : Max.max m u = m := by omega
      rw [hmx] at HEND
      have g3 : u ≤ m := by omega
      gi_wp2_with fail
      all_goals first | exact HEND.out | (exfalso; omega) | (obtain rfl : u = m := by omega; exact HEND.out)
  case done =>
    rintro ⟨rem, m⟩ W hj he hD
    simp only at he
    subst he
    have hh := hj.hist
    have hnn := hj.nn
    have hm : m = vmax L := by
      simp only [vmax, List.foldr_nil] at hh hnn ⊢
      omega
    subst hm
    have c0 : W.cell? ⟨w.heap.size, 0, none⟩ = some (.int .i64 (vmax L)) := hj.max.cell
    have hj2 := VaJ.noRec _ W (.deferred none) _ (.inl rfl) hj
    have HB := Lib.hid hj2.bel
    have HD := Lib.hid hD
    rw [HZ2.out] at HD
    rw [hA]
    refine hKQ _ _ ?_
    clear hj hh hnn hD hj2
    rw [HZ2.out]
    go_wp2_with fail
    refine ⟨by simp, .inl ⟨_, _, rfl, run_takeDeferred HD.out, ?_⟩⟩
    exact ⟨_, results_tmp rfl _ _ _, rfl, HB.out⟩
  case stop =>
    rintro c W hF hD
    exact hF.elim
end Go.Proofs.YtfgppkmhjjnnnaaDoor
