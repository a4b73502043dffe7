/- atom.Normal and atom.IsNormal. -/
import Derived.Test.YtfgppkmhjjnnnaaDoorAtoG
import Derived.Test.YtfgppkmhjjnnnaaDoorAtoH
import Derived.Test.YtfgppkmhjjnnnaaDoorAtoT
import Derived.Test.YtfgppkmhjjnnnaaDoorAtoX
import Derived.Test.YtfgppkmhjjnnnaaDoorAtoU
import Derived.Test.YtfgppkmhjjnnnaaDoorAtoJ
import Derived.Test.YtfgppkmhjjnnnaaDoorOpenAt
import Derived.Test.YtfgppkmhjjnnnaaDoorMasks
namespace Go.Proofs.YtfgppkmhjjnnnaaDoor
open Go.RowKit
set_option linter.unusedVariables false
attribute [local go_sem] Oper.semAt_some

set_option maxRecDepth 100000 in
set_option maxHeartbeats 8000000 in
theorem normal_any (a : Option Addr) (n c : Nat) (zs : List Ent) (hok : ∀ x ∈ zs, okS x.1) (hlen : zs.length ≤ 10000) (w : World) (hz : EnsP w.heap.size w (.slice a n c) zs) :
    Calls Tryd.prog 10 #[.slice a n c] w fun e w' => ∃ v out, e = .returned v ∧ IsNrm zs out ∧ out.length ≤ zs.length ∧ (∀ x ∈ out, okS x.1) ∧ w'.ownsRow w.heap.size 28 2 v out.length (flatVE out) ∧ Below w.heap.size w w' := by
  obtain ⟨i0, hi, hz0, hz1, hz2⟩ := info_parts infoTE
  have HGR := Lib.hid (greatest_any a n c zs hok hlen w hz)
  have HOK := Lib.hid hok
  clear hz hok
  go_enter Tryd.func10, Tryd.ntmps10
  go_wp2_with fail
  refine HGR.out.mono ?_
  rintro e w1 ⟨rfl, ⟨l, hT, hll, hI⟩, hb1⟩
  have hkeys : ∀ y ∈ l, ∃ z : Nat, y.1 = z ∧ okS z := fun y hy => by
    obtain ⟨x, hx, e⟩ := hI.src y hy
    exact ⟨x.1, by rw [e], HOK.out x (List.mem_filter.1 hx).1⟩
  have HOR := Lib.hid (ordered_any w.heap.size l hkeys (by omega) w1 hT)
  have HB1 := Lib.hid hb1
  have HI := Lib.hid hI
  clear hT hkeys hb1 hI
  go_wp2_with fail
  refine HOR.out.mono ?_
  rintro e w2 ⟨v, S, rfl, hrow, hperm, hsort, hb2⟩
  have hO := ordOf HI.out hperm hsort
  have hSl : S.length ≤ zs.length := by rw [hperm.length_eq, entsOf_len]; exact hll
  have hSok : ∀ x ∈ S, okS x.1 := fun x hx => HOK.out x (List.mem_filter.1 (hO.src x hx)).1
  have hSr : ∀ x ∈ S, rightA 1099511627776 x = true := fun x hx => (List.mem_filter.1 (hO.src x hx)).2
  have HSR := Lib.hid hSr
  have hEnd : IsNrm zs (normC withinB S) := isNrm HOK.out hO
  have hES := EnsP.of_owns hrow
  obtain ⟨sa, sc, rfl⟩ := own_form hrow
  have HES := Lib.hid hES
  have HEND := Lib.hid hEnd
  have HSOK := Lib.hid hSok
  have HB2 : Hid (Below w.heap.size w w2) := Lib.hid (HB1.out.trans (hb2.mono HB1.out.size))
  have HSL := Lib.hid hSl
  obtain ⟨q, hq⟩ : ∃ q, S.length = q := ⟨_, rfl⟩
  have HQ := Lib.hid hq
  rw [hq]
  have hqb : q ≤ 10000 := by omega
  clear hrow hperm hsort hb2 hO hSl hSok hSr hEnd hES hq hll
  go_wp2
  go_loopw [3, 10] (fun nv i wr => ∃ (m : Nat) (out : List Ent) (na : Option Addr) (nc : Nat), nv = .slice na out.length nc ∧ i = .int .i64 m ∧ m ≤ q ∧ RowE w2 nv out wr ∧ out = normC withinB (S.take m)) (fun _ i _ => q - (intOf i).toNat)
  case atStart => exact ⟨0, [], none, 0, rfl, rfl, Nat.zero_le _, RowE.nil w2, rfl⟩
  case round =>
    obtain ⟨m, out, na, nc, rfl, rfl, hm, hR, hout⟩ := hrel
    by_cases hlt : m < q
    · obtain ⟨⟨k, u⟩, hk⟩ : ∃ x, S[m]? = some x := ⟨_, List.getElem?_eq_getElem (by rw [HQ.out]; exact hlt)⟩
      obtain ⟨b, off, rfl, hb, f0, f1⟩ := HES.out.at_ hk
      have hkok := HSOK.out _ (List.mem_of_getElem? hk)
      have d0 := (hR.bel.cell (p := ⟨b, off + m * 2, none⟩) hb).trans f0
      have d1 := (hR.bel.cell (p := ⟨b, off + m * 2 + 1, none⟩) hb).trans f1
      simp only at d0 d1 hkok
      have g1 : (0 : Int) ≤ m := by omega
      have g2 : (m : Int) < q := by omega
      have hsub : ∀ x ∈ out, x ∈ S := fun x hx => by rw [hout] at hx; exact normC_sub S m x hx
      have hol : out.length ≤ m := by rw [hout]; exact (normC_len S m).1
      have hnx := normC_next hk
      rw [← hout] at hnx
      have hright : out.filter (rightA 1099511627776) = out := List.filter_eq_self.2 (fun x hx => HSR.out x (hsub x hx))
      obtain ⟨W1, hW1⟩ : ∃ W1, wr.alloc (.cells #[.int .u64 (k : Nat), .int .i64 u] 28) = W1 := ⟨_, rfl⟩
      have hb01 : Below wr.heap.size wr W1 := by rw [← hW1]; exact (Below.refl _ _).alloc (Nat.le_refl _) _
      have hnew : W1.heap[wr.heap.size]? = some (.cells #[.int .u64 (k : Nat), .int .i64 u] 28) := by rw [← hW1]; exact World.alloc_heap_new wr _
      have hBlt : wr.heap.size < W1.heap.size := by rw [← hW1]; simp
      have HR1 := Lib.hid (hR.below hb01)
      have c0 := BelW.cell (w := W1) (a := ⟨wr.heap.size, 0, none⟩) hBlt (cell_of_row W1 _ 0 _ _ _ hnew)
      have c1 := BelW.cell (w := W1) (a := ⟨wr.heap.size, 1, none⟩) hBlt (cell_of_row W1 _ 1 _ _ _ hnew)
      have HV : Hid (∀ p : BelW W1, Calls Tryd.prog 15 #[.slice na out.length nc, .int .u64 (k : Nat)] p.W fun e w' => e = .returned (.int .i64 (askL withinB out k)) ∧ Below p.W.heap.size p.W w') := Lib.hid (fun p => by
        have hE := EnsP.of_owns ((HR1.out.below p.h).row)
        have h := value_any na out.length nc k out hkok (fun x hx => HSOK.out x (hsub x hx)) (by omega) p.W hE
        rw [hright] at h
        exact h)
      have HW1 := Lib.hid hW1
      have HNX := Lib.hid hnx
      have HZW : Hid (w2.heap.size ≤ W1.heap.size) := Lib.hid HR1.out.bel.size
      clear hR hW1 hnew hk hout hright hsub hnx f0 f1
      obtain ⟨r, hr⟩ : ∃ r, askL withinB out k = r := ⟨_, rfl⟩
      rw [hr] at HV HNX
      clear hr
      have hol2 : out.length ≤ 10000 := by omega
      obtain ⟨len, hlen2⟩ : ∃ len, out.length = len := ⟨_, rfl⟩
      have HLEN := Lib.hid hlen2
      rw [hlen2] at hol HV HR1 ⊢
      clear hlen2
      by_cases hru : r < u
      · have g3 : decide (r < u) = true := decide_eq_true hru
        rw [if_pos hru] at HNX
        go_upto_region 5 with fail
        rw [HW1.out]
        refine wp_region_bel (by kernel_rfl) (by kernel_rfl) ?_
        repeat (quiet_step ((go_at_call 15; exact Calls.bel_of (HV.out _))))
        refine wpQuiet_nil ?_
        intro W3 hw'
        have hb3 : Below W1.heap.size W1 W3 := by
          obtain ⟨p, hp⟩ := hw'
          rw [hp]
          exact p.h
        clear hw'
        have e0 := c0 ⟨W3, hb3⟩
        have e1 := c1 ⟨W3, hb3⟩
        simp only at e0 e1
        have HRR := Lib.hid (HR1.out.below hb3)
        have hz3 := hb3.size
        have hz4 := HZW.out
        clear c0 c1 HV HR1 hb3 hb01 hBlt d0 d1
        obtain ⟨nv, hnv⟩ : ∃ nv, Value.slice na len nc = nv := ⟨_, rfl⟩
        rw [hnv] at HRR ⊢
        clear hnv
        go_wp2_with (at_builtin; refine wpList_append_own_at _ rfl _ _ 22 rfl w2.heap.size 28 i0 (.agg #[.int .u64 0, .int .i64 0]) 2 16 Tryd.underlying22 hi hz0 hz1 hz2 rfl (by decide) _ _ _ rfl (HRR.out.row.alloc _) ⟨W3.heap.size, 0, none⟩ 1 1 [.int .u64 (k : Nat), .int .i64 u] rfl rfl (World.news_of_block (World.alloc_heap_new W3 _)) (by simp [Value.oneCell']) (by unfold maxLen; omega) (by omega) (by simp; omega) ?_; intro v' A hown' hgrow _ _; have HA := Lib.hid (HRR.out.app k u _ hown' hgrow); clear hown' hgrow)
        go_roundw
        case rel =>
          obtain ⟨sa2, sc2, rfl⟩ := own_form HA.out.row
          exact ⟨m + 1, out ++ [(k, u)], sa2, sc2, by rw [List.length_append, HLEN.out, List.length_singleton], by go_num, by omega, HA.out, HNX.out.symm⟩
        case measure => simp [intOf]; omega
      · have g3 : decide (r < u) = false := decide_eq_false hru
        rw [if_neg hru] at HNX
        go_upto_region 5 with fail
        rw [HW1.out]
        refine wp_region_bel (by kernel_rfl) (by kernel_rfl) ?_
        repeat (quiet_step ((go_at_call 15; exact Calls.bel_of (HV.out _))))
        refine wpQuiet_nil ?_
        intro W3 hw'
        have hb3 : Below W1.heap.size W1 W3 := by
          obtain ⟨p, hp⟩ := hw'
          rw [hp]
          exact p.h
        clear hw'
        have HRR := Lib.hid (HR1.out.below hb3)
        clear c0 c1 HV HR1 hb3 hb01 hBlt d0 d1
        go_wp2
        go_roundw
        case rel => exact ⟨m + 1, out, na, nc, by rw [HLEN.out], by go_num, by omega, HRR.out, HNX.out.symm⟩
        case measure => simp [intOf]; omega
    · obtain rfl : m = q := by omega
      rw [List.take_of_length_le (by rw [HQ.out]; exact Nat.le_refl _)] at hout
      have hlen3 : out.length ≤ zs.length := by
        have h1 := (normC_len S S.length).2
        rw [List.take_of_length_le (Nat.le_refl _), ← hout] at h1
        exact Nat.le_trans h1 HSL.out
      have hok3 : ∀ x ∈ out, okS x.1 := fun x hx => by
        have h1 := normC_sub S S.length x
        rw [List.take_of_length_le (Nat.le_refl _), ← hout] at h1
        exact HSOK.out x (h1 hx)
      have HF : Hid (IsNrm zs out ∧ out.length ≤ zs.length ∧ (∀ x ∈ out, okS x.1) ∧ wr.ownsRow w.heap.size 28 2 (.slice na out.length nc) out.length (flatVE out) ∧ Below w.heap.size w wr) := Lib.hid (by
        refine ⟨by rw [hout]; exact HEND.out, hlen3, hok3, ?_, HB2.out.trans (hR.bel.mono HB2.out.size)⟩
        have hrow := hR.row
        have hsz := HB2.out.size
        refine ⟨hrow.1, ?_⟩
        rcases hrow.2 with h | ⟨g, cap, cur, h1, h2, h3⟩
        · exact .inl h
        · exact .inr ⟨g, cap, cur, h1, by omega, h3⟩)
      obtain ⟨len, hlen2⟩ : ∃ len, out.length = len := ⟨_, rfl⟩
      rw [hlen2] at HF ⊢
      have HLEN := Lib.hid hlen2
      clear hR hout hlen3 hok3 hlen2
      go_wp2
      go_ret
      refine ⟨_, out, rfl, HF.out.1, by rw [HLEN.out]; exact HF.out.2.1, HF.out.2.2.1, by rw [HLEN.out]; exact HF.out.2.2.2.1, HF.out.2.2.2.2⟩
set_option maxRecDepth 100000 in
set_option maxHeartbeats 4000000 in
theorem isNormal_any (a : Option Addr) (n c : Nat) (zs nrm : List Ent) (hok : ∀ x ∈ zs, okS x.1) (hlen : zs.length ≤ 10000) (w : World) (hz : EnsP w.heap.size w (.slice a n c) zs) (hn : IsNrm zs nrm) :
    Calls Tryd.prog 12 #[.slice a n c] w fun e w' => e = .returned (.bool (decide (zs = nrm))) ∧ Below w.heap.size w w' := by
  have HN := Lib.hid (normal_any a n c zs hok hlen w hz)
  have HZ := Lib.hid hz
  have HU := Lib.hid hn
  clear hz hn hok
  go_enter Tryd.func12, Tryd.ntmps12
  go_wp2_with fail
  refine HN.out.mono ?_
  rintro e w1 ⟨v, out, rfl, h1, h2, h3, hrow, hb⟩
  obtain rfl := HU.out.uniq h1
  have hE := EnsP.of_owns hrow
  obtain ⟨sa, sc, rfl⟩ := own_form hrow
  have HEQ := Lib.hid (slEqual_any a sa n nrm.length c sc zs nrm (by omega) (by omega) w1 ((HZ.out.below hb (Nat.le_refl _)).mono hb.size) hE)
  have HB := Lib.hid hb
  clear hE hrow hb
  go_wp2_with fail
  refine HEQ.out.mono ?_
  rintro e w2 ⟨rfl, hb2⟩
  have HB2 := Lib.hid (HB.out.trans (hb2.mono HB.out.size))
  clear hb2
  go_wp2
  go_ret
  exact ⟨rfl, HB2.out⟩
end Go.Proofs.YtfgppkmhjjnnnaaDoor

/- The document's example of atoms. -/
namespace Go.Proofs.YtfgppkmhjjnnnaaDoor
open Go.RowKit
set_option linter.unusedVariables false
attribute [local go_sem] Oper.semAt_some

theorem eqSeq9 (f : Fn) (a c : Array Value) (w : World) : (binOp .eql 39 (.func f a c) .nilFunc).run Tryd.prog w = .ok (.bool false) w := by kernel_rfl
attribute [local go_sem] eqSeq9
def exA : List Ent := [(1, 5), (3, 5), (2, 3), (2, 2)]
def exN : List Ent := [(1, 5), (2, 3)]
theorem exA_ok : ∀ x ∈ exA, okS x.1 := by intro x hx; simp [exA] at hx; rcases hx with rfl | rfl | rfl | rfl <;> (unfold okS; decide)
theorem exN_ok : ∀ x ∈ exN, okS x.1 := by intro x hx; simp [exN] at hx; rcases hx with rfl | rfl <;> (unfold okS; decide)
theorem exA_nrm : IsNrm exA exN := by
  have h := refN_nrm exA_ok
  have e : refN exA exA.length = exN := by decide +kernel
  rw [e] at h
  exact h
theorem exN_nrm : IsNrm exN exN := by
  have h := refN_nrm exN_ok
  have e : refN exN exN.length = exN := by decide +kernel
  rw [e] at h
  exact h
def sumE (l : List Ent) : Int := l.foldr (fun e m => m + e.2) 0
theorem sumE_nonneg : ∀ l : List Ent, (∀ x ∈ l, 0 ≤ x.2) → 0 ≤ sumE l
  | [], _ => Int.le_refl _
  | x :: r, h => by
    have h1 := sumE_nonneg r (fun y hy => h y (List.mem_cons_of_mem _ hy))
    have h2 := h x List.mem_cons_self
    show 0 ≤ sumE r + x.2
    omega
theorem OffE.of_lt {n : Nat} {W : World} {sv : Value} {xs : List Ent} {own : List Nat} (h : EnsP n W sv xs) (ho : ∀ k ∈ own, n ≤ k) : OffE own sv := by
  intro ad m c e hm hk
  rcases h with ⟨rfl, a, c', e2⟩ | ⟨b, off, cap, e2, hb, _, _⟩
  · rw [e] at e2; cases e2; omega
  · rw [e] at e2; cases e2
    have := ho _ hk
    simp only at this
    omega
/-- What stays while the example's values are added up. -/
structure AlJ (w4 : World) (cb : Nat) (T : Int) (st : List Ent × Int) (W : World) : Prop where
  but : But [cb] w4 W
  cnt : Boxed W cb 3 (.int .i64 st.2)
  hist : st.2 + sumE st.1 = T
  nn : 0 ≤ st.2 ∧ ∀ x ∈ st.1, 0 ≤ x.2
section
variable {w4 : World} {cb : Nat} {T : Int} {st : List Ent × Int} {W : World}
theorem AlJ.below {W' : World} (h : AlJ w4 cb T st W) (hb : Below W.heap.size W W') : AlJ w4 cb T st W' :=
  ⟨h.but.trans' (But.of_below hb), (hb.block _ h.cnt.lt).trans h.cnt, h.hist, h.nn⟩
theorem AlJ.noRec (hcb : cb < w4.heap.size) (st : List Ent × Int) : NoRec w4.heap.size (AlJ w4 cb T st) := fun W o k hk h => by
  have hb := But.putObj W k o
  exact ⟨h.but.trans hb (fun j hj => by simp at hj; omega), (hb.block _ h.cnt.lt (by simp; omega)).trans h.cnt, h.hist, h.nn⟩
theorem alC {zs : List Ent} {B1 B2 s : Nat} {sv : Value} (h1 : Boxed w4 B1 22 sv) (h2 : Boxed w4 B2 23 (.int .u64 (s : Nat))) (hE : EnsP B1 w4 sv zs) (ho : OffE [cb] sv) (n1 : B1 ≠ cb) (n2 : B2 ≠ cb) : WinC B1 B2 B1 sv zs s Prod.fst (AlJ w4 cb T) (fun st x W => AlJ w4 cb T st W ∧ ∃ r, st.1 = x :: r) (fun st st' => st'.1 = st.1.tail) where
  row := fun st W h => ⟨(h.but.block _ h1.lt (by simpa using n1)).trans h1, (h.but.block _ h2.lt (by simpa using n2)).trans h2, hE.but h.but ho (Nat.le_of_lt h1.lt)⟩
  alloc := fun st W o h => h.below ((Below.refl _ _).alloc (Nat.le_refl _) _)
  yield := fun st W x r h e => ⟨h, r, e⟩
  next := fun st st' h => h
end
set_option maxRecDepth 100000 in
set_option maxHeartbeats 16000000 in
theorem atomAlive_any (w : World) : Calls Tryd.prog 4 #[] w fun e w' => e = .returned (.bool true) ∧ Below w.heap.size w w' := by
  refine (callsIn_wide (n := 3)).1 ?_
  refine callsIn_of_wp_marks Tryd.func4 rfl trivial ?_ rfl
  simp only [Tryd.ntmps4, List.size_toArray, List.length_cons, List.length_nil, Nat.reduceAdd, Nat.reduceSub, Array.replicate_succ, Array.replicate_zero, List.push_toArray, List.append_toArray, List.nil_append, List.cons_append]
  refine wpIn_wide.2 ?_
  obtain ⟨w1, hw1⟩ : ∃ w1, w.alloc (Obj.cells #[.int .u64 1, .int .i64 5, .int .u64 3, .int .i64 5, .int .u64 2, .int .i64 3, .int .u64 2, .int .i64 2] 28) = w1 := ⟨_, rfl⟩
  have hnew : w1.heap[w.heap.size]? = some (.cells #[.int .u64 1, .int .i64 5, .int .u64 3, .int .i64 5, .int .u64 2, .int .i64 3, .int .u64 2, .int .i64 2] 28) := by rw [← hw1]; exact World.alloc_heap_new w _
  have hz1 : w1.heap.size = w.heap.size + 1 := by rw [← hw1]; simp
  have hb01 : Below w.heap.size w w1 := by rw [← hw1]; exact (Below.refl _ _).alloc (Nat.le_refl _) _
  have hE1 : EnsP w1.heap.size w1 (.slice (some ⟨w.heap.size, 0, none⟩) 4 4) exA := by
    refine .inr ⟨w.heap.size, 0, 4, rfl, by omega, by decide, fun j x hj => ?_⟩
    have c : ∀ i, w1.cell? ⟨w.heap.size, i, none⟩ = _ := fun i => cell_of_row w1 _ i _ _ _ hnew
    match j, hj with
    | 0, hj => simp [exA] at hj; subst hj; exact ⟨c 0, c 1⟩
    | 1, hj => simp [exA] at hj; subst hj; exact ⟨c 2, c 3⟩
    | 2, hj => simp [exA] at hj; subst hj; exact ⟨c 4, c 5⟩
    | 3, hj => simp [exA] at hj; subst hj; exact ⟨c 6, c 7⟩
    | j + 4, hj => simp [exA] at hj
  have HW1 := Lib.hid hw1
  have HE1 := Lib.hid hE1
  have HB01 := Lib.hid hb01
  have HN := Lib.hid (normal_any (some ⟨w.heap.size, 0, none⟩) 4 4 exA exA_ok (by decide) w1 hE1)
  clear hw1 hnew hz1 hb01 hE1
  go_upto_region 2 with fail
  rw [HW1.out]
  go_wp2_with fail
  refine HN.out.mono ?_
  rintro e w2 ⟨v, out, rfl, hnrm, _, _, hrow, hb12⟩
  obtain rfl := exA_nrm.uniq hnrm
  have hEN := EnsP.of_owns hrow
  obtain ⟨na, nc, rfl⟩ := own_form hrow
  have HE2 : Hid (EnsP w2.heap.size w2 (.slice (some ⟨w.heap.size, 0, none⟩) 4 4) exA) := Lib.hid ((HE1.out.below hb12 (Nat.le_refl _)).mono hb12.size)
  have HEN := Lib.hid hEN
  have HB2 : Hid (Below w.heap.size w w2) := Lib.hid (HB01.out.trans (hb12.mono HB01.out.size))
  clear hnrm hrow hEN hb12 HN
  obtain ⟨w3, hw3⟩ : ∃ w3, w2.alloc (Obj.cells #[.int .i64 0] 3) = w3 := ⟨_, rfl⟩
  have hcb : Boxed w3 w2.heap.size 3 (.int .i64 0) := by rw [← hw3]; exact Boxed.new w2 _ _
  have hb23 : Below w2.heap.size w2 w3 := by rw [← hw3]; exact (Below.refl _ _).alloc (Nat.le_refl _) _
  have HW3 := Lib.hid hw3
  have HE3 : Hid (EnsP w3.heap.size w3 (.slice (some ⟨w.heap.size, 0, none⟩) 4 4) exA) := Lib.hid ((HE2.out.below hb23 (Nat.le_refl _)).mono hb23.size)
  have HWN := Lib.hid (withinNew (some ⟨w.heap.size, 0, none⟩) 4 4 2 exA w3 (by decide) HE3.out (fun h => by cases h))
  have HCB := Lib.hid hcb
  have HB23 := Lib.hid hb23
  clear hw3 hcb hb23
  go_upto_region 4 with fail
  rw [HW3.out]
  go_wp2_with fail
  refine HWN.out.mono ?_
  rintro e w4 ⟨B1, B2, sv, rfl, hx1, hx2, hES, hge, hb34, hB1, rfl, hz4⟩
  obtain ⟨sa, sn, sc, rfl⟩ : ∃ a n c, sv = .slice a n c := by
    rcases hES with ⟨_, a, c, e⟩ | ⟨b, off, cap, e, _⟩
    · exact ⟨_, _, _, e⟩
    · exact ⟨_, _, _, e⟩
  obtain ⟨cb, hcbq⟩ : ∃ cb, w2.heap.size = cb := ⟨_, rfl⟩
  have hcb3 := HCB.out
  have hb23 := HB23.out
  have hz3 := hb34.size
  rw [hcbq] at hcb3
  have hcb3l := hcb3.lt
  have hcb4 : Boxed w4 cb 3 (.int .i64 0) := (hb34.block _ hcb3l).trans hcb3
  have hcbl : cb < w4.heap.size := hcb4.lt
  have hAl0 : AlJ w4 cb 5 (exA.filter (inA 2), 0) w4 := ⟨But.refl _ _, hcb4, by decide +kernel, Int.le_refl _, fun x hx => by
    have := exA_ok
    have h2 := (List.mem_filter.1 hx).1
    simp [exA] at h2
    rcases h2 with rfl | rfl | rfl | rfl <;> decide⟩
  have hoff : OffE [cb] (.slice sa sn sc) := fun ad n c e hn hk => by
    have := hge ad n c e
    simp at hk
    omega
  have n1 : B1 ≠ cb := by omega
  have n2 : B1 + 1 ≠ cb := by omega
  have hwin := alC (T := 5) hx1 hx2 hES hoff n1 n2
  have hE4 : EnsP cb w4 (.slice (some ⟨w.heap.size, 0, none⟩) 4 4) exA := by
    rw [← hcbq]
    exact (HE2.out.below hb23 (Nat.le_refl _)).below hb34 hb23.size
  have hN4 : EnsP cb w4 (.slice na exN.length nc) exN := by
    rw [← hcbq]
    exact (HEN.out.below hb23 (Nat.le_refl _)).below hb34 hb23.size
  have HB4 : Hid (Below w.heap.size w w4) := Lib.hid ((HB2.out.trans (hb23.mono HB2.out.size)).trans (hb34.mono (Nat.le_trans HB2.out.size hb23.size)))
  have HCBW : Hid (w.heap.size ≤ cb) := Lib.hid (by rw [← hcbq]; exact HB2.out.size)
  have HAL := Lib.hid hAl0
  have HWIN := Lib.hid hwin
  have HE4 := Lib.hid hE4
  have HN4 := Lib.hid hN4
  have HZ4 := Lib.hid hcbl
  rw [hcbq]
  clear hcbq hcb3 hb23 hz3 hcb3l hcb4 hAl0 hoff n1 n2 hwin hE4 hN4 hx1 hx2 hES hge hb34 hB1 hz4 HE1 HE2 HE3 HEN HWN HCB HB23 HB2 HB01 HW1 HW3
  go_wp2_with fail
  rename_i K hKQ
  refine (wpIn_wide (n := 3)).1 ?_
  refine wpIn_actG ?_
  intro A hA
  refine rangeG rfl (by omega) (gf := 39) (lb := #[.pointer (some ⟨B1, 0, none⟩), .pointer (some ⟨B1 + 1, 0, none⟩)]) (by rw [hA]; rfl) trivial (enters_of Tryd.func39 (by kernel_rfl) rfl) (encs := fun (x : Ent) => #[.agg #[.int .u64 (x.1 : Nat), .int .i64 x.2]]) (fun _ => rfl)
    (AlJ w4 cb 5) (fun st x W => AlJ w4 cb 5 st W ∧ ∃ r, st.1 = x :: r)
    (fun (st : List Ent × Int) (x : Ent) a1 W => (AlJ w4 cb 5 st W ∧ ∃ r, st.1 = x :: r) ∧ ∃ Bx, w4.heap.size + 2 ≤ Bx ∧ W.heap[Bx]? = some (.cells #[.int .u64 (x.1 : Nat), .int .i64 x.2] 28 (0, 0)) ∧ a1 = { tmps := ((A.tmps.setIfInBounds 18 (.agg #[.int .u64 (x.1 : Nat), .int .i64 x.2])).setIfInBounds 5 (.pointer (some ⟨Bx, 0, none⟩))), defers := [] })
    (fun c W => False) (fun st st' => st'.1 = st.1.tail) (fun st _ => st.1 = []) (exA.filter (inA 2), 0)
    (fun st W o k hk h => AlJ.noRec HZ4.out st W o k hk h)
    (fun st x a1 W o k hk ⟨⟨h1, hg⟩, Bx, h2, h3, h5⟩ => ⟨⟨AlJ.noRec HZ4.out st W o k hk h1, hg⟩, Bx, h2, (World.putObj_heap_other (by omega)).trans h3, h5⟩)
    (fun c W o k hk h => h) (fun _ _ _ _ _ h => h) (fun r => HAL.out.below (((Below.refl w4.heap.size w4).alloc (Nat.le_refl _) (.deferred (some []))).alloc (by simp) (.loop r)))
    (within1 (s := 2) (by unfold okS; decide) exA_ok (by decide) HWIN.out rfl)
    ?assign ?body ?done ?stop
  case assign =>
    rintro l0 st ⟨x, u⟩ W K' ⟨hj, hg⟩ hzW hK
    rw [hA] at hK ⊢
    have hb := (Below.refl W.heap.size W).alloc (Nat.le_refl _) (.cells #[.int .u64 (x : Nat), .int .i64 u] 28)
    have hj2 := hj.below hb
    have HH : Hid (((AlJ w4 cb 5 st (W.alloc (.cells #[.int .u64 (x : Nat), .int .i64 u] 28)) ∧ ∃ r, st.1 = (x, u) :: r)) ∧ SameRec w4.heap.size W (W.alloc (.cells #[.int .u64 (x : Nat), .int .i64 u] 28)) ∧ (W.alloc (.cells #[.int .u64 (x : Nat), .int .i64 u] 28)).heap[W.heap.size]? = some (.cells #[.int .u64 (x : Nat), .int .i64 u] 28 (0, 0)) ∧ w4.heap.size + 2 ≤ W.heap.size) := Lib.hid ⟨⟨hj2, hg⟩, ⟨hb.block _ (by omega), hb.block _ (by omega)⟩, World.alloc_heap_new W _, by omega⟩
    clear hj hg hj2 hb
    gi_wp2
    exact hK _ _ ⟨HH.out.1, W.heap.size, HH.out.2.2.2, HH.out.2.2.1, rfl⟩ HH.out.2.1
  case body =>
    rintro l9 ⟨rem, m⟩ ⟨x, u⟩ a1 V ⟨⟨hj, r, hr⟩, Bx, hBx, hx, rfl⟩ hzV
    simp only at hr
    subst hr
    have c0 : V.cell? ⟨cb, 0, none⟩ = some (.int .i64 m) := hj.cnt.cell
    have f0 := hj.cnt.frozen
    have c1 : V.cell? ⟨Bx, 1, none⟩ = some (.int .i64 u) := cell_of_row V Bx 1 _ _ _ hx
    have hh := hj.hist
    have hnn := hj.nn
    have hsn := sumE_nonneg r (fun y hy => hnn.2 y (List.mem_cons_of_mem _ hy))
    have hu := hnn.2 (x, u) List.mem_cons_self
    have hm := hnn.1
    have hh2 : m + (sumE r + u) = 5 := hh
    simp only at hu hm
    have HEND : Hid (SameRec w4.heap.size V (V.setCell ⟨cb, 0, none⟩ (.int .i64 (m + u))) ∧ ∃ st', st'.1 = r ∧ AlJ w4 cb 5 st' (V.setCell ⟨cb, 0, none⟩ (.int .i64 (m + u)))) := Lib.hid (by
      have hbu : But [cb] V (V.setCell ⟨cb, 0, none⟩ (.int .i64 (m + u))) := (But.refl _ V).set (.inl (by simp)) _
      have hz2 := HZ4.out
      refine ⟨⟨hbu.block _ (by omega) (by simp; omega), hbu.block _ (by omega) (by simp; omega)⟩, (r, m + u), rfl, hj.but.trans' hbu, hj.cnt.set _, ?_, ?_, fun y hy => hnn.2 y (List.mem_cons_of_mem _ hy)⟩
      · simp only; omega
      · simp only; omega)
    have b1 : m + u ≤ 1000 := by omega
    have b2 : 0 ≤ m + u := by omega
    clear hj hx hh hnn hsn hh2
    rw [hA]
    gi_wp2_with fail
    exact HEND.out
  case done =>
    rintro ⟨rem, m⟩ W hj he hD
    simp only at he
    subst he
    have hh := hj.hist
    obtain rfl : m = 5 := by simp only [sumE, List.foldr_nil] at hh; omega
    have c0 : W.cell? ⟨cb, 0, none⟩ = some (.int .i64 5) := hj.cnt.cell
    have hEW : EnsP cb W (.slice (some ⟨w.heap.size, 0, none⟩) 4 4) exA := HE4.out.but hj.but (OffE.of_lt HE4.out (fun k hk => by simp at hk; omega)) (Nat.le_of_lt HZ4.out)
    have hNW : EnsP cb W (.slice na exN.length nc) exN := HN4.out.but hj.but (OffE.of_lt HN4.out (fun k hk => by simp at hk; omega)) (Nat.le_of_lt HZ4.out)
    have hcW : cb ≤ W.heap.size := Nat.le_of_lt hj.cnt.lt
    have HBW : Hid (Below w.heap.size w W) := Lib.hid (HB4.out.trans (hj.but.below (fun k hk => by simp at hk; have := HCBW.out; omega) HB4.out.size))
    obtain ⟨a1, a2, e1, la, q0, q1⟩ := hEW.at_ (k := 0) (x := (1, 5)) rfl
    cases e1
    obtain ⟨_, _, e2, _, q4, q5⟩ := hEW.at_ (k := 2) (x := (2, 3)) rfl
    cases e2
    obtain ⟨gn, fn, rfl, ln, r0, r1⟩ := hNW.at_ (k := 0) (x := (1, 5)) rfl
    obtain ⟨_, _, e3, _, r2, r3⟩ := hNW.at_ (k := 1) (x := (2, 3)) rfl
    cases e3
    have p0 := BelW.cell (w := W) (a := ⟨w.heap.size, 0, none⟩) (Nat.lt_of_lt_of_le la hcW) q0
    have p1 := BelW.cell (w := W) (a := ⟨w.heap.size, 1, none⟩) (Nat.lt_of_lt_of_le la hcW) q1
    have p4 := BelW.cell (w := W) (a := ⟨w.heap.size, 4, none⟩) (Nat.lt_of_lt_of_le la hcW) q4
    have p5 := BelW.cell (w := W) (a := ⟨w.heap.size, 5, none⟩) (Nat.lt_of_lt_of_le la hcW) q5
    have n0 := BelW.cell (w := W) (Nat.lt_of_lt_of_le ln hcW) r0
    have n1 := BelW.cell (w := W) (Nat.lt_of_lt_of_le ln hcW) r1
    have n2 := BelW.cell (w := W) (Nat.lt_of_lt_of_le ln hcW) r2
    have n3 := BelW.cell (w := W) (Nat.lt_of_lt_of_le ln hcW) r3
    have pc := BelW.cell (w := W) hj.cnt.lt c0
    have hEp : ∀ p : BelW W, EnsP p.W.heap.size p.W (.slice (some ⟨w.heap.size, 0, none⟩) 4 4) exA := fun p => (hEW.below p.h hcW).mono (Nat.le_trans hcW p.h.size)
    have hNp : ∀ p : BelW W, EnsP p.W.heap.size p.W (.slice (some ⟨gn, fn, none⟩) exN.length nc) exN := fun p => (hNW.below p.h hcW).mono (Nat.le_trans hcW p.h.size)
    have K1 : Hid (∀ p : BelW W, Calls Tryd.prog 12 #[.slice (some ⟨gn, fn, none⟩) 2 nc] p.W fun e w' => e = .returned (.bool true) ∧ Below p.W.heap.size p.W w') := Lib.hid (fun p => isNormal_any _ 2 nc exN exN exN_ok (by decide) p.W (hNp p) exN_nrm)
    have K2 : Hid (∀ p : BelW W, Calls Tryd.prog 12 #[.slice (some ⟨w.heap.size, 0, none⟩) 4 4] p.W fun e w' => e = .returned (.bool false) ∧ Below p.W.heap.size p.W w') := Lib.hid (fun p => isNormal_any _ 4 4 exA exN exA_ok (by decide) p.W (hEp p) exA_nrm)
    have K3 : Hid (∀ p : BelW W, Calls Tryd.prog 13 #[.agg #[.int .u64 1, .int .i64 5]] p.W fun e w' => e = .returned (.bool true) ∧ Below p.W.heap.size p.W w') := Lib.hid (fun p => (right_any (1, 5) p.W (by unfold okS; decide)).mono fun e w' ⟨h1, h2⟩ => ⟨h1, by rw [h2]; exact (Below.refl _ _).alloc (Nat.le_refl _) _⟩)
    have K4 : Hid (∀ p : BelW W, Calls Tryd.prog 13 #[.agg #[.int .u64 1, .int .i64 0]] p.W fun e w' => e = .returned (.bool false) ∧ Below p.W.heap.size p.W w') := Lib.hid (fun p => (right_any (1, 0) p.W (by unfold okS; decide)).mono fun e w' ⟨h1, h2⟩ => ⟨h1, by rw [h2]; exact (Below.refl _ _).alloc (Nat.le_refl _) _⟩)
    have K5 : Hid (∀ p : BelW W, Calls Tryd.prog 14 #[.slice (some ⟨w.heap.size, 0, none⟩) 4 4, .int .u64 3] p.W fun e w' => e = .returned (.int .i64 0) ∧ Below p.W.heap.size p.W w') := Lib.hid (fun p => by
      have h := check_any _ 4 4 3 exA (by unfold okS; decide) exA_ok (by decide) p.W (hEp p)
      rw [show checkV exA 3 = 0 from by decide +kernel] at h
      exact h)
    have K6 : Hid (∀ p : BelW W, Calls Tryd.prog 14 #[.slice (some ⟨w.heap.size, 0, none⟩) 4 4, .int .u64 1] p.W fun e w' => e = .returned (.int .i64 1) ∧ Below p.W.heap.size p.W w') := Lib.hid (fun p => by
      have h := check_any _ 4 4 1 exA (by unfold okS; decide) exA_ok (by decide) p.W (hEp p)
      rw [show checkV exA 1 = 1 from by decide +kernel] at h
      exact h)
    have K7 : Hid (∀ p : BelW W, Calls Tryd.prog 15 #[.slice (some ⟨w.heap.size, 0, none⟩) 4 4, .int .u64 2] p.W fun e w' => e = .returned (.int .i64 3) ∧ Below p.W.heap.size p.W w') := Lib.hid (fun p => by
      have h := value_any _ 4 4 2 exA (by unfold okS; decide) exA_ok (by decide) p.W (hEp p)
      rw [show askL withinB (exA.filter (rightA 1099511627776)) 2 = 3 from by decide +kernel] at h
      exact h)
    have K8 : Hid (∀ p : BelW W, Calls Tryd.prog 16 #[.slice (some ⟨w.heap.size, 0, none⟩) 4 4] p.W fun e w' => e = .returned (.int .i64 5) ∧ Below p.W.heap.size p.W w') := Lib.hid (fun p => by
      have h := most_any _ 4 4 exA exA_ok (by decide) p.W (hEp p)
      rw [show askL withinB (exA.filter (rightA 1099511627776)) 18446744073709551615 = 5 from by decide +kernel] at h
      exact h)
    have K9 : Hid (∀ p : BelW W, Calls Tryd.prog 17 #[.slice (some ⟨w.heap.size, 0, none⟩) 4 4] p.W fun e w' => e = .returned (.int .u64 3) ∧ Below p.W.heap.size p.W w') := Lib.hid (fun p => by
      have h := union_any _ 4 4 exA exA_ok (by decide) p.W (hEp p)
      rw [show umax (exA.filter (inA 18446744073709551615)) = 3 from by decide +kernel] at h
      exact h)
    have HD := Lib.hid hD
    rw [show exN.length = 2 from rfl] at hA
    simp only [Nat.zero_mul, Nat.zero_add, Nat.add_zero, Nat.one_mul] at n0 n1 n2 n3
    clear hj hh hEW hNW hEp hNp hD q0 q1 q4 q5 r0 r1 r2 r3 c0 la ln
    rw [hA]
    refine hKQ _ _ ?_
    go_upto_region 10 with fail
    refine wp_region_bel (by kernel_rfl) (by kernel_rfl) ?_
    iterate 24 (quiet_step ((go_at_call 12; exact Calls.bel_of (K1.out _))))
    iterate 11 (quiet_step (first | (go_at_call 12; exact Calls.bel_of (K2.out _)) | (go_at_call 13; exact Calls.bel_of (K3.out _))))
    iterate 9 (quiet_step (first | (go_at_call 13; exact Calls.bel_of (K4.out _)) | (go_at_call 14; exact Calls.bel_of (K5.out _))))
    repeat (quiet_step (first | (go_at_call 14; exact Calls.bel_of (K6.out _)) | (go_at_call 15; exact Calls.bel_of (K7.out _)) | (go_at_call 16; exact Calls.bel_of (K8.out _)) | (go_at_call 17; exact Calls.bel_of (K9.out _))))
    refine wpQuiet_nil ?_
    intro W3 hw'
    have hb3 : Below W.heap.size W W3 := by
      obtain ⟨p, hp⟩ := hw'
      rw [hp]
      exact p.h
    have HD3 : Hid (W3.heap[w4.heap.size]? = some (.deferred (some []))) := Lib.hid ((hb3.block _ (Array.getElem?_eq_some_iff.1 HD.out).1).trans HD.out)
    have HB : Hid (Below w.heap.size w (W3.putObj w4.heap.size (.deferred none))) := Lib.hid (by
      have hb := But.putObj W3 w4.heap.size (.deferred none)
      have hs1 := HBW.out.size
      have hs2 := hb3.size
      have hs3 := HB4.out.size
      exact (HBW.out.trans (hb3.mono hs1)).trans (hb.below (fun k hk => by simp at hk; omega) (by omega)))
    clear hw' hb3 p0 p1 p4 p5 n0 n1 n2 n3 pc K1 K2 K3 K4 K5 K6 K7 K8 K9
    go_wp2_with fail
    refine ⟨by simp, .inl ⟨_, _, rfl, run_takeDeferred HD3.out, ?_⟩⟩
    exact ⟨_, results_tmp rfl _ _ _, rfl, HB.out⟩
  case stop =>
    rintro c W hF hD
    exact hF.elim
end Go.Proofs.YtfgppkmhjjnnnaaDoor

/- What stays while atoms of an iterator are kept in a row; the statement of the atoms within a set. -/
namespace Go.Proofs.YtfgppkmhjjnnnaaDoor
open Go.RowKit
set_option linter.unusedVariables false
attribute [local go_sem] Oper.semAt_some

theorem i64_and127 (n : Int) : bits .and .i64 n 127 = n % 128 := by
  have h127 : (BitVec.ofInt 64 127).toNat = 2 ^ 7 - 1 := by decide
  have key : (BitVec.ofInt 64 n &&& BitVec.ofInt 64 127).toNat = (n % ((2 ^ 64 : Nat) : Int)).toNat % 2 ^ 7 := by
    rw [BitVec.toNat_and, BitVec.toNat_ofInt, h127, Nat.and_two_pow_sub_one_eq_mod]
  show IntKind.i64.wrap ((BitVec.ofInt 64 n &&& BitVec.ofInt 64 127).toNat : Nat) = n % 128
  rw [key, IntKind.wrap_i64]
  omega
theorem and127 (a : Int) : ∃ t : Nat, bits .and .i64 a 127 = (t : Int) ∧ t < 128 := ⟨(a % 128).toNat, by rw [i64_and127]; omega, by omega⟩
/-- What stays: the box with the row, what is to come, what came. -/
structure WiK (w5 : World) (GB g0 N0 : Nat) (out : List Ent) (W : World) : Prop where
  but : But [GB, g0] w5 W
  row : ∃ v, Boxed W GB 22 v ∧ W.ownsRow N0 28 2 v out.length (flatVE out) ∧ ∀ g, v.ownBlock = some g → g = g0 ∨ w5.heap.size + 2 ≤ g
/-- Where the blocks lie. -/
structure WiN (w5 : World) (GB g0 N0 : Nat) : Prop where
  g : N0 ≤ g0
  b : g0 < GB
  l : GB < w5.heap.size
section
variable {w5 : World} {GB g0 N0 : Nat} {out : List Ent} {W : World}
theorem WiK.below {W' : World} (hN : WiN w5 GB g0 N0) (h : WiK w5 GB g0 N0 out W) (hb : Below W.heap.size W W') : WiK w5 GB g0 N0 out W' := by
  obtain ⟨v, h1, h2, h3⟩ := h.row
  exact ⟨h.but.trans' (But.of_below hb), v, (hb.block _ h1.lt).trans h1, row_but h2 (own2 := []) (But.of_below hb) (fun _ _ hk => nomatch hk), h3⟩
theorem WiK.noRec (hN : WiN w5 GB g0 N0) : NoRec w5.heap.size (WiK w5 GB g0 N0 out) := fun W o k hk h => by
  obtain ⟨v, h1, h2, h3⟩ := h.row
  have hb := But.putObj W k o
  have hg := hN.b
  have hl := hN.l
  refine ⟨h.but.trans hb (fun j hj => by simp at hj; omega), v, (hb.block _ h1.lt (by simp; omega)).trans h1, row_but h2 hb (fun g hg' hk' => ?_), h3⟩
  simp at hk'
  subst hk'
  have := h3 g hg'
  omega
/-- One more is kept. -/
theorem WiK.app (hN : WiN w5 GB g0 N0) (h : WiK w5 GB g0 N0 out W) (hz : w5.heap.size + 2 ≤ W.heap.size) {k : Nat} {u : Int} {v v' : Value} (hv : Boxed W GB 22 v) (ob : Obj) {w1 : World}
    (hown : w1.ownsRow N0 28 2 v' (out.length + 1) (flatVE out ++ [.int .u64 (k : Nat), .int .i64 u])) (hg : (W.alloc ob).grownBy w1 v.ownBlock) (hat : v'.ownBlock = v.ownBlock ∨ v'.ownBlock = some (W.alloc ob).heap.size) :
    WiK w5 GB g0 N0 (out ++ [(k, u)]) (w1.setCell ⟨GB, 0, none⟩ v') ∧ SameRec w5.heap.size W (w1.setCell ⟨GB, 0, none⟩ v') := by
  obtain ⟨v0, h1, h2, h3⟩ := h.row
  obtain rfl := boxed_eq hv h1
  have hgb := hN.b
  have hl := hN.l
  have hsz := hg.size
  have hne : v.ownBlock ≠ some GB := fun e => by have := h3 _ e; omega
  have hsame : ∀ k, k < W.heap.size → v.ownBlock ≠ some k → k ≠ GB → (w1.setCell ⟨GB, 0, none⟩ v').heap[k]? = W.heap[k]? := fun k hk hne hkb => by
    rw [Below.heap_setCell _ _ _ _ (by simpa using hkb), hg.block k (by simp; omega) (fun e => hne e.symm), heap_alloc_old' W ob k hk]
  have hbut : But (GB :: (match v.ownBlock with | some g => [g] | none => [])) W (w1.setCell ⟨GB, 0, none⟩ v') :=
    (((But.refl _ W).alloc ob).grown hg (fun k hk => .inl (by rw [hk]; simp))).set (.inl (by simp)) _
  have hvo : ∀ k ∈ (match v.ownBlock with | some g => [g] | none => []), v.ownBlock = some k := fun k hk => by
    cases e : v.ownBlock with
    | none => rw [e] at hk; cases hk
    | some g => rw [e] at hk; simp at hk; rw [hk]
  refine ⟨⟨h.but.trans hbut (fun j hj => ?_), v', ?_, ?_, fun g hg' => ?_⟩, hsame _ (by omega) (fun e => by have := h3 _ e; omega) (by omega), hsame _ (by omega) (fun e => by have := h3 _ e; omega) (by omega)⟩
  · rcases List.mem_cons.1 hj with rfl | hj
    · exact .inl (by simp)
    · rcases h3 _ (hvo _ hj) with e | e
      · exact .inl (by simp [e])
      · exact .inr (by omega)
  · have hb1 : Boxed w1 GB 22 v := (hv.alloc ob).kept hg (fun e => hne e.symm)
    exact hb1.set v'
  · rw [List.length_append, flatVE_app]
    refine row_but hown ((But.refl [GB] w1).set (.inl (by simp)) _) (fun g hg' hk => ?_)
    simp at hk
    subst hk
    rcases hat with e | e
    · exact hne (e ▸ hg')
    · rw [hg'] at e; simp at e; omega
  · rcases hat with e | e
    · exact h3 g (e ▸ hg')
    · rw [hg'] at e
      have hgz : g = W.heap.size + 1 := by simpa using e
      exact .inr (by omega)
end
/-- Between two rounds. -/
def WiJ (w5 : World) (GB g0 N0 mo : Nat) (L : List Ent) (st : List Ent × List Ent) (W : World) : Prop := WiK w5 GB g0 N0 st.2 W ∧ st.2 ++ st.1 = L ∧ st.2.length < mo
theorem wiC {w5 : World} {GB g0 N0 mo B1 B2 s : Nat} {L zs : List Ent} {sv : Value} (hN : WiN w5 GB g0 N0) (h1 : Boxed w5 B1 22 sv) (h2 : Boxed w5 B2 23 (.int .u64 (s : Nat))) (hE : EnsP B1 w5 sv zs) (ho : OffE [GB, g0] sv) (n1 : B1 ∉ [GB, g0]) (n2 : B2 ∉ [GB, g0]) :
    WinC B1 B2 B1 sv zs s Prod.fst (WiJ w5 GB g0 N0 mo L) (fun st x W => WiJ w5 GB g0 N0 mo L st W ∧ ∃ r, st.1 = x :: r) (fun st st' => st'.1 = st.1.tail) where
  row := fun st W h => ⟨(h.1.but.block _ h1.lt n1).trans h1, (h.1.but.block _ h2.lt n2).trans h2, hE.but h.1.but ho (Nat.le_of_lt h1.lt)⟩
  alloc := fun st W o h => ⟨h.1.below hN ((Below.refl _ _).alloc (Nat.le_refl _) _), h.2⟩
  yield := fun st W x r h e => ⟨h, r, e⟩
  next := fun st st' h => h
theorem ask_sub (L : List Ent) (s t : Nat) : askL withinB L (s &&& t) ≤ askL withinB L s ∧ askL withinB L (s &&& t) ≤ askL withinB L t := by
  refine ⟨askL_le (askL_nonneg _ _) (fun x hx hw => askL_ge hx (sOrd.wtrans _ _ _ hw (within_and s t))), askL_le (askL_nonneg _ _) (fun x hx hw => askL_ge hx (sOrd.wtrans _ _ _ hw ?_))⟩
  rw [Nat.and_comm]; exact within_and t s
theorem ask_zero {L : List Ent} (hok : ∀ x ∈ L, okS x.1) : askL withinB (L.filter (rightA 1099511627776)) 0 = 0 := by
  refine Int.le_antisymm (askL_le (Int.le_refl _) (fun x hx hw => ?_)) (askL_nonneg _ _)
  exfalso
  obtain ⟨h1, h2⟩ := List.mem_filter.1 hx
  have h3 := and_within (hok x h1) hw
  rw [Nat.zero_and] at h3
  exact (right_of h2).1 h3.symm
theorem ask_most (L : List Ent) (s : Nat) : askL withinB (L.filter (rightA 1099511627776)) s ≤ 1099511627776 :=
  askL_le (by decide) (fun x hx _ => (right_of (List.mem_filter.1 hx).2).2.2)
end Go.Proofs.YtfgppkmhjjnnnaaDoor
