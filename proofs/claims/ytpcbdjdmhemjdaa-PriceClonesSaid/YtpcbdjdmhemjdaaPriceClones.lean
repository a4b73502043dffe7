/- For whatever two rows of entries and whatever number law PriceClones answers true: a clone goes its own way; entries go on as far as is asked for, in order; what is told may be written over. No condition. -/
import Derived.Test.YtpcbdjdmhemjdaaPriCl
import Derived.Test.YtpcbdjdmhemjdaaOpenEn
namespace Go.Proofs.Ytpcbdjdmhemjdaa.priceClones
open Go.ChangeShapes Go.WideShapes Go.ChangeAt Go.RowKit Go.Proofs.Ytpcbdjdmhemjdaa
set_option linter.unusedVariables false
attribute [local go_sem] Oper.semAt_some
theorem i64_and127 (n : Int) : bits .and .i64 n 127 = n % 128 := by
  have h127 : (BitVec.ofInt 64 127).toNat = 2 ^ 7 - 1 := by decide
  have key : (BitVec.ofInt 64 n &&& BitVec.ofInt 64 127).toNat = (n % ((2 ^ 64 : Nat) : Int)).toNat % 2 ^ 7 := by
    rw [BitVec.toNat_and, BitVec.toNat_ofInt, h127, Nat.and_two_pow_sub_one_eq_mod]
  show IntKind.i64.wrap ((BitVec.ofInt 64 n &&& BitVec.ofInt 64 127).toNat : Nat) = n % 128
  rw [key, IntKind.wrap_i64]
  omega
theorem and127 (a : Int) : ∃ t : Nat, bits .and .i64 a 127 = (t : Int) ∧ t < 128 := ⟨(a % 128).toNat, by rw [i64_and127]; omega, by omega⟩
theorem results_cell1 {fn : Func} {p : Tmp} {ty : TypeId} (h : fn.results = #[.cell p ty]) (tmps : Array Value) (P : Program) (w : World) :
    (results fn tmps).run P w = ((asAddr (tmps.getD p undef)).run P w).andThen fun a w₁ => ((loadVar ty a).run P w₁).andThen fun v w₂ => .ok v w₂ := by
  simp only [results, h]
  simp [Sem.run_bind, Result.andThen]
  cases Sem.run P (asAddr (tmps[p]?.getD undef)) w with
  | ok a w1 => simp only; cases Sem.run P (loadVar ty a) w1 <;> rfl
  | halt h1 w1 => rfl
theorem start_two {w w1 : World} {a c : Array Value} {t u : TypeId} (hb : Below ((w.alloc (.cells a t)).alloc (.cells c u)).heap.size ((w.alloc (.cells a t)).alloc (.cells c u)) w1) :
    w.heap.size + 2 ≤ w1.heap.size ∧ w1.heap[w.heap.size]? = some (.cells a t (0, 0)) ∧ w1.heap[w.heap.size + 1]? = some (.cells c u (0, 0)) ∧ Below w.heap.size w w1 := by
  have h1 := hb.size
  simp only [World.size_alloc] at h1
  refine ⟨h1, (hb.block _ (by simp; omega)).trans ((heap_alloc_old' _ _ _ (by simp)).trans (World.alloc_heap_new w _)), (hb.block _ (by simp)).trans ?_, (((Below.refl w.heap.size w).alloc (Nat.le_refl _) _).alloc (by simp) _).trans (hb.mono (by simp; omega))⟩
  have := World.alloc_heap_new (w.alloc (.cells a t)) (.cells c u)
  rw [World.size_alloc] at this
  exact this

set_option maxRecDepth 100000 in
set_option maxHeartbeats 16000000 in
theorem walk (w : World) (p0 : Option Addr) (n0 c0 : Nat) (l0 : List Ent) (S0 : EnsP w.heap.size w (.slice p0 n0 c0) l0) (b0 : (∀ x ∈ l0, okS x.1 ∧ In64 x.2) ∧ l0.length ≤ Go.maxLen) (p1 : Option Addr) (n1 c1 : Nat) (l1 : List Ent) (S1 : EnsP w.heap.size w (.slice p1 n1 c1) l1) (b1 : (∀ x ∈ l1, okS x.1 ∧ In64 x.2) ∧ l1.length ≤ Go.maxLen) (a2 : Int) (w2 : (Lit.int .i64 a2).wf = true) :
    Calls Try.prog 6 #[.slice p0 n0 c0, .slice p1 n1 c1, .int .i64 a2] w fun e w' => e = .returned (.bool true) ∧ Below w.heap.size w w' := by
  have hl0 := S0.len
  have hl1 := S1.len
  have HAL := Lib.hid (fun W => priceAlive_any W)
  have HO0 : Hid (∀ x ∈ l0, okS x.1) := Lib.hid (fun x hx => (b0.1 x hx).1)
  have HO1 : Hid (∀ x ∈ l1, okS x.1) := Lib.hid (fun x hx => (b1.1 x hx).1)
  have HN0 := Lib.hid hl0.symm
  have HN1 := Lib.hid hl1.symm
  have HZ0 := Lib.hid S0
  have HZA := Lib.hid S1
  clear S0 b0 S1 b1 hl0 hl1 w2
  by_cases h0 : 60 < n0
  · have g0 : decide ((60 : Int) < (n0 : Int)) = true := decide_eq_true (by omega)
    go_enter Try.func6, Try.ntmps6
    go_wp2_with (go_at_call 8; refine (HAL.out _).mono ?_; rintro e w1 ⟨rfl, hb⟩; have hs := start_two hb; have HZ1 := Lib.hid hs.1; have HS1 := Lib.hid hs.2.1; have HR1 := Lib.hid hs.2.2.1; have HB1 := Lib.hid hs.2.2.2; have q1 := cell_of_row w1 _ 0 _ _ _ hs.2.1; have q2 := cell_of_row w1 _ 0 _ _ _ hs.2.2.1; have z1 := frozen_of_row w1 _ 0 _ _ hs.2.1; have z2 := frozen_of_row w1 _ 0 _ _ hs.2.2.1; simp at q1 q2; clear hb hs)
    (try simp only [Exit.inBlock, Exit.then])
    refine bodyPost_ret (v := .bool true) ?_ rfl ⟨rfl, HB1.out.setCell (by simp) _⟩
    rw [results_cell1 rfl]
    simp [asAddr, Result.andThen]
    go_simp
  have g0 : decide ((60 : Int) < (n0 : Int)) = false := decide_eq_false (by omega)
  have hn0 : n0 ≤ 60 := by omega
  clear h0
  by_cases h1 : 60 < n1
  · have g1 : decide ((60 : Int) < (n1 : Int)) = true := decide_eq_true (by omega)
    go_enter Try.func6, Try.ntmps6
    go_wp2_with (go_at_call 8; refine (HAL.out _).mono ?_; rintro e w1 ⟨rfl, hb⟩; have hs := start_two hb; have HZ1 := Lib.hid hs.1; have HS1 := Lib.hid hs.2.1; have HR1 := Lib.hid hs.2.2.1; have HB1 := Lib.hid hs.2.2.2; have q1 := cell_of_row w1 _ 0 _ _ _ hs.2.1; have q2 := cell_of_row w1 _ 0 _ _ _ hs.2.2.1; have z1 := frozen_of_row w1 _ 0 _ _ hs.2.1; have z2 := frozen_of_row w1 _ 0 _ _ hs.2.2.1; simp at q1 q2; clear hb hs)
    (try simp only [Exit.inBlock, Exit.then])
    refine bodyPost_ret (v := .bool true) ?_ rfl ⟨rfl, HB1.out.setCell (by simp) _⟩
    rw [results_cell1 rfl]
    simp [asAddr, Result.andThen]
    go_simp
  have g1 : decide ((60 : Int) < (n1 : Int)) = false := decide_eq_false (by omega)
  have hn1 : n1 ≤ 60 := by omega
  clear h1
  obtain ⟨tt, htt, ht1⟩ := and127 a2
  refine (callsIn_wide (n := 3)).1 ?_
  refine callsIn_of_wp_marks Try.func6 rfl trivial ?_ rfl
  simp only [Try.ntmps6, List.size_toArray, List.length_cons, List.length_nil, Nat.reduceAdd, Nat.reduceSub, Array.replicate_succ, Array.replicate_zero, List.push_toArray, List.append_toArray, List.nil_append, List.cons_append]
  refine wpIn_wide.2 ?_
  go_upto_region 5 with (go_at_call 8; refine (HAL.out _).mono ?_; rintro e w1 ⟨rfl, hb⟩; have hs := start_two hb; have HZ1 := Lib.hid hs.1; have HS1 := Lib.hid hs.2.1; have HR1 := Lib.hid hs.2.2.1; have HB1 := Lib.hid hs.2.2.2; have q1 := cell_of_row w1 _ 0 _ _ _ hs.2.1; have q2 := cell_of_row w1 _ 0 _ _ _ hs.2.2.1; have z1 := frozen_of_row w1 _ 0 _ _ hs.2.1; have z2 := frozen_of_row w1 _ 0 _ _ hs.2.2.1; simp at q1 q2; clear hb hs)
  clear q1 q2 z1 z2
  have HA0 := Lib.hid (of_any p0 n0 c0 l0 w1 HO0.out (by have := HN0.out; omega) ((HZ0.out.below HB1.out (Nat.le_refl _)).mono HB1.out.size))
  go_wp2_with fail
  refine HA0.out.mono ?_
  rintro o y2 ⟨pb, ps, rfl, hpb, hp, hz⟩
  have HE := Lib.hid (of_tie HO0.out)
  have HEL : Hid ((ofP l0).length ≤ 60) := Lib.hid (by have := of_len' l0; have := HN0.out; omega)
  obtain ⟨E, hE⟩ : ∃ E, ofP l0 = E := ⟨_, rfl⟩
  rw [hE] at hp HE HEL
  have HP2 := Lib.hid hp
  have HZ2 := Lib.hid hz
  have HPB := Lib.hid hpb
  have HL2 := Lib.hid (list_any y2 hp (by have := HEL.out; omega))
  clear hp hz hpb hE HA0
  go_wp2_with fail
  refine HL2.out.mono ?_
  rintro o y3 ⟨v3, rfl, hown, hz⟩
  obtain ⟨va, vc, rfl⟩ := own_form hown
  obtain ⟨n, hn⟩ : ∃ n, E.length = n := ⟨_, rfl⟩
  have HN := Lib.hid hn
  have hn60 : n ≤ 60 := by have := HEL.out; omega
  have hE3 := EnsP.of_owns hown
  rw [hn] at hE3 ⊢
  obtain ⟨y4, hy4⟩ : ∃ x, y3.alloc (.cells #[.slice va n vc] 22) = x := ⟨_, rfl⟩
  have hx4 : Boxed y4 y3.heap.size 22 (.slice va n vc) := by rw [← hy4]; exact Boxed.new y3 _ _
  have hb34 : Below y3.heap.size y3 y4 := by rw [← hy4]; exact (Below.refl _ _).alloc (Nat.le_refl _) _
  have hz24 : Below y2.heap.size y2 y4 := hz.trans (hb34.mono hz.size)
  have HP4 := Lib.hid (HP2.out.below hz24)
  have HC4 := Lib.hid (cloneS_any y4 (HP2.out.below hz24))
  have HV4 := Lib.hid hx4
  have HE4 := Lib.hid ((hE3.below hb34 (Nat.le_refl _)))
  have HWB : Hid (w1.heap.size ≤ y3.heap.size) := Lib.hid (Nat.le_trans HZ2.out.size hz.size)
  have HY4 := Lib.hid hy4
  have HZ4 := Lib.hid (HZ2.out.trans (hz24.mono HZ2.out.size))
  obtain ⟨wb, hwb⟩ : ∃ b, y3.heap.size = b := ⟨_, rfl⟩
  rw [hwb] at HV4 HE4 HWB
  have HWQ := Lib.hid hwb
  clear hown hz hn hE3 hy4 hx4 hb34 hz24 hwb HL2 HP2 HZ2
  go_upto_region 7 with fail
  rw [HY4.out, HWQ.out]
  go_wp2_with fail
  refine HC4.out.mono ?_
  rintro o y5 ⟨qb, rfl, hqb, hq, hz⟩
  have HQ5 := Lib.hid hq
  have HP5 := Lib.hid (HP4.out.below hz)
  have HB5 := Lib.hid (HZ4.out.trans (hz.mono HZ4.out.size))
  have HQB := Lib.hid (Nat.le_trans HZ4.out.size hqb)
  have HV5 : Hid (Boxed y5 wb 22 (.slice va n vc)) := Lib.hid ((hz.block _ HV4.out.lt).trans HV4.out)
  have HE5 : Hid (EnsP wb y5 (.slice va n vc) E) := Lib.hid (HE4.out.below hz (Nat.le_of_lt HV4.out.lt))
  have hqw : qb ≠ wb := by have := HV4.out.lt; omega
  have hqp : pb ≠ qb := by have := HP4.out.lt; omega
  have HQN := Lib.hid hqw
  have HQP := Lib.hid hqp
  have HQL : Hid (wb < qb) := Lib.hid (by have := HV4.out.lt; omega)
  clear hq hz hqb hqw hqp HC4 HP4 HV4 HE4 HY4
  go_wp2_with fail
  go_loopw [37] (fun i wr => ∃ (m : Nat) (qs : Value) (qe : List Ent), i = .int .i64 m ∧ m ≤ n1 ∧ qe.length ≤ n + m ∧ (∀ s, askL withinB E s ≤ askL withinB qe s) ∧ PS wr qb qs qe ∧ But [qb] y5 wr) (fun i _ => n1 - (intOf i).toNat)
  case atStart => exact ⟨0, ps, E, rfl, Nat.zero_le _, by have := HN.out; omega, (fun s => Int.le_refl _), HQ5.out, But.refl _ _⟩
  case round =>
    obtain ⟨m, qs, qe, rfl, hm, hql, hqm, hQ, hB⟩ := hrel
    obtain ⟨wo, hwo⟩ : ∃ x, x = wr := ⟨wr, rfl⟩
    subst hwo
    have HQ := Lib.hid hQ
    have HB := Lib.hid hB
    have HQM := Lib.hid hqm
    clear hQ hB hqm
    by_cases hlt : m < n1
    · obtain ⟨⟨k, u⟩, hx⟩ : ∃ x, l1[m]? = some x := ⟨_, List.getElem?_eq_getElem (by rw [HN1.out]; exact hlt)⟩
      obtain ⟨g, off, rfl, hg, f0, f1⟩ := HZA.out.at_ hx
      have hkok : okS k := HO1.out _ (List.mem_of_getElem? hx)
      have hkb : wo.heap[g]? = w.heap[g]? := (HB.out.block g (Nat.lt_of_lt_of_le hg (Nat.le_trans HB1.out.size HB5.out.size)) (by have := HQB.out; have := HB1.out.size; simp; omega)).trans ((HB5.out.block g (Nat.lt_of_lt_of_le hg HB1.out.size)).trans (HB1.out.block g hg))
      have d0 := (World.cell?_of_block (w := w) (a := ⟨g, off + m * 2, none⟩) hkb).trans f0
      have d1 := (World.cell?_of_block (w := w) (a := ⟨g, off + m * 2 + 1, none⟩) hkb).trans f1
      simp only at d0 d1
      have e1 : (0 : Int) ≤ m := by omega
      have e2 : (m : Int) < n1 := by omega
      obtain ⟨W1, hW1⟩ : ∃ W1, wo.alloc (.cells #[.int .u64 (k : Nat), .int .i64 u] 41) = W1 := ⟨_, rfl⟩
      have hn1' : W1.heap[wo.heap.size]? = some (.cells #[.int .u64 (k : Nat), .int .i64 u] 41) := by rw [← hW1]; exact World.alloc_heap_new wo _
      have d2 : W1.cell? ⟨wo.heap.size, 0, none⟩ = some (.int .u64 (k : Nat)) := cell_of_row W1 _ 0 _ _ _ hn1'
      have d3 : W1.cell? ⟨wo.heap.size, 1, none⟩ = some (.int .i64 u) := cell_of_row W1 _ 1 _ _ _ hn1'
      have hb01 : Below wo.heap.size wo W1 := by rw [← hW1]; exact (Below.refl _ _).alloc (Nat.le_refl _) _
      have HPU := Lib.hid (put_any (k, u) W1 (HQ.out.below hb01) hkok (by omega))
      simp only at HPU
      have HPL := Lib.hid (put_len qe (k, u))
      have HPA : Hid (∀ s, askL withinB E s ≤ askL withinB (putP qe (k, u)) s) := Lib.hid (fun s => by
        have h1 := ask_put (most := 2199023255552) sOrd (es := qe) (e := (k, u)) s
        have h2 := HQM.out s
        show _ ≤ askL withinB (putE ltS withinB 2199023255552 qe (k, u)) s
        rw [h1]
        split <;> omega)
      have HW1 := Lib.hid hW1
      have HB01 := Lib.hid hb01
      clear f0 f1 hx hkb hW1 hb01 hn1'
      go_upto_region 11 with fail
      rw [HW1.out]
      go_wp2_with fail
      refine HPU.out.mono ?_
      rintro o z1 ⟨rfl, q2, hq2, hz⟩
      have HQ2 := Lib.hid hq2
      have HB2' := Lib.hid ((HB.out.trans' (But.of_below HB01.out)).trans' hz)
      clear hq2 hz
      go_wp2_with fail
      go_roundw
      case rel => exact ⟨m + 1, q2, _, by go_num, by omega, by have := HPL.out; omega, HPA.out, HQ2.out, HB2'.out⟩
      case measure => simp [intOf]; omega
    · obtain rfl : m = n1 := by omega
      have hoff : OffE [qb] (.slice va n vc) := OffE.of_lt HE5.out (fun j hj => by simp at hj; have := HQL.out; omega)
      have HP6 := Lib.hid (HP5.out.other HQ5.out HQP.out HB.out)
      have HV6 : Hid (Boxed wo wb 22 (.slice va n vc)) := Lib.hid ((HB.out.block _ HV5.out.lt (by have := HQN.out; simp; omega)).trans HV5.out)
      have HE6 : Hid (EnsP wb wo (.slice va n vc) E) := Lib.hid (HE5.out.but HB.out hoff (Nat.le_of_lt HV5.out.lt))
      have HB6 : Hid (Below w1.heap.size w1 wo) := Lib.hid (HB5.out.trans (HB.out.below (fun j hj => by simp at hj; have := HQB.out; omega) HB5.out.size))
      have HL6 := Lib.hid (list_any wo HP6.out (by have := HEL.out; omega))
      clear hoff HP5 HV5 HE5 HB5 HQ5 HB
      rw [HN.out] at HL6
      go_wp2_with fail
      refine HL6.out.mono ?_
      rintro o y7 ⟨v7, rfl, hown7, hz7⟩
      obtain ⟨la, lc, rfl⟩ := own_form hown7
      have HOW7 := Lib.hid hown7
      have HZ7 := Lib.hid hz7
      clear hown7 hz7
      go_wp2_with fail
      have hRL := RowL.of HOW7.out
      have HR0 := Lib.hid hRL
      have HWN := Lib.hid (Nat.le_refl wo.heap.size)
      have HCJ7 : Hid (∀ W, Below wo.heap.size wo W → CJ w.heap.size wb pb qb a2 va n vc ps qs E qe W) := Lib.hid (fun W hb => by
        have hz : Below w1.heap.size w1 W := HB6.out.trans (hb.mono HB6.out.size)
        have hs1 := (Array.getElem?_eq_some_iff.1 HR1.out).1
        exact ⟨(hz.block _ (by omega)).trans HS1.out, (hz.block _ hs1).trans HR1.out, (hb.block _ HV6.out.lt).trans HV6.out, HE6.out.below hb (Nat.le_of_lt HV6.out.lt), HP6.out.below hb, HQ.out.below hb⟩)
      have HBW : Hid (∀ W, Below wo.heap.size wo W → Below w.heap.size w W) := Lib.hid (fun W hb => HB1.out.trans ((HB6.out.trans (hb.mono HB6.out.size)).mono HB1.out.size))
      have HLT : Hid (w.heap.size + 1 < w1.heap.size ∧ w1.heap.size ≤ wb ∧ w1.heap.size ≤ pb ∧ w1.heap.size ≤ qb) := Lib.hid ⟨(Array.getElem?_eq_some_iff.1 HR1.out).1, HWB.out, HPB.out, HQB.out⟩
      clear hRL HP6 HV6 HE6 HS1 HR1 HZ1 HB6 HQ HOW7
      go_loopw [52] (fun i wr => ∃ m : Nat, i = .int .i64 m ∧ m ≤ n ∧ RowL wo.heap.size la E m wr ∧ Below wo.heap.size wo wr) (fun i _ => n - (intOf i).toNat)
      case atStart => exact ⟨0, rfl, Nat.zero_le _, HR0.out, HZ7.out⟩
      case round =>
        obtain ⟨m2, rfl, hm2, hrl, hB2⟩ := hrel
        obtain ⟨wp, hwp⟩ : ∃ x, x = wr := ⟨wr, rfl⟩
        subst hwp
        have HRL := Lib.hid hrl
        have HB2 := Lib.hid hB2
        clear hrl hB2
        by_cases hlt2 : m2 < n
        · obtain ⟨⟨k, u⟩, hx⟩ : ∃ x, E[m2]? = some x := ⟨_, List.getElem?_eq_getElem (by rw [HN.out]; exact hlt2)⟩
          obtain ⟨g, hla, hg, d1, df⟩ := HRL.out m2 _ (Nat.le_refl _) hx
          simp only at d1
          have e1 : (0 : Int) ≤ m2 := by omega
          have e2 : (m2 : Int) < n := by omega
          have HST : Hid (∀ v, RowL wo.heap.size la E (m2 + 1) (wp.setCell ⟨g, m2 * 2 + 1, none⟩ v) ∧ Below wo.heap.size wo (wp.setCell ⟨g, m2 * 2 + 1, none⟩ v)) := Lib.hid (fun v => ⟨HRL.out.set hla v, HB2.out.setCell hg _⟩)
          subst hla
          clear hx
          go_wp2_with fail
          go_roundw
          case rel => exact ⟨m2 + 1, by go_num, by omega, (HST.out _).1, (HST.out _).2⟩
          case measure => simp [intOf]; omega
        · obtain rfl : m2 = n := by omega
          clear HRL
          have hcj := HCJ7.out wp HB2.out
          have HCB : Hid (∀ W, Below wp.heap.size wp W → W.cell? ⟨wb, 0, none⟩ = some (.slice va m2 vc)) := Lib.hid (fun W hb => (hcj.below hb).wv.cell)
          have HLA := Lib.hid (fun W (hb : Below wp.heap.size wp W) => list_any W (hcj.below hb).pp (by have := HEL.out; omega))
          have HENA : Hid (∀ W, Below wp.heap.size wp W → EnsP W.heap.size W (.slice va m2 vc) E) := Lib.hid (fun W hb => (hcj.below hb).en.mono (Nat.le_of_lt (hcj.below hb).wv.lt))
          have c0 := HCB.out _ (Below.refl _ _).drew
          have HJ := Lib.hid hcj
          clear hcj HL6 HR0
          rw [HN.out] at HLA
          go_upto_region 19 with fail
          refine wp_mid (fun A A' W' => (∃ v u : Value, A' = { tmps := ((((A.tmps.setIfInBounds 64 (.pointer (some ⟨pb, 0, none⟩))).setIfInBounds 65 v).setIfInBounds 66 u).setIfInBounds 67 (.bool true)).setIfInBounds 68 (.bool false), defers := A.defers }) ∧ Below wp.heap.size wp W') ?_ ?_
          · intro Q1 hQ1
            go_region_with (first
              | (go_at_call 11; refine (HLA.out _ (Below.refl _ _).drew).mono ?_; rintro o z5 ⟨v5, rfl, hown, hb⟩; obtain ⟨a5, c5, rfl⟩ := own_form hown; have HB5 := Lib.hid ((Below.refl wp.heap.size wp).drew.trans hb); have HO5 := Lib.hid (show EnsP z5.heap.size z5 (.slice a5 m2 c5) E from by have h := hown; rw [← HN.out] at h ⊢; exact EnsP.of_owns h); have c1 := HCB.out _ HB5.out; clear hown hb)
              | (go_at_call 10; refine (refSame2_any _ va m2 m2 _ vc E E (by have := HEL.out; omega) (by have := HEL.out; omega) _ HO5.out (HENA.out _ HB5.out)).mono ?_; rintro o z6 ⟨rfl, hb6⟩; have HB6 := Lib.hid (HB5.out.trans (hb6.mono HB5.out.size)); clear hb6))
            all_goals (exact hQ1 _ _ ⟨⟨_, _, rfl⟩, HB6.out⟩)
          · rintro A' z ⟨⟨v65, u66, rfl⟩, hz⟩
            have HZ := Lib.hid hz
            have hjz := HJ.out.below hz
            have HJZ := Lib.hid hjz
            have q0 := hjz.mo.cell
            have q1 := hjz.mo.frozen
            have hw1 : IntKind.i64.wrap (1 + (tt : Int)) = 1 + (tt : Int) := by rw [IntKind.wrap_i64]; omega
            clear hz hjz c0
            go_upto_region 23 with fail
            have hes : (z.setCell ⟨w.heap.size, 0, none⟩ (.int .i64 (1 + (tt : Int)))).heap.size = z.heap.size := by simp [World.setCell]
            obtain ⟨w10, hw10⟩ : ∃ x, (z.setCell ⟨w.heap.size, 0, none⟩ (.int .i64 (1 + (tt : Int)))).alloc (.cells #[.int .i64 0] 3) = x := ⟨_, rfl⟩
            have hjs := HJZ.out.setM (1 + (tt : Int)) (by have := HLT.out; omega) (by have := HLT.out; omega) (by have := HLT.out; omega)
            have hbs : Below w.heap.size w (z.setCell ⟨w.heap.size, 0, none⟩ (.int .i64 (1 + (tt : Int)))) := (HBW.out z (HB2.out.trans (HZ.out.mono HB2.out.size))).setCell (Nat.le_refl _) _
            have hb10 : Below (z.setCell ⟨w.heap.size, 0, none⟩ (.int .i64 (1 + (tt : Int)))).heap.size (z.setCell ⟨w.heap.size, 0, none⟩ (.int .i64 (1 + (tt : Int)))) w10 := by rw [← hw10]; exact (Below.refl _ _).alloc (Nat.le_refl _) _
            have hcb : Boxed w10 z.heap.size 3 (.int .i64 0) := by
              have h := Boxed.new (z.setCell ⟨w.heap.size, 0, none⟩ (.int .i64 (1 + (tt : Int)))) 3 (.int .i64 0)
              rw [hes] at h
              rw [← hw10]
              exact h
            have hj10 := hjs.below hb10
            have hzw : w10.heap.size = z.heap.size + 1 := by rw [← hw10]; simp
            have hB10 : Below w.heap.size w w10 := hbs.trans (hb10.mono hbs.size)
            have hltz : w.heap.size + 1 < z.heap.size ∧ wb < z.heap.size ∧ pb < z.heap.size ∧ qb < z.heap.size := ⟨HJZ.out.re.lt, HJZ.out.wv.lt, HJZ.out.pp.lt, HJZ.out.qq.lt⟩
            obtain ⟨sa, sc, hps⟩ := hj10.pp.form
            rw [HN.out] at hps
            subst hps
            have HEN := Lib.hid (entries_any w10 hj10.pp)
            obtain ⟨w11, hw11⟩ : ∃ x, w10.alloc (.cells #[.slice sa m2 sc] 22) = x := ⟨_, rfl⟩
            have hb11 : Below w10.heap.size w10 w11 := by rw [← hw11]; exact (Below.refl _ _).alloc (Nat.le_refl _) _
            have hx1 : Boxed w11 w10.heap.size 22 (.slice sa m2 sc) := by rw [← hw11]; exact Boxed.new w10 _ _
            have hcb11 : Boxed w11 z.heap.size 3 (.int .i64 0) := (hb11.block _ hcb.lt).trans hcb
            have hj11 := hj10.below hb11
            have hoff : ∀ N v xs, EnsP N w11 v xs → OffE [z.heap.size] v := fun N v xs hE => off_one hE hcb11 (fun k e => by cases e)
            have hal0 : AlQ w11 z.heap.size E (1 + tt) (E, 0) w11 := ⟨But.refl _ _, hcb11, rfl, Nat.lt_of_lt_of_le Nat.zero_lt_one (Nat.le_add_right 1 tt), Nat.zero_le _⟩
            have hec := alQC (E := E) (most := 1 + tt) hx1 hj11.pp.row (hoff _ _ _ hj11.pp.row) (by omega : w10.heap.size ≠ z.heap.size)
            have HJV : Hid (∀ W, But [z.heap.size] w11 W → CJ w.heap.size wb pb qb (1 + (tt : Int)) va m2 vc (.slice sa m2 sc) qs E qe W) := Lib.hid (fun W hb => hj11.but hb (fun k hk => by
              simp only [List.mem_cons, List.not_mem_nil, or_false] at hk ⊢
              omega) hoff)
            have HB11 : Hid (Below w.heap.size w w11) := Lib.hid (hB10.trans (hb11.mono hB10.size))
            have HW10 := Lib.hid hw10
            have HW11 := Lib.hid hw11
            have HEC := Lib.hid hec
            have HAL0 := Lib.hid hal0
            have hcbl := hcb11.lt
            obtain ⟨cb, hcbq⟩ : ∃ cb, z.heap.size = cb := ⟨_, rfl⟩
            obtain ⟨B1, hB1q⟩ : ∃ b, w10.heap.size = b := ⟨_, rfl⟩
            rw [hcbq] at HEC HAL0 HJV hcbl hltz
            rw [hB1q] at HEC HEN
            have HCL := Lib.hid hcbl
            have HCW := Lib.hid hltz
            have HCQ := Lib.hid hcbq
            clear hes hw10 hjs hbs hb10 hcb hj10 hzw hB10 hltz hw11 hb11 hx1 hcb11 hj11 hoff hal0 hec hcbl hcbq hB1q q0 q1 hw1 HCJ7 HCB HLA HENA HJ HJZ HZ HB2 HZ7
            rw [HW10.out, HCQ.out]
            go_wp2_with fail
            refine HEN.out.mono ?_
            rintro o w12 ⟨rfl, hw12⟩
            obtain rfl : w12 = w11 := hw12.trans HW11.out
            clear hw12 HEN HW10 HW11
            go_wp2_with fail
            rename_i K hKQ
            refine (wpIn_wide (n := 3)).1 ?_
            refine wpIn_actG ?_
            intro A hA
            have tail : ∀ (mm : Nat) (W : World), CntQ w12 cb mm W → mm = min (1 + tt) m2 → W.heap[w12.heap.size]? = some (.deferred (some [])) →
                K { A with defers := { target := .collected w12.heap.size, args := #[] } :: A.defers } W := by
              intro mm W hc hmm hD
              rw [hA]
              refine hKQ _ _ ?_
              have hjw := HJV.out W hc.but
              have c0 := hjw.wv.cell
              have HJW := Lib.hid hjw
              have HCT := Lib.hid hc
              have HD := Lib.hid hD
              have HMM := Lib.hid hmm
              clear hjw hc hD hmm
              go_wp2_with fail
              go_loopw [105] (fun i wr => ∃ j : Nat, i = .int .i64 j ∧ j ≤ m2 ∧ Below W.heap.size W wr) (fun i _ => m2 - (intOf i).toNat)
              case atStart => exact ⟨0, rfl, Nat.zero_le _, Below.refl _ _⟩
              case round =>
                obtain ⟨j, rfl, hj, hB3⟩ := hrel
                obtain ⟨wx, hwx⟩ : ∃ x, x = wr := ⟨wr, rfl⟩
                subst hwx
                have HB3 := Lib.hid hB3
                clear hB3
                by_cases hlt3 : j < m2
                · obtain ⟨⟨k, u⟩, hx⟩ : ∃ x, E[j]? = some x := ⟨_, List.getElem?_eq_getElem (by rw [HN.out]; exact hlt3)⟩
                  obtain ⟨g, off, hva, hg, f0, f1⟩ := HJW.out.en.at_ hx
                  have hkok : okS k := (HE.out.right _ (List.mem_of_getElem? hx)).1
                  have hgw : g < W.heap.size := Nat.lt_trans hg HJW.out.wv.lt
                  have d0 := (HB3.out.cell (p := ⟨g, off + j * 2, none⟩) hgw).trans f0
                  have d1 := (HB3.out.cell (p := ⟨g, off + j * 2 + 1, none⟩) hgw).trans f1
                  simp only at d0 d1
                  have e1 : (0 : Int) ≤ j := by omega
                  have e2 : (j : Int) < m2 := by omega
                  obtain ⟨W1, hW1⟩ : ∃ W1, wx.alloc (.cells #[.int .u64 (k : Nat), .int .i64 u] 41) = W1 := ⟨_, rfl⟩
                  have hb2 : Below wx.heap.size wx W1 := by rw [← hW1]; exact (Below.refl _ _).alloc (Nat.le_refl _) _
                  have hn2 : W1.heap[wx.heap.size]? = some (.cells #[.int .u64 (k : Nat), .int .i64 u] 41) := by rw [← hW1]; exact World.alloc_heap_new wx _
                  have hbl : wx.heap.size < W1.heap.size := (Array.getElem?_eq_some_iff.1 hn2).1
                  have hb3 : Below W.heap.size W W1 := HB3.out.trans (hb2.mono HB3.out.size)
                  have k0 : ∀ p : BelW W1, p.W.cell? ⟨wx.heap.size, 0, none⟩ = some (.int .u64 (k : Nat)) := fun p => (p.h.cell (p := ⟨wx.heap.size, 0, none⟩) hbl).trans (cell_of_row W1 _ 0 _ _ _ hn2)
                  have k1 : ∀ p : BelW W1, p.W.cell? ⟨wx.heap.size, 1, none⟩ = some (.int .i64 u) := fun p => (p.h.cell (p := ⟨wx.heap.size, 1, none⟩) hbl).trans (cell_of_row W1 _ 1 _ _ _ hn2)
                  have HAK := Lib.hid (fun (p : BelW W1) => ask_any k p.W (HJW.out.qq.below (hb3.trans (p.h.mono hb3.size))) hkok (by omega))
                  have hge : u ≤ askL withinB qe k := by
                    have h1 := HQM.out k
                    have h2 := ask_own sOrd HE.out (List.mem_of_getElem? hx)
                    simp only at h2
                    omega
                  obtain ⟨av, hav⟩ : ∃ v, askL withinB qe k = v := ⟨_, rfl⟩
                  rw [hav] at HAK hge
                  have hd : decide (av < u) = false := decide_eq_false (by omega)
                  have HW1 := Lib.hid hW1
                  have HB4 := Lib.hid hb3
                  subst hva
                  clear f0 f1 hW1 hb2 hn2 hbl hb3 hx hav c0
                  go_upto_region 33 with fail
                  rw [HW1.out]
                  refine wp_region_bel (by kernel_rfl) (by kernel_rfl) (WQ.out ?_)
                  repeat (
                    refine WQ.step (fun K hK => ?_)
                    go_simp
                    first
                      | (refine hK _ ?_; clear hK K)
                      | (apply Exists.intro
                         refine ⟨fun _ => ?_, hK _ ?_⟩
                         (first | (go_at_call 15; exact Calls.bel_of (HAK.out _)))
                         clear hK K))
                  refine WQ.nil ?_
                  rintro W3 ⟨p, rfl⟩
                  have HF := Lib.hid (HB4.out.trans (p.h.mono HB4.out.size))
                  obtain ⟨w3, hw3⟩ : ∃ x, p.W = x := ⟨_, rfl⟩
                  rw [hw3] at HF ⊢
                  clear hw3 p k0 k1
                  go_wp2_with fail
                  go_roundw
                  case rel => exact ⟨j + 1, by go_num, by omega, HF.out⟩
                  case measure => simp [intOf]; omega
                · obtain rfl : j = m2 := by omega
                  have hjx := HJW.out.below HB3.out
                  have b0 := hjx.wv.cell
                  have b1 := hjx.mo.cell
                  have b2 := hjx.re.cell
                  have b3 := hjx.re.frozen
                  have b4 : wx.cell? ⟨cb, 0, none⟩ = some (.int .i64 (mm : Nat)) := (HB3.out.cell (p := ⟨cb, 0, none⟩) HCT.out.cnt.lt).trans HCT.out.cnt.cell
                  have hrow := heap_setCell_same wx (w.heap.size + 1) 0 _ _ (.bool true) hjx.re
                  have hD' : (wx.setCell ⟨w.heap.size + 1, 0, none⟩ (.bool true)).heap[w12.heap.size]? = some (.deferred (some [])) := (Below.heap_setCell wx ⟨w.heap.size + 1, 0, none⟩ (.bool true) w12.heap.size (by have := HCW.out; have := HCL.out; simp; omega)).trans ((HB3.out.block _ (Array.getElem?_eq_some_iff.1 HD.out).1).trans HD.out)
                  have hrB : w.heap.size + 1 ≠ w12.heap.size := by have := HCW.out; have := HCL.out; omega
                  have hrow2 : ((wx.setCell ⟨w.heap.size + 1, 0, none⟩ (.bool true)).putObj w12.heap.size (.deferred none)).heap[w.heap.size + 1]? = some (.cells #[.bool true] 4 (0, 0)) := (World.putObj_heap_other hrB).trans (by simpa using hrow)
                  have hc := cell_of_row _ (w.heap.size + 1) 0 _ _ _ hrow2
                  simp at hc
                  have hbW : Below w.heap.size w wx := by
                    have h1 := HCT.out.but.below (n := w.heap.size) (fun k hk => by simp at hk; have := HCW.out; omega) HB11.out.size
                    exact (HB11.out.trans h1).trans (HB3.out.mono (Nat.le_trans HB11.out.size h1.size))
                  have hbe : Below w.heap.size w ((wx.setCell ⟨w.heap.size + 1, 0, none⟩ (.bool true)).putObj w12.heap.size (.deferred none)) := by
                    have hs : Below w.heap.size w (wx.setCell ⟨w.heap.size + 1, 0, none⟩ (.bool true)) := hbW.setCell (by show w.heap.size ≤ w.heap.size + 1; omega) _
                    exact hs.trans ((But.putObj _ w12.heap.size _).below (fun j hj => by simp at hj; have := HCW.out; have := HCL.out; omega) hs.size)
                  have HBE2 := Lib.hid hbe
                  have HC2 := Lib.hid hc
                  have HDD := Lib.hid hD'
                  clear hbe hrow hrow2 hbW hc hD' hjx c0
                  by_cases hmin : 1 + tt ≤ j
                  · obtain rfl : mm = 1 + tt := by have := HMM.out; omega
                    go_wp2_with fail
                    all_goals first
                      | (exfalso; omega)
                      | (
                      refine ⟨by simp, .inl ⟨_, _, rfl, run_takeDeferred HDD.out, ?_⟩⟩
                      refine ⟨.bool true, ?_, rfl, HBE2.out⟩
                      have hc := HC2.out
                      rw [results_cell1 rfl]
                      simp [asAddr, Result.andThen]
                      go_simp)
                  · obtain rfl : mm = j := by have := HMM.out; omega
                    go_wp2_with fail
                    all_goals first
                      | (exfalso; omega)
                      | (
                      refine ⟨by simp, .inl ⟨_, _, rfl, run_takeDeferred HDD.out, ?_⟩⟩
                      refine ⟨.bool true, ?_, rfl, HBE2.out⟩
                      have hc := HC2.out
                      rw [results_cell1 rfl]
                      simp [asAddr, Result.andThen]
                      go_simp)
            have HTAIL := Lib.hid tail
            clear tail
            refine rangeG rfl (by omega) (gf := 36) (lb := #[.pointer (some ⟨B1, 0, none⟩)]) (by rw [hA]; rfl) trivial (enters_of Try.func36 (by kernel_rfl) rfl) (encs := fun (x : Ent) => #[.int .u64 (x.1 : Nat), .int .i64 x.2]) (fun _ => rfl)
              (AlQ w12 cb E (1 + tt)) (fun st x W => AlQ w12 cb E (1 + tt) st W ∧ ∃ r, st.1 = x :: r)
              (fun (st : List Ent × Nat) (x : Ent) a1 W => (AlQ w12 cb E (1 + tt) st W ∧ ∃ r, st.1 = x :: r) ∧ a1 = { tmps := ((((A.tmps.setIfInBounds 74 (.int .u64 (x.1 : Nat))).setIfInBounds 75 (.int .i64 x.2)).setIfInBounds 15 (.int .u64 (x.1 : Nat))).setIfInBounds 16 (.int .i64 x.2)), defers := [] })
              (fun c W => c = .exit 4 ∧ ∃ mm, CntQ w12 cb mm W ∧ mm = min (1 + tt) m2) (fun st st' => st'.1 = st.1.tail) (fun st _ => st.1 = []) (E, 0)
              (fun st W o k hk h => AlQ.noRec HCL.out st W o k hk h)
              (fun st x a1 W o k hk ⟨⟨h1, hg⟩, h5⟩ => ⟨⟨AlQ.noRec HCL.out st W o k hk h1, hg⟩, h5⟩)
              (fun c W o k hk ⟨h0, mm, h, h2⟩ => ⟨h0, mm, CntQ.noRec HCL.out (by omega) h, h2⟩) (fun _ _ _ _ _ h => h) (fun r => HAL0.out.below (((Below.refl w12.heap.size w12).alloc (Nat.le_refl _) (.deferred (some []))).alloc (by simp) (.loop r)))
              (entries1 (by have := HEL.out; omega) HEC.out rfl)
              ?assign ?body ?done ?stop
            case assign =>
              rintro l9 st ⟨x, u⟩ W K' ⟨hj, hg⟩ hzW hK
              rw [hA] at hK ⊢
              have HH := Lib.hid (And.intro hj hg)
              clear hj hg
              gi_wp2
              exact hK _ _ ⟨HH.out, rfl⟩ (SameRec.refl _ _)
            case body =>
              rintro l9 ⟨rem, mm⟩ ⟨x, u⟩ a1 V ⟨⟨hj, r, hr⟩, rfl⟩ hzV
              have hrest := hj.rest
              have hlow := hj.low
              simp only at hr hrest hlow
              subst hr
              have hx : E[mm]? = some (x, u) := by
                have h := congrArg List.head? hrest
                rw [List.head?_drop] at h
                exact h.symm
              have hrr : r = E.drop (mm + 1) := by
                have h := congrArg List.tail hrest
                rw [List.tail_drop] at h
                exact h
              have hlt4 : mm < m2 := by have := (List.getElem?_eq_some_iff.1 hx).1; rw [HN.out] at this; exact this
              have hjv := HJV.out V hj.but
              obtain ⟨g, off, hva, hg, d0, d1⟩ := hjv.en.at_ hx
              simp only at d0 d1
              have c0 := hj.cnt.cell
              have f0 := hj.cnt.frozen
              have c1 := hjv.wv.cell
              simp only at c0
              have hbu : But [cb] V (V.setCell ⟨cb, 0, none⟩ (.int .i64 ((mm : Int) + 1))) := (But.refl _ V).set (.inl (by simp)) _
              have hjv2 := HJV.out _ (hj.but.trans' hbu)
              have c2 := hjv2.mo.cell
              have c3 := (hj.cnt.set (.int .i64 ((mm : Int) + 1))).cell
              have e1 : (0 : Int) ≤ mm := by omega
              have e2 : (mm : Int) < m2 := by omega
              have g1' : decide ((m2 : Int) ≤ (mm : Int)) = false := decide_eq_false (by omega)
              have g2 : ((x : Int) != (x : Int)) = false := by simp
              have g3 : (u != u) = false := by simp
              have hw3 : IntKind.i64.wrap ((mm : Int) + 1) = (mm : Int) + 1 := by rw [IntKind.wrap_i64]; omega
              have HEND : Hid (SameRec w12.heap.size V (V.setCell ⟨cb, 0, none⟩ (.int .i64 ((mm : Int) + 1)))) := Lib.hid (by
                have hz2 := HCL.out
                exact ⟨hbu.block _ (by omega) (by simp; omega), hbu.block _ (by omega) (by simp; omega)⟩)
              have HQC : Hid (CntQ w12 cb (mm + 1) (V.setCell ⟨cb, 0, none⟩ (.int .i64 ((mm : Int) + 1)))) := Lib.hid ⟨hj.but.trans' hbu, hj.cnt.set _⟩
              have HRR := Lib.hid hrr
              subst hva
              clear hj hrest hrr hx hjv hjv2 hbu
              rw [hA]
              by_cases hmo : mm + 1 = 1 + tt
              · have g4 : ((mm : Int) + 1 == 1 + (tt : Int)) = true := by rw [beq_iff_eq]; omega
                gi_wp2_with fail
                exact ⟨HEND.out, rfl, mm + 1, HQC.out, by omega⟩
              · have g4 : ((mm : Int) + 1 == 1 + (tt : Int)) = false := by rw [beq_eq_false_iff_ne]; omega
                gi_wp2_with fail
                exact ⟨HEND.out, (r, mm + 1), rfl, HQC.out.but, HQC.out.cnt, HRR.out, by show mm + 1 < 1 + tt; omega, by show mm + 1 ≤ E.length; rw [HN.out]; omega⟩
            case done =>
              rintro ⟨rem, mm⟩ W hj he hD
              have hrest := hj.rest
              have hlow := hj.low
              simp only at he hrest hlow
              subst he
              have hge : E.length ≤ mm := List.drop_eq_nil_iff.1 hrest.symm
              rw [HN.out] at hge hlow
              exact HTAIL.out mm W ⟨hj.but, hj.cnt⟩ (by omega) hD
            case stop =>
              rintro c W ⟨rfl, mm, hj, ho⟩ hD
              refine wpIn_exit ?_
              simp only [Exit.inBlock, if_pos]
              exact HTAIL.out mm W hj ho hD


set_option maxRecDepth 100000 in
theorem lifted (os : Os) (started : os.Started) (H : Type) (enc : TypeId × Value → H) :
    ReturnsInHanded {} Try.checked os 6 .any (Rows.priceClonesSpec.pre6 enc Try.prog Try.f6 Rows.priceClonesRow.domain false) (Rows.priceClonesSpec.post enc Try.prog Try.f6 false true false false) := by
  refine returnsInHanded_of_change (C := Try.checked) own started (by kernel_rfl) Try.func6
    (ChangeSpec.witness6 (enc := enc) (C := Try.checked) false ⟨#[], #[.slice none 0 0, .slice none 0 0, .int .i64 0], []⟩ 8 (by kernel_rfl) (by kernel_rfl) (by kernel_rfl) (by kernel_rfl)) ?_
  intro W base args ds gs before hval0 hW hcnd _
  have hval : ∀ (j : Nat) t v, Try.f6.params[j]? = some t → args[j]? = some v → Value.okWide Try.prog W .any base t v := hval0
  have hW' := hW
  obtain ⟨p, q, hA0, hV, rfl, hfz, hnd⟩ := hW
  have hA : DataW.TrodAll enc Try.prog W 0 (fun _ => true) true Try.f6.params.toList args.toList ds p := hA0
  rw [Try.params6] at hA hval
  have hAk := hA
  obtain ⟨v0, vs0, d0, ds0, p0', q0, hargs, rfl, rfl, h0, r0⟩ := trodAll_cons hA
  obtain ⟨v1, vs1, d1, ds1, p1', q1, rfl, rfl, rfl, h1, r1⟩ := trodAll_cons r0
  obtain ⟨v2, vs2, d2, ds2, p2', q2, rfl, rfl, rfl, h2, r2⟩ := trodAll_cons r1
  obtain ⟨rfl, rfl, rfl⟩ := trodAll_nil r2
  obtain rfl : args = #[v0, v1, v2] := by cases args; simp_all
  obtain ⟨rfl, rfl⟩ := trodVars_none hV
  simp only [List.append_nil] at hW' hAk
  have hlt := fun x hx => hW'.lt x hx
  clear hA0 hval0
  obtain ⟨p0, n0, c0, l0, rfl, S0, b0⟩ := open_ents (okWide_slice Try.underlying22 (hval 0 22 v0 rfl rfl)) h0
  obtain ⟨p1, n1, c1, l1, rfl, S1, b1⟩ := open_ents (okWide_slice Try.underlying22 (hval 1 22 v1 rfl rfl)) h1
  obtain ⟨a2, rfl, rfl, rfl, w2⟩ := open_int Try.underlying3 (hval 2 3 v2 rfl rfl) h2
  refine (walk W p0 n0 c0 l0 S0 b0 p1 n1 c1 l1 S1 b1 a2 w2).mono fun e W' ⟨he, hg⟩ => ?_
  subst he
  have hargs := trodAll_below hg _ _ _ _ (by intro t ht; simp only [List.mem_cons, List.not_mem_nil, or_false] at ht; revert t; rintro t (rfl | rfl | rfl) <;> exact ⟨by kernel_rfl, of_decide_eq_true (by kernel_rfl)⟩) hAk (fun x hx => by simpa using hlt x hx)
  exact ⟨_, rfl, _, _, _, [], _, [], hW', (trodAll_cons_mk (shut_bool Try.underlying4 _) trodAll_mk0), hargs, rfl, hg.frame _, fun h => by cases h⟩

theorem over : Rows.priceClonesRow.holds Try.pinned (OpenSpec.ofChange Rows.priceClonesSpec) :=
  OpenClaim.holds_of_wide 6 Try.f6 rfl rfl rfl rfl rfl rfl rfl ⟨rfl, rfl, rfl, rfl, rfl⟩ rfl rfl rfl rfl rfl (by kernel_rfl) Try.func6 (by kernel_rfl)
    (of_decide_eq_true (by kernel_rfl)) (by unfold Func.isWrapper; first | (rw [if_pos (by decide +kernel)]; kernel_rfl) | (rw [if_neg (by decide +kernel)]; exact ⟨rfl, rfl⟩))
    (fun os started H enc _ => lifted os started H enc)

theorem proved : Rows.PriceClonesSaid :=
  over
end Go.Proofs.Ytpcbdjdmhemjdaa.priceClones
