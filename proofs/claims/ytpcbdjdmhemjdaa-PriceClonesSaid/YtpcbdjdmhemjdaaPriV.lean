/- Tight entries: how the code tells them. -/
import Derived.Test.YtpcbdjdmhemjdaaPriQ
namespace Go.Proofs.Ytpcbdjdmhemjdaa
open Go.RowKit
set_option linter.unusedVariables false
attribute [local go_sem] Oper.semAt_some

/-- wpQuiet behind a door: else Lean looks through the guarded operations that are left out, one within the other. -/
structure WQ (P : Program) (ops : Array Oper) (C : World → Prop) (Q : Act → Prop) (l : List Oper) (a : Act) : Prop where
  out : wpQuiet P ops C Q l a
theorem WQ.step {P : Program} {ops : Array Oper} {C : World → Prop} {Q : Act → Prop} {a : Act} {o : Oper} {rest : List Oper}
    (h : ∀ K : Act → Prop, (∀ a, WQ P ops C Q rest a → K a) → if Region.wanted o (yielded ops a.tmps) then o.quiet P a C K else K (a.put o.dst undef)) : WQ P ops C Q (o :: rest) a :=
  ⟨wpQuiet_step fun K hK => h K fun a ha => hK a ha.out⟩
theorem WQ.nil {P : Program} {ops : Array Oper} {C : World → Prop} {Q : Act → Prop} {a : Act} (h : Q a) : WQ P ops C Q [] a := ⟨wpQuiet_nil h⟩
theorem Tight.take {es : List Ent} (h : Tie es) (m : Nat) : Tie (es.take m) :=
  ⟨List.Pairwise.sublist (List.take_sublist m es) h.inc, fun x hx => h.right x (List.mem_of_mem_take hx), fun x hx y hy => h.need x (List.mem_of_mem_take hx) y (List.mem_of_mem_take hy)⟩
/-- One entry more. -/
theorem tie_snoc {A : List Ent} {e : Ent} (hs : okS e.1) (h : Tie A) (hord : ∀ x, A.getLast? = some x → ltS x.1 e.1 = true) (hr : risesP A e = true) : Tie (A ++ [e]) := by
  have hr' : (decide (e.1 ≠ 0) && decide (e.2 ≤ 2199023255552) && decide (askL withinB A e.1 < e.2)) = true := hr
  simp only [Bool.and_eq_true, decide_eq_true_eq] at hr'
  obtain ⟨⟨h0, hm⟩, ha⟩ := hr'
  have hnn := askL_nonneg (wi := withinB) A e.1
  have hlt : ∀ x ∈ A, ltS x.1 e.1 = true := fun x hx => by
    obtain ⟨l, hl⟩ : ∃ l, A.getLast? = some l := by
      cases hA : A.getLast? with
      | none => rw [List.getLast?_eq_none_iff] at hA; subst hA; cases hx
      | some l => exact ⟨l, rfl⟩
    have hle := hord l hl
    obtain ⟨i, hi⟩ := List.getElem?_of_mem hx
    obtain ⟨hilt, hieq⟩ := List.getElem?_eq_some_iff.1 hi
    rw [List.getLast?_eq_getElem?] at hl
    obtain ⟨hllt, hleq⟩ := List.getElem?_eq_some_iff.1 hl
    rcases Nat.lt_or_ge i (A.length - 1) with h' | h'
    · have := List.pairwise_iff_getElem.1 h.inc i (A.length - 1) hilt hllt h'
      rw [hieq, hleq] at this
      exact sOrd.trans _ _ _ this hle
    · have : i = A.length - 1 := by omega
      subst this
      rw [hieq] at hleq; subst hleq; exact hle
  refine ⟨List.pairwise_append.2 ⟨h.inc, List.pairwise_singleton _ _, fun x hx y hy => ?_⟩, fun x hx => ?_, fun x hx y hy hne hw => ?_⟩
  · obtain rfl := List.mem_singleton.1 hy; exact hlt x hx
  · rcases List.mem_append.1 hx with hx | hx
    · exact h.right x hx
    · obtain rfl := List.mem_singleton.1 hx; exact ⟨hs, h0, by omega, hm⟩
  · rcases List.mem_append.1 hx with hx | hx
    · rcases List.mem_append.1 hy with hy | hy
      · exact h.need x hx y hy hne hw
      · obtain rfl := List.mem_singleton.1 hy
        have := askL_ge (es := A) (by assumption) hw
        omega
    · obtain rfl := List.mem_singleton.1 hx
      rcases List.mem_append.1 hy with hy | hy
      · exfalso
        have h1 := hlt y hy
        rcases sOrd.wlt _ _ hs (h.right y hy).1 hw with e2 | e2
        · rw [e2, sOrd.irr] at h1; cases h1
        · have := sOrd.asym e2; rw [h1] at this; cases this
      · obtain rfl := List.mem_singleton.1 hy; exact absurd rfl hne
theorem tie_last {A : List Ent} {e x : Ent} (h : Tie (A ++ [e])) (hx : A.getLast? = some x) : ltS x.1 e.1 = true :=
  (List.pairwise_append.1 h.inc).2.2 x (List.mem_of_getLast? hx) e (List.mem_singleton.2 rfl)
theorem tie_rises {A : List Ent} {e : Ent} (h : Tie (A ++ [e])) : risesP A e = true := by
  have hr := h.right e (by simp)
  show (decide (e.1 ≠ 0) && decide (e.2 ≤ 2199023255552) && decide (askL withinB A e.1 < e.2)) = true
  simp only [Bool.and_eq_true, decide_eq_true_eq]
  refine ⟨⟨hr.2.1, hr.2.2.2⟩, ?_⟩
  rcases askL_is (wi := withinB) A e.1 with e0 | ⟨x, hx, hw, e0⟩
  · rw [e0]; have := hr.2.2.1; omega
  · rw [← e0]
    refine h.need x (by simp [hx]) e (by simp) (fun e2 => ?_) hw
    have := (List.pairwise_append.1 h.inc).2.2 x hx e (by simp)
    rw [e2, sOrd.irr] at this; cases this
open Classical in
/-- Whether entries are tight. -/
noncomputable def tieB (es : List Ent) : Bool := decide (Tie es)
theorem tieB_true {es : List Ent} (h : Tie es) : tieB es = true := by unfold tieB; exact @decide_eq_true _ (Classical.propDecidable _) h
theorem tieB_false {es : List Ent} (h : ¬ Tie es) : tieB es = false := by unfold tieB; exact @decide_eq_false _ (Classical.propDecidable _) h
set_option maxRecDepth 100000 in
set_option maxHeartbeats 8000000 in
theorem tight_any (a : Option Addr) (n c : Nat) (es : List Ent) (w : World) (hok : ∀ x ∈ es, okS x.1) (hlen : es.length ≤ 1048576) (hz : EnsP w.heap.size w (.slice a n c) es) :
    Calls Try.prog 14 #[.slice a n c] w fun o w' => o = .returned (.bool (tieB es)) ∧ Below w.heap.size w w' := by
  have hn := hz.len
  have HZ := Lib.hid hz
  have HN := Lib.hid hn.symm
  have HOK := Lib.hid hok
  have hn0 : n ≤ 1048576 := by omega
  have hcap : n ≤ c ∨ n = 0 := by
    rcases hz with ⟨rfl, _⟩ | ⟨b, off, cap, e, _, hcp, _⟩
    · exact .inr (by simpa using hn)
    · cases e; exact .inl hcp
  have HCP := Lib.hid hcap
  clear hz hn hok hlen hcap
  go_enter Try.func14, Try.ntmps14
  go_wp2
  go_loopw [8] (fun i wr => ∃ m : Nat, i = .int .i64 m ∧ m ≤ n ∧ Tie (es.take m) ∧ Below w.heap.size w wr) (fun i _ => n - (intOf i).toNat)
  case atStart => exact ⟨0, rfl, Nat.zero_le _, tight_nil, Below.refl _ _⟩
  case round =>
    obtain ⟨m, rfl, hm, ht, hB⟩ := hrel
    obtain ⟨wo, hwo⟩ : ∃ x, x = wr := ⟨wr, rfl⟩
    subst hwo
    have HB := Lib.hid hB
    have HT := Lib.hid ht
    by_cases hlt : m < n
    · obtain ⟨⟨k, u⟩, hx⟩ : ∃ x, es[m]? = some x := ⟨_, List.getElem?_eq_getElem (by rw [HN.out]; exact hlt)⟩
      obtain ⟨g, off, rfl, hg, f0, f1⟩ := HZ.out.at_ hx
      have hkok : okS k := HOK.out _ (List.mem_of_getElem? hx)
      have d0 := (hB.cell (p := ⟨g, off + m * 2, none⟩) hg).trans f0
      have d1 := (hB.cell (p := ⟨g, off + m * 2 + 1, none⟩) hg).trans f1
      simp only at d0 d1
      have b1 : (0 : Int) ≤ m := by omega
      have b2 : (m : Int) < n := by omega
      have hmc : m ≤ c := by rcases HCP.out with h | h <;> omega
      have hmci : (m : Int) ≤ (c : Int) := by omega
      obtain ⟨W1, hW1⟩ : ∃ W1, wo.alloc (.cells #[.int .u64 (k : Nat), .int .i64 u] 41) = W1 := ⟨_, rfl⟩
      have hb2 : Below wo.heap.size wo W1 := by rw [← hW1]; exact (Below.refl _ _).alloc (Nat.le_refl _) _
      have hn2 : W1.heap[wo.heap.size]? = some (.cells #[.int .u64 (k : Nat), .int .i64 u] 41) := by rw [← hW1]; exact World.alloc_heap_new wo _
      have hbl : wo.heap.size < W1.heap.size := (Array.getElem?_eq_some_iff.1 hn2).1
      have hb3 : Below w.heap.size w W1 := hB.trans (hb2.mono hB.size)
      have c0 := fun p => BelW.cell (w := W1) (a := ⟨wo.heap.size, 0, none⟩) hbl (cell_of_row W1 _ 0 _ _ _ hn2) p
      have c1 := fun p => BelW.cell (w := W1) (a := ⟨wo.heap.size, 1, none⟩) hbl (cell_of_row W1 _ 1 _ _ _ hn2) p
      have hzt : EnsP W1.heap.size W1 (.slice (some ⟨g, off, none⟩) m c) (es.take m) := ((HZ.out.take (k := m) (by omega)).below hb3 (Nat.le_refl _)).mono hb3.size
      have HRI := Lib.hid (fun (p : BelW W1) => rises_any (some ⟨g, off, none⟩) m c (es.take m) (k, u) p.W hkok ht (by rw [List.length_take]; omega) ((hzt.below p.h (Nat.le_refl _)).mono p.h.size))
      have HW1 := Lib.hid hW1
      have HB3 := Lib.hid hb3
      have HX := Lib.hid (take_snoc hx)
      have HNO := Lib.hid (fun (h : ¬ Tie (es.take (m + 1))) => tieB_false (fun h2 : Tie es => h (h2.take (m + 1))))
      have hzb : ∀ p : BelW W1, p.W.cell? ⟨g, off + (m - 1) * 2, none⟩ = w.cell? ⟨g, off + (m - 1) * 2, none⟩ := fun p => (hb3.trans (p.h.mono hb3.size)).cell (p := ⟨g, off + (m - 1) * 2, none⟩) hg
      have HZB := Lib.hid hzb
      clear hB ht f0 f1 hW1 hb2 hn2 hbl hb3 hzt hzb
      rcases Nat.eq_zero_or_pos m with h0 | h0
      · subst h0
        simp only [Nat.zero_mul, Nat.add_zero] at d0 d1
        clear hmci b1 b2
        cases hr : risesP (es.take 0) (k, u) with
        | true =>
          have HTN : Hid (Tie (es.take (0 + 1))) := Lib.hid (by rw [HX.out]; exact tie_snoc hkok HT.out (fun x h => by simp at h) hr)
          rw [show rises withinB 2199023255552 (es.take 0) (k, u) = true from hr] at HRI
          go_upto_region 5 with fail
          rw [HW1.out]
          refine wp_region_bel (by kernel_rfl) (by kernel_rfl) (WQ.out ?_)
          repeat (
            refine WQ.step (fun K hK => ?_)
            go_simp
            first
              | (refine hK _ ?_; clear hK K)
              | (apply Exists.intro
                 refine ⟨fun _ => ?_, hK _ ?_⟩
                 (first | (go_at_call 31; exact Calls.bel_of (HRI.out _)))
                 clear hK K))
          refine WQ.nil ?_
          rintro W3 ⟨p, rfl⟩
          have HF := Lib.hid (HB3.out.trans (p.h.mono HB3.out.size))
          obtain ⟨w3, hw3⟩ : ∃ x, p.W = x := ⟨_, rfl⟩
          rw [hw3] at HF ⊢
          clear hw3 p c0 c1
          go_wp2_with fail
          go_roundw
          case rel => exact ⟨0 + 1, by go_num, by omega, HTN.out, HF.out⟩
          case measure => simp [intOf]; omega
        | false =>
          have HNT : Hid (tieB es = false) := Lib.hid (HNO.out (fun h => by rw [HX.out] at h; have := tie_rises h; rw [hr] at this; cases this))
          rw [show rises withinB 2199023255552 (es.take 0) (k, u) = false from hr] at HRI
          go_upto_region 5 with fail
          rw [HW1.out]
          refine wp_region_bel (by kernel_rfl) (by kernel_rfl) (WQ.out ?_)
          repeat (
            refine WQ.step (fun K hK => ?_)
            go_simp
            first
              | (refine hK _ ?_; clear hK K)
              | (apply Exists.intro
                 refine ⟨fun _ => ?_, hK _ ?_⟩
                 (first | (go_at_call 31; exact Calls.bel_of (HRI.out _)))
                 clear hK K))
          refine WQ.nil ?_
          rintro W3 ⟨p, rfl⟩
          have HF := Lib.hid (HB3.out.trans (p.h.mono HB3.out.size))
          obtain ⟨w3, hw3⟩ : ∃ x, p.W = x := ⟨_, rfl⟩
          rw [hw3] at HF ⊢
          clear hw3 p c0 c1
          go_wp2_with fail
          go_ret
          exact ⟨by rw [HNT.out]; rfl, HF.out⟩
      · obtain ⟨m, rfl⟩ : ∃ m', m = m' + 1 := ⟨m - 1, by omega⟩
        clear h0
        have hw9 : IntKind.i64.wrap (m : Int) = (m : Int) := by rw [IntKind.wrap_i64]; omega
        have hd0 : decide ((0 : Int) < (m : Int) + 1) = true := decide_eq_true (by omega)
        obtain ⟨⟨k', u'⟩, hx'⟩ : ∃ x, es[m]? = some x := ⟨_, List.getElem?_eq_getElem (by rw [HN.out]; omega)⟩
        obtain ⟨g', off', e', _, f0', _⟩ := HZ.out.at_ hx'
        cases e'
        have hkok' : okS k' := HOK.out _ (List.mem_of_getElem? hx')
        have q0 : ∀ p : BelW W1, p.W.cell? ⟨g, off + m * 2, none⟩ = some (.int .u64 (k' : Nat)) := fun p => (HZB.out p).trans f0'
        have g3 : (m : Int) < n := by omega
        have g4 : (0 : Int) ≤ m := by omega
        have g5 : (m : Int) + 1 - 1 = m := by omega
        have hlast : (es.take (m + 1)).getLast? = some (k', u') := by rw [take_snoc hx', List.getLast?_concat]
        have HLA := Lib.hid hlast
        have HCM := Lib.hid (fun (p : BelW W1) => cmp_any k' k p.W hkok' hkok)
        have hcl : ltS k' k = decide (cmpS k' k < 0) := rfl
        obtain ⟨cv, hcv⟩ : ∃ cv, cmpS k' k = cv := ⟨_, rfl⟩
        rw [hcv] at HCM hcl
        clear hx' f0' hlast hcv
        by_cases hc : cv < 0
        · have hd : decide (0 ≤ cv) = false := decide_eq_false (by omega)
          have HLT : Hid (∀ x, (es.take (m + 1)).getLast? = some x → ltS x.1 k = true) := Lib.hid (fun x h => by rw [HLA.out] at h; cases h; rw [hcl]; exact decide_eq_true hc)
          clear hcl
          cases hr : risesP (es.take (m + 1)) (k, u) with
          | true =>
            have HTN : Hid (Tie (es.take ((m + 1) + 1))) := Lib.hid (by rw [HX.out]; exact tie_snoc hkok HT.out HLT.out hr)
            rw [show rises withinB 2199023255552 (es.take (m + 1)) (k, u) = true from hr] at HRI
            go_upto_region 5 with fail
            rw [HW1.out]
            refine wp_region_bel (by kernel_rfl) (by kernel_rfl) (WQ.out ?_)
            repeat (
              refine WQ.step (fun K hK => ?_)
              go_simp
              first
                | (refine hK _ ?_; clear hK K)
                | (apply Exists.intro
                   refine ⟨fun _ => ?_, hK _ ?_⟩
                   (first | (go_at_call 30; exact Calls.bel_of (HCM.out _)) | (go_at_call 31; exact Calls.bel_of (HRI.out _)))
                   clear hK K))
            refine WQ.nil ?_
            rintro W3 ⟨p, rfl⟩
            have HF := Lib.hid (HB3.out.trans (p.h.mono HB3.out.size))
            obtain ⟨w3, hw3⟩ : ∃ x, p.W = x := ⟨_, rfl⟩
            rw [hw3] at HF ⊢
            clear hw3 p c0 c1
            go_wp2_with fail
            go_roundw
            case rel => exact ⟨(m + 1) + 1, by go_num, by omega, HTN.out, HF.out⟩
            case measure => simp [intOf]; omega
          | false =>
            have HNT : Hid (tieB es = false) := Lib.hid (HNO.out (fun h => by rw [HX.out] at h; have := tie_rises h; rw [hr] at this; cases this))
            rw [show rises withinB 2199023255552 (es.take (m + 1)) (k, u) = false from hr] at HRI
            go_upto_region 5 with fail
            rw [HW1.out]
            refine wp_region_bel (by kernel_rfl) (by kernel_rfl) (WQ.out ?_)
            repeat (
              refine WQ.step (fun K hK => ?_)
              go_simp
              first
                | (refine hK _ ?_; clear hK K)
                | (apply Exists.intro
                   refine ⟨fun _ => ?_, hK _ ?_⟩
                   (first | (go_at_call 30; exact Calls.bel_of (HCM.out _)) | (go_at_call 31; exact Calls.bel_of (HRI.out _)))
                   clear hK K))
            refine WQ.nil ?_
            rintro W3 ⟨p, rfl⟩
            have HF := Lib.hid (HB3.out.trans (p.h.mono HB3.out.size))
            obtain ⟨w3, hw3⟩ : ∃ x, p.W = x := ⟨_, rfl⟩
            rw [hw3] at HF ⊢
            clear hw3 p c0 c1
            go_wp2_with fail
            go_ret
            exact ⟨by rw [HNT.out]; rfl, HF.out⟩
        · have hd : decide (0 ≤ cv) = true := decide_eq_true (by omega)
          have HNT : Hid (tieB es = false) := Lib.hid (HNO.out (fun h => by rw [HX.out] at h; have h9 := tie_last h HLA.out; rw [hcl, decide_eq_false hc] at h9; cases h9))
          clear hcl
          go_upto_region 5 with fail
          rw [HW1.out]
          refine wp_region_bel (by kernel_rfl) (by kernel_rfl) (WQ.out ?_)
          repeat (
            refine WQ.step (fun K hK => ?_)
            go_simp
            first
              | (refine hK _ ?_; clear hK K)
              | (apply Exists.intro
                 refine ⟨fun _ => ?_, hK _ ?_⟩
                 (first | (go_at_call 30; exact Calls.bel_of (HCM.out _)) | (go_at_call 31; exact Calls.bel_of (HRI.out _)))
                 clear hK K))
          refine WQ.nil ?_
          rintro W3 ⟨p, rfl⟩
          have HF := Lib.hid (HB3.out.trans (p.h.mono HB3.out.size))
          obtain ⟨w3, hw3⟩ : ∃ x, p.W = x := ⟨_, rfl⟩
          rw [hw3] at HF ⊢
          clear hw3 p c0 c1
          go_wp2_with fail
          go_ret
          exact ⟨by rw [HNT.out]; rfl, HF.out⟩
    · obtain rfl : m = n := by omega
      have htt : tieB es = true := tieB_true (by rw [← List.take_of_length_le (i := m) (l := es) (by rw [HN.out]; exact Nat.le_refl _)]; exact ht)
      have HTT := Lib.hid htt
      clear hB ht htt
      go_wp2_with fail
      go_ret
      exact ⟨by rw [HTT.out]; rfl, HB.out⟩
end Go.Proofs.Ytpcbdjdmhemjdaa
