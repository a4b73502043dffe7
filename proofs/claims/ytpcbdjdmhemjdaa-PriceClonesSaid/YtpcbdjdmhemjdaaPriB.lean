/- Contracts of what stands on price's search: whether an entry rises. -/
import Derived.Test.YtpcbdjdmhemjdaaPriA
import Derived.Test.YtpcbdjdmhemjdaaPriX
namespace Go.Proofs.Ytpcbdjdmhemjdaa
open Go.RowKit
set_option linter.unusedVariables false
attribute [local go_sem] Oper.semAt_some

theorem cnt_zeroP {s : Nat} (hs : s < 18446744073709551616) : (0 : Int) < (cnt s : Int) ↔ s ≠ 0 := by
  constructor
  · rintro h rfl
    have : cnt 0 = 0 := by decide +kernel
    rw [this] at h
    omega
  · intro h
    obtain ⟨i, hi⟩ : ∃ i, s.testBit i = true := Nat.exists_testBit_of_ne_zero h
    have h64 : i < 64 := by
      rcases Nat.lt_or_ge i 64 with h2 | h2
      · exact h2
      · rw [testBit_big hs h2] at hi; cases hi
    have : i ∈ items s := List.mem_filter.2 ⟨List.mem_range.2 h64, hi⟩
    have := List.length_pos_of_mem this
    unfold cnt
    omega
set_option maxRecDepth 100000 in
set_option maxHeartbeats 1000000 in
set_option maxRecDepth 100000 in
set_option maxHeartbeats 4000000 in
theorem rises_any (a : Option Addr) (n c : Nat) (es : List Ent) (e : Ent) (w : World) (hs : okS e.1) (ht : Tie es) (hlen : es.length ≤ 1048576) (hz : EnsP w.heap.size w (.slice a n c) es) :
    Calls Try.prog 31 #[.slice a n c, .agg #[.int .u64 (e.1 : Nat), .int .i64 e.2]] w fun o w' => o = .returned (.bool (rises withinB 2199023255552 es e)) ∧ Below w.heap.size w w' := by
  obtain ⟨k, v⟩ := e
  simp only at hs ⊢
  have hr : rises withinB 2199023255552 es (k, v) = (decide (k ≠ 0) && decide (v ≤ 2199023255552) && decide (askL withinB es k < v)) := rfl
  have hcz : decide (k ≠ 0) = decide ((0 : Int) < (cnt k : Int)) := by
    rw [decide_eq_decide]
    exact (cnt_zeroP hs).symm
  rw [hr, hcz]
  obtain ⟨w1, hw1⟩ : ∃ w1, w.alloc (.cells #[.int .u64 (k : Nat), .int .i64 v] 41) = w1 := ⟨_, rfl⟩
  have hb01 : Below w.heap.size w w1 := by rw [← hw1]; exact (Below.refl _ _).alloc (Nat.le_refl _) _
  have hnew : w1.heap[w.heap.size]? = some (.cells #[.int .u64 (k : Nat), .int .i64 v] 41) := by rw [← hw1]; exact World.alloc_heap_new w _
  have hlt : w.heap.size < w1.heap.size := by rw [← hw1]; simp
  have c0 := fun p => BelW.cell (w := w1) (a := ⟨w.heap.size, 0, none⟩) hlt (cell_of_row w1 _ 0 _ _ _ hnew) p
  have c1 := fun p => BelW.cell (w := w1) (a := ⟨w.heap.size, 1, none⟩) hlt (cell_of_row w1 _ 1 _ _ _ hnew) p
  have HC := Lib.hid (fun (p : BelW w1) => count_any k p.W hs)
  have HA := Lib.hid (fun (p : BelW w1) => asked_any a n c k es p.W hs ht hlen ((hz.below (hb01.trans (p.h.mono hb01.size)) (Nat.le_refl _)).mono (Nat.le_trans hb01.size p.h.size)))
  have HW := Lib.hid hw1
  have HB := Lib.hid hb01
  obtain ⟨cn, hcn⟩ : ∃ cn : Int, (cnt k : Int) = cn := ⟨_, rfl⟩
  obtain ⟨av, hav⟩ : ∃ av, askL withinB es k = av := ⟨_, rfl⟩
  rw [hcn] at HC ⊢
  rw [hav] at HA ⊢
  clear hw1 hb01 hnew hz ht hlen hr hcz hcn hav
  have HFIN : Hid (∀ (W3 : World), (∃ p : BelW w1, W3 = p.W) → Below w.heap.size w W3) := Lib.hid (fun W3 ⟨p, hp⟩ => by rw [hp]; exact HB.out.trans (p.h.mono HB.out.size))
  go_enter Try.func31, Try.ntmps31
  go_upto_region 1 with fail
  rw [HW.out]
  by_cases h1 : 0 < cn
  · have d1 : decide (0 < cn) = true := decide_eq_true h1
    by_cases h2 : v ≤ 2199023255552
    · have d2 : decide (v ≤ 2199023255552) = true := decide_eq_true h2
      refine wp_region_bel (by kernel_rfl) (by kernel_rfl) ?_
      repeat (quiet_step (first | (go_at_call 41; exact Calls.same_of (HC.out _)) | (go_at_call 32; exact Calls.bel_of (HA.out _))))
      refine wpQuiet_nil ?_
      intro W3 hw'
      have HF := Lib.hid (HFIN.out W3 hw')
      clear hw' c0 c1
      go_wp2
      go_ret
      exact ⟨by simp [d1, d2], HF.out⟩
    · have d2 : decide (v ≤ 2199023255552) = false := decide_eq_false h2
      refine wp_region_bel (by kernel_rfl) (by kernel_rfl) ?_
      repeat (quiet_step (first | (go_at_call 41; exact Calls.same_of (HC.out _)) | (go_at_call 32; exact Calls.bel_of (HA.out _))))
      refine wpQuiet_nil ?_
      intro W3 hw'
      have HF := Lib.hid (HFIN.out W3 hw')
      clear hw' c0 c1
      go_wp2
      go_ret
      exact ⟨by simp [d1, d2], HF.out⟩
  · have d1 : decide (0 < cn) = false := decide_eq_false h1
    refine wp_region_bel (by kernel_rfl) (by kernel_rfl) ?_
    repeat (quiet_step (first | (go_at_call 41; exact Calls.same_of (HC.out _)) | (go_at_call 32; exact Calls.bel_of (HA.out _))))
    refine wpQuiet_nil ?_
    intro W3 hw'
    have HF := Lib.hid (HFIN.out W3 hw')
    clear hw' c0 c1
    go_wp2
    go_ret
    exact ⟨by simp [d1], HF.out⟩
end Go.Proofs.Ytpcbdjdmhemjdaa
