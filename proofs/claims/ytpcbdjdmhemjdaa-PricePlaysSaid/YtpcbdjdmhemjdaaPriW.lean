/- The document's store: Of, Tight. -/
import Derived.Test.YtpcbdjdmhemjdaaPriU
import Derived.Test.YtpcbdjdmhemjdaaPriV
namespace Go.Proofs.Ytpcbdjdmhemjdaa
open Go.RowKit
set_option linter.unusedVariables false
attribute [local go_sem] Oper.semAt_some

set_option maxRecDepth 100000 in
set_option maxHeartbeats 8000000 in
theorem refOf_any (a : Option Addr) (n c : Nat) (xs : List Ent) (w : World) (hok : ∀ x ∈ xs, okS x.1) (hlen : xs.length ≤ 1048000) (hz : EnsP w.heap.size w (.slice a n c) xs) :
    Calls Try.prog 18 #[.slice a n c] w fun o w' => ∃ a' n' c', o = .returned (.slice a' n' c') ∧ EnsP w'.heap.size w' (.slice a' n' c') (ofP xs) ∧ Below w.heap.size w w' := by
  have hn := hz.len
  have HZ := Lib.hid hz
  have HN := Lib.hid hn.symm
  have HOK := Lib.hid hok
  have hn0 : n ≤ 1048000 := by omega
  clear hz hn hok hlen
  go_enter Try.func18, Try.ntmps18
  go_wp2
  go_loopw [3, 4] (fun v i wr => ∃ (m : Nat) (a' : Option Addr) (n' c' : Nat), v = .slice a' n' c' ∧ i = .int .i64 m ∧ m ≤ n ∧ EnsP wr.heap.size wr (.slice a' n' c') (ofP (xs.take m)) ∧ Below w.heap.size w wr) (fun _ i _ => n - (intOf i).toNat)
  case atStart => exact ⟨0, _, _, _, rfl, rfl, Nat.zero_le _, .inl ⟨rfl, _, _, rfl⟩, (Below.refl _ _).alloc (Nat.le_refl _) _⟩
  case round =>
    obtain ⟨m, a', n', c', rfl, rfl, hm, hE, hB⟩ := hrel
    obtain ⟨wo, hwo⟩ : ∃ x, x = wr := ⟨wr, rfl⟩
    subst hwo
    by_cases hlt : m < n
    · obtain ⟨⟨k, u⟩, hx⟩ : ∃ x, xs[m]? = some x := ⟨_, List.getElem?_eq_getElem (by rw [HN.out]; exact hlt)⟩
      obtain ⟨b, off, rfl, hbl, f0, f1⟩ := HZ.out.at_ hx
      have hkok : okS k := HOK.out _ (List.mem_of_getElem? hx)
      have d0 : ∀ p : BelW wo, p.W.cell? ⟨b, off + m * 2, none⟩ = some (.int .u64 (k : Nat)) := fun p => ((hB.trans (p.h.mono hB.size)).cell (p := ⟨b, off + m * 2, none⟩) hbl).trans f0
      have d1 : ∀ p : BelW wo, p.W.cell? ⟨b, off + m * 2 + 1, none⟩ = some (.int .i64 u) := fun p => ((hB.trans (p.h.mono hB.size)).cell (p := ⟨b, off + m * 2 + 1, none⟩) hbl).trans f1
      have b1 : (0 : Int) ≤ m := by omega
      have b2 : (m : Int) < n := by omega
      have hst := of_take hx
      have hti : Tie (ofP (xs.take m)) := of_tie (fun x hx' => HOK.out x (List.mem_of_mem_take hx'))
      have hal : (ofP (xs.take m)).length ≤ m := of_len m xs (by rw [HN.out]; omega)
      have HST := Lib.hid hst
      have HB := Lib.hid hB
      obtain ⟨acc, hacc⟩ : ∃ acc, ofP (xs.take m) = acc := ⟨_, rfl⟩
      rw [hacc] at HST hti hal hE
      have HP := Lib.hid (fun (W : World) (hb : Below wo.heap.size wo W) => refPut_any a' n' c' (k, u) acc W hkok (fun x hx' => (hti.right x hx').1) (by omega) ((hE.below hb (Nat.le_refl _)).mono hb.size))
      simp only at HP
      clear hB hE f0 f1 hst hti hal hacc hx
      have e0 := d0 ⟨wo.drew, (Below.refl _ _).drew⟩
      have e1 := d1 ⟨wo.drew, (Below.refl _ _).drew⟩
      simp only at e0 e1
      clear d0 d1
      go_upto_region 5 with fail
      go_region_with (go_at_call 26; refine (HP.out _ (Below.refl _ _).drew).mono ?_; rintro o w3 ⟨a2, n2, c2, rfl, hE3, hb3⟩; have HE3 := Lib.hid hE3; have HB3 := Lib.hid (HB.out.trans (((Below.refl wo.heap.size wo).drew.trans hb3).mono HB.out.size)); clear hE3 hb3)
      all_goals (
        go_wp2
        go_roundw
        case rel => exact ⟨m + 1, a2, n2, c2, rfl, by go_num, by omega, by rw [HST.out]; exact HE3.out, HB3.out⟩
        case measure => simp [intOf]; omega)
    · obtain rfl : m = n := by omega
      rw [List.take_of_length_le (by rw [HN.out]; exact Nat.le_refl _)] at hE
      have HE := Lib.hid hE
      have HB := Lib.hid hB
      clear hE hB
      go_wp2_with fail
      go_ret
      exact ⟨a', n', c', rfl, HE.out, HB.out⟩
/-- What Tight asks of one entry. -/
def OkAt (es : List Ent) (i : Nat) : Prop := ∀ x, es[i]? = some x → x.1 ≠ 0 ∧ 1 ≤ x.2 ∧ x.2 ≤ 2199023255552 ∧ (∀ p, i = p + 1 → ∀ y, es[p]? = some y → ltS y.1 x.1 = true) ∧ ∀ t y, t ≠ i → es[t]? = some y → withinB y.1 x.1 = true → y.2 < x.2
theorem tie_at {es : List Ent} (h : Tie es) (i : Nat) {x : Ent} (hx : es[i]? = some x) : x.1 ≠ 0 ∧ 1 ≤ x.2 ∧ x.2 ≤ 2199023255552 ∧ (∀ p, i = p + 1 → ∀ y, es[p]? = some y → ltS y.1 x.1 = true) ∧ ∀ t y, t ≠ i → es[t]? = some y → withinB y.1 x.1 = true → y.2 < x.2 := by
  have hr := h.right x (List.mem_of_getElem? hx)
  refine ⟨hr.2.1, hr.2.2.1, hr.2.2.2, fun p hp y hy => h.ordE p i y x (by omega) hy hx, fun t y ht hy hw => h.need y (List.mem_of_getElem? hy) x (List.mem_of_getElem? hx) (fun e => ?_) hw⟩
  subst e
  rcases Nat.lt_or_gt_of_ne ht with h' | h'
  · have := h.ordE t i y y h' hy hx; rw [sOrd.irr] at this; cases this
  · have := h.ordE i t y y h' hx hy; rw [sOrd.irr] at this; cases this
theorem ord_of {es : List Ent} (h : ∀ i, i < es.length → OkAt es i) : ∀ (d i : Nat) (x y : Ent), es[i]? = some x → es[i + d + 1]? = some y → ltS x.1 y.1 = true
  | 0, i, x, y, hx, hy => (h (i + 1) (List.getElem?_eq_some_iff.1 hy).1 y hy).2.2.2.1 i rfl x hx
  | d + 1, i, x, y, hx, hy => by
    obtain ⟨z, hz⟩ : ∃ z, es[i + d + 1]? = some z := ⟨_, List.getElem?_eq_getElem (by have := (List.getElem?_eq_some_iff.1 hy).1; omega)⟩
    exact sOrd.trans _ _ _ (ord_of h d i x z hx hz) ((h (i + (d + 1) + 1) (List.getElem?_eq_some_iff.1 hy).1 y hy).2.2.2.1 (i + d + 1) (by omega) z hz)
theorem tie_of_at {es : List Ent} (hok : ∀ x ∈ es, okS x.1) (h : ∀ i, i < es.length → OkAt es i) : Tie es := by
  refine ⟨List.pairwise_iff_getElem.2 (fun i j hi hj hij => ?_), fun x hx => ?_, fun x hx y hy hne hw => ?_⟩
  · exact ord_of h (j - i - 1) i _ _ (List.getElem?_eq_getElem hi) (by rw [show i + (j - i - 1) + 1 = j from by omega]; exact List.getElem?_eq_getElem hj)
  · obtain ⟨i, hi⟩ := List.getElem?_of_mem hx
    have := h i (List.getElem?_eq_some_iff.1 hi).1 x hi
    exact ⟨hok x hx, this.1, this.2.1, this.2.2.1⟩
  · obtain ⟨i, hi⟩ := List.getElem?_of_mem hx
    obtain ⟨j, hj⟩ := List.getElem?_of_mem hy
    exact (h j (List.getElem?_eq_some_iff.1 hj).1 y hj).2.2.2.2 i x (fun e => hne (by subst e; rw [hi] at hj; exact Option.some.inj hj)) hi hw
set_option maxRecDepth 100000 in
set_option maxHeartbeats 8000000 in
theorem refTight_any (a : Option Addr) (n c : Nat) (es : List Ent) (w : World) (hok : ∀ x ∈ es, okS x.1) (hlen : es.length ≤ 1048576) (hz : EnsP w.heap.size w (.slice a n c) es) :
    Calls Try.prog 13 #[.slice a n c] w fun o w' => o = .returned (.bool (tieB es)) ∧ Below w.heap.size w w' := by
  have hn := hz.len
  have HZ := Lib.hid hz
  have HN := Lib.hid hn.symm
  have HOK := Lib.hid hok
  have hn0 : n ≤ 1048576 := by omega
  clear hz hn hok hlen
  go_enter Try.func13, Try.ntmps13
  go_wp2
  go_loopw [3] (fun iv wr => ∃ i : Nat, iv = .int .i64 i ∧ i ≤ n ∧ (∀ t, t < i → OkAt es t) ∧ Below w.heap.size w wr) (fun iv _ => n - (intOf iv).toNat)
  case atStart => exact ⟨0, rfl, Nat.zero_le _, (fun t h => by omega), Below.refl _ _⟩
  case round =>
    obtain ⟨i, rfl, hi, hpre, hB⟩ := hrel
    obtain ⟨wo, hwo⟩ : ∃ x, x = wr := ⟨wr, rfl⟩
    subst hwo
    have HB := Lib.hid hB
    have HPRE := Lib.hid hpre
    by_cases hlt : i < n
    · obtain ⟨⟨k, u⟩, hx⟩ : ∃ x, es[i]? = some x := ⟨_, List.getElem?_eq_getElem (by rw [HN.out]; exact hlt)⟩
      obtain ⟨g, off, rfl, hg, f0, f1⟩ := HZ.out.at_ hx
      have hkok : okS k := HOK.out _ (List.mem_of_getElem? hx)
      have d0 := (hB.cell (p := ⟨g, off + i * 2, none⟩) hg).trans f0
      have d1 := (hB.cell (p := ⟨g, off + i * 2 + 1, none⟩) hg).trans f1
      simp only at d0 d1
      have b1 : (0 : Int) ≤ i := by omega
      have b2 : (i : Int) < n := by omega
      obtain ⟨W1, hW1⟩ : ∃ W1, wo.alloc (.cells #[.int .u64 (k : Nat), .int .i64 u] 41) = W1 := ⟨_, rfl⟩
      have hb2 : Below wo.heap.size wo W1 := by rw [← hW1]; exact (Below.refl _ _).alloc (Nat.le_refl _) _
      have hn2 : W1.heap[wo.heap.size]? = some (.cells #[.int .u64 (k : Nat), .int .i64 u] 41) := by rw [← hW1]; exact World.alloc_heap_new wo _
      have hbl : wo.heap.size < W1.heap.size := (Array.getElem?_eq_some_iff.1 hn2).1
      have hb3 : Below w.heap.size w W1 := hB.trans (hb2.mono hB.size)
      have HC0 : Hid (∀ W, Below W1.heap.size W1 W → W.cell? ⟨wo.heap.size, 0, none⟩ = some (.int .u64 (k : Nat))) := Lib.hid (fun W h => (h.cell (p := ⟨wo.heap.size, 0, none⟩) hbl).trans (cell_of_row W1 _ 0 _ _ _ hn2))
      have HC1 : Hid (∀ W, Below W1.heap.size W1 W → W.cell? ⟨wo.heap.size, 1, none⟩ = some (.int .i64 u)) := Lib.hid (fun W h => (h.cell (p := ⟨wo.heap.size, 1, none⟩) hbl).trans (cell_of_row W1 _ 1 _ _ _ hn2))
      have c0 : ∀ p : BelW W1, p.W.cell? ⟨wo.heap.size, 0, none⟩ = some (.int .u64 (k : Nat)) := fun p => HC0.out p.W p.h
      have c1 : ∀ p : BelW W1, p.W.cell? ⟨wo.heap.size, 1, none⟩ = some (.int .i64 u) := fun p => HC1.out p.W p.h
      have HW1 := Lib.hid hW1
      have HB3 := Lib.hid hb3
      have HX := Lib.hid hx
      clear hB hpre f0 f1 hW1 hb2 hn2 hbl hb3 hx
      rcases Nat.eq_zero_or_pos i with h0 | h0
      · subst h0
        simp only [Nat.zero_mul, Nat.add_zero] at d0 d1
        clear b1 b2
        by_cases hk0 : k = 0
        · have hd1 : ((k : Int) == 0) = true := by rw [beq_iff_eq]; omega
          have HK0 := Lib.hid hk0
          clear hk0
          have HNT : Hid (tieB es = false) := Lib.hid (tieB_false (fun h => by have h9 := tie_at h 0 HX.out; exact h9.1 HK0.out))
          go_upto_region 5 with fail
          rw [HW1.out]
          refine wp_region_bel (by kernel_rfl) (by kernel_rfl) (WQ.out ?_)
          repeat (
            refine WQ.step (fun K hK => ?_)
            go_simp
            first
              | (refine hK _ ?_; clear hK K)
              | (apply Exists.intro
                 refine ⟨fun _ => ?_, hK _ ?_⟩
                 fail
                 clear hK K))
          refine WQ.nil ?_
          rintro W3 ⟨p, rfl⟩
          have HF := Lib.hid (HB3.out.trans (p.h.mono HB3.out.size))
          obtain ⟨w3, hw3⟩ : ∃ x, p.W = x := ⟨_, rfl⟩
          have HP3 : Hid (Below W1.heap.size W1 w3) := Lib.hid (by rw [← hw3]; exact p.h)
          rw [hw3] at HF ⊢
          clear hw3 p c0 c1
          go_wp2_with fail
          go_ret
          exact ⟨by rw [HNT.out]; rfl, HF.out⟩
        · have hd1 : ((k : Int) == 0) = false := by rw [beq_eq_false_iff_ne]; omega
          by_cases hu1 : u < 1
          · have hd2 : decide (u < 1) = true := decide_eq_true hu1
            have HNT : Hid (tieB es = false) := Lib.hid (tieB_false (fun h => by have h9 := tie_at h 0 HX.out; have := h9.2.1; simp only at this; omega))
            go_upto_region 5 with fail
            rw [HW1.out]
            refine wp_region_bel (by kernel_rfl) (by kernel_rfl) (WQ.out ?_)
            repeat (
              refine WQ.step (fun K hK => ?_)
              go_simp
              first
                | (refine hK _ ?_; clear hK K)
                | (apply Exists.intro
                   refine ⟨fun _ => ?_, hK _ ?_⟩
                   fail
                   clear hK K))
            refine WQ.nil ?_
            rintro W3 ⟨p, rfl⟩
            have HF := Lib.hid (HB3.out.trans (p.h.mono HB3.out.size))
            obtain ⟨w3, hw3⟩ : ∃ x, p.W = x := ⟨_, rfl⟩
            have HP3 : Hid (Below W1.heap.size W1 w3) := Lib.hid (by rw [← hw3]; exact p.h)
            rw [hw3] at HF ⊢
            clear hw3 p c0 c1
            go_wp2_with fail
            go_ret
            exact ⟨by rw [HNT.out]; rfl, HF.out⟩
          · have hd2 : decide (u < 1) = false := decide_eq_false hu1
            by_cases hu2 : 2199023255552 < u
            · have hd3 : decide (2199023255552 < u) = true := decide_eq_true hu2
              have HNT : Hid (tieB es = false) := Lib.hid (tieB_false (fun h => by have h9 := tie_at h 0 HX.out; have := h9.2.2.1; simp only at this; omega))
              go_upto_region 5 with fail
              rw [HW1.out]
              refine wp_region_bel (by kernel_rfl) (by kernel_rfl) (WQ.out ?_)
              repeat (
                refine WQ.step (fun K hK => ?_)
                go_simp
                first
                  | (refine hK _ ?_; clear hK K)
                  | (apply Exists.intro
                     refine ⟨fun _ => ?_, hK _ ?_⟩
                     fail
                     clear hK K))
              refine WQ.nil ?_
              rintro W3 ⟨p, rfl⟩
              have HF := Lib.hid (HB3.out.trans (p.h.mono HB3.out.size))
              obtain ⟨w3, hw3⟩ : ∃ x, p.W = x := ⟨_, rfl⟩
              have HP3 : Hid (Below W1.heap.size W1 w3) := Lib.hid (by rw [← hw3]; exact p.h)
              rw [hw3] at HF ⊢
              clear hw3 p c0 c1
              go_wp2_with fail
              go_ret
              exact ⟨by rw [HNT.out]; rfl, HF.out⟩
            · have hd3 : decide (2199023255552 < u) = false := decide_eq_false hu2
              have HC : Hid (k ≠ 0 ∧ 1 ≤ u ∧ u ≤ 2199023255552 ∧ ∀ p, 0 = p + 1 → ∀ y, es[p]? = some y → ltS y.1 k = true) := Lib.hid ⟨hk0, by omega, by omega, (fun p hp => by omega)⟩
              go_upto_region 5 with fail
              rw [HW1.out]
              refine wp_region_bel (by kernel_rfl) (by kernel_rfl) (WQ.out ?_)
              repeat (
                refine WQ.step (fun K hK => ?_)
                go_simp
                first
                  | (refine hK _ ?_; clear hK K)
                  | (apply Exists.intro
                     refine ⟨fun _ => ?_, hK _ ?_⟩
                     fail
                     clear hK K))
              refine WQ.nil ?_
              rintro W3 ⟨p, rfl⟩
              have HF := Lib.hid (HB3.out.trans (p.h.mono HB3.out.size))
              obtain ⟨w3, hw3⟩ : ∃ x, p.W = x := ⟨_, rfl⟩
              have HP3 : Hid (Below W1.heap.size W1 w3) := Lib.hid (by rw [← hw3]; exact p.h)
              rw [hw3] at HF ⊢
              clear hw3 p c0 c1
              go_wp2_with fail
              go_loopw [5] (fun jv wr => ∃ j : Nat, jv = .int .i64 j ∧ j ≤ n ∧ (∀ t y, t < j → t ≠ 0 → es[t]? = some y → withinB y.1 k = true → y.2 < u) ∧ Below W1.heap.size W1 wr) (fun jv _ => n - (intOf jv).toNat)
              case atStart => exact ⟨0, rfl, Nat.zero_le _, (fun t y h => by omega), HP3.out⟩
              case round =>
                obtain ⟨j, rfl, hj, hall, hBi⟩ := hrel
                obtain ⟨wi, hwi0⟩ : ∃ x, x = wr := ⟨wr, rfl⟩
                subst hwi0
                have HALL := Lib.hid hall
                have HBI := Lib.hid (HB3.out.trans (hBi.mono HB3.out.size))
                have HBW := Lib.hid hBi
                by_cases hlj : j < n
                · obtain ⟨⟨k2, u2⟩, hy⟩ : ∃ y, es[j]? = some y := ⟨_, List.getElem?_eq_getElem (by rw [HN.out]; exact hlj)⟩
                  obtain ⟨g2, off2, e2, hg2, f2, f3⟩ := HZ.out.at_ hy
                  cases e2
                  have hk2 : okS k2 := HOK.out _ (List.mem_of_getElem? hy)
                  have q0 : ∀ p : BelW wi, p.W.cell? ⟨g, off + j * 2, none⟩ = some (.int .u64 (k2 : Nat)) := fun p => ((HBI.out.trans (p.h.mono HBI.out.size)).cell (p := ⟨g, off + j * 2, none⟩) hg).trans f2
                  have q1 : ∀ p : BelW wi, p.W.cell? ⟨g, off + j * 2 + 1, none⟩ = some (.int .i64 u2) := fun p => ((HBI.out.trans (p.h.mono HBI.out.size)).cell (p := ⟨g, off + j * 2 + 1, none⟩) hg).trans f3
                  have q2 : ∀ p : BelW wi, p.W.cell? ⟨wo.heap.size, 0, none⟩ = some (.int .u64 (k : Nat)) := fun p => HC0.out _ (HBW.out.trans (p.h.mono HBW.out.size))
                  have q3 : ∀ p : BelW wi, p.W.cell? ⟨wo.heap.size, 1, none⟩ = some (.int .i64 u) := fun p => HC1.out _ (HBW.out.trans (p.h.mono HBW.out.size))
                  have HWI := Lib.hid (fun (p : BelW wi) => refWithin_any k2 k p.W hk2 hkok)
                  have b3 : (0 : Int) ≤ j := by omega
                  have b4 : (j : Int) < n := by omega
                  have HY := Lib.hid hy
                  clear hall hBi hy f2 f3
                  by_cases hji : j = 0
                  · have hd9 : ((j : Int) != (0 : Int)) = false := by rw [bne_eq_false_iff_eq]; omega
                    have HJI := Lib.hid hji
                    clear hji
                    go_upto_region 10 with fail
                    refine wp_region_bel (by kernel_rfl) (by kernel_rfl) (WQ.out ?_)
                    repeat (
                      refine WQ.step (fun K hK => ?_)
                      go_simp
                      first
                        | (refine hK _ ?_; clear hK K)
                        | (apply Exists.intro
                           refine ⟨fun _ => ?_, hK _ ?_⟩
                           (first | (go_at_call 29; exact Calls.same_of (HWI.out _)))
                           clear hK K))
                    refine WQ.nil ?_
                    rintro W3 ⟨p, rfl⟩
                    have HF := Lib.hid (HBI.out.trans (p.h.mono HBI.out.size))
                    obtain ⟨w3, hw3⟩ : ∃ x, p.W = x := ⟨_, rfl⟩
                    have HP3 : Hid (Below wi.heap.size wi w3) := Lib.hid (by rw [← hw3]; exact p.h)
                    rw [hw3] at HF ⊢
                    clear hw3 p q0 q1 q2 q3
                    go_wp2_with fail
                    go_roundw
                    case rel => exact ⟨j + 1, by go_num, by omega, (fun t y ht hti hy hw => by
                                rcases Nat.lt_or_ge t j with h' | h'
                                · exact HALL.out t y h' hti hy hw
                                · obtain rfl : t = j := by omega
                                  exact absurd HJI.out hti), HBW.out.trans (HP3.out.mono HBW.out.size)⟩
                    case measure => simp [intOf]; omega
                  · have hd9 : ((j : Int) != (0 : Int)) = true := by rw [bne_iff_ne]; omega
                    have HJI := Lib.hid hji
                    clear hji
                    cases hwb : withinB k2 k with
                    | false =>
                      rw [hwb] at HWI
                      go_upto_region 10 with fail
                      refine wp_region_bel (by kernel_rfl) (by kernel_rfl) (WQ.out ?_)
                      repeat (
                        refine WQ.step (fun K hK => ?_)
                        go_simp
                        first
                          | (refine hK _ ?_; clear hK K)
                          | (apply Exists.intro
                             refine ⟨fun _ => ?_, hK _ ?_⟩
                             (first | (go_at_call 29; exact Calls.same_of (HWI.out _)))
                             clear hK K))
                      refine WQ.nil ?_
                      rintro W3 ⟨p, rfl⟩
                      have HF := Lib.hid (HBI.out.trans (p.h.mono HBI.out.size))
                      obtain ⟨w3, hw3⟩ : ∃ x, p.W = x := ⟨_, rfl⟩
                      have HP3 : Hid (Below wi.heap.size wi w3) := Lib.hid (by rw [← hw3]; exact p.h)
                      rw [hw3] at HF ⊢
                      clear hw3 p q0 q1 q2 q3
                      go_wp2_with fail
                      go_roundw
                      case rel => exact ⟨j + 1, by go_num, by omega, (fun t y ht hti hy hw => by
                                  rcases Nat.lt_or_ge t j with h' | h'
                                  · exact HALL.out t y h' hti hy hw
                                  · obtain rfl : t = j := by omega
                                    rw [HY.out] at hy; cases hy; rw [hwb] at hw; cases hw), HBW.out.trans (HP3.out.mono HBW.out.size)⟩
                      case measure => simp [intOf]; omega
                    | true =>
                      rw [hwb] at HWI
                      by_cases hge : u ≤ u2
                      · have hd8 : decide (u ≤ u2) = true := decide_eq_true hge
                        have HNT : Hid (tieB es = false) := Lib.hid (tieB_false (fun h => by have h9 := (tie_at h 0 HX.out).2.2.2.2 j _ HJI.out HY.out hwb; simp only at h9; omega))
                        go_upto_region 10 with fail
                        refine wp_region_bel (by kernel_rfl) (by kernel_rfl) (WQ.out ?_)
                        repeat (
                          refine WQ.step (fun K hK => ?_)
                          go_simp
                          first
                            | (refine hK _ ?_; clear hK K)
                            | (apply Exists.intro
                               refine ⟨fun _ => ?_, hK _ ?_⟩
                               (first | (go_at_call 29; exact Calls.same_of (HWI.out _)))
                               clear hK K))
                        refine WQ.nil ?_
                        rintro W3 ⟨p, rfl⟩
                        have HF := Lib.hid (HBI.out.trans (p.h.mono HBI.out.size))
                        obtain ⟨w3, hw3⟩ : ∃ x, p.W = x := ⟨_, rfl⟩
                        have HP3 : Hid (Below wi.heap.size wi w3) := Lib.hid (by rw [← hw3]; exact p.h)
                        rw [hw3] at HF ⊢
                        clear hw3 p q0 q1 q2 q3
                        go_wp2_with fail
                        go_ret
                        exact ⟨by rw [HNT.out]; rfl, HF.out⟩
                      · have hd8 : decide (u ≤ u2) = false := decide_eq_false hge
                        go_upto_region 10 with fail
                        refine wp_region_bel (by kernel_rfl) (by kernel_rfl) (WQ.out ?_)
                        repeat (
                          refine WQ.step (fun K hK => ?_)
                          go_simp
                          first
                            | (refine hK _ ?_; clear hK K)
                            | (apply Exists.intro
                               refine ⟨fun _ => ?_, hK _ ?_⟩
                               (first | (go_at_call 29; exact Calls.same_of (HWI.out _)))
                               clear hK K))
                        refine WQ.nil ?_
                        rintro W3 ⟨p, rfl⟩
                        have HF := Lib.hid (HBI.out.trans (p.h.mono HBI.out.size))
                        obtain ⟨w3, hw3⟩ : ∃ x, p.W = x := ⟨_, rfl⟩
                        have HP3 : Hid (Below wi.heap.size wi w3) := Lib.hid (by rw [← hw3]; exact p.h)
                        rw [hw3] at HF ⊢
                        clear hw3 p q0 q1 q2 q3
                        go_wp2_with fail
                        go_roundw
                        case rel => exact ⟨j + 1, by go_num, by omega, (fun t y ht hti hy hw => by
                                    rcases Nat.lt_or_ge t j with h' | h'
                                    · exact HALL.out t y h' hti hy hw
                                    · obtain rfl : t = j := by omega
                                      rw [HY.out] at hy; cases hy; simp only; omega), HBW.out.trans (HP3.out.mono HBW.out.size)⟩
                        case measure => simp [intOf]; omega
                · obtain rfl : j = n := by omega
                  clear hall hBi
                  go_wp2_with fail
                  go_roundw
                  case rel => exact ⟨0 + 1, by go_num, by omega, (fun t ht => by
                    rcases Nat.lt_or_ge t 0 with h' | h'
                    · exact HPRE.out t h'
                    · obtain rfl : t = 0 := by omega
                      intro x hx
                      rw [HX.out] at hx
                      cases hx
                      exact ⟨HC.out.1, HC.out.2.1, HC.out.2.2.1, HC.out.2.2.2, fun t y hti hy hw => HALL.out t y (by have := (List.getElem?_eq_some_iff.1 hy).1; have := HN.out; omega) hti hy hw⟩), HBI.out⟩
                  case measure => simp [intOf]; omega
              
      · obtain ⟨i, rfl⟩ : ∃ i', i = i' + 1 := ⟨i - 1, by omega⟩
        clear h0
        have hw9 : IntKind.i64.wrap (i : Int) = (i : Int) := by rw [IntKind.wrap_i64]; omega
        have hd0 : decide ((0 : Int) < (i : Int) + 1) = true := decide_eq_true (by omega)
        obtain ⟨⟨k', u'⟩, hx'⟩ : ∃ x, es[i]? = some x := ⟨_, List.getElem?_eq_getElem (by rw [HN.out]; omega)⟩
        obtain ⟨g', off', e', _, f0', _⟩ := HZ.out.at_ hx'
        cases e'
        have hkok' : okS k' := HOK.out _ (List.mem_of_getElem? hx')
        have q9 : ∀ p : BelW W1, p.W.cell? ⟨g, off + i * 2, none⟩ = some (.int .u64 (k' : Nat)) := fun p => ((HB3.out.trans (p.h.mono HB3.out.size)).cell (p := ⟨g, off + i * 2, none⟩) hg).trans f0'
        have g3 : (i : Int) < n := by omega
        have g4 : (0 : Int) ≤ i := by omega
        have g5 : (i : Int) + 1 - 1 = i := by omega
        have HX' := Lib.hid hx'
        have HCM := Lib.hid (fun (p : BelW W1) => refCmp_any k' k p.W hkok' hkok)
        have hcl : ltS k' k = decide (cmpS k' k < 0) := rfl
        obtain ⟨cv, hcv⟩ : ∃ cv, cmpS k' k = cv := ⟨_, rfl⟩
        rw [hcv] at HCM hcl
        have HCL := Lib.hid hcl
        clear hx' f0' hcv hcl
        by_cases hk0 : k = 0
        · have hd1 : ((k : Int) == 0) = true := by rw [beq_iff_eq]; omega
          have HK0 := Lib.hid hk0
          clear hk0
          have HNT : Hid (tieB es = false) := Lib.hid (tieB_false (fun h => by have h9 := tie_at h (i + 1) HX.out; exact h9.1 HK0.out))
          go_upto_region 5 with fail
          rw [HW1.out]
          refine wp_region_bel (by kernel_rfl) (by kernel_rfl) (WQ.out ?_)
          repeat (
            refine WQ.step (fun K hK => ?_)
            go_simp
            first
              | (refine hK _ ?_; clear hK K)
              | (apply Exists.intro
                 refine ⟨fun _ => ?_, hK _ ?_⟩
                 (first | (go_at_call 28; exact Calls.bel_of (HCM.out _)))
                 clear hK K))
          refine WQ.nil ?_
          rintro W3 ⟨p, rfl⟩
          have HF := Lib.hid (HB3.out.trans (p.h.mono HB3.out.size))
          obtain ⟨w3, hw3⟩ : ∃ x, p.W = x := ⟨_, rfl⟩
          have HP3 : Hid (Below W1.heap.size W1 w3) := Lib.hid (by rw [← hw3]; exact p.h)
          rw [hw3] at HF ⊢
          clear hw3 p c0 c1 q9
          go_wp2_with fail
          go_ret
          exact ⟨by rw [HNT.out]; rfl, HF.out⟩
        · have hd1 : ((k : Int) == 0) = false := by rw [beq_eq_false_iff_ne]; omega
          by_cases hu1 : u < 1
          · have hd2 : decide (u < 1) = true := decide_eq_true hu1
            have HNT : Hid (tieB es = false) := Lib.hid (tieB_false (fun h => by have h9 := tie_at h (i + 1) HX.out; have := h9.2.1; simp only at this; omega))
            go_upto_region 5 with fail
            rw [HW1.out]
            refine wp_region_bel (by kernel_rfl) (by kernel_rfl) (WQ.out ?_)
            repeat (
              refine WQ.step (fun K hK => ?_)
              go_simp
              first
                | (refine hK _ ?_; clear hK K)
                | (apply Exists.intro
                   refine ⟨fun _ => ?_, hK _ ?_⟩
                   (first | (go_at_call 28; exact Calls.bel_of (HCM.out _)))
                   clear hK K))
            refine WQ.nil ?_
            rintro W3 ⟨p, rfl⟩
            have HF := Lib.hid (HB3.out.trans (p.h.mono HB3.out.size))
            obtain ⟨w3, hw3⟩ : ∃ x, p.W = x := ⟨_, rfl⟩
            have HP3 : Hid (Below W1.heap.size W1 w3) := Lib.hid (by rw [← hw3]; exact p.h)
            rw [hw3] at HF ⊢
            clear hw3 p c0 c1 q9
            go_wp2_with fail
            go_ret
            exact ⟨by rw [HNT.out]; rfl, HF.out⟩
          · have hd2 : decide (u < 1) = false := decide_eq_false hu1
            by_cases hu2 : 2199023255552 < u
            · have hd3 : decide (2199023255552 < u) = true := decide_eq_true hu2
              have HNT : Hid (tieB es = false) := Lib.hid (tieB_false (fun h => by have h9 := tie_at h (i + 1) HX.out; have := h9.2.2.1; simp only at this; omega))
              go_upto_region 5 with fail
              rw [HW1.out]
              refine wp_region_bel (by kernel_rfl) (by kernel_rfl) (WQ.out ?_)
              repeat (
                refine WQ.step (fun K hK => ?_)
                go_simp
                first
                  | (refine hK _ ?_; clear hK K)
                  | (apply Exists.intro
                     refine ⟨fun _ => ?_, hK _ ?_⟩
                     (first | (go_at_call 28; exact Calls.bel_of (HCM.out _)))
                     clear hK K))
              refine WQ.nil ?_
              rintro W3 ⟨p, rfl⟩
              have HF := Lib.hid (HB3.out.trans (p.h.mono HB3.out.size))
              obtain ⟨w3, hw3⟩ : ∃ x, p.W = x := ⟨_, rfl⟩
              have HP3 : Hid (Below W1.heap.size W1 w3) := Lib.hid (by rw [← hw3]; exact p.h)
              rw [hw3] at HF ⊢
              clear hw3 p c0 c1 q9
              go_wp2_with fail
              go_ret
              exact ⟨by rw [HNT.out]; rfl, HF.out⟩
            · have hd3 : decide (2199023255552 < u) = false := decide_eq_false hu2
              by_cases hcv0 : cv < 0
              · have hd5 : decide (0 ≤ cv) = false := decide_eq_false (by omega)
                have HC : Hid (k ≠ 0 ∧ 1 ≤ u ∧ u ≤ 2199023255552 ∧ ∀ p, (i + 1) = p + 1 → ∀ y, es[p]? = some y → ltS y.1 k = true) := Lib.hid ⟨hk0, by omega, by omega, (fun p hp y hy => by (have hip : i = p := (by omega)); subst hip; rw [HX'.out] at hy; cases hy; rw [HCL.out]; exact decide_eq_true hcv0)⟩
                go_upto_region 5 with fail
                rw [HW1.out]
                refine wp_region_bel (by kernel_rfl) (by kernel_rfl) (WQ.out ?_)
                repeat (
                  refine WQ.step (fun K hK => ?_)
                  go_simp
                  first
                    | (refine hK _ ?_; clear hK K)
                    | (apply Exists.intro
                       refine ⟨fun _ => ?_, hK _ ?_⟩
                       (first | (go_at_call 28; exact Calls.bel_of (HCM.out _)))
                       clear hK K))
                refine WQ.nil ?_
                rintro W3 ⟨p, rfl⟩
                have HF := Lib.hid (HB3.out.trans (p.h.mono HB3.out.size))
                obtain ⟨w3, hw3⟩ : ∃ x, p.W = x := ⟨_, rfl⟩
                have HP3 : Hid (Below W1.heap.size W1 w3) := Lib.hid (by rw [← hw3]; exact p.h)
                rw [hw3] at HF ⊢
                clear hw3 p c0 c1 q9
                go_wp2_with fail
                go_loopw [5] (fun jv wr => ∃ j : Nat, jv = .int .i64 j ∧ j ≤ n ∧ (∀ t y, t < j → t ≠ (i + 1) → es[t]? = some y → withinB y.1 k = true → y.2 < u) ∧ Below W1.heap.size W1 wr) (fun jv _ => n - (intOf jv).toNat)
                case atStart => exact ⟨0, rfl, Nat.zero_le _, (fun t y h => by omega), HP3.out⟩
                case round =>
                  obtain ⟨j, rfl, hj, hall, hBi⟩ := hrel
                  obtain ⟨wi, hwi0⟩ : ∃ x, x = wr := ⟨wr, rfl⟩
                  subst hwi0
                  have HALL := Lib.hid hall
                  have HBI := Lib.hid (HB3.out.trans (hBi.mono HB3.out.size))
                  have HBW := Lib.hid hBi
                  by_cases hlj : j < n
                  · obtain ⟨⟨k2, u2⟩, hy⟩ : ∃ y, es[j]? = some y := ⟨_, List.getElem?_eq_getElem (by rw [HN.out]; exact hlj)⟩
                    obtain ⟨g2, off2, e2, hg2, f2, f3⟩ := HZ.out.at_ hy
                    cases e2
                    have hk2 : okS k2 := HOK.out _ (List.mem_of_getElem? hy)
                    have q0 : ∀ p : BelW wi, p.W.cell? ⟨g, off + j * 2, none⟩ = some (.int .u64 (k2 : Nat)) := fun p => ((HBI.out.trans (p.h.mono HBI.out.size)).cell (p := ⟨g, off + j * 2, none⟩) hg).trans f2
                    have q1 : ∀ p : BelW wi, p.W.cell? ⟨g, off + j * 2 + 1, none⟩ = some (.int .i64 u2) := fun p => ((HBI.out.trans (p.h.mono HBI.out.size)).cell (p := ⟨g, off + j * 2 + 1, none⟩) hg).trans f3
                    have q2 : ∀ p : BelW wi, p.W.cell? ⟨wo.heap.size, 0, none⟩ = some (.int .u64 (k : Nat)) := fun p => HC0.out _ (HBW.out.trans (p.h.mono HBW.out.size))
                    have q3 : ∀ p : BelW wi, p.W.cell? ⟨wo.heap.size, 1, none⟩ = some (.int .i64 u) := fun p => HC1.out _ (HBW.out.trans (p.h.mono HBW.out.size))
                    have HWI := Lib.hid (fun (p : BelW wi) => refWithin_any k2 k p.W hk2 hkok)
                    have b3 : (0 : Int) ≤ j := by omega
                    have b4 : (j : Int) < n := by omega
                    have HY := Lib.hid hy
                    clear hall hBi hy f2 f3
                    by_cases hji : j = (i + 1)
                    · have hd9 : ((j : Int) != ((i : Int) + 1)) = false := by rw [bne_eq_false_iff_eq]; omega
                      have HJI := Lib.hid hji
                      clear hji
                      go_upto_region 10 with fail
                      refine wp_region_bel (by kernel_rfl) (by kernel_rfl) (WQ.out ?_)
                      repeat (
                        refine WQ.step (fun K hK => ?_)
                        go_simp
                        first
                          | (refine hK _ ?_; clear hK K)
                          | (apply Exists.intro
                             refine ⟨fun _ => ?_, hK _ ?_⟩
                             (first | (go_at_call 29; exact Calls.same_of (HWI.out _)))
                             clear hK K))
                      refine WQ.nil ?_
                      rintro W3 ⟨p, rfl⟩
                      have HF := Lib.hid (HBI.out.trans (p.h.mono HBI.out.size))
                      obtain ⟨w3, hw3⟩ : ∃ x, p.W = x := ⟨_, rfl⟩
                      have HP3 : Hid (Below wi.heap.size wi w3) := Lib.hid (by rw [← hw3]; exact p.h)
                      rw [hw3] at HF ⊢
                      clear hw3 p q0 q1 q2 q3
                      go_wp2_with fail
                      go_roundw
                      case rel => exact ⟨j + 1, by go_num, by omega, (fun t y ht hti hy hw => by
                                  rcases Nat.lt_or_ge t j with h' | h'
                                  · exact HALL.out t y h' hti hy hw
                                  · obtain rfl : t = j := by omega
                                    exact absurd HJI.out hti), HBW.out.trans (HP3.out.mono HBW.out.size)⟩
                      case measure => simp [intOf]; omega
                    · have hd9 : ((j : Int) != ((i : Int) + 1)) = true := by rw [bne_iff_ne]; omega
                      have HJI := Lib.hid hji
                      clear hji
                      cases hwb : withinB k2 k with
                      | false =>
                        rw [hwb] at HWI
                        go_upto_region 10 with fail
                        refine wp_region_bel (by kernel_rfl) (by kernel_rfl) (WQ.out ?_)
                        repeat (
                          refine WQ.step (fun K hK => ?_)
                          go_simp
                          first
                            | (refine hK _ ?_; clear hK K)
                            | (apply Exists.intro
                               refine ⟨fun _ => ?_, hK _ ?_⟩
                               (first | (go_at_call 29; exact Calls.same_of (HWI.out _)))
                               clear hK K))
                        refine WQ.nil ?_
                        rintro W3 ⟨p, rfl⟩
                        have HF := Lib.hid (HBI.out.trans (p.h.mono HBI.out.size))
                        obtain ⟨w3, hw3⟩ : ∃ x, p.W = x := ⟨_, rfl⟩
                        have HP3 : Hid (Below wi.heap.size wi w3) := Lib.hid (by rw [← hw3]; exact p.h)
                        rw [hw3] at HF ⊢
                        clear hw3 p q0 q1 q2 q3
                        go_wp2_with fail
                        go_roundw
                        case rel => exact ⟨j + 1, by go_num, by omega, (fun t y ht hti hy hw => by
                                    rcases Nat.lt_or_ge t j with h' | h'
                                    · exact HALL.out t y h' hti hy hw
                                    · obtain rfl : t = j := by omega
                                      rw [HY.out] at hy; cases hy; rw [hwb] at hw; cases hw), HBW.out.trans (HP3.out.mono HBW.out.size)⟩
                        case measure => simp [intOf]; omega
                      | true =>
                        rw [hwb] at HWI
                        by_cases hge : u ≤ u2
                        · have hd8 : decide (u ≤ u2) = true := decide_eq_true hge
                          have HNT : Hid (tieB es = false) := Lib.hid (tieB_false (fun h => by have h9 := (tie_at h (i + 1) HX.out).2.2.2.2 j _ HJI.out HY.out hwb; simp only at h9; omega))
                          go_upto_region 10 with fail
                          refine wp_region_bel (by kernel_rfl) (by kernel_rfl) (WQ.out ?_)
                          repeat (
                            refine WQ.step (fun K hK => ?_)
                            go_simp
                            first
                              | (refine hK _ ?_; clear hK K)
                              | (apply Exists.intro
                                 refine ⟨fun _ => ?_, hK _ ?_⟩
                                 (first | (go_at_call 29; exact Calls.same_of (HWI.out _)))
                                 clear hK K))
                          refine WQ.nil ?_
                          rintro W3 ⟨p, rfl⟩
                          have HF := Lib.hid (HBI.out.trans (p.h.mono HBI.out.size))
                          obtain ⟨w3, hw3⟩ : ∃ x, p.W = x := ⟨_, rfl⟩
                          have HP3 : Hid (Below wi.heap.size wi w3) := Lib.hid (by rw [← hw3]; exact p.h)
                          rw [hw3] at HF ⊢
                          clear hw3 p q0 q1 q2 q3
                          go_wp2_with fail
                          go_ret
                          exact ⟨by rw [HNT.out]; rfl, HF.out⟩
                        · have hd8 : decide (u ≤ u2) = false := decide_eq_false hge
                          go_upto_region 10 with fail
                          refine wp_region_bel (by kernel_rfl) (by kernel_rfl) (WQ.out ?_)
                          repeat (
                            refine WQ.step (fun K hK => ?_)
                            go_simp
                            first
                              | (refine hK _ ?_; clear hK K)
                              | (apply Exists.intro
                                 refine ⟨fun _ => ?_, hK _ ?_⟩
                                 (first | (go_at_call 29; exact Calls.same_of (HWI.out _)))
                                 clear hK K))
                          refine WQ.nil ?_
                          rintro W3 ⟨p, rfl⟩
                          have HF := Lib.hid (HBI.out.trans (p.h.mono HBI.out.size))
                          obtain ⟨w3, hw3⟩ : ∃ x, p.W = x := ⟨_, rfl⟩
                          have HP3 : Hid (Below wi.heap.size wi w3) := Lib.hid (by rw [← hw3]; exact p.h)
                          rw [hw3] at HF ⊢
                          clear hw3 p q0 q1 q2 q3
                          go_wp2_with fail
                          go_roundw
                          case rel => exact ⟨j + 1, by go_num, by omega, (fun t y ht hti hy hw => by
                                      rcases Nat.lt_or_ge t j with h' | h'
                                      · exact HALL.out t y h' hti hy hw
                                      · obtain rfl : t = j := by omega
                                        rw [HY.out] at hy; cases hy; simp only; omega), HBW.out.trans (HP3.out.mono HBW.out.size)⟩
                          case measure => simp [intOf]; omega
                  · obtain rfl : j = n := by omega
                    clear hall hBi
                    go_wp2_with fail
                    go_roundw
                    case rel => exact ⟨(i + 1) + 1, by go_num, by omega, (fun t ht => by
                      rcases Nat.lt_or_ge t (i + 1) with h' | h'
                      · exact HPRE.out t h'
                      · obtain rfl : t = (i + 1) := by omega
                        intro x hx
                        rw [HX.out] at hx
                        cases hx
                        exact ⟨HC.out.1, HC.out.2.1, HC.out.2.2.1, HC.out.2.2.2, fun t y hti hy hw => HALL.out t y (by have := (List.getElem?_eq_some_iff.1 hy).1; have := HN.out; omega) hti hy hw⟩), HBI.out⟩
                    case measure => simp [intOf]; omega
                
              · have hd5 : decide (0 ≤ cv) = true := decide_eq_true (by omega)
                have HNT : Hid (tieB es = false) := Lib.hid (tieB_false (fun h => by have h9 := (tie_at h (i + 1) HX.out).2.2.2.1 i rfl _ HX'.out; simp only at h9; rw [HCL.out, decide_eq_false hcv0] at h9; cases h9))
                go_upto_region 5 with fail
                rw [HW1.out]
                refine wp_region_bel (by kernel_rfl) (by kernel_rfl) (WQ.out ?_)
                repeat (
                  refine WQ.step (fun K hK => ?_)
                  go_simp
                  first
                    | (refine hK _ ?_; clear hK K)
                    | (apply Exists.intro
                       refine ⟨fun _ => ?_, hK _ ?_⟩
                       (first | (go_at_call 28; exact Calls.bel_of (HCM.out _)))
                       clear hK K))
                refine WQ.nil ?_
                rintro W3 ⟨p, rfl⟩
                have HF := Lib.hid (HB3.out.trans (p.h.mono HB3.out.size))
                obtain ⟨w3, hw3⟩ : ∃ x, p.W = x := ⟨_, rfl⟩
                have HP3 : Hid (Below W1.heap.size W1 w3) := Lib.hid (by rw [← hw3]; exact p.h)
                rw [hw3] at HF ⊢
                clear hw3 p c0 c1 q9
                go_wp2_with fail
                go_ret
                exact ⟨by rw [HNT.out]; rfl, HF.out⟩
    · obtain rfl : i = n := by omega
      have htt : tieB es = true := tieB_true (tie_of_at HOK.out (by rw [HN.out]; exact hpre))
      have HTT := Lib.hid htt
      clear hB hpre htt
      go_wp2_with fail
      go_ret
      exact ⟨by rw [HTT.out]; rfl, HB.out⟩
end Go.Proofs.Ytpcbdjdmhemjdaa
