/- Whether two rows of entries are the same: the document's Same, and slices.Equal. Written by tools/gen_prit.py. -/
import Derived.Test.YtpcbdjdmhemjdaaPriJ
namespace Go.Proofs.Ytpcbdjdmhemjdaa
open Go.RowKit
set_option linter.unusedVariables false
attribute [local go_sem] Oper.semAt_some
theorem take_same {l l' : List Ent} {m : Nat} {x : Ent} (h : l.take m = l'.take m) (h1 : l[m]? = some x) (h2 : l'[m]? = some x) : l.take (m + 1) = l'.take (m + 1) := by
  rw [take_snoc h1, take_snoc h2, h]

set_option maxRecDepth 100000 in
set_option maxHeartbeats 4000000 in
theorem refSame2_any (a a' : Option Addr) (n n' c c' : Nat) (l l' : List Ent) (hl : l.length ≤ 1073741824) (hl' : l'.length ≤ 1073741824) (w : World) (hs : EnsP w.heap.size w (.slice a n c) l) (hs' : EnsP w.heap.size w (.slice a' n' c') l') :
    Calls Try.prog 10 #[.slice a n c, .slice a' n' c'] w fun e w' => e = .returned (.bool (decide (l = l'))) ∧ Below w.heap.size w w' := by
  have hn := hs.len
  have hn' := hs'.len
  have HS := Lib.hid hs
  have HS' := Lib.hid hs'
  have hnb : n ≤ 1073741824 := by omega
  have hnb' : n' ≤ 1073741824 := by omega
  by_cases hnn : n = n'
  · subst hnn
    have HN := Lib.hid hn.symm
    have HN' := Lib.hid hn'.symm
    obtain ⟨r, hr⟩ : ∃ r, decide (l = l') = r := ⟨_, rfl⟩
    rw [hr]
    have HR := Lib.hid hr
    clear hs hs' hn hn' hr hl hl'
    go_enter Try.func10, Try.ntmps10
    go_wp2
    go_loopw [5] (fun i wr => ∃ m : Nat, i = .int .i64 m ∧ m ≤ n ∧ l.take m = l'.take m ∧ Below w.heap.size w wr) (fun i _ => n - (intOf i).toNat)
    case atStart => exact ⟨0, rfl, Nat.zero_le _, rfl, Below.refl _ _⟩
    case round =>
      obtain ⟨m, rfl, hm, htk, hB⟩ := hrel
      have HB := Lib.hid hB
      by_cases hlt : m < n
      · obtain ⟨⟨y, z⟩, hy⟩ : ∃ y, l[m]? = some y := ⟨_, List.getElem?_eq_getElem (by rw [HN.out]; exact hlt)⟩
        obtain ⟨⟨y', z'⟩, hy'⟩ : ∃ y, l'[m]? = some y := ⟨_, List.getElem?_eq_getElem (by rw [HN'.out]; exact hlt)⟩
        obtain ⟨g, off, rfl, hg, f0, f1⟩ := HS.out.at_ hy
        obtain ⟨g', off', rfl, hg', f0', f1'⟩ := HS'.out.at_ hy'
        have d0 := (hB.cell (p := ⟨g, off + m * 2, none⟩) hg).trans f0
        have d1 := (hB.cell (p := ⟨g, off + m * 2 + 1, none⟩) hg).trans f1
        have d2 := (hB.cell (p := ⟨g', off' + m * 2, none⟩) hg').trans f0'
        have d3 := (hB.cell (p := ⟨g', off' + m * 2 + 1, none⟩) hg').trans f1'
        simp only at d0 d1 d2 d3
        have b1 : (0 : Int) ≤ m := by omega
        have b2 : (m : Int) < n := by omega
        have HB2 : ∀ nq, Hid (Below w.heap.size w (wr.drewN nq)) := fun nq => Lib.hid ⟨HB.out.os, HB.out.tape, HB.out.output, HB.out.size, HB.out.block⟩
        by_cases hyz : ((y, z) : Ent) = (y', z')
        · cases hyz
          have HTK := Lib.hid (take_same htk hy hy')
          clear hB hy hy' f0 f1 f0' f1' htk
          go_upto_region 6 with fail
          go_quiet (fail)
          have HB3 := HB2 nq
          obtain ⟨wq, hq⟩ : ∃ wq, wr.drewN nq = wq := ⟨_, rfl⟩
          rw [hq] at HB3 ⊢
          clear hq d0 d1 d2 d3 HB2
          go_wp2
          go_roundw
          case rel => exact ⟨m + 1, by go_num, by omega, HTK.out, HB3.out⟩
          case measure => simp [intOf]; omega
        · have hrf : r = false := by
            rw [← HR.out]
            refine decide_eq_false (fun e => hyz ?_)
            rw [e, hy'] at hy
            exact (Option.some.inj hy).symm
          subst hrf
          clear hB hy hy' f0 f1 f0' f1' htk
          by_cases hk : y = y'
          · subst hk
            have hz : ¬ z = z' := fun e => hyz (by rw [e])
            have hz1 : (z == z') = false := beq_eq_false_iff_ne.2 hz
            have hz2 : (z != z') = true := by simp [hz]
            have hz3 : decide (z = z') = false := decide_eq_false hz
            clear hyz
            go_upto_region 6 with fail
            go_quiet (fail)
            have HB3 := HB2 nq
            obtain ⟨wq, hq⟩ : ∃ wq, wr.drewN nq = wq := ⟨_, rfl⟩
            rw [hq] at HB3 ⊢
            clear hq d0 d1 d2 d3 HB2
            go_wp2
            go_ret
            exact ⟨rfl, HB3.out⟩
          · have hk0 : ¬ (y : Int) = (y' : Int) := by omega
            have hk1 : ((y : Int) == (y' : Int)) = false := beq_eq_false_iff_ne.2 hk0
            have hk2 : ((y : Int) != (y' : Int)) = true := by rw [bne_iff_ne]; exact hk0
            have hk3 : decide ((y : Int) = (y' : Int)) = false := decide_eq_false hk0
            clear hyz
            go_upto_region 6 with fail
            go_quiet (fail)
            have HB3 := HB2 nq
            obtain ⟨wq, hq⟩ : ∃ wq, wr.drewN nq = wq := ⟨_, rfl⟩
            rw [hq] at HB3 ⊢
            clear hq d0 d1 d2 d3 HB2
            go_wp2
            go_ret
            exact ⟨rfl, HB3.out⟩
      · obtain rfl : m = n := by omega
        have hrt : r = true := by
          rw [← HR.out]
          refine decide_eq_true ?_
          rw [List.take_of_length_le (by rw [HN.out]; exact Nat.le_refl _), List.take_of_length_le (by rw [HN'.out]; exact Nat.le_refl _)] at htk
          exact htk
        subst hrt
        clear hB htk
        go_wp2
        go_ret
        exact ⟨rfl, HB.out⟩
  · have hd : decide (l = l') = false := decide_eq_false (fun e => hnn (by rw [hn, hn', e]))
    rw [hd]
    have b0 : ((n : Int) != (n' : Int)) = true := by rw [bne_iff_ne]; omega
    clear hs hs' hn hn' hl hl' HS HS' hd
    go_enter Try.func10, Try.ntmps10
    go_wp2
    go_ret
    exact ⟨rfl, Below.refl _ _⟩

set_option maxRecDepth 100000 in
set_option maxHeartbeats 4000000 in
theorem slEqual_any (a a' : Option Addr) (n n' c c' : Nat) (l l' : List Ent) (hl : l.length ≤ 1073741824) (hl' : l'.length ≤ 1073741824) (w : World) (hs : EnsP w.heap.size w (.slice a n c) l) (hs' : EnsP w.heap.size w (.slice a' n' c') l') :
    Calls Try.prog 34 #[.slice a n c, .slice a' n' c'] w fun e w' => e = .returned (.bool (decide (l = l'))) ∧ Below w.heap.size w w' := by
  have hn := hs.len
  have hn' := hs'.len
  have HS := Lib.hid hs
  have HS' := Lib.hid hs'
  have hnb : n ≤ 1073741824 := by omega
  have hnb' : n' ≤ 1073741824 := by omega
  by_cases hnn : n = n'
  · subst hnn
    have HN := Lib.hid hn.symm
    have HN' := Lib.hid hn'.symm
    obtain ⟨r, hr⟩ : ∃ r, decide (l = l') = r := ⟨_, rfl⟩
    rw [hr]
    have HR := Lib.hid hr
    clear hs hs' hn hn' hr hl hl'
    go_enter Try.func34, Try.ntmps34
    go_wp2
    go_loopw [13] (fun i wr => ∃ m : Nat, i = .int .i64 m ∧ m ≤ n ∧ l.take m = l'.take m ∧ Below w.heap.size w wr) (fun i _ => n - (intOf i).toNat)
    case atStart => exact ⟨0, rfl, Nat.zero_le _, rfl, Below.refl _ _⟩
    case round =>
      obtain ⟨m, rfl, hm, htk, hB⟩ := hrel
      have HB := Lib.hid hB
      by_cases hlt : m < n
      · obtain ⟨⟨y, z⟩, hy⟩ : ∃ y, l[m]? = some y := ⟨_, List.getElem?_eq_getElem (by rw [HN.out]; exact hlt)⟩
        obtain ⟨⟨y', z'⟩, hy'⟩ : ∃ y, l'[m]? = some y := ⟨_, List.getElem?_eq_getElem (by rw [HN'.out]; exact hlt)⟩
        obtain ⟨g, off, rfl, hg, f0, f1⟩ := HS.out.at_ hy
        obtain ⟨g', off', rfl, hg', f0', f1'⟩ := HS'.out.at_ hy'
        have d0 := (hB.cell (p := ⟨g, off + m * 2, none⟩) hg).trans f0
        have d1 := (hB.cell (p := ⟨g, off + m * 2 + 1, none⟩) hg).trans f1
        have d2 := (hB.cell (p := ⟨g', off' + m * 2, none⟩) hg').trans f0'
        have d3 := (hB.cell (p := ⟨g', off' + m * 2 + 1, none⟩) hg').trans f1'
        simp only at d0 d1 d2 d3
        have b1 : (0 : Int) ≤ m := by omega
        have b2 : (m : Int) < n := by omega
        have HB2 : ∀ nq, Hid (Below w.heap.size w (wr.drewN nq)) := fun nq => Lib.hid ⟨HB.out.os, HB.out.tape, HB.out.output, HB.out.size, HB.out.block⟩
        by_cases hyz : ((y, z) : Ent) = (y', z')
        · cases hyz
          have HTK := Lib.hid (take_same htk hy hy')
          clear hB hy hy' f0 f1 f0' f1' htk
          go_upto_region 6 with fail
          go_quiet (fail)
          have HB3 := HB2 nq
          obtain ⟨wq, hq⟩ : ∃ wq, wr.drewN nq = wq := ⟨_, rfl⟩
          rw [hq] at HB3 ⊢
          clear hq d0 d1 d2 d3 HB2
          go_wp2
          go_roundw
          case rel => exact ⟨m + 1, by go_num, by omega, HTK.out, HB3.out⟩
          case measure => simp [intOf]; omega
        · have hrf : r = false := by
            rw [← HR.out]
            refine decide_eq_false (fun e => hyz ?_)
            rw [e, hy'] at hy
            exact (Option.some.inj hy).symm
          subst hrf
          clear hB hy hy' f0 f1 f0' f1' htk
          by_cases hk : y = y'
          · subst hk
            have hz : ¬ z = z' := fun e => hyz (by rw [e])
            have hz1 : (z == z') = false := beq_eq_false_iff_ne.2 hz
            have hz2 : (z != z') = true := by simp [hz]
            have hz3 : decide (z = z') = false := decide_eq_false hz
            clear hyz
            go_upto_region 6 with fail
            go_quiet (fail)
            have HB3 := HB2 nq
            obtain ⟨wq, hq⟩ : ∃ wq, wr.drewN nq = wq := ⟨_, rfl⟩
            rw [hq] at HB3 ⊢
            clear hq d0 d1 d2 d3 HB2
            go_wp2
            go_ret
            exact ⟨rfl, HB3.out⟩
          · have hk0 : ¬ (y : Int) = (y' : Int) := by omega
            have hk1 : ((y : Int) == (y' : Int)) = false := beq_eq_false_iff_ne.2 hk0
            have hk2 : ((y : Int) != (y' : Int)) = true := by rw [bne_iff_ne]; exact hk0
            have hk3 : decide ((y : Int) = (y' : Int)) = false := decide_eq_false hk0
            clear hyz
            go_upto_region 6 with fail
            go_quiet (fail)
            have HB3 := HB2 nq
            obtain ⟨wq, hq⟩ : ∃ wq, wr.drewN nq = wq := ⟨_, rfl⟩
            rw [hq] at HB3 ⊢
            clear hq d0 d1 d2 d3 HB2
            go_wp2
            go_ret
            exact ⟨rfl, HB3.out⟩
      · obtain rfl : m = n := by omega
        have hrt : r = true := by
          rw [← HR.out]
          refine decide_eq_true ?_
          rw [List.take_of_length_le (by rw [HN.out]; exact Nat.le_refl _), List.take_of_length_le (by rw [HN'.out]; exact Nat.le_refl _)] at htk
          exact htk
        subst hrt
        clear hB htk
        go_wp2
        go_ret
        exact ⟨rfl, HB.out⟩
  · have hd : decide (l = l') = false := decide_eq_false (fun e => hnn (by rw [hn, hn', e]))
    rw [hd]
    have b0 : ((n : Int) != (n' : Int)) = true := by rw [bne_iff_ne]; omega
    clear hs hs' hn hn' hl hl' HS HS' hd
    go_enter Try.func34, Try.ntmps34
    go_wp2
    go_ret
    exact ⟨rfl, Below.refl _ _⟩
end Go.Proofs.Ytpcbdjdmhemjdaa
