/- For whatever row of entries and whatever two sets law PriceGrows answers true: for a set no less is asked than for what lies within it, and what is asked never falls. No condition. -/
import Derived.Test.YtpcbdjdmhemjdaaPriZ
import Derived.Test.YtpcbdjdmhemjdaaOpenEn
namespace Go.Proofs.Ytpcbdjdmhemjdaa.priceGrows
open Go.ChangeShapes Go.WideShapes Go.ChangeAt Go.RowKit Go.Proofs.Ytpcbdjdmhemjdaa
set_option linter.unusedVariables false
attribute [local go_sem] Oper.semAt_some
theorem ask_sub (L : List Ent) (s t : Nat) : askL withinB L (s &&& t) ≤ askL withinB L s ∧ askL withinB L (s &&& t) ≤ askL withinB L t := by
  refine ⟨askL_le (askL_nonneg _ _) (fun x hx hw => askL_ge hx (sOrd.wtrans _ _ _ hw (within_and s t))), askL_le (askL_nonneg _ _) (fun x hx hw => askL_ge hx (sOrd.wtrans _ _ _ hw ?_))⟩
  rw [Nat.and_comm]; exact within_and t s
theorem ask_nought {L : List Ent} (ht : Tie L) : askL withinB L 0 = 0 := by
  refine Int.le_antisymm (askL_le (Int.le_refl _) (fun x hx hw => ?_)) (askL_nonneg _ _)
  exfalso
  have h3 := and_within (ht.right x hx).1 hw
  rw [Nat.zero_and] at h3
  exact (ht.right x hx).2.1 h3.symm

set_option maxRecDepth 100000 in
set_option maxHeartbeats 16000000 in
theorem walk (w : World) (p0 : Option Addr) (n0 c0 : Nat) (l0 : List Ent) (S0 : EnsP w.heap.size w (.slice p0 n0 c0) l0) (b0 : (∀ x ∈ l0, okS x.1 ∧ In64 x.2) ∧ l0.length ≤ Go.maxLen) (a1 : Int) (w1 : (Lit.int .u64 a1).wf = true) (a2 : Int) (w2 : (Lit.int .u64 a2).wf = true) :
    Calls Try.prog 4 #[.slice p0 n0 c0, .int .u64 a1, .int .u64 a2] w fun e w' => e = .returned (.bool true) ∧ Below w.heap.size w w' := by
  obtain ⟨s, rfl, hs⟩ := u64_bd w1
  obtain ⟨t, rfl, ht⟩ := u64_bd w2
  have hn := S0.len
  have HAL := Lib.hid (fun W => priceAlive_any W)
  have HOK : Hid (∀ x ∈ l0, okS x.1) := Lib.hid (fun x hx => (b0.1 x hx).1)
  have HN := Lib.hid hn.symm
  have HZ := Lib.hid S0
  have hand := u64_and_nat s t hs ht
  have hst : okS (s &&& t) := by have h1 : s &&& t ≤ s := Nat.and_le_left; unfold okS; have : s < 18446744073709551616 := hs; omega
  clear S0 b0 hn w1 w2
  by_cases h60 : 60 < n0
  · have g0 : decide ((60 : Int) < (n0 : Int)) = true := decide_eq_true (by omega)
    go_enter Try.func4, Try.ntmps4
    go_wp2_with (go_at_call 8; refine (HAL.out _).mono ?_; rintro e w2 ⟨rfl, hb2⟩; have HB2 := Lib.hid hb2; clear hb2)
    go_ret
    exact ⟨rfl, HB2.out⟩
  have g0 : decide ((60 : Int) < (n0 : Int)) = false := decide_eq_false (by omega)
  have hn0 : n0 ≤ 60 := by omega
  clear h60
  go_enter Try.func4, Try.ntmps4
  go_wp2_with (go_at_call 8; refine (HAL.out _).mono ?_; rintro e w2 ⟨rfl, hb2⟩; have HB2 := Lib.hid hb2; clear hb2)
  obtain ⟨w3, hw3⟩ : ∃ x, w2.alloc (.cells #[.slice none 0 0] 39) = x := ⟨_, rfl⟩
  have hnew : w3.heap[w2.heap.size]? = some (.cells #[.slice none 0 0] 39) := by rw [← hw3]; exact World.alloc_heap_new w2 _
  have hb23 : Below w2.heap.size w2 w3 := by rw [← hw3]; exact (Below.refl _ _).alloc (Nat.le_refl _) _
  have h3 : PS w3 w2.heap.size (.slice none 0 0) [] := ⟨hnew, .inl ⟨rfl, _, _, rfl⟩, (fun _ _ _ => rfl), tight_nil⟩
  have HB3 : Hid (Below w.heap.size w w3) := Lib.hid (HB2.out.trans (hb23.mono HB2.out.size))
  have HW2 := Lib.hid HB2.out.size
  obtain ⟨pb, hpb⟩ : ∃ pb, w2.heap.size = pb := ⟨_, rfl⟩
  rw [hpb] at h3 HW2 ⊢
  rw [hw3]
  have H3 := Lib.hid h3
  clear hnew hb23 h3 hpb hw3
  go_loopw [8, 21] (fun v i wr => ∃ (m : Nat) (sv : Value), v = .int .i64 (askL withinB (ofP (l0.take m)) s) ∧ i = .int .i64 m ∧ m ≤ n0 ∧ PS wr pb sv (ofP (l0.take m)) ∧ Below w.heap.size w wr) (fun _ i _ => n0 - (intOf i).toNat)
  case atStart => exact ⟨0, _, rfl, rfl, Nat.zero_le _, H3.out, HB3.out⟩
  case round =>
    obtain ⟨m, sv, rfl, rfl, hm, hP, hB⟩ := hrel
    obtain ⟨wo, hwo⟩ : ∃ x, x = wr := ⟨wr, rfl⟩
    subst hwo
    have hti : Tie (ofP (l0.take m)) := of_tie (fun x hx' => HOK.out x (List.mem_of_mem_take hx'))
    by_cases hlt : m < n0
    · obtain ⟨⟨k, u⟩, hx⟩ : ∃ x, l0[m]? = some x := ⟨_, List.getElem?_eq_getElem (by rw [HN.out]; exact hlt)⟩
      obtain ⟨g, off, rfl, hg, f0, f1⟩ := HZ.out.at_ hx
      have hkok : okS k := HOK.out _ (List.mem_of_getElem? hx)
      have d0 := (hB.cell (p := ⟨g, off + m * 2, none⟩) hg).trans f0
      have d1 := (hB.cell (p := ⟨g, off + m * 2 + 1, none⟩) hg).trans f1
      simp only at d0 d1
      have b1 : (0 : Int) ≤ m := by omega
      have b2 : (m : Int) < n0 := by omega
      have hal : (ofP (l0.take m)).length ≤ m := of_len m l0 (by rw [HN.out]; omega)
      have hst1 := of_take hx
      obtain ⟨acc, hacc⟩ : ∃ acc, ofP (l0.take m) = acc := ⟨_, rfl⟩
      rw [hacc] at hst1 hal hti hP ⊢
      have hl2 := put_len acc (k, u)
      obtain ⟨ac2, hac2⟩ : ∃ x, putP acc (k, u) = x := ⟨_, rfl⟩
      have hap : ∀ q, askL withinB ac2 q = if risesP acc (k, u) = true ∧ withinB k q = true then max (askL withinB acc q) u else askL withinB acc q := fun q => by rw [← hac2]; exact ask_put sOrd (es := acc) (e := (k, u)) q
      have hge : askL withinB acc s ≤ askL withinB ac2 s := by rw [hap]; split <;> omega
      have hsub := ask_sub ac2 s t
      rw [hac2] at hl2
      rw [hac2] at hst1
      obtain ⟨W1, hW1⟩ : ∃ W1, wo.alloc (.cells #[.int .u64 (k : Nat), .int .i64 u] 41) = W1 := ⟨_, rfl⟩
      have hb01 : Below wo.heap.size wo W1 := by rw [← hW1]; exact (Below.refl _ _).alloc (Nat.le_refl _) _
      have hnew : W1.heap[wo.heap.size]? = some (.cells #[.int .u64 (k : Nat), .int .i64 u] 41) := by rw [← hW1]; exact World.alloc_heap_new wo _
      have hlt1 : wo.heap.size < W1.heap.size := (Array.getElem?_eq_some_iff.1 hnew).1
      have hne : wo.heap.size ≠ pb := by have := hP.lt; omega
      have c0 : W1.cell? ⟨wo.heap.size, 0, none⟩ = some (.int .u64 (k : Nat)) := cell_of_row W1 _ 0 _ _ _ hnew
      have HC : Hid (∀ W, But [pb] W1 W → W.cell? ⟨wo.heap.size, 0, none⟩ = some (.int .u64 (k : Nat)) ∧ W.cell? ⟨wo.heap.size, 1, none⟩ = some (.int .i64 u)) := Lib.hid (fun W hb => by
        have hk := (hb.block _ hlt1 (by simpa using hne)).trans hnew
        exact ⟨cell_of_row W _ 0 _ _ _ hk, cell_of_row W _ 1 _ _ _ hk⟩)
      have hp1 := hP.below hb01
      have HP1 := Lib.hid hp1
      have HW1 := Lib.hid hW1
      have HB1' : Hid (Below w.heap.size w W1) := Lib.hid (hB.trans (hb01.mono hB.size))
      have HA1 := Lib.hid (ask_any k W1 hp1 hkok (by omega))
      have HPU := Lib.hid (fun (W : World) (hW : PS W pb sv acc) => put_any (k, u) W hW hkok (by omega))
      simp only at HPU
      rw [hac2] at HPU
      have HASK := Lib.hid (fun (W : World) (sv' : Value) (q : Nat) (hq : okS q) (hW : PS W pb sv' ac2) => ask_any q W hW hq (by omega))
      have HST1 := Lib.hid hst1
      have HAP := Lib.hid hap
      clear hB hP f0 f1 hx hst1 hW1 hb01 hnew hlt1 hne hp1 hacc hac2 hti hl2 hal hap
      obtain ⟨va, hva⟩ : ∃ v, askL withinB acc k = v := ⟨_, rfl⟩
      obtain ⟨ls, hls⟩ : ∃ v, askL withinB acc s = v := ⟨_, rfl⟩
      obtain ⟨vs, hvs⟩ : ∃ v, askL withinB ac2 s = v := ⟨_, rfl⟩
      obtain ⟨vt, hvt⟩ : ∃ v, askL withinB ac2 t = v := ⟨_, rfl⟩
      obtain ⟨vst, hvst⟩ : ∃ v, askL withinB ac2 (s &&& t) = v := ⟨_, rfl⟩
      obtain ⟨st, hstq⟩ : ∃ v, s &&& t = v := ⟨_, rfl⟩
      have hown : askL withinB ac2 k = if risesP acc (k, u) = true then u else va := by
        rw [HAP.out k, hva, sOrd.refl k]
        by_cases hr : risesP acc (k, u) = true
        · rw [if_pos ⟨hr, rfl⟩, if_pos hr]
          have hr2 : (decide (k ≠ 0) && decide (u ≤ 2199023255552) && decide (askL withinB acc k < u)) = true := hr
          simp only [Bool.and_eq_true, decide_eq_true_eq] at hr2
          rw [hva] at hr2
          omega
        · rw [if_neg (fun h => hr h.1), if_neg hr]
      have hrl : risesP acc (k, u) = true → va < u := fun hr => by
        have hr2 : (decide (k ≠ 0) && decide (u ≤ 2199023255552) && decide (askL withinB acc k < u)) = true := hr
        simp only [Bool.and_eq_true, decide_eq_true_eq] at hr2
        rw [hva] at hr2
        exact hr2.2
      rw [hls] at hge ⊢
      rw [hva] at HA1
      rw [hvs] at hge
      rw [hstq] at hvst
      rw [hvs, hvt, hstq, hvst] at hsub
      have HSK : Hid (∀ (W : World) (sv' : Value), PS W pb sv' ac2 → Calls Try.prog 15 #[.pointer (some ⟨pb, 0, none⟩), .int .u64 (s : Nat)] W fun o w' => o = .returned (.int .i64 vs) ∧ Below W.heap.size W w') := Lib.hid (fun W sv' hW => by rw [← hvs]; exact HASK.out W sv' s hs hW)
      have HTK : Hid (∀ (W : World) (sv' : Value), PS W pb sv' ac2 → Calls Try.prog 15 #[.pointer (some ⟨pb, 0, none⟩), .int .u64 (t : Nat)] W fun o w' => o = .returned (.int .i64 vt) ∧ Below W.heap.size W w') := Lib.hid (fun W sv' hW => by rw [← hvt]; exact HASK.out W sv' t ht hW)
      have HSTK : Hid (∀ (W : World) (sv' : Value), PS W pb sv' ac2 → Calls Try.prog 15 #[.pointer (some ⟨pb, 0, none⟩), .int .u64 (st : Nat)] W fun o w' => o = .returned (.int .i64 vst) ∧ Below W.heap.size W w') := Lib.hid (fun W sv' hW => by rw [← hvst, ← hstq]; exact HASK.out W sv' (s &&& t) hst hW)
      have hand2 : bits .and .u64 (s : Int) (t : Int) = ((st : Nat) : Int) := by rw [hand, hstq]
      have HVS := Lib.hid hvs
      have c9 : decide (vs < ls) = false := decide_eq_false (by omega)
      have c8 : decide (vs < vst) = false := decide_eq_false (by omega)
      have c7 : decide (vt < vst) = false := decide_eq_false (by omega)
      clear hge hsub hvs hvt hvst hstq hls hand
      go_upto_region 10 with fail
      rw [HW1.out]
      go_wp2_with fail
      refine HA1.out.mono ?_
      rintro o y2 ⟨rfl, hz1⟩
      have hy2 : But [pb] W1 y2 := But.of_below hz1
      obtain ⟨e0, e1⟩ := HC.out y2 hy2
      have HP2 := Lib.hid (HP1.out.below hz1)
      have HPU2 := Lib.hid (HPU.out y2 HP2.out)
      have HY2 := Lib.hid hy2
      clear hz1 hy2 c0
      cases hr : risesP acc (k, u) with
      | true =>
        rw [hr] at HPU2
        rw [hr, if_pos rfl] at hown
        have hlu := hrl hr
        have HK : Hid (∀ (W : World) (sv' : Value), PS W pb sv' ac2 → Calls Try.prog 15 #[.pointer (some ⟨pb, 0, none⟩), .int .u64 (k : Nat)] W fun o w' => o = .returned (.int .i64 u) ∧ Below W.heap.size W w') := Lib.hid (fun W sv' hW => by rw [← hown]; exact HASK.out W sv' k hkok hW)
        have g1 : (u != u) = false := by simp
        have g2 : decide (u ≤ va) = false := decide_eq_false (by omega)
        clear hown hrl
        go_wp2_with fail
        refine HPU2.out.mono ?_
        rintro o y3 ⟨rfl, s3, hp3, hz2⟩
        have hy3 : But [pb] W1 y3 := HY2.out.trans' hz2
        obtain ⟨e2, e3⟩ := HC.out y3 hy3
        have HP3 := Lib.hid hp3
        have HY3 := Lib.hid hy3
        have HK3 := Lib.hid (HK.out y3 s3 hp3)
        clear hz2 hy3 hp3 e0 e1
        go_wp2_with fail
        refine HK3.out.mono ?_
        rintro o y4 ⟨rfl, hz3⟩
        have hy4 : But [pb] W1 y4 := HY3.out.trans' (But.of_below hz3)
        obtain ⟨e4, e5⟩ := HC.out y4 hy4
        have HP4 := Lib.hid (HP3.out.below hz3)
        have HY4 := Lib.hid hy4
        have HK4 := Lib.hid (HSK.out y4 s3 HP4.out)
        clear hz3 hy4 e2 e3
        go_wp2_with fail
        refine HK4.out.mono ?_
        rintro o y5 ⟨rfl, hz4⟩
        have HP5 := Lib.hid (HP4.out.below hz4)
        have HY5 := Lib.hid (HY4.out.trans' (But.of_below hz4))
        have HK5 := Lib.hid (HSTK.out y5 s3 HP5.out)
        clear hz4 e4 e5
        go_wp2_with fail
        refine HK5.out.mono ?_
        rintro o y6 ⟨rfl, hz5⟩
        have HP6 := Lib.hid (HP5.out.below hz5)
        have HY6 := Lib.hid (HY5.out.trans' (But.of_below hz5))
        have HK6 := Lib.hid (HSK.out y6 s3 HP6.out)
        clear hz5
        go_wp2_with fail
        refine HK6.out.mono ?_
        rintro o y7 ⟨rfl, hz6⟩
        have HP7 := Lib.hid (HP6.out.below hz6)
        have HY7 := Lib.hid (HY6.out.trans' (But.of_below hz6))
        have HK7 := Lib.hid (HSTK.out y7 s3 HP7.out)
        clear hz6
        go_wp2_with fail
        refine HK7.out.mono ?_
        rintro o y8 ⟨rfl, hz7⟩
        have HP8 := Lib.hid (HP7.out.below hz7)
        have HY8 := Lib.hid (HY7.out.trans' (But.of_below hz7))
        have HK8 := Lib.hid (HTK.out y8 s3 HP8.out)
        clear hz7
        go_wp2_with fail
        refine HK8.out.mono ?_
        rintro o y9 ⟨rfl, hz8⟩
        have HP9 := Lib.hid (HP8.out.below hz8)
        have HY9 := Lib.hid (HY8.out.trans' (But.of_below hz8))
        have HK9 := Lib.hid (HSK.out y9 s3 HP9.out)
        clear hz8
        go_wp2_with fail
        refine HK9.out.mono ?_
        rintro o y10 ⟨rfl, hz9⟩
        have HP10 := Lib.hid (HP9.out.below hz9)
        have HY10 := Lib.hid (HY9.out.trans' (But.of_below hz9))
        clear hz9
        go_wp2_with fail
        go_roundw
        case rel => exact ⟨m + 1, s3, by rw [HST1.out, HVS.out], by go_num, by omega, by rw [HST1.out]; exact HP10.out, HB1'.out.trans (HY10.out.below (fun j hj => by simp at hj; rw [hj]; exact HW2.out) HB1'.out.size)⟩
        case measure => simp [intOf]; omega
      | false =>
        rw [hr] at HPU2
        rw [hr, if_neg (by decide)] at hown
        have HK : Hid (∀ (W : World) (sv' : Value), PS W pb sv' ac2 → Calls Try.prog 15 #[.pointer (some ⟨pb, 0, none⟩), .int .u64 (k : Nat)] W fun o w' => o = .returned (.int .i64 va) ∧ Below W.heap.size W w') := Lib.hid (fun W sv' hW => by rw [← hown]; exact HASK.out W sv' k hkok hW)
        have g1 : (va != va) = false := by simp
        clear hown hrl
        go_wp2_with fail
        refine HPU2.out.mono ?_
        rintro o y3 ⟨rfl, s3, hp3, hz2⟩
        have hy3 : But [pb] W1 y3 := HY2.out.trans' hz2
        obtain ⟨e2, e3⟩ := HC.out y3 hy3
        have HP3 := Lib.hid hp3
        have HY3 := Lib.hid hy3
        have HK3 := Lib.hid (HK.out y3 s3 hp3)
        clear hz2 hy3 hp3 e0 e1
        go_wp2_with fail
        refine HK3.out.mono ?_
        rintro o y4 ⟨rfl, hz3⟩
        have hy4 : But [pb] W1 y4 := HY3.out.trans' (But.of_below hz3)
        obtain ⟨e4, e5⟩ := HC.out y4 hy4
        have HP4 := Lib.hid (HP3.out.below hz3)
        have HY4 := Lib.hid hy4
        have HK4 := Lib.hid (HSK.out y4 s3 HP4.out)
        clear hz3 hy4 e2 e3
        go_wp2_with fail
        refine HK4.out.mono ?_
        rintro o y5 ⟨rfl, hz4⟩
        have HP5 := Lib.hid (HP4.out.below hz4)
        have HY5 := Lib.hid (HY4.out.trans' (But.of_below hz4))
        have HK5 := Lib.hid (HSTK.out y5 s3 HP5.out)
        clear hz4 e4 e5
        go_wp2_with fail
        refine HK5.out.mono ?_
        rintro o y6 ⟨rfl, hz5⟩
        have HP6 := Lib.hid (HP5.out.below hz5)
        have HY6 := Lib.hid (HY5.out.trans' (But.of_below hz5))
        have HK6 := Lib.hid (HSK.out y6 s3 HP6.out)
        clear hz5
        go_wp2_with fail
        refine HK6.out.mono ?_
        rintro o y7 ⟨rfl, hz6⟩
        have HP7 := Lib.hid (HP6.out.below hz6)
        have HY7 := Lib.hid (HY6.out.trans' (But.of_below hz6))
        have HK7 := Lib.hid (HSTK.out y7 s3 HP7.out)
        clear hz6
        go_wp2_with fail
        refine HK7.out.mono ?_
        rintro o y8 ⟨rfl, hz7⟩
        have HP8 := Lib.hid (HP7.out.below hz7)
        have HY8 := Lib.hid (HY7.out.trans' (But.of_below hz7))
        have HK8 := Lib.hid (HTK.out y8 s3 HP8.out)
        clear hz7
        go_wp2_with fail
        refine HK8.out.mono ?_
        rintro o y9 ⟨rfl, hz8⟩
        have HP9 := Lib.hid (HP8.out.below hz8)
        have HY9 := Lib.hid (HY8.out.trans' (But.of_below hz8))
        have HK9 := Lib.hid (HSK.out y9 s3 HP9.out)
        clear hz8
        go_wp2_with fail
        refine HK9.out.mono ?_
        rintro o y10 ⟨rfl, hz9⟩
        have HP10 := Lib.hid (HP9.out.below hz9)
        have HY10 := Lib.hid (HY9.out.trans' (But.of_below hz9))
        clear hz9
        go_wp2_with fail
        go_roundw
        case rel => exact ⟨m + 1, s3, by rw [HST1.out, HVS.out], by go_num, by omega, by rw [HST1.out]; exact HP10.out, HB1'.out.trans (HY10.out.below (fun j hj => by simp at hj; rw [hj]; exact HW2.out) HB1'.out.size)⟩
        case measure => simp [intOf]; omega
    · obtain rfl : m = n0 := by omega
      have hz0 := ask_nought hti
      have hal : (ofP (l0.take m)).length ≤ m := of_len m l0 (by rw [HN.out]; exact Nat.le_refl _)
      have HA0 := Lib.hid (ask_any 0 wo hP (by unfold okS; decide) (by omega))
      rw [hz0] at HA0
      have HB := Lib.hid hB
      clear hB hP hz0 hti hal
      go_wp2_with fail
      refine HA0.out.mono ?_
      rintro o y2 ⟨rfl, hz1⟩
      have HF := Lib.hid (HB.out.trans (hz1.mono HB.out.size))
      clear hz1
      go_wp2_with fail
      go_ret
      exact ⟨rfl, HF.out⟩


set_option maxRecDepth 100000 in
theorem lifted (os : Os) (started : os.Started) (H : Type) (enc : TypeId × Value → H) :
    ReturnsInHanded {} Try.checked os 4 .any (Rows.priceGrowsSpec.pre6 enc Try.prog Try.f4 Rows.priceGrowsRow.domain false) (Rows.priceGrowsSpec.post enc Try.prog Try.f4 false true false false) := by
  refine returnsInHanded_of_change (C := Try.checked) own started (by kernel_rfl) Try.func4
    (ChangeSpec.witness6 (enc := enc) (C := Try.checked) false ⟨#[], #[.slice none 0 0, .int .u64 0, .int .u64 0], []⟩ 8 (by kernel_rfl) (by kernel_rfl) (by kernel_rfl) (by kernel_rfl)) ?_
  intro W base args ds gs before hval0 hW hcnd _
  have hval : ∀ (j : Nat) t v, Try.f4.params[j]? = some t → args[j]? = some v → Value.okWide Try.prog W .any base t v := hval0
  have hW' := hW
  obtain ⟨p, q, hA0, hV, rfl, hfz, hnd⟩ := hW
  have hA : DataW.TrodAll enc Try.prog W 0 (fun _ => true) true Try.f4.params.toList args.toList ds p := hA0
  rw [Try.params4] at hA hval
  have hAk := hA
  obtain ⟨v0, vs0, d0, ds0, p0', q0, hargs, rfl, rfl, h0, r0⟩ := trodAll_cons hA
  obtain ⟨v1, vs1, d1, ds1, p1', q1, rfl, rfl, rfl, h1, r1⟩ := trodAll_cons r0
  obtain ⟨v2, vs2, d2, ds2, p2', q2, rfl, rfl, rfl, h2, r2⟩ := trodAll_cons r1
  obtain ⟨rfl, rfl, rfl⟩ := trodAll_nil r2
  obtain rfl : args = #[v0, v1, v2] := by cases args; simp_all
  obtain ⟨rfl, rfl⟩ := trodVars_none hV
  simp only [List.append_nil] at hW' hAk
  have hlt := fun x hx => hW'.lt x hx
  clear hA0 hval0
  obtain ⟨p0, n0, c0, l0, rfl, S0, b0⟩ := open_ents (okWide_slice Try.underlying22 (hval 0 22 v0 rfl rfl)) h0
  obtain ⟨a1, rfl, rfl, rfl, w1⟩ := open_int Try.underlying32 (hval 1 32 v1 rfl rfl) h1
  obtain ⟨a2, rfl, rfl, rfl, w2⟩ := open_int Try.underlying32 (hval 2 32 v2 rfl rfl) h2
  refine (walk W p0 n0 c0 l0 S0 b0 a1 w1 a2 w2).mono fun e W' ⟨he, hg⟩ => ?_
  subst he
  have hargs := trodAll_below hg _ _ _ _ (by intro t ht; simp only [List.mem_cons, List.not_mem_nil, or_false] at ht; revert t; rintro t (rfl | rfl | rfl) <;> exact ⟨by kernel_rfl, of_decide_eq_true (by kernel_rfl)⟩) hAk (fun x hx => by simpa using hlt x hx)
  exact ⟨_, rfl, _, _, _, [], _, [], hW', (trodAll_cons_mk (shut_bool Try.underlying4 _) trodAll_mk0), hargs, rfl, hg.frame _, fun h => by cases h⟩

theorem over : Rows.priceGrowsRow.holds Try.pinned (OpenSpec.ofChange Rows.priceGrowsSpec) :=
  OpenClaim.holds_of_wide 4 Try.f4 rfl rfl rfl rfl rfl rfl rfl ⟨rfl, rfl, rfl, rfl, rfl⟩ rfl rfl rfl rfl rfl (by kernel_rfl) Try.func4 (by kernel_rfl)
    (of_decide_eq_true (by kernel_rfl)) (by unfold Func.isWrapper; first | (rw [if_pos (by decide +kernel)]; kernel_rfl) | (rw [if_neg (by decide +kernel)]; exact ⟨rfl, rfl⟩))
    (fun os started H enc _ => lifted os started H enc)

theorem proved : Rows.PriceGrowsSaid :=
  over
end Go.Proofs.Ytpcbdjdmhemjdaa.priceGrows
