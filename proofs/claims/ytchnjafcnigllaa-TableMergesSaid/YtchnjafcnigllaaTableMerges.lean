/- For whatever steps and bounds law TableMerges answers true: a table merged of two holds what is reckoned of both, and what lies between two keys is told. No condition. -/
import Derived.Test.YtchnjafcnigllaaTabW
import Derived.Test.YtchnjafcnigllaaTabY
import Derived.Test.YtchnjafcnigllaaTabZ
namespace Go.Proofs.Ytchnjafcnigllaa.tableMerges
open Go.ChangeShapes Go.WideShapes Go.ChangeAt Go.RowKit Go.Proofs.Ytchnjafcnigllaa
set_option linter.unusedVariables false

/-- What stays: the tables and their rows. -/
structure MeE (w : World) (T U X : Nat) (l lq ml : KV) (sp sq : Value) (W : World) : Prop where
  t : TabN W T l
  u : TabN W U lq
  m : TabN W X ml
  p : PrsP W.heap.size W sp l
  q : PrsP W.heap.size W sq lq
  bel : Below w.heap.size w W
theorem prs_up {W W' : World} {v : Value} {xs : KV} (h : PrsP W.heap.size W v xs) (hb : Below W.heap.size W W') : PrsP W'.heap.size W' v xs := prs_low h rfl hb
theorem MeE.below {w : World} {T U X : Nat} {l lq ml : KV} {sp sq : Value} {W W' : World} (h : MeE w T U X l lq ml sp sq W) (hb : Below W.heap.size W W') : MeE w T U X l lq ml sp sq W' :=
  ⟨h.t.below hb, h.u.below hb, h.m.below hb, prs_up h.p hb, prs_up h.q hb, h.bel.trans (hb.mono h.bel.size)⟩
theorem RowC.alloc {w : World} {v : Value} {out : KV} {W : World} (h : RowC w v out W) (o : Obj) : RowC w v out (W.alloc o) := ⟨h.row.alloc _, h.bel.alloc (by exact h.bel.size) o⟩
theorem take_next {l : KV} {m : Nat} {y : Int × Int} (h : l[m]? = some y) : l.take (m + 1) = l.take m ++ [y] := by rw [List.take_add_one, h]; rfl
theorem merge_rise {la : KV} (hr : Tr.Rising ltN la) : ∀ (xs acc : KV), Tr.Rising ltN acc → Tr.Rising ltN (xs.foldl (fun acc y => Tr.insK ltN y.1 (mval la y) acc) acc)
  | [], acc, h => h
  | y :: r, acc, h => merge_rise hr r _ (Tr.insK_rising ordN y.1 (mval la y) acc h).1
theorem mergeL_rise {la : KV} (hr : Tr.Rising ltN la) (xs : KV) : Tr.Rising ltN (mergeL la xs) := merge_rise hr xs la hr
theorem betweenIt (T : Nat) (lo hi : Int) (w : World) : Calls Try.prog 39 #[.pointer (some ⟨T, 0, none⟩), .int .i64 lo, .int .i64 hi] w fun e w' => ∃ B1 B2 B3, e = .returned (.func (.func 62) #[] #[.pointer (some ⟨B1, 0, none⟩), .pointer (some ⟨B2, 0, none⟩), .pointer (some ⟨B3, 0, none⟩)]) ∧ w'.heap[B1]? = some (.cells #[.pointer (some ⟨T, 0, none⟩)] 24 (0, 0)) ∧ w'.heap[B2]? = some (.cells #[.int .i64 lo] 2 (0, 0)) ∧ w'.heap[B3]? = some (.cells #[.int .i64 hi] 2 (0, 0)) ∧ Below w.heap.size w w' :=
  (betweenOf T lo hi w).mono (by
    rintro e w' ⟨rfl, rfl⟩
    refine ⟨_, _, _, rfl, ?_, ?_, ?_, (((Below.refl _ _).alloc (Nat.le_refl _) _).alloc (by simp) _).alloc (by simp; omega) _⟩
    · rw [heap_alloc_old' _ _ _ (by simp; omega), heap_alloc_old' _ _ _ (by simp)]; exact World.alloc_heap_new w _
    · rw [heap_alloc_old' _ _ _ (by simp)]
      have h := World.alloc_heap_new (w.alloc (.cells #[.pointer (some ⟨T, 0, none⟩)] 24)) (.cells #[.int .i64 lo] 2)
      rw [World.size_alloc] at h
      exact h
    · have h := World.alloc_heap_new ((w.alloc (.cells #[.pointer (some ⟨T, 0, none⟩)] 24)).alloc (.cells #[.int .i64 lo] 2)) (.cells #[.int .i64 hi] 2)
      rw [World.size_alloc, World.size_alloc] at h
      exact h)

set_option maxRecDepth 100000 in
set_option maxHeartbeats 16000000 in
theorem walk (w : World) (p0 : Option Addr) (n0 c0 : Nat) (l0 : List HOp) (S0 : HOps w.heap.size w (.slice p0 n0 c0) l0) (b0 : (∀ x ∈ l0, x.Ok) ∧ l0.length ≤ Go.maxLen) (p1 : Option Addr) (n1 c1 : Nat) (l1 : List HOp) (S1 : HOps w.heap.size w (.slice p1 n1 c1) l1) (b1 : (∀ x ∈ l1, x.Ok) ∧ l1.length ≤ Go.maxLen) (a2 : Int) (w2 : (Lit.int .i64 a2).wf = true) (a3 : Int) (w3 : (Lit.int .i64 a3).wf = true) :
    Calls Try.prog 8 #[.slice p0 n0 c0, .slice p1 n1 c1, .int .i64 a2, .int .i64 a3] w fun e w' => e = .returned (.bool true) ∧ Below w.heap.size w w' := by
  have hlen0 := S0.len
  subst hlen0
  have hlen1 := S1.len
  subst hlen1
  have HS0 := Lib.hid S0
  have HS1 := Lib.hid S1
  have HAL := Lib.hid (fun W => tabAlive_any W)
  obtain ⟨n0, hn0⟩ : ∃ n, l0.length = n := ⟨_, rfl⟩
  obtain ⟨n1, hn1⟩ : ∃ n, l1.length = n := ⟨_, rfl⟩
  have HN0 := Lib.hid hn0
  have HN1 := Lib.hid hn1
  have hmax0 := b0.2
  have hmax1 := b1.2
  rw [hn0] at hmax0 HS0 ⊢
  rw [hn1] at hmax1 HS1 ⊢
  unfold maxLen at hmax0 hmax1
  clear S0 S1 b0 b1 hn0 hn1 w2 w3
  by_cases hbig : 100 < n0
  · have c0' : decide ((100 : Int) < (n0 : Int)) = true := decide_eq_true (by omega)
    go_enter Try.func8, Try.ntmps8
    go_wp2_with (go_at_call 9; refine (HAL.out _).mono ?_; rintro e w1 ⟨rfl, hb1⟩; have HB1 := Lib.hid hb1; clear hb1)
    go_ret
    exact ⟨rfl, HB1.out⟩
  have c0' : decide ((100 : Int) < (n0 : Int)) = false := decide_eq_false (by omega)
  by_cases hbig1 : 100 < n1
  · have c1' : decide ((100 : Int) < (n1 : Int)) = true := decide_eq_true (by omega)
    go_enter Try.func8, Try.ntmps8
    go_wp2_with (go_at_call 9; refine (HAL.out _).mono ?_; rintro e w1 ⟨rfl, hb1⟩; have HB1 := Lib.hid hb1; clear hb1)
    go_ret
    exact ⟨rfl, HB1.out⟩
  have c1' : decide ((100 : Int) < (n1 : Int)) = false := decide_eq_false (by omega)
  go_enter Try.func8, Try.ntmps8
  go_upto_region 5 with (go_at_call 9; refine (HAL.out _).mono ?_; rintro e w1 ⟨rfl, hb1⟩; have HB1 := Lib.hid hb1; clear hb1)
  have HPL := Lib.hid (play_any p0 n0 c0 l0 (by rw [HN0.out]; omega) w1 ((HS0.out.below HB1.out (Nat.le_refl _)).mono HB1.out.size))
  go_wp2_with fail
  refine HPL.out.mono ?_
  rintro e w2 ⟨v2, rfl, hj⟩
  have hll := playL_len n0 l0 HN0.out
  obtain ⟨l, hl2⟩ : ∃ l, playL l0 = l := ⟨_, rfl⟩
  rw [hl2] at hj hll
  obtain ⟨va, vc, rfl⟩ := own_form hj.row
  have hb12 : Below w.heap.size w w2 := HB1.out.trans (hj.bel.mono HB1.out.size)
  have HPL1 := Lib.hid (play_any p1 n1 c1 l1 (by rw [HN1.out]; omega) w2 ((HS1.out.below hb12 (Nat.le_refl _)).mono hb12.size))
  have HT2 := Lib.hid hj.tab
  have HP2 := Lib.hid (PrsP.of_owns hj.row)
  have HB2 := Lib.hid hb12
  clear hl2 HPL hj hb12
  go_wp2_with fail
  refine HPL1.out.mono ?_
  rintro e w3 ⟨v3, rfl, hj⟩
  have hll1 := playL_len n1 l1 HN1.out
  obtain ⟨lq, hl3⟩ : ∃ l, playL l1 = l := ⟨_, rfl⟩
  rw [hl3] at hj hll1
  obtain ⟨vb, vd, rfl⟩ := own_form hj.row
  have hb23 := hj.bel
  have HME := Lib.hid (merge_any w1.heap.size w2.heap.size l lq (by omega) (by omega) w3 (HT2.out.below hb23) hj.tab)
  have HT3 := Lib.hid (HT2.out.below hb23)
  have HU3 := Lib.hid hj.tab
  have HP3 := Lib.hid (prs_up HP2.out hb23)
  have HQ3 := Lib.hid (PrsP.of_owns hj.row)
  have HB3 : Hid (Below w.heap.size w w3) := Lib.hid (HB2.out.trans (hb23.mono HB2.out.size))
  clear hl3 HPL1 hj hb23 HT2 HP2
  go_wp2_with fail
  refine HME.out.mono ?_
  rintro e w4 ⟨X, rfl, hm4, hb4, _⟩
  obtain ⟨T, hT⟩ : ∃ T, w1.heap.size = T := ⟨_, rfl⟩
  obtain ⟨U, hU⟩ : ∃ U, w2.heap.size = U := ⟨_, rfl⟩
  rw [hT] at HT3
  rw [hU] at HU3
  rw [hT, hU]
  obtain ⟨q, hq⟩ : ∃ q, l.length = q := ⟨_, rfl⟩
  obtain ⟨p, hp⟩ : ∃ p, lq.length = p := ⟨_, rfl⟩
  have HQ := Lib.hid hq
  have HP := Lib.hid hp
  rw [hq] at HP3 hll
  rw [hp] at HQ3 hll1
  rw [hq, hp]
  have HE4 : Hid (MeE w T U X l lq (mergeL l lq) (.slice va q vc) (.slice vb p vd) w4) := Lib.hid ⟨HT3.out.below hb4, HU3.out.below hb4, hm4, prs_up HP3.out hb4, prs_up HQ3.out hb4, HB3.out.trans (hb4.mono HB3.out.size)⟩
  have HRI := Lib.hid HT3.out.rise
  have hq100 : q ≤ 100 := by omega
  have hp100 : p ≤ 100 := by omega
  clear hT hU hq hp hm4 hb4 HME HT3 HU3 HP3 HQ3 HB3 HB2 HB1
  go_wp2_with fail
  go_loopw [16, 54] (fun v i wr => ∃ (m : Nat) (a : Option Addr) (n c : Nat), v = .slice a n c ∧ i = .int .i64 m ∧ m ≤ p ∧ PrsP wr.heap.size wr (.slice a n c) (mergeL l (lq.take m)) ∧ MeE w T U X l lq (mergeL l lq) (.slice va q vc) (.slice vb p vd) wr) (fun _ i _ => p - (intOf i).toNat)
  case atStart => exact ⟨0, va, q, vc, rfl, rfl, Nat.zero_le _, HE4.out.p, HE4.out⟩
  case round =>
    obtain ⟨m, a, n, c, rfl, rfl, hm, hwp, hE⟩ := hrel
    clear HE4
    by_cases hlt : m < p
    · obtain ⟨⟨y, z⟩, hy⟩ : ∃ y, lq[m]? = some y := ⟨_, List.getElem?_eq_getElem (by rw [HP.out]; exact hlt)⟩
      obtain ⟨g, off, rfl, hg, d0, d1⟩ := hE.q.at_ hy
      have b1 : (0 : Int) ≤ m := by omega
      have b2 : (m : Int) < p := by omega
      have hbx : Below wr.heap.size wr (wr.alloc (Obj.cells #[.int .i64 y, .int .i64 z] 41)) := (Below.refl _ _).alloc (Nat.le_refl _) _
      have hE1 := hE.below hbx
      have hw1 := prs_up hwp hbx
      have hnew := World.alloc_heap_new wr (Obj.cells #[.int .i64 y, .int .i64 z] 41)
      have HTK : Hid (lq.take (m + 1) = lq.take m ++ [(y, z)]) := Lib.hid (take_next hy)
      have HML := Lib.hid (merge_len l (lq.take m))
      have HTL : Hid ((lq.take m).length ≤ 100) := Lib.hid (by rw [List.length_take]; omega)
      clear hy hbx hg hE hwp
      go_upto_region 12 with fail
      obtain ⟨W1, hW1⟩ : ∃ W1, wr.alloc (Obj.cells #[.int .i64 y, .int .i64 z] 41) = W1 := ⟨_, rfl⟩
      rw [hW1] at hE1 hnew hw1 ⊢
      have e0 : W1.cell? ⟨wr.heap.size, 0, none⟩ = some (.int .i64 y) := cell_of_row W1 _ 0 _ _ _ hnew
      have e1 : W1.cell? ⟨wr.heap.size, 1, none⟩ = some (.int .i64 z) := cell_of_row W1 _ 1 _ _ _ hnew
      have HGT := Lib.hid (refGet_any y va q vc l (by rw [HQ.out]; omega) W1 hE1.p)
      have HPT := Lib.hid (fun v => refPut_any y v a n c (mergeL l (lq.take m)) (by have h1 := HML.out; have h2 := HTL.out; have h3 := HQ.out; omega) W1 hw1)
      have HE1 := Lib.hid hE1
      clear hE1 hw1 hnew hW1 d0 d1
      go_wp2_with fail
      refine HGT.out.mono ?_
      rintro e wx ⟨rfl, hx⟩
      obtain rfl := hx.symm
      cases hgk : Tr.getK y l with
      | none =>
        have hmv : mval l (y, z) = z := by unfold mval; simp only [hgk]
        simp only [Option.getD_none, Option.isSome_none]
        clear HGT hgk
        go_wp2_with fail
        refine (HPT.out z).mono ?_
        rintro e W2 ⟨v2, rfl, hr2, hb2⟩
        rw [← insD8 y z _ (mergeL_rise HRI.out _), ← hmv, ← mergeL_snoc l (lq.take m) (y, z), ← HTK.out] at hr2
        obtain ⟨a', c', rfl⟩ := own_form hr2
        have HE2 := Lib.hid (HE1.out.below hb2)
        have HW2 := Lib.hid (PrsP.of_owns hr2)
        clear hr2 hb2 HPT HE1 e0 e1 hmv
        go_wp2_with fail
        go_roundw
        case rel => exact ⟨m + 1, a', _, c', rfl, by go_num, by omega, HW2.out, HE2.out⟩
        case measure => simp [intOf]; omega
      | some x =>
        have hmv : mval l (y, z) = bits .xor .i64 y (bits .and .i64 x z) := by unfold mval; simp only [hgk]
        simp only [Option.getD_some, Option.isSome_some]
        clear HGT hgk
        go_wp2_with fail
        refine (HPT.out (bits .xor .i64 y (bits .and .i64 x z))).mono ?_
        rintro e W2 ⟨v2, rfl, hr2, hb2⟩
        rw [← insD8 y _ _ (mergeL_rise HRI.out _), ← hmv, ← mergeL_snoc l (lq.take m) (y, z), ← HTK.out] at hr2
        obtain ⟨a', c', rfl⟩ := own_form hr2
        have HE2 := Lib.hid (HE1.out.below hb2)
        have HW2 := Lib.hid (PrsP.of_owns hr2)
        clear hr2 hb2 HPT HE1 e0 e1 hmv
        go_wp2_with fail
        go_roundw
        case rel => exact ⟨m + 1, a', _, c', rfl, by go_num, by omega, HW2.out, HE2.out⟩
        case measure => simp [intOf]; omega
    · obtain rfl : m = p := by omega
      rw [List.take_of_length_le (by rw [HP.out]; exact Nat.le_refl _)] at hwp
      have HE := Lib.hid hE
      have HWP := Lib.hid hwp
      clear hE hwp
      obtain ⟨ml, hml⟩ : ∃ ml, mergeL l lq = ml := ⟨_, rfl⟩
      have HMLL : Hid (ml.length ≤ q + m) := Lib.hid (by rw [← hml, ← HQ.out, ← HP.out]; exact merge_len l lq)
      rw [hml] at HE HWP
      clear hml
      go_upto_region 19 with fail
      obtain ⟨w5, hw5⟩ : ∃ w5, w5 = wr := ⟨_, rfl⟩
      subst hw5
      have hR5 := RowC.start w5
      have HR5 := Lib.hid hR5
      clear hR5
      obtain ⟨i0, hi, hz0, hz1, hz2⟩ := info_parts infoTP
      go_wp2_with fail
      go_loopw [22, 84] (fun v i V => ∃ (j : Nat) (out : KV), i = .int .i64 j ∧ j ≤ q ∧ RowC w5 v out V ∧ out ++ (l.drop j).filter (fun x => decide (a2 ≤ x.1) && ltN x.1 a3) = l.filter (fun x => decide (a2 ≤ x.1) && ltN x.1 a3)) (fun _ i _ => q - (intOf i).toNat)
      case atStart => exact ⟨0, [], rfl, Nat.zero_le _, HR5.out, rfl⟩
      case round =>
        obtain ⟨j, out, rfl, hj, hR, hout⟩ := hrel
        clear HR5
        have hol : out.length ≤ 100 := by
          have h1 := congrArg List.length hout
          rw [List.length_append] at h1
          have h2 := List.length_filter_le (fun x : Int × Int => decide (a2 ≤ x.1) && ltN x.1 a3) l
          have := HQ.out
          omega
        by_cases hlt : j < q
        · obtain ⟨⟨y, z⟩, hy⟩ : ∃ y, l[j]? = some y := ⟨_, List.getElem?_eq_getElem (by rw [HQ.out]; exact hlt)⟩
          obtain ⟨g, off, rfl, hg, f0, f1⟩ := HE.out.p.at_ hy
          have d0 := (hR.bel.cell (p := ⟨g, off + j * 2, none⟩) hg).trans f0
          have d1 := (hR.bel.cell (p := ⟨g, off + j * 2 + 1, none⟩) hg).trans f1
          have b1 : (0 : Int) ≤ j := by omega
          have b2 : (j : Int) < q := by omega
          rw [drop_cons hy, List.filter_cons] at hout
          have hnew := World.alloc_heap_new wr (Obj.cells #[.int .i64 y, .int .i64 z] 41)
          have hR1 := RowC.alloc hR (Obj.cells #[.int .i64 y, .int .i64 z] 41)
          clear hy hg f0 f1
          go_upto_region 22 with fail
          obtain ⟨W1, hW1⟩ : ∃ W1, wr.alloc (Obj.cells #[.int .i64 y, .int .i64 z] 41) = W1 := ⟨_, rfl⟩
          rw [hW1] at hnew hR1 ⊢
          have e0 : W1.cell? ⟨wr.heap.size, 0, none⟩ = some (.int .i64 y) := cell_of_row W1 _ 0 _ _ _ hnew
          have e1 : W1.cell? ⟨wr.heap.size, 1, none⟩ = some (.int .i64 z) := cell_of_row W1 _ 1 _ _ _ hnew
          have HR1 := Lib.hid hR1
          clear hR hR1 hnew hW1 d0 d1
          by_cases hay : a2 ≤ y
          · have g1 : decide (a2 ≤ y) = true := decide_eq_true hay
            by_cases hyb : y < a3
            · have g2 : decide (y < a3) = true := decide_eq_true hyb
              have hc : (decide (a2 ≤ y) && ltN y a3) = true := by unfold ltN; simp [hay, hyb]
              rw [if_pos hc] at hout
              have HO : Hid ((out ++ [(y, z)]) ++ (l.drop (j + 1)).filter (fun x => decide (a2 ≤ x.1) && ltN x.1 a3) = l.filter (fun x => decide (a2 ≤ x.1) && ltN x.1 a3)) := Lib.hid (by rw [List.append_assoc]; exact hout)
              clear hout hc hay hyb
              go_wp2_with (at_builtin; refine wpList_append_own_at _ rfl _ _ 25 rfl w5.heap.size 41 i0 (.agg #[.int .i64 0, .int .i64 0]) 2 16 Try.underlying25 hi hz0 hz1 hz2 rfl (by decide) _ _ _ rfl (HR1.out.row.alloc _) ⟨W1.heap.size, 0, none⟩ 1 1 [.int .i64 y, .int .i64 z] rfl rfl (World.news_of_block (World.alloc_heap_new W1 _)) (by simp [Value.oneCell']) (by unfold maxLen; omega) (by have := HR1.out.bel.size; omega) (by have := HR1.out.bel.size; simp; omega) ?_; intro v' A hown' hgrow _ _; have HA := Lib.hid (HR1.out.app y z _ hown' hgrow); clear hown' hgrow)
              go_roundw
              case rel => exact ⟨j + 1, out ++ [(y, z)], by go_num, by omega, HA.out, HO.out⟩
              case measure => simp [intOf]; omega
            · have g2 : decide (y < a3) = false := decide_eq_false hyb
              have hc : ¬ (decide (a2 ≤ y) && ltN y a3) = true := by unfold ltN; simp [hyb]
              rw [if_neg hc] at hout
              have HO := Lib.hid hout
              clear hout hc hay hyb
              go_wp2_with fail
              go_roundw
              case rel => exact ⟨j + 1, out, by go_num, by omega, HR1.out, HO.out⟩
              case measure => simp [intOf]; omega
          · have g1 : decide (a2 ≤ y) = false := decide_eq_false hay
            have hc : ¬ (decide (a2 ≤ y) && ltN y a3) = true := by simp [hay]
            rw [if_neg hc] at hout
            have HO := Lib.hid hout
            clear hout hc hay
            go_wp2_with fail
            go_roundw
            case rel => exact ⟨j + 1, out, by go_num, by omega, HR1.out, HO.out⟩
            case measure => simp [intOf]; omega
        · obtain rfl : j = q := by omega
          have hdr : l.drop j = [] := List.drop_of_length_le (by have := HQ.out; omega)
          rw [hdr, List.filter_nil, List.append_nil] at hout
          obtain ⟨sa, sc, rfl⟩ := own_form hR.row
          have HSP := Lib.hid (PrsP.of_owns hR.row)
          have hE6 := HE.out.below hR.bel
          have HW6 := Lib.hid (prs_up HWP.out hR.bel)
          have HE6 := Lib.hid hE6
          have HOL : Hid (out.length ≤ j) := Lib.hid (by rw [hout, ← HQ.out]; exact List.length_filter_le _ _)
          have HFE : Hid (out = (l.filter fun x => !(ltN x.1 a2)).filter fun x => ltN x.1 a3) := Lib.hid (by
            rw [hout, List.filter_filter]
            apply List.filter_congr
            intro x _
            unfold ltN
            rw [show decide (a2 ≤ x.1) = !decide (x.1 < a2) from by rcases Decidable.em (x.1 < a2) with h | h; exact (decide_eq_false (by omega)).trans (by simp [h]); exact (decide_eq_true (by omega)).trans (by simp [h])]
            exact Bool.and_comm _ _)
          obtain ⟨sl, hsl⟩ : ∃ n, out.length = n := ⟨_, rfl⟩
          have HSL := Lib.hid hsl
          rw [hsl] at HSP HOL ⊢
          clear hout hdr hol hsl hR HE HWP hE6
          go_upto_region 26 with fail
          have HAL0 := Lib.hid (fun W => allIt X W)
          go_wp2_with fail
          refine (HAL0.out _).mono ?_
          rintro e wa0 ⟨u0, rfl, hu, hb⟩
          obtain ⟨BB0, rfl, hB⟩ := hu
          have hEa := HE6.out.below hb
          have HWa := Lib.hid (prs_up HW6.out hb)
          have HSa := Lib.hid (prs_up HSP.out hb)
          have hpc := pairsAll BB0 X ml (j + m + 1) (by omega) (by omega) wa0 hEa.m hB
          rw [List.take_of_length_le (show ml.length ≤ j + m + 1 from by have h1 := HMLL.out; have h2 := HQ.out; have h3 := HP.out; have h4 := HOL.out; have h5 := HSL.out; omega), show ((j + m + 1 : Nat) : Int) = (j : Int) + (m : Int) + 1 from rfl] at hpc
          have HPC := Lib.hid hpc
          have HEa := Lib.hid hEa
          clear hpc hEa hb hB HAL0 HE6 HW6 HSP
          go_wp2_with fail
          refine HPC.out.mono ?_
          rintro e wb0 ⟨vv0, rfl, hr, hb⟩
          obtain ⟨ra0, rc0, rfl⟩ := own_form hr
          have hEb := HEa.out.below hb
          have hWb := prs_up HWa.out hb
          have hSb := prs_up HSa.out hb
          have HSM := Lib.hid (refSame_any ra0 a ml.length n rc0 c ml (by have h1 := HMLL.out; have h2 := HQ.out; have h3 := HP.out; have h4 := HOL.out; have h5 := HSL.out; omega) wb0 (PrsP.of_owns hr) hWb)
          have HEb := Lib.hid hEb
          have HWb := Lib.hid hWb
          have HSb := Lib.hid hSb
          clear hr hb hEb hWb hSb HPC HEa HWa HSa
          go_wp2_with fail
          refine HSM.out.mono ?_
          rintro e wc0 ⟨rfl, hb⟩
          have HE6 := Lib.hid (HEb.out.below hb)
          have HW6 := Lib.hid (prs_up HWb.out hb)
          have HSP := Lib.hid (prs_up HSb.out hb)
          clear hb HSM HEb HWb HSb
          have HAL1 := Lib.hid (fun W => betweenIt T a2 a3 W)
          go_wp2_with fail
          refine (HAL1.out _).mono ?_
          rintro e wa1 ⟨B1, B2, B3, rfl, hB1, hB2, hB3, hb⟩
          have hEa := HE6.out.below hb
          have HWa := Lib.hid (prs_up HW6.out hb)
          have HSa := Lib.hid (prs_up HSP.out hb)
          have hpc := pairsBetween B1 B2 B3 T a2 a3 l (j + m + 1) (by omega) (by omega) wa1 hEa.t hB1 hB2 hB3 out HFE.out
          rw [List.take_of_length_le (show out.length ≤ j + m + 1 from by have h1 := HMLL.out; have h2 := HQ.out; have h3 := HP.out; have h4 := HOL.out; have h5 := HSL.out; omega), show ((j + m + 1 : Nat) : Int) = (j : Int) + (m : Int) + 1 from rfl] at hpc
          have HPC := Lib.hid hpc
          have HEa := Lib.hid hEa
          clear hpc hEa hb hB1 hB2 hB3 HAL1 HE6 HW6 HSP
          go_wp2_with fail
          refine HPC.out.mono ?_
          rintro e wb1 ⟨vv1, rfl, hr, hb⟩
          obtain ⟨ra1, rc1, rfl⟩ := own_form hr
          have hEb := HEa.out.below hb
          have hWb := prs_up HWa.out hb
          have hSb := prs_up HSa.out hb
          have HSM := Lib.hid (refSame_any ra1 sa out.length sl rc1 sc out (by have h1 := HMLL.out; have h2 := HQ.out; have h3 := HP.out; have h4 := HOL.out; have h5 := HSL.out; omega) wb1 (PrsP.of_owns hr) hSb)
          have HEb := Lib.hid hEb
          have HWb := Lib.hid hWb
          have HSb := Lib.hid hSb
          clear hr hb hEb hWb hSb HPC HEa HWa HSa
          go_wp2_with fail
          refine HSM.out.mono ?_
          rintro e wc1 ⟨rfl, hb⟩
          have HE6 := Lib.hid (HEb.out.below hb)
          have HW6 := Lib.hid (prs_up HWb.out hb)
          have HSP := Lib.hid (prs_up HSb.out hb)
          clear hb HSM HEb HWb HSb
          have HAL2 := Lib.hid (fun W => allIt T W)
          go_wp2_with fail
          refine (HAL2.out _).mono ?_
          rintro e wa2 ⟨u2, rfl, hu, hb⟩
          obtain ⟨BB2, rfl, hB⟩ := hu
          have hEa := HE6.out.below hb
          have HWa := Lib.hid (prs_up HW6.out hb)
          have HSa := Lib.hid (prs_up HSP.out hb)
          have hpc := pairsAll BB2 T l (j + m + 1) (by omega) (by omega) wa2 hEa.t hB
          rw [List.take_of_length_le (show l.length ≤ j + m + 1 from by have h1 := HMLL.out; have h2 := HQ.out; have h3 := HP.out; have h4 := HOL.out; have h5 := HSL.out; omega), show ((j + m + 1 : Nat) : Int) = (j : Int) + (m : Int) + 1 from rfl] at hpc
          have HPC := Lib.hid hpc
          have HEa := Lib.hid hEa
          clear hpc hEa hb hB HAL2 HE6 HW6 HSP
          go_wp2_with fail
          refine HPC.out.mono ?_
          rintro e wb2 ⟨vv2, rfl, hr, hb⟩
          obtain ⟨ra2, rc2, rfl⟩ := own_form hr
          have hEb := HEa.out.below hb
          have hWb := prs_up HWa.out hb
          have hSb := prs_up HSa.out hb
          have HSM := Lib.hid (refSame_any ra2 va l.length j rc2 vc l (by have h1 := HMLL.out; have h2 := HQ.out; have h3 := HP.out; have h4 := HOL.out; have h5 := HSL.out; omega) wb2 (PrsP.of_owns hr) hEb.p)
          have HEb := Lib.hid hEb
          have HWb := Lib.hid hWb
          have HSb := Lib.hid hSb
          clear hr hb hEb hWb hSb HPC HEa HWa HSa
          go_wp2_with fail
          refine HSM.out.mono ?_
          rintro e wc2 ⟨rfl, hb⟩
          have HE6 := Lib.hid (HEb.out.below hb)
          have HW6 := Lib.hid (prs_up HWb.out hb)
          have HSP := Lib.hid (prs_up HSb.out hb)
          clear hb HSM HEb HWb HSb
          have HAL3 := Lib.hid (fun W => allIt U W)
          go_wp2_with fail
          refine (HAL3.out _).mono ?_
          rintro e wa3 ⟨u3, rfl, hu, hb⟩
          obtain ⟨BB3, rfl, hB⟩ := hu
          have hEa := HE6.out.below hb
          have HWa := Lib.hid (prs_up HW6.out hb)
          have HSa := Lib.hid (prs_up HSP.out hb)
          have hpc := pairsAll BB3 U lq (j + m + 1) (by omega) (by omega) wa3 hEa.u hB
          rw [List.take_of_length_le (show lq.length ≤ j + m + 1 from by have h1 := HMLL.out; have h2 := HQ.out; have h3 := HP.out; have h4 := HOL.out; have h5 := HSL.out; omega), show ((j + m + 1 : Nat) : Int) = (j : Int) + (m : Int) + 1 from rfl] at hpc
          have HPC := Lib.hid hpc
          have HEa := Lib.hid hEa
          clear hpc hEa hb hB HAL3 HE6 HW6 HSP
          go_wp2_with fail
          refine HPC.out.mono ?_
          rintro e wb3 ⟨vv3, rfl, hr, hb⟩
          obtain ⟨ra3, rc3, rfl⟩ := own_form hr
          have hEb := HEa.out.below hb
          have hWb := prs_up HWa.out hb
          have hSb := prs_up HSa.out hb
          have HSM := Lib.hid (refSame_any ra3 vb lq.length m rc3 vd lq (by have h1 := HMLL.out; have h2 := HQ.out; have h3 := HP.out; have h4 := HOL.out; have h5 := HSL.out; omega) wb3 (PrsP.of_owns hr) hEb.q)
          have HEb := Lib.hid hEb
          have HWb := Lib.hid hWb
          have HSb := Lib.hid hSb
          clear hr hb hEb hWb hSb HPC HEa HWa HSa
          go_wp2_with fail
          refine HSM.out.mono ?_
          rintro e wc3 ⟨rfl, hb⟩
          have HE6 := Lib.hid (HEb.out.below hb)
          have HW6 := Lib.hid (prs_up HWb.out hb)
          have HSP := Lib.hid (prs_up HSb.out hb)
          clear hb HSM HEb HWb HSb
          go_wp2_with fail
          go_ret
          exact ⟨rfl, HE6.out.bel⟩


set_option maxRecDepth 100000 in
theorem lifted (os : Os) (started : os.Started) (H : Type) (enc : TypeId × Value → H) :
    ReturnsInHanded {} Try.checked os 8 .any (Rows.tableMergesSpec.pre6 enc Try.prog Try.f8 Rows.tableMergesRow.domain false) (Rows.tableMergesSpec.post enc Try.prog Try.f8 false true false false) := by
  refine returnsInHanded_of_change (C := Try.checked) own started (by kernel_rfl) Try.func8
    (ChangeSpec.witness6 (enc := enc) (C := Try.checked) false ⟨#[], #[.slice none 0 0, .slice none 0 0, .int .i64 0, .int .i64 0], []⟩ 8 (by kernel_rfl) (by kernel_rfl) (by kernel_rfl) (by kernel_rfl)) ?_
  intro W base args ds gs before hval0 hW hcnd _
  have hval : ∀ (j : Nat) t v, Try.f8.params[j]? = some t → args[j]? = some v → Value.okWide Try.prog W .any base t v := hval0
  have hW' := hW
  obtain ⟨p, q, hA0, hV, rfl, hfz, hnd⟩ := hW
  have hA : DataW.TrodAll enc Try.prog W 0 (fun _ => true) true Try.f8.params.toList args.toList ds p := hA0
  rw [Try.params8] at hA hval
  have hAk := hA
  obtain ⟨v0, vs0, d0, ds0, p0', q0, hargs, rfl, rfl, h0, r0⟩ := trodAll_cons hA
  obtain ⟨v1, vs1, d1, ds1, p1', q1, rfl, rfl, rfl, h1, r1⟩ := trodAll_cons r0
  obtain ⟨v2, vs2, d2, ds2, p2', q2, rfl, rfl, rfl, h2, r2⟩ := trodAll_cons r1
  obtain ⟨v3, vs3, d3, ds3, p3', q3, rfl, rfl, rfl, h3, r3⟩ := trodAll_cons r2
  obtain ⟨rfl, rfl, rfl⟩ := trodAll_nil r3
  obtain rfl : args = #[v0, v1, v2, v3] := by cases args; simp_all
  obtain ⟨rfl, rfl⟩ := trodVars_none hV
  simp only [List.append_nil] at hW' hAk
  have hlt := fun x hx => hW'.lt x hx
  clear hA0 hval0
  obtain ⟨p0, n0, c0, l0, rfl, S0, b0⟩ := open_hops (okWide_slice Try.underlying22 (hval 0 22 v0 rfl rfl)) h0
  obtain ⟨p1, n1, c1, l1, rfl, S1, b1⟩ := open_hops (okWide_slice Try.underlying22 (hval 1 22 v1 rfl rfl)) h1
  obtain ⟨a2, rfl, rfl, rfl, w2⟩ := open_int Try.underlying2 (hval 2 2 v2 rfl rfl) h2
  obtain ⟨a3, rfl, rfl, rfl, w3⟩ := open_int Try.underlying2 (hval 3 2 v3 rfl rfl) h3
  refine (walk W p0 n0 c0 l0 S0 b0 p1 n1 c1 l1 S1 b1 a2 w2 a3 w3).mono fun e W' ⟨he, hg⟩ => ?_
  subst he
  have hargs := trodAll_below hg _ _ _ _ (by intro t ht; simp only [List.mem_cons, List.not_mem_nil, or_false] at ht; revert t; rintro t (rfl | rfl | rfl | rfl) <;> exact ⟨by kernel_rfl, of_decide_eq_true (by kernel_rfl)⟩) hAk (fun x hx => by simpa using hlt x hx)
  exact ⟨_, rfl, _, _, _, [], _, [], hW', (trodAll_cons_mk (shut_bool Try.underlying4 _) trodAll_mk0), hargs, rfl, hg.frame _, fun h => by cases h⟩

theorem over : Rows.tableMergesRow.holds Try.pinned (OpenSpec.ofChange Rows.tableMergesSpec) :=
  OpenClaim.holds_of_wide 8 Try.f8 rfl rfl rfl rfl rfl rfl rfl ⟨rfl, rfl, rfl, rfl, rfl⟩ rfl rfl rfl rfl rfl (by kernel_rfl) Try.func8 (by kernel_rfl)
    (of_decide_eq_true (by kernel_rfl)) (by unfold Func.isWrapper; first | (rw [if_pos (by decide +kernel)]; kernel_rfl) | (rw [if_neg (by decide +kernel)]; exact ⟨rfl, rfl⟩))
    (fun os started H enc _ => lifted os started H enc)

theorem proved : Rows.TableMergesSaid :=
  over
end Go.Proofs.Ytchnjafcnigllaa.tableMerges
