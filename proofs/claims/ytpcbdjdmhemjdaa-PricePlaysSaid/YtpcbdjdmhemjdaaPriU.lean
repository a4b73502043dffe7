/- The document's store: Ask, Put. -/
import Derived.Test.YtpcbdjdmhemjdaaPriQ
import Derived.Test.YtpcbdjdmhemjdaaAtoW
namespace Go.Proofs.Ytpcbdjdmhemjdaa
open Go.RowKit
set_option linter.unusedVariables false
attribute [local go_sem] Oper.semAt_some

set_option maxRecDepth 100000 in
set_option maxHeartbeats 4000000 in
theorem refAsk_any (a : Option Addr) (n c s : Nat) (es : List Ent) (w : World) (hs : okS s) (hok : ∀ x ∈ es, okS x.1) (hlen : es.length ≤ 1073741824) (hz : EnsP w.heap.size w (.slice a n c) es) :
    Calls Try.prog 16 #[.slice a n c, .int .u64 (s : Nat)] w fun o w' => o = .returned (.int .i64 (askL withinB es s)) ∧ w = w' := by
  have hn := hz.len
  have HZ := Lib.hid hz
  have HN := Lib.hid hn.symm
  have HOK := Lib.hid hok
  have hn0 : n ≤ 1073741824 := by omega
  have htot : askL withinB (es.take n) s = askL withinB es s := by rw [List.take_of_length_le (by omega)]
  have HV := Lib.hid htot
  clear hz hn hok hlen htot
  go_enter Try.func16, Try.ntmps16
  go_wp2
  go_loopw [5, 6] (fun o i wr => ∃ m : Nat, o = .int .i64 (askL withinB (es.take m) s) ∧ i = .int .i64 m ∧ m ≤ n ∧ wr = w) (fun _ i _ => n - (intOf i).toNat)
  case atStart => exact ⟨0, rfl, rfl, Nat.zero_le _, by trivial⟩
  case round =>
    obtain ⟨m, rfl, rfl, hm, hw⟩ := hrel
    subst hw
    by_cases hlt : m < n
    · obtain ⟨⟨k, u⟩, hx⟩ : ∃ x, es[m]? = some x := ⟨_, List.getElem?_eq_getElem (by rw [HN.out]; exact hlt)⟩
      obtain ⟨b, off, rfl, hbl, d0, d1⟩ := HZ.out.at_ hx
      have hkok := HOK.out _ (List.mem_of_getElem? hx)
      have hnx := ask_take (s := s) hx
      simp only at d0 d1 hkok hnx
      have g1 : (0 : Int) ≤ m := by omega
      have g2 : (m : Int) < n := by omega
      have HWI := Lib.hid (fun W => refWithin_any k s W hkok hs)
      obtain ⟨ov, hov⟩ : ∃ ov, askL withinB (es.take m) s = ov := ⟨_, rfl⟩
      rw [hov] at hnx ⊢
      have HNX := Lib.hid hnx
      clear hx hnx hov
      cases hwi : withinB k s with
      | false =>
        rw [hwi] at HWI HNX
        rw [if_neg (by decide)] at HNX
        go_wp2_with (go_at_call 29; refine (HWI.out _).mono ?_; rintro e w' ⟨rfl, hx⟩; obtain rfl := hx)
        go_roundw
        case rel => exact ⟨m + 1, by rw [HNX.out], by go_num, by omega, by trivial⟩
        case measure => simp [intOf]; omega
      | true =>
        rw [hwi] at HWI HNX
        rw [if_pos rfl] at HNX
        by_cases hgt : ov < u
        · have hd : decide (ov < u) = true := decide_eq_true hgt
          go_wp2_with (go_at_call 29; refine (HWI.out _).mono ?_; rintro e w' ⟨rfl, hx⟩; obtain rfl := hx)
          go_roundw
          case rel => exact ⟨m + 1, by rw [HNX.out, show max ov u = u from by omega], by go_num, by omega, by trivial⟩
          case measure => simp [intOf]; omega
        · have hd : decide (ov < u) = false := decide_eq_false hgt
          go_wp2_with (go_at_call 29; refine (HWI.out _).mono ?_; rintro e w' ⟨rfl, hx⟩; obtain rfl := hx)
          go_roundw
          case rel => exact ⟨m + 1, by rw [HNX.out, show max ov u = ov from by omega], by go_num, by omega, by trivial⟩
          case measure => simp [intOf]; omega
    · obtain rfl : m = n := by omega
      rw [HV.out]
      go_wp2_with fail
      go_ret
      exact ⟨rfl, rfl⟩
/-- What is still to come of a put, behind some rounds. -/
def restP (e : Ent) (done : Bool) (r : List Ent) : List Ent := if done = true then dropE withinB e r else insE ltS e (dropE withinB e r)
theorem rest_goes {e x : Ent} {d : Bool} {r : List Ent} (h : goesB e x = true) : restP e d (x :: r) = restP e d r := by
  have h1 : (withinB e.1 x.1 && decide (x.2 ≤ e.2)) = true := h
  unfold restP
  rw [drop_step, if_pos h1]
theorem rest_done {e x : Ent} {r : List Ent} (h : goesB e x = false) : restP e true (x :: r) = x :: restP e true r := by
  have h1 : ¬ (withinB e.1 x.1 && decide (x.2 ≤ e.2)) = true := by rw [show (withinB e.1 x.1 && decide (x.2 ≤ e.2)) = false from h]; decide
  unfold restP
  rw [if_pos rfl, if_pos rfl, drop_step, if_neg h1]
theorem rest_here {e x : Ent} {r : List Ent} (h : goesB e x = false) (hl : ltS e.1 x.1 = true) : restP e false (x :: r) = e :: x :: restP e true r := by
  have h1 : ¬ (withinB e.1 x.1 && decide (x.2 ≤ e.2)) = true := by rw [show (withinB e.1 x.1 && decide (x.2 ≤ e.2)) = false from h]; decide
  unfold restP
  rw [if_neg (by decide), if_pos rfl, put_step, if_neg h1, if_pos hl]
theorem rest_on {e x : Ent} {r : List Ent} (h : goesB e x = false) (hl : ltS e.1 x.1 = false) : restP e false (x :: r) = x :: restP e false r := by
  have h1 : ¬ (withinB e.1 x.1 && decide (x.2 ≤ e.2)) = true := by rw [show (withinB e.1 x.1 && decide (x.2 ≤ e.2)) = false from h]; decide
  unfold restP
  rw [if_neg (by decide), if_neg (by decide), put_step, if_neg h1, if_neg (by rw [hl]; decide)]
theorem put_yes {es : List Ent} {e : Ent} (h : risesP es e = true) : putP es e = restP e false es := by unfold putP putE restP; rw [if_pos (show _ = true from h), if_neg (by decide)]
theorem drop_cons {es : List Ent} {m : Nat} {x : Ent} (h : es[m]? = some x) : es.drop m = x :: es.drop (m + 1) := by
  obtain ⟨hlt, rfl⟩ := List.getElem?_eq_some_iff.1 h
  exact List.drop_eq_getElem_cons hlt
set_option maxRecDepth 100000 in
set_option maxHeartbeats 8000000 in
theorem refPut_any (a : Option Addr) (n c : Nat) (e : Ent) (es : List Ent) (w : World) (hs : okS e.1) (hok : ∀ x ∈ es, okS x.1) (hlen : es.length ≤ 1048576) (hz : EnsP w.heap.size w (.slice a n c) es) :
    Calls Try.prog 26 #[.slice a n c, .int .u64 (e.1 : Nat), .int .i64 e.2] w fun o w' => ∃ a' n' c', o = .returned (.tuple #[.slice a' n' c', .bool (risesP es e)]) ∧ EnsP w'.heap.size w' (.slice a' n' c') (putP es e) ∧ Below w.heap.size w w' := by
  obtain ⟨k, u⟩ := e
  simp only at hs ⊢
  obtain ⟨i0, hi, hz0, hz1, hz2⟩ := info_parts infoTE
  have hn := hz.len
  have HA := Lib.hid (refAsk_any a n c k es w hs hok (by omega) hz)
  have hr : risesP es (k, u) = (decide (k ≠ 0) && decide (u ≤ 2199023255552) && decide (askL withinB es k < u)) := rfl
  have HZ := Lib.hid hz
  have HN := Lib.hid hn.symm
  have HOK := Lib.hid hok
  have hn0 : n ≤ 1048576 := by omega
  obtain ⟨av, hav⟩ : ∃ av, askL withinB es k = av := ⟨_, rfl⟩
  rw [hav] at HA hr
  have hno : risesP es (k, u) = false → EnsP w.heap.size w (.slice a n c) (putP es (k, u)) := fun h => by rw [put_no h]; exact hz
  have HNO := Lib.hid hno
  clear hz hn hok hlen hav hno
  by_cases h1 : k = 0
  · subst h1
    have hf : risesP es (0, u) = false := by rw [hr]; simp
    have HF := Lib.hid hf
    clear hr hf
    go_enter Try.func26, Try.ntmps26
    go_wp2_with fail
    go_ret2
    exact ⟨a, n, c, by rw [HF.out]; rfl, HNO.out HF.out, Below.refl _ _⟩
  · have hk1 : ((k : Int) == 0) = false := by rw [beq_eq_false_iff_ne]; omega
    by_cases h2 : 2199023255552 < u
    · have hd : decide (2199023255552 < u) = true := decide_eq_true h2
      have hf : risesP es (k, u) = false := by rw [hr, decide_eq_false (by omega : ¬ u ≤ 2199023255552)]; simp
      have HF := Lib.hid hf
      clear hr hf
      go_enter Try.func26, Try.ntmps26
      go_wp2_with fail
      go_ret2
      exact ⟨a, n, c, by rw [HF.out]; rfl, HNO.out HF.out, Below.refl _ _⟩
    · have hd : decide (2199023255552 < u) = false := decide_eq_false h2
      by_cases h3 : u ≤ av
      · have hd3 : decide (u ≤ av) = true := decide_eq_true h3
        have hf : risesP es (k, u) = false := by rw [hr, decide_eq_false (by omega : ¬ av < u)]; simp
        have HF := Lib.hid hf
        clear hr hf
        go_enter Try.func26, Try.ntmps26
        go_wp2_with fail
        refine HA.out.mono ?_
        rintro o w1 ⟨rfl, rfl⟩
        go_wp2_with fail
        go_ret2
        exact ⟨a, n, c, by rw [HF.out]; rfl, HNO.out HF.out, Below.refl _ _⟩
      · have hd3 : decide (u ≤ av) = false := decide_eq_false h3
        have hf : risesP es (k, u) = true := by rw [hr, decide_eq_true (by omega : av < u), decide_eq_true (by omega : u ≤ 2199023255552), decide_eq_true (by omega : k ≠ 0)]; rfl
        have HF := Lib.hid hf
        have HPY := Lib.hid (put_yes hf)
        clear hr hf
        go_enter Try.func26, Try.ntmps26
        go_wp2_with fail
        refine HA.out.mono ?_
        rintro o w1 ⟨rfl, rfl⟩
        go_wp2_with fail
        go_loopw [8, 9, 10] (fun v d i wr => ∃ (m : Nat) (dn : Bool) (acc : List Ent), i = .int .i64 m ∧ d = .bool dn ∧ m ≤ n ∧ acc.length + (if dn = true then 0 else 1) ≤ m + 1 ∧ acc ++ restP (k, u) dn (es.drop m) = restP (k, u) false es ∧ RowE w v acc wr) (fun _ _ i _ => n - (intOf i).toNat)
        case atStart => exact ⟨0, false, [], rfl, rfl, Nat.zero_le _, Nat.le_refl _, rfl, RowE.start w⟩
        case round =>
          obtain ⟨m, dn, acc, rfl, rfl, hm, hal, hacc, hR⟩ := hrel
          by_cases hlt : m < n
          · obtain ⟨⟨y, z⟩, hx⟩ : ∃ x, es[m]? = some x := ⟨_, List.getElem?_eq_getElem (by rw [HN.out]; exact hlt)⟩
            obtain ⟨b, off, rfl, hbl, f0, f1⟩ := HZ.out.at_ hx
            have hyok := HOK.out _ (List.mem_of_getElem? hx)
            have d0 := (hR.bel.cell (p := ⟨b, off + m * 2, none⟩) hbl).trans f0
            have d1 := (hR.bel.cell (p := ⟨b, off + m * 2 + 1, none⟩) hbl).trans f1
            simp only at d0 d1 hyok
            have g1 : (0 : Int) ≤ m := by omega
            have g2 : (m : Int) < n := by omega
            have HDR := Lib.hid (drop_cons hx)
            obtain ⟨wo, hwo⟩ : ∃ x, x = wr := ⟨wr, rfl⟩
            subst hwo
            obtain ⟨W1, hW1⟩ : ∃ W1, wo.alloc (.cells #[.int .u64 (y : Nat), .int .i64 z] 41) = W1 := ⟨_, rfl⟩
            have hb01 : Below wo.heap.size wo W1 := by rw [← hW1]; exact (Below.refl _ _).alloc (Nat.le_refl _) _
            have hnew : W1.heap[wo.heap.size]? = some (.cells #[.int .u64 (y : Nat), .int .i64 z] 41) := by rw [← hW1]; exact World.alloc_heap_new wo _
            have hl1 : wo.heap.size < W1.heap.size := (Array.getElem?_eq_some_iff.1 hnew).1
            have c0 : W1.cell? ⟨wo.heap.size, 0, none⟩ = some (.int .u64 (y : Nat)) := cell_of_row W1 _ 0 _ _ _ hnew
            have c1 : W1.cell? ⟨wo.heap.size, 1, none⟩ = some (.int .i64 z) := cell_of_row W1 _ 1 _ _ _ hnew
            have HW1 := Lib.hid hW1
            have HR1 := Lib.hid (hR.below hb01)
            have HBX := Lib.hid (fun (W : World) (hb : Below W1.heap.size W1 W) => (hb.block _ hl1).trans hnew)
            have HWI := Lib.hid (fun W => refWithin_any k y W hs hyok)
            have HC := Lib.hid (refCmp_any k y W1 hs hyok)
            have HACC := Lib.hid hacc
            have HLTR := Lib.hid (fun k h => (World.ownsRow.lt hR.row k h).2)
            have hcl : ltS k y = decide (cmpS k y < 0) := rfl
            obtain ⟨cv, hcv⟩ : ∃ cv, cmpS k y = cv := ⟨_, rfl⟩
            rw [hcv] at HC hcl
            clear hx f0 f1 hW1 hb01 hnew hcv hR hacc
            cases hwi : withinB k y with
            | false =>
              have HGO : Hid (goesB (k, u) (y, z) = false) := Lib.hid (by unfold goesB; simp only; rw [hwi]; rfl)
              rw [hwi] at HWI
              cases dn with
              | true =>
                simp only [if_true, Nat.add_zero] at hal
                go_upto_region 9 with fail
                rw [HW1.out]
                go_wp2_with (first | (go_at_call 29; refine (HWI.out _).mono ?_; rintro e w' ⟨rfl, hx⟩; obtain rfl := hx) | (at_builtin; refine wpList_append_own_at _ rfl _ _ 22 rfl w.heap.size 41 i0 (.agg #[.int .u64 0, .int .i64 0]) 2 16 Try.underlying22 hi hz0 hz1 hz2 rfl (by decide) _ _ _ rfl (HR1.out.row.alloc _) ⟨W1.heap.size, 0, none⟩ 1 1 [.int .u64 (y : Nat), .int .i64 z] rfl rfl (World.news_of_block (World.alloc_heap_new W1 _)) (by simp [Value.oneCell']) (by unfold maxLen; omega) (by have := HR1.out.bel.size; omega) (by have := HR1.out.bel.size; simp; omega) ?_; intro v' A hown' hgrow _ _; have HA := Lib.hid (HR1.out.app y z _ hown' hgrow); clear hown' hgrow))
                go_roundw
                case rel => exact ⟨m + 1, true, acc ++ [(y, z)], by go_num, rfl, by omega, by simp; omega, by rw [List.append_assoc, List.singleton_append, ← rest_done HGO.out, ← HDR.out]; exact HACC.out, HA.out⟩
                case measure => simp [intOf]; omega
              | false =>
                rw [if_neg (by decide)] at hal
                by_cases hcl2 : cv < 0
                · have hcd : decide (cv < 0) = true := decide_eq_true hcl2
                  have hlt2 : ltS k y = true := by rw [hcl, hcd]
                  clear hcl
                  go_upto_region 9 with fail
                  rw [HW1.out]
                  go_wp2_with (first | (go_at_call 29; refine (HWI.out _).mono ?_; rintro e w' ⟨rfl, hx⟩; obtain rfl := hx) | (go_at_call 28; refine HC.out.mono ?_; rintro o W2 ⟨rfl, hb2⟩; have HR2 := Lib.hid (HR1.out.below hb2); have HB2 := Lib.hid hb2; clear hb2) | (at_builtin; refine wpList_append_own_at _ rfl _ _ 22 rfl w.heap.size 41 i0 (.agg #[.int .u64 0, .int .i64 0]) 2 16 Try.underlying22 hi hz0 hz1 hz2 rfl (by decide) _ _ _ rfl (HR2.out.row.alloc _) ⟨W2.heap.size, 0, none⟩ 1 1 [.int .u64 (k : Nat), .int .i64 u] rfl rfl (World.news_of_block (World.alloc_heap_new W2 _)) (by simp [Value.oneCell']) (by unfold maxLen; omega) (by have := HR2.out.bel.size; omega) (by have := HR2.out.bel.size; simp; omega) ?_; intro v' A hown' hgrow _ _; have HA := Lib.hid (HR2.out.app k u _ hown' hgrow); have hAr := (hgrow.block wo.heap.size (Nat.lt_of_lt_of_le (Nat.lt_of_lt_of_le hl1 HB2.out.size) (by simp)) (fun e => Nat.lt_irrefl _ (HLTR.out _ e.symm))).trans ((heap_alloc_old' W2 _ _ (Nat.lt_of_lt_of_le hl1 HB2.out.size)).trans (HBX.out W2 HB2.out)); have e0 := cell_of_row A _ 0 _ _ _ hAr; have e1 := cell_of_row A _ 1 _ _ _ hAr; clear hown' hgrow hAr) | (at_builtin; refine wpList_append_own_at _ rfl _ _ 22 rfl w.heap.size 41 i0 (.agg #[.int .u64 0, .int .i64 0]) 2 16 Try.underlying22 hi hz0 hz1 hz2 rfl (by decide) _ _ _ rfl (HA.out.row.alloc _) ⟨A.heap.size, 0, none⟩ 1 1 [.int .u64 (y : Nat), .int .i64 z] rfl rfl (World.news_of_block (World.alloc_heap_new A _)) (by simp [Value.oneCell']) (by simp [maxLen]; omega) (by simp; omega) (by have := HA.out.bel.size; simp; omega) ?_; intro v'' A2 hown' hgrow _ _; have HA2 := Lib.hid (HA.out.app y z _ hown' hgrow); clear hown' hgrow))
                  go_roundw
                  case rel => exact ⟨m + 1, true, acc ++ [(k, u)] ++ [(y, z)], by go_num, rfl, by omega, by simp; omega, by rw [List.append_assoc, List.append_assoc, List.singleton_append, List.singleton_append, ← rest_here HGO.out hlt2, ← HDR.out]; exact HACC.out, HA2.out⟩
                  case measure => simp [intOf]; omega
                · have hcd : decide (cv < 0) = false := decide_eq_false hcl2
                  have hlt2 : ltS k y = false := by rw [hcl, hcd]
                  clear hcl
                  go_upto_region 9 with fail
                  rw [HW1.out]
                  go_wp2_with (first | (go_at_call 29; refine (HWI.out _).mono ?_; rintro e w' ⟨rfl, hx⟩; obtain rfl := hx) | (go_at_call 28; refine HC.out.mono ?_; rintro o W2 ⟨rfl, hb2⟩; have HR2 := Lib.hid (HR1.out.below hb2); have e0 := (hb2.cell (p := ⟨wo.heap.size, 0, none⟩) hl1).trans c0; have e1 := (hb2.cell (p := ⟨wo.heap.size, 1, none⟩) hl1).trans c1; clear hb2) | (at_builtin; refine wpList_append_own_at _ rfl _ _ 22 rfl w.heap.size 41 i0 (.agg #[.int .u64 0, .int .i64 0]) 2 16 Try.underlying22 hi hz0 hz1 hz2 rfl (by decide) _ _ _ rfl (HR2.out.row.alloc _) ⟨W2.heap.size, 0, none⟩ 1 1 [.int .u64 (y : Nat), .int .i64 z] rfl rfl (World.news_of_block (World.alloc_heap_new W2 _)) (by simp [Value.oneCell']) (by unfold maxLen; omega) (by have := HR2.out.bel.size; omega) (by have := HR2.out.bel.size; simp; omega) ?_; intro v' A hown' hgrow _ _; have HA := Lib.hid (HR2.out.app y z _ hown' hgrow); clear hown' hgrow))
                  go_roundw
                  case rel => exact ⟨m + 1, false, acc ++ [(y, z)], by go_num, rfl, by omega, by simp; omega, by rw [List.append_assoc, List.singleton_append, ← rest_on HGO.out hlt2, ← HDR.out]; exact HACC.out, HA.out⟩
                  case measure => simp [intOf]; omega
            | true =>
              by_cases hzu : z ≤ u
              · have hzd : decide (z ≤ u) = true := decide_eq_true hzu
                have HGO : Hid (goesB (k, u) (y, z) = true) := Lib.hid (by unfold goesB; simp only; rw [hwi, hzd]; rfl)
                rw [hwi] at HWI
                go_upto_region 9 with fail
                rw [HW1.out]
                go_wp2_with (go_at_call 29; refine (HWI.out _).mono ?_; rintro e w' ⟨rfl, hx⟩; obtain rfl := hx)
                go_roundw
                case rel => exact ⟨m + 1, dn, acc, by go_num, rfl, by omega, Nat.le_trans hal (Nat.le_succ _), by rw [← rest_goes (d := dn) (r := es.drop (m + 1)) HGO.out, ← HDR.out]; exact HACC.out, HR1.out⟩
                case measure => simp [intOf]; omega
              · have hzd : decide (z ≤ u) = false := decide_eq_false hzu
                have HGO : Hid (goesB (k, u) (y, z) = false) := Lib.hid (by unfold goesB; simp only; rw [hwi, hzd]; rfl)
                rw [hwi] at HWI
                cases dn with
                | true =>
                  simp only [if_true, Nat.add_zero] at hal
                  go_upto_region 9 with fail
                  rw [HW1.out]
                  go_wp2_with (first | (go_at_call 29; refine (HWI.out _).mono ?_; rintro e w' ⟨rfl, hx⟩; obtain rfl := hx) | (at_builtin; refine wpList_append_own_at _ rfl _ _ 22 rfl w.heap.size 41 i0 (.agg #[.int .u64 0, .int .i64 0]) 2 16 Try.underlying22 hi hz0 hz1 hz2 rfl (by decide) _ _ _ rfl (HR1.out.row.alloc _) ⟨W1.heap.size, 0, none⟩ 1 1 [.int .u64 (y : Nat), .int .i64 z] rfl rfl (World.news_of_block (World.alloc_heap_new W1 _)) (by simp [Value.oneCell']) (by unfold maxLen; omega) (by have := HR1.out.bel.size; omega) (by have := HR1.out.bel.size; simp; omega) ?_; intro v' A hown' hgrow _ _; have HA := Lib.hid (HR1.out.app y z _ hown' hgrow); clear hown' hgrow))
                  go_roundw
                  case rel => exact ⟨m + 1, true, acc ++ [(y, z)], by go_num, rfl, by omega, by simp; omega, by rw [List.append_assoc, List.singleton_append, ← rest_done HGO.out, ← HDR.out]; exact HACC.out, HA.out⟩
                  case measure => simp [intOf]; omega
                | false =>
                  rw [if_neg (by decide)] at hal
                  by_cases hcl2 : cv < 0
                  · have hcd : decide (cv < 0) = true := decide_eq_true hcl2
                    have hlt2 : ltS k y = true := by rw [hcl, hcd]
                    clear hcl
                    go_upto_region 9 with fail
                    rw [HW1.out]
                    go_wp2_with (first | (go_at_call 29; refine (HWI.out _).mono ?_; rintro e w' ⟨rfl, hx⟩; obtain rfl := hx) | (go_at_call 28; refine HC.out.mono ?_; rintro o W2 ⟨rfl, hb2⟩; have HR2 := Lib.hid (HR1.out.below hb2); have HB2 := Lib.hid hb2; clear hb2) | (at_builtin; refine wpList_append_own_at _ rfl _ _ 22 rfl w.heap.size 41 i0 (.agg #[.int .u64 0, .int .i64 0]) 2 16 Try.underlying22 hi hz0 hz1 hz2 rfl (by decide) _ _ _ rfl (HR2.out.row.alloc _) ⟨W2.heap.size, 0, none⟩ 1 1 [.int .u64 (k : Nat), .int .i64 u] rfl rfl (World.news_of_block (World.alloc_heap_new W2 _)) (by simp [Value.oneCell']) (by unfold maxLen; omega) (by have := HR2.out.bel.size; omega) (by have := HR2.out.bel.size; simp; omega) ?_; intro v' A hown' hgrow _ _; have HA := Lib.hid (HR2.out.app k u _ hown' hgrow); have hAr := (hgrow.block wo.heap.size (Nat.lt_of_lt_of_le (Nat.lt_of_lt_of_le hl1 HB2.out.size) (by simp)) (fun e => Nat.lt_irrefl _ (HLTR.out _ e.symm))).trans ((heap_alloc_old' W2 _ _ (Nat.lt_of_lt_of_le hl1 HB2.out.size)).trans (HBX.out W2 HB2.out)); have e0 := cell_of_row A _ 0 _ _ _ hAr; have e1 := cell_of_row A _ 1 _ _ _ hAr; clear hown' hgrow hAr) | (at_builtin; refine wpList_append_own_at _ rfl _ _ 22 rfl w.heap.size 41 i0 (.agg #[.int .u64 0, .int .i64 0]) 2 16 Try.underlying22 hi hz0 hz1 hz2 rfl (by decide) _ _ _ rfl (HA.out.row.alloc _) ⟨A.heap.size, 0, none⟩ 1 1 [.int .u64 (y : Nat), .int .i64 z] rfl rfl (World.news_of_block (World.alloc_heap_new A _)) (by simp [Value.oneCell']) (by simp [maxLen]; omega) (by simp; omega) (by have := HA.out.bel.size; simp; omega) ?_; intro v'' A2 hown' hgrow _ _; have HA2 := Lib.hid (HA.out.app y z _ hown' hgrow); clear hown' hgrow))
                    go_roundw
                    case rel => exact ⟨m + 1, true, acc ++ [(k, u)] ++ [(y, z)], by go_num, rfl, by omega, by simp; omega, by rw [List.append_assoc, List.append_assoc, List.singleton_append, List.singleton_append, ← rest_here HGO.out hlt2, ← HDR.out]; exact HACC.out, HA2.out⟩
                    case measure => simp [intOf]; omega
                  · have hcd : decide (cv < 0) = false := decide_eq_false hcl2
                    have hlt2 : ltS k y = false := by rw [hcl, hcd]
                    clear hcl
                    go_upto_region 9 with fail
                    rw [HW1.out]
                    go_wp2_with (first | (go_at_call 29; refine (HWI.out _).mono ?_; rintro e w' ⟨rfl, hx⟩; obtain rfl := hx) | (go_at_call 28; refine HC.out.mono ?_; rintro o W2 ⟨rfl, hb2⟩; have HR2 := Lib.hid (HR1.out.below hb2); have e0 := (hb2.cell (p := ⟨wo.heap.size, 0, none⟩) hl1).trans c0; have e1 := (hb2.cell (p := ⟨wo.heap.size, 1, none⟩) hl1).trans c1; clear hb2) | (at_builtin; refine wpList_append_own_at _ rfl _ _ 22 rfl w.heap.size 41 i0 (.agg #[.int .u64 0, .int .i64 0]) 2 16 Try.underlying22 hi hz0 hz1 hz2 rfl (by decide) _ _ _ rfl (HR2.out.row.alloc _) ⟨W2.heap.size, 0, none⟩ 1 1 [.int .u64 (y : Nat), .int .i64 z] rfl rfl (World.news_of_block (World.alloc_heap_new W2 _)) (by simp [Value.oneCell']) (by unfold maxLen; omega) (by have := HR2.out.bel.size; omega) (by have := HR2.out.bel.size; simp; omega) ?_; intro v' A hown' hgrow _ _; have HA := Lib.hid (HR2.out.app y z _ hown' hgrow); clear hown' hgrow))
                    go_roundw
                    case rel => exact ⟨m + 1, false, acc ++ [(y, z)], by go_num, rfl, by omega, by simp; omega, by rw [List.append_assoc, List.singleton_append, ← rest_on HGO.out hlt2, ← HDR.out]; exact HACC.out, HA.out⟩
                    case measure => simp [intOf]; omega
          · obtain rfl : m = n := by omega
            have hnil : es.drop m = [] := List.drop_eq_nil_of_le (by rw [HN.out]; exact Nat.le_refl _)
            rw [hnil] at hacc
            have HACC := Lib.hid hacc
            have HR := Lib.hid hR
            clear hnil hacc hR
            cases dn with
            | true =>
              go_wp2_with fail
              go_ret2
              obtain ⟨va, vc, hvv⟩ := own_form HR.out.row
              exact ⟨va, acc.length, vc, by rw [HF.out, ← hvv]; rfl, by rw [HPY.out, ← HACC.out, ← hvv]; simpa [restP, dropE] using EnsP.of_owns HR.out.row, HR.out.bel⟩
            | false =>
              rw [if_neg (by decide)] at hal
              obtain ⟨wo, hwo⟩ : ∃ x, x = wr := ⟨wr, rfl⟩
              subst hwo
              go_wp2_with (at_builtin; refine wpList_append_own_at _ rfl _ _ 22 rfl w.heap.size 41 i0 (.agg #[.int .u64 0, .int .i64 0]) 2 16 Try.underlying22 hi hz0 hz1 hz2 rfl (by decide) _ _ _ rfl (HR.out.row.alloc _) ⟨wo.heap.size, 0, none⟩ 1 1 [.int .u64 (k : Nat), .int .i64 u] rfl rfl (World.news_of_block (World.alloc_heap_new wo _)) (by simp [Value.oneCell']) (by unfold maxLen; omega) (by have := HR.out.bel.size; omega) (by have := HR.out.bel.size; simp; omega) ?_; intro v' A hown' hgrow _ _; have HA := Lib.hid (HR.out.app k u _ hown' hgrow); clear hown' hgrow)
              go_ret2
              obtain ⟨va, vc, hvv⟩ := own_form HA.out.row
              exact ⟨va, (acc ++ [(k, u)]).length, vc, by rw [HF.out, ← hvv]; rfl, by rw [HPY.out, ← HACC.out, ← hvv]; simpa [restP, dropE, insE] using EnsP.of_owns HA.out.row, HA.out.bel⟩
end Go.Proofs.Ytpcbdjdmhemjdaa
