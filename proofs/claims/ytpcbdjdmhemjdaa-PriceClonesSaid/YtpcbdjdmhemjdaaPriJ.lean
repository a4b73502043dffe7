/- price's raise: an entry is put into a row that is owned. Written by tools/gen_prij.py. -/
import Derived.Test.YtpcbdjdmhemjdaaPriI
import Derived.Test.YtpcbdjdmhemjdaaRegionSeq
namespace Go.Proofs.Ytpcbdjdmhemjdaa
open Go.RowKit
set_option linter.unusedVariables false
attribute [local go_sem] Oper.semAt_some

set_option maxRecDepth 100000 in
set_option maxHeartbeats 8000000 in
theorem raise_any (base : Nat) (rv : Value) (e : Ent) (es : List Ent) (w : World) (hs : okS e.1) (ht : Tie es) (hlen : es.length ≤ 1048570) (hr : rises withinB 2199023255552 es e = true) (hbase : base ≤ w.heap.size)
    (hrow : w.ownsRow base 41 2 rv es.length (flatVE es)) :
    Calls Try.prog 33 #[rv, .agg #[.int .u64 (e.1 : Nat), .int .i64 e.2]] w fun o w' => RaiTo base rv es e w o w' := by
  obtain ⟨k, u⟩ := e
  simp only at hs ⊢
  have hok : ∀ x ∈ es, okS x.1 := fun x hx => (ht.right x hx).1
  obtain ⟨w1, hw1⟩ : ∃ w1, w.alloc (.cells #[.int .u64 (k : Nat), .int .i64 u] 41) = w1 := ⟨_, rfl⟩
  have hb01 : Below w.heap.size w w1 := by rw [← hw1]; exact (Below.refl _ _).alloc (Nat.le_refl _) _
  have hnew : w1.heap[w.heap.size]? = some (.cells #[.int .u64 (k : Nat), .int .i64 u] 41) := by rw [← hw1]; exact World.alloc_heap_new w _
  have hbl : w.heap.size < w1.heap.size := (Array.getElem?_eq_some_iff.1 hnew).1
  have c0 : w1.cell? ⟨w.heap.size, 0, none⟩ = some (.int .u64 (k : Nat)) := cell_of_row w1 _ 0 _ _ _ hnew
  have c1 : w1.cell? ⟨w.heap.size, 1, none⟩ = some (.int .i64 u) := cell_of_row w1 _ 1 _ _ _ hnew
  have hr1 : w1.ownsRow base 41 2 rv es.length (flatVE es) := row_but hrow (But.of_below (own := []) hb01) (fun _ _ hk => nomatch hk)
  have HP := Lib.hid (fun (a : Option Addr) (c : Nat) (h : rv = .slice a es.length c) => place_any a es.length c k es w1 hs hok (by omega) ht.ordE (by rw [← h]; exact EnsP.of_owns hr1))
  have HLT := Lib.hid (World.ownsRow.lt hrow)
  have HW1 := Lib.hid hw1
  have HB1 := Lib.hid hb01
  have HNEW := Lib.hid hnew
  have HR1 := Lib.hid hr1
  have HOK := Lib.hid hok
  have HT := Lib.hid ht
  have HRS := Lib.hid hr
  obtain ⟨n, hn⟩ : ∃ n, es.length = n := ⟨_, rfl⟩
  have HN := Lib.hid hn
  rcases hrow.2 with ⟨rfl, h0⟩ | ⟨g, cap, cur, rfl, hg, hgb, hncap, hm, hsz, htk⟩
  · obtain rfl : es = [] := List.eq_nil_of_length_eq_zero h0
    have HD := Lib.hid (fun (W : World) (hb : Below w1.heap.size w1 W) => delete_empty w.heap.size 0 none (k, u) W hs ((hb.cell (p := ⟨w.heap.size, 0, none⟩) hbl).trans c0) ((hb.cell (p := ⟨w.heap.size, 1, none⟩) hbl).trans c1) (Nat.lt_of_lt_of_le hbl hb.size))
    have HBL := Lib.hid hbl
    have HC0 := Lib.hid c0
    have HC1 := Lib.hid c1
    clear hrow hr1 hw1 hb01 hnew hok ht hr hbl hn
    go_enter Try.func33, Try.ntmps33
    go_upto_region 1 with fail
    rw [HW1.out]
    go_wp2_with fail
    refine (HP.out none 0 rfl).mono ?_
    rintro o w2 ⟨p, hp, rfl, hb2⟩
    obtain rfl : p = 0 := by have := hp.le; simpa using this
    have HPL := Lib.hid hp
    have HB2 := Lib.hid hb2
    clear hp hb2 c0 c1
    go_wp2_with fail
    refine (HD.out w2 HB2.out).mono ?_
    rintro o w3 ⟨rfl, hb3⟩
    have c3 := (hb3.cell (p := ⟨w.heap.size, 0, none⟩) (Nat.lt_of_lt_of_le HBL.out HB2.out.size)).trans ((HB2.out.cell (p := ⟨w.heap.size, 0, none⟩) HBL.out).trans HC0.out)
    have c4 := (hb3.cell (p := ⟨w.heap.size, 1, none⟩) (Nat.lt_of_lt_of_le HBL.out HB2.out.size)).trans ((HB2.out.cell (p := ⟨w.heap.size, 1, none⟩) HBL.out).trans HC1.out)
    have HB3 := Lib.hid hb3
    clear hb3
    have hst : Below w.heap.size w w3 := HB1.out.trans ((HB2.out.mono HB1.out.size).trans (HB3.out.mono (Nat.le_trans HB1.out.size HB2.out.size)))
    have HIN := Lib.hid (fun (W : World) (Bv : Nat) (hB : Below w3.heap.size w3 W) (hge : w3.heap.size ≤ Bv) (hv : W.heap[Bv]? = some (.cells #[.int .u64 (k : Nat), .int .i64 u] 41)) => insert_any base 0 Bv 0 (.slice none 0 0) (k, u) [] W rfl (by decide) (Nat.le_refl _) (Nat.le_trans hbase (Nat.le_trans hst.size hB.size)) hv (by simp [Value.ownBlock]) ⟨rfl, .inl ⟨rfl, rfl⟩⟩)
    have HST := Lib.hid hst
    have hw3 : w.heap.size < w3.heap.size := Nat.lt_of_lt_of_le HBL.out (Nat.le_trans HB2.out.size HB3.out.size)
    have hmath := raise_math HT.out hs HPL.out HRS.out rfl
    have HMA := Lib.hid hmath
    clear hst hmath
    go_wp2_with fail
    have HC34 : Hid (∀ W, Below w3.heap.size w3 W → W.cell? ⟨w.heap.size, 0, none⟩ = some (.int .u64 (k : Nat)) ∧ W.cell? ⟨w.heap.size, 1, none⟩ = some (.int .i64 u)) := Lib.hid (fun W h => ⟨(h.cell (p := ⟨w.heap.size, 0, none⟩) hw3).trans c3, (h.cell (p := ⟨w.heap.size, 1, none⟩) hw3).trans c4⟩)
    clear c3 c4
    refine region_seq (l := [_, _, _, _, _, _, _, _, _]) (t := [_, _]) (by kernel_rfl) (by decide +kernel) (by decide +kernel) (fun y => { tmps := #[.slice none 0 0, .agg #[.int .u64 (k : Nat), .int .i64 u], undef, .pointer (some ⟨w.heap.size, 0, none⟩), .slice none 0 0, .int .i64 0, .bool (atB [] k 0), .slice none 0 0, .tuple #[.int .i64 0, .bool (atB [] k 0)], .slice none 0 0, .pointer (some ⟨w.heap.size, 0, none⟩), .int .u64 (k : Nat), .tuple #[.int .i64 0, .bool (atB [] k 0)], .int .i64 0, .bool (atB [] k 0), .slice none 0 0, .int .i64 0, .slice none 0 0, .func (.func 46) #[] #[.pointer (some ⟨w.heap.size, 0, none⟩)], .slice none 0 0, y 0, y 1, y 2, y 3, y 4, y 5, y 6, y 7, y 8, undef], defers := [] }) (fun W => Below w3.heap.size w3 W) (fun i' u' W => match i' with
      | 0 => u' = .slice none 0 0
      | 1 => u' = .int .i64 0
      | 2 => u' = .slice none 0 0
      | 3 => u' = .int .i64 0
      | 4 => u' = .int .i64 0
      | 5 => u' = .slice none 0 0
      | 6 => u' = .int .i64 0
      | 7 => u' = .agg #[.int .u64 (k : Nat), .int .i64 u]
      | 8 => ∃ Bv, w3.heap.size ≤ Bv ∧ u' = .slice (some ⟨Bv, 0, none⟩) 1 1 ∧ Bv < W.heap.size ∧ W.heap[Bv]? = some (.cells #[.int .u64 (k : Nat), .int .i64 u] 41)
      | _ => True) (fun A B => Below A.heap.size A B) ?hCa ?hVa (fun _ => undef) ?h0a ?hopa ?henda
    case hCa => exact fun A B h e => h.trans (e.mono h.size)
    case h0a => exact (Below.refl _ _).drew
    case hVa =>
      intro i' u' A B h e
      match i', h with
      | 0, h => exact h
      | 1, h => exact h
      | 2, h => exact h
      | 3, h => exact h
      | 4, h => exact h
      | 5, h => exact h
      | 6, h => exact h
      | 7, h => exact h
      | 8, ⟨Bv, h1, h2, h3, h4⟩ => exact ⟨Bv, h1, h2, Nat.lt_of_lt_of_le h3 e.size, (e.block Bv h3).trans h4⟩
      | _ + 9, _ => trivial
    case hopa =>
      simp only [AllDo]
      refine ⟨?o0a, ?o1a, ?o2a, ?o3a, ?o4a, ?o5a, ?o6a, ?o7a, ?o8a, trivial⟩
      all_goals intro x W hcW hd Q hQ
      all_goals simp [Region.binds] at hd
      all_goals rw [if_pos (show Region.wanted _ _ = true from rfl)]
      case o7a =>
        obtain ⟨d0, d1⟩ := HC34.out W hcW
        go_wp2
        exact ⟨_, rfl, Below.refl _ _, by simp [updV]⟩
      case o8a =>
        go_wp2
        exact ⟨_, rfl, (Below.refl _ _).alloc (Nat.le_refl _) _, W.heap.size, hcW.size, by simp [updV], by simp, World.alloc_heap_new W _⟩
      all_goals go_wp2
      all_goals first | exact ⟨_, rfl, Below.refl _ _, by simp [updV]⟩ | exact ⟨_, rfl, Below.refl _ _, by simp [updV, hd]⟩
    case henda =>
      intro v W hcW hv
      have e5 : v 5 = .slice none 0 0 := hv 5 (by decide)
      have e6 : v 6 = .int .i64 0 := hv 6 (by decide)
      obtain ⟨Bv, hge, e8, _, hBv⟩ : ∃ Bv, w3.heap.size ≤ Bv ∧ v 8 = .slice (some ⟨Bv, 0, none⟩) 1 1 ∧ Bv < W.heap.size ∧ W.heap[Bv]? = some (.cells #[.int .u64 (k : Nat), .int .i64 u] 41) := hv 8 (by decide)
      have HX := Lib.hid (HIN.out W Bv hcW hge hBv)
      have HCW := Lib.hid hcW
      clear hv hBv hcW hge
      simp only [SeqDoes]
      intro Q1 hQ1
      rw [if_pos (show Region.wanted _ _ = true from rfl)]
      go_wp2_with fail
      refine HX.out.mono ?_
      rintro o w5 ⟨v', rfl, hown, hgr⟩
      have HO := Lib.hid hown
      have HG := Lib.hid (grown_from (HST.out.trans (HCW.out.mono HST.out.size)) hgr)
      clear hown hgr
      go_wp2_with fail
      intro Q2 hQ2
      rw [if_pos (show Region.wanted _ _ = true from rfl)]
      go_wp2_with fail
      go_ret
      refine ⟨v', rfl, ?_, HG.out⟩
      have h1 := HO.out
      rw [HMA.out.2.2, ← HMA.out.2.1]
      exact h1
  · have HD := Lib.hid (fun (W : World) (p : Nat) (hp : p ≤ n) (a : Option Addr) (c : Nat) (ha : p < n → a = some ⟨g, p * 2, none⟩ ∧ c = cap - p) (hb : Below w1.heap.size w1 W) => delete_any base g n cap p w.heap.size (k, u) es W hs hok hn (by omega) hp ((hb.cell (p := ⟨w.heap.size, 0, none⟩) hbl).trans c0) ((hb.cell (p := ⟨w.heap.size, 1, none⟩) hbl).trans c1) (Nat.lt_of_lt_of_le hbl hb.size) (by have := (Array.getElem?_eq_some_iff.1 hgb).1; omega) (row_but (by rw [hn] at hr1; exact hr1) (But.of_below (own := []) hb) (fun _ _ hk => nomatch hk)) a c ha)
    have hgw : g < w.heap.size := (Array.getElem?_eq_some_iff.1 hgb).1
    have HBL := Lib.hid hbl
    have HC0 := Lib.hid c0
    have HC1 := Lib.hid c1
    rw [hn] at HP hlen hncap ⊢
    clear hrow hr1 hw1 hb01 hnew hok ht hr hbl hn hgb hsz htk
    go_enter Try.func33, Try.ntmps33
    go_upto_region 1 with fail
    rw [HW1.out]
    go_wp2_with fail
    refine (HP.out (some ⟨g, 0, none⟩) cap rfl).mono ?_
    rintro o w2 ⟨p, hp, rfl, hb2⟩
    have hpn : p ≤ n := by have := hp.le; have := HN.out; omega
    have hp0 : (0 : Int) ≤ (p : Int) := by omega
    have hpni : (p : Int) ≤ (n : Int) := by omega
    have hpc : (p : Int) ≤ (cap : Int) := by omega
    have HPL := Lib.hid hp
    have HB2 := Lib.hid hb2
    clear hp hb2 c0 c1
    by_cases hcp : cap = p
    · have hpn2 : ¬ p < n := by omega
      go_wp2_with fail
      refine (HD.out w2 p hpn _ _ (fun h => absurd h hpn2) HB2.out).mono ?_
      rintro o w3 ⟨m, a', c', hm, hpm, rfl, hown3, hb3⟩
      have c3 := (World.cell?_of_block (w := w2) (a := ⟨w.heap.size, 0, none⟩) (hb3.block w.heap.size (Nat.lt_of_lt_of_le HBL.out HB2.out.size) (by simp; omega))).trans ((HB2.out.cell (p := ⟨w.heap.size, 0, none⟩) HBL.out).trans HC0.out)
      have c4 := (World.cell?_of_block (w := w2) (a := ⟨w.heap.size, 1, none⟩) (hb3.block w.heap.size (Nat.lt_of_lt_of_le HBL.out HB2.out.size) (by simp; omega))).trans ((HB2.out.cell (p := ⟨w.heap.size, 1, none⟩) HBL.out).trans HC1.out)
      have hst : But [g] w w3 := (But.of_below (own := [g]) (HB1.out.trans (HB2.out.mono HB1.out.size))).trans' hb3
      have hma := raise_math HT.out hs HPL.out HRS.out hm
      have HIN := Lib.hid (fun (W : World) (Bv : Nat) (hB : Below w3.heap.size w3 W) (hge : w3.heap.size ≤ Bv) (hv : W.heap[Bv]? = some (.cells #[.int .u64 (k : Nat), .int .i64 u] 41)) => insert_any base (p + m) Bv p (.slice (some ⟨g, 0, none⟩) (p + m) cap) (k, u) _ W hma.1 (by omega) (Nat.le_add_right _ _) (Nat.le_trans hbase (Nat.le_trans hst.size hB.size)) hv (by have := hst.size; simp [Value.ownBlock]; omega) (row_but hown3 (But.of_below (own := []) hB) (fun _ _ hk => nomatch hk)))
      have HST := Lib.hid hst
      have hw3 : w.heap.size < w3.heap.size := Nat.lt_of_lt_of_le HBL.out (Nat.le_trans HB2.out.size hb3.size)
      have HMA := Lib.hid hma
      have i1 : (0 : Int) ≤ (p : Int) + (m : Int) := by omega
      have i2 : (p : Int) + (m : Int) ≤ (cap : Int) := by omega
      have i3 : ((p : Int) + (m : Int)).toNat = p + m := by omega
      have i4 : IntKind.i64.wrap ((p : Int) + (m : Int)) = (p : Int) + (m : Int) := by rw [IntKind.wrap_i64]; omega
      rw [hcp] at HIN
      have i5 : (p : Int) + (m : Int) ≤ (p : Int) := by omega
      clear hst hma hown3 hb3 hm
      go_wp2_with fail
      have HC34 : Hid (∀ W, Below w3.heap.size w3 W → W.cell? ⟨w.heap.size, 0, none⟩ = some (.int .u64 (k : Nat)) ∧ W.cell? ⟨w.heap.size, 1, none⟩ = some (.int .i64 u)) := Lib.hid (fun W h => ⟨(h.cell (p := ⟨w.heap.size, 0, none⟩) hw3).trans c3, (h.cell (p := ⟨w.heap.size, 1, none⟩) hw3).trans c4⟩)
      clear c3 c4
      refine region_seq (l := [_, _, _, _, _, _, _, _, _]) (t := [_, _]) (by kernel_rfl) (by decide +kernel) (by decide +kernel) (fun y => { tmps := #[.slice (some ⟨g, 0, none⟩) n p, .agg #[.int .u64 (k : Nat), .int .i64 u], undef, .pointer (some ⟨w.heap.size, 0, none⟩), .slice none 0 0, .int .i64 (p : Nat), .bool (atB es k (p : Nat)), .slice a' m c', .tuple #[.int .i64 (p : Nat), .bool (atB es k (p : Nat))], .slice (some ⟨g, 0, none⟩) n p, .pointer (some ⟨w.heap.size, 0, none⟩), .int .u64 (k : Nat), .tuple #[.int .i64 (p : Nat), .bool (atB es k (p : Nat))], .int .i64 (p : Nat), .bool (atB es k (p : Nat)), .slice (some ⟨g, 0, none⟩) n p, .int .i64 (p : Nat), .slice (some ⟨g, 0, none⟩) (n - p) 0, .func (.func 46) #[] #[.pointer (some ⟨w.heap.size, 0, none⟩)], .slice a' m c', y 0, y 1, y 2, y 3, y 4, y 5, y 6, y 7, y 8, undef], defers := [] }) (fun W => Below w3.heap.size w3 W) (fun i' u' W => match i' with
        | 0 => u' = .slice (some ⟨g, 0, none⟩) n p
        | 1 => u' = .int .i64 (p : Nat)
        | 2 => u' = .slice a' m c'
        | 3 => u' = .int .i64 (m : Nat)
        | 4 => u' = .int .i64 (((p : Nat) : Int) + (m : Int))
        | 5 => u' = .slice (some ⟨g, 0, none⟩) (p + m) p
        | 6 => u' = .int .i64 (p : Nat)
        | 7 => u' = .agg #[.int .u64 (k : Nat), .int .i64 u]
        | 8 => ∃ Bv, w3.heap.size ≤ Bv ∧ u' = .slice (some ⟨Bv, 0, none⟩) 1 1 ∧ Bv < W.heap.size ∧ W.heap[Bv]? = some (.cells #[.int .u64 (k : Nat), .int .i64 u] 41)
        | _ => True) (fun A B => Below A.heap.size A B) ?hCb ?hVb (fun _ => undef) ?h0b ?hopb ?hendb
      case hCb => exact fun A B h e => h.trans (e.mono h.size)
      case h0b => exact (Below.refl _ _).drew
      case hVb =>
        intro i' u' A B h e
        match i', h with
        | 0, h => exact h
        | 1, h => exact h
        | 2, h => exact h
        | 3, h => exact h
        | 4, h => exact h
        | 5, h => exact h
        | 6, h => exact h
        | 7, h => exact h
        | 8, ⟨Bv, h1, h2, h3, h4⟩ => exact ⟨Bv, h1, h2, Nat.lt_of_lt_of_le h3 e.size, (e.block Bv h3).trans h4⟩
        | _ + 9, _ => trivial
      case hopb =>
        simp only [AllDo]
        refine ⟨?o0b, ?o1b, ?o2b, ?o3b, ?o4b, ?o5b, ?o6b, ?o7b, ?o8b, trivial⟩
        all_goals intro x W hcW hd Q hQ
        all_goals simp [Region.binds] at hd
        all_goals rw [if_pos (show Region.wanted _ _ = true from rfl)]
        case o7b =>
          obtain ⟨d0, d1⟩ := HC34.out W hcW
          go_wp2
          exact ⟨_, rfl, Below.refl _ _, by simp [updV]⟩
        case o8b =>
          go_wp2
          exact ⟨_, rfl, (Below.refl _ _).alloc (Nat.le_refl _) _, W.heap.size, hcW.size, by simp [updV], by simp, World.alloc_heap_new W _⟩
        all_goals go_wp2
        all_goals first | exact ⟨_, rfl, Below.refl _ _, by simp [updV]⟩ | exact ⟨_, rfl, Below.refl _ _, by simp [updV, hd]⟩
      case hendb =>
        intro v W hcW hv
        have e5 : v 5 = .slice (some ⟨g, 0, none⟩) (p + m) p := hv 5 (by decide)
        have e6 : v 6 = .int .i64 (p : Nat) := hv 6 (by decide)
        obtain ⟨Bv, hge, e8, _, hBv⟩ : ∃ Bv, w3.heap.size ≤ Bv ∧ v 8 = .slice (some ⟨Bv, 0, none⟩) 1 1 ∧ Bv < W.heap.size ∧ W.heap[Bv]? = some (.cells #[.int .u64 (k : Nat), .int .i64 u] 41) := hv 8 (by decide)
        have HX := Lib.hid (HIN.out W Bv hcW hge hBv)
        have HCW := Lib.hid hcW
        clear hv hBv hcW hge
        simp only [SeqDoes]
        intro Q1 hQ1
        rw [if_pos (show Region.wanted _ _ = true from rfl)]
        go_wp2_with fail
        refine HX.out.mono ?_
        rintro o w5 ⟨v', rfl, hown, hgr⟩
        have HO := Lib.hid hown
        have HG := Lib.hid (grown_from_but (HST.out.trans' (But.of_below HCW.out)) hgr)
        clear hown hgr
        go_wp2_with fail
        intro Q2 hQ2
        rw [if_pos (show Region.wanted _ _ = true from rfl)]
        go_wp2_with fail
        go_ret
        refine ⟨v', rfl, ?_, HG.out⟩
        have h1 := HO.out
        rw [HMA.out.2.2, ← HMA.out.2.1]
        exact h1
    ·
      go_wp2_with fail
      refine (HD.out w2 p hpn _ _ (fun _ => ⟨rfl, rfl⟩) HB2.out).mono ?_
      rintro o w3 ⟨m, a', c', hm, hpm, rfl, hown3, hb3⟩
      have c3 := (World.cell?_of_block (w := w2) (a := ⟨w.heap.size, 0, none⟩) (hb3.block w.heap.size (Nat.lt_of_lt_of_le HBL.out HB2.out.size) (by simp; omega))).trans ((HB2.out.cell (p := ⟨w.heap.size, 0, none⟩) HBL.out).trans HC0.out)
      have c4 := (World.cell?_of_block (w := w2) (a := ⟨w.heap.size, 1, none⟩) (hb3.block w.heap.size (Nat.lt_of_lt_of_le HBL.out HB2.out.size) (by simp; omega))).trans ((HB2.out.cell (p := ⟨w.heap.size, 1, none⟩) HBL.out).trans HC1.out)
      have hst : But [g] w w3 := (But.of_below (own := [g]) (HB1.out.trans (HB2.out.mono HB1.out.size))).trans' hb3
      have hma := raise_math HT.out hs HPL.out HRS.out hm
      have HIN := Lib.hid (fun (W : World) (Bv : Nat) (hB : Below w3.heap.size w3 W) (hge : w3.heap.size ≤ Bv) (hv : W.heap[Bv]? = some (.cells #[.int .u64 (k : Nat), .int .i64 u] 41)) => insert_any base (p + m) Bv p (.slice (some ⟨g, 0, none⟩) (p + m) cap) (k, u) _ W hma.1 (by omega) (Nat.le_add_right _ _) (Nat.le_trans hbase (Nat.le_trans hst.size hB.size)) hv (by have := hst.size; simp [Value.ownBlock]; omega) (row_but hown3 (But.of_below (own := []) hB) (fun _ _ hk => nomatch hk)))
      have HST := Lib.hid hst
      have hw3 : w.heap.size < w3.heap.size := Nat.lt_of_lt_of_le HBL.out (Nat.le_trans HB2.out.size hb3.size)
      have HMA := Lib.hid hma
      have i1 : (0 : Int) ≤ (p : Int) + (m : Int) := by omega
      have i2 : (p : Int) + (m : Int) ≤ (cap : Int) := by omega
      have i3 : ((p : Int) + (m : Int)).toNat = p + m := by omega
      have i4 : IntKind.i64.wrap ((p : Int) + (m : Int)) = (p : Int) + (m : Int) := by rw [IntKind.wrap_i64]; omega
      clear hst hma hown3 hb3 hm
      go_wp2_with fail
      have HC34 : Hid (∀ W, Below w3.heap.size w3 W → W.cell? ⟨w.heap.size, 0, none⟩ = some (.int .u64 (k : Nat)) ∧ W.cell? ⟨w.heap.size, 1, none⟩ = some (.int .i64 u)) := Lib.hid (fun W h => ⟨(h.cell (p := ⟨w.heap.size, 0, none⟩) hw3).trans c3, (h.cell (p := ⟨w.heap.size, 1, none⟩) hw3).trans c4⟩)
      clear c3 c4
      refine region_seq (l := [_, _, _, _, _, _, _, _, _]) (t := [_, _]) (by kernel_rfl) (by decide +kernel) (by decide +kernel) (fun y => { tmps := #[.slice (some ⟨g, 0, none⟩) n cap, .agg #[.int .u64 (k : Nat), .int .i64 u], undef, .pointer (some ⟨w.heap.size, 0, none⟩), .slice none 0 0, .int .i64 (p : Nat), .bool (atB es k (p : Nat)), .slice a' m c', .tuple #[.int .i64 (p : Nat), .bool (atB es k (p : Nat))], .slice (some ⟨g, 0, none⟩) n cap, .pointer (some ⟨w.heap.size, 0, none⟩), .int .u64 (k : Nat), .tuple #[.int .i64 (p : Nat), .bool (atB es k (p : Nat))], .int .i64 (p : Nat), .bool (atB es k (p : Nat)), .slice (some ⟨g, 0, none⟩) n cap, .int .i64 (p : Nat), .slice (some ⟨g, p * 2, none⟩) (n - p) (cap - p), .func (.func 46) #[] #[.pointer (some ⟨w.heap.size, 0, none⟩)], .slice a' m c', y 0, y 1, y 2, y 3, y 4, y 5, y 6, y 7, y 8, undef], defers := [] }) (fun W => Below w3.heap.size w3 W) (fun i' u' W => match i' with
        | 0 => u' = .slice (some ⟨g, 0, none⟩) n cap
        | 1 => u' = .int .i64 (p : Nat)
        | 2 => u' = .slice a' m c'
        | 3 => u' = .int .i64 (m : Nat)
        | 4 => u' = .int .i64 (((p : Nat) : Int) + (m : Int))
        | 5 => u' = .slice (some ⟨g, 0, none⟩) (p + m) cap
        | 6 => u' = .int .i64 (p : Nat)
        | 7 => u' = .agg #[.int .u64 (k : Nat), .int .i64 u]
        | 8 => ∃ Bv, w3.heap.size ≤ Bv ∧ u' = .slice (some ⟨Bv, 0, none⟩) 1 1 ∧ Bv < W.heap.size ∧ W.heap[Bv]? = some (.cells #[.int .u64 (k : Nat), .int .i64 u] 41)
        | _ => True) (fun A B => Below A.heap.size A B) ?hCc ?hVc (fun _ => undef) ?h0c ?hopc ?hendc
      case hCc => exact fun A B h e => h.trans (e.mono h.size)
      case h0c => exact (Below.refl _ _).drew
      case hVc =>
        intro i' u' A B h e
        match i', h with
        | 0, h => exact h
        | 1, h => exact h
        | 2, h => exact h
        | 3, h => exact h
        | 4, h => exact h
        | 5, h => exact h
        | 6, h => exact h
        | 7, h => exact h
        | 8, ⟨Bv, h1, h2, h3, h4⟩ => exact ⟨Bv, h1, h2, Nat.lt_of_lt_of_le h3 e.size, (e.block Bv h3).trans h4⟩
        | _ + 9, _ => trivial
      case hopc =>
        simp only [AllDo]
        refine ⟨?o0c, ?o1c, ?o2c, ?o3c, ?o4c, ?o5c, ?o6c, ?o7c, ?o8c, trivial⟩
        all_goals intro x W hcW hd Q hQ
        all_goals simp [Region.binds] at hd
        all_goals rw [if_pos (show Region.wanted _ _ = true from rfl)]
        case o7c =>
          obtain ⟨d0, d1⟩ := HC34.out W hcW
          go_wp2
          exact ⟨_, rfl, Below.refl _ _, by simp [updV]⟩
        case o8c =>
          go_wp2
          exact ⟨_, rfl, (Below.refl _ _).alloc (Nat.le_refl _) _, W.heap.size, hcW.size, by simp [updV], by simp, World.alloc_heap_new W _⟩
        all_goals go_wp2
        all_goals first | exact ⟨_, rfl, Below.refl _ _, by simp [updV]⟩ | exact ⟨_, rfl, Below.refl _ _, by simp [updV, hd]⟩
      case hendc =>
        intro v W hcW hv
        have e5 : v 5 = .slice (some ⟨g, 0, none⟩) (p + m) cap := hv 5 (by decide)
        have e6 : v 6 = .int .i64 (p : Nat) := hv 6 (by decide)
        obtain ⟨Bv, hge, e8, _, hBv⟩ : ∃ Bv, w3.heap.size ≤ Bv ∧ v 8 = .slice (some ⟨Bv, 0, none⟩) 1 1 ∧ Bv < W.heap.size ∧ W.heap[Bv]? = some (.cells #[.int .u64 (k : Nat), .int .i64 u] 41) := hv 8 (by decide)
        have HX := Lib.hid (HIN.out W Bv hcW hge hBv)
        have HCW := Lib.hid hcW
        clear hv hBv hcW hge
        simp only [SeqDoes]
        intro Q1 hQ1
        rw [if_pos (show Region.wanted _ _ = true from rfl)]
        go_wp2_with fail
        refine HX.out.mono ?_
        rintro o w5 ⟨v', rfl, hown, hgr⟩
        have HO := Lib.hid hown
        have HG := Lib.hid (grown_from_but (HST.out.trans' (But.of_below HCW.out)) hgr)
        clear hown hgr
        go_wp2_with fail
        intro Q2 hQ2
        rw [if_pos (show Region.wanted _ _ = true from rfl)]
        go_wp2_with fail
        go_ret
        refine ⟨v', rfl, ?_, HG.out⟩
        have h1 := HO.out
        rw [HMA.out.2.2, ← HMA.out.2.1]
        exact h1
end Go.Proofs.Ytpcbdjdmhemjdaa
