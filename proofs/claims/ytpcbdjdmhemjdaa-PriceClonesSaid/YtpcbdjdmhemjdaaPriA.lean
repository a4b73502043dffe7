/- Contracts of price's search for a place. -/
import Derived.Test.YtpcbdjdmhemjdaaPriR
namespace Go.Proofs.Ytpcbdjdmhemjdaa
open Go.RowKit
set_option linter.unusedVariables false
attribute [local go_sem] Oper.semAt_some

theorem place1_any (e : Ent) (s : Nat) (w : World) (he : okS e.1) (hs : okS s) :
    Calls Try.prog 52 #[.agg #[.int .u64 (e.1 : Nat), .int .i64 e.2], .int .u64 (s : Nat)] w fun o w' => o = .returned (.int .i64 (cmpS e.1 s)) ∧ Below w.heap.size w w' := by
  obtain ⟨k, v⟩ := e
  simp only at he ⊢
  obtain ⟨w1, hw1⟩ : ∃ w1, w.alloc (.cells #[.int .u64 (k : Nat), .int .i64 v] 41) = w1 := ⟨_, rfl⟩
  have hb01 : Below w.heap.size w w1 := by rw [← hw1]; exact (Below.refl _ _).alloc (Nat.le_refl _) _
  have hnew : w1.heap[w.heap.size]? = some (.cells #[.int .u64 (k : Nat), .int .i64 v] 41) := by rw [← hw1]; exact World.alloc_heap_new w _
  have c0 : w1.cell? ⟨w.heap.size, 0, none⟩ = some (.int .u64 (k : Nat)) := cell_of_row w1 _ 0 _ _ _ hnew
  have HW := Lib.hid hw1
  have HB := Lib.hid hb01
  have HC := Lib.hid (cmp_any k s w1 he hs)
  clear hw1 hb01 hnew
  go_enter Try.func52, Try.ntmps52
  go_upto_region 1 with fail
  rw [HW.out]
  go_wp2_with fail
  refine HC.out.mono ?_
  rintro o w2 ⟨rfl, hb⟩
  have HB2 := Lib.hid (HB.out.trans (hb.mono HB.out.size))
  clear hb
  go_wp2
  go_ret
  exact ⟨rfl, HB2.out⟩
/-- Entries in order. -/
def OrdE (es : List Ent) : Prop := ∀ (i j : Nat) (x y : Ent), i < j → es[i]? = some x → es[j]? = some y → ltS x.1 y.1 = true
def atB (es : List Ent) (s p : Nat) : Bool := match es[p]? with | some x => decide (x.1 = s) | none => false
theorem half_le {i j : Nat} (h : i < j) : i ≤ (i + j) / 2 ∧ (i + j) / 2 < j := by omega
set_option maxRecDepth 100000 in
set_option maxHeartbeats 4000000 in
theorem search_any (a : Option Addr) (n c s : Nat) (es : List Ent) (w : World) (hs : okS s) (hok : ∀ x ∈ es, okS x.1) (hlen : es.length ≤ 1048576) (hord : OrdE es) (hz : EnsP w.heap.size w (.slice a n c) es) :
    Calls Try.prog 51 #[.slice a n c, .int .u64 (s : Nat), .func (.func 52) #[] #[]] w fun o w' => ∃ p, IsPl ltS es s p ∧ o = .returned (.tuple #[.int .i64 (p : Nat), .bool (atB es s p)]) ∧ Below w.heap.size w w' := by
  have hn := hz.len
  have HZ := Lib.hid hz
  have HN := Lib.hid hn.symm
  have HOK := Lib.hid hok
  have HORD := Lib.hid hord
  have HP1 := Lib.hid (fun (e : Ent) (W : World) (he : okS e.1) => place1_any e s W he hs)
  have hn0 : n ≤ 1048576 := by omega
  clear hz hn hok hord hlen
  go_enter Try.func51, Try.ntmps51
  go_wp2
  go_loopw [9, 10] (fun iv jv wr => ∃ i j : Nat, iv = .int .i64 i ∧ jv = .int .i64 j ∧ i ≤ j ∧ j ≤ n ∧ (∀ t x, es[t]? = some x → t < i → ltS x.1 s = true) ∧ (∀ t x, es[t]? = some x → j ≤ t → ltS x.1 s = false) ∧ Below w.heap.size w wr) (fun iv jv _ => (intOf jv).toNat - (intOf iv).toNat)
  case atStart => exact ⟨0, n, rfl, rfl, Nat.zero_le _, Nat.le_refl _, fun t x _ h => by omega, fun t x h h2 => by have := (List.getElem?_eq_some_iff.1 h).1; have := HN.out; omega, Below.refl _ _⟩
  case round =>
    obtain ⟨i, j, rfl, rfl, hij, hjn, hlo, hhi, hB⟩ := hrel
    obtain ⟨w1, hw1⟩ : ∃ x, x = wr := ⟨wr, rfl⟩
    subst hw1
    by_cases hlt : i < j
    · have hlti : (i : Int) < (j : Int) := by omega
      obtain ⟨h, hh⟩ : ∃ h, (i + j) / 2 = h := ⟨_, rfl⟩
      have hh1 : i ≤ h ∧ h < j := by omega
      obtain ⟨⟨k, u⟩, hx⟩ : ∃ x, es[h]? = some x := ⟨_, List.getElem?_eq_getElem (by rw [HN.out]; omega)⟩
      obtain ⟨b, off, rfl, hb, f0, f1⟩ := HZ.out.at_ hx
      have hxok := HOK.out _ (List.mem_of_getElem? hx)
      have d0 := (hB.cell (p := ⟨b, off + h * 2, none⟩) hb).trans f0
      have d1 := (hB.cell (p := ⟨b, off + h * 2 + 1, none⟩) hb).trans f1
      simp only at d0 d1 hxok
      have g1 : (0 : Int) ≤ h := by omega
      have g2 : (h : Int) < n := by omega
      have hdiv : ((i : Int) + (j : Int)) / 2 = (h : Int) := by omega
      have HC1 := Lib.hid (HP1.out (k, u) w1 hxok)
      have hcl : ltS k s = decide (cmpS k s < 0) := rfl
      obtain ⟨cv, hcv⟩ : ∃ cv, cmpS k s = cv := ⟨_, rfl⟩
      simp only at HC1
      rw [hcv] at HC1 hcl
      have HST : Hid ((cv < 0 → ∀ t x, es[t]? = some x → t < h + 1 → ltS x.1 s = true) ∧ (¬ cv < 0 → ∀ t x, es[t]? = some x → h ≤ t → ltS x.1 s = false)) := Lib.hid ⟨fun hc t x ht hth => by
        have hk : ltS k s = true := by rw [hcl]; exact decide_eq_true hc
        rcases Nat.lt_or_ge t h with h' | h'
        · exact sOrd.trans _ _ _ (HORD.out t h x (k, u) h' ht hx) hk
        · obtain rfl : t = h := by omega
          rw [hx] at ht; cases ht; exact hk, fun hc t x ht hth => by
        have hk : ltS k s = false := by rw [hcl]; exact decide_eq_false hc
        rcases Nat.lt_or_ge h t with h' | h'
        · cases hl : ltS x.1 s with
          | false => rfl
          | true => rw [sOrd.trans _ _ _ (HORD.out h t (k, u) x h' hx ht) hl] at hk; cases hk
        · obtain rfl : t = h := by omega
          rw [hx] at ht; cases ht; exact hk⟩
      have HBB := Lib.hid hB
      have HLO := Lib.hid hlo
      have HHI := Lib.hid hhi
      clear hB hlo hhi hx f0 f1 hcl hcv hh
      by_cases hc : cv < 0
      · have hcd : decide (cv < 0) = true := decide_eq_true hc
        go_wp2_with fail
        refine HC1.out.mono ?_
        rintro o w2 ⟨rfl, hb2⟩
        have HB2 := Lib.hid (HBB.out.trans (hb2.mono HBB.out.size))
        clear hb2
        go_wp2_with fail
        go_roundw
        case rel => exact ⟨h + 1, j, by go_num, rfl, by omega, hjn, HST.out.1 hc, HHI.out, HB2.out⟩
        case measure => simp [intOf]; omega
      · have hcd : decide (cv < 0) = false := decide_eq_false hc
        go_wp2_with fail
        refine HC1.out.mono ?_
        rintro o w2 ⟨rfl, hb2⟩
        have HB2 := Lib.hid (HBB.out.trans (hb2.mono HBB.out.size))
        clear hb2
        go_wp2_with fail
        go_roundw
        case rel => exact ⟨i, h, rfl, rfl, by omega, by omega, HLO.out, HST.out.2 hc, HB2.out⟩
        case measure => simp [intOf]; omega
    · have hlti : ¬ (i : Int) < (j : Int) := by omega
      obtain rfl : i = j := by omega
      have hpl : IsPl ltS es s i := ⟨by rw [HN.out]; exact hjn, fun t x ht => ⟨fun h => hlo t x ht h, fun h => by
        rcases Nat.lt_or_ge t i with h' | h'
        · exact h'
        · rw [hhi t x ht h'] at h; cases h⟩⟩
      have HPL := Lib.hid hpl
      have HBB := Lib.hid hB
      by_cases hin : i < n
      · obtain ⟨⟨k, u⟩, hx⟩ : ∃ x, es[i]? = some x := ⟨_, List.getElem?_eq_getElem (by rw [HN.out]; omega)⟩
        obtain ⟨b, off, rfl, hb, f0, f1⟩ := HZ.out.at_ hx
        have hxok := HOK.out _ (List.mem_of_getElem? hx)
        have d0 := (hB.cell (p := ⟨b, off + i * 2, none⟩) hb).trans f0
        have d1 := (hB.cell (p := ⟨b, off + i * 2 + 1, none⟩) hb).trans f1
        simp only at d0 d1 hxok
        have g1 : (0 : Int) ≤ i := by omega
        have g2 : (i : Int) < n := by omega
        have HC1 := Lib.hid (HP1.out (k, u) w1 hxok)
        have hat : atB es s i = (cmpS k s == 0) := by
          unfold atB
          rw [hx]
          simp only
          rw [Bool.eq_iff_iff]
          simp [cmpS_zero]
        obtain ⟨cv, hcv⟩ : ∃ cv, cmpS k s = cv := ⟨_, rfl⟩
        simp only at HC1
        rw [hcv] at HC1 hat
        have HAT := Lib.hid hat
        clear hpl hB hlo hhi hx f0 f1 hcv hat
        go_wp2_with fail
        refine HC1.out.mono ?_
        rintro o w2 ⟨rfl, hb2⟩
        have HB2 := Lib.hid (HBB.out.trans (hb2.mono HBB.out.size))
        clear hb2
        go_wp2_with fail
        go_ret2
        exact ⟨i, HPL.out, by rw [HAT.out]; rfl, HB2.out⟩
      · obtain rfl : i = n := by omega
        have hat : atB es s i = false := by
          unfold atB
          rw [List.getElem?_eq_none (by rw [HN.out]; exact Nat.le_refl _)]
        have HAT := Lib.hid hat
        clear hpl hB hlo hhi hat
        go_wp2_with fail
        go_ret2
        exact ⟨i, HPL.out, by rw [HAT.out]; rfl, HBB.out⟩
theorem place_any (a : Option Addr) (n c s : Nat) (es : List Ent) (w : World) (hs : okS s) (hok : ∀ x ∈ es, okS x.1) (hlen : es.length ≤ 1048576) (hord : OrdE es) (hz : EnsP w.heap.size w (.slice a n c) es) :
    Calls Try.prog 43 #[.slice a n c, .int .u64 (s : Nat)] w fun o w' => ∃ p, IsPl ltS es s p ∧ o = .returned (.tuple #[.int .i64 (p : Nat), .bool (atB es s p)]) ∧ Below w.heap.size w w' := by
  have HS := Lib.hid (search_any a n c s es w hs hok hlen hord hz)
  go_enter Try.func43, Try.ntmps43
  go_wp2_with fail
  refine HS.out.mono ?_
  rintro o w1 ⟨p, hp, rfl, hb⟩
  have HP := Lib.hid hp
  have HB := Lib.hid hb
  clear hp hb
  go_wp2_with fail
  go_ret2
  exact ⟨p, HP.out, rfl, HB.out⟩
abbrev Tie (es : List Ent) : Prop := Tight ltS withinB okS 2199023255552 es
theorem Tight.ordE {es : List Ent} (h : Tie es) : OrdE es := fun i j x y hij hx hy => by
  obtain ⟨hi, rfl⟩ := List.getElem?_eq_some_iff.1 hx
  obtain ⟨hj, rfl⟩ := List.getElem?_eq_some_iff.1 hy
  exact List.pairwise_iff_getElem.1 h.inc i j hi hj hij
section
variable {wi : Nat → Nat → Bool}
theorem askL_appP (xs ys : List Ent) (s : Nat) : askL wi (xs ++ ys) s = max (askL wi xs s) (askL wi ys s) := by
  induction xs with
  | nil =>
    have := askL_nonneg (wi := wi) ys s
    show askL wi ys s = max 0 (askL wi ys s)
    omega
  | cons e es ih =>
    show askL wi (e :: (es ++ ys)) s = _
    rw [askL_cons, askL_cons, ih]
    split <;> omega
theorem askL_oneP (a : Ent) (s : Nat) : askL wi [a] s = if wi a.1 s = true then max 0 a.2 else 0 := rfl
end
theorem ask_take {es : List Ent} {s m : Nat} {x : Ent} (hx : es[m]? = some x) : askL withinB (es.take (m + 1)) s = if withinB x.1 s = true then max (askL withinB (es.take m) s) x.2 else askL withinB (es.take m) s := by
  have h0 := askL_nonneg (wi := withinB) (es.take m) s
  rw [List.take_add_one, hx, Option.toList_some, askL_appP, askL_oneP]
  split <;> omega
set_option maxRecDepth 100000 in
set_option maxHeartbeats 4000000 in
theorem asked_any (a : Option Addr) (n c s : Nat) (es : List Ent) (w : World) (hs : okS s) (ht : Tie es) (hlen : es.length ≤ 1048576) (hz : EnsP w.heap.size w (.slice a n c) es) :
    Calls Try.prog 32 #[.slice a n c, .int .u64 (s : Nat)] w fun o w' => o = .returned (.int .i64 (askL withinB es s)) ∧ Below w.heap.size w w' := by
  have hok : ∀ x ∈ es, okS x.1 := fun x hx => (ht.right x hx).1
  have hn := hz.len
  have HPL := Lib.hid (place_any a n c s es w hs hok hlen ht.ordE hz)
  have HZ := Lib.hid hz
  have HN := Lib.hid hn.symm
  have HOK := Lib.hid hok
  have HT := Lib.hid ht
  have hn0 : n ≤ 1048576 := by omega
  clear hz hn hok hlen ht
  go_enter Try.func32, Try.ntmps32
  go_wp2_with fail
  refine HPL.out.mono ?_
  rintro o w1 ⟨p, hp, rfl, hb⟩
  have hpn : p ≤ n := by have := hp.le; have := HN.out; omega
  have hask := asked_eq sOrd HT.out hs hp
  have HB := Lib.hid hb
  clear hp
  cases hat : atB es s p with
  | true =>
    obtain ⟨⟨k, u⟩, hx⟩ : ∃ x, es[p]? = some x := by
      cases h : es[p]? with
      | none => unfold atB at hat; rw [h] at hat; cases hat
      | some x => exact ⟨x, rfl⟩
    have hks : k = s := by unfold atB at hat; rw [hx] at hat; simpa using hat
    have hv : askL withinB es s = u := by rw [← hask]; unfold askC; rw [hx]; simp [hks]
    obtain ⟨b, off, rfl, hbl, f0, f1⟩ := HZ.out.at_ hx
    have d1 := (hb.cell (p := ⟨b, off + p * 2 + 1, none⟩) hbl).trans f1
    simp only at d1
    have g1 : (0 : Int) ≤ p := by omega
    have hpn2 : p < n := by have := (List.getElem?_eq_some_iff.1 hx).1; have := HN.out; omega
    have g2 : (p : Int) < n := by omega
    have HV := Lib.hid hv
    clear hask hx hks hv f0 f1 hb hat
    go_wp2_with fail
    go_ret
    exact ⟨by rw [HV.out]; rfl, HB.out⟩
  | false =>
    have hv : askL withinB (es.take p) s = askL withinB es s := by
      rw [← hask]
      unfold askC
      cases h : es[p]? with
      | none => rfl
      | some x =>
        have : ¬ x.1 = s := fun e => by unfold atB at hat; rw [h] at hat; simp [e] at hat
        simp [this]
    have HV := Lib.hid hv
    have hw1 := hb.size
    have hcap : p ≤ c := by
      have hz := HZ.out
      rcases hz with ⟨rfl, _, _, e⟩ | ⟨b, off, cap, e, _, hc, _⟩
      · cases e; omega
      · cases e; omega
    have hcapi : (p : Int) ≤ (c : Int) := by omega
    have hp0 : (0 : Int) ≤ (p : Int) := by omega
    clear hask hv hat hb
    go_upto_region 6 with fail
    go_loopw [7, 26] (fun o i wr => ∃ m : Nat, o = .int .i64 (askL withinB (es.take m) s) ∧ i = .int .i64 m ∧ m ≤ p ∧ Below w.heap.size w wr) (fun _ i _ => p - (intOf i).toNat)
    case atStart => exact ⟨0, rfl, rfl, Nat.zero_le _, HB.out⟩
    case round =>
      obtain ⟨m, rfl, rfl, hm, hB⟩ := hrel
      obtain ⟨wo, hwo⟩ : ∃ x, x = wr := ⟨wr, rfl⟩
      subst hwo
      by_cases hlt : m < p
      · obtain ⟨⟨k, u⟩, hx⟩ : ∃ x, es[m]? = some x := ⟨_, List.getElem?_eq_getElem (by rw [HN.out]; omega)⟩
        obtain ⟨b, off, rfl, hbl, f0, f1⟩ := HZ.out.at_ hx
        have hkok := HOK.out _ (List.mem_of_getElem? hx)
        have hnx := ask_take (s := s) hx
        have d0 := (hB.cell (p := ⟨b, off + m * 2, none⟩) hbl).trans f0
        have d1 := (hB.cell (p := ⟨b, off + m * 2 + 1, none⟩) hbl).trans f1
        simp only at d0 d1 hkok hnx
        have g1 : (0 : Int) ≤ m := by omega
        have g2 : (m : Int) < p := by omega
        obtain ⟨W1, hW1⟩ : ∃ W1, wo.alloc (.cells #[.int .u64 (k : Nat), .int .i64 u] 41) = W1 := ⟨_, rfl⟩
        have hb01 : Below wo.heap.size wo W1 := by rw [← hW1]; exact (Below.refl _ _).alloc (Nat.le_refl _) _
        have hnew : W1.heap[wo.heap.size]? = some (.cells #[.int .u64 (k : Nat), .int .i64 u] 41) := by rw [← hW1]; exact World.alloc_heap_new wo _
        have c0 : W1.cell? ⟨wo.heap.size, 0, none⟩ = some (.int .u64 (k : Nat)) := cell_of_row W1 _ 0 _ _ _ hnew
        have c1 : W1.cell? ⟨wo.heap.size, 1, none⟩ = some (.int .i64 u) := cell_of_row W1 _ 1 _ _ _ hnew
        have HW1 := Lib.hid hW1
        have HNX := Lib.hid hnx
        have HBN := Lib.hid (hB.trans (hb01.mono hB.size))
        have HWI := Lib.hid (fun W => within_any k s W hkok hs)
        obtain ⟨ov, hov⟩ : ∃ ov, askL withinB (es.take m) s = ov := ⟨_, rfl⟩
        rw [hov] at HNX ⊢
        clear hB hx f0 f1 hnx hW1 hnew hb01 hov
        go_upto_region 8 with fail
        rw [HW1.out]
        cases hwi : withinB k s with
        | false =>
          rw [hwi] at HWI HNX
          rw [if_neg (by decide)] at HNX
          go_wp2_with (go_at_call 44; refine (HWI.out _).mono ?_; rintro e w' ⟨rfl, hx⟩; obtain rfl := hx)
          go_roundw
          case rel => exact ⟨m + 1, by rw [HNX.out], by go_num, by omega, HBN.out⟩
          case measure => simp [intOf]; omega
        | true =>
          rw [hwi] at HWI HNX
          rw [if_pos rfl] at HNX
          go_wp2_with (go_at_call 44; refine (HWI.out _).mono ?_; rintro e w' ⟨rfl, hx⟩; obtain rfl := hx)
          go_roundw
          case rel => exact ⟨m + 1, by rw [HNX.out, show (if ov < u then u else ov) = max ov u from by split <;> omega], by go_num, by omega, HBN.out⟩
          case measure => simp [intOf]; omega
      · obtain rfl : m = p := by omega
        have HBB := Lib.hid hB
        rw [HV.out]
        clear hB
        go_wp2_with fail
        go_ret
        exact ⟨rfl, HBB.out⟩
end Go.Proofs.Ytpcbdjdmhemjdaa
