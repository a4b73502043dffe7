/- For whatever two rows of entries and whatever row of sets law PriceMerges answers true: a store that is made of two asks for each set the most that either asks; two of which neither asks less are the same. No condition. -/
import Derived.Test.YtpcbdjdmhemjdaaPriZ
import Derived.Test.YtpcbdjdmhemjdaaOpenEn
import Derived.Test.YtpcbdjdmhemjdaaPriLs
namespace Go.Proofs.Ytpcbdjdmhemjdaa.priceMerges
open Go.ChangeShapes Go.WideShapes Go.ChangeAt Go.RowKit Go.Proofs.Ytpcbdjdmhemjdaa
set_option linter.unusedVariables false
attribute [local go_sem] Oper.semAt_some
theorem flat2 (b1 b2 : Nat) (v1 v2 : Value) (E F : List Ent) : flatL [(b1, v1, E), (b2, v2, F)] = E ++ F := by simp [flatL]
theorem ptrs2 {W : World} {B t pb qb : Nat} {ps qs : Value} {E F : List Ent} (hb : W.heap[B]? = some (.cells #[.pointer (some ⟨pb, 0, none⟩), .pointer (some ⟨qb, 0, none⟩)] t)) (hp : PS W pb ps E) (hq : PS W qb qs F) : PtrsP W (some ⟨B, 0, none⟩) [(pb, ps, E), (qb, qs, F)] := fun j x hj => by
  have hl := (Array.getElem?_eq_some_iff.1 hb).1
  match j, hj with
  | 0, hj => simp at hj; subst hj; exact ⟨B, 0, rfl, hl, cell_of_row W B 0 _ _ _ hb, hp⟩
  | 1, hj => simp at hj; subst hj; exact ⟨B, 0, rfl, hl, cell_of_row W B 1 _ _ _ hb, hq⟩
  | j + 2, hj => simp at hj
theorem ask_ofR {es : List Ent} (h : ∀ x ∈ es, rightE 2199023255552 x = true) (s : Nat) : askL withinB (ofP es) s = askL withinB es s := by
  obtain ⟨a1, _, a3⟩ := ask_of (lt := ltS) (wi := withinB) (most := 2199023255552) sOrd es [] s
  refine Int.le_antisymm ?_ (askL_le (askL_nonneg _ _) (fun x hx hw => a1 x hx hw (h x hx)))
  show askL withinB (es.foldl (putE ltS withinB 2199023255552) []) s ≤ _
  rcases a3 with e | ⟨x, k1, k2, k3, k4⟩
  · rw [e]
    exact askL_nonneg _ _
  · rw [k4]
    exact askL_ge k1 k2
theorem tie_right {es : List Ent} (h : Tie es) : ∀ x ∈ es, rightE 2199023255552 x = true := fun x hx => by
  have := h.right x hx
  unfold rightE
  simp [this.2.1, this.2.2.2]
theorem less_none {E F : List Ent} (hF : Tie F) : lessF E F = none ↔ ∀ s, askL withinB F s ≤ askL withinB E s := by
  unfold lessF
  rw [List.find?_eq_none]
  constructor
  · intro h s
    refine askL_le (askL_nonneg _ _) (fun x hx hw => ?_)
    have h1 := h x hx
    simp only [decide_eq_true_eq] at h1
    have h2 : askL withinB E x.1 ≤ askL withinB E s := askL_le (askL_nonneg _ _) (fun z hz hzw => askL_ge hz (sOrd.wtrans _ _ _ hzw hw))
    omega
  · intro h x hx
    simp only [decide_eq_true_eq]
    have h1 := h x.1
    rw [ask_own sOrd hF hx] at h1
    omega
section
variable {E F : List Ent} (hE : Tie E) (hF : Tie F)
theorem merged_len (E F : List Ent) : (ofP (E ++ F)).length ≤ E.length + F.length := by have := of_len' (E ++ F); rwa [List.length_append] at this
include hE hF
theorem app_ok : ∀ x ∈ E ++ F, okS x.1 := fun x hx => by
  rcases List.mem_append.1 hx with h | h
  · exact (hE.right x h).1
  · exact (hF.right x h).1
theorem merged_swap : ofP (E ++ F) = ofP (F ++ E) := of_same sOrd (fun x => by simp [or_comm]) (app_ok hE hF)
theorem merged_tie : Tie (ofP (E ++ F)) := of_tie (app_ok hE hF)
theorem merged_ask (s : Nat) : askL withinB (ofP (E ++ F)) s = max (askL withinB E s) (askL withinB F s) := by
  rw [ask_ofR (fun x hx => by
    rcases List.mem_append.1 hx with h | h
    · exact tie_right hE x h
    · exact tie_right hF x h), askL_appP]
theorem merged_same : decide (ofP (E ++ F) = E) = !(lessF E F).isSome := by
  have key : ofP (E ++ F) = E ↔ lessF E F = none := by
    rw [less_none hF]
    constructor
    · intro h s
      have := merged_ask hE hF s
      rw [h] at this
      omega
    · intro h
      exact tight_ext sOrd (merged_tie hE hF) hE (fun s _ => by rw [merged_ask hE hF]; have := h s; omega)
  cases hl : lessF E F with
  | none => simp [key.2 hl]
  | some x => simp; intro h; rw [key.1 h] at hl; cases hl
theorem both_same : decide (E = F) = (!(lessF E F).isSome && !(lessF F E).isSome) := by
  have k1 := less_none (E := E) hF
  have k2 := less_none (E := F) (F := E) hE
  by_cases h : E = F
  · subst h
    have : lessF E E = none := k1.2 (fun s => Int.le_refl _)
    rw [this]; simp
  · rw [decide_eq_false h]
    cases h1 : lessF E F with
    | some x => simp
    | none =>
      cases h2 : lessF F E with
      | some x => simp
      | none => exact absurd (tight_ext sOrd hE hF (fun s _ => Int.le_antisymm (k2.1 h2 s) (k1.1 h1 s))) h
theorem merged_less : lessF (ofP (E ++ F)) E = none ∧ lessF (ofP (E ++ F)) F = none := by
  have ht := merged_tie hE hF
  exact ⟨(less_none hE).2 (fun s => by rw [merged_ask hE hF]; omega), (less_none hF).2 (fun s => by rw [merged_ask hE hF]; omega)⟩
end
theorem less_some {es F : List Ent} (hF : Tie F) (h : (lessF es F).isSome = true) : okS (lessS es F) ∧ askL withinB es (lessS es F) < askL withinB F (lessS es F) := by
  unfold lessS
  cases hl : lessF es F with
  | none => rw [hl] at h; cases h
  | some x =>
    unfold lessF at hl
    have h1 := List.mem_of_find?_eq_some hl
    have h2 := List.find?_some hl
    simp only [decide_eq_true_eq] at h2
    simp only
    exact ⟨(hF.right x h1).1, by rw [ask_own sOrd hF h1]; exact h2⟩

set_option maxRecDepth 100000 in
set_option maxHeartbeats 16000000 in
theorem walk (w : World) (p0 : Option Addr) (n0 c0 : Nat) (l0 : List Ent) (S0 : EnsP w.heap.size w (.slice p0 n0 c0) l0) (b0 : (∀ x ∈ l0, okS x.1 ∧ In64 x.2) ∧ l0.length ≤ Go.maxLen) (p1 : Option Addr) (n1 c1 : Nat) (l1 : List Ent) (S1 : EnsP w.heap.size w (.slice p1 n1 c1) l1) (b1 : (∀ x ∈ l1, okS x.1 ∧ In64 x.2) ∧ l1.length ≤ Go.maxLen) (p2 : Option Addr) (n2 c2 : Nat) (l2 : List Nat) (S2 : SetP w.heap.size w (.slice p2 n2 c2) l2) (b2 : (∀ x ∈ l2, okS x) ∧ l2.length ≤ Go.maxLen) :
    Calls Try.prog 7 #[.slice p0 n0 c0, .slice p1 n1 c1, .slice p2 n2 c2] w fun e w' => e = .returned (.bool true) ∧ Below w.heap.size w w' := by
  have hl0 := S0.len
  have hl1 := S1.len
  have hl2 := S2.len
  have HAL := Lib.hid (fun W => priceAlive_any W)
  have HO0 : Hid (∀ x ∈ l0, okS x.1) := Lib.hid (fun x hx => (b0.1 x hx).1)
  have HO1 : Hid (∀ x ∈ l1, okS x.1) := Lib.hid (fun x hx => (b1.1 x hx).1)
  have HO2 := Lib.hid b2.1
  have HN0 := Lib.hid hl0.symm
  have HN1 := Lib.hid hl1.symm
  have HN2 := Lib.hid hl2.symm
  have HZ0 := Lib.hid S0
  have HZ1 := Lib.hid S1
  have HZ2 := Lib.hid S2
  clear S0 b0 S1 b1 S2 b2 hl0 hl1 hl2
  by_cases h0 : 40 < n0
  · have g0 : decide ((40 : Int) < (n0 : Int)) = true := decide_eq_true (by omega)
    go_enter Try.func7, Try.ntmps7
    go_wp2_with (go_at_call 8; refine (HAL.out _).mono ?_; rintro e w2 ⟨rfl, hb2⟩; have HB2 := Lib.hid hb2; clear hb2)
    go_ret
    exact ⟨rfl, HB2.out⟩
  have g0 : decide ((40 : Int) < (n0 : Int)) = false := decide_eq_false (by omega)
  have hn0 : n0 ≤ 40 := by omega
  clear h0
  by_cases h1 : 40 < n1
  · have g1 : decide ((40 : Int) < (n1 : Int)) = true := decide_eq_true (by omega)
    go_enter Try.func7, Try.ntmps7
    go_wp2_with (go_at_call 8; refine (HAL.out _).mono ?_; rintro e w2 ⟨rfl, hb2⟩; have HB2 := Lib.hid hb2; clear hb2)
    go_ret
    exact ⟨rfl, HB2.out⟩
  have g1 : decide ((40 : Int) < (n1 : Int)) = false := decide_eq_false (by omega)
  have hn1 : n1 ≤ 40 := by omega
  clear h1
  by_cases h2 : 40 < n2
  · have g2 : decide ((40 : Int) < (n2 : Int)) = true := decide_eq_true (by omega)
    go_enter Try.func7, Try.ntmps7
    go_wp2_with (go_at_call 8; refine (HAL.out _).mono ?_; rintro e w2 ⟨rfl, hb2⟩; have HB2 := Lib.hid hb2; clear hb2)
    go_ret
    exact ⟨rfl, HB2.out⟩
  have g2 : decide ((40 : Int) < (n2 : Int)) = false := decide_eq_false (by omega)
  have hn2 : n2 ≤ 40 := by omega
  clear h2
  go_enter Try.func7, Try.ntmps7
  go_wp2_with (go_at_call 8; refine (HAL.out _).mono ?_; rintro e w2 ⟨rfl, hb2⟩; have HB2 := Lib.hid hb2; clear hb2)
  have HY2 : Hid (Below w2.heap.size w2 w2) := Lib.hid (Below.refl _ _)
  have HA0 := Lib.hid (of_any p0 n0 c0 l0 w2 HO0.out (by have := HN0.out; omega) ((HZ0.out.below HB2.out (Nat.le_refl _)).mono HB2.out.size))
  refine HA0.out.mono ?_
  rintro o y3 ⟨pb, ps, rfl, hpb, hp, hz⟩
  have HY3 : Hid (Below w2.heap.size w2 y3) := Lib.hid hz
  have HB3 := Lib.hid (HB2.out.trans (hz.mono HB2.out.size))
  have HP3 := Lib.hid hp
  have HE := Lib.hid (of_tie HO0.out)
  have HEL : Hid ((ofP l0).length ≤ 40) := Lib.hid (by have := of_len' l0; have := HN0.out; omega)
  have HA1 := Lib.hid (of_any p1 n1 c1 l1 y3 HO1.out (by have := HN1.out; omega) ((HZ1.out.below HB3.out (Nat.le_refl _)).mono HB3.out.size))
  clear hp hz hpb
  go_wp2_with fail
  refine HA1.out.mono ?_
  rintro o y4 ⟨qb, qs, rfl, hqb, hq, hz⟩
  have HB4 := Lib.hid (HB3.out.trans (hz.mono HB3.out.size))
  have HP4 := Lib.hid (HP3.out.below hz)
  have HQ4 := Lib.hid hq
  have HF := Lib.hid (of_tie HO1.out)
  have HFL : Hid ((ofP l1).length ≤ 40) := Lib.hid (by have := of_len' l1; have := HN1.out; omega)
  clear hq hz hqb
  obtain ⟨E, hE⟩ : ∃ E, ofP l0 = E := ⟨_, rfl⟩
  obtain ⟨F, hF⟩ : ∃ F, ofP l1 = F := ⟨_, rfl⟩
  rw [hE] at HP4 HE HEL
  rw [hF] at HQ4 HF HFL
  clear hE hF HP3 HA0 HA1 HY2 HY3
  obtain ⟨u5, hu5⟩ : ∃ x, y4.alloc (.cells #[.pointer (some ⟨pb, 0, none⟩), .pointer (some ⟨qb, 0, none⟩)] 25) = x := ⟨_, rfl⟩
  have hn5 : u5.heap[y4.heap.size]? = some (.cells #[.pointer (some ⟨pb, 0, none⟩), .pointer (some ⟨qb, 0, none⟩)] 25) := by rw [← hu5]; exact World.alloc_heap_new y4 _
  have hb5 : Below y4.heap.size y4 u5 := by rw [← hu5]; exact (Below.refl _ _).alloc (Nat.le_refl _) _
  have HM5 := Lib.hid (merge_any (some ⟨y4.heap.size, 0, none⟩) 2 2 [(pb, ps, E), (qb, qs, F)] u5 rfl (ptrs2 hn5 (HP4.out.below hb5) (HQ4.out.below hb5)) (by intro x hx; have := HEL.out; have := HFL.out; simp at hx; rcases hx with rfl | rfl <;> simp only <;> omega) (by decide))
  rw [flat2] at HM5
  have HU5 := Lib.hid hu5
  have HB45 := Lib.hid hb5
  clear hn5 hb5 hu5
  go_upto_region 6 with fail
  go_wp2_with fail
  rw [HU5.out]
  refine HM5.out.mono ?_
  rintro o y6 ⟨mb, ms, rfl, hmb, hm, hz⟩
  have hz46 := HB45.out.trans (hz.mono HB45.out.size)
  have HM6 := Lib.hid hm
  have HP6 := Lib.hid (HP4.out.below hz46)
  have HQ6 := Lib.hid (HQ4.out.below hz46)
  have HB6 := Lib.hid (HB4.out.trans (hz46.mono HB4.out.size))
  have HML := Lib.hid (merged_len E F)
  have HMS := Lib.hid (merged_swap HE.out HF.out)
  have HMT := Lib.hid (merged_tie HE.out HF.out)
  have HMA := Lib.hid (merged_ask HE.out HF.out)
  have HME := Lib.hid (merged_same HE.out HF.out)
  have HMF := Lib.hid (merged_same HF.out HE.out)
  have HEF := Lib.hid (both_same HE.out HF.out)
  have HL1 := Lib.hid (merged_less HE.out HF.out)
  rw [← HMS.out] at HMF
  clear hm hz hz46 hmb
  obtain ⟨M, hM⟩ : ∃ M, ofP (E ++ F) = M := ⟨_, rfl⟩
  rw [hM] at HM6 HML HMS HMT HMA HME HMF HL1
  clear hM
  obtain ⟨u7, hu7⟩ : ∃ x, y6.alloc (.cells #[.pointer (some ⟨qb, 0, none⟩), .pointer (some ⟨pb, 0, none⟩)] 25) = x := ⟨_, rfl⟩
  have hn7 : u7.heap[y6.heap.size]? = some (.cells #[.pointer (some ⟨qb, 0, none⟩), .pointer (some ⟨pb, 0, none⟩)] 25) := by rw [← hu7]; exact World.alloc_heap_new y6 _
  have hb7 : Below y6.heap.size y6 u7 := by rw [← hu7]; exact (Below.refl _ _).alloc (Nat.le_refl _) _
  have HM7 := Lib.hid (merge_any (some ⟨y6.heap.size, 0, none⟩) 2 2 [(qb, qs, F), (pb, ps, E)] u7 rfl (ptrs2 hn7 (HQ6.out.below hb7) (HP6.out.below hb7)) (by intro x hx; have := HEL.out; have := HFL.out; simp at hx; rcases hx with rfl | rfl <;> simp only <;> omega) (by decide))
  rw [flat2, ← HMS.out] at HM7
  have HU7 := Lib.hid hu7
  have HB67 := Lib.hid hb7
  clear hn7 hb7 hu7
  go_upto_region 7 with fail
  go_wp2_with fail
  rw [HU7.out]
  refine HM7.out.mono ?_
  rintro o y8 ⟨m2, ms2, rfl, hmb, hm, hz⟩
  have hz68 := HB67.out.trans (hz.mono HB67.out.size)
  have HS8 := Lib.hid (same_any y8 (HM6.out.below hz68) hm (by have := HML.out; have := HEL.out; have := HFL.out; omega) (by have := HML.out; have := HEL.out; have := HFL.out; omega))
  rw [show decide (M = M) = true from by simp] at HS8
  have HZ8 := Lib.hid hz68
  clear hm hz hz68 hmb
  go_wp2_with fail
  refine HS8.out.mono ?_
  rintro o y9 ⟨rfl, hz⟩
  have HZ9 := Lib.hid (HZ8.out.trans (hz.mono HZ8.out.size))
  have HM9 := Lib.hid (merge_any none 0 0 [] y9 rfl (fun j x hj => by simp at hj) (fun x hx => nomatch hx) (by decide))
  clear hz
  go_wp2_with fail
  refine HM9.out.mono ?_
  rintro o y10 ⟨m3, ms3, rfl, hmb, hm, hz⟩
  have HZ10 := Lib.hid (HZ9.out.trans (hz.mono HZ9.out.size))
  have HL10 := Lib.hid (len_any y10 hm)
  rw [show (((ofP (flatL [])).length : Nat) : Int) = 0 from rfl] at HL10
  clear hm hz hmb
  go_wp2_with fail
  refine HL10.out.mono ?_
  rintro o y11 ⟨rfl, hz⟩
  obtain rfl := hz
  go_wp2_with fail
  go_loopw [61] (fun i wr => ∃ m : Nat, i = .int .i64 m ∧ m ≤ n2 ∧ Below y6.heap.size y6 wr) (fun i _ => n2 - (intOf i).toNat)
  case atStart => exact ⟨0, rfl, Nat.zero_le _, HZ10.out⟩
  case round =>
    obtain ⟨m, rfl, hm, hB⟩ := hrel
    obtain ⟨wo, hwo⟩ : ∃ x, x = wr := ⟨wr, rfl⟩
    subst hwo
    have HB := Lib.hid hB
    clear hB
    by_cases hlt : m < n2
    · obtain ⟨s, hs⟩ : ∃ x, l2[m]? = some x := ⟨_, List.getElem?_eq_getElem (by rw [HN2.out]; exact hlt)⟩
      obtain ⟨b, off, rfl, hb, f0⟩ := HZ2.out.at_ hs
      have hsok := HO2.out _ (List.mem_of_getElem? hs)
      have d0 := ((HB6.out.trans (HB.out.mono HB6.out.size)).cell (p := ⟨b, off + m, none⟩) hb).trans f0
      have g5 : (0 : Int) ≤ m := by omega
      have g6 : (m : Int) < n2 := by omega
      have K1 := Lib.hid (ask_any s wo (HM6.out.below HB.out) hsok (by have := HML.out; have := HEL.out; have := HFL.out; omega))
      have K2 := Lib.hid (fun (W : World) (h : Below y6.heap.size y6 W) => ask_any s W (HP6.out.below h) hsok (by have := HEL.out; omega))
      have K3 := Lib.hid (fun (W : World) (h : Below y6.heap.size y6 W) => ask_any s W (HQ6.out.below h) hsok (by have := HFL.out; omega))
      have hma := HMA.out s
      obtain ⟨ve, hve⟩ : ∃ v, askL withinB E s = v := ⟨_, rfl⟩
      obtain ⟨vf, hvf⟩ : ∃ v, askL withinB F s = v := ⟨_, rfl⟩
      rw [hve] at K2 hma
      rw [hvf] at K3 hma
      rw [hma, show max ve vf = if ve < vf then vf else ve from by split <;> omega] at K1
      clear hs f0 hve hvf hma
      have gg : ∀ v : Int, (v != v) = false := by simp
      by_cases hvv : ve < vf
      · rw [if_pos hvv] at K1
        have gd : decide (ve < vf) = true := decide_eq_true hvv
        go_wp2_with fail
        refine K1.out.mono ?_
        rintro o z1 ⟨rfl, hy⟩
        have HQ1 := Lib.hid (HB.out.trans (hy.mono HB.out.size))
        clear hy d0
        go_wp2_with fail
        refine (K2.out z1 HQ1.out).mono ?_
        rintro o z2 ⟨rfl, hy⟩
        have HQ2 := Lib.hid (HQ1.out.trans (hy.mono HQ1.out.size))
        clear hy
        go_wp2_with fail
        refine (K3.out z2 HQ2.out).mono ?_
        rintro o z3 ⟨rfl, hy⟩
        have HQ3 := Lib.hid (HQ2.out.trans (hy.mono HQ2.out.size))
        clear hy
        go_wp2_with fail
        go_roundw
        case rel => exact ⟨m + 1, by go_num, by omega, HQ3.out⟩
        case measure => simp [intOf]; omega
      · rw [if_neg hvv] at K1
        have gd : decide (ve < vf) = false := decide_eq_false hvv
        go_wp2_with fail
        refine K1.out.mono ?_
        rintro o z1 ⟨rfl, hy⟩
        have HQ1 := Lib.hid (HB.out.trans (hy.mono HB.out.size))
        clear hy d0
        go_wp2_with fail
        refine (K2.out z1 HQ1.out).mono ?_
        rintro o z2 ⟨rfl, hy⟩
        have HQ2 := Lib.hid (HQ1.out.trans (hy.mono HQ1.out.size))
        clear hy
        go_wp2_with fail
        refine (K3.out z2 HQ2.out).mono ?_
        rintro o z3 ⟨rfl, hy⟩
        have HQ3 := Lib.hid (HQ2.out.trans (hy.mono HQ2.out.size))
        clear hy
        go_wp2_with fail
        go_roundw
        case rel => exact ⟨m + 1, by go_num, by omega, HQ3.out⟩
        case measure => simp [intOf]; omega
    · obtain rfl : m = n2 := by omega
      have T1 := Lib.hid (less_any wo (HM6.out.below HB.out) (HP6.out.below HB.out) (by have := HML.out; have := HEL.out; have := HFL.out; omega) (by have := HEL.out; omega))
      have T2 := Lib.hid (fun (W : World) (h : Below y6.heap.size y6 W) => less_any W (HM6.out.below h) (HQ6.out.below h) (by have := HML.out; have := HEL.out; have := HFL.out; omega) (by have := HFL.out; omega))
      have T3 := Lib.hid (fun (W : World) (h : Below y6.heap.size y6 W) => less_any W (HP6.out.below h) (HQ6.out.below h) (by have := HEL.out; omega) (by have := HFL.out; omega))
      have T4 := Lib.hid (fun (W : World) (h : Below y6.heap.size y6 W) => less_any W (HQ6.out.below h) (HP6.out.below h) (by have := HFL.out; omega) (by have := HEL.out; omega))
      rw [HL1.out.1] at T1
      rw [HL1.out.2] at T2
      simp only [Option.isSome_none] at T1 T2
      have HX1 := Lib.hid (less_some HF.out (es := E))
      have HX2 := Lib.hid (less_some HE.out (es := F))
      have S1 := Lib.hid (fun (W : World) (h : Below y6.heap.size y6 W) => same_any W (HP6.out.below h) (HQ6.out.below h) (by have := HEL.out; omega) (by have := HFL.out; omega))
      have S2 := Lib.hid (fun (W : World) (h : Below y6.heap.size y6 W) => same_any W (HM6.out.below h) (HP6.out.below h) (by have := HML.out; have := HEL.out; have := HFL.out; omega) (by have := HEL.out; omega))
      have S3 := Lib.hid (fun (W : World) (h : Below y6.heap.size y6 W) => same_any W (HM6.out.below h) (HQ6.out.below h) (by have := HML.out; have := HEL.out; have := HFL.out; omega) (by have := HFL.out; omega))
      rw [HEF.out] at S1
      rw [HME.out] at S2
      rw [HMF.out] at S3
      have AP := Lib.hid (fun (W : World) (s : Nat) (hs : okS s) (h : Below y6.heap.size y6 W) => ask_any s W (HP6.out.below h) hs (by have := HEL.out; omega))
      have AQ := Lib.hid (fun (W : World) (s : Nat) (hs : okS s) (h : Below y6.heap.size y6 W) => ask_any s W (HQ6.out.below h) hs (by have := HFL.out; omega))
      have HSZ1 : Hid (lessF E F = none → lessS E F = 0) := Lib.hid (fun h => by unfold lessS; rw [h])
      have HSZ2 : Hid (lessF F E = none → lessS F E = 0) := Lib.hid (fun h => by unfold lessS; rw [h])
      have HC1 : Hid ((lessF E F).isSome = false → lessF E F = none) := Lib.hid (fun h => by simpa using h)
      obtain ⟨x, hx⟩ : ∃ v, lessS E F = v := ⟨_, rfl⟩
      obtain ⟨y, hy⟩ : ∃ v, lessS F E = v := ⟨_, rfl⟩
      rw [hx] at T3 HX1 HSZ1
      rw [hy] at T4 HX2 HSZ2
      clear hx hy
      go_wp2_with fail
      refine T1.out.mono ?_
      rintro o z1 ⟨rfl, hz⟩
      have HQ1 := Lib.hid (HB.out.trans (hz.mono HB.out.size))
      clear hz
      go_wp2_with fail
      refine (T2.out z1 HQ1.out).mono ?_
      rintro o z2 ⟨rfl, hz⟩
      have HQ2 := Lib.hid (HQ1.out.trans (hz.mono HQ1.out.size))
      clear hz
      go_wp2_with fail
      refine (T3.out z2 HQ2.out).mono ?_
      rintro o z3 ⟨rfl, hz⟩
      have HQ3 := Lib.hid (HQ2.out.trans (hz.mono HQ2.out.size))
      clear hz
      go_wp2_with fail
      refine (T4.out z3 HQ3.out).mono ?_
      rintro o z4 ⟨rfl, hz⟩
      have HQ4' := Lib.hid (HQ3.out.trans (hz.mono HQ3.out.size))
      clear hz
      cases hc : (lessF E F).isSome with
      | true =>
        cases hd : (lessF F E).isSome with
        | true =>
          obtain ⟨hx1, hx2⟩ := HX1.out hc
          have P1 := Lib.hid (fun W h => AP.out W x hx1 h)
          have P2 := Lib.hid (fun W h => AQ.out W x hx1 h)
          obtain ⟨v1, hv1⟩ : ∃ v, askL withinB E x = v := ⟨_, rfl⟩
          obtain ⟨v2, hv2⟩ : ∃ v, askL withinB F x = v := ⟨_, rfl⟩
          rw [hv1] at P1 hx2
          rw [hv2] at P2 hx2
          have gv1 : decide (v2 ≤ v1) = false := decide_eq_false (by omega)
          obtain ⟨hx3, hx4⟩ := HX2.out hd
          have P3 := Lib.hid (fun W h => AQ.out W y hx3 h)
          have P4 := Lib.hid (fun W h => AP.out W y hx3 h)
          obtain ⟨v3, hv3⟩ : ∃ v, askL withinB F y = v := ⟨_, rfl⟩
          obtain ⟨v4, hv4⟩ : ∃ v, askL withinB E y = v := ⟨_, rfl⟩
          rw [hv3] at P3 hx4
          rw [hv4] at P4 hx4
          have gv2 : decide (v4 ≤ v3) = false := decide_eq_false (by omega)
          simp only [hc, hd] at S1
          simp only [hc] at S2
          simp only [hd] at S3
          try rw [hc]
          try rw [hd]
          clear HX1 HX2 HSZ1 HSZ2 HC1
          go_wp2_with fail
          refine (P1.out z4 HQ4'.out).mono ?_
          rintro o z5 ⟨rfl, hz⟩
          have HQ5' := Lib.hid (HQ4'.out.trans (hz.mono HQ4'.out.size))
          clear hz
          go_wp2_with fail
          refine (P2.out z5 HQ5'.out).mono ?_
          rintro o z6 ⟨rfl, hz⟩
          have HQ6' := Lib.hid (HQ5'.out.trans (hz.mono HQ5'.out.size))
          clear hz
          go_wp2_with fail
          refine (P3.out z6 HQ6'.out).mono ?_
          rintro o z7 ⟨rfl, hz⟩
          have HQ7' := Lib.hid (HQ6'.out.trans (hz.mono HQ6'.out.size))
          clear hz
          go_wp2_with fail
          refine (P4.out z7 HQ7'.out).mono ?_
          rintro o z8 ⟨rfl, hz⟩
          have HQ8' := Lib.hid (HQ7'.out.trans (hz.mono HQ7'.out.size))
          clear hz
          go_wp2_with fail
          refine (S1.out z8 HQ8'.out).mono ?_
          rintro o z9 ⟨rfl, hz⟩
          have HQ9' := Lib.hid (HQ8'.out.trans (hz.mono HQ8'.out.size))
          clear hz
          go_wp2_with fail
          refine (S2.out z9 HQ9'.out).mono ?_
          rintro o z10 ⟨rfl, hz⟩
          have HQ10' := Lib.hid (HQ9'.out.trans (hz.mono HQ9'.out.size))
          clear hz
          go_wp2_with fail
          refine (S3.out z10 HQ10'.out).mono ?_
          rintro o z11 ⟨rfl, hz⟩
          have HQ11' := Lib.hid (HQ10'.out.trans (hz.mono HQ10'.out.size))
          clear hz
          have HFIN : Hid (Below w.heap.size w z11) := Lib.hid (HB6.out.trans (HQ11'.out.mono HB6.out.size))
          go_wp2_with fail
          go_ret
          exact ⟨rfl, HFIN.out⟩
        | false =>
          obtain ⟨hx1, hx2⟩ := HX1.out hc
          have P1 := Lib.hid (fun W h => AP.out W x hx1 h)
          have P2 := Lib.hid (fun W h => AQ.out W x hx1 h)
          obtain ⟨v1, hv1⟩ : ∃ v, askL withinB E x = v := ⟨_, rfl⟩
          obtain ⟨v2, hv2⟩ : ∃ v, askL withinB F x = v := ⟨_, rfl⟩
          rw [hv1] at P1 hx2
          rw [hv2] at P2 hx2
          have gv1 : decide (v2 ≤ v1) = false := decide_eq_false (by omega)
          simp only [hc, hd] at S1
          simp only [hc] at S2
          simp only [hd] at S3
          try rw [hc]
          try rw [hd]
          clear HX1 HX2 HSZ1 HSZ2 HC1
          go_wp2_with fail
          refine (P1.out z4 HQ4'.out).mono ?_
          rintro o z5 ⟨rfl, hz⟩
          have HQ5' := Lib.hid (HQ4'.out.trans (hz.mono HQ4'.out.size))
          clear hz
          go_wp2_with fail
          refine (P2.out z5 HQ5'.out).mono ?_
          rintro o z6 ⟨rfl, hz⟩
          have HQ6' := Lib.hid (HQ5'.out.trans (hz.mono HQ5'.out.size))
          clear hz
          go_wp2_with fail
          refine (S1.out z6 HQ6'.out).mono ?_
          rintro o z7 ⟨rfl, hz⟩
          have HQ7' := Lib.hid (HQ6'.out.trans (hz.mono HQ6'.out.size))
          clear hz
          go_wp2_with fail
          refine (S2.out z7 HQ7'.out).mono ?_
          rintro o z8 ⟨rfl, hz⟩
          have HQ8' := Lib.hid (HQ7'.out.trans (hz.mono HQ7'.out.size))
          clear hz
          go_wp2_with fail
          refine (S3.out z8 HQ8'.out).mono ?_
          rintro o z9 ⟨rfl, hz⟩
          have HQ9' := Lib.hid (HQ8'.out.trans (hz.mono HQ8'.out.size))
          clear hz
          have HFIN : Hid (Below w.heap.size w z9) := Lib.hid (HB6.out.trans (HQ9'.out.mono HB6.out.size))
          go_wp2_with fail
          go_ret
          exact ⟨rfl, HFIN.out⟩
      | false =>
        cases hd : (lessF F E).isSome with
        | true =>
          have hx0 : x = 0 := HSZ1.out (by simpa using hc)
          subst hx0
          obtain ⟨hx3, hx4⟩ := HX2.out hd
          have P3 := Lib.hid (fun W h => AQ.out W y hx3 h)
          have P4 := Lib.hid (fun W h => AP.out W y hx3 h)
          obtain ⟨v3, hv3⟩ : ∃ v, askL withinB F y = v := ⟨_, rfl⟩
          obtain ⟨v4, hv4⟩ : ∃ v, askL withinB E y = v := ⟨_, rfl⟩
          rw [hv3] at P3 hx4
          rw [hv4] at P4 hx4
          have gv2 : decide (v4 ≤ v3) = false := decide_eq_false (by omega)
          simp only [hc, hd] at S1
          simp only [hc] at S2
          simp only [hd] at S3
          try rw [hc]
          try rw [hd]
          clear HX1 HX2 HSZ1 HSZ2 HC1
          go_wp2_with fail
          refine (P3.out z4 HQ4'.out).mono ?_
          rintro o z5 ⟨rfl, hz⟩
          have HQ5' := Lib.hid (HQ4'.out.trans (hz.mono HQ4'.out.size))
          clear hz
          go_wp2_with fail
          refine (P4.out z5 HQ5'.out).mono ?_
          rintro o z6 ⟨rfl, hz⟩
          have HQ6' := Lib.hid (HQ5'.out.trans (hz.mono HQ5'.out.size))
          clear hz
          go_wp2_with fail
          refine (S1.out z6 HQ6'.out).mono ?_
          rintro o z7 ⟨rfl, hz⟩
          have HQ7' := Lib.hid (HQ6'.out.trans (hz.mono HQ6'.out.size))
          clear hz
          go_wp2_with fail
          refine (S2.out z7 HQ7'.out).mono ?_
          rintro o z8 ⟨rfl, hz⟩
          have HQ8' := Lib.hid (HQ7'.out.trans (hz.mono HQ7'.out.size))
          clear hz
          go_wp2_with fail
          refine (S3.out z8 HQ8'.out).mono ?_
          rintro o z9 ⟨rfl, hz⟩
          have HQ9' := Lib.hid (HQ8'.out.trans (hz.mono HQ8'.out.size))
          clear hz
          have HFIN : Hid (Below w.heap.size w z9) := Lib.hid (HB6.out.trans (HQ9'.out.mono HB6.out.size))
          go_wp2_with fail
          go_ret
          exact ⟨rfl, HFIN.out⟩
        | false =>
          have hx0 : x = 0 := HSZ1.out (by simpa using hc)
          subst hx0
          simp only [hc, hd] at S1
          simp only [hc] at S2
          simp only [hd] at S3
          try rw [hc]
          try rw [hd]
          clear HX1 HX2 HSZ1 HSZ2 HC1
          go_wp2_with fail
          refine (S1.out z4 HQ4'.out).mono ?_
          rintro o z5 ⟨rfl, hz⟩
          have HQ5' := Lib.hid (HQ4'.out.trans (hz.mono HQ4'.out.size))
          clear hz
          go_wp2_with fail
          refine (S2.out z5 HQ5'.out).mono ?_
          rintro o z6 ⟨rfl, hz⟩
          have HQ6' := Lib.hid (HQ5'.out.trans (hz.mono HQ5'.out.size))
          clear hz
          go_wp2_with fail
          refine (S3.out z6 HQ6'.out).mono ?_
          rintro o z7 ⟨rfl, hz⟩
          have HQ7' := Lib.hid (HQ6'.out.trans (hz.mono HQ6'.out.size))
          clear hz
          have HFIN : Hid (Below w.heap.size w z7) := Lib.hid (HB6.out.trans (HQ7'.out.mono HB6.out.size))
          go_wp2_with fail
          go_ret
          exact ⟨rfl, HFIN.out⟩


set_option maxRecDepth 100000 in
theorem lifted (os : Os) (started : os.Started) (H : Type) (enc : TypeId × Value → H) :
    ReturnsInHanded {} Try.checked os 7 .any (Rows.priceMergesSpec.pre6 enc Try.prog Try.f7 Rows.priceMergesRow.domain false) (Rows.priceMergesSpec.post enc Try.prog Try.f7 false true false false) := by
  refine returnsInHanded_of_change (C := Try.checked) own started (by kernel_rfl) Try.func7
    (ChangeSpec.witness6 (enc := enc) (C := Try.checked) false ⟨#[], #[.slice none 0 0, .slice none 0 0, .slice none 0 0], []⟩ 8 (by kernel_rfl) (by kernel_rfl) (by kernel_rfl) (by kernel_rfl)) ?_
  intro W base args ds gs before hval0 hW hcnd _
  have hval : ∀ (j : Nat) t v, Try.f7.params[j]? = some t → args[j]? = some v → Value.okWide Try.prog W .any base t v := hval0
  have hW' := hW
  obtain ⟨p, q, hA0, hV, rfl, hfz, hnd⟩ := hW
  have hA : DataW.TrodAll enc Try.prog W 0 (fun _ => true) true Try.f7.params.toList args.toList ds p := hA0
  rw [Try.params7] at hA hval
  have hAk := hA
  obtain ⟨v0, vs0, d0, ds0, p0', q0, hargs, rfl, rfl, h0, r0⟩ := trodAll_cons hA
  obtain ⟨v1, vs1, d1, ds1, p1', q1, rfl, rfl, rfl, h1, r1⟩ := trodAll_cons r0
  obtain ⟨v2, vs2, d2, ds2, p2', q2, rfl, rfl, rfl, h2, r2⟩ := trodAll_cons r1
  obtain ⟨rfl, rfl, rfl⟩ := trodAll_nil r2
  obtain rfl : args = #[v0, v1, v2] := by cases args; simp_all
  obtain ⟨rfl, rfl⟩ := trodVars_none hV
  simp only [List.append_nil] at hW' hAk
  have hlt := fun x hx => hW'.lt x hx
  clear hA0 hval0
  obtain ⟨p0, n0, c0, l0, rfl, S0, b0⟩ := open_ents (okWide_slice Try.underlying22 (hval 0 22 v0 rfl rfl)) h0
  obtain ⟨p1, n1, c1, l1, rfl, S1, b1⟩ := open_ents (okWide_slice Try.underlying22 (hval 1 22 v1 rfl rfl)) h1
  obtain ⟨p2, n2, c2, l2, rfl, S2, b2⟩ := open_sets (okWide_slice Try.underlying23 (hval 2 23 v2 rfl rfl)) h2
  refine (walk W p0 n0 c0 l0 S0 b0 p1 n1 c1 l1 S1 b1 p2 n2 c2 l2 S2 b2).mono fun e W' ⟨he, hg⟩ => ?_
  subst he
  have hargs := trodAll_below hg _ _ _ _ (by intro t ht; simp only [List.mem_cons, List.not_mem_nil, or_false] at ht; revert t; rintro t (rfl | rfl | rfl) <;> exact ⟨by kernel_rfl, of_decide_eq_true (by kernel_rfl)⟩) hAk (fun x hx => by simpa using hlt x hx)
  exact ⟨_, rfl, _, _, _, [], _, [], hW', (trodAll_cons_mk (shut_bool Try.underlying4 _) trodAll_mk0), hargs, rfl, hg.frame _, fun h => by cases h⟩

theorem over : Rows.priceMergesRow.holds Try.pinned (OpenSpec.ofChange Rows.priceMergesSpec) :=
  OpenClaim.holds_of_wide 7 Try.f7 rfl rfl rfl rfl rfl rfl rfl ⟨rfl, rfl, rfl, rfl, rfl⟩ rfl rfl rfl rfl rfl (by kernel_rfl) Try.func7 (by kernel_rfl)
    (of_decide_eq_true (by kernel_rfl)) (by unfold Func.isWrapper; first | (rw [if_pos (by decide +kernel)]; kernel_rfl) | (rw [if_neg (by decide +kernel)]; exact ⟨rfl, rfl⟩))
    (fun os started H enc _ => lifted os started H enc)

theorem proved : Rows.PriceMergesSaid :=
  over
end Go.Proofs.Ytpcbdjdmhemjdaa.priceMerges
