/- A heap in memory: two things change places. -/
import Derived.Test.YtpdncgjepfgnjaaHpA
namespace Go.Proofs.Ytpdncgjepfgnjaa
open Go.RowKit
set_option linter.unusedVariables false

theorem flatP_set : ∀ (l : List ((Int × Int) × Int)) (i : Nat) (x : (Int × Int) × Int), flatP (l.set i x) = (((flatP l).set (i * 3) (.int .i64 x.1.1)).set (i * 3 + 1) (.int .i64 x.1.2)).set (i * 3 + 2) (.int .i64 x.2)
  | [], i, x => by simp [flatP]
  | y :: l, 0, x => by simp [flatP, cellsP]
  | y :: l, i + 1, x => by
    have ih := flatP_set l i x
    have e : ∀ (z : (Int × Int) × Int) (m : List ((Int × Int) × Int)), flatP (z :: m) = .int .i64 z.1.1 :: .int .i64 z.1.2 :: .int .i64 z.2 :: flatP m := fun z m => by unfold flatP; rw [List.flatMap_cons]; rfl
    rw [List.set_cons_succ, e, e, ih]
    rw [show (i + 1) * 3 = i * 3 + 3 from by omega]
    rfl
/-- A thing is stored, cell by cell. -/
theorem HeapP.put {own : List Nat} {W : World} {b g n c : Nat} {fv : Value} {l : List ((Int × Int) × Int)} {puts : Int} (h : HeapP own W b fv (.slice (some ⟨g, 0, none⟩) n c) l puts) (hgb : g ≠ b) (hn : n = l.length) (i : Nat) (x : (Int × Int) × Int) :
    HeapP own (((W.setCell ⟨g, i * 3, none⟩ (.int .i64 x.1.1)).setCell ⟨g, i * 3 + 1, none⟩ (.int .i64 x.1.2)).setCell ⟨g, i * 3 + 2, none⟩ (.int .i64 x.2)) b fv (.slice (some ⟨g, 0, none⟩) n c) (l.set i x) puts := by
  subst hn
  refine ⟨?_, ?_, h.bo, h.ro, fun k hk => by have := h.lt k hk; simpa [World.setCell] using this⟩
  · rw [Below.heap_setCell _ _ _ _ (Ne.symm hgb), Below.heap_setCell _ _ _ _ (Ne.symm hgb), Below.heap_setCell _ _ _ _ (Ne.symm hgb)]
    exact h.blk
  · rw [flatP_set, List.length_set]
    have h1 := (h.row.stored (i * 3) (.int .i64 x.1.1)).1
    have h2 := (h1.stored (i * 3 + 1) (.int .i64 x.1.2)).1
    exact (h2.stored (i * 3 + 2) (.int .i64 x.2)).1
theorem HeapP.drew {own : List Nat} {W : World} {b : Nat} {fv v : Value} {l : List ((Int × Int) × Int)} {puts : Int} (h : HeapP own W b fv v l puts) : HeapP own W.drew b fv v l puts := ⟨h.blk, h.row.drew, h.bo, h.ro, h.lt⟩

set_option maxRecDepth 100000 in
set_option maxHeartbeats 4000000 in
theorem swapP {own : List Nat} {b : Nat} {fv v : Value} {l : List ((Int × Int) × Int)} {puts : Int} (i j : Nat) (w : World) (h : HeapP own w b fv v l puts) (hi : i < l.length) (hj : j < l.length) (hij : i ≠ j) :
    Calls Try.prog 71 #[.pointer (some ⟨b, 0, none⟩), .int .i64 i, .int .i64 j] w fun e w' => e = .returned (.tuple #[]) ∧ HeapP own w' b fv v (swapL l i j) puts ∧ But own w w' ∧ w'.heap.size = w.heap.size := by
  have H := Lib.hid h
  have c1 := h.c1
  have hbl := h.lt b h.bo
  obtain ⟨a, c, rfl, hc⟩ := h.form
  obtain ⟨g, rfl, _, hg, hgb, i0, i1, i2, hf⟩ := h.at_ hi
  obtain ⟨g', e, _, _, _, j0, j1, j2, _⟩ := h.at_ hj
  cases e
  have hgl := h.lt g hg
  obtain ⟨x, hx⟩ : ∃ x, at' l i = x := ⟨_, rfl⟩
  obtain ⟨y, hy⟩ : ∃ y, at' l j = y := ⟨_, rfl⟩
  have HX := Lib.hid hx
  have HY := Lib.hid hy
  rw [hx] at i0 i1 i2
  rw [hy] at j0 j1 j2
  obtain ⟨n, hn⟩ : ∃ n, l.length = n := ⟨_, rfl⟩
  have HN := Lib.hid hn
  rw [hn] at hi hj c1
  clear h hx hy hn
  obtain ⟨⟨k, u⟩, p⟩ := x
  obtain ⟨⟨k', u'⟩, p'⟩ := y
  simp only at i0 i1 i2 j0 j1 j2
  have b1 : (0 : Int) ≤ i := by omega
  have b2 : (i : Int) < n := by omega
  have b3 : (0 : Int) ≤ j := by omega
  have b4 : (j : Int) < n := by omega
  go_enter Try.func71, Try.ntmps71
  go_upto_region 0 with fail
  go_region
  go_end0
  have h1 := H.out.put hgb rfl i ((k', u'), p')
  have h2 := h1.put hgb (by rw [List.length_set]) j ((k, u), p)
  have e : swapL l i j = (l.set i ((k', u'), p')).set j ((k, u), p) := by unfold swapL; rw [HX.out, HY.out]
  rw [e]
  have hm : ∀ k, (⟨g, k, none⟩ : Addr).block ∈ own ∨ w.heap.size ≤ (⟨g, k, none⟩ : Addr).block := fun k => .inl hg
  exact ⟨rfl, h2.drew, (((((((But.refl own w).set (hm _) _).set (hm _) _).set (hm _) _).set (hm _) _).set (hm _) _).set (hm _) _).drew, by simp [World.setCell]⟩

theorem HeapP.below {own : List Nat} {W W' : World} {n b : Nat} {fv v : Value} {l : List ((Int × Int) × Int)} {puts : Int} (h : HeapP own W b fv v l puts) (hb : Below n W W') (hn : W.heap.size ≤ n) : HeapP own W' b fv v l puts :=
  ⟨(hb.block b (Nat.lt_of_lt_of_le (h.lt b h.bo) hn)).trans h.blk, by
    obtain ⟨h1, h2⟩ := h.row
    refine ⟨h1, ?_⟩
    rcases h2 with h2 | ⟨g, cap, cur, hv, hg, hh, r⟩
    · exact .inl h2
    · exact .inr ⟨g, cap, cur, hv, hg, (hb.block g (Nat.lt_of_lt_of_le (Array.getElem?_eq_some_iff.1 hh).1 hn)).trans hh, r⟩, h.bo, h.ro, fun k hk => Nat.lt_of_lt_of_le (h.lt k hk) hb.size⟩

set_option maxRecDepth 100000 in
set_option maxHeartbeats 4000000 in
theorem riseP {of : Nat} {key : Int × Int → Int} (ho : OrdP of key) {own : List Nat} {b : Nat} {v : Value} {l : List ((Int × Int) × Int)} {puts : Int} (k0 : Nat) (hm : l.length ≤ 1073741824) (w : World) (h : HeapP own w b (.func (.func of) #[] #[]) v l puts) (hk0 : k0 < l.length) :
    Calls Try.prog 63 #[.pointer (some ⟨b, 0, none⟩), .int .i64 k0] w fun e w' => e = .returned (.tuple #[]) ∧ HeapP own w' b (.func (.func of) #[] #[]) v (riseL (ahK key) l k0) puts ∧ But own w w' := by
  have HA := Lib.hid (fun (l' : List ((Int × Int) × Int)) (i j : Nat) (W : World) h1 (h2 : i < l'.length) (h3 : j < l'.length) => aheadP ho (own := own) (b := b) (v := v) (l := l') (puts := puts) i j W h1 h2 h3)
  have HS := Lib.hid (fun (l' : List ((Int × Int) × Int)) (i j : Nat) (W : World) h1 (h2 : i < l'.length) (h3 : j < l'.length) (h4 : i ≠ j) => swapP (own := own) (b := b) (fv := .func (.func of) #[] #[]) (v := v) (l := l') (puts := puts) i j W h1 h2 h3 h4)
  have H := Lib.hid h
  clear h
  go_enter Try.func63, Try.ntmps63
  go_wp2
  go_loopw [1] (fun a wr => ∃ (k : Nat) (l' : List ((Int × Int) × Int)), a = .int .i64 k ∧ k < l'.length ∧ l'.length = l.length ∧ HeapP own wr b (.func (.func of) #[] #[]) v l' puts ∧ riseL (ahK key) l' k = riseL (ahK key) l k0 ∧ But own w wr) (fun a _ => (intOf a).toNat)
  case atStart => exact ⟨k0, l, rfl, hk0, rfl, H.out, rfl, But.refl _ _⟩
  case round =>
    obtain ⟨k, l', rfl, hk, hl, hH, hR, hB⟩ := hrel
    have HH := Lib.hid hH
    have HR := Lib.hid hR
    have HB := Lib.hid hB
    have HL := Lib.hid hl
    clear hH hR hB hl
    by_cases h0 : k = 0
    · subst h0
      go_wp2
      go_end0
      refine ⟨rfl, ?_, HB.out⟩
      have hr := HR.out
      rw [rise_zero] at hr
      rw [← hr]
      exact HH.out
    · obtain ⟨m, hm1⟩ : ∃ m, (k - 1) / 2 = m := ⟨_, rfl⟩
      have hdiv : ((k : Int) - 1) / 2 = (m : Int) := by omega
      have hdiv2 : ((k : Int) - 1).tdiv 2 = (m : Int) := by rw [Int.tdiv_eq_ediv_of_nonneg (by omega)]; exact hdiv
      have hlt : m < l'.length := by omega
      have hne : k ≠ m := by omega
      have hkm : m < k := by omega
      have hk1 := HL.out
      have hk2 : (0 : Int) < k := by omega
      cases ha : ahK key (at' l' k) (at' l' m) with
      | false =>
        have HA2 := Lib.hid (fun (W : World) hW => HA.out l' k m W hW hk hlt)
        rw [ha] at HA2
        have HRL : Hid (riseL (ahK key) l k0 = l') := Lib.hid (by rw [← HR.out]; exact rise_stop (by rw [hm1]; exact ha))
        clear ha
        go_wp2_with (go_at_call 70; refine (HA2.out _ HH.out).mono ?_; rintro e w' ⟨rfl, hb'⟩)
        refine bodyPost_ret (results_none rfl _ _ _) rfl ?_
        exact ⟨rfl, by rw [HRL.out]; exact HH.out.below hb' (Nat.le_refl _), HB.out.trans' (But.of_below hb')⟩
      | true =>
        have HA2 := Lib.hid (fun (W : World) hW => HA.out l' k m W hW hk hlt)
        rw [ha] at HA2
        have HRL : Hid (riseL (ahK key) (swapL l' k m) m = riseL (ahK key) l k0) := Lib.hid (by rw [← HR.out, rise_step h0 (by rw [hm1]; exact ha), hm1])
        have HSL : Hid ((swapL l' k m).length = l'.length) := Lib.hid (swap_len _ _ _)
        clear ha
        go_wp2_with (first | (go_at_call 70; refine (HA2.out _ HH.out).mono ?_; rintro e w' ⟨rfl, hb'⟩; have HH2 := Lib.hid (HH.out.below hb' (Nat.le_refl _))) | (go_at_call 71; refine (HS.out l' k m _ HH2.out hk hlt hne).mono ?_; rintro e w2 ⟨rfl, h2, hb2, _⟩; have HH3 := Lib.hid h2; have HB3 := Lib.hid hb2; clear h2 hb2))
        go_roundw
        case rel => exact ⟨m, _, rfl, by rw [HSL.out]; exact hlt, by rw [HSL.out]; exact hk1, HH3.out, HRL.out, (HB.out.trans' (But.of_below hb')).trans' HB3.out⟩
        case measure => simp [intOf]; omega

/-- Where the one that comes ahead of a place and the two that it leads is sought. -/
def dnAt (ah : ((Int × Int) × Int) → ((Int × Int) × Int) → Bool) (l : List ((Int × Int) × Int)) (k : Nat) : Nat → Nat
  | 0 => k
  | 1 => downOne ah l k
  | _ => downAt ah l k
section
variable {ah : ((Int × Int) × Int) → ((Int × Int) × Int) → Bool} {l : List ((Int × Int) × Int)} {k m : Nat}
theorem dn_yes (hm : m < 2) (h : 2 * k + 1 + m < l.length) (ha : ah (at' l (2 * k + 1 + m)) (at' l (dnAt ah l k m)) = true) : dnAt ah l k (m + 1) = 2 * k + 1 + m := by
  match m, hm with
  | 0, _ => exact if_pos ⟨h, ha⟩
  | 1, _ => exact if_pos ⟨h, ha⟩
theorem dn_no (hm : m < 2) (ha : ah (at' l (2 * k + 1 + m)) (at' l (dnAt ah l k m)) = false) : dnAt ah l k (m + 1) = dnAt ah l k m := by
  match m, hm with
  | 0, _ => exact if_neg (fun h => by rw [show ah (at' l (2 * k + 1)) (at' l k) = false from ha] at h; exact absurd h.2 (by decide))
  | 1, _ => exact if_neg (fun h => by rw [show ah (at' l (2 * k + 2)) (at' l (downOne ah l k)) = false from ha] at h; exact absurd h.2 (by decide))
theorem dn_end (hm : m ≤ 2) (h : m = 2 ∨ l.length ≤ 2 * k + 1 + m) : dnAt ah l k m = downAt ah l k := by
  match m, hm with
  | 2, _ => rfl
  | 1, _ =>
    have h1 : l.length ≤ 2 * k + 2 := by omega
    exact (if_neg (fun h => by omega)).symm
  | 0, _ =>
    have h1 : l.length ≤ 2 * k + 1 := by omega
    have h2 : downAt ah l k = downOne ah l k := if_neg (fun h => by omega)
    have h3 : downOne ah l k = k := if_neg (fun h => by omega)
    rw [h2, h3]; rfl
theorem dn_lt (hk : k < l.length) : dnAt ah l k m < l.length := by
  match m with
  | 0 => exact hk
  | 1 =>
    show downOne ah l k < _
    unfold downOne
    split
    · rename_i h; exact h.1
    · exact hk
  | m + 2 =>
    show downAt ah l k < _
    by_cases h : downAt ah l k = k
    · rw [h]; exact hk
    · exact (down_lt h).2
end

set_option maxRecDepth 100000 in
set_option maxHeartbeats 4000000 in
theorem sinkP {of : Nat} {key : Int × Int → Int} (ho : OrdP of key) {own : List Nat} {b : Nat} {v : Value} {l : List ((Int × Int) × Int)} {puts : Int} (k0 : Nat) (hm : l.length ≤ 1073741824) (w : World) (h : HeapP own w b (.func (.func of) #[] #[]) v l puts) (hk0 : k0 ≤ l.length) :
    Calls Try.prog 64 #[.pointer (some ⟨b, 0, none⟩), .int .i64 k0] w fun e w' => e = .returned (.tuple #[]) ∧ HeapP own w' b (.func (.func of) #[] #[]) v (sinkL (ahK key) l k0) puts ∧ But own w w' := by
  have HA := Lib.hid (fun (l' : List ((Int × Int) × Int)) (i j : Nat) (W : World) h1 (h2 : i < l'.length) (h3 : j < l'.length) => aheadP ho (own := own) (b := b) (v := v) (l := l') (puts := puts) i j W h1 h2 h3)
  have HS := Lib.hid (fun (l' : List ((Int × Int) × Int)) (i j : Nat) (W : World) h1 (h2 : i < l'.length) (h3 : j < l'.length) (h4 : i ≠ j) => swapP (own := own) (b := b) (fv := .func (.func of) #[] #[]) (v := v) (l := l') (puts := puts) i j W h1 h2 h3 h4)
  have H := Lib.hid h
  have HM := Lib.hid hm
  clear h hm
  go_enter Try.func64, Try.ntmps64
  go_wp2
  go_loopw [1, 4, 5] (fun a _ _ wr => ∃ (k : Nat) (l' : List ((Int × Int) × Int)), a = .int .i64 k ∧ k ≤ l.length ∧ l'.length = l.length ∧ HeapP own wr b (.func (.func of) #[] #[]) v l' puts ∧ sinkL (ahK key) l' k = sinkL (ahK key) l k0 ∧ But own w wr) (fun a _ _ _ => l.length - (intOf a).toNat)
  case atStart => exact ⟨k0, l, rfl, hk0, rfl, H.out, rfl, But.refl _ _⟩
  case round =>
    obtain ⟨k, l', rfl, hk, hl, hH, hR, hB⟩ := hrel
    have HH := Lib.hid hH
    have HR := Lib.hid hR
    have HB := Lib.hid hB
    have HL := Lib.hid hl
    have hkk := HM.out
    clear hH hR hB hl
    have b0 : (0 : Int) ≤ k := by omega
    have b1 : (k : Int) ≤ 1073741824 := by omega
    go_wp2
    go_loopw [4, 5] (fun f d wi => ∃ m : Nat, m ≤ 2 ∧ f = .int .i64 (dnAt (ahK key) l' k m) ∧ d = .int .i64 ((2 * k + 1 + m : Nat) : Int) ∧ HeapP own wi b (.func (.func of) #[] #[]) v l' puts ∧ But own w wi) (fun _ d _ => 2 * k + 5 - (intOf d).toNat)
    case atStart => exact ⟨0, by omega, rfl, by simp, HH.out, HB.out⟩
    case round =>
      obtain ⟨m, hm2, rfl, rfl, hHi, hBi⟩ := hrel
      have HHi := Lib.hid hHi
      have HBi := Lib.hid hBi
      clear hHi hBi
      obtain ⟨f, hf⟩ : ∃ f, dnAt (ahK key) l' k m = f := ⟨_, rfl⟩
      have HF0 := Lib.hid hf
      rw [hf]
      obtain ⟨d, hd⟩ : ∃ d, 2 * k + 1 + m = d := ⟨_, rfl⟩
      rw [hd]
      clear hf
      have c0 : (0 : Int) ≤ d := by omega
      have c2 : (d : Int) ≤ 3000000000 := by omega
      by_cases hm3 : m = 2
      · have HF : Hid (downAt (ahK key) l' k = f) := Lib.hid (by rw [← HF0.out]; exact (dn_end hm2 (.inl hm3)).symm)
        have c1 : decide ((d : Int) ≤ 2 * (k : Int) + 2) = false := decide_eq_false (by omega)
        by_cases hfk : f = k
        · have HFK := Lib.hid hfk
          subst hfk
          go_wp2
          refine bodyPost_ret (results_none rfl _ _ _) rfl ?_
          refine ⟨rfl, ?_, HBi.out⟩
          have hr := HR.out
          rw [sink_stop HF.out] at hr
          rw [← hr]
          exact HHi.out
        · have hfk2 : ((f : Int) == (k : Int)) = false := by simp; omega
          have hdl := down_lt (ah := ahK key) (l := l') (k := k) (by rw [HF.out]; exact hfk)
          rw [HF.out] at hdl
          obtain ⟨hd1, hd2⟩ := hdl
          have HSL : Hid ((swapL l' k f).length = l'.length) := Lib.hid (swap_len _ _ _)
          have HRL : Hid (sinkL (ahK key) (swapL l' k f) f = sinkL (ahK key) l k0) := Lib.hid (by rw [← HR.out, sink_step (l := l') (k := k) (by rw [HF.out]; exact hfk), HF.out])
          have hkf : k ≠ f := fun e => hfk e.symm
          clear hfk
          go_wp2_with (go_at_call 71; refine (HS.out l' k f _ HHi.out (by omega) hd2 hkf).mono ?_; rintro e w2 ⟨rfl, h2, hb2, _⟩; have HH3 := Lib.hid h2; have HB3 := Lib.hid hb2; clear h2 hb2)
          go_roundw
          case rel => exact ⟨f, _, rfl, by have := HL.out; omega, by rw [HSL.out]; exact HL.out, HH3.out, HRL.out, HBi.out.trans' HB3.out⟩
          case measure => have := HL.out; simp [intOf]; omega
      · have hm4 : m < 2 := by omega
        have c1 : decide ((d : Int) ≤ 2 * (k : Int) + 2) = true := decide_eq_true (by omega)
        obtain ⟨q, hq⟩ : ∃ q, l'.length = q := ⟨_, rfl⟩
        have HQ := Lib.hid hq
        have HLN := Lib.hid (fun W hW => hlenP (own := own) (b := b) (fv := .func (.func of) #[] #[]) (v := v) (l := l') (puts := puts) W hW)
        rw [hq] at HLN
        clear hq
        by_cases hlt : d < q
        · have c3 : decide ((d : Int) < (q : Int)) = true := decide_eq_true (by omega)
          have hkl : k < l'.length := by rw [HQ.out]; omega
          have hfl : f < l'.length := by rw [← HF0.out]; exact dn_lt hkl
          have hdl : d < l'.length := by rw [HQ.out]; exact hlt
          have HAA := Lib.hid (fun W hW => HA.out l' d f W hW hdl hfl)
          cases ha : ahK key (at' l' d) (at' l' f) with
          | true =>
            have HN : Hid (dnAt (ahK key) l' k (m + 1) = d) := Lib.hid (by rw [dn_yes hm4 (by rw [hd]; exact hdl) (by rw [hd, HF0.out]; exact ha), hd])
            rw [ha] at HAA
            clear ha
            go_wp2_with (first | (go_at_call 14; refine (HLN.out _ HHi.out).mono ?_; rintro e w' ⟨rfl, rfl⟩) | (go_at_call 70; refine (HAA.out _ HHi.out).mono ?_; rintro e w2 ⟨rfl, hb2⟩; have HB2 := Lib.hid hb2; clear hb2))
            go_roundw
            case rel => exact ⟨m + 1, by omega, by rw [HN.out], by rw [← hd]; push_cast; go_num, HHi.out.below HB2.out (Nat.le_refl _), HBi.out.trans' (But.of_below HB2.out)⟩
            case measure => simp [intOf]; omega
          | false =>
            have HN : Hid (dnAt (ahK key) l' k (m + 1) = f) := Lib.hid (by rw [dn_no hm4 (by rw [hd, HF0.out]; exact ha), HF0.out])
            rw [ha] at HAA
            clear ha
            go_wp2_with (first | (go_at_call 14; refine (HLN.out _ HHi.out).mono ?_; rintro e w' ⟨rfl, rfl⟩) | (go_at_call 70; refine (HAA.out _ HHi.out).mono ?_; rintro e w2 ⟨rfl, hb2⟩; have HB2 := Lib.hid hb2; clear hb2))
            go_roundw
            case rel => exact ⟨m + 1, by omega, by rw [HN.out], by rw [← hd]; push_cast; go_num, HHi.out.below HB2.out (Nat.le_refl _), HBi.out.trans' (But.of_below HB2.out)⟩
            case measure => simp [intOf]; omega
        · have c3 : decide ((d : Int) < (q : Int)) = false := decide_eq_false (by omega)
          have HF : Hid (downAt (ahK key) l' k = f) := Lib.hid (by rw [← HF0.out]; exact (dn_end hm2 (.inr (by rw [HQ.out]; omega))).symm)
          by_cases hfk : f = k
          · have HFK := Lib.hid hfk
            subst hfk
            go_wp2_with (go_at_call 14; refine (HLN.out _ HHi.out).mono ?_; rintro e w' ⟨rfl, rfl⟩)
            refine bodyPost_ret (results_none rfl _ _ _) rfl ?_
            refine ⟨rfl, ?_, HBi.out⟩
            have hr := HR.out
            rw [sink_stop HF.out] at hr
            rw [← hr]
            exact HHi.out
          · have hfk2 : ((f : Int) == (k : Int)) = false := by simp; omega
            have hdl := down_lt (ah := ahK key) (l := l') (k := k) (by rw [HF.out]; exact hfk)
            rw [HF.out] at hdl
            obtain ⟨hd1, hd2⟩ := hdl
            have HSL : Hid ((swapL l' k f).length = l'.length) := Lib.hid (swap_len _ _ _)
            have HRL : Hid (sinkL (ahK key) (swapL l' k f) f = sinkL (ahK key) l k0) := Lib.hid (by rw [← HR.out, sink_step (l := l') (k := k) (by rw [HF.out]; exact hfk), HF.out])
            have hkf : k ≠ f := fun e => hfk e.symm
            clear hfk
            go_wp2_with (first | (go_at_call 14; refine (HLN.out _ HHi.out).mono ?_; rintro e w' ⟨rfl, rfl⟩) | (go_at_call 71; refine (HS.out l' k f _ HHi.out (by omega) hd2 hkf).mono ?_; rintro e w2 ⟨rfl, h2, hb2, _⟩; have HH3 := Lib.hid h2; have HB3 := Lib.hid hb2; clear h2 hb2))
            go_roundw
            case rel => exact ⟨f, _, rfl, by have := HL.out; omega, by rw [HSL.out]; exact HL.out, HH3.out, HRL.out, HBi.out.trans' HB3.out⟩
            case measure => have := HL.out; simp [intOf]; omega

end Go.Proofs.Ytpdncgjepfgnjaa
