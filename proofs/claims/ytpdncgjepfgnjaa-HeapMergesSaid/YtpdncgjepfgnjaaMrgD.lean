/- heap.Merge: it keeps copies of the lists. -/
import Derived.Test.YtpdncgjepfgnjaaMrgC
namespace Go.Proofs.Ytpdncgjepfgnjaa
open Go.RowKit
set_option linter.unusedVariables false

/-- While the lists are copied: the first k are copies (from lo on), the others the lists themselves (below n0). -/
structure ClK (n0 lo k : Nat) (ls : List (List (Int × Int))) (w wr : World) (vs : List Value) : Prop where
  len : vs.length = ls.length
  done : ∀ (i : Nat) (v : Value) (xs : List (Int × Int)), vs[i]? = some v → ls[i]? = some xs → i < k → PrL lo wr.heap.size wr v xs
  rest : ∀ (i : Nat) (v : Value) (xs : List (Int × Int)), vs[i]? = some v → ls[i]? = some xs → k ≤ i → PrL 0 n0 w v xs
theorem ClK.step {n0 lo k : Nat} {ls : List (List (Int × Int))} {w wr w' : World} {vs : List Value} (h : ClK n0 lo k ls w wr vs) {g : Nat} (hg : g < lo) (hb : But [g] wr w') (u : Value) (xs : List (Int × Int)) (hx : ls[k]? = some xs) (hu : PrL lo w'.heap.size w' u xs) :
    ClK n0 lo (k + 1) ls w w' (vs.set k u) := by
  refine ⟨by simp [h.len], fun i v ys h1 h2 h3 => ?_, fun i v ys h1 h2 h3 => ?_⟩
  · by_cases e : i = k
    · subst e
      have hlt : i < vs.length := by rw [h.len]; exact (List.getElem?_eq_some_iff.1 h2).1
      rw [List.getElem?_set_self hlt] at h1
      rw [hx] at h2
      cases h1; cases h2; exact hu
    · rw [List.getElem?_set_ne (Ne.symm e)] at h1
      exact ((h.done i v ys h1 h2 (by omega)).but hb (fun j hj => by simp at hj; omega) (Nat.le_refl _)).mono (Nat.le_refl _) hb.size
  · rw [List.getElem?_set_ne (by omega)] at h1
    exact h.rest i v ys h1 h2 (by omega)
theorem setCell_size (w : World) (p : Addr) (u : Value) : (w.setCell p u).heap.size = w.heap.size := by simp [World.setCell]

set_option maxRecDepth 100000 in
set_option maxHeartbeats 8000000 in
theorem merge_any (of : Nat) (a : Option Addr) (n c : Nat) (vs : List Value) (ls : List (List (Int × Int))) (w : World) (hS : Sl (fun v : Value => v) w.heap.size w (.slice a n c) vs) (hL : LL 0 w.heap.size w vs ls) (hn : ls.length = n) (hnb : n ≤ 1048576) (hx : ∀ xs ∈ ls, xs.length ≤ 1048576) :
    Calls Try.prog 27 #[.func (.func of) #[] #[], .slice a n c] w fun e w' => ∃ Bk ka kc vs', e = .returned (.func (.func 56) #[] #[.pointer (some ⟨w.heap.size, 0, none⟩), .pointer (some ⟨Bk, 0, none⟩)]) ∧
      w'.cell? ⟨w.heap.size, 0, none⟩ = some (.func (.func of) #[] #[]) ∧ w'.cell? ⟨Bk, 0, none⟩ = some (.slice ka n kc) ∧ Sl (fun v : Value => v) w'.heap.size w' (.slice ka n kc) vs' ∧ LL w.heap.size w'.heap.size w' vs' ls ∧ Below w.heap.size w w' ∧ w.heap.size + 1 ≤ Bk ∧ ∀ ad, ka = some ad → w.heap.size + 1 ≤ ad.block := by
  have HS := Lib.hid hS
  have HL := Lib.hid hL
  have HN := Lib.hid hn
  have HX := Lib.hid hx
  have HCL : Hid (∀ V : World, Below w.heap.size w V → Calls Try.prog 54 #[.slice a n c] V fun e w' => ∃ v', e = .returned v' ∧ w'.ownsRow V.heap.size 29 1 v' n vs ∧ Below V.heap.size V w') := Lib.hid (fun V hV => cloneRows a n c vs V (by rw [HL.out.len]; exact HN.out) hnb ((HS.out.below hV).mono hV.size) HL.out.form)
  clear hS hL hn hx
  go_enter Try.func27, Try.ntmps27
  go_wp2_with (refine (HCL.out _ ((Below.refl _ _).alloc (Nat.le_refl _) _)).mono ?_; rintro e w1 ⟨sv, rfl, hr1, hb1⟩; obtain ⟨ka, kc, rfl⟩ := row_form hr1)
  have hb1' : Below w.heap.size w w1 := ((Below.refl _ _).alloc (Nat.le_refl _) _).trans (hb1.mono (by simp))
  have hz1 := hb1.size
  rw [World.size_alloc] at hz1 hr1
  have hz0 : w.heap.size ≤ w1.heap.size := by omega
  have cf : w1.cell? ⟨w.heap.size, 0, none⟩ = some (.func (.func of) #[] #[]) := (hb1.cell (p := ⟨w.heap.size, 0, none⟩) (by simp)).trans (cell_new_row w _ _ 0)
  obtain ⟨N, hN⟩ : ∃ N, w1.heap.size = N := ⟨_, rfl⟩
  rw [hN] at hz1 hz0 ⊢
  have hr2 : (w1.alloc (Obj.cells #[Value.slice ka n kc] 57)).ownsRow w.heap.size 29 1 (.slice ka n kc) n vs := (own_mono hr1 (by omega)).alloc _
  have hb2 : Below N w1 (w1.alloc (Obj.cells #[Value.slice ka n kc] 57)) := (Below.refl _ _).alloc (by omega) _
  have hk2 := cell_new_at hN #[Value.slice ka n kc] 57 0
  have hz2 : N + 1 ≤ (w1.alloc (Obj.cells #[Value.slice ka n kc] 57)).heap.size := by simp; omega
  have hg1 : ∀ g, (Value.slice ka n kc).ownBlock = some g → w.heap.size + 1 ≤ g ∧ g < N := fun g hg => by
    obtain ⟨q1, q2⟩ := hr1.lt g hg
    omega
  have hcl0 : ClK w.heap.size N 0 ls w (w1.alloc (Obj.cells #[Value.slice ka n kc] 57)) vs := ⟨HL.out.len, fun i v xs _ _ h => by omega, fun i v xs h1 h2 _ => HL.out.each i v xs h1 h2⟩
  obtain ⟨w2, hw2⟩ : ∃ w2, w1.alloc (Obj.cells #[Value.slice ka n kc] 57) = w2 := ⟨_, rfl⟩
  rw [hw2] at hr2 hb2 hk2 hz2 hcl0 ⊢
  have HR2 := Lib.hid hr2
  have HB2 := Lib.hid (hb1'.trans (hb2.mono (by omega)))
  have HF2 := Lib.hid ((hb2.cell (p := ⟨w.heap.size, 0, none⟩) (by show w.heap.size < N; omega)).trans cf)
  have HG1 := Lib.hid hg1
  have HC0 := Lib.hid hcl0
  have HK2 := Lib.hid hk2
  clear hw2 hr2 hb2 hN cf hb1' hb1 hr1 hg1 hcl0
  have HZ2 := Lib.hid hz2
  clear hz2
  go_wp2_with fail
  go_loopw [12] (fun i wr => ∃ (k : Nat) (vsk : List Value), i = .int .i64 k ∧ k ≤ n ∧ wr.ownsRow w.heap.size 29 1 (.slice ka n kc) n vsk ∧ ClK w.heap.size N k ls w wr vsk ∧ wr.cell? ⟨N, 0, none⟩ = some (.slice ka n kc) ∧ wr.cell? ⟨w.heap.size, 0, none⟩ = some (.func (.func of) #[] #[]) ∧ Below w.heap.size w wr ∧ N + 1 ≤ wr.heap.size) (fun i _ => n - (intOf i).toNat)
  case atStart => exact ⟨0, vs, rfl, Nat.zero_le _, HR2.out, HC0.out, HK2.out, HF2.out, HB2.out, HZ2.out⟩
  case round =>
    obtain ⟨k, vsk, rfl, hk, hr, hc, hkc, hf, hb, hz⟩ := hrel
    clear hk2 HR2 HB2 HF2 HC0 HK2 HZ2 HCL
    have R := Lib.hid hr
    have C := Lib.hid hc
    have F := Lib.hid hf
    have Bb := Lib.hid hb
    have Z := Lib.hid hz
    have KC := Lib.hid hkc
    by_cases hlt : k < n
    · obtain ⟨g, cap, e⟩ : ∃ g cap, Value.slice ka n kc = .slice (some ⟨g, 0, none⟩) n cap := by
        obtain ⟨g, cap, e, _⟩ := hr.form (by omega)
        exact ⟨g, cap, e⟩
      cases e
      obtain ⟨xs, hxs⟩ : ∃ xs, ls[k]? = some xs := ⟨_, List.getElem?_eq_getElem (by rw [HN.out]; exact hlt)⟩
      obtain ⟨v, hv⟩ : ∃ v, vsk[k]? = some v := ⟨_, List.getElem?_eq_getElem (by rw [hc.len, HN.out]; exact hlt)⟩
      have hpr := hc.rest k v xs hv hxs (Nat.le_refl _)
      obtain ⟨va, vc, rfl, _⟩ := hpr.form
      have hcell : wr.cell? ⟨g, k, none⟩ = some (.slice va xs.length vc) := (hr.cellAt k (by omega)).trans hv
      have hfr : wr.frozen? ⟨g, k, none⟩ = false := hr.frozenAt k
      have hgN := (HG1.out g rfl).2
      have b1 : (0 : Int) ≤ k := by omega
      have b2 : (k : Int) < n := by omega
      have HXS := Lib.hid hxs
      have HC1 : Hid (∀ V : World, Below w.heap.size w V → Calls Try.prog 55 #[.slice va xs.length vc] V fun e w' => ∃ v', e = .returned v' ∧ PrL V.heap.size w'.heap.size w' v' xs ∧ Below V.heap.size V w') := Lib.hid (fun V hV => clonePr w.heap.size _ xs V (HX.out _ (List.mem_of_getElem? HXS.out)) (hpr.below hV (Nat.le_refl _)) hV.size)
      clear hr hc hf hb hxs hv hpr
      go_upto_region 5 with fail
      go_region_held3 (fun V => V.cell? ⟨N, 0, none⟩ = some (.slice (some ⟨g, 0, none⟩) n kc)) (first | go_keep | exact (hb3.cell (p := ⟨N, 0, none⟩) (by simp; omega)).trans hkc | exact (World.cell?_of_block (a := ⟨N, 0, none⟩) (Below.heap_setCell _ _ _ _ (show N ≠ g by omega))).trans ((hb3.cell (p := ⟨N, 0, none⟩) (by simp; omega)).trans hkc)) ((refine (HC1.out _ (Bb.out.drew)).mono ?_; rintro e w3 ⟨nv, rfl, hp3, hb3⟩; obtain ⟨na, nc, rfl, _⟩ := hp3.form; have hfr3 : w3.frozen? ⟨g, k, none⟩ = false := (World.frozen?_of_block (hb3.block g (by simp; omega))).trans hfr; have hc3 : w3.cell? ⟨g, k, none⟩ = some (.slice va xs.length vc) := (World.cell?_of_block (hb3.block g (by simp; omega))).trans hcell))
      all_goals
        have hb4 : Below wr.heap.size wr w3 := (Below.refl _ _).drew.trans hb3
        have hbut : But [g] wr (w3.setCell ⟨g, k, none⟩ (.slice na xs.length nc)) := ((But.of_below (own := []) hb4).more (own' := [g]) (fun j hj => by cases hj)).set (.inl (by simp)) _
        have hr3 := (row_but R.out (But.of_below (own := []) hb4) (fun j _ hj => by cases hj)).stored k (.slice na xs.length nc)
        have hz3 := hb4.size
        have hp4 : PrL N (w3.setCell ⟨g, k, none⟩ (.slice na xs.length nc)).heap.size (w3.setCell ⟨g, k, none⟩ (.slice na xs.length nc)) (.slice na xs.length nc) xs := (((hp3.mono (by have := Z.out; simp; omega) (Nat.le_refl _)).but ((But.refl [g] w3).set (p := ⟨g, k, none⟩) (.inl (by simp)) _) (fun j hj => by simp at hj; omega) (Nat.le_refl _)).mono (Nat.le_refl _) (by rw [setCell_size]; exact Nat.le_refl _))
        have hC3 := C.out.step hgN hbut _ xs HXS.out hp4
        have R3 := Lib.hid hr3.1
        have C3 := Lib.hid hC3
        have K3 := Lib.hid ((World.cell?_of_block (a := ⟨N, 0, none⟩) (Below.heap_setCell w3 ⟨g, k, none⟩ (Value.slice na xs.length nc) N (show N ≠ g by omega))).trans ((hb4.cell (p := ⟨N, 0, none⟩) (by simp; have := Z.out; omega)).trans KC.out))
        have hg0 : w.heap.size ≤ g := by have := (HG1.out g rfl).1; omega
        have hg00 := (HG1.out g rfl).1
        have B3 := Lib.hid ((Bb.out.trans (hb4.mono Bb.out.size)).setCell (p := ⟨g, k, none⟩) hg0 (.slice na xs.length nc))
        have Z3 : Hid (N + 1 ≤ (w3.setCell ⟨g, k, none⟩ (.slice na xs.length nc)).heap.size) := Lib.hid (by rw [setCell_size]; have := Z.out; omega)
        have F3 := Lib.hid ((World.cell?_of_block (a := ⟨w.heap.size, 0, none⟩) (Below.heap_setCell w3 ⟨g, k, none⟩ (Value.slice na xs.length nc) w.heap.size (show w.heap.size ≠ g by omega))).trans ((hb4.cell (p := ⟨w.heap.size, 0, none⟩) (by simp; have := Bb.out.size; have := cell_lt F.out; simp at this; omega)).trans F.out))
        clear hb4 hbut hr3 hz3 hp4 hC3 hp3 hb3 hfr3 hc3
        go_wp2_with fail
        go_roundw
        case rel => exact ⟨k + 1, _, by go_num, by omega, R3.out, C3.out, K3.out, F3.out, B3.out, Z3.out⟩
        case measure => simp [intOf]; omega
    · obtain rfl : n = k := by omega
      have hvl : vsk.length = n := by rw [hc.len]; exact HN.out
      have hsl : Sl (fun v : Value => v) wr.heap.size wr (.slice ka n kc) vsk := Sl.of_owns (by rw [hvl, List.map_id']; exact hr)
      have hll : LL w.heap.size wr.heap.size wr vsk ls := ⟨hc.len, fun i v xs h1 h2 => (hc.done i v xs h1 h2 (by rw [← hvl]; exact (List.getElem?_eq_some_iff.1 h1).1)).mono (by omega) (Nat.le_refl _)⟩
      have SL := Lib.hid hsl
      have LLh := Lib.hid hll
      clear hr hc hf hb hvl hsl hll hkc
      go_wp2_with fail
      go_ret
      exact ⟨N, ka, kc, vsk, rfl, F.out, KC.out, SL.out, LLh.out, Bb.out, hz1, fun ad e => by
        subst e
        rcases R.out.2 with ⟨e, _⟩ | ⟨g, cap, cur, e, _⟩
        · cases e
        · cases e; exact (HG1.out g rfl).1⟩
end Go.Proofs.Ytpdncgjepfgnjaa
