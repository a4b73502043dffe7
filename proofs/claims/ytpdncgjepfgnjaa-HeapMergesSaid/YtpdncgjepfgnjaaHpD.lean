/- A heap in memory: Top, take, Pop. -/
import Derived.Test.YtpdncgjepfgnjaaHpC
import Derived.Laws.ResultCell
import Derived.Lib.SliceRun
namespace Go.Proofs.Ytpdncgjepfgnjaa
open Go.RowKit
set_option linter.unusedVariables false

set_option maxRecDepth 100000 in
set_option maxHeartbeats 4000000 in
theorem topP {own : List Nat} {b : Nat} {fv v : Value} {l : List ((Int × Int) × Int)} {puts : Int} (w : World) (h : HeapP own w b fv v l puts) :
    Calls Try.prog 12 #[.pointer (some ⟨b, 0, none⟩)] w fun e w' => e = .returned (.tuple #[if l.length = 0 then valP (0, 0) else valP (at' l 0).1, .bool (decide (l.length ≠ 0))]) ∧ Below w.heap.size w w' := by
  have H := Lib.hid h
  by_cases h0 : l.length = 0
  · rw [if_pos h0, show decide (l.length ≠ 0) = false from by simp [h0]]
    have HLN := Lib.hid (fun W hW => hlenP (own := own) (b := b) (fv := fv) (v := v) (l := l) (puts := puts) W hW)
    rw [h0] at HLN
    clear h h0
    go_enter Try.func12, Try.ntmps12
    go_wp2_with (go_at_call 14; refine (HLN.out _ (H.out.below ((Below.refl _ _).alloc (Nat.le_refl _) _) (Nat.le_refl _))).mono ?_; rintro e w' ⟨rfl, rfl⟩)
    (try simp only [Exit.inBlock, Exit.then])
    refine bodyPost_ret (v := .tuple #[valP (0, 0), .bool false]) ?_ rfl ⟨rfl, ((Below.refl _ _).alloc (Nat.le_refl _) _).alloc (by simp) _⟩
    rw [results_cell_tmp rfl]
    simp [asAddr, Result.andThen]
    go_simp
    rfl
  · rw [if_neg h0, show decide (l.length ≠ 0) = true from by simp [h0]]
    have c1 := h.c1
    obtain ⟨a, c, rfl, hc⟩ := h.form
    obtain ⟨g, rfl, _, hg, _, i0, i1, i2, _⟩ := h.at_ (i := 0) (by omega)
    simp only [Nat.zero_mul, Nat.zero_add] at i0 i1 i2
    have hgl := h.lt g hg
    have hbl := h.lt b h.bo
    obtain ⟨⟨⟨k, u⟩, p⟩, hx⟩ : ∃ x, at' l 0 = x := ⟨_, rfl⟩
    rw [hx] at i0 i1 i2 ⊢
    obtain ⟨n, hn⟩ : ∃ n, l.length = n := ⟨_, rfl⟩
    have HLN := Lib.hid (fun (W : World) (hW : HeapP own W b fv (.slice (some ⟨g, 0, none⟩) l.length c) l puts) => (by have := hlenP W hW; rw [hn] at this; exact this : Calls Try.prog 14 #[.pointer (some ⟨b, 0, none⟩)] W fun e w' => e = .returned (.int .i64 n) ∧ W = w'))
    rw [hn] at c1 h0
    simp only at i0 i1 i2
    have b1 : (0 : Int) < n := by omega
    have b2 : ((n : Int) == 0) = false := by simp; omega
    clear h hx hn
    go_enter Try.func12, Try.ntmps12
    go_wp2_with (go_at_call 14; refine (HLN.out _ (H.out.below ((Below.refl _ _).alloc (Nat.le_refl _) _) (Nat.le_refl _))).mono ?_; rintro e w' ⟨rfl, rfl⟩)
    (try simp only [Exit.inBlock, Exit.then])
    refine bodyPost_ret (v := .tuple #[valP (k, u), .bool true]) ?_ rfl ⟨rfl, ?_⟩
    · rw [results_cell_tmp rfl]
      simp [asAddr, Result.andThen]
      go_simp
      rfl
    · exact (Below.refl _ _).alloc (Nat.le_refl _) _

theorem HeapP.but {own own2 : List Nat} {W W' : World} {b : Nat} {fv v : Value} {l : List ((Int × Int) × Int)} {puts : Int} (h : HeapP own W b fv v l puts) (hb : But own2 W W') (hn : ∀ k ∈ own, k ∉ own2) : HeapP own W' b fv v l puts :=
  ⟨(hb.block b (h.lt b h.bo) (hn b h.bo)).trans h.blk, by
    have hro := h.ro
    obtain ⟨h1, h2⟩ := h.row
    refine ⟨h1, ?_⟩
    rcases h2 with h2 | ⟨g, cap, cur, hv, hg, hh, r⟩
    · exact .inl h2
    · exact .inr ⟨g, cap, cur, hv, hg, (hb.block g (Array.getElem?_eq_some_iff.1 hh).1 (hn g (hro g (by rw [hv]; rfl)))).trans hh, r⟩, h.bo, h.ro, fun k hk => Nat.lt_of_lt_of_le (h.lt k hk) hb.size⟩
/-- The row becomes shorter. -/
theorem HeapP.cut {own : List Nat} {W : World} {b g n c m : Nat} {fv : Value} {l : List ((Int × Int) × Int)} {puts : Int} (h : HeapP own W b fv (.slice (some ⟨g, 0, none⟩) n c) l puts) (hgb : g ≠ b) (hm : m ≤ l.length) :
    HeapP own (W.setCell ⟨b, 1, none⟩ (.slice (some ⟨g, 0, none⟩) m c)) b fv (.slice (some ⟨g, 0, none⟩) m c) (l.take m) puts := by
  have hl : (l.take m).length = m := by simp; omega
  refine ⟨heap_setCell_same W b 1 _ _ _ h.blk, ?_, h.bo, fun g' hg' => h.ro g' (by simpa [Value.ownBlock] using hg'), fun k hk => by have := h.lt k hk; simpa [World.setCell] using this⟩
  rw [hl]
  rcases h.row.2 with ⟨e, _⟩ | ⟨g', cap, cur, e, hg, hh, hn, hcap, hsz, ht⟩
  · cases e
  · cases e
    have hf : (flatP (l.take m)).length = m * 3 := by rw [flatP_len, hl]
    refine ⟨hf, .inr ⟨g, c, cur, rfl, hg, (Below.heap_setCell _ _ _ _ (by simpa using hgb)).trans hh, by omega, hcap, hsz, ?_⟩⟩
    have e1 : flatP l = flatP (l.take m) ++ flatP (l.drop m) := by rw [← flatP_app, List.take_append_drop]
    have e2 : (cur.toList.take (l.length * 3)).take (m * 3) = (flatP (l.take m) ++ flatP (l.drop m)).take (m * 3) := by rw [ht, e1]
    rw [List.take_take, Nat.min_eq_left (Nat.mul_le_mul_right _ hm)] at e2
    rw [e2, ← hf, List.take_left]
theorem clearNP (w : World) (g o c : Nat) (hc : ∀ j, j < 3 → (w.cell? ⟨g, o + j, none⟩).isSome = true) (hf : ∀ j, w.frozen? ⟨g, j, none⟩ = false) :
    (Builtin.clear_ #[75] 0 #[.slice (some ⟨g, o, none⟩) 1 c]).run Try.prog w = .ok (.tuple #[]) (((w.setCell ⟨g, o, none⟩ (.int .i64 0)).setCell ⟨g, o + 1, none⟩ (.int .i64 0)).setCell ⟨g, o + 2, none⟩ (.int .i64 0)) := by
  have hv : ∀ w, (zeroValue 80).run Try.prog w = .ok (.agg #[.int .i64 0, .int .i64 0, .int .i64 0]) w := fun w => by kernel_rfl
  have hst := run_storeCells_cells (P := Try.prog) g o [.int .i64 0, .int .i64 0, .int .i64 0] 0 w (by simpa using hc) (fun j _ => hf _) (by simp [Value.oneCell'])
  have hz : (Builtin.zeroCells (Value.cells (.agg #[.int .i64 0, .int .i64 0, .int .i64 0])) 1).toList = [.int .i64 0, .int .i64 0, .int .i64 0] := by kernel_rfl
  simp only [Nat.add_zero] at hst
  simp [Builtin.clear_, run_underlying Try.underlying75, hv, hz, hst]
  rfl
set_option maxHeartbeats 400000 in
theorem hlen0P (b : Nat) (a : Option Addr) (n c : Nat) (w : World) (c1 : w.cell? ⟨b, 1, none⟩ = some (.slice a n c)) :
    Calls Try.prog 14 #[.pointer (some ⟨b, 0, none⟩)] w fun e w' => e = .returned (.int .i64 n) ∧ w = w' := by
  go_enter Try.func14, Try.ntmps14
  go_wp2
  go_ret
  exact ⟨rfl, rfl⟩
theorem takeL_eq {key : Int × Int → Int} (l : List ((Int × Int) × Int)) : takeL' (ahK key) l = sinkL (ahK key) (headL' l) 0 := by
  unfold takeL'
  split
  · rename_i h
    have h1 : headL' l = [] := List.eq_nil_of_length_eq_zero (by rw [head_len]; omega)
    rw [h1, sink_stop]
    unfold downAt
    rw [if_neg (fun h => by simp at h)]
    unfold downOne
    rw [if_neg (fun h => by simp at h)]
  · rfl

set_option maxRecDepth 100000 in
set_option maxHeartbeats 4000000 in
theorem takeP {of : Nat} {key : Int × Int → Int} (ho : OrdP of key) {own : List Nat} {b : Nat} {v : Value} {l : List ((Int × Int) × Int)} {puts : Int} (hm : l.length ≤ 1073741824) (w : World) (h : HeapP own w b (.func (.func of) #[] #[]) v l puts) :
    Calls Try.prog 44 #[.pointer (some ⟨b, 0, none⟩)] w fun e w' => e = .returned (.tuple #[if l.length = 0 then valNP ((0, 0), 0) else valNP (at' l 0), .bool (decide (l.length ≠ 0))]) ∧ (∃ v', HeapP own w' b (.func (.func of) #[] #[]) v' (if l.length = 0 then [] else takeL' (ahK key) l) puts) ∧ But own w w' := by
  have H := Lib.hid h
  by_cases h0 : l.length = 0
  · rw [if_pos h0, if_pos h0, show decide (l.length ≠ 0) = false from by simp [h0]]
    have hln : l = [] := List.eq_nil_of_length_eq_zero h0
    subst hln
    have HLN := Lib.hid (fun W hW => hlenP (own := own) (b := b) (fv := .func (.func of) #[] #[]) (v := v) (l := []) (puts := puts) W hW)
    clear h h0
    go_enter Try.func44, Try.ntmps44
    go_wp2_with (go_at_call 14; refine (HLN.out _ (H.out.below ((Below.refl _ _).alloc (Nat.le_refl _) _) (Nat.le_refl _))).mono ?_; rintro e w' ⟨rfl, rfl⟩)
    (try simp only [Exit.inBlock, Exit.then])
    refine bodyPost_ret (v := .tuple #[valNP ((0, 0), 0), .bool false]) ?_ rfl ⟨rfl, ⟨v, ?_⟩, ?_⟩
    · rw [results_cell_tmp rfl]
      simp [asAddr, Result.andThen]
      go_simp
      rfl
    · exact H.out.below ((Below.refl _ _).alloc (Nat.le_refl _) _) (Nat.le_refl _)
    · exact But.of_below ((Below.refl _ _).alloc (Nat.le_refl _) _)
  · rw [if_neg h0, if_neg h0, show decide (l.length ≠ 0) = true from by simp [h0], takeL_eq]
    have c1 := h.c1
    have f1 := h.frozen 1
    obtain ⟨a, c, rfl, hc⟩ := h.form
    obtain ⟨n, hm1⟩ : ∃ n, l.length = n := ⟨_, rfl⟩
    obtain ⟨m, hmn⟩ : ∃ m, m + 1 = n := ⟨n - 1, by omega⟩
    obtain ⟨g, rfl, _, hg, hgb, i0, i1, i2, hf⟩ := h.at_ (i := 0) (by omega)
    obtain ⟨g', e, _, _, _, j0, j1, j2, _⟩ := h.at_ (i := m) (by omega)
    cases e
    simp only [Nat.zero_mul, Nat.zero_add] at i0 i1 i2
    have hgl := h.lt g hg
    have hbl := h.lt b h.bo
    obtain ⟨⟨⟨k, u⟩, p⟩, hx⟩ : ∃ x, at' l 0 = x := ⟨_, rfl⟩
    obtain ⟨⟨⟨k', u'⟩, p'⟩, hy⟩ : ∃ x, at' l m = x := ⟨_, rfl⟩
    rw [hx] at i0 i1 i2 ⊢
    rw [hy] at j0 j1 j2
    have HY := Lib.hid hy
    have HM1 := Lib.hid hm1
    have HLN := Lib.hid (fun (W : World) (hW : HeapP own W b (.func (.func of) #[] #[]) (.slice (some ⟨g, 0, none⟩) l.length c) l puts) => (by have := hlenP W hW; rw [hm1] at this; exact this : Calls Try.prog 14 #[.pointer (some ⟨b, 0, none⟩)] W fun e w' => e = .returned (.int .i64 (n : Int)) ∧ W = w'))
    rw [hm1] at c1 hc hm
    simp only at i0 i1 i2 j0 j1 j2
    have b2 : ((n : Int) == 0) = false := by simp; omega
    have b3 : (n : Int) - 1 = (m : Int) := by omega
    have b4 : (0 : Int) ≤ m := by omega
    have b5 : (m : Int) < (n : Int) := by omega
    have b6 : (m : Int) ≤ (c : Int) := by omega
    have b7 : (0 : Int) < n := by omega
    have b9 : IntKind.i64.wrap (m : Int) = m := IntWalk.i64_in _ (by omega)
    have b8 : 0 < n := by omega
    have n0 := World.new_ne w _ c1
    have n1 := World.new_ne w _ i0
    clear h hx hy hm1 h0
    go_enter Try.func44, Try.ntmps44
    go_upto_region 3 with (go_at_call 14; refine (HLN.out _ (H.out.below ((Below.refl _ _).alloc (Nat.le_refl _) _) (Nat.le_refl _))).mono ?_; rintro e w' ⟨rfl, rfl⟩)
    have HLS := Lib.hid (fun (W : World) (hW : W.cell? ⟨b, 1, none⟩ = some (.slice (some ⟨g, 0, none⟩) n c) ∧ W.cell? ⟨g, 0, none⟩ = some (.int .i64 k) ∧ W.cell? ⟨g, 1, none⟩ = some (.int .i64 u) ∧ W.cell? ⟨g, 2, none⟩ = some (.int .i64 p)) => hlen0P b _ n c W hW.1)
    go_region_held3 (fun W => W.cell? ⟨b, 1, none⟩ = some (.slice (some ⟨g, 0, none⟩) n c) ∧ W.cell? ⟨g, 0, none⟩ = some (.int .i64 k) ∧ W.cell? ⟨g, 1, none⟩ = some (.int .i64 u) ∧ W.cell? ⟨g, 2, none⟩ = some (.int .i64 p)) (go_keep) ((go_at_call 14; refine (HLS.out _ (by assumption)).mono ?_; rintro e w' ⟨rfl, rfl⟩))
    all_goals
      clear b9 c1 f1 i0 i1 i2 j0 j1 j2 hf n0 n1 HLS
      have hb2 : Below w.heap.size w (((w.alloc (Obj.cells #[Value.int IntKind.i64 0, Value.int IntKind.i64 0, Value.int IntKind.i64 0] 80)).alloc (Obj.cells #[Value.int IntKind.i64 k, Value.int IntKind.i64 u, Value.int IntKind.i64 p] 80)).drew) := (((Below.refl _ _).alloc (Nat.le_refl _) _).alloc (by simp) _).drew
      have d0 : (((w.alloc (Obj.cells #[Value.int IntKind.i64 0, Value.int IntKind.i64 0, Value.int IntKind.i64 0] 80)).alloc (Obj.cells #[Value.int IntKind.i64 k, Value.int IntKind.i64 u, Value.int IntKind.i64 p] 80)).drew).heap[w.heap.size]? = some (.cells #[Value.int IntKind.i64 0, Value.int IntKind.i64 0, Value.int IntKind.i64 0] 80 (0, 0)) := by
        show ((w.alloc _).alloc _).heap[w.heap.size]? = _
        rw [heap_alloc_old' _ _ _ (by simp)]; exact World.alloc_heap_new w _
      have d1 : (((w.alloc (Obj.cells #[Value.int IntKind.i64 0, Value.int IntKind.i64 0, Value.int IntKind.i64 0] 80)).alloc (Obj.cells #[Value.int IntKind.i64 k, Value.int IntKind.i64 u, Value.int IntKind.i64 p] 80)).drew).heap[w.heap.size + 1]? = some (.cells #[Value.int IntKind.i64 k, Value.int IntKind.i64 u, Value.int IntKind.i64 p] 80 (0, 0)) := by
        have := World.alloc_heap_new (w.alloc (Obj.cells #[Value.int IntKind.i64 0, Value.int IntKind.i64 0, Value.int IntKind.i64 0] 80)) (Obj.cells #[Value.int IntKind.i64 k, Value.int IntKind.i64 u, Value.int IntKind.i64 p] 80)
        rw [World.size_alloc] at this
        exact this
      obtain ⟨w2, hw2⟩ : ∃ w2, (((w.alloc (Obj.cells #[Value.int IntKind.i64 0, Value.int IntKind.i64 0, Value.int IntKind.i64 0] 80)).alloc (Obj.cells #[Value.int IntKind.i64 k, Value.int IntKind.i64 u, Value.int IntKind.i64 p] 80)).drew) = w2 := ⟨_, rfl⟩
      rw [hw2] at hb2 d0 d1
      have h2 := H.out.below hb2 (Nat.le_refl _)
      have c1 := h2.c1
      have f1 := h2.frozen 1
      obtain ⟨g', e, _, _, _, i0, i1, i2, hf⟩ := h2.at_ (i := 0) (by have := HM1.out; omega)
      cases e
      obtain ⟨g', e, _, _, _, j0, j1, j2, _⟩ := h2.at_ (i := m) (by have := HM1.out; omega)
      cases e
      rw [HY.out] at j0 j1 j2
      simp only [Nat.zero_mul, Nat.zero_add] at i0 i1 i2
      simp only at j0 j1 j2
      rw [HM1.out] at c1
      have D0 := Lib.hid d0
      have D1 := Lib.hid d1
      have H2 := Lib.hid h2
      have B2 := Lib.hid hb2
      clear h2 hb2 d0 d1
      go_upto_region 4 with fail
      rw [hw2]
      clear hw2
      go_region
      have h3 := (H2.out.put hgb rfl 0 ((k', u'), p')).drew
      have b3' : But own w2 (((w2.setCell ⟨g, 0, none⟩ (Value.int .i64 k')).setCell ⟨g, 1, none⟩ (Value.int .i64 u')).setCell ⟨g, 2, none⟩ (Value.int .i64 p')).drew := ((((But.refl own w2).set (p := ⟨g, 0, none⟩) (.inl hg) _).set (p := ⟨g, 1, none⟩) (.inl hg) _).set (p := ⟨g, 2, none⟩) (.inl hg) _).drew
      simp only [Nat.zero_mul, Nat.zero_add] at h3
      obtain ⟨w3, hw3⟩ : ∃ w3, (((w2.setCell ⟨g, 0, none⟩ (Value.int .i64 k')).setCell ⟨g, 1, none⟩ (Value.int .i64 u')).setCell ⟨g, 2, none⟩ (Value.int .i64 p')).drew = w3 := ⟨_, rfl⟩
      rw [hw3] at h3 b3' ⊢
      clear hw3 c1 f1 i0 i1 i2 j0 j1 j2 hf
      have c1 := h3.c1
      have f1 := h3.frozen 1
      obtain ⟨g', e, _, _, _, j0, j1, j2, hf⟩ := h3.at_ (i := m) (by rw [List.length_set]; have := HM1.out; omega)
      cases e
      rw [HM1.out] at c1
      have H3 := Lib.hid h3
      have B3 := Lib.hid b3'
      clear h3 b3'
      have hcl : (Builtin.clear_ #[75] 0 #[.slice (some ⟨g, m * 3, none⟩) (n - m) (c - m)]).run Try.prog w3 = .ok (.tuple #[]) (((w3.setCell ⟨g, m * 3, none⟩ (.int .i64 0)).setCell ⟨g, m * 3 + 1, none⟩ (.int .i64 0)).setCell ⟨g, m * 3 + 2, none⟩ (.int .i64 0)) := by
        rw [show n - m = 1 from by omega]
        refine clearNP w3 g (m * 3) (c - m) (fun j hj => ?_) hf
        match j, hj with
        | 0, _ => rw [Nat.add_zero, j0]; rfl
        | 1, _ => rw [j1]; rfl
        | 2, _ => rw [j2]; rfl
      have h4 := H3.out.put hgb (by rw [List.length_set]) m ((0, 0), 0)
      have b4' : But own w3 (((w3.setCell ⟨g, m * 3, none⟩ (.int .i64 0)).setCell ⟨g, m * 3 + 1, none⟩ (.int .i64 0)).setCell ⟨g, m * 3 + 2, none⟩ (.int .i64 0)) := (((But.refl own w3).set (p := ⟨g, m * 3, none⟩) (.inl hg) _).set (p := ⟨g, m * 3 + 1, none⟩) (.inl hg) _).set (p := ⟨g, m * 3 + 2, none⟩) (.inl hg) _
      obtain ⟨w4, hw4⟩ : ∃ w4, (((w3.setCell ⟨g, m * 3, none⟩ (.int .i64 0)).setCell ⟨g, m * 3 + 1, none⟩ (.int .i64 0)).setCell ⟨g, m * 3 + 2, none⟩ (.int .i64 0)) = w4 := ⟨_, rfl⟩
      simp only at h4
      rw [hw4] at hcl h4 b4'
      have d1 := h4.c1
      have e1 := h4.frozen 1
      rw [HM1.out] at d1
      have hlm : m ≤ ((l.set 0 ((k', u'), p')).set m ((0, 0), 0)).length := by rw [List.length_set, List.length_set]; have := HM1.out; omega
      have hhd : ((l.set 0 ((k', u'), p')).set m ((0, 0), 0)).take m = headL' l := by
        unfold headL'
        rw [HM1.out, show n - 1 = m from by omega, HY.out, List.take_set, List.set_eq_of_length_le (by rw [List.length_take]; omega)]
      have h5 := h4.cut hgb hlm
      have b5' := b4'.set (p := ⟨b, 1, none⟩) (.inl H.out.bo) (Value.slice (some ⟨g, 0, none⟩) m c)
      rw [hhd] at h5
      have HSK := Lib.hid (sinkP ho 0 (by have := head_len l; have := HM1.out; omega) _ h5 (Nat.zero_le _))
      have B5 := Lib.hid b5'
      have hno0 : w.heap.size ∉ own := fun hk => by have := H.out.lt _ hk; omega
      have hno1 : w.heap.size + 1 ∉ own := fun hk => by have := H.out.lt _ hk; omega
      clear hw4 h4 b4' h5 b5' hhd hlm j0 j1 j2
      go_wp2_with (go_at_call 64; refine HSK.out.mono ?_; rintro e w6 ⟨rfl, h6, b6'⟩; have H6 := Lib.hid h6; have ht := (B3.out.trans' B5.out).trans' b6'; have HT := Lib.hid ht; have y0 := (ht.block w.heap.size (Array.getElem?_eq_some_iff.1 D0.out).1 hno0).trans D0.out; have y1 := (ht.block (w.heap.size + 1) (Array.getElem?_eq_some_iff.1 D1.out).1 hno1).trans D1.out; have r0 := cell_of_row w6 _ 0 _ _ _ y1; have r1 := cell_of_row w6 _ 1 _ _ _ y1; have r2 := cell_of_row w6 _ 2 _ _ _ y1; have s0 := cell_of_row w6 _ 0 _ _ _ y0; have s1 := cell_of_row w6 _ 1 _ _ _ y0; have s2 := cell_of_row w6 _ 2 _ _ _ y0; have t0 := frozen_of_row w6 _ 0 _ _ y0; have t1 := frozen_of_row w6 _ 1 _ _ y0; have t2 := frozen_of_row w6 _ 2 _ _ y0; simp at r0 r1 r2 s0 s1 s2; clear h6 b6' ht y0 y1)
      (try simp only [Exit.inBlock, Exit.then])
      refine bodyPost_ret (v := .tuple #[valNP ((k, u), p), .bool true]) ?_ rfl ⟨rfl, ⟨_, H6.out.but (((((But.refl [w.heap.size] w6).set (p := ⟨w.heap.size, 0, none⟩) (.inl (by simp)) _).set (p := ⟨w.heap.size, 1, none⟩) (.inl (by simp)) _).set (p := ⟨w.heap.size, 2, none⟩) (.inl (by simp)) _)) (fun q hq e => hno0 (by simp at e; rw [← e]; exact hq))⟩, ?_⟩
      · rw [results_cell_tmp rfl]
        simp [asAddr, Result.andThen]
        go_simp
        rfl
      · exact ((((But.of_below B2.out).trans' HT.out).set (p := ⟨w.heap.size, 0, none⟩) (.inr (Nat.le_refl _)) _).set (p := ⟨w.heap.size, 1, none⟩) (.inr (Nat.le_refl _)) _).set (p := ⟨w.heap.size, 2, none⟩) (.inr (Nat.le_refl _)) _

/-- What is first, if there is one. -/
def firstP (l : List ((Int × Int) × Int)) : Int × Int := if l.length = 0 then (0, 0) else (at' l 0).1
def restP (key : Int × Int → Int) (l : List ((Int × Int) × Int)) : List ((Int × Int) × Int) := if l.length = 0 then [] else takeL' (ahK key) l
theorem firstNP (l : List ((Int × Int) × Int)) : ∃ p, (if l.length = 0 then valNP ((0, 0), 0) else valNP (at' l 0)) = valNP (firstP l, p) := by
  unfold firstP
  split
  · exact ⟨0, rfl⟩
  · exact ⟨(at' l 0).2, rfl⟩

set_option maxRecDepth 100000 in
set_option maxHeartbeats 4000000 in
theorem popP {of : Nat} {key : Int × Int → Int} (ho : OrdP of key) {own : List Nat} {b : Nat} {v : Value} {l : List ((Int × Int) × Int)} {puts : Int} (hm : l.length ≤ 1073741824) (w : World) (h : HeapP own w b (.func (.func of) #[] #[]) v l puts) :
    Calls Try.prog 13 #[.pointer (some ⟨b, 0, none⟩)] w fun e w' => e = .returned (.tuple #[valP (firstP l), .bool (decide (l.length ≠ 0))]) ∧ (∃ v', HeapP own w' b (.func (.func of) #[] #[]) v' (restP key l) puts) ∧ But own w w' := by
  obtain ⟨p, hp⟩ := firstNP l
  have HT := Lib.hid (fun W hW => takeP ho (own := own) (b := b) (v := v) (l := l) (puts := puts) hm W hW)
  rw [hp] at HT
  clear hp
  obtain ⟨⟨k, u⟩, hq⟩ : ∃ q, firstP l = q := ⟨_, rfl⟩
  obtain ⟨bb, hbb⟩ : ∃ bb, decide (l.length ≠ 0) = bb := ⟨_, rfl⟩
  rw [hq, hbb] at HT
  rw [hq, hbb]
  have hw1 := h.below ((Below.refl w.heap.size w).alloc (Nat.le_refl _) (.cells #[.int .i64 0, .int .i64 0] 27)) (Nat.le_refl _)
  have hno0 : w.heap.size ∉ own := fun hk => by have := h.lt _ hk; omega
  have HR : Hid ((if l.length = 0 then [] else takeL' (ahK key) l) = restP key l) := Lib.hid rfl
  have y0 := World.alloc_heap_new w (.cells #[.int .i64 0, .int .i64 0] 27)
  have hsz : (w.alloc (.cells #[.int .i64 0, .int .i64 0] 27)).heap.size = w.heap.size + 1 := by simp
  obtain ⟨w1, hw⟩ : ∃ w1, w.alloc (.cells #[.int .i64 0, .int .i64 0] 27) = w1 := ⟨_, rfl⟩
  have hb1 : Below w.heap.size w w1 := by rw [← hw]; exact (Below.refl _ _).alloc (Nat.le_refl _) _
  rw [hw] at hw1 y0 hsz
  have H1 := Lib.hid hw1
  have B1 := Lib.hid hb1
  have Y0 := Lib.hid y0
  have HZ := Lib.hid hsz
  clear hw1 hb1 y0 h hq hbb hsz
  unfold valNP at HT
  unfold valP
  go_enter Try.func13, Try.ntmps13
  go_upto_region 1 with fail
  clear hw
  go_wp2_with (go_at_call 44; refine (HT.out _ H1.out).mono ?_; rintro e w2 ⟨rfl, h2, b2⟩; have H2 := Lib.hid h2; have B2 := Lib.hid b2; have y2 := fun (o : Obj) => (heap_alloc_old' w2 o w.heap.size (Nat.lt_of_lt_of_le (by rw [HZ.out]; omega) b2.size)).trans ((b2.block w.heap.size (by rw [HZ.out]; omega) hno0).trans Y0.out); have s0 : ∀ o, (w2.alloc o).cell? ⟨w.heap.size, 0, none⟩ = some (.int .i64 0) := fun o => cell_of_row (w2.alloc o) _ 0 _ _ _ (y2 o); have s1 : ∀ o, (w2.alloc o).cell? ⟨w.heap.size, 1, none⟩ = some (.int .i64 0) := fun o => cell_of_row (w2.alloc o) _ 1 _ _ _ (y2 o); have t0 := fun o => frozen_of_row (w2.alloc o) _ 0 _ _ (y2 o); have t1 := fun o => frozen_of_row (w2.alloc o) _ 1 _ _ (y2 o); clear h2 b2 y2)
  (try simp only [Exit.inBlock, Exit.then])
  obtain ⟨v2, h2⟩ := H2.out
  rw [HR.out] at h2
  refine bodyPost_ret (v := .tuple #[.agg #[.int .i64 k, .int .i64 u], .bool bb]) ?_ rfl ⟨rfl, ⟨v2, ?_⟩, ?_⟩
  · rw [results_cell_tmp rfl]
    simp [asAddr, Result.andThen]
    go_simp
  · have hh := h2.below ((Below.refl _ w2).alloc (Nat.le_refl _) (Obj.cells #[Value.int IntKind.i64 k, Value.int IntKind.i64 u, Value.int IntKind.i64 p] 80)) (Nat.le_refl _)
    exact hh.but (((But.refl [w.heap.size] _).set (p := ⟨w.heap.size, 0, none⟩) (.inl (by simp)) _).set (p := ⟨w.heap.size, 1, none⟩) (.inl (by simp)) _) (fun q hq e => hno0 (by simp at e; rw [← e]; exact hq))
  · exact (((((But.of_below B1.out).trans' B2.out).alloc _).set (p := ⟨w.heap.size, 0, none⟩) (.inr (Nat.le_refl _)) _).set (p := ⟨w.heap.size, 1, none⟩) (.inr (Nat.le_refl _)) _)

end Go.Proofs.Ytpdncgjepfgnjaa
