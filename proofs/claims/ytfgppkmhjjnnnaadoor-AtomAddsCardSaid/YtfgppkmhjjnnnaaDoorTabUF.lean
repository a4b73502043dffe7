/- A table as the list of its keys with their values. -/
import Derived.Test.YtfgppkmhjjnnnaaDoorTabUE
namespace Go.Proofs.YtfgppkmhjjnnnaaDoor
open Go.RowKit
set_option linter.unusedVariables false

abbrev KV := List (Int × Int)
theorem ordN : Tr.Order ltN := intOrder
/-- The table at block b has just these. -/
structure TabN (W : World) (b : Nat) (l : KV) : Prop where
  at_ : ∃ t a, W.heap[b]? = some (.cells #[.pointer a] 66 (0, 0)) ∧ AtN W t (.pointer a) ∧ t.list = l
  rise : Tr.Rising ltN l
theorem StayN.of_but {own : List Nat} {W W' : World} (h : But own W W') (ho : ∀ k ∈ own, ∀ cs, W.heap[k]? ≠ some (.cells cs 80 (0, 0))) : StayN W W' := fun b cs hb => (h.block b (Array.getElem?_eq_some_iff.1 hb).1 (fun hm => ho b hm cs hb)).trans hb
theorem TabN.stay {W W' : World} {b : Nat} {l : KV} (h : TabN W b l) (hs : StayN W W') (hb : W'.heap[b]? = W.heap[b]?) : TabN W' b l := by
  obtain ⟨t, a, h1, h2, h3⟩ := h.at_
  exact ⟨⟨t, a, hb.trans h1, AtN.stay hs _ _ h2, h3⟩, h.rise⟩
theorem TabN.below {W W' : World} {b : Nat} {l : KV} (h : TabN W b l) (hb : Below W.heap.size W W') : TabN W' b l := by
  obtain ⟨t, a, h1, h2, h3⟩ := h.at_
  exact h.stay (StayN.of_below hb) (hb.block b (Array.getElem?_eq_some_iff.1 h1).1)
theorem TabN.lt {W : World} {b : Nat} {l : KV} (h : TabN W b l) : b < W.heap.size := by
  obtain ⟨t, a, h1, _⟩ := h.at_
  exact (Array.getElem?_eq_some_iff.1 h1).1
/-- A table's own block holds no node. -/
theorem TabN.noNode {W : World} {b : Nat} {l : KV} (h : TabN W b l) : ∀ cs, W.heap[b]? ≠ some (.cells cs 80 (0, 0)) := fun cs e => by
  obtain ⟨t, a, h1, _⟩ := h.at_
  rw [h1] at e
  simp at e
theorem ins_new {k v : Int} : ∀ {l : KV}, Tr.getK k l = none → (Tr.insK ltN k v l).length = l.length + 1
  | [], h => rfl
  | (a, b) :: r, h => by
    simp only [Tr.getK] at h
    split at h
    · cases h
    · rename_i e
      simp only [Tr.insK]
      rw [if_neg e]
      split
      · rfl
      · show (Tr.insK ltN k v r).length + 1 = r.length + 1 + 1
        rw [ins_new h]
theorem ins_old {k v : Int} : ∀ {l : KV}, Tr.Rising ltN l → Tr.getK k l ≠ none → (Tr.insK ltN k v l).length = l.length
  | [], hr, h => by simp [Tr.getK] at h
  | (a, b) :: r, hr, h => by
    obtain ⟨h1, h2⟩ := List.pairwise_cons.1 hr
    simp only [Tr.getK] at h
    simp only [Tr.insK]
    split
    · simp
    · rename_i e
      rw [if_neg e] at h
      split
      · rename_i hk
        exfalso
        exact h (Tr.get_high ordN r (fun x hx => ordN.trans _ _ _ hk (h1 x hx)))
      · simp [ins_old h2 h]
theorem drop_new {k : Int} : ∀ {l : KV}, Tr.getK k l = none → l.filter (fun x => decide (x.1 ≠ k)) = l
  | [], h => rfl
  | (a, b) :: r, h => by
    simp only [Tr.getK] at h
    split at h
    · cases h
    · rename_i e
      rw [List.filter_cons, if_pos (by simpa using fun e2 => e e2.symm), drop_new h]
theorem drop_old {k : Int} : ∀ {l : KV}, Tr.Rising ltN l → Tr.getK k l ≠ none → (l.filter (fun x => decide (x.1 ≠ k))).length + 1 = l.length
  | [], hr, h => by simp [Tr.getK] at h
  | (a, b) :: r, hr, h => by
    obtain ⟨h1, h2⟩ := List.pairwise_cons.1 hr
    simp only [Tr.getK] at h
    by_cases e : k = a
    · subst e
      rw [List.filter_cons, if_neg (by simp), List.filter_eq_self.2 (fun x hx => by simpa using fun e => Tr.ne_of ordN (h1 x hx) e.symm)]
      rfl
    · rw [if_neg e] at h
      rw [List.filter_cons, if_pos (by simpa using fun e2 => e e2.symm)]
      exact congrArg (· + 1) (drop_old h2 h)

/-- A table's top is another tree. -/
theorem tab_set {W : World} {b : Nat} {a a1 : Option Addr} {t : TrN} {l : KV} (hb : W.heap[b]? = some (.cells #[.pointer a] 66 (0, 0))) (ht : AtN W t (.pointer a1)) (hl : t.list = l) (hr : Tr.Rising ltN l) : TabN (W.setCell ⟨b, 0, none⟩ (.pointer a1)) b l := by
  have h1 := heap_setCell_same W b 0 _ _ (.pointer a1) hb
  refine ⟨⟨t, a1, by simp at h1; exact h1, AtN.stay (fun g cs hg => ?_) _ _ ht, hl⟩, hr⟩
  refine (Below.heap_setCell _ _ _ _ (show g ≠ b from fun e => ?_)).trans hg
  subst e
  rw [hb] at hg
  simp at hg

theorem tableLenN (b : Nat) (l : KV) (w : World) (h : TabN w b l) : Calls Tryd.prog 49 #[.pointer (some ⟨b, 0, none⟩)] w fun e w' => e = .returned (.int .i64 l.length) ∧ w' = w := by
  obtain ⟨t, a, h1, h2, h3⟩ := h.at_
  have c0 : w.cell? ⟨b, 0, none⟩ = some (.pointer a) := cell_of_row w b 0 _ _ _ h1
  have HL := Lib.hid (tlenN t _ w h2)
  rw [← Tr.list_len, h3] at HL
  obtain ⟨n, hn⟩ : ∃ n, l.length = n := ⟨_, rfl⟩
  rw [hn] at HL ⊢
  clear h h1 h2 h3 hn
  go_enter Tryd.func49, Tryd.ntmps49
  go_wp2_with fail
  refine HL.out.mono ?_
  rintro e w1 ⟨rfl, rfl⟩
  go_wp2_with fail
  go_ret
  exact ⟨rfl, rfl⟩

set_option maxRecDepth 100000 in
set_option maxHeartbeats 4000000 in
theorem tablePutN (k v : Int) (b : Nat) (l : KV) (w : World) (h : TabN w b l) (hz : l.length ≤ 100000) : Calls Tryd.prog 38 #[.pointer (some ⟨b, 0, none⟩), .int .u64 k, .int .i64 v] w fun e w' => e = .returned (.bool (Tr.getK k l).isNone) ∧ TabN w' b (Tr.insK ltN k v l) ∧ But [b] w w' := by
  obtain ⟨t, a, h1, h2, h3⟩ := h.at_
  have c0 : w.cell? ⟨b, 0, none⟩ = some (.pointer a) := cell_of_row w b 0 _ _ _ h1
  have f0 := frozen_of_row w b 0 _ _ h1
  have HL1 := Lib.hid (tableLenN b l w h)
  have HP := Lib.hid (putN k v t _ w h2 (by rw [← Tr.list_len, h3]; exact hz))
  have hpl := Tr.put_list ordN k v t (by rw [h3]; exact h.rise)
  rw [h3] at hpl
  have HPL := Lib.hid hpl
  have HRI := Lib.hid (Tr.insK_rising ordN k v l h.rise).1
  have hlt := h.lt
  obtain ⟨m, hm⟩ : ∃ m, (Tr.insK ltN k v l).length = m := ⟨_, rfl⟩
  have hdec : decide (l.length < m) = (Tr.getK k l).isNone := by
    cases hg : Tr.getK k l with
    | none =>
      have := ins_new (v := v) hg
      simp; omega
    | some x =>
      have := ins_old (v := v) h.rise (by rw [hg]; simp)
      simp; omega
  have HNN := Lib.hid h.noNode
  have H1 := Lib.hid h1
  obtain ⟨n, hn⟩ : ∃ n, l.length = n := ⟨_, rfl⟩
  have HM := Lib.hid hm
  rw [hn] at HL1 hdec
  clear h h1 h2 hpl h3 hn hm hz
  go_enter Tryd.func38, Tryd.ntmps38
  go_wp2_with fail
  refine HL1.out.mono ?_
  rintro e w1 ⟨rfl, rfl⟩
  go_wp2_with fail
  refine HP.out.mono ?_
  rintro e w2 ⟨p1, rfl, h1, hb1⟩
  obtain ⟨a1, rfl⟩ := h1.form
  have c1 : w2.cell? ⟨b, 0, none⟩ = some (.pointer a) := (hb1.cell (p := ⟨b, 0, none⟩) hlt).trans c0
  have f1 : w2.frozen? ⟨b, 0, none⟩ = false := (World.frozen?_of_block (a := ⟨b, 0, none⟩) (hb1.block b hlt)).trans f0
  have h1b := (hb1.block b hlt).trans H1.out
  have hT : TabN (w2.setCell ⟨b, 0, none⟩ (.pointer a1)) b (Tr.insK ltN k v l) := tab_set h1b h1 HPL.out HRI.out
  have HT := Lib.hid hT
  have HL2 := Lib.hid (tableLenN b _ _ hT)
  rw [HM.out] at HL2
  have B1 := Lib.hid hb1
  clear h1 hb1 hT h1b HP
  go_wp2_with fail
  refine HL2.out.mono ?_
  rintro e w3 ⟨rfl, rfl⟩
  go_wp2_with fail
  go_ret
  exact ⟨by rw [← hdec]; rfl, HT.out, ((But.of_below (own := []) B1.out).more (fun k hk => by cases hk)).set (.inl (by simp)) _⟩

set_option maxHeartbeats 1000000 in
theorem tableGetN (k : Int) (b : Nat) (l : KV) (w : World) (h : TabN w b l) : Calls Tryd.prog 37 #[.pointer (some ⟨b, 0, none⟩), .int .u64 k] w fun e w' => e = .returned (.tuple #[.int .i64 ((Tr.getK k l).getD 0), .bool (Tr.getK k l).isSome]) ∧ ∃ n, w' = w.drewN n := by
  obtain ⟨t, a, h1, h2, h3⟩ := h.at_
  have c0 : w.cell? ⟨b, 0, none⟩ = some (.pointer a) := cell_of_row w b 0 _ _ _ h1
  have HF := Lib.hid (findN k t _ w h2)
  have hfl := Tr.find_list ordN k t (by rw [h3]; exact h.rise)
  rw [h3, Tr.seek_find] at hfl
  rw [← hfl]
  clear h h1 h2 h3 hfl
  go_enter Tryd.func37, Tryd.ntmps37
  go_wp2_with fail
  refine HF.out.mono ?_
  rintro e w1 ⟨p1, rfl, h1, n, rfl⟩
  cases hs : Tr.seek ltN k t with
  | nil =>
    rw [hs] at h1
    obtain rfl := h1
    go_wp2
    refine bodyPost_ret (results_tmp2 rfl _ _ _) rfl ?_
    exact ⟨by rw [hs]; rfl, n, rfl⟩
  | node x v l' r' =>
    rw [hs] at h1
    obtain ⟨g, _, _, rfl, _, _, _, _, d1, _, _, _⟩ := h1.cells
    have d1q : (w.drewN n).cell? ⟨g, 1, none⟩ = some (.int .i64 v) := d1
    clear h1
    go_wp2
    refine bodyPost_ret (results_tmp2 rfl _ _ _) rfl ?_
    exact ⟨by rw [hs]; rfl, n, rfl⟩

/-- The greatest key below another one. -/
def belowL (k : Int) (l : KV) : Option (Int × Int) := (l.filter fun x => ltN x.1 k).getLast?
theorem under_list (k : Int) : ∀ (t best : TrN), Tr.Rising ltN t.list → (Tr.under ltN k best t).top? = ((belowL k t.list).or best.top?)
  | .nil, best, h => rfl
  | .node a b l r, best, h => by
    obtain ⟨h1, h2, h3, h4, h5⟩ := Tr.rising_parts ordN h
    unfold belowL
    simp only [Tr.list, List.filter_append, List.filter_cons]
    cases hk : ltN a k with
    | true =>
      have e1 : Tr.under ltN k best (.node a b l r) = Tr.under ltN k (.node a b l r) r := if_pos hk
      rw [e1, under_list k r _ h2]
      unfold belowL
      rw [if_pos rfl, List.getLast?_append, List.getLast?_cons]
      cases (List.filter (fun x => ltN x.fst k) r.list).getLast? with
      | none => rfl
      | some y => rfl
    | false =>
      have e1 : Tr.under ltN k best (.node a b l r) = Tr.under ltN k best l := if_neg (by rw [hk]; decide)
      rw [e1, under_list k l _ h1]
      unfold belowL
      have e2 : List.filter (fun x => ltN x.fst k) r.list = [] := List.filter_eq_nil_iff.2 (fun x hx => by
        have := h4 x hx
        unfold ltN at this hk ⊢
        simp at this hk ⊢
        omega)
      rw [if_neg (by decide), e2, List.append_nil]
end Go.Proofs.YtfgppkmhjjnnnaaDoor