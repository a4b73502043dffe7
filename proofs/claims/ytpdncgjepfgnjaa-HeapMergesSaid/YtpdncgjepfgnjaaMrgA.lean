/- Rows of rows of pairs; slices.Clone at rows of pairs and at rows of rows. -/
import Derived.Test.YtpdncgjepfgnjaaHpV
import Derived.Test.YtpdncgjepfgnjaaHpX
import Derived.Test.YtpdncgjepfgnjaaHeapW
import Derived.Shelf.RegionOpenPlain
import Derived.Deep.LoopGhost
import Derived.Lib.Walk
import Derived.Lib.SliceRun
namespace Go.Proofs.Ytpdncgjepfgnjaa
open Go.RowKit
set_option linter.unusedVariables false

/-- The pairs of a slice, in a block from lo on and below hi. -/
def PrL (lo hi : Nat) (W : World) (v : Value) (xs : List (Int × Int)) : Prop :=
  (xs = [] ∧ ∃ a c, v = .slice a 0 c ∧ (a = none → c = 0)) ∨ ∃ b off cap, v = .slice (some ⟨b, off, none⟩) xs.length cap ∧ lo ≤ b ∧ b < hi ∧ xs.length ≤ cap ∧ ∀ j x, xs[j]? = some x → W.cell? ⟨b, off + j * 2, none⟩ = some (.int .i64 x.1) ∧ W.cell? ⟨b, off + j * 2 + 1, none⟩ = some (.int .i64 x.2)
section
variable {lo hi : Nat} {W W' : World} {v : Value} {xs : List (Int × Int)}
theorem PrL.form (h : PrL lo hi W v xs) : ∃ a c, v = .slice a xs.length c ∧ xs.length ≤ c := by
  rcases h with ⟨rfl, a, c, rfl, _⟩ | ⟨b, off, cap, rfl, _, _, hc, _⟩
  · exact ⟨a, c, rfl, Nat.zero_le _⟩
  · exact ⟨_, cap, rfl, hc⟩
theorem PrL.below {N : Nat} (h : PrL lo hi W v xs) (hb : Below N W W') (hn : hi ≤ N) : PrL lo hi W' v xs := by
  rcases h with h | ⟨b, off, cap, e, hl, hlt, hcap, hc⟩
  · exact .inl h
  · exact .inr ⟨b, off, cap, e, hl, hlt, hcap, fun j x hj => ⟨(hb.cell (p := ⟨b, off + j * 2, none⟩) (by simp; omega)).trans (hc j x hj).1, (hb.cell (p := ⟨b, off + j * 2 + 1, none⟩) (by simp; omega)).trans (hc j x hj).2⟩⟩
theorem PrL.but {own : List Nat} (h : PrL lo hi W v xs) (hb : But own W W') (ho : ∀ k ∈ own, k < lo ∨ hi ≤ k) (hn : hi ≤ W.heap.size) : PrL lo hi W' v xs := by
  rcases h with h | ⟨b, off, cap, e, hl, hlt, hcap, hc⟩
  · exact .inl h
  · have hk := hb.block b (by omega) (fun e => by have := ho b e; omega)
    exact .inr ⟨b, off, cap, e, hl, hlt, hcap, fun j x hj => ⟨(World.cell?_of_block (a := ⟨b, off + j * 2, none⟩) hk).trans (hc j x hj).1, (World.cell?_of_block (a := ⟨b, off + j * 2 + 1, none⟩) hk).trans (hc j x hj).2⟩⟩
theorem PrL.but' {own : List Nat} (h : PrL lo hi W v xs) (hb : But own W W') (ho : OffP own v) (hn : hi ≤ W.heap.size) : PrL lo hi W' v xs := by
  rcases h with h | ⟨b, off, cap, e, hl, hlt, hcap, hc⟩
  · exact .inl h
  · rcases Nat.eq_zero_or_pos xs.length with h0 | h0
    · obtain rfl := List.eq_nil_of_length_eq_zero h0
      exact .inl ⟨rfl, _, _, by rw [e]; rfl, fun h => by cases h⟩
    · have hk := hb.block b (by omega) (ho _ _ _ e h0)
      exact .inr ⟨b, off, cap, e, hl, hlt, hcap, fun j x hj => ⟨(World.cell?_of_block (a := ⟨b, off + j * 2, none⟩) hk).trans (hc j x hj).1, (World.cell?_of_block (a := ⟨b, off + j * 2 + 1, none⟩) hk).trans (hc j x hj).2⟩⟩
theorem PrL.mono {lo' hi' : Nat} (h : PrL lo hi W v xs) (h1 : lo' ≤ lo) (h2 : hi ≤ hi') : PrL lo' hi' W v xs := by
  rcases h with h | ⟨b, off, cap, e, hl, hlt, hcap, hc⟩
  · exact .inl h
  · exact .inr ⟨b, off, cap, e, by omega, by omega, hcap, hc⟩
theorem PrL.of_prs {n : Nat} (h : PrsP n W v xs) (h0 : ∀ m c, v = .slice none m c → c = 0) : PrL 0 n W v xs := by
  rcases h with ⟨h, a, c, e⟩ | ⟨b, off, cap, e, hlt, hcap, hc⟩
  · exact .inl ⟨h, a, c, e, fun ha => h0 0 c (by rw [e, ha])⟩
  · exact .inr ⟨b, off, cap, e, Nat.zero_le _, hlt, hcap, hc⟩
end
/-- The first of them, and the slice of the rest. -/
theorem PrL.head {lo hi : Nat} {W : World} {v : Value} {x : Int × Int} {r : List (Int × Int)} (h : PrL lo hi W v (x :: r)) :
    ∃ b off cap, v = .slice (some ⟨b, off, none⟩) (r.length + 1) (cap + 1) ∧ lo ≤ b ∧ b < hi ∧ r.length ≤ cap ∧ W.cell? ⟨b, off, none⟩ = some (.int .i64 x.1) ∧ W.cell? ⟨b, off + 1, none⟩ = some (.int .i64 x.2) ∧ (0 < cap → PrL lo hi W (.slice (some ⟨b, off + 2, none⟩) r.length cap) r) ∧ (cap = 0 → r = []) := by
  rcases h with ⟨h, _⟩ | ⟨b, off, cap, e, hl, hlt, hcap, hc⟩
  · cases h
  · simp only [List.length_cons] at e hcap
    obtain ⟨c, rfl⟩ : ∃ c, cap = c + 1 := ⟨cap - 1, by omega⟩
    have h0 := hc 0 x rfl
    refine ⟨b, off, c, e, hl, hlt, by omega, by simpa using h0.1, by simpa using h0.2, fun _ => .inr ⟨b, off + 2, c, rfl, hl, hlt, by omega, fun j y hj => ?_⟩, fun e0 => List.eq_nil_of_length_eq_zero (by omega)⟩
    have h1 := hc (j + 1) y (by simpa using hj)
    rw [show off + (j + 1) * 2 = off + 2 + j * 2 from by omega] at h1
    exact h1
/-- Rows of pairs, one for each value. -/
structure LL (lo hi : Nat) (W : World) (vs : List Value) (ls : List (List (Int × Int))) : Prop where
  len : vs.length = ls.length
  each : ∀ (i : Nat) (v : Value) (xs : List (Int × Int)), vs[i]? = some v → ls[i]? = some xs → PrL lo hi W v xs
section
variable {lo hi : Nat} {W W' : World} {vs : List Value} {ls : List (List (Int × Int))}
theorem LL.below {N : Nat} (h : LL lo hi W vs ls) (hb : Below N W W') (hn : hi ≤ N) : LL lo hi W' vs ls := ⟨h.len, fun i v xs h1 h2 => (h.each i v xs h1 h2).below hb hn⟩
theorem LL.but {own : List Nat} (h : LL lo hi W vs ls) (hb : But own W W') (ho : ∀ k ∈ own, k < lo ∨ hi ≤ k) (hn : hi ≤ W.heap.size) : LL lo hi W' vs ls := ⟨h.len, fun i v xs h1 h2 => (h.each i v xs h1 h2).but hb ho hn⟩
theorem LL.mono {lo' hi' : Nat} (h : LL lo hi W vs ls) (h1 : lo' ≤ lo) (h2 : hi ≤ hi') : LL lo' hi' W vs ls := ⟨h.len, fun i v xs q1 q2 => (h.each i v xs q1 q2).mono h1 h2⟩
theorem LL.set (h : LL lo hi W vs ls) (i : Nat) (v : Value) (xs : List (Int × Int)) (hv : PrL lo hi W v xs) : LL lo hi W (vs.set i v) (ls.set i xs) := by
  refine ⟨by simp [h.len], fun j u ys h1 h2 => ?_⟩
  by_cases e : i = j
  · subst e
    by_cases hlt : i < vs.length
    · rw [List.getElem?_set_self hlt] at h1
      rw [List.getElem?_set_self (by rw [← h.len]; exact hlt)] at h2
      cases h1; cases h2; exact hv
    · rw [List.getElem?_eq_none (by simp; omega)] at h1
      cases h1
  · rw [List.getElem?_set_ne e] at h1 h2
    exact h.each j u ys h1 h2
theorem LL.snoc (h : LL lo hi W vs ls) (v : Value) (xs : List (Int × Int)) (hv : PrL lo hi W v xs) : LL lo hi W (vs ++ [v]) (ls ++ [xs]) := by
  refine ⟨by simp [h.len], fun j u ys h1 h2 => ?_⟩
  rcases Nat.lt_trichotomy j vs.length with q | q | q
  · rw [List.getElem?_append_left q] at h1
    rw [List.getElem?_append_left (by rw [← h.len]; exact q)] at h2
    exact h.each j u ys h1 h2
  · subst q
    rw [List.getElem?_append_right (Nat.le_refl _), Nat.sub_self] at h1
    rw [List.getElem?_append_right (by rw [h.len]; exact Nat.le_refl _), h.len, Nat.sub_self] at h2
    cases h1; cases h2; exact hv
  · rw [List.getElem?_eq_none (by simp; omega)] at h1
    cases h1
theorem LL.at_ (h : LL lo hi W vs ls) {i : Nat} {xs : List (Int × Int)} (hx : ls[i]? = some xs) : ∃ v, vs[i]? = some v ∧ PrL lo hi W v xs := by
  have hlt : i < vs.length := by rw [h.len]; exact (List.getElem?_eq_some_iff.1 hx).1
  exact ⟨_, List.getElem?_eq_getElem hlt, h.each i _ xs (List.getElem?_eq_getElem hlt) hx⟩
theorem LL.form (h : LL lo hi W vs ls) : ∀ v ∈ vs, ∃ a n c, v = .slice a n c := fun v hv => by
  obtain ⟨i, hi, rfl⟩ := List.getElem_of_mem hv
  obtain ⟨a, c, e, _⟩ := (h.each i _ _ (List.getElem?_eq_getElem hi) (List.getElem?_eq_getElem (by rw [← h.len]; exact hi))).form
  exact ⟨_, _, _, e⟩
end

theorem add_pl (b o i : Nat) : (⟨b, o, none⟩ : Addr).add i = ⟨b, o + i, none⟩ := by unfold Addr.add; split <;> simp_all
def flat2 (xs : List (Int × Int)) : List Value := xs.flatMap fun x => [.int .i64 x.1, .int .i64 x.2]
theorem flat2_len : ∀ xs : List (Int × Int), (flat2 xs).length = xs.length * 2
  | [] => rfl
  | x :: xs => by
    have h := flat2_len xs
    unfold flat2 at h ⊢
    rw [List.flatMap_cons, List.length_append, h]
    simp; omega
theorem flat2_get : ∀ (l : List (Int × Int)) (i : Nat) (x : Int × Int), l[i]? = some x → (flat2 l)[i * 2]? = some (.int .i64 x.1) ∧ (flat2 l)[i * 2 + 1]? = some (.int .i64 x.2)
  | [], i, x, h => by simp at h
  | y :: l, 0, x, h => by
    simp at h; subst h
    simp [flat2]
  | y :: l, i + 1, x, h => by
    have := flat2_get l i x (by simpa using h)
    have e : flat2 (y :: l) = [Value.int .i64 y.1, Value.int .i64 y.2] ++ flat2 l := by unfold flat2; rw [List.flatMap_cons]
    rw [e]
    refine ⟨?_, ?_⟩
    · rw [List.getElem?_append_right (by simp; omega), show (i + 1) * 2 - [Value.int .i64 y.1, Value.int .i64 y.2].length = i * 2 from by simp; omega]; exact this.1
    · rw [List.getElem?_append_right (by simp; omega), show (i + 1) * 2 + 1 - [Value.int .i64 y.1, Value.int .i64 y.2].length = i * 2 + 1 from by simp; omega]; exact this.2
theorem flat2_at : ∀ (l : List (Int × Int)) (j : Nat) (u : Value), (flat2 l)[j]? = some u → ∃ i x, l[i]? = some x ∧ ((j = i * 2 ∧ u = .int .i64 x.1) ∨ (j = i * 2 + 1 ∧ u = .int .i64 x.2))
  | [], j, u, h => by simp [flat2] at h
  | y :: l, j, u, h => by
    have e : flat2 (y :: l) = Value.int .i64 y.1 :: Value.int .i64 y.2 :: flat2 l := by unfold flat2; rw [List.flatMap_cons]; rfl
    rw [e] at h
    match j with
    | 0 => simp at h; exact ⟨0, y, rfl, .inl ⟨rfl, h.symm⟩⟩
    | 1 => simp at h; exact ⟨0, y, rfl, .inr ⟨rfl, h.symm⟩⟩
    | j + 2 =>
      obtain ⟨i, x, h1, h2⟩ := flat2_at l j u (by simpa using h)
      refine ⟨i + 1, x, by simpa using h1, ?_⟩
      rcases h2 with ⟨rfl, rfl⟩ | ⟨rfl, rfl⟩
      · exact .inl ⟨by omega, rfl⟩
      · exact .inr ⟨by omega, rfl⟩
theorem flat2_one (l : List (Int × Int)) : ∀ u ∈ flat2 l, u.oneCell' = true := fun u hu => by
  obtain ⟨j, hj⟩ := List.getElem?_of_mem hu
  obtain ⟨i, x, _, ⟨_, rfl⟩ | ⟨_, rfl⟩⟩ := flat2_at l j u hj <;> rfl
/-- What is owned can be read. -/
theorem PrL.of_owns {w : World} {B e : Nat} {v : Value} {xs : List (Int × Int)} (h : w.ownsRow B e 2 v xs.length (flat2 xs)) : PrL B w.heap.size w v xs := by
  rcases h.2 with ⟨rfl, h0⟩ | ⟨g, cap, cur, rfl, hB, hgb, hn, _⟩
  · obtain rfl := List.eq_nil_of_length_eq_zero h0
    exact .inl ⟨rfl, none, 0, rfl, fun _ => rfl⟩
  · refine .inr ⟨g, 0, cap, rfl, hB, (Array.getElem?_eq_some_iff.1 hgb).1, hn, fun j x hj => ?_⟩
    have hlt : j < xs.length := (List.getElem?_eq_some_iff.1 hj).1
    obtain ⟨f1, f2⟩ := flat2_get xs j x hj
    refine ⟨?_, ?_⟩
    · rw [Nat.zero_add, h.cellAt _ (by omega)]; exact f1
    · rw [Nat.zero_add, h.cellAt _ (by omega)]; exact f2
theorem infoPr : (Try.prog.info? 27).map (fun i => (i.zero, i.size, i.bytes)) = some (some (.agg #[.int .i64 0, .int .i64 0]), 2, 16) := by kernel_rfl
theorem infoPs : (Try.prog.info? 29).map (fun i => (i.zero, i.size, i.bytes)) = some (some (.slice none 0 0), 1, 24) := by kernel_rfl

set_option maxHeartbeats 4000000 in
set_option maxRecDepth 100000 in
theorem clonePr (hi : Nat) (v : Value) (xs : List (Int × Int)) (w : World) (hx : xs.length ≤ 1048576) (h : PrL 0 hi w v xs) (hh : hi ≤ w.heap.size) :
    Calls Try.prog 55 #[v] w fun e w' => ∃ v', e = .returned v' ∧ PrL w.heap.size w'.heap.size w' v' xs ∧ Below w.heap.size w w' := by
  obtain ⟨i0, hi0, hz0, hz1, hz2⟩ := info_parts infoPr
  have q22 : ∀ (w : World) (a : Option Addr) (n c n' c' : Nat), (binOp .eql 29 (.slice a n c) (.slice none n' c')).run Try.prog w = .ok (.bool a.isNone) w := fun w a n c n' c' => Lib.run_eql_slice_nil w _ _ a n c n' c' Try.underlying29
  obtain ⟨a, c, rfl, hc⟩ := h.form
  have A := Lib.hid h
  clear h
  cases a with
  | none =>
    have h0 : xs = [] := by
      rcases A.out with ⟨h, _⟩ | ⟨b, off, cap, e, _⟩
      · exact h
      · cases e
    subst h0
    go_enter Try.func55, Try.ntmps55
    go_wp2
    go_ret
    exact ⟨_, rfl, .inl ⟨rfl, none, 0, rfl, fun _ => rfl⟩, Below.refl _ _⟩
  | some ad =>
    have hcell : ∀ j u, (flat2 xs)[j]? = some u → w.cell? (ad.add j) = some u := fun j u hj => by
      obtain ⟨i, x, h1, h2⟩ := flat2_at xs j u hj
      rcases A.out with ⟨h, _⟩ | ⟨b, off, cap, e, _, _, _, hcs⟩
      · subst h; simp at h1
      · cases e
        obtain ⟨c1, c2⟩ := hcs i x h1
        rcases h2 with ⟨rfl, rfl⟩ | ⟨rfl, rfl⟩
        · rw [add_pl]; exact c1
        · rw [add_pl, ← Nat.add_assoc]; exact c2
    have HCL := Lib.hid hcell
    obtain ⟨n, hn⟩ : ∃ n, xs.length = n := ⟨_, rfl⟩
    have HN := Lib.hid hn
    rw [hn] at hx hc ⊢
    clear hcell hn
    go_enter Try.func55, Try.ntmps55
    go_wp2_with (at_builtin; refine wpList_append_own _ rfl _ _ 29 rfl w.heap.size 27 i0 (.agg #[.int .i64 0, .int .i64 0]) 2 16 Try.underlying29 hi0 hz0 hz1 hz2 rfl (by decide) _ _ _ rfl (World.ownsRow_made w #[] 0 (Nat.le_refl _) (Nat.zero_le _) rfl) ad n c (flat2 xs) rfl ?qc1 ?qc2 ?qc3 ?qc4 ?qc5 ?qc6 ?_)
    case qc1 => rw [flat2_len, HN.out]
    case qc2 =>
      intro j u hj
      exact Lib.cell?_alloc_some _ (HCL.out j u hj)
    case qc3 => exact flat2_one xs
    case qc4 => unfold maxLen; omega
    case qc5 => omega
    case qc6 => simp
    intro v' w1 hown hgrow hnil
    go_wp2
    go_ret
    refine ⟨v', rfl, ?_, ?_⟩
    · exact PrL.of_owns (by rw [HN.out]; simpa using hown)
    · exact ((Below.refl _ w).alloc (Nat.le_refl _) _).grown hgrow (by simp) (by intro k hk; simp [Value.ownBlock] at hk; omega)

set_option maxHeartbeats 4000000 in
set_option maxRecDepth 100000 in
theorem cloneRows (a : Option Addr) (n c : Nat) (vs : List Value) (w : World) (hn : vs.length = n) (hx : n ≤ 1048576) (h : Sl (fun v : Value => v) w.heap.size w (.slice a n c) vs) (hf : ∀ v ∈ vs, ∃ a n c, v = .slice a n c) :
    Calls Try.prog 54 #[.slice a n c] w fun e w' => ∃ v', e = .returned v' ∧ w'.ownsRow w.heap.size 29 1 v' n vs ∧ Below w.heap.size w w' := by
  obtain ⟨i0, hi0, hz0, hz1, hz2⟩ := info_parts infoPs
  have q22 : ∀ (w : World) (a : Option Addr) (n c n' c' : Nat), (binOp .eql 57 (.slice a n c) (.slice none n' c')).run Try.prog w = .ok (.bool a.isNone) w := fun w a n c n' c' => Lib.run_eql_slice_nil w _ _ a n c n' c' Try.underlying57
  have A := Lib.hid h
  clear h
  cases a with
  | none =>
    have h0 : vs = [] := by
      rcases A.out with ⟨h, _⟩ | ⟨b, off, cap, e, _⟩
      · exact h
      · cases e
    subst h0
    subst hn
    go_enter Try.func54, Try.ntmps54
    go_wp2
    go_ret
    exact ⟨_, rfl, World.ownsRow_nil _ _ _ _, Below.refl _ _⟩
  | some ad =>
    have hcell : ∀ j u, vs[j]? = some u → w.cell? (ad.add j) = some u := fun j u hj => by
      rcases A.out with ⟨h, _⟩ | ⟨b, off, cap, e, _, _, hcs⟩
      · subst h; simp at hj
      · cases e
        rw [add_pl]
        exact hcs j u hj
    have HCL := Lib.hid hcell
    have HF := Lib.hid hf
    have HN := Lib.hid hn
    clear hcell hf hn
    go_enter Try.func54, Try.ntmps54
    go_wp2_with (at_builtin; refine wpList_append_own _ rfl _ _ 57 rfl w.heap.size 29 i0 (.slice none 0 0) 1 24 Try.underlying57 hi0 hz0 hz1 hz2 rfl (by decide) _ _ _ rfl (World.ownsRow_made w #[] 0 (Nat.le_refl _) (Nat.zero_le _) rfl) ad n c vs rfl ?qc1 ?qc2 ?qc3 ?qc4 ?qc5 ?qc6 ?_)
    case qc1 => rw [HN.out]; simp
    case qc2 =>
      intro j u hj
      exact Lib.cell?_alloc_some _ (HCL.out j u hj)
    case qc3 =>
      intro u hu
      obtain ⟨_, _, _, rfl⟩ := HF.out u hu
      rfl
    case qc4 => unfold maxLen; omega
    case qc5 => omega
    case qc6 => simp
    intro v' w1 hown hgrow hnil
    go_wp2
    go_ret
    refine ⟨v', rfl, by simpa using hown, ?_⟩
    exact ((Below.refl _ w).alloc (Nat.le_refl _) _).grown hgrow (by simp) (by intro k hk; simp [Value.ownBlock] at hk; omega)
end Go.Proofs.Ytpdncgjepfgnjaa
