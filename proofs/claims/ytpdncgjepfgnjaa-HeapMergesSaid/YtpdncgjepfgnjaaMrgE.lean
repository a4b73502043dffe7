/- A law's own copies of lists: rows of pairs in new memory, and a row of them that grows. -/
import Derived.Test.YtpdncgjepfgnjaaMrgD
import Derived.Test.YtpdncgjepfgnjaaHpP
import Derived.Laws.AppendOwnNone
import Derived.Maps.AppendAt
import Derived.Deep.Upon
import Derived.ArgAppend
namespace Go.Proofs.Ytpdncgjepfgnjaa
open Go.RowKit
set_option linter.unusedVariables false

/-- An append of whatever pairs to a new slice that has no room: all that it makes is new. -/
theorem wpList_append_fresh (w : World) {ops : Array Oper} {rest : List Oper} {o : Oper} {a : Act} {Q : Exit → Act → World → Prop} (hgd : o.guard = none) (s x : Operand)
    (ho : o.op = .call { callee := .builtin .append, args := #[s, x], argTypes := #[29, 29] })
    (ad0 : Addr) (hs : a.eval s = .slice (some ad0) 0 0) (lo hi : Nat) (sv : Value) (l : List (Int × Int)) (hx : a.eval x = sv) (hS : PrL lo hi w sv l) (hm : l.length ≤ 1073741824)
    (h : ∀ v' w', PrL w.heap.size w'.heap.size w' v' l → Below w.heap.size w w' → wpList Try.prog ops Q rest (a.put o.dst v') w') : wpList Try.prog ops Q (o :: rest) a w := by
  obtain ⟨i0, hi0, hz0, hz1, hz2⟩ := info_parts infoPr
  cases l with
  | nil =>
    obtain ⟨ao, c0, rfl, hc0⟩ := hS.form
    refine wpList_plain hgd fun K hK => ?_
    have hsrc : Src Try.prog i0.size 29 (.slice ao 0 c0) 0 [] w := by
      cases ao with
      | none => exact Src.ofNil w Try.underlying29 c0
      | some ad => exact Src.ofSlice w Try.underlying29 ad 0 c0 [] (by simp) (fun j u hj => by simp at hj) (fun u hu => by cases hu)
    have hrun := run_append_nothing w 29 29 o.type 27 i0 Try.underlying29 hi0 (some ad0) 0 0 (Nat.le_refl _) _ hsrc
    have hx : a.eval x = .slice ao 0 c0 := hx
    unfold Oper.wp
    simp [execOp, ho, resolve, invoke, builtin, hs, hx, hrun, Result.andThen]
    exact hK _ _ (h _ _ (.inl ⟨rfl, _, _, rfl, fun e => by cases e⟩) (Below.refl _ _))
  | cons y r =>
    rcases hS with ⟨e, _⟩ | ⟨b, off, cap, rfl, hlo, hhi, hcap, hcs⟩
    · cases e
    · refine wpList_append_grows w hgd s x 29 ho 27 i0 (.agg #[.int .i64 0, .int .i64 0]) 2 16 Try.underlying29 hi0 hz0 hz1 hz2 rfl (by decide) (some ad0) 0 0 [] hs (fun e => by cases e) rfl (fun b _ j u hj => by simp at hj)
        ⟨b, off, none⟩ (r.length + 1) cap (flat2 (y :: r)) hx (by rw [flat2_len]; rfl) (fun j u hu => ?_) (flat2_one _) (by omega) (by simp only [List.length_cons] at hm; unfold maxLen; omega) (by simp only [List.length_cons] at hm; omega) (fun v' w' h1 h2 => h v' w' (PrL.of_owns (by simpa using h1)) ((Below.refl _ _).grown h2 (Nat.le_refl _) (fun k hk => by cases hk)))
      obtain ⟨i, z, h1, h2⟩ := flat2_at _ j u hu
      obtain ⟨c1, c2⟩ := hcs i z h1
      rcases h2 with ⟨rfl, rfl⟩ | ⟨rfl, rfl⟩
      · rw [add_pl]; exact c1
      · rw [add_pl, ← Nat.add_assoc]; exact c2

/-- The rows that a row's values hold do not lie in the row itself. -/
def OffR (sv : Value) (vs : List Value) : Prop := ∀ v ∈ vs, OffP sv.ownBlock.toList v
/-- A law's own copies: a row (from lo on) of rows (from le on), all in blocks below hi. -/
structure CpM (lo le hi : Nat) (sv : Value) (ls : List (List (Int × Int))) (W : World) : Prop where
  row : ∃ vs, W.ownsRow lo 29 1 sv ls.length vs ∧ LL le hi W vs ls ∧ OffR sv vs
  lt : ∀ g, sv.ownBlock = some g → g < hi
  hiW : hi ≤ W.heap.size
section
variable {lo le hi : Nat} {sv : Value} {ls : List (List (Int × Int))} {W W' : World}
theorem CpM.but {own2 : List Nat} (h : CpM lo le hi sv ls W) (hb : But own2 W W') (hn : ∀ k ∈ own2, (k < le ∨ hi ≤ k) ∧ sv.ownBlock ≠ some k) : CpM lo le hi sv ls W' := by
  obtain ⟨vs, hR, hL, hO⟩ := h.row
  exact ⟨⟨vs, row_but hR hb (fun g hg hk => (hn g hk).2 hg), hL.but hb (fun k hk => (hn k hk).1) h.hiW, hO⟩, h.lt, Nat.le_trans h.hiW hb.size⟩
theorem CpM.below (h : CpM lo le hi sv ls W) (hb : Below W.heap.size W W') : CpM lo le hi sv ls W' := h.but (own2 := []) (But.of_below hb) (fun k hk => by cases hk)
theorem CpM.mono {hi' : Nat} (h : CpM lo le hi sv ls W) (h1 : hi ≤ hi') (h2 : hi' ≤ W.heap.size) : CpM lo le hi' sv ls W := by
  obtain ⟨vs, hR, hL, hO⟩ := h.row
  exact ⟨⟨vs, hR, hL.mono (Nat.le_refl _) h1, hO⟩, fun g hg => Nat.lt_of_lt_of_le (h.lt g hg) h1, h2⟩
end
theorem prL_block {lo hi : Nat} {W : World} {v : Value} {xs : List (Int × Int)} (h : PrL lo hi W v xs) : ∀ ad n c, v = .slice (some ad) n c → 0 < n → lo ≤ ad.block ∧ ad.block < hi := fun ad n c e hn => by
  rcases h with ⟨rfl, a, c', e', _⟩ | ⟨b, off, cap, e', h1, h2, _⟩
  · rw [e] at e'; cases e'; omega
  · rw [e] at e'; cases e'; exact ⟨h1, h2⟩
/-- Another list is put behind them. -/
theorem CpM.snoc {lo le N : Nat} {sv sv' v : Value} {ls : List (List (Int × Int))} {xs : List (Int × Int)} {vs : List Value} {W0 W W' : World} (hR : W0.ownsRow lo 29 1 sv ls.length vs) (hL : LL le N W0 vs ls) (hO : OffR sv vs) (hN : W0.heap.size = N) (hlo : le ≤ N)
    (hb : Below N W0 W) (hv : PrL N W.heap.size W v xs) (hr' : W'.ownsRow lo 29 1 sv' (ls.length + 1) (vs ++ [v])) (hg : W.grownBy W' sv.ownBlock) (hat : sv'.ownBlock = sv.ownBlock ∨ sv'.ownBlock = some W.heap.size) : CpM lo le W'.heap.size sv' (ls ++ [xs]) W' := by
  have hbut : But sv.ownBlock.toList W W' := (But.refl _ W).grown hg (fun k hk => .inl (by rw [hk]; simp))
  have hlt : ∀ k ∈ sv.ownBlock.toList, k < N := fun k hk => by
    have hk : sv.ownBlock = some k := by simpa [Option.mem_toList] using hk
    have := (hR.lt k hk).2
    omega
  have hz := hg.size
  have hzb := hb.size
  refine ⟨⟨vs ++ [v], by rw [List.length_append]; exact hr', (⟨hL.len, fun i u ys h1 h2 => ?_⟩ : LL le W'.heap.size W' vs ls).snoc v xs ?_, fun u hu => ?_⟩, fun g hg' => (hr'.lt g hg').2, Nat.le_refl _⟩
  · have h3 := hL.each i u ys h1 h2
    exact (((h3.below hb (Nat.le_refl _)).but' hbut (hO u (List.mem_of_getElem? h1)) (by omega)).mono (Nat.le_refl _) (by omega))
  · have h3 : PrL N W.heap.size W' v xs := hv.but hbut (fun k hk => .inl (hlt k hk)) (Nat.le_refl _)
    exact h3.mono hlo hz
  · rcases List.mem_append.1 hu with hu | hu
    · intro ad n c e hn hk
      rcases hat with h | h
      · rw [h] at hk; exact hO u hu ad n c e hn hk
      · rw [h] at hk
        simp at hk
        obtain ⟨i, hi⟩ := List.getElem?_of_mem hu
        have hil : i < ls.length := by rw [← hL.len]; exact (List.getElem?_eq_some_iff.1 hi).1
        have := prL_block (hL.each i u _ hi (List.getElem?_eq_getElem hil)) ad n c e hn
        omega
    · simp at hu
      subst hu
      intro ad n c e hn hk
      have := prL_block hv ad n c e hn
      rcases hat with h | h
      · rw [h] at hk; have := hlt _ hk; omega
      · rw [h] at hk; simp at hk; omega
/-- One list loses what stands first. -/
theorem CpM.cut {lo le hi g n cap : Nat} {ls : List (List (Int × Int))} {W : World} (h : CpM lo le hi (.slice (some ⟨g, 0, none⟩) n cap) ls W) (i : Nat) (nv : Value) (r : List (Int × Int)) (hv : PrL le hi W nv r) (ho : OffP [g] nv) : CpM lo le hi (.slice (some ⟨g, 0, none⟩) n cap) (ls.set i r) (W.setCell ⟨g, i, none⟩ nv) := by
  obtain ⟨vs, hR, hL, hO⟩ := h.row
  have hb : But [g] W (W.setCell ⟨g, i, none⟩ nv) := (But.refl _ W).set (.inl (by simp)) _
  have hn : n = ls.length := by
    rcases hR.2 with ⟨e, _⟩ | ⟨_, _, _, e, _⟩
    · cases e
    · cases e; rfl
  subst hn
  refine ⟨⟨vs.set i nv, ?_, (⟨hL.len, fun j u ys h1 h2 => (hL.each j u ys h1 h2).but' hb (by have := hO u (List.mem_of_getElem? h1); exact this) h.hiW⟩ : LL le hi (W.setCell ⟨g, i, none⟩ nv) vs ls).set i nv r (hv.but' hb ho h.hiW), fun u hu => ?_⟩, h.lt, Nat.le_trans h.hiW hb.size⟩
  · rw [List.length_set]
    exact (hR.stored i nv).1
  · rcases List.mem_or_eq_of_mem_set hu with hu | rfl
    · exact hO u hu
    · exact ho
theorem results_one {fn : Func} {p : Tmp} {ty : TypeId} (h : fn.results = #[.cell p ty]) (tmps : Array Value) (P : Program) (w : World) :
    (results fn tmps).run P w = ((asAddr (tmps.getD p undef)).run P w).andThen fun a w₁ => ((loadVar ty a).run P w₁).andThen fun v w₂ => .ok v w₂ := by
  simp only [results, h]
  simp [Sem.run_bind, Result.andThen]
  cases Sem.run P (asAddr (tmps[p]?.getD undef)) w with
  | ok a w1 => simp only; cases Sem.run P (loadVar ty a) w1 <;> rfl
  | halt h1 w1 => rfl
theorem start_pair {w w1 : World} {a c : Array Value} {t u : TypeId} (hb : Below ((w.alloc (.cells a t)).alloc (.cells c u)).heap.size ((w.alloc (.cells a t)).alloc (.cells c u)) w1) :
    w.heap.size + 2 ≤ w1.heap.size ∧ w1.heap[w.heap.size]? = some (.cells a t (0, 0)) ∧ w1.heap[w.heap.size + 1]? = some (.cells c u (0, 0)) ∧ Below w.heap.size w w1 := by
  have h1 := hb.size
  simp only [World.size_alloc] at h1
  refine ⟨h1, (hb.block _ (by simp; omega)).trans ((heap_alloc_old' _ _ _ (by simp)).trans (World.alloc_heap_new w _)), (hb.block _ (by simp)).trans ?_, (((Below.refl w.heap.size w).alloc (Nat.le_refl _) _).alloc (by simp) _).trans (hb.mono (by simp; omega))⟩
  have := World.alloc_heap_new (w.alloc (.cells a t)) (.cells c u)
  rw [World.size_alloc] at this
  exact this
end Go.Proofs.Ytpdncgjepfgnjaa
