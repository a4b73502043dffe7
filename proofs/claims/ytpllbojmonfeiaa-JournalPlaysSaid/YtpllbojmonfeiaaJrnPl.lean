/- What stays in law JournalPlays. -/
import Derived.Test.YtpllbojmonfeiaaRefDj
import Derived.Test.YtpllbojmonfeiaaJrnIn
namespace Go.Proofs.Ytpllbojmonfeiaa
open Go.RowKit SumM
set_option linter.unusedVariables false

/-- Compact in all its cases. -/
def CompAll (w W : World) (own : List Nat) (jb b : Nat) (D : DevS) (r a c f : Nat) (snap : List Nat) (e : Ending) (W' : World) : Prop :=
  ∃ er own' D' r' a' c' f', e = .returned (.int .i64 er) ∧ St w W' own' jb b D' r' a' c' f' ∧ But (jb :: own) W W' ∧ (∀ k ∈ own', k ∈ own ∨ W.heap.size ≤ k) ∧
    (if a = 18446744073709551615 then er = 3 ∧ D' = D ∧ r' = r ∧ a' = a ∧ c' = c ∧ f' = f else if D.cap < heavyN (a + 1) snap.length then er = 6 ∧ D' = D ∧ r' = r ∧ a' = a ∧ c' = c ∧ f' = f else er = 0 ∧ r' = 1 - r ∧ a' = a + 1 ∧ c' = 0 ∧ f' = heavyN (a + 1) snap.length ∧ CompOk D D' r a snap)
theorem compact_same {w W W' : World} {own : List Nat} {jb b : Nat} {D : DevS} {r a c f : Nat} (h : St w W own jb b D r a c f) {snap : List Nat} {er : Int} (he : er ≠ 0) (hc : compS D (r : Nat) a snap = (D, er)) {e : Ending} (hx : CompTo own W jb b D (r : Nat) a c f snap e W') :
    ∃ own', e = .returned (.int .i64 er) ∧ St w W' own' jb b D r a c f ∧ But (jb :: own) W W' ∧ ∀ k ∈ own', k ∈ own ∨ W.heap.size ≤ k := by
  obtain ⟨h1, own', x', y', d', hb, hs, _, hj⟩ := hx
  rw [hc] at h1 d' hj
  refine ⟨own', h1, ⟨⟨x', y', d'⟩, hj he, fun hm => ?_, h.ok, lo_more h.bel h.lo hs, h.jl, h.bel.trans (hb.below (fun k hk => ?_) h.bel.size)⟩, hb, hs⟩
  · rcases hs jb hm with h2 | h2
    · exact h.jo h2
    · have := h.jrn.lt; omega
  · rcases List.mem_cons.1 hk with rfl | hk
    · exact h.jl
    · exact h.lo k hk
theorem compact_all {w W : World} {own : List Nat} {jb b : Nat} {D : DevS} {r a c f : Nat} (h : St w W own jb b D r a c f) (ha : a ≤ 18446744073709551615) (pa : Option Addr) (pc : Nat) (snap : List Nat) (hl : Bytes snap) (hS : Sl encY W.heap.size W (.slice pa snap.length pc) snap) (ho : Off own (.slice pa snap.length pc)) (hp : D.cap + (D.row (1 - (r : Nat) : Int)).length ≤ D.left) :
    Calls Try.prog 24 #[.pointer (some ⟨jb, 0, none⟩), .slice pa snap.length pc] W (CompAll w W own jb b D r a c f snap) := by
  obtain ⟨x, y, d⟩ := h.dev
  by_cases hm : a = 18446744073709551615
  · have hc : compS D (r : Nat) a snap = (D, 3) := if_pos hm
    refine (compact_many pa pc snap W d h.jrn hm).mono ?_
    rintro e W' hx
    obtain ⟨own', h1, h2, h3, h4⟩ := compact_same h (by decide) hc hx
    exact ⟨3, own', D, r, a, c, f, h1, h2, h3, h4, by rw [if_pos hm]; exact ⟨rfl, rfl, rfl, rfl, rfl, rfl⟩⟩
  · by_cases hf : D.cap < heavyN (a + 1) snap.length
    · have hc : compS D (r : Nat) a snap = (D, 6) := by unfold compS; rw [if_neg hm, if_pos hf]
      refine (compact_go pa pc snap hl W d h.jrn h.jo (by rcases h.ok.reg with rfl | rfl <;> decide) hS ho (by omega)).mono ?_
      rintro e W' hx
      obtain ⟨own', h1, h2, h3, h4⟩ := compact_same h (by decide) hc hx
      exact ⟨6, own', D, r, a, c, f, h1, h2, h3, h4, by rw [if_neg hm, if_pos hf]; exact ⟨rfl, rfl, rfl, rfl, rfl, rfl⟩⟩
    · refine (compact_st h pa pc snap hl hS ho (by omega) (by omega) (by omega)).mono ?_
      rintro e W' ⟨h1, own', D2, h2, h3, h4, h5⟩
      exact ⟨0, own', D2, 1 - r, a + 1, 0, heavyN (a + 1) snap.length, h1, h2, h4, h5, by rw [if_neg hm, if_neg hf]; exact ⟨rfl, rfl, rfl, rfl, rfl, h3⟩⟩

theorem DocJ.less {X X' : List Nat} {W : World} {v : Value} {l0 l1 : List Nat} {cap r a f : Nat} (h : DocJ X W v l0 l1 cap r a f) (hX : ∀ k ∈ X', k ∈ X) : DocJ X' W v l0 l1 cap r a f := h.more (fun k hk => .inl (hX k hk))
/-- The device's blocks turn, and become more. -/
theorem DocJ.step {X X' : List Nat} {W W' : World} {v : Value} {l0 l1 : List Nat} {cap r a f : Nat} (h : DocJ X W v l0 l1 cap r a f) (hb : But X W W') (hX : ∀ k ∈ X', k ∈ X ∨ W.heap.size ≤ k) : DocJ X' W' v l0 l1 cap r a f := by
  have h1 : DocJ (X ++ X') W v l0 l1 cap r a f := h.more (fun k hk => by
    rcases List.mem_append.1 hk with hk | hk
    · exact .inl hk
    · exact hX k hk)
  exact (h1.dev (hb.more (fun k hk => .inl (List.mem_append.2 (.inl hk))))).less (fun k hk => List.mem_append.2 (.inr hk))
/-- A block of the document's type is written. -/
theorem DocJ.box {X : List Nat} {b : Nat} {W W' : World} {v : Value} {l0 l1 : List Nat} {cap r a f : Nat} {cs : Array Value} (h : DocJ X W v l0 l1 cap r a f) (hb : But [b] W W') (hW : W.heap[b]? = some (.cells cs rjT (0, 0))) (hv : ∀ (i x : Nat), cs[i]? ≠ some (encY x)) : DocJ X W' v l0 l1 cap r a f := by
  obtain ⟨p0, p1, ps, pr, n0, c0, n1, c1, ns, cs', nr, cr, e, h1, h2, h3, h4, h5, h6, h7⟩ := h.val
  exact ⟨p0, p1, ps, pr, n0, c0, n1, c1, ns, cs', nr, cr, e, h1.but hb (off_cells h1 hW hv), h2.but hb (off_cells h2 hW hv), h3.but hb (off_cells h3 hW hv), h4.but hb hW hv, h5, h6, h7⟩
/-- The document's journal lies in the block xb. -/
def BoxJ (X : List Nat) (W : World) (xb : Nat) (l0 l1 : List Nat) (cap r a f : Nat) : Prop := ∃ cs : Array Value, W.heap[xb]? = some (.cells cs rjT (0, 0)) ∧ DocJ X W (.agg cs) l0 l1 cap r a f
/-- Between two steps. -/
def PlI (w : World) (b xb jb C K : Nat) (wr : World) : Prop := ∃ own D r a c f, St w wr own jb b D r a c f ∧ D.cap = C ∧ K ≤ D.left ∧ a ≤ 18446744073709551615 ∧ BoxJ (jb :: own) wr xb D.r0 D.r1 C r a f ∧ xb ∉ jb :: own ∧ w.heap.size ≤ xb
end Go.Proofs.Ytpllbojmonfeiaa
