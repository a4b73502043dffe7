/- The document's own journal beside a device's regions. -/
import Derived.Test.YtpllbojmonfeiaaRefRh
import Derived.Test.YtpllbojmonfeiaaJrnPw
import Derived.Test.YtpllbojmonfeiaaJrnAp
namespace Go.Proofs.Ytpllbojmonfeiaa
open Go.RowKit SumM
set_option linter.unusedVariables false

/-- The document's journal, beside a device's regions, off some blocks. -/
structure DocJ (X : List Nat) (W : World) (v : Value) (l0 l1 : List Nat) (cap r a f : Nat) : Prop where
  val : ∃ (p0 p1 ps pr : Option Addr) (n0 c0 n1 c1 ns cs nr cr : Nat), v = jdV (.slice p0 n0 c0) (.slice p1 n1 c1) (cap : Nat) (r : Nat) (a : Nat) (.slice ps ns cs) (.slice pr nr cr) (f : Nat) ∧
    Sl encY W.heap.size W (.slice p0 n0 c0) l0 ∧ Sl encY W.heap.size W (.slice p1 n1 c1) l1 ∧ Sl encY W.heap.size W (.slice ps ns cs) (snapL (if r = 0 then l0 else l1)) ∧ RcO X W (.slice pr nr cr) (recsL (if r = 0 then l0 else l1)) ∧
    Off X (.slice p0 n0 c0) ∧ Off X (.slice p1 n1 c1) ∧ Off X (.slice ps ns cs)
theorem DocJ.below {X : List Nat} {W W' : World} {v : Value} {l0 l1 : List Nat} {cap r a f : Nat} (h : DocJ X W v l0 l1 cap r a f) (hb : Below W.heap.size W W') : DocJ X W' v l0 l1 cap r a f := by
  obtain ⟨p0, p1, ps, pr, n0, c0, n1, c1, ns, cs, nr, cr, e, h1, h2, h3, h4, h5, h6, h7⟩ := h.val
  exact ⟨p0, p1, ps, pr, n0, c0, n1, c1, ns, cs, nr, cr, e, (h1.below hb).mono hb.size, (h2.below hb).mono hb.size, (h3.below hb).mono hb.size, h4.below hb, h5, h6, h7⟩
/-- What turns in those blocks alone leaves it. -/
theorem DocJ.dev {X : List Nat} {W W' : World} {v : Value} {l0 l1 : List Nat} {cap r a f : Nat} (h : DocJ X W v l0 l1 cap r a f) (hb : But X W W') : DocJ X W' v l0 l1 cap r a f := by
  obtain ⟨p0, p1, ps, pr, n0, c0, n1, c1, ns, cs, nr, cr, e, h1, h2, h3, h4, h5, h6, h7⟩ := h.val
  exact ⟨p0, p1, ps, pr, n0, c0, n1, c1, ns, cs, nr, cr, e, h1.but hb h5, h2.but hb h6, h3.but hb h7, h4.dev hb, h5, h6, h7⟩
theorem off_nil (X : List Nat) : Off X (.slice none 0 0) := fun ad m c e => by cases e
theorem off_more {X X' : List Nat} {W : World} {v : Value} {l : List Nat} (h : Sl encY W.heap.size W v l) (ho : Off X v) (hX : ∀ k ∈ X', k ∈ X ∨ W.heap.size ≤ k) : Off X' v := off_own ho h hX
/-- Off more blocks, that are new. -/
theorem DocJ.more {X X' : List Nat} {W : World} {v : Value} {l0 l1 : List Nat} {cap r a f : Nat} (h : DocJ X W v l0 l1 cap r a f) (hX : ∀ k ∈ X', k ∈ X ∨ W.heap.size ≤ k) : DocJ X' W v l0 l1 cap r a f := by
  obtain ⟨p0, p1, ps, pr, n0, c0, n1, c1, ns, cs, nr, cr, e, h1, h2, h3, ⟨g0, base, ys, g1, g2, g3⟩, h5, h6, h7⟩ := h.val
  refine ⟨p0, p1, ps, pr, n0, c0, n1, c1, ns, cs, nr, cr, e, h1, h2, h3, ⟨fun g hg hm => ?_, base, ys, g1, g2, fun y hy => ⟨(g3 y hy).1, off_more (g3 y hy).1 (g3 y hy).2 hX⟩⟩, off_more h1 h5 hX, off_more h2 h6 hX, off_more h3 h7 hX⟩
  rcases hX g hm with h | h
  · exact g0 g hg h
  · obtain ⟨_, cur, hc⟩ := own_at g2 hg
    have := (Array.getElem?_eq_some_iff.1 hc).1
    omega

theorem fresh_snap : snapL freshL = [] ∧ recsL freshL = [] := by
  have hok := begin_ok 1 (by decide) [] (fun x hx => by cases hx) (by simp)
  have h := (scan_join0 (beginFs 1 []) [] (.inl rfl) hok).1
  rw [List.append_nil] at h
  have h0 := reg_bods 1 [] []
  have e0 : regL 1 [] [] = beginFs 1 [] := by unfold regL; simp
  rw [e0] at h0
  have hp := (take_rises (beginFs 1 []) o0 sane0 (begin_take (by decide) (by decide) (by simp)).1).1
  unfold snapL recsL freshL
  rw [h, bodF_pos 2 _ _ hp, bodF_pos 4 _ _ hp, h0.1, h0.2.1]
  exact ⟨rfl, rfl⟩
end Go.Proofs.Ytpllbojmonfeiaa
