/- A journal on its device, whatever power there is, as the laws call it. -/
import Derived.Test.YtpllbojmonfeiaaJrnLv
import Derived.Deep.CutBlock
import Derived.Test.YtpllbojmonfeiaaJrnIn
namespace Go.Proofs.Ytpllbojmonfeiaa
open Go.RowKit SumM
set_option linter.unusedVariables false

/-- A device on which a journal would be opened, made since w. -/
structure LivAt (w W : World) (own : List Nat) (b : Nat) (D : DevS) (r a c f : Nat) (S : List Nat) (R : List (List Nat)) : Prop where
  dev : ∃ x y, Dev own W b D x y
  liv : Liv D r a c f S R
  lo : ∀ k ∈ own, w.heap.size ≤ k
  bel : Below w.heap.size w W
theorem St.livAt {w W : World} {own : List Nat} {jb b : Nat} {D : DevS} {r a c f : Nat} {S : List Nat} {R : List (List Nat)} (h : St w W own jb b D r a c f) (hs : snapL (D.row (r : Nat)) = S) (hr : recsL (D.row (r : Nat)) = R) : LivAt w W own b D r a c f S R := ⟨h.dev, h.ok.liv hs hr, h.lo, h.bel⟩
theorem LivAt.dok {w W : World} {own : List Nat} {b : Nat} {D : DevS} {r a c f : Nat} {S : List Nat} {R : List (List Nat)} (h : LivAt w W own b D r a c f S R) : D.Ok := by obtain ⟨x, y, d⟩ := h.dev; exact d.ok
theorem LivAt.but {w W W' : World} {own own2 : List Nat} {b : Nat} {D : DevS} {r a c f : Nat} {S : List Nat} {R : List (List Nat)} (h : LivAt w W own b D r a c f S R) (hb : But own2 W W') (h1 : ∀ k ∈ own, k ∉ own2) (h3 : ∀ k ∈ own2, w.heap.size ≤ k) : LivAt w W' own b D r a c f S R := by
  obtain ⟨x, y, d⟩ := h.dev
  exact ⟨⟨x, y, d.but hb h1⟩, h.liv, h.lo, h.bel.trans (hb.below h3 h.bel.size)⟩
theorem LivAt.below {w W W' : World} {own : List Nat} {b : Nat} {D : DevS} {r a c f : Nat} {S : List Nat} {R : List (List Nat)} (h : LivAt w W own b D r a c f S R) (hb : Below W.heap.size W W') : LivAt w W' own b D r a c f S R := by
  obtain ⟨x, y, d⟩ := h.dev
  exact ⟨⟨x, y, d.below hb⟩, h.liv, h.lo, h.bel.trans (hb.mono h.bel.size)⟩

/-- What an append comes to, whatever power there is. -/
def AppKeep (w W : World) (own : List Nat) (jb b : Nat) (D : DevS) (r a c f : Nat) (S : List Nat) (R : List (List Nat)) (rec : List Nat) (e : Ending) (W' : World) : Prop :=
  ∃ (er : Int) (own' : List Nat), e = .returned (.int .i64 er) ∧ But (jb :: own) W W' ∧ (∀ k ∈ own', k ∈ own ∨ W.heap.size ≤ k) ∧
    ((er = 2 ∧ 4096 < rec.length ∧ St w W' own' jb b D r a c f) ∨
     (er = 0 ∧ rec.length ≤ 4096 ∧ ∃ D2, St w W' own' jb b D2 r a (c + 1) (f + (rec.length + 7)) ∧ D2.cap = D.cap ∧ snapL (D2.row (r : Nat)) = S ∧ recsL (D2.row (r : Nat)) = R ++ [rec]) ∨
     (er = 30 ∧ rec.length ≤ 4096 ∧ ∃ D2, LivAt w W' own' b D2 r a c f S R ∧ D2.cap = D.cap))
theorem append_keep {w W : World} {own : List Nat} {jb b : Nat} {D : DevS} {r a c f : Nat} {S : List Nat} {R : List (List Nat)} (h : St w W own jb b D r a c f) (hs : snapL (D.row (r : Nat)) = S) (hr : recsL (D.row (r : Nat)) = R) (pa : Option Addr) (pc : Nat) (rec : List Nat) (hl : Bytes rec) (hS : Sl encY W.heap.size W (.slice pa rec.length pc) rec) (hfit : rec.length ≤ 4096 → f + (rec.length + 7) ≤ D.cap) :
    Calls Try.prog 20 #[.pointer (some ⟨jb, 0, none⟩), .slice pa rec.length pc] W (AppKeep w W own jb b D r a c f S R rec) := by
  by_cases h4 : 4096 < rec.length
  · refine (append_long pa pc rec hl h4 W hS).mono ?_
    rintro e W' ⟨rfl, hb⟩
    exact ⟨2, own, rfl, But.of_below hb, fun k hk => .inl hk, .inl ⟨rfl, h4, h.below hb⟩⟩
  · by_cases hp : rec.length + 7 ≤ D.left
    · refine (append_st h pa pc rec hl (by omega) hS (hfit (by omega)) hp).mono ?_
      rintro e W' ⟨rfl, own', D2, h1, h2, h3, h4'⟩
      exact ⟨0, own', rfl, h3, h4', .inr (.inl ⟨rfl, by omega, D2, h1, h2.cap, by rw [h2.snap]; exact hs, by rw [h2.recs, hr]⟩)⟩
    · obtain ⟨x, y, d⟩ := h.dev
      obtain ⟨e1, e2, e3⟩ := app_cut d.ok h.ok hs hr rec (by omega) (hfit (by omega)) (by omega)
      refine (append_go pa pc rec hl (by omega) W d h.jrn h.jo hS h.ok.fin (cnt_le d.ok h.ok).1).mono ?_
      rintro e W' ⟨he, own', x', y', d', hb, hs', _, _⟩
      rw [e1] at he
      refine ⟨30, own', he, hb, hs', .inr (.inr ⟨rfl, by omega, _, ⟨⟨x', y', d'⟩, e2, lo_more h.bel h.lo hs', h.bel.trans (hb.below (fun k hk => ?_) h.bel.size)⟩, e3⟩)⟩
      rcases List.mem_cons.1 hk with rfl | hk
      · exact h.jl
      · exact h.lo k hk
/-- What a compaction comes to, whatever power there is. -/
def CompKeep (w W : World) (own : List Nat) (jb b : Nat) (D : DevS) (r a c f : Nat) (S : List Nat) (R : List (List Nat)) (snap : List Nat) (e : Ending) (W' : World) : Prop :=
  ∃ (er : Int) (own' : List Nat), e = .returned (.int .i64 er) ∧ But (jb :: own) W W' ∧ (∀ k ∈ own', k ∈ own ∨ W.heap.size ≤ k) ∧
    ((er = 0 ∧ ∃ D2, St w W' own' jb b D2 (1 - r) (a + 1) 0 (heavyN (a + 1) snap.length) ∧ D2.cap = D.cap ∧ snapL (D2.row ((1 - r : Nat) : Int)) = snap ∧ recsL (D2.row ((1 - r : Nat) : Int)) = []) ∨
     (er = 30 ∧ ∃ D2, LivAt w W' own' b D2 r a c f S R ∧ D2.cap = D.cap))
theorem compact_keep {w W : World} {own : List Nat} {jb b : Nat} {D : DevS} {r a c f : Nat} {S : List Nat} {R : List (List Nat)} (h : St w W own jb b D r a c f) (hs : snapL (D.row (r : Nat)) = S) (hr : recsL (D.row (r : Nat)) = R) (pa : Option Addr) (pc : Nat) (snap : List Nat) (hl : Bytes snap) (hS : Sl encY W.heap.size W (.slice pa snap.length pc) snap) (ho : Off own (.slice pa snap.length pc)) (ha : a < 18446744073709551615) (hfit : heavyN (a + 1) snap.length ≤ D.cap) :
    Calls Try.prog 24 #[.pointer (some ⟨jb, 0, none⟩), .slice pa snap.length pc] W (CompKeep w W own jb b D r a c f S R snap) := by
  have hri : ((1 : Int) - (r : Nat)) = ((1 - r : Nat) : Int) := by rcases h.ok.reg with rfl | rfl <;> rfl
  by_cases hp : heavyN (a + 1) snap.length + (D.row (1 - (r : Nat) : Int)).length ≤ D.left
  · refine (compact_st h pa pc snap hl hS ho ha hfit hp).mono ?_
    rintro e W' ⟨rfl, own', D2, h1, h2, h3, h4'⟩
    exact ⟨0, own', rfl, h3, h4', .inl ⟨rfl, D2, h1, h2.cap, by rw [← hri]; exact h2.snap, by rw [← hri]; exact h2.recs⟩⟩
  · obtain ⟨x, y, d⟩ := h.dev
    obtain ⟨e1, e2, e3⟩ := comp_cut d.ok h.ok hs hr snap hl ha hfit (by omega)
    refine (compact_go pa pc snap hl W d h.jrn h.jo (by rcases h.ok.reg with rfl | rfl <;> decide) hS ho ha).mono ?_
    rintro e W' ⟨he, own', x', y', d', hb, hs', _, _⟩
    rw [e1] at he
    refine ⟨30, own', he, hb, hs', .inr ⟨rfl, _, ⟨⟨x', y', d'⟩, e2, lo_more h.bel h.lo hs', h.bel.trans (hb.below (fun k hk => ?_) h.bel.size)⟩, e3⟩⟩
    rcases List.mem_cons.1 hk with rfl | hk
    · exact h.jl
    · exact h.lo k hk
/-- Opened, whatever power there is. -/
def OpenKeep (w W : World) (own : List Nat) (b : Nat) (D : DevS) (r a c f : Nat) (S : List Nat) (R : List (List Nat)) (e : Ending) (W' : World) : Prop :=
  ∃ own' D2, But own W W' ∧ (∀ k ∈ own', k ∈ own ∨ W.heap.size ≤ k) ∧ D2.cap = D.cap ∧
    ((e = .returned (.tuple #[.pointer (some ⟨W.heap.size, 0, none⟩), .int .i64 0]) ∧ St w W' own' W.heap.size b D2 r a c f ∧ snapL (D2.row (r : Nat)) = S ∧ recsL (D2.row (r : Nat)) = R) ∨
     (D.left < D.cap ∧ e = .returned (.tuple #[.pointer none, .int .i64 30]) ∧ LivAt w W' own' b D2 r a c f S R))
theorem open_keep {w W : World} {own : List Nat} {b : Nat} {D : DevS} {r a c f : Nat} {S : List Nat} {R : List (List Nat)} (h : LivAt w W own b D r a c f S R) (hd : D.down = false) :
    Calls Try.prog 11 #[.pointer (some ⟨b, 0, none⟩)] W (OpenKeep w W own b D r a c f S R) := by
  obtain ⟨x, y, d⟩ := h.dev
  have hag := open_liv d.ok h.liv hd
  refine (opens_any W d).mono ?_
  rintro e W' ⟨he, e', h1, own', x', y', d', hb, hs, hj⟩
  rw [hd, if_neg (by decide), h.liv.new, if_neg (show ¬ a = 0 from h.liv.age)] at hj
  have hb' : But own W W' := by
    have hbA : But own W (W.alloc (.cells #[.pointer (some ⟨b, 0, none⟩), .int .i64 0, .int .u64 0, .int .i64 0, .int .i64 0] 76)) := But.of_below ((Below.refl _ _).alloc (Nat.le_refl _) _)
    exact hbA.trans hb (fun g hg => by
      rcases List.mem_cons.1 hg with rfl | hg
      · exact .inr (Nat.le_refl _)
      · exact .inl hg)
  have hs' : ∀ k ∈ own', k ∈ own ∨ W.heap.size ≤ k := fun k hk => (hs k hk).imp id (fun h => by simp at h; omega)
  have hbel := h.bel.trans (hb'.below h.lo h.bel.size)
  rcases hag with ⟨q1, q2, q3, q4, q5⟩ | ⟨q0, q1, q2, q3⟩
  · rw [if_pos q1] at he
    refine ⟨own', _, hb', hs', q5, .inl ⟨he, ⟨⟨x', y', d'⟩, hj, fun hm => ?_, q2, lo_more h.bel h.lo hs', h.bel.size, hbel⟩, q3, q4⟩⟩
    rcases hs _ hm with h | h
    · have := d.lt _ h; omega
    · simp at h; omega
  · rw [if_neg (by rw [q1]; decide), q1] at he
    exact ⟨own', _, hb', hs', q3, .inr ⟨q0, he, ⟨x', y', d'⟩, q2, lo_more h.bel h.lo hs', hbel⟩⟩
/-- Power comes back, or is set. -/
theorem restore_keep {w W : World} {own : List Nat} {b : Nat} {D : DevS} {r a c f : Nat} {S : List Nat} {R : List (List Nat)} (h : LivAt w W own b D r a c f S R) :
    Calls Try.prog 25 #[.pointer (some ⟨b, 0, none⟩)] W fun e W' => e = .returned (.tuple #[]) ∧ ∃ own', LivAt w W' own' b (restoreS D) r a c f S R ∧ But own W W' ∧ ∀ k ∈ own', k ∈ own ∨ W.heap.size ≤ k := by
  obtain ⟨x, y, d⟩ := h.dev
  refine (restore_to W d).mono ?_
  rintro e W' ⟨rfl, own', x', y', d', hb, hs⟩
  exact ⟨rfl, own', ⟨⟨x', y', d'⟩, h.liv.restore, lo_more h.bel h.lo hs, h.bel.trans (hb.below h.lo h.bel.size)⟩, hb, hs⟩
theorem cut_keep {w W : World} {own : List Nat} {b : Nat} {D : DevS} {r a c f : Nat} {S : List Nat} {R : List (List Nat)} (h : LivAt w W own b D r a c f S R) (n : Int) (hn : n ≤ 9223372036854775807) :
    Calls Try.prog 23 #[.pointer (some ⟨b, 0, none⟩), .int .i64 n] W fun e W' => e = .returned (.tuple #[]) ∧ ∃ own', LivAt w W' own' b (cutS D n) r a c f S R ∧ But own W W' ∧ ∀ k ∈ own', k ∈ own ∨ W.heap.size ≤ k := by
  obtain ⟨x, y, d⟩ := h.dev
  refine (cut_to n hn W d).mono ?_
  rintro e W' ⟨rfl, own', x', y', d', hb, hs⟩
  exact ⟨rfl, own', ⟨⟨x', y', d'⟩, h.liv.cut n, lo_more h.bel h.lo hs, h.bel.trans (hb.below h.lo h.bel.size)⟩, hb, hs⟩
theorem jo_more {own own' : List Nat} {jb : Nat} {W : World} (h : jb ∉ own) (hlt : jb < W.heap.size) (hs : ∀ k ∈ own', k ∈ own ∨ W.heap.size ≤ k) : jb ∉ own' := fun hm => by
  rcases hs jb hm with h2 | h2
  · exact h h2
  · omega
theorem restore_st {w W : World} {own : List Nat} {jb b : Nat} {D : DevS} {r a c f : Nat} (h : St w W own jb b D r a c f) :
    Calls Try.prog 25 #[.pointer (some ⟨b, 0, none⟩)] W fun e W' => e = .returned (.tuple #[]) ∧ ∃ own', St w W' own' jb b (restoreS D) r a c f ∧ But own W W' ∧ ∀ k ∈ own', k ∈ own ∨ W.heap.size ≤ k := by
  obtain ⟨x, y, d⟩ := h.dev
  refine (restore_to W d).mono ?_
  rintro e W' ⟨rfl, own', x', y', d', hb, hs⟩
  exact ⟨rfl, own', ⟨⟨x', y', d'⟩, h.jrn.but hb h.jo, jo_more h.jo h.jrn.lt hs, h.ok.restore, lo_more h.bel h.lo hs, h.jl, h.bel.trans (hb.below h.lo h.bel.size)⟩, hb, hs⟩
theorem cut_st {w W : World} {own : List Nat} {jb b : Nat} {D : DevS} {r a c f : Nat} (h : St w W own jb b D r a c f) (n : Int) (hn : n ≤ 9223372036854775807) :
    Calls Try.prog 23 #[.pointer (some ⟨b, 0, none⟩), .int .i64 n] W fun e W' => e = .returned (.tuple #[]) ∧ ∃ own', St w W' own' jb b (cutS D n) r a c f ∧ But own W W' ∧ ∀ k ∈ own', k ∈ own ∨ W.heap.size ≤ k := by
  obtain ⟨x, y, d⟩ := h.dev
  refine (cut_to n hn W d).mono ?_
  rintro e W' ⟨rfl, own', x', y', d', hb, hs⟩
  exact ⟨rfl, own', ⟨⟨x', y', d'⟩, h.jrn.but hb h.jo, jo_more h.jo h.jrn.lt hs, h.ok.cut n, lo_more h.bel h.lo hs, h.jl, h.bel.trans (hb.below h.lo h.bel.size)⟩, hb, hs⟩

/-- A snapshot and records that were set together by hand: the outer row is the law's own, the others were there. -/
def NowAt (w W : World) (base : Nat) (sv rv : Value) (S : List Nat) (R : List (List Nat)) : Prop :=
  Sl encY w.heap.size w sv S ∧ ∃ ys : List CX, ys.map Prod.fst = R ∧ W.ownsRow base yssT 1 rv ys.length (ys.map Prod.snd) ∧ ∀ y ∈ ys, Sl encY w.heap.size w y.2 y.1
theorem NowAt.like {w W W' : World} {base : Nat} {sv rv : Value} {S : List Nat} {R : List (List Nat)} (h : NowAt w W base sv rv S R) (hk : ∀ g, rv.ownBlock = some g → W'.heap[g]? = W.heap[g]?) : NowAt w W' base sv rv S R := by
  obtain ⟨h1, ys, h2, h3, h4⟩ := h
  obtain ⟨g1, g2⟩ := h3
  refine ⟨h1, ys, h2, ⟨g1, ?_⟩, h4⟩
  rcases g2 with g2 | ⟨g, cap, cur, hv, hg0, hh, r⟩
  · exact .inl g2
  · exact .inr ⟨g, cap, cur, hv, hg0, (hk g (by rw [hv]; rfl)).trans hh, r⟩
theorem NowAt.off {w W : World} {base : Nat} {sv rv : Value} {S : List Nat} {R : List (List Nat)} (h : NowAt w W base sv rv S R) : ∀ g, rv.ownBlock = some g → base ≤ g ∧ g < W.heap.size := fun g hg => by
  obtain ⟨_, ys, _, h3, _⟩ := h
  exact World.ownsRow.lt h3 g hg
end Go.Proofs.Ytpllbojmonfeiaa
