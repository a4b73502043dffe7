/- Opening a journal, as the code and as the document do it. -/
import Derived.Test.YtpllbojmonfeiaaJrnPl
import Derived.Test.YtpllbojmonfeiaaRefOp
import Derived.Test.YtpllbojmonfeiaaRefRj
namespace Go.Proofs.Ytpllbojmonfeiaa
open Go.RowKit SumM
set_option linter.unusedVariables false

theorem newest_op (D : DevS) : newestS D = (opR D.r0 D.r1, opK D.r0 D.r1) := by
  unfold newestS opR opK
  split <;> rfl
/-- The document and the device have opened the same. -/
def SameO (D D2 : DevS) (r a f : Nat) : Prop :=
  ((keptS D.r0).1 = 0 ∧ (keptS D.r1).1 = 0 ∧ D2.r0 = freshL ∧ D2.r1 = [] ∧ r = 0 ∧ a = 1 ∧ f = 16 ∧ 16 ≤ D.cap) ∨
  ((opK D.r0 D.r1).1 ≠ 0 ∧ opR D.r0 D.r1 = r ∧ (opK D.r0 D.r1).1 = a ∧ (opK D.r0 D.r1).2.2 = f ∧ D2.r0 = (if r = 0 then D.r0.take f else D.r0) ∧ D2.r1 = (if r = 0 then D.r1 else D.r1.take f))
theorem open_rows {D D2 : DevS} {r a c f : Nat} (ok : D.Ok) (ok2 : D2.Ok) (hd : D.down = false) (hp : D.r0.length + D.r1.length + 16 ≤ D.left) (h : openS D = (D2, 0)) (hJ : JOk D2 r a c f) : SameO D D2 r a f := by
  rcases open_pow ok hd hp with ⟨D3, r', a', c', f', e, hJ', hc, _, _, hcase⟩ | ⟨e, _⟩
  · rw [h] at e
    obtain rfl : D2 = D3 := by cases e; rfl
    have hn : (r, (a, c, f)) = (r', (a', c', f')) := by rw [← hJ.new, ← hJ'.new]
    simp only [Prod.mk.injEq] at hn
    obtain ⟨rfl, rfl, rfl, rfl⟩ := hn
    rcases hcase with ⟨h0, h1⟩ | ⟨h0, h1, h2, h3, h4⟩
    · right
      have hno := newest_op D
      rw [h1] at hno
      simp only [Prod.mk.injEq] at hno
      obtain ⟨e1, e2⟩ := hno
      have ha0 : a ≠ 0 := hJ.age
      have hreg := hJ.regB
      have hlen : f ≤ (D.row (r : Nat)).length := by
        have hk : keptS (D.row (r : Nat)) = (a, c, f) := by
          have h5 := h1
          unfold newestS at h5
          split at h5
          · simp only [Prod.mk.injEq] at h5; obtain ⟨rfl, h6⟩ := h5; exact h6
          · simp only [Prod.mk.injEq] at h5; obtain ⟨rfl, h6⟩ := h5; exact h6
        exact (kept_age (ok.row (r : Nat)).2 hk ha0).1
      have hop : openS D = truncS D (r : Nat) (f : Nat) := by
        unfold openS
        rw [hd, if_neg (by decide), h1]
        exact if_neg ha0
      have hlr : (D.row (r : Nat)).length ≤ D.r0.length + D.r1.length := by rcases hJ.reg with rfl | rfl <;> (show _ ≤ _; first | exact Nat.le_add_right _ _ | exact Nat.le_add_left _ _)
      rw [h, truncS_pow hd hreg hlen (by omega)] at hop
      have hD2 : D2 = (D.turn ((D.row (r : Nat)).length - f)).put (r : Nat) ((D.row (r : Nat)).take f) := by
        have := congrArg Prod.fst hop
        exact this
      refine ⟨by rw [← e2]; exact ha0, e1.symm, by rw [← e2], by rw [← e2], ?_, ?_⟩
      · rw [hD2]
        rcases hJ.reg with rfl | rfl <;> rfl
      · rw [hD2]
        rcases hJ.reg with rfl | rfl <;> rfl
    · left
      simp only [Prod.mk.injEq] at h2
      obtain ⟨rfl, rfl, rfl, h5⟩ := h2
      have hno := newest_op D
      rw [hno] at h0
      have h0 : (opK D.r0 D.r1).1 = 0 := h0
      unfold opK at h0
      have hl := ok2.l0
      rw [h3, fresh_len, hc] at hl
      split at h0
      · rename_i hlt; exact absurd h0 (by omega)
      · rename_i hlt
        exact ⟨h0, by omega, h3, h4, rfl, rfl, by rw [h5, heavy_10], hl⟩
  · rw [h] at e; cases e
theorem opD_ok {E : List Nat} {w w' : World} {D D2 : DevS} {r a f : Nat} {e : Ending} (hs : SameO D D2 r a f) (h : OpD E w D.r0 D.r1 D.cap e w') : ∃ v, e = .returned (.tuple #[v, .int .i64 0]) ∧ DocJ E w' v D2.r0 D2.r1 D.cap r a f ∧ Below w.heap.size w w' := by
  obtain ⟨hb, h⟩ := h
  rcases hs with ⟨h1, h2, h3, h4, rfl, rfl, rfl, h8⟩ | ⟨h1, h2, h3, h4, h5, h6⟩
  · rcases h with ⟨_, _, ⟨_, v, e1, e2⟩ | ⟨h9, _⟩⟩ | ⟨h9, _⟩
    · exact ⟨v, e1, by rw [h3, h4]; exact e2, hb⟩
    · omega
    · exact absurd (by unfold opK; split <;> omega) h9
  · rcases h with ⟨h7, h8, _⟩ | ⟨_, v, e1, e2⟩
    · exact absurd (by unfold opK; split <;> omega) h1
    · rw [h2, h3, h4] at e2
      exact ⟨v, e1, by rw [h5, h6]; exact e2, hb⟩
/-- The code has found no room: neither region counts. -/
theorem open_none {D : DevS} (hd : D.down = false) (ok : D.Ok) (hp : D.r0.length + D.r1.length + 16 ≤ D.left) (h : (openS D).2 = 6) : (keptS D.r0).1 = 0 ∧ (keptS D.r1).1 = 0 ∧ D.cap < 16 := by
  rcases open_pow ok hd hp with ⟨D3, r', a', c', f', e, _⟩ | ⟨_, hc⟩
  · rw [e] at h; cases h
  · have hno := newest_op D
    have h0 : (opK D.r0 D.r1).1 = 0 := by
      apply Decidable.byContradiction
      intro hne
      have hop : openS D = truncS D (opR D.r0 D.r1 : Nat) ((opK D.r0 D.r1).2.2 : Nat) := by
        unfold openS
        rw [hd, if_neg (by decide), hno]
        exact if_neg hne
      have hreg : opR D.r0 D.r1 = 0 ∨ opR D.r0 D.r1 = 1 := by unfold opR; split; exact .inr rfl; exact .inl rfl
      have hk : keptS (D.row (opR D.r0 D.r1 : Nat)) = opK D.r0 D.r1 := by
        unfold opR opK
        split <;> rfl
      have hlen := (kept_age (a := (opK D.r0 D.r1).1) (c := (opK D.r0 D.r1).2.1) (f := (opK D.r0 D.r1).2.2) (ok.row (opR D.r0 D.r1 : Nat)).2 hk hne).1
      have hrb : regB ((opR D.r0 D.r1 : Nat) : Int) = true := by rcases hreg with h | h <;> rw [h] <;> rfl
      have hlr : (D.row (opR D.r0 D.r1 : Nat)).length ≤ D.r0.length + D.r1.length := by rcases hreg with h | h <;> rw [h] <;> (show _ ≤ _; first | exact Nat.le_add_right _ _ | exact Nat.le_add_left _ _)
      rw [hop, truncS_pow hd hrb hlen (by omega)] at h
      cases h
    unfold opK at h0
    split at h0
    · omega
    · exact ⟨h0, by omega, hc⟩
theorem opD_none {E : List Nat} {w w' : World} {la lb : List Nat} {cap : Nat} {e : Ending} (h1 : (keptS la).1 = 0) (h2 : (keptS lb).1 = 0) (hc : cap < 16) (h : OpD E w la lb cap e w') : ∃ v, IsJd v ∧ e = .returned (.tuple #[v, .int .i64 6]) ∧ Below w.heap.size w w' := by
  obtain ⟨hb, h⟩ := h
  rcases h with ⟨_, _, ⟨h9, _⟩ | ⟨_, v, hv, e1⟩⟩ | ⟨h9, _⟩
  · omega
  · exact ⟨v, hv, e1, hb⟩
  · exact absurd (by unfold opK; split <;> omega) h9
/-- journal.Open where there is power enough: what it comes to is told beside the regions that there were. -/
def OpenedW (own : List Nat) (w : World) (b : Nat) (D : DevS) (e : Ending) (w' : World) : Prop :=
  (∃ D2 r a c f own' x y, e = .returned (.tuple #[.pointer (some ⟨w.heap.size, 0, none⟩), .int .i64 0]) ∧ JOk D2 r a c f ∧ Dev own' w' b D2 x y ∧ JrnAt w' w.heap.size b (r : Nat) a c f ∧ w.heap.size ∉ own' ∧ But own w w' ∧ (∀ k ∈ own', k ∈ own ∨ w.heap.size ≤ k) ∧
    D2.cap = D.cap ∧ D.left ≤ D2.left + (D.r0.length + D.r1.length + 16) ∧ SameO D D2 r a f) ∨
  (e = .returned (.tuple #[.pointer none, .int .i64 6]) ∧ (keptS D.r0).1 = 0 ∧ (keptS D.r1).1 = 0 ∧ D.cap < 16 ∧ But own w w' ∧ ∃ own' x y, Dev own' w' b (openS D).1 x y)
theorem openedW_any {own : List Nat} {b : Nat} {D : DevS} {v0 v1 : Value} (w : World) (hD : Dev own w b D v0 v1) (hd : D.down = false) (hp : D.r0.length + D.r1.length + 16 ≤ D.left) :
    Calls Try.prog 11 #[.pointer (some ⟨b, 0, none⟩)] w (OpenedW own w b D) := by
  refine (opens_any w hD).mono ?_
  rintro e w' ⟨he, e', h1, own', x, y, d, hb, hs, hj⟩
  have hb' : But own w w' := by
    have hbA : But own w (w.alloc (.cells #[.pointer (some ⟨b, 0, none⟩), .int .i64 0, .int .u64 0, .int .i64 0, .int .i64 0] 76)) := But.of_below ((Below.refl _ _).alloc (Nat.le_refl _) _)
    exact hbA.trans hb (fun g hg => by
      rcases List.mem_cons.1 hg with rfl | hg
      · exact .inr (Nat.le_refl _)
      · exact .inl hg)
  have hs' : ∀ k ∈ own', k ∈ own ∨ w.heap.size ≤ k := fun k hk => (hs k hk).imp id (fun h => by simp at h; omega)
  rcases open_pow hD.ok hd hp with ⟨D2, r, a, c, f, ho, hJ, hc, hl, hz, hcs⟩ | ⟨h6, hc⟩
  · left
    have hnot : w.heap.size ∉ own' := fun hm => by
      rcases hs _ hm with h | h
      · have := hD.lt _ h; omega
      · simp at h; omega
    have ho' := ho
    rw [ho] at he d
    rw [if_pos rfl] at he
    refine ⟨D2, r, a, c, f, own', x, y, he, hJ, d, ?_, hnot, hb', hs', hc, hl, open_rows hD.ok d.ok hd hp ho' hJ⟩
    rw [if_neg (by rw [hd]; decide)] at hj
    rcases hcs with ⟨h0, hn⟩ | ⟨h0, hst, hq, _⟩
    · rw [if_neg h0, hn] at hj
      exact hj
    · rw [if_pos h0, hst] at hj
      cases hq
      exact hj.1 rfl
  · right
    obtain ⟨k1, k2, k3⟩ := open_none hd hD.ok hp h6
    rw [h6, if_neg (by decide)] at he
    exact ⟨he, k1, k2, k3, hb', own', x, y, d⟩
end Go.Proofs.Ytpllbojmonfeiaa
