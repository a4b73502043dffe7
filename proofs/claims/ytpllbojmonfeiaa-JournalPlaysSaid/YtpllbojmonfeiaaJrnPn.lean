/- Law JournalPlays' steps: the document's call beside the code's. -/
import Derived.Test.YtpllbojmonfeiaaJrnPm
import Derived.Test.YtpllbojmonfeiaaRefJa
import Derived.Test.YtpllbojmonfeiaaRefAc
import Derived.Test.YtpllbojmonfeiaaJrnSm
namespace Go.Proofs.Ytpllbojmonfeiaa
open Go.RowKit SumM
set_option linter.unusedVariables false

theorem take_age (s : OrdS) (h : s.age < 18446744073709551616) (k : Nat) (b : List Nat) : (takeS s k b).1.age < 18446744073709551616 := by
  unfold takeS
  split
  · exact h
  · split
    · exact headA_lt b
    · split
      · exact h
      · split
        · exact h
        · exact h
theorem goS_age : ∀ (xs : List (Nat × Nat × List Nat)) (s : OrdS) (c e : Nat), s.age < 18446744073709551616 → (goS s c e xs).1.age < 18446744073709551616
  | [], s, c, e, h => h
  | x :: xs, s, c, e, h => by
    unfold goS
    split
    · exact goS_age xs _ _ _ (take_age s h _ _)
    · exact take_age s h _ _
theorem kept_lt (l : List Nat) : (keptS l).1 < 18446744073709551616 := by
  unfold keptS
  split
  · exact goS_age _ _ _ _ (by decide)
  · decide
theorem JOk.age_le {D : DevS} {r a c f : Nat} (h : JOk D r a c f) : a ≤ 18446744073709551615 := by
  have h1 := kept_lt (D.row (r : Nat))
  rw [h.kept] at h1
  have h2 : a < 18446744073709551616 := h1
  omega
/-- What the document's call hands back: a journal beside the regions, and an error's number. -/
def DTo (E : List Nat) (er : Int) (l0 l1 : List Nat) (C r a f : Nat) (W : World) (e : Ending) (W' : World) : Prop :=
  ∃ z0 z1 z2 z3 z4 z5 z6 z7, e = .returned (.tuple #[.agg #[z0, z1, z2, z3, z4, z5, z6, z7], .int .i64 er]) ∧ DocJ E W' (.agg #[z0, z1, z2, z3, z4, z5, z6, z7]) l0 l1 C r a f ∧ Below W.heap.size W W'
theorem DTo.of {E : List Nat} {er : Int} {l0 l1 : List Nat} {C r a f : Nat} {W W' : World} {v : Value} (h : DocJ E W' v l0 l1 C r a f) (hb : Below W.heap.size W W') : DTo E er l0 l1 C r a f W (.returned (.tuple #[v, .int .i64 er])) W' := by
  have h0 := h
  obtain ⟨p0, p1, ps, pr, n0, c0, n1, c1, ns, cs, nr, cr, e, _⟩ := h.val
  subst e
  exact ⟨_, _, _, _, _, _, _, _, rfl, h0, hb⟩
theorem dappend {w W W8 : World} {own : List Nat} {jb b : Nat} {D D' : DevS} {r a c f c' f' C : Nat} {rec : List Nat} {er : Int} (h : St w W own jb b D r a c f) (hD : D.cap = C) (hrb : Bytes rec) (hrn : rec.length ≤ 1000000)
    (hif : if 4096 < rec.length then er = 2 ∧ D' = D ∧ c' = c ∧ f' = f else if D.cap < f + (rec.length + 7) then er = 6 ∧ D' = D ∧ c' = c ∧ f' = f else er = 0 ∧ c' = c + 1 ∧ f' = f + (rec.length + 7) ∧ AppOk D D' r rec)
    (pa : Option Addr) (n pc : Nat) (hS : Sl encY W8.heap.size W8 (.slice pa n pc) rec) {E : List Nat} (hE : ∀ k ∈ E, k < W8.heap.size) {v : Value} (hJ : DocJ E W8 v D.r0 D.r1 C r a f) :
    Calls Try.prog 31 #[v, .slice pa n pc] W8 (DTo E er D'.r0 D'.r1 C r a f' W8) := by
  have hcl := cnt_le h.dok h.ok
  have hrow := row_eq (D := D) h.ok.reg
  have hCm : C ≤ 1048576 := by rw [← hD]; exact h.dok.cap
  have hfw := few_of (L := D.row (r : Nat)) ⟨Nat.le_trans (h.dok.row (r : Nat)).1 h.dok.cap, (h.dok.row (r : Nat)).2⟩
  refine (jappend_any v D.r0 D.r1 C r a f h.ok.reg hCm hcl.2.1 rec hrb.2 hrn (by rw [hrow]; exact h.ok.fin) (by rw [hrow]; exact hfw.2.1) (fun h1 h2 => by
    rw [hrow]
    have h3 := kept_snoc (h.dok.row (r : Nat)).2 h.ok.kept h.ok.age h.ok.fin rec h1 hrb.2
    exact ⟨h3.2.1, h3.2.2⟩) pa n pc W8 hS E hE hJ).mono ?_
  rintro e W' ⟨hb, hx⟩
  by_cases h4 : 4096 < rec.length
  · rw [if_pos h4] at hx hif
    obtain ⟨rfl, rfl, rfl, rfl⟩ := hif
    subst hx
    exact DTo.of (hJ.below hb) hb
  · rw [if_neg h4] at hx hif
    by_cases hc : C < f + (rec.length + 7)
    · rw [if_pos hc] at hx
      rw [if_pos (by rw [hD]; exact hc)] at hif
      obtain ⟨rfl, rfl, rfl, rfl⟩ := hif
      subst hx
      exact DTo.of (hJ.below hb) hb
    · rw [if_neg hc] at hx
      rw [if_neg (by rw [hD]; exact hc)] at hif
      obtain ⟨rfl, rfl, rfl, ok⟩ := hif
      obtain ⟨v', rfl, h5⟩ := hx
      have h6 := ok.row
      have h7 := ok.other
      have e0 : (if r = 0 then D.r0 ++ frameL 4 rec else D.r0) = D'.r0 := by
        rcases h.ok.reg with rfl | rfl
        · exact h6.symm
        · exact h7.symm
      have e1 : (if r = 0 then D.r1 else D.r1 ++ frameL 4 rec) = D'.r1 := by
        rcases h.ok.reg with rfl | rfl
        · exact h7.symm
        · exact h6.symm
      rw [e0, e1] at h5
      exact DTo.of h5 hb
theorem dcompact {w W W8 : World} {own : List Nat} {jb b : Nat} {D D' : DevS} {r a c f r' a' c' f' C : Nat} {snap : List Nat} {er : Int} (h : St w W own jb b D r a c f) (hD : D.cap = C) (hsb : Bytes snap) (hsn : snap.length ≤ 1000000)
    (hif : if a = 18446744073709551615 then er = 3 ∧ D' = D ∧ r' = r ∧ a' = a ∧ c' = c ∧ f' = f else if D.cap < heavyN (a + 1) snap.length then er = 6 ∧ D' = D ∧ r' = r ∧ a' = a ∧ c' = c ∧ f' = f else er = 0 ∧ r' = 1 - r ∧ a' = a + 1 ∧ c' = 0 ∧ f' = heavyN (a + 1) snap.length ∧ CompOk D D' r a snap)
    (pa : Option Addr) (n pc : Nat) (hS : Sl encY W8.heap.size W8 (.slice pa n pc) snap) {E : List Nat} (hE : ∀ k ∈ E, k < W8.heap.size) {v : Value} (hJ : DocJ E W8 v D.r0 D.r1 C r a f) :
    Calls Try.prog 32 #[v, .slice pa n pc] W8 (DTo E er D'.r0 D'.r1 C r' a' f' W8) := by
  have ha := h.ok.age_le
  have ha0 := h.ok.age
  refine (jcompact_any v D.r0 D.r1 C r a f h.ok.reg (by omega) (by omega) snap hsb.2 hsn pa n pc W8 hS E hE hJ).mono ?_
  rintro e W' ⟨hb, hx⟩
  by_cases h4 : a = 18446744073709551615
  · rw [if_pos h4] at hx hif
    obtain ⟨rfl, rfl, rfl, rfl, rfl, rfl⟩ := hif
    subst hx
    exact DTo.of (hJ.below hb) hb
  · rw [if_neg h4] at hx hif
    by_cases hc : C < heavyN (a + 1) snap.length
    · rw [if_pos hc] at hx
      rw [if_pos (by rw [hD]; exact hc)] at hif
      obtain ⟨rfl, rfl, rfl, rfl, rfl, rfl⟩ := hif
      subst hx
      exact DTo.of (hJ.below hb) hb
    · rw [if_neg hc] at hx
      rw [if_neg (by rw [hD]; exact hc)] at hif
      obtain ⟨rfl, rfl, rfl, rfl, rfl, ok⟩ := hif
      obtain ⟨v', rfl, h5⟩ := hx
      have h6 := ok.row
      have h7 := ok.other
      have e0 : (if 1 - r = 0 then joinF (beginFs (a + 1) snap) else D.r0) = D'.r0 := by
        rcases h.ok.reg with rfl | rfl
        · exact h7.symm
        · exact h6.symm
      have e1 : (if 1 - r = 0 then D.r1 else joinF (beginFs (a + 1) snap)) = D'.r1 := by
        rcases h.ok.reg with rfl | rfl
        · exact h6.symm
        · exact h7.symm
      rw [e0, e1] at h5
      exact DTo.of h5 hb
theorem same_again {D : DevS} {r a c f : Nat} (h : JOk D r a c f) : SameO D D r a f := by
  right
  have hno := newest_op D
  rw [h.new] at hno
  simp only [Prod.mk.injEq] at hno
  obtain ⟨e1, e2⟩ := hno
  have hf := h.fin
  refine ⟨by rw [← e2]; exact h.age, e1.symm, by rw [← e2], by rw [← e2], ?_, ?_⟩
  · rcases h.reg with rfl | rfl
    · exact (List.take_of_length_le (Nat.le_of_eq (show D.r0.length = f from hf))).symm
    · rfl
  · rcases h.reg with rfl | rfl
    · rfl
    · exact (List.take_of_length_le (Nat.le_of_eq (show D.r1.length = f from hf))).symm
theorem dreopen {w W W8 : World} {own : List Nat} {jb b : Nat} {D : DevS} {r a c f C : Nat} (h : St w W own jb b D r a c f) (hD : D.cap = C) {E : List Nat} (hE : ∀ k ∈ E, k < W8.heap.size) {p0 p1 : Option Addr} {n0 c0 n1 c1 : Nat}
    (h0 : Sl encY W8.heap.size W8 (.slice p0 n0 c0) D.r0) (h1 : Sl encY W8.heap.size W8 (.slice p1 n1 c1) D.r1) (o0 : Off E (.slice p0 n0 c0)) (o1 : Off E (.slice p1 n1 c1)) :
    Calls Try.prog 29 #[.slice p0 n0 c0, .slice p1 n1 c1, .int .i64 (C : Nat)] W8 (DTo E 0 D.r0 D.r1 C r a f W8) := by
  have hCm : C ≤ 1048576 := by rw [← hD]; exact h.dok.cap
  have hl0 : Bytes D.r0 := ⟨Nat.le_trans (h.dok.row ((0 : Nat) : Int)).1 h.dok.cap, (h.dok.row ((0 : Nat) : Int)).2⟩
  have hl1 : Bytes D.r1 := ⟨Nat.le_trans (h.dok.row ((1 : Nat) : Int)).1 h.dok.cap, (h.dok.row ((1 : Nat) : Int)).2⟩
  refine (jopen_of jrd_any p0 p1 n0 c0 n1 c1 D.r0 D.r1 hl0 hl1 C hCm W8 h0 h1 E hE o0 o1).mono ?_
  intro e W' hx
  rw [← hD] at hx ⊢
  obtain ⟨v, rfl, h2, hb⟩ := opD_ok (same_again h.ok) hx
  exact DTo.of h2 hb
/-- A step's end: what the document hands back is stored. -/
theorem pl_next {w W : World} {own : List Nat} {jb b xb : Nat} {D : DevS} {r a c f C K : Nat} {x0 x1 x2 x3 x4 x5 x6 x7 z0 z1 z2 z3 z4 z5 z6 z7 : Value} {r0 a0 f0 : Nat} {l0 l1 : List Nat} {E : List Nat} {W0 : World} (h : St w W own jb b D r a c f) (hC : D.cap = C) (hK : K ≤ D.left)
    (hX : W.heap[xb]? = some (.cells #[x0, x1, x2, x3, x4, x5, x6, x7] rjT (0, 0))) (hx : DocJ E W0 (.agg #[x0, x1, x2, x3, x4, x5, x6, x7]) l0 l1 C r0 a0 f0) (hz : DocJ (jb :: own) W (.agg #[z0, z1, z2, z3, z4, z5, z6, z7]) D.r0 D.r1 C r a f) (hn : xb ∉ jb :: own) (hw : w.heap.size ≤ xb) :
    PlI w b xb jb C K ((((((((W.setCell ⟨xb, 0, none⟩ z0).setCell ⟨xb, 1, none⟩ z1).setCell ⟨xb, 2, none⟩ z2).setCell ⟨xb, 3, none⟩ z3).setCell ⟨xb, 4, none⟩ z4).setCell ⟨xb, 5, none⟩ z5).setCell ⟨xb, 6, none⟩ z6).setCell ⟨xb, 7, none⟩ z7) := by
  have hbE := set8_but W xb (v0 := z0) (v1 := z1) (v2 := z2) (v3 := z3) (v4 := z4) (v5 := z5) (v6 := z6) (v7 := z7)
  have hno : ∀ (i x : Nat), (#[x0, x1, x2, x3, x4, x5, x6, x7] : Array Value)[i]? ≠ some (encY x) := by
    obtain ⟨p0, p1, ps, pr, n0, c0, n1, c1, ns, cs, nr, cr, e, _⟩ := hx.val
    cases e
    exact jdC_no p0 p1 ps pr n0 c0 n1 c1 ns cs nr cr _ _ _ _
  refine ⟨own, D, r, a, c, f, h.but hbE (fun k hk hm => ?_) (fun hm => ?_) (fun k hk => ?_), hC, hK, h.ok.age_le, ⟨_, heap_set8 hX, hz.box hbE hX hno⟩, hn, hw⟩
  · simp at hm; subst hm; exact hn (List.mem_cons_of_mem _ hk)
  · simp at hm; subst hm; exact hn (List.mem_cons_self)
  · simp at hk; omega
/-- What an append leaves of the power. -/
theorem app_left {D D' : DevS} {r c f c' f' : Nat} {rec : List Nat} {er : Int}
    (hif : if 4096 < rec.length then er = 2 ∧ D' = D ∧ c' = c ∧ f' = f else if D.cap < f + (rec.length + 7) then er = 6 ∧ D' = D ∧ c' = c ∧ f' = f else er = 0 ∧ c' = c + 1 ∧ f' = f + (rec.length + 7) ∧ AppOk D D' r rec) :
    D'.cap = D.cap ∧ D.left ≤ D'.left + (rec.length + 7) := by
  split at hif
  · obtain ⟨_, rfl, _⟩ := hif
    exact ⟨rfl, Nat.le_add_right _ _⟩
  · split at hif
    · obtain ⟨_, rfl, _⟩ := hif
      exact ⟨rfl, Nat.le_add_right _ _⟩
    · exact ⟨hif.2.2.2.cap, Nat.le_of_eq hif.2.2.2.left.symm⟩
/-- What a compaction leaves of the power. -/
theorem comp_left {D D' : DevS} {r a c f r' a' c' f' : Nat} {snap : List Nat} {er : Int} (ok : D.Ok)
    (hif : if a = 18446744073709551615 then er = 3 ∧ D' = D ∧ r' = r ∧ a' = a ∧ c' = c ∧ f' = f else if D.cap < heavyN (a + 1) snap.length then er = 6 ∧ D' = D ∧ r' = r ∧ a' = a ∧ c' = c ∧ f' = f else er = 0 ∧ r' = 1 - r ∧ a' = a + 1 ∧ c' = 0 ∧ f' = heavyN (a + 1) snap.length ∧ CompOk D D' r a snap) :
    D'.cap = D.cap ∧ D.left ≤ D'.left + 2097152 := by
  split at hif
  · obtain ⟨_, rfl, _⟩ := hif
    exact ⟨rfl, Nat.le_add_right _ _⟩
  · split at hif
    · obtain ⟨_, rfl, _⟩ := hif
      exact ⟨rfl, Nat.le_add_right _ _⟩
    · rename_i h1 h2
      have h3 := hif.2.2.2.2.2
      have h4 := h3.left
      have h5 : (D.row (1 - (r : Nat) : Int)).length ≤ D.cap := (ok.row _).1
      have h6 := ok.cap
      exact ⟨h3.cap, by omega⟩
end Go.Proofs.Ytpllbojmonfeiaa
