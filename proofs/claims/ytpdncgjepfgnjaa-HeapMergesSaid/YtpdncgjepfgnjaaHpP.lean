/- A heap beside the document's row of what stands in it. -/
import Derived.Test.YtpdncgjepfgnjaaHpR
import Derived.BigQuiet
namespace Go.Proofs.Ytpdncgjepfgnjaa
open Go.RowKit
set_option linter.unusedVariables false

structure PlH (w0 : World) (b n : Nat) (own : List Nat) (l S : List ((Int × Int) × Int)) (puts : Int) (ps : Value) (D : List (Int × Int)) (W : World) : Prop where
  heap : ∃ v, HeapP own W b (.func (.func 9) #[] #[]) v l puts
  rep : Rep Prod.fst l S puts
  prs : PrsP n W ps D
  off : OffP own ps
  own : ∀ k ∈ own, w0.heap.size ≤ k ∧ k < n
  sz : w0.heap.size ≤ n ∧ n ≤ W.heap.size
  bel : Below w0.heap.size w0 W
theorem PlH.below {w0 : World} {b n : Nat} {own : List Nat} {l S : List ((Int × Int) × Int)} {puts : Int} {ps : Value} {D : List (Int × Int)} {W W' : World} (h : PlH w0 b n own l S puts ps D W) (hb : Below n W W') : PlH w0 b n own l S puts ps D W' := by
  obtain ⟨v, hv⟩ := h.heap
  have hz := h.sz
  have hs := hb.size
  refine ⟨⟨v, hv.but (own2 := (List.range W.heap.size).filter (fun k => decide (n ≤ k))) ⟨hb.os, hb.tape, hb.output, hb.size, fun k hk hn => hb.block k (by
    apply Decidable.byContradiction; intro hge; exact hn (List.mem_filter.2 ⟨List.mem_range.2 hk, decide_eq_true (by omega)⟩))⟩ (fun k hk hk2 => by
      have h1 := (h.own k hk).2
      have h2 := of_decide_eq_true (List.mem_filter.1 hk2).2
      omega)⟩, h.rep, h.prs.below hb (Nat.le_refl _), h.off, h.own, ⟨hz.1, by omega⟩, h.bel.trans (hb.mono hz.1)⟩
theorem PlH.mono {w0 : World} {b n n' : Nat} {own : List Nat} {l S : List ((Int × Int) × Int)} {puts : Int} {ps : Value} {D : List (Int × Int)} {W : World} (h : PlH w0 b n own l S puts ps D W) (hn : n ≤ n') (hn' : n' ≤ W.heap.size) : PlH w0 b n' own l S puts ps D W :=
  ⟨h.heap, h.rep, h.prs.mono hn, h.off, fun k hk => ⟨(h.own k hk).1, by have := (h.own k hk).2; omega⟩, ⟨by have := h.sz.1; omega, hn'⟩, h.bel⟩
theorem PlH.up {w0 : World} {b n : Nat} {own : List Nat} {l S : List ((Int × Int) × Int)} {puts : Int} {ps : Value} {D : List (Int × Int)} {W : World} (h : PlH w0 b n own l S puts ps D W) : PlH w0 b W.heap.size own l S puts ps D W := h.mono h.sz.2 (Nat.le_refl _)
theorem PlH.len {w0 : World} {b n : Nat} {own : List Nat} {l S : List ((Int × Int) × Int)} {puts : Int} {ps : Value} {D : List (Int × Int)} {W : World} (h : PlH w0 b n own l S puts ps D W) : Calls Try.prog 14 #[.pointer (some ⟨b, 0, none⟩)] W fun e w' => e = .returned (.int .i64 S.length) ∧ w' = W := by
  obtain ⟨v, hv⟩ := h.heap
  refine (hlenP W hv).mono ?_
  rintro e w' ⟨rfl, rfl⟩
  rw [h.rep.len]
  exact ⟨rfl, rfl⟩
theorem PlH.put {w0 : World} {b n : Nat} {own : List Nat} {l S : List ((Int × Int) × Int)} {puts : Int} {ps : Value} {D : List (Int × Int)} {W : World} (h : PlH w0 b n own l S puts ps D W) (x : Int × Int) (hS : S.length ≤ 200) (h0 : 0 ≤ puts) (h1 : puts ≤ 200) :
    Calls Try.prog 10 #[.pointer (some ⟨b, 0, none⟩), valP x] W fun e W' => e = .returned (.tuple #[]) ∧ (∃ n' own', PlH w0 b n' own' (putL (ahK Prod.fst) l (x, puts + 1)) (insS Prod.fst S (x, puts + 1)) (puts + 1) ps D W') ∧ But own W W' := by
  obtain ⟨v, hv⟩ := h.heap
  have hl := h.rep.len
  refine (putP ordP x (by omega) h0 (by omega) W hv).mono ?_
  rintro e w' ⟨rfl, g, v', q1, q2, q3⟩
  refine ⟨rfl, ⟨w'.heap.size, g :: own, ⟨v', q1⟩, h.rep.put x, (h.prs.but q2 h.off h.sz.2).mono (by have := h.sz.2; have := q2.size; omega), fun ad m c e h0 hk => ?_, fun k hk => ⟨?_, q1.lt k hk⟩, ⟨by have := h.sz; have := q2.size; omega, Nat.le_refl _⟩, h.bel.trans (q2.below (fun k hk => (h.own k hk).1) (by have := h.sz; omega))⟩, q2⟩
  · rcases List.mem_cons.1 hk with rfl | hk
    · rcases q3 with q3 | q3
      · exact h.off _ _ _ e h0 q3
      · have hp := h.prs
        rcases hp with ⟨rfl, _, _, e2⟩ | ⟨bb, off, cap, e2, hlt, _⟩
        · rw [e2] at e; cases e; omega
        · rw [e2] at e; cases e
          have := h.sz.2
          have : bb < n := hlt
          have : W.heap.size ≤ bb := q3
          omega
    · exact h.off _ _ _ e h0 hk
  · rcases List.mem_cons.1 hk with rfl | hk
    · rcases q3 with q3 | q3
      · exact (h.own _ q3).1
      · have := h.sz; omega
    · exact (h.own _ hk).1
theorem PlH.dput {w0 : World} {b n : Nat} {own : List Nat} {l S : List ((Int × Int) × Int)} {puts : Int} {ps : Value} {D : List (Int × Int)} {W : World} (h : PlH w0 b n own l S puts ps D W) (x : Int × Int) (hD : D.length ≤ 200) :
    Calls Try.prog 11 #[ps, valP x] W fun e W' => ∃ a c, e = .returned (.slice a (D.length + 1) c) ∧ ∃ n', PlH w0 b n' own l S puts (.slice a (D.length + 1) c) (insD D x) W' := by
  obtain ⟨a, m, c, rfl⟩ : ∃ a m c, ps = .slice a m c := by
    rcases h.prs with ⟨_, a, c, e⟩ | ⟨_, _, _, e, _⟩
    · exact ⟨a, 0, c, e⟩
    · exact ⟨_, _, _, e⟩
  have hup := h.up
  refine (refPut_any a m c D x (by omega) W hup.prs).mono ?_
  rintro e w' ⟨v, rfl, q1, q2⟩
  obtain ⟨a', c', rfl⟩ := own_form q1
  have h2 := (hup.below q2).up
  refine ⟨a', c', rfl, w'.heap.size, h2.heap, h2.rep, PrsP.of_owns (by rw [insD_len]; exact q1), fun ad m' c2 e h0 hk => ?_, h2.own, h2.sz, h2.bel⟩
  have h3 := (World.ownsRow.lt q1 ad.block (by rw [e]; rfl)).1
  have h4 := (hup.own _ hk).2
  omega
theorem PlH.form {w0 : World} {b n : Nat} {own : List Nat} {l S : List ((Int × Int) × Int)} {puts : Int} {ps : Value} {D : List (Int × Int)} {W : World} (h : PlH w0 b n own l S puts ps D W) : ∃ a c, ps = .slice a D.length c := by
  rcases h.prs with ⟨rfl, a, c, e⟩ | ⟨_, _, _, e, _⟩
  · exact ⟨a, c, e⟩
  · exact ⟨_, _, e⟩
/-- What comes first. -/
def firstD (S : List ((Int × Int) × Int)) : Int × Int := match S with | [] => (0, 0) | x :: _ => x.1
theorem PlH.first {w0 : World} {b n : Nat} {own : List Nat} {l S : List ((Int × Int) × Int)} {puts : Int} {ps : Value} {D : List (Int × Int)} {W : World} (h : PlH w0 b n own l S puts ps D W) : firstP l = firstD S ∧ (decide (l.length ≠ 0) = decide (S ≠ [])) ∧ Rep Prod.fst (restP Prod.fst l) S.tail puts := by
  have hr := h.rep
  have hl := hr.len
  unfold firstP restP firstD
  cases S with
  | nil =>
    have h0 : l.length = 0 := by simpa using hl.symm
    obtain rfl := List.eq_nil_of_length_eq_zero h0
    exact ⟨rfl, rfl, hr⟩
  | cons x S' =>
    have h0 : l.length ≠ 0 := by simp at hl; omega
    obtain ⟨r1, r2⟩ := hr.take
    rw [if_neg h0, if_neg h0]
    exact ⟨by rw [r1], by simp [h0], r2⟩
theorem PlH.top {w0 : World} {b n : Nat} {own : List Nat} {l S : List ((Int × Int) × Int)} {puts : Int} {ps : Value} {D : List (Int × Int)} {W : World} (h : PlH w0 b n own l S puts ps D W) :
    Calls Try.prog 12 #[.pointer (some ⟨b, 0, none⟩)] W fun e W' => e = .returned (.tuple #[valP (firstD S), .bool (decide (S ≠ []))]) ∧ PlH w0 b n own l S puts ps D W' := by
  obtain ⟨v, hv⟩ := h.heap
  obtain ⟨e1, e2, _⟩ := h.first
  refine (topP W hv).mono ?_
  rintro e w' ⟨rfl, q⟩
  refine ⟨?_, h.below (q.mono h.sz.2)⟩
  rw [e2, ← e1]
  unfold firstP
  split <;> rfl
theorem PlH.pop {w0 : World} {b n : Nat} {own : List Nat} {l S : List ((Int × Int) × Int)} {puts : Int} {ps : Value} {D : List (Int × Int)} {W : World} (h : PlH w0 b n own l S puts ps D W) (hS : S.length ≤ 200) :
    Calls Try.prog 13 #[.pointer (some ⟨b, 0, none⟩)] W fun e W' => e = .returned (.tuple #[valP (firstD S), .bool (decide (S ≠ []))]) ∧ PlH w0 b n own (restP Prod.fst l) S.tail puts ps D W' ∧ But own W W' := by
  obtain ⟨v, hv⟩ := h.heap
  obtain ⟨e1, e2, e3⟩ := h.first
  have hl := h.rep.len
  refine (popP ordP (by omega) W hv).mono ?_
  rintro e w' ⟨rfl, ⟨v', q1⟩, q2⟩
  rw [e1, e2]
  exact ⟨rfl, ⟨⟨v', q1⟩, e3, h.prs.but q2 h.off h.sz.2, h.off, h.own, ⟨h.sz.1, by have := h.sz.2; have := q2.size; omega⟩, h.bel.trans (q2.below (fun k hk => (h.own k hk).1) (by have := h.sz; omega))⟩, q2⟩
theorem PlH.box {w0 : World} {b n B : Nat} {own : List Nat} {l S : List ((Int × Int) × Int)} {puts : Int} {ps : Value} {D : List (Int × Int)} {W : World} (h : PlH w0 b n own l S puts ps D W) (hB : n ≤ B) (i : Nat) (v : Value) : PlH w0 b n own l S puts ps D (W.setCell ⟨B, i, none⟩ v) :=
  h.below ((Below.refl _ W).setCell hB v)
/-- The first one of the document's row goes. -/
theorem PlH.cut {w0 : World} {b n c : Nat} {a : Option Addr} {own : List Nat} {l S : List ((Int × Int) × Int)} {puts : Int} {x : Int × Int} {D : List (Int × Int)} {W : World} (h : PlH w0 b n own l S puts (.slice a (D.length + 1) c) (x :: D) W) :
    ∃ g off, a = some ⟨g, off, none⟩ ∧ PlH w0 b n own l S puts (.slice (some ⟨g, off + 2, none⟩) D.length (c - 1)) D W := by
  rcases h.prs with ⟨e, _⟩ | ⟨g, off, cap, e, hlt, hcap, hc⟩
  · cases e
  · cases e
    refine ⟨g, off, rfl, h.heap, h.rep, .inr ⟨g, off + 2, c - 1, rfl, hlt, by simp at hcap; omega, fun j x hj => ?_⟩, fun ad m c2 e h0 hk => ?_, h.own, h.sz, h.bel⟩
    · have h2 := hc (j + 1) x (by simpa using hj)
      rw [show off + 2 + j * 2 = off + (j + 1) * 2 from by omega]
      exact h2
    · cases e
      exact h.off _ _ _ rfl (by omega) hk

/-- What stays between two steps: m are done; the heap holds what the document's row ps holds. -/
def PlI (w0 : World) (b n m : Nat) (S : List ((Int × Int) × Int)) (ps : Value) (W : World) : Prop :=
  ∃ own l puts, PlH w0 b n own l S puts ps (S.map Prod.fst) W ∧ S.length ≤ m ∧ 0 ≤ puts ∧ puts ≤ (m : Int)
/-- A thing has been put into the heap alone. -/
def PlM (w0 : World) (b m : Nat) (x : Int × Int) (S : List ((Int × Int) × Int)) (ps : Value) (W : World) : Prop :=
  ∃ n own l puts p, PlH w0 b n own l (insS Prod.fst S (x, p)) puts ps (S.map Prod.fst) W ∧ S.length ≤ m ∧ 0 ≤ puts ∧ puts ≤ ((m + 1 : Nat) : Int)
/-- The first has gone out of the heap alone. -/
def PlP (w0 : World) (b n m : Nat) (S : List ((Int × Int) × Int)) (ps : Value) (W : World) : Prop :=
  ∃ own l puts, PlH w0 b n own l S.tail puts ps (S.map Prod.fst) W ∧ S.length ≤ m ∧ 0 ≤ puts ∧ puts ≤ (m : Int)
theorem PlI.up {w0 : World} {b n m : Nat} {S : List ((Int × Int) × Int)} {ps : Value} {W : World} (h : PlI w0 b n m S ps W) : PlI w0 b W.heap.size m S ps W := by
  obtain ⟨own, l, puts, h1, h2⟩ := h
  exact ⟨own, l, puts, h1.up, h2⟩
theorem PlI.succ {w0 : World} {b n m : Nat} {S : List ((Int × Int) × Int)} {ps : Value} {W : World} (h : PlI w0 b n m S ps W) : PlI w0 b n (m + 1) S ps W := by
  obtain ⟨own, l, puts, h1, h2, h3, h4⟩ := h
  exact ⟨own, l, puts, h1, by omega, h3, by omega⟩
theorem PlI.below {w0 : World} {b n m : Nat} {S : List ((Int × Int) × Int)} {ps : Value} {W W' : World} (h : PlI w0 b n m S ps W) (hb : Below n W W') : PlI w0 b n m S ps W' := by
  obtain ⟨own, l, puts, h1, h2⟩ := h
  exact ⟨own, l, puts, h1.below hb, h2⟩
theorem PlP.below {w0 : World} {b n m : Nat} {S : List ((Int × Int) × Int)} {ps : Value} {W W' : World} (h : PlP w0 b n m S ps W) (hb : Below n W W') : PlP w0 b n m S ps W' := by
  obtain ⟨own, l, puts, h1, h2⟩ := h
  exact ⟨own, l, puts, h1.below hb, h2⟩
theorem PlI.bel {w0 : World} {b n m : Nat} {S : List ((Int × Int) × Int)} {ps : Value} {W : World} (h : PlI w0 b n m S ps W) : Below w0.heap.size w0 W := by
  obtain ⟨own, l, puts, h1, h2⟩ := h
  exact h1.bel
theorem PlI.form {w0 : World} {b n m : Nat} {S : List ((Int × Int) × Int)} {ps : Value} {W : World} (h : PlI w0 b n m S ps W) : ∃ a c, ps = .slice a S.length c := by
  obtain ⟨own, l, puts, h1, h2⟩ := h
  obtain ⟨a, c, e⟩ := h1.form
  rw [List.length_map] at e
  exact ⟨a, c, e⟩
theorem PlI.len {w0 : World} {b n m : Nat} {S : List ((Int × Int) × Int)} {ps : Value} {W : World} (h : PlI w0 b n m S ps W) : Calls Try.prog 14 #[.pointer (some ⟨b, 0, none⟩)] W fun e w' => e = .returned (.int .i64 S.length) ∧ w' = W := by
  obtain ⟨own, l, puts, h1, h2⟩ := h
  exact h1.len
theorem PlI.put {w0 : World} {b n m : Nat} {S : List ((Int × Int) × Int)} {ps : Value} {W : World} (h : PlI w0 b n m S ps W) (hm : m < 200) (x : Int × Int) :
    Calls Try.prog 10 #[.pointer (some ⟨b, 0, none⟩), valP x] W fun e W' => e = .returned (.tuple #[]) ∧ PlM w0 b m x S ps W' ∧ ∀ k, n ≤ k → k < W.heap.size → W'.heap[k]? = W.heap[k]? := by
  obtain ⟨own, l, puts, h1, h2, h3, h4⟩ := h
  refine (h1.put x (by omega) h3 (by omega)).mono ?_
  rintro e w' ⟨rfl, ⟨n', own', q⟩, hb⟩
  exact ⟨rfl, ⟨n', own', _, _, _, q, h2, by omega, by omega⟩, fun k hk hk2 => hb.block k hk2 (fun hm => by have := (h1.own k hm).2; omega)⟩
theorem PlM.dput {w0 : World} {b m : Nat} {x : Int × Int} {S : List ((Int × Int) × Int)} {ps : Value} {W : World} (h : PlM w0 b m x S ps W) (hm : m < 200) :
    Calls Try.prog 11 #[ps, valP x] W fun e W' => ∃ a c n S', e = .returned (.slice a (S.length + 1) c) ∧ S'.length = S.length + 1 ∧ PlI w0 b n (m + 1) S' (.slice a (S.length + 1) c) W' := by
  obtain ⟨n, own, l, puts, p, h1, h2, h3, h4⟩ := h
  refine (h1.dput x (by rw [List.length_map]; omega)).mono ?_
  rintro e w' ⟨a, c, rfl, n', q⟩
  rw [List.length_map] at q ⊢
  have hl : (insS Prod.fst S (x, p)).length = S.length + 1 := by rw [(ins_perm (key := Prod.fst) (x, p) S).length_eq]; rfl
  exact ⟨a, c, n', _, rfl, hl, own, l, puts, by rw [insS_map]; exact q, by omega, h3, h4⟩
theorem PlI.top {w0 : World} {b n m : Nat} {S : List ((Int × Int) × Int)} {ps : Value} {W : World} (h : PlI w0 b n m S ps W) :
    Calls Try.prog 12 #[.pointer (some ⟨b, 0, none⟩)] W fun e W' => e = .returned (.tuple #[valP (firstD S), .bool (decide (S ≠ []))]) ∧ Below W.heap.size W W' := by
  obtain ⟨own, l, puts, h1, h2, h3, h4⟩ := h
  obtain ⟨v, hv⟩ := h1.heap
  obtain ⟨e1, e2, _⟩ := h1.first
  refine (topP W hv).mono ?_
  rintro e w' ⟨rfl, q⟩
  refine ⟨?_, q⟩
  rw [e2, ← e1]
  unfold firstP
  split <;> rfl
theorem PlI.pop {w0 : World} {b n m : Nat} {S : List ((Int × Int) × Int)} {ps : Value} {W : World} (h : PlI w0 b n m S ps W) (hm : m ≤ 200) :
    Calls Try.prog 13 #[.pointer (some ⟨b, 0, none⟩)] W fun e W' => e = .returned (.tuple #[valP (firstD S), .bool (decide (S ≠ []))]) ∧ PlP w0 b n m S ps W' ∧ W.heap.size ≤ W'.heap.size ∧ ∀ k, n ≤ k → k < W.heap.size → W'.heap[k]? = W.heap[k]? := by
  obtain ⟨own, l, puts, h1, h2, h3, h4⟩ := h
  refine (h1.pop (by omega)).mono ?_
  rintro e w' ⟨rfl, q, hb⟩
  exact ⟨rfl, ⟨own, _, puts, q, h2, h3, h4⟩, hb.size, fun k hk hk2 => hb.block k hk2 (fun hm => by have := (h1.own k hm).2; omega)⟩
theorem PlP.nil {w0 : World} {b n m : Nat} {ps : Value} {W : World} (h : PlP w0 b n m [] ps W) : PlI w0 b n m [] ps W := h
theorem PlP.cut {w0 : World} {b n m c q : Nat} {g off : Nat} {x : (Int × Int) × Int} {S : List ((Int × Int) × Int)} {W : World} (h : PlP w0 b n m (x :: S) (.slice (some ⟨g, off, none⟩) q c) W) (hq : q = S.length + 1) : PlI w0 b n m S (.slice (some ⟨g, off + 2, none⟩) S.length (c - 1)) W := by
  obtain ⟨own, l, puts, h1, h2, h3, h4⟩ := h
  subst hq
  simp only [List.map_cons] at h1
  have h1' : PlH w0 b n own l S puts (.slice (some ⟨g, off, none⟩) ((S.map Prod.fst).length + 1) c) (x.1 :: S.map Prod.fst) W := by rw [List.length_map]; exact h1
  obtain ⟨g', off', e, h5⟩ := h1'.cut
  cases e
  rw [List.length_map] at h5
  exact ⟨own, l, puts, h5, by simp at h2; omega, h3, h4⟩
theorem PlP.cut' {w0 : World} {b n m c q : Nat} {g off : Nat} {x : (Int × Int) × Int} {S : List ((Int × Int) × Int)} {W : World} (h : PlP w0 b n m (x :: S) (.slice (some ⟨g, off, none⟩) q c) W) (hq : q = S.length + 1) (hc : q ≤ c) :
    PlI w0 b n m S (.slice (if c = 1 then some ⟨g, off, none⟩ else some ⟨g, off + 2, none⟩) S.length (c - 1)) W := by
  by_cases h1 : c = 1
  · rw [if_pos h1]
    obtain ⟨own, l, puts, h1, h2, h3, h4⟩ := h
    obtain rfl : S = [] := List.eq_nil_of_length_eq_zero (by omega)
    exact ⟨own, l, puts, ⟨h1.heap, h1.rep, .inl ⟨rfl, _, _, rfl⟩, fun ad n c e h0 => by cases e; omega, h1.own, h1.sz, h1.bel⟩, by simp, h3, h4⟩
  · rw [if_neg h1]
    exact h.cut hq
/-- The first one of the document's row. -/
theorem PlI.at0 {w0 : World} {b n m : Nat} {x : (Int × Int) × Int} {S : List ((Int × Int) × Int)} {ps : Value} {W : World} (h : PlI w0 b n m (x :: S) ps W) :
    ∃ g off c, ps = .slice (some ⟨g, off, none⟩) (S.length + 1) c ∧ S.length + 1 ≤ c ∧ g < n ∧ W.cell? ⟨g, off, none⟩ = some (.int .i64 x.1.1) ∧ W.cell? ⟨g, off + 1, none⟩ = some (.int .i64 x.1.2) := by
  obtain ⟨own, l, puts, h1, h2, h3, h4⟩ := h
  rcases h1.prs with ⟨e, _⟩ | ⟨g, off, cap, e, hlt, hcap, hc⟩
  · cases e
  · simp only [List.map_cons, List.length_cons, List.length_map] at e hcap
    have h5 := hc 0 x.1 (by simp)
    simp at h5
    exact ⟨g, off, cap, e, hcap, hlt, h5⟩
theorem PlP.at0 {w0 : World} {b n m : Nat} {x : (Int × Int) × Int} {S : List ((Int × Int) × Int)} {ps : Value} {W : World} (h : PlP w0 b n m (x :: S) ps W) :
    ∃ g off c, ps = .slice (some ⟨g, off, none⟩) (S.length + 1) c ∧ S.length + 1 ≤ c ∧ g < n ∧ W.cell? ⟨g, off, none⟩ = some (.int .i64 x.1.1) ∧ W.cell? ⟨g, off + 1, none⟩ = some (.int .i64 x.1.2) := by
  obtain ⟨own, l, puts, h1, h2, h3, h4⟩ := h
  rcases h1.prs with ⟨e, _⟩ | ⟨g, off, cap, e, hlt, hcap, hc⟩
  · cases e
  · simp only [List.map_cons, List.length_cons, List.length_map] at e hcap
    have h5 := hc 0 x.1 (by simp)
    simp at h5
    exact ⟨g, off, cap, e, hcap, hlt, h5⟩
theorem PlI.new {w0 W : World} {b : Nat} {a : Option Addr} {c : Nat} (h : HeapP [b] W b (.func (.func 9) #[] #[]) (.slice none 0 0) [] 0) (hb : w0.heap.size ≤ b) (hw : Below w0.heap.size w0 W) : PlI w0 b W.heap.size 0 [] (.slice a 0 c) W :=
  ⟨[b], [], 0, ⟨⟨_, h⟩, Rep.nil Prod.fst 0, .inl ⟨rfl, _, _, rfl⟩, fun ad n c e h0 => by cases e; omega, fun k hk => by
    have := h.lt k hk
    simp at hk; omega, ⟨hw.size, Nat.le_refl _⟩, hw⟩, Nat.le_refl _, Int.le_refl _, Int.le_refl _⟩
/-- A box of one cell that is older than all of this may be written. -/
theorem PlI.outer {w0 W W' : World} {b n m X : Nat} {S : List ((Int × Int) × Int)} {ps v : Value} {t : TypeId} (h : PlI w0 b n m S ps W) (hX : X < w0.heap.size) (hv : W.heap[X]? = some (.cells #[v] t (0, 0))) (hb : But [X] W W') :
    ∃ own l puts, (∃ v, HeapP own W' b (.func (.func 9) #[] #[]) v l puts) ∧ Rep Prod.fst l S puts ∧ PrsP n W' ps (S.map Prod.fst) ∧ OffP own ps ∧ (∀ k ∈ own, w0.heap.size ≤ k ∧ k < n) ∧ (w0.heap.size ≤ n ∧ n ≤ W.heap.size) ∧ S.length ≤ m := by
  obtain ⟨own, l, puts, h1, h2, h3, h4⟩ := h
  obtain ⟨hv0, hh⟩ := h1.heap
  refine ⟨own, l, puts, ⟨hv0, hh.but hb (fun k hk hk2 => ?_)⟩, h1.rep, h1.prs.but hb (fun ad q c e h0 hk => ?_) h1.sz.2, h1.off, h1.own, h1.sz, h2⟩
  · have := (h1.own k hk).1
    simp at hk2
    omega
  · simp at hk
    rcases h1.prs with ⟨_, _, _, e2⟩ | ⟨g, off, cap, e2, hlt, hcap, hc⟩
    · rw [e2] at e; cases e; omega
    · rw [e2] at e
      cases e
      have hl : 0 < (S.map Prod.fst).length := h0
      have h5 := (hc 0 _ (List.getElem?_eq_getElem hl)).2
      simp only at hk
      rw [hk, cell_of_row W X _ _ _ _ hv] at h5
      rw [Array.getElem?_eq_none (by simp)] at h5
      cases h5
theorem i64_and255 (n : Int) : bits .and .i64 n 255 = n % 256 := by
  have h127 : (BitVec.ofInt 64 255).toNat = 2 ^ 8 - 1 := by decide
  have key : (BitVec.ofInt 64 n &&& BitVec.ofInt 64 255).toNat = (n % ((2 ^ 64 : Nat) : Int)).toNat % 2 ^ 8 := by
    rw [BitVec.toNat_and, BitVec.toNat_ofInt, h127, Nat.and_two_pow_sub_one_eq_mod]
  show IntKind.i64.wrap ((BitVec.ofInt 64 n &&& BitVec.ofInt 64 255).toNat : Nat) = n % 256
  rw [key, IntKind.wrap_i64]
  omega
theorem most_i64 (n : Int) : ∃ q : Nat, 1 ≤ q ∧ q ≤ 256 ∧ wrap64 (1 + bits .and .i64 n 255) = (q : Int) := by
  refine ⟨(1 + n % 256).toNat, by omega, by omega, ?_⟩
  rw [i64_and255]
  unfold wrap64
  omega
theorem below_drewN (n : Nat) (W : World) (q : Nat) : Below n W (W.drewN q) :=
  have h := Below.refl n W
  ⟨h.os, h.tape, h.output, h.size, h.block⟩
theorem start_box {w w1 : World} {a : Array Value} {t : TypeId} (hb : Below (w.alloc (.cells a t)).heap.size (w.alloc (.cells a t)) w1) : w.heap.size + 1 ≤ w1.heap.size ∧ w1.heap[w.heap.size]? = some (.cells a t (0, 0)) ∧ Below w.heap.size w w1 := by
  have h1 := hb.size
  rw [World.size_alloc] at h1
  exact ⟨h1, (hb.block _ (by rw [World.size_alloc]; omega)).trans (World.alloc_heap_new w _), ((Below.refl w.heap.size w).alloc (Nat.le_refl _) _).trans (hb.mono (by rw [World.size_alloc]; omega))⟩
end Go.Proofs.Ytpdncgjepfgnjaa
