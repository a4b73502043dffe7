/- A range over a function in its most general form: the caller's invariant goes by a state of its own, which the iterator and the rounds turn; the iterator's promise is asked for this one invariant. No program is spoken of. -/
import Derived.RangeFuncWrites
import Derived.RangeFuncNested
import Derived.RangeFuncBound
import Derived.OrdersHeld
import Derived.BigQuiet
import Derived.Deep.QuietTactic
import Derived.TacticsIn
import Derived.TacticsInMore
import Derived.RangeFuncCalls
import Derived.RangeFuncLeaves
import Derived.Shelf.Abstract
import Derived.OwnWalkIn
import Derived.LoopNIn
import Derived.LoopIn
namespace Go.Proofs.Ytpcbdjdmhemjdaa
open Go.RowKit
set_option linter.unusedVariables false

/-- The record of a loop, in each of its states. -/
def recG (a : Act) (ps : Array Tmp) (assign body : Code) (fn dk : Nat) (st : LoopState) (pe : Option Code) : Loop :=
  { state := st, pending := pe, fn, tmps := a.tmps, params := ps, assign, body, defers := dk }
/-- The two blocks of a loop, at B, are as they were. -/
def SameRec (B : Nat) (W W' : World) : Prop := W'.heap[B]? = W.heap[B]? ∧ W'.heap[B + 1]? = W.heap[B + 1]?
theorem SameRec.refl (B : Nat) (W : World) : SameRec B W W := ⟨rfl, rfl⟩
theorem SameRec.trans {B : Nat} {A C D : World} (h : SameRec B A C) (h' : SameRec B C D) : SameRec B A D := ⟨h'.1.trans h.1, h'.2.trans h.2⟩
/-- What is said does not hang on a loop's record at B. -/
def NoRec (B : Nat) (K : World → Prop) : Prop := ∀ W o k, (k = B ∨ k = B + 1) → K W → K (W.putObj k o)

/-- An iterator's promise for the caller's own invariant: J between two rounds, Jm when a round is asked for, Jx behind a round that leaves. -/
def SeqG {α σ : Type} (F : Fence) (n : Nat) (P : Program) (g : Nat) (lb : Array Value) (encs : α → Array Value) (B : Nat) (J : σ → World → Prop) (Jm : σ → α → World → Prop) (Jx : Code → World → Prop) (Af : σ → σ → Prop) (En : σ → World → Prop) (s0 : σ) : Prop :=
  ∀ (l : Nat) (Rd : World → Prop) (Dn : Code → World → Prop) (W : World),
    (∀ A A', SameRec B A A' → Rd A → Rd A') → (∀ c A A', SameRec B A A' → Dn c A → Dn c A') → (∀ A, Rd A → B + 2 ≤ A.heap.size) → (∀ c A, Dn c A → B + 2 ≤ A.heap.size) →
    Rd W → J s0 W →
    (∀ s x A, Rd A → Jm s x A → YieldAt F (n - 1) P l (encs x) A fun e A' => (e = .returned (.bool true) ∧ Rd A' ∧ ∃ s', Af s s' ∧ J s' A') ∨ (e = .returned (.bool false) ∧ ∃ c, Dn c A' ∧ Jx c A')) →
    CallsIn F n P g (#[.func (.yield l) #[] #[]] ++ lb) W fun e A' => (∃ v, e = .returned v) ∧ ((Rd A' ∧ ∃ s, En s A' ∧ J s A') ∨ (∃ c, Dn c A' ∧ Jx c A'))

/-- What a round comes to. -/
def postG {σ : Type} (B : Nat) (V : World) (J : σ → World → Prop) (Jx : Code → World → Prop) (Af : σ → σ → Prop) (s : σ) : Exit → Act → World → Prop
  | .normal, _, U => SameRec B V U ∧ ∃ s', Af s s' ∧ J s' U
  | .ret, _, U => SameRec B V U ∧ Jx .ret U
  | .exit id, _, U => SameRec B V U ∧ Jx (.exit id) U
  | .goto t, _, U => SameRec B V U ∧ Jx (.goto t) U
  | .panic _, _, _ => False
  | .outgrown, _, _ => False

theorem rangeG {α σ : Type} {F : Fence} {n : Nat} {P : Program} {g : Operand} {ps : Array Tmp} {assign body : Code} {Q : Exit → Act → World → Prop} {a : Act} {w : World}
    (hro : F.round = none) (h1 : 1 ≤ n) {gf : Nat} {lb : Array Value} (hg : a.eval g = .func (.func gf) #[] lb) (hFg : F.fn gf) (eg : ∀ args w, (callFunc gf args).run P w = .ok (.enter gf args) w)
    {encs : α → Array Value} (hps : ∀ x, (encs x).size = ps.size)
    (J : σ → World → Prop) (Jm : σ → α → World → Prop) (Jb : σ → α → Act → World → Prop) (Jx : Code → World → Prop) (Af : σ → σ → Prop) (En : σ → World → Prop) (s0 : σ)
    (hJ : ∀ s, NoRec w.heap.size (J s)) (hJb : ∀ s x a1, NoRec w.heap.size (Jb s x a1)) (hJx : ∀ c, NoRec w.heap.size (Jx c)) (hEn : ∀ s, NoRec w.heap.size (En s))
    (h0 : ∀ r, J s0 ((w.alloc (.deferred (some []))).alloc (.loop r)))
    (hseq : SeqG F (n - 1) P gf lb encs w.heap.size J Jm Jx Af En s0)
    (hassign : ∀ (l : Nat) (s : σ) (x : α) (W : World) (K : Act → World → Prop), Jm s x W → w.heap.size + 2 ≤ W.heap.size → (∀ a1 Wa, Jb s x a1 Wa → SameRec w.heap.size W Wa → K a1 Wa) →
      assign.wpIn (F.inRound l) (n - 1 - 1) P (Exit.then K (fun _ _ _ => False)) { tmps := (ps.zip (encs x)).foldl (fun t (p, v) => t.setIfInBounds p v) a.tmps, defers := [] } W)
    (hbody : ∀ (l : Nat) (s : σ) (x : α) (a1 : Act) (V : World), Jb s x a1 V → w.heap.size + 2 ≤ V.heap.size → body.wpIn (F.inRound l) (n - 1 - 1) P (postG w.heap.size V J Jx Af s) a1 V)
    (hdone : ∀ (s : σ) (W : World), J s W → En s W → W.heap[w.heap.size]? = some (.deferred (some [])) → Q .normal { a with defers := { target := .collected w.heap.size, args := #[] } :: a.defers } W)
    (hstop : ∀ (c : Code) (W : World), Jx c W → W.heap[w.heap.size]? = some (.deferred (some [])) → c.wpIn F n P Q { a with defers := { target := .collected w.heap.size, args := #[] } :: a.defers } W) :
    (Code.rangeFunc g ps assign body).wpIn F n P Q a w := by
  apply wpIn_rangeFunc
  intro fn hfn
  rw [hro]
  obtain ⟨W1, hW1⟩ : ∃ W1, (w.alloc (.deferred (some []))).alloc (.loop (recG a ps assign body fn w.heap.size .ready none)) = W1 := ⟨_, rfl⟩
  have hz : W1.heap.size = w.heap.size + 2 := by rw [← hW1]; simp
  have hR : W1.heap[w.heap.size + 1]? = some (.loop (recG a ps assign body fn w.heap.size .ready none)) := by
    have := World.alloc_heap_new (w.alloc (.deferred (some []))) (.loop (recG a ps assign body fn w.heap.size .ready none))
    rw [World.size_alloc] at this; rw [← hW1]; exact this
  have hD : W1.heap[w.heap.size]? = some (.deferred (some [])) := by
    rw [← hW1]; exact (Below.heap_alloc _ _ _ (by simp)).trans (World.alloc_heap_new w _)
  have hstart : J s0 W1 := by rw [← hW1]; exact h0 _
  refine ⟨w.heap.size + 1, [{ target := .collected w.heap.size, args := #[] }], W1, { target := .fn (.func gf) lb, args := #[.func (.yield (w.heap.size + 1)) #[] #[]] }, W1, gf,
    #[.func (.yield (w.heap.size + 1)) #[] #[]] ++ lb, W1, by rw [← hW1]; exact run_enterLoop_outer _ _ _ _ _, ?_, ?_, ?_, fun _ => h1, ?_⟩
  · simp only [resolve, hg]
    simp [go_sem]
  · intro f' hf'; simp [Target.leads] at hf'; subst hf'; exact hFg
  · simp [invoke, go_sem, eg]
  refine (hseq (w.heap.size + 1) (fun W => W.heap[w.heap.size + 1]? = some (.loop (recG a ps assign body fn w.heap.size .ready none)) ∧ W.heap[w.heap.size]? = some (.deferred (some [])))
    (fun c W => W.heap[w.heap.size + 1]? = some (.loop (recG a ps assign body fn w.heap.size .done (some c))) ∧ W.heap[w.heap.size]? = some (.deferred (some []))) W1
    (fun A A' hs h => ⟨hs.2.trans h.1, hs.1.trans h.2⟩) (fun c A A' hs h => ⟨hs.2.trans h.1, hs.1.trans h.2⟩) (fun A h => ?_) (fun c A h => ?_) ⟨hR, hD⟩ hstart ?_).mono ?_
  · have := (Array.getElem?_eq_some_iff.1 h.1).1; omega
  · have := (Array.getElem?_eq_some_iff.1 h.1).1; omega
  · rintro s x W ⟨hl, hk⟩ hm
    have hy := run_yield (P := P) (args := encs x) hl (hps x)
    have hlt := (Array.getElem?_eq_some_iff.1 hl).1
    refine ⟨fn, _, assign, body, hy, roundIn_of_wpIn hfn (hassign _ s x W _ hm (by omega) (fun a1 Wa hb hsr => ?_))⟩
    have hla := hsr.2.trans hl
    have hka := hsr.1.trans hk
    have hlta := (Array.getElem?_eq_some_iff.1 hla).1
    refine ⟨_, run_beginRound hla rfl, ?_⟩
    obtain ⟨V, hV⟩ : ∃ V, Wa.putObj (w.heap.size + 1) (.loop { recG a ps assign body fn w.heap.size .ready none with state := .busy }) = V := ⟨_, rfl⟩
    have hlV : V.heap[w.heap.size + 1]? = some (.loop { recG a ps assign body fn w.heap.size .ready none with state := .busy }) := by rw [← hV]; exact World.putObj_heap_same hlta
    have hkV : V.heap[w.heap.size]? = some (.deferred (some [])) := by rw [← hV]; exact (World.putObj_heap_other (by omega)).trans hka
    have hbV : Jb s x a1 V := by rw [← hV]; exact hJb s x a1 Wa _ _ (.inr rfl) hb
    have hzV : w.heap.size + 2 ≤ V.heap.size := by have := (Array.getElem?_eq_some_iff.1 hlV).1; omega
    rw [hV]
    clear hV
    have fin : ∀ (j : Option Code) (U : World), SameRec w.heap.size V U → ∃ U', (Instr.endRound (w.heap.size + 1) j).run P U = .ok (.bool j.isNone) U' ∧
        U' = U.putObj (w.heap.size + 1) (.loop (recG a ps assign body fn w.heap.size (if j.isNone then .ready else .done) j)) ∧
        U'.heap[w.heap.size + 1]? = some (.loop (recG a ps assign body fn w.heap.size (if j.isNone then .ready else .done) j)) ∧
        U'.heap[w.heap.size]? = some (.deferred (some [])) := fun j U hU => by
      have hlU := hU.2.trans hlV
      have hkU := hU.1.trans hkV
      exact ⟨_, run_endRound j hlU, rfl, World.putObj_heap_same (Array.getElem?_eq_some_iff.1 hlU).1, (World.putObj_heap_other (by omega)).trans hkU⟩
    refine wpIn_mono (hbody _ s x a1 V hbV hzV) ?_
    rintro e a3 U hp
    cases e with
    | normal =>
      obtain ⟨h2, s', h3, h4⟩ := hp
      obtain ⟨U', hr, rfl, e2, e3⟩ := fin none U h2
      exact ⟨_, _, hr, .inl ⟨rfl, ⟨e2, e3⟩, s', h3, hJ s' U _ _ (.inr rfl) h4⟩⟩
    | ret =>
      obtain ⟨h2, h4⟩ := hp
      obtain ⟨U', hr, rfl, e2, e3⟩ := fin (some .ret) U h2
      exact ⟨_, _, hr, .inr ⟨rfl, .ret, ⟨e2, e3⟩, hJx _ U _ _ (.inr rfl) h4⟩⟩
    | exit id =>
      obtain ⟨h2, h4⟩ := hp
      obtain ⟨U', hr, rfl, e2, e3⟩ := fin (some (.exit id)) U h2
      exact ⟨_, _, hr, .inr ⟨rfl, .exit id, ⟨e2, e3⟩, hJx _ U _ _ (.inr rfl) h4⟩⟩
    | goto t =>
      obtain ⟨h2, h4⟩ := hp
      obtain ⟨U', hr, rfl, e2, e3⟩ := fin (some (.goto t)) U h2
      exact ⟨_, _, hr, .inr ⟨rfl, .goto t, ⟨e2, e3⟩, hJx _ U _ _ (.inr rfl) h4⟩⟩
    | panic ch => exact hp.elim
    | outgrown => exact hp.elim
  · rintro e W2 ⟨⟨v, rfl⟩, (⟨⟨hl, hk⟩, s, he, hj⟩ | ⟨c, ⟨hl, hk⟩, hx⟩)⟩
    · exact ⟨none, _, run_endLoop hl (by simp [recG]), hdone s _ (hJ s W2 _ _ (.inr rfl) hj) (hEn s W2 _ _ (.inr rfl) he) ((World.putObj_heap_other (by omega)).trans hk)⟩
    · exact ⟨some c, _, run_endLoop hl (by simp [recG]), hstop c _ (hJx c W2 _ _ (.inr rfl) hx) ((World.putObj_heap_other (by omega)).trans hk)⟩
theorem wpIn_actG {F : Fence} {n : Nat} {P : Program} {c : Code} {Q : Exit → Act → World → Prop} {a : Act} {w : World} (h : ∀ A, A = a → c.wpIn F n P Q A w) : c.wpIn F n P Q a w := h a rfl
end Go.Proofs.Ytpcbdjdmhemjdaa
