/- RangeR's rule for iterators that read what they made in this round behind the round: the round keeps all that was made since the iterator began. No program is spoken of. -/
import Derived.Test.YtocmfdahnekboaaDoorRangeR
namespace Go.Proofs.YtocmfdahnekboaaDoor
open Go.RowKit
set_option linter.unusedVariables false

/-- What a round keeps. -/
def KpA (n0 m : Nat) (bs : List Nat) (w A B : World) : Prop := Below n0 A B ∧ (∀ k, w.heap.size + 2 ≤ k → k < A.heap.size → B.heap[k]? = A.heap[k]?) ∧ ∀ k, k ∈ bs → B.heap[k]? = A.heap[k]?
/-- An iterator's promise, for rounds that keep what lay below n0, and whatever is no cells that was made since the iterator began, all that was made since (to the first m blocks of it the iterator writes), and the blocks bs, to whose first cells the iterator writes. -/
def SeqA {α : Type} (F : Fence) (n : Nat) (P : Program) (g : Nat) (lb : Array Value) (encs : α → Array Value) (n0 m : Nat) (bs : List Nat) (S Sp : List α → Prop) (Ry : α → World → Prop) (w : World) : Prop :=
  ∀ (l : Nat) (J Jx : List α → World → Prop) (W : World), Below w.heap.size w W → w.heap.size + 2 ≤ W.heap.size → OwnFrom W.heap.size J → OwnFrom W.heap.size Jx → AbidesCells bs J → AbidesCells bs Jx → AbidesPriv W.heap.size m J → AbidesPriv W.heap.size m Jx →
    (∀ pre x W1, J pre W1 → Sp (pre ++ [x]) → W.heap.size + m ≤ W1.heap.size → Ry x W1 → YieldAt F (n - 1) P l (encs x) W1 fun e W' =>
      KeepsFrom W.heap.size W1 W' ∧ ((e = .returned (.bool true) ∧ J (pre ++ [x]) W' ∧ Below n0 W1 W' ∧ (∀ k, W.heap.size ≤ k → k < W1.heap.size → W'.heap[k]? = W1.heap[k]?) ∧ ∀ k, k ∈ bs → W'.heap[k]? = W1.heap[k]?) ∨ (e = .returned (.bool false) ∧ Jx (pre ++ [x]) W'))) →
    J [] W →
    CallsIn F n P g (#[.func (.yield l) #[] #[]] ++ lb) W fun e W' => (∃ v, e = .returned v) ∧ ((∃ xs, S xs ∧ J xs W') ∨ (∃ pre, Sp pre ∧ Jx pre W'))


theorem rangeA {α : Type} {F : Fence} {n : Nat} {P : Program} {g : Operand} {ps : Array Tmp} {assign body : Code} {Q : Exit → Act → World → Prop} {a : Act} {w : World}
    (hro : F.round = none) (h1 : 1 ≤ n) {gf : Nat} {lb : Array Value} (hg : a.eval g = .func (.func gf) #[] lb) (hFg : F.fn gf) (eg : ∀ args w, (callFunc gf args).run P w = .ok (.enter gf args) w)
    {encs : α → Array Value} {n0 m : Nat} {bs : List Nat} {S Sp : List α → Prop} {Ry : α → World → Prop} {w0 : World} (hseq : SeqA F (n - 1) P gf lb encs n0 m bs S Sp Ry w0) (hRy : ∀ x W l o r, W.heap[l]? = some (.loop r) → Ry x W → Ry x (W.putObj l o)) (hbs : ∀ r, r ∈ bs → r < w.heap.size)
    (hn0 : n0 ≤ w.heap.size) (hb0 : Below w0.heap.size w0 w) (hps : ∀ x, (encs x).size = ps.size)
    (I : List α → World → Prop) (Ix : Code → List α → World → Prop) (hI : OwnFrom w.heap.size I) (hIx : ∀ c, OwnFrom w.heap.size (Ix c)) (hIb : AbidesCells bs I) (hIxb : ∀ c, AbidesCells bs (Ix c)) (hIp : AbidesPriv (w.heap.size + 2) m I) (hIxp : ∀ c, AbidesPriv (w.heap.size + 2) m (Ix c)) (h0 : I [] w) (a₁ : α → Act)
    (hassign : ∀ (l : Nat) (x : α) (W : World) (K : Act → World → Prop), K (a₁ x) W →
      assign.wpIn (F.inRound l) (n - 1 - 1) P (Exit.then K (fun _ _ _ => False)) { tmps := (ps.zip (encs x)).foldl (fun t (p, v) => t.setIfInBounds p v) a.tmps, defers := [] } W)
    (hbody : ∀ (l : Nat) (pre : List α) (x : α) (W : World), I pre W → Sp (pre ++ [x]) → w.heap.size + 2 + m ≤ W.heap.size → Ry x W → body.wpIn (F.inRound l) (n - 1 - 1) P (ownPostG w.heap.size (KpA n0 m bs w) I Ix (pre ++ [x]) W) (a₁ x) W)
    (hdone : ∀ (D : Nat) (xs : List α) (W : World), w.heap.size ≤ D → S xs → I xs W → W.heap[D]? = some (.deferred (some [])) → Q .normal { a with defers := { target := .collected D, args := #[] } :: a.defers } W)
    (hstop : ∀ (D : Nat) (c : Code) (pre : List α) (W : World), w.heap.size ≤ D → Sp pre → Ix c pre W → W.heap[D]? = some (.deferred (some [])) → c.wpIn F n P Q { a with defers := { target := .collected D, args := #[] } :: a.defers } W) :
    (Code.rangeFunc g ps assign body).wpIn F n P Q a w := by
  apply wpIn_rangeFunc
  intro fn hfn
  rw [hro]
  have hW1 : ∃ W1, startO w (recO a ps assign body fn w.heap.size .ready none) = W1 := ⟨_, rfl⟩
  obtain ⟨W1, hW1⟩ := hW1
  have hz : W1.heap.size = w.heap.size + 2 := by rw [← hW1]; simp
  have hR : W1.heap[w.heap.size + 1]? = some (.loop (recO a ps assign body fn w.heap.size .ready none)) := by
    have := World.alloc_heap_new (w.alloc (.deferred (some []))) (.loop (recO a ps assign body fn w.heap.size .ready none))
    rw [World.size_alloc] at this; rw [← hW1]; exact this
  have hD : W1.heap[w.heap.size]? = some (.deferred (some [])) := by
    rw [← hW1]; exact (Below.heap_alloc _ _ _ (by simp)).trans (World.alloc_heap_new w _)
  have hstart : I [] W1 := by rw [← hW1]; exact hI.alloc _ (hI.alloc _ h0)
  have hbel : Below w0.heap.size w0 W1 := by rw [← hW1]; exact (hb0.alloc hb0.size _).alloc (by have := hb0.size; simp; omega) _
  refine ⟨w.heap.size + 1, [{ target := .collected w.heap.size, args := #[] }], W1, { target := .fn (.func gf) lb, args := #[.func (.yield (w.heap.size + 1)) #[] #[]] }, W1, gf,
    #[.func (.yield (w.heap.size + 1)) #[] #[]] ++ lb, W1, by rw [← hW1]; exact run_enterLoop_outer _ _ _ _ _, ?_, ?_, ?_, fun _ => h1, ?_⟩
  · simp only [resolve, hg]
    simp [go_sem]
  · intro f' hf'; simp [Target.leads] at hf'; subst hf'; exact hFg
  · simp [invoke, go_sem, eg]
  -- the iterator, at the caller's own invariant with the two blocks of the loop beside it
  have J1 : OwnFrom W1.heap.size (fun pre W => I pre W ∧ W.heap[w.heap.size + 1]? = some (.loop (recO a ps assign body fn w.heap.size .ready none)) ∧ W.heap[w.heap.size]? = some (.deferred (some []))) :=
    fun s A B row hs hg' hr => ⟨OwnFrom.le hI (by omega) s A B row hs.1 hg' hr, keeps_block hg' hr (by omega) hs.2.1, keeps_block hg' hr (by omega) hs.2.2⟩
  have J2 : OwnFrom W1.heap.size (fun pre W => ∃ c, Ix c pre W ∧ W.heap[w.heap.size + 1]? = some (.loop (recO a ps assign body fn w.heap.size .done (some c))) ∧ W.heap[w.heap.size]? = some (.deferred (some []))) :=
    fun s A B row ⟨c, hc, hl, hk⟩ hg' hr => ⟨c, OwnFrom.le (hIx c) (by omega) s A B row hc hg' hr, keeps_block hg' hr (by omega) hl, keeps_block hg' hr (by omega) hk⟩
  have J3 : AbidesCells bs (fun pre W => I pre W ∧ W.heap[w.heap.size + 1]? = some (.loop (recO a ps assign body fn w.heap.size .ready none)) ∧ W.heap[w.heap.size]? = some (.deferred (some []))) :=
    fun s A r v hr ⟨h1, h2, h3⟩ => ⟨hIb s A r v hr h1, (setCell_heap (by have := hbs r hr; omega)).trans h2, (setCell_heap (by have := hbs r hr; omega)).trans h3⟩
  have J4 : AbidesCells bs (fun pre W => ∃ c, Ix c pre W ∧ W.heap[w.heap.size + 1]? = some (.loop (recO a ps assign body fn w.heap.size .done (some c))) ∧ W.heap[w.heap.size]? = some (.deferred (some []))) :=
    fun s A r v hr ⟨c, h1, h2, h3⟩ => ⟨c, hIxb c s A r v hr h1, (setCell_heap (by have := hbs r hr; omega)).trans h2, (setCell_heap (by have := hbs r hr; omega)).trans h3⟩
  have J5 : AbidesPriv W1.heap.size m (fun pre W => I pre W ∧ W.heap[w.heap.size + 1]? = some (.loop (recO a ps assign body fn w.heap.size .ready none)) ∧ W.heap[w.heap.size]? = some (.deferred (some []))) :=
    fun s A r v h1 h2 ⟨i1, i2, i3⟩ => ⟨hIp s A r v (by omega) (by omega) i1, (setCell_heap (by omega)).trans i2, (setCell_heap (by omega)).trans i3⟩
  have J6 : AbidesPriv W1.heap.size m (fun pre W => ∃ c, Ix c pre W ∧ W.heap[w.heap.size + 1]? = some (.loop (recO a ps assign body fn w.heap.size .done (some c))) ∧ W.heap[w.heap.size]? = some (.deferred (some []))) :=
    fun s A r v h1 h2 ⟨c, i1, i2, i3⟩ => ⟨c, hIxp c s A r v (by omega) (by omega) i1, (setCell_heap (by omega)).trans i2, (setCell_heap (by omega)).trans i3⟩
  refine (hseq (w.heap.size + 1) _ _ W1 hbel (by have := hb0.size; omega) J1 J2 J3 J4 J5 J6 ?_ ⟨hstart, hR, hD⟩).mono ?_
  · rintro pre x W ⟨hi, hl, hk⟩ hlen hmW hry
    have hlt := (Array.getElem?_eq_some_iff.1 hl).1
    have hy := run_yield (P := P) (args := encs x) hl (hps x)
    have hkp : ∀ (V : World) (o : Obj), w.heap.size + 1 < V.heap.size → Below n0 V (V.putObj (w.heap.size + 1) o) := fun V o hV => (Below.refl n0 V).grown (grownBy_putObj' V _ o) (by omega) (fun k e => by cases e; omega)
    refine ⟨fn, _, assign, body, hy, roundIn_of_wpIn hfn (hassign _ x W _ ⟨_, run_beginRound hl rfl, ?_⟩)⟩
    obtain ⟨V, hV⟩ : ∃ V, W.putObj (w.heap.size + 1) (.loop { recO a ps assign body fn w.heap.size .ready none with state := .busy }) = V := ⟨_, rfl⟩
    have hlV : V.heap[w.heap.size + 1]? = some (.loop { recO a ps assign body fn w.heap.size .ready none with state := .busy }) := by rw [← hV]; exact World.putObj_heap_same hlt
    have hkV : V.heap[w.heap.size]? = some (.deferred (some [])) := by rw [← hV]; exact (World.putObj_heap_other (by omega)).trans hk
    have hiV : I pre V := by rw [← hV]; exact hI.putObj _ hi (by omega) hl rfl
    have hKV : KeepsFrom W1.heap.size W V := by rw [← hV]; exact keepsFrom_put (by omega)
    have hBV : Below n0 W V := by rw [← hV]; exact hkp _ _ hlt
    have hzV : V.heap.size = W.heap.size := by rw [← hV]; simp
    have hPV : ∀ k, k ≠ w.heap.size + 1 → V.heap[k]? = W.heap[k]? := fun k hk => by rw [← hV]; exact World.putObj_heap_other hk
    have hryV : Ry x V := by rw [← hV]; exact hRy x W _ _ _ hl hry
    rw [hV]
    -- the round's end, by whatever jump
    have fin : ∀ (j : Option Code) (U : World), KeepsFrom w.heap.size V U → ∃ U', (Instr.endRound (w.heap.size + 1) j).run P U = .ok (.bool j.isNone) U' ∧
        U' = U.putObj (w.heap.size + 1) (.loop (recO a ps assign body fn w.heap.size (if j.isNone then .ready else .done) j)) ∧
        U.heap[w.heap.size + 1]? = some (.loop { recO a ps assign body fn w.heap.size .ready none with state := .busy }) ∧
        U'.heap[w.heap.size + 1]? = some (.loop (recO a ps assign body fn w.heap.size (if j.isNone then .ready else .done) j)) ∧
        U'.heap[w.heap.size]? = some (.deferred (some [])) := fun j U hU => by
      have hlU := hU.same _ _ (by omega) hlV rfl
      have hkU := hU.same _ _ (Nat.le_refl _) hkV rfl
      exact ⟨_, run_endRound j hlU, rfl, hlU, World.putObj_heap_same (Array.getElem?_eq_some_iff.1 hlU).1, (World.putObj_heap_other (by omega)).trans hkU⟩
    refine wpIn_mono (hbody _ pre x V hiV hlen (by omega) hryV) ?_
    rintro e a3 U hp
    cases e with
    | normal =>
      obtain ⟨h2, h3, h4⟩ := hp
      obtain ⟨U', hr, rfl, e1, e2, e3⟩ := fin none U h2
      exact ⟨_, _, hr, (hKV.trans (KeepsFrom.raise h2 (by omega))).trans (keepsFrom_put (by omega)), .inl ⟨rfl, ⟨hI.putObj _ h4 (by omega) e1 rfl, e2, e3⟩, (hBV.trans h3.1).trans (hkp _ _ (Array.getElem?_eq_some_iff.1 e1).1), (fun k k1 k2 => (World.putObj_heap_other (by omega)).trans ((h3.2.1 k (by omega) (by omega)).trans (hPV k (by omega)))), fun k k1 => (World.putObj_heap_other (by have := hbs k k1; omega)).trans ((h3.2.2 k k1).trans (hPV k (by have := hbs k k1; omega)))⟩⟩
    | ret =>
      obtain ⟨h2, h4⟩ := hp
      obtain ⟨U', hr, rfl, e1, e2, e3⟩ := fin (some .ret) U h2
      exact ⟨_, _, hr, (hKV.trans (KeepsFrom.raise h2 (by omega))).trans (keepsFrom_put (by omega)), .inr ⟨rfl, .ret, (hIx _).putObj _ h4 (by omega) e1 rfl, e2, e3⟩⟩
    | exit id =>
      obtain ⟨h2, h4⟩ := hp
      obtain ⟨U', hr, rfl, e1, e2, e3⟩ := fin (some (.exit id)) U h2
      exact ⟨_, _, hr, (hKV.trans (KeepsFrom.raise h2 (by omega))).trans (keepsFrom_put (by omega)), .inr ⟨rfl, .exit id, (hIx _).putObj _ h4 (by omega) e1 rfl, e2, e3⟩⟩
    | goto t =>
      obtain ⟨h2, h4⟩ := hp
      obtain ⟨U', hr, rfl, e1, e2, e3⟩ := fin (some (.goto t)) U h2
      exact ⟨_, _, hr, (hKV.trans (KeepsFrom.raise h2 (by omega))).trans (keepsFrom_put (by omega)), .inr ⟨rfl, .goto t, (hIx _).putObj _ h4 (by omega) e1 rfl, e2, e3⟩⟩
    | panic ch => exact hp.elim
    | outgrown => exact hp.elim
  · rintro e W2 ⟨⟨v, rfl⟩, (⟨xs, hS, hi, hl, hk⟩ | ⟨pre, hSp, c, hi, hl, hk⟩)⟩
    · exact ⟨none, _, run_endLoop hl (by simp [recO]), hdone _ xs _ (Nat.le_refl _) hS (hI.putObj _ hi (by omega) hl rfl) ((World.putObj_heap_other (by omega)).trans hk)⟩
    · exact ⟨some c, _, run_endLoop hl (by simp [recO]), hstop _ c pre _ (Nat.le_refl _) hSp ((hIx c).putObj _ hi (by omega) hl rfl) ((World.putObj_heap_other (by omega)).trans hk)⟩
end Go.Proofs.YtocmfdahnekboaaDoor

