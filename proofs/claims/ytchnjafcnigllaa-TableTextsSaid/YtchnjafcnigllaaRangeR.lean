/- A range over a function whose iterator is itself written with a loop over an iterator: what a round keeps is told of whatever is no cells, too. No program is spoken of. -/
import Derived.RangeFuncWrites
import Derived.RangeFuncNested
import Derived.RangeFuncBound
import Derived.OrdersHeld
import Derived.BigQuiet
import Derived.Deep.QuietTactic
import Derived.TacticsIn
import Derived.TacticsInMore
import Derived.RangeFuncCalls
namespace Go.Proofs.Ytchnjafcnigllaa
open Go.RowKit

/-- What is said stays as the first cells of the blocks bs are written. -/
def AbidesCells {β : Type} (bs : List Nat) (J : β → World → Prop) : Prop := ∀ s W r v, r ∈ bs → J s W → J s (W.setCell ⟨r, 0, none⟩ v)
theorem AbidesCells.nil {β : Type} (J : β → World → Prop) : AbidesCells [] J := fun _ _ _ _ h _ => by cases h

/-- An iterator's promise, for rounds that keep what lay below n0, and whatever is no cells that was made since the iterator began, the first m blocks that were made since, and the blocks bs, to whose first cells the iterator writes. -/
def SeqO {α : Type} (F : Fence) (n : Nat) (P : Program) (g : Nat) (lb : Array Value) (encs : α → Array Value) (n0 m : Nat) (bs : List Nat) (S Sp : List α → Prop) (w : World) : Prop :=
  ∀ (l : Nat) (J Jx : List α → World → Prop) (W : World), Below w.heap.size w W → OwnFrom W.heap.size J → OwnFrom W.heap.size Jx → AbidesCells bs J → AbidesCells bs Jx →
    (∀ pre x W1, J pre W1 → Sp (pre ++ [x]) → W.heap.size + m ≤ W1.heap.size → YieldAt F (n - 1) P l (encs x) W1 fun e W' =>
      KeepsFrom W.heap.size W1 W' ∧ ((e = .returned (.bool true) ∧ J (pre ++ [x]) W' ∧ Below n0 W1 W' ∧ (∀ k, W.heap.size ≤ k → k < W.heap.size + m → W'.heap[k]? = W1.heap[k]?) ∧ ∀ k, k ∈ bs → W'.heap[k]? = W1.heap[k]?) ∨ (e = .returned (.bool false) ∧ Jx (pre ++ [x]) W'))) →
    J [] W →
    CallsIn F n P g (#[.func (.yield l) #[] #[]] ++ lb) W fun e W' => (∃ v, e = .returned v) ∧ ((∃ xs, S xs ∧ J xs W') ∨ (∃ pre, Sp pre ∧ Jx pre W'))

theorem OwnFrom.le {β : Type} {B B' : Nat} {I : β → World → Prop} (h : OwnFrom B I) (hB : B ≤ B') : OwnFrom B' I := fun s W W' row hs hg hr =>
  h s W W' row hs hg fun r e => ⟨Nat.le_trans hB (hr r e).1, (hr r e).2⟩
theorem keeps_block {W W' : World} {row : Option Nat} {B k : Nat} {o : Obj} (hg : W.grownBy W' row) (hr : ∀ r, row = some r → B ≤ r ∧ ∃ o : Obj, W.heap[r]? = some o ∧ o.isCells = false) (hk : k < B) (h : W.heap[k]? = some o) : W'.heap[k]? = some o := by
  have hlt := (Array.getElem?_eq_some_iff.1 h).1
  exact (hg.block k hlt fun e => by have := (hr k e.symm).1; omega).trans h
theorem keepsFrom_put {W : World} {l B : Nat} {o : Obj} (hl : l < B) : KeepsFrom B W (W.putObj l o) :=
  ⟨(grownBy_putObj' W l o).size, fun k _ hB hk _ => (World.putObj_heap_other (by omega)).trans hk⟩
theorem KeepsFrom.raise {B B' : Nat} {W W' : World} (h : KeepsFrom B W W') (hB : B ≤ B') : KeepsFrom B' W W' := ⟨h.size, fun k o hk h1 h2 => h.same k o (Nat.le_trans hB hk) h1 h2⟩

/-- The record of a loop, in each of its states. -/
def recO (a : Act) (ps : Array Tmp) (assign body : Code) (fn dk : Nat) (st : LoopState) (pe : Option Code) : Loop :=
  { state := st, pending := pe, fn, tmps := a.tmps, params := ps, assign, body, defers := dk }

/-- What a round that goes on keeps: what lay below n0; the iterator's own first m blocks. -/
def KpO (n0 m : Nat) (bs : List Nat) (w A B : World) : Prop := Below n0 A B ∧ (∀ k, w.heap.size + 2 ≤ k → k < w.heap.size + 2 + m → B.heap[k]? = A.heap[k]?) ∧ ∀ k, k ∈ bs → B.heap[k]? = A.heap[k]?
theorem setCell_heap {W : World} {r k : Nat} {v : Value} (h : k ≠ r) : (W.setCell ⟨r, 0, none⟩ v).heap[k]? = W.heap[k]? := Below.heap_setCell W ⟨r, 0, none⟩ v k h

abbrev startO (w : World) (r : Loop) : World := (w.alloc (.deferred (some []))).alloc (.loop r)

theorem rangeO {α : Type} {F : Fence} {n : Nat} {P : Program} {g : Operand} {ps : Array Tmp} {assign body : Code} {Q : Exit → Act → World → Prop} {a : Act} {w : World}
    (hro : F.round = none) (h1 : 1 ≤ n) {gf : Nat} {lb : Array Value} (hg : a.eval g = .func (.func gf) #[] lb) (hFg : F.fn gf) (eg : ∀ args w, (callFunc gf args).run P w = .ok (.enter gf args) w)
    {encs : α → Array Value} {n0 m : Nat} {bs : List Nat} {S Sp : List α → Prop} {w0 : World} (hseq : SeqO F (n - 1) P gf lb encs n0 m bs S Sp w0) (hbs : ∀ r, r ∈ bs → r < w.heap.size)
    (hn0 : n0 ≤ w.heap.size) (hb0 : Below w0.heap.size w0 w) (hps : ∀ x, (encs x).size = ps.size)
    (I : List α → World → Prop) (Ix : Code → List α → World → Prop) (hI : OwnFrom w.heap.size I) (hIx : ∀ c, OwnFrom w.heap.size (Ix c)) (hIb : AbidesCells bs I) (hIxb : ∀ c, AbidesCells bs (Ix c)) (h0 : I [] w) (a₁ : α → Act)
    (hassign : ∀ (l : Nat) (x : α) (W : World) (K : Act → World → Prop), K (a₁ x) W →
      assign.wpIn (F.inRound l) (n - 1 - 1) P (Exit.then K (fun _ _ _ => False)) { tmps := (ps.zip (encs x)).foldl (fun t (p, v) => t.setIfInBounds p v) a.tmps, defers := [] } W)
    (hbody : ∀ (l : Nat) (pre : List α) (x : α) (W : World), I pre W → Sp (pre ++ [x]) → w.heap.size + 2 + m ≤ W.heap.size → body.wpIn (F.inRound l) (n - 1 - 1) P (ownPostG w.heap.size (KpO n0 m bs w) I Ix (pre ++ [x]) W) (a₁ x) W)
    (hdone : ∀ (D : Nat) (xs : List α) (W : World), w.heap.size ≤ D → S xs → I xs W → W.heap[D]? = some (.deferred (some [])) → Q .normal { a with defers := { target := .collected D, args := #[] } :: a.defers } W)
    (hstop : ∀ (D : Nat) (c : Code) (pre : List α) (W : World), w.heap.size ≤ D → Sp pre → Ix c pre W → W.heap[D]? = some (.deferred (some [])) → c.wpIn F n P Q { a with defers := { target := .collected D, args := #[] } :: a.defers } W) :
    (Code.rangeFunc g ps assign body).wpIn F n P Q a w := by
  apply wpIn_rangeFunc
  intro fn hfn
  rw [hro]
  have hW1 : ∃ W1, startO w (recO a ps assign body fn w.heap.size .ready none) = W1 := ⟨_, rfl⟩
  obtain ⟨W1, hW1⟩ := hW1
  have hz : W1.heap.size = w.heap.size + 2 := by rw [← hW1]; simp
  have hR : W1.heap[w.heap.size + 1]? = some (.loop (recO a ps assign body fn w.heap.size .ready none)) := by
    have := World.alloc_heap_new (w.alloc (.deferred (some []))) (.loop (recO a ps assign body fn w.heap.size .ready none))
    rw [World.size_alloc] at this; rw [← hW1]; exact this
  have hD : W1.heap[w.heap.size]? = some (.deferred (some [])) := by
    rw [← hW1]; exact (Below.heap_alloc _ _ _ (by simp)).trans (World.alloc_heap_new w _)
  have hstart : I [] W1 := by rw [← hW1]; exact hI.alloc _ (hI.alloc _ h0)
  have hbel : Below w0.heap.size w0 W1 := by rw [← hW1]; exact (hb0.alloc hb0.size _).alloc (by have := hb0.size; simp; omega) _
  refine ⟨w.heap.size + 1, [{ target := .collected w.heap.size, args := #[] }], W1, { target := .fn (.func gf) lb, args := #[.func (.yield (w.heap.size + 1)) #[] #[]] }, W1, gf,
    #[.func (.yield (w.heap.size + 1)) #[] #[]] ++ lb, W1, by rw [← hW1]; exact run_enterLoop_outer _ _ _ _ _, ?_, ?_, ?_, fun _ => h1, ?_⟩
  · simp only [resolve, hg]
    simp [go_sem]
  · intro f' hf'; simp [Target.leads] at hf'; subst hf'; exact hFg
  · simp [invoke, go_sem, eg]
  -- the iterator, at the caller's own invariant with the two blocks of the loop beside it
  have J1 : OwnFrom W1.heap.size (fun pre W => I pre W ∧ W.heap[w.heap.size + 1]? = some (.loop (recO a ps assign body fn w.heap.size .ready none)) ∧ W.heap[w.heap.size]? = some (.deferred (some []))) :=
    fun s A B row hs hg' hr => ⟨OwnFrom.le hI (by omega) s A B row hs.1 hg' hr, keeps_block hg' hr (by omega) hs.2.1, keeps_block hg' hr (by omega) hs.2.2⟩
  have J2 : OwnFrom W1.heap.size (fun pre W => ∃ c, Ix c pre W ∧ W.heap[w.heap.size + 1]? = some (.loop (recO a ps assign body fn w.heap.size .done (some c))) ∧ W.heap[w.heap.size]? = some (.deferred (some []))) :=
    fun s A B row ⟨c, hc, hl, hk⟩ hg' hr => ⟨c, OwnFrom.le (hIx c) (by omega) s A B row hc hg' hr, keeps_block hg' hr (by omega) hl, keeps_block hg' hr (by omega) hk⟩
  have J3 : AbidesCells bs (fun pre W => I pre W ∧ W.heap[w.heap.size + 1]? = some (.loop (recO a ps assign body fn w.heap.size .ready none)) ∧ W.heap[w.heap.size]? = some (.deferred (some []))) :=
    fun s A r v hr ⟨h1, h2, h3⟩ => ⟨hIb s A r v hr h1, (setCell_heap (by have := hbs r hr; omega)).trans h2, (setCell_heap (by have := hbs r hr; omega)).trans h3⟩
  have J4 : AbidesCells bs (fun pre W => ∃ c, Ix c pre W ∧ W.heap[w.heap.size + 1]? = some (.loop (recO a ps assign body fn w.heap.size .done (some c))) ∧ W.heap[w.heap.size]? = some (.deferred (some []))) :=
    fun s A r v hr ⟨c, h1, h2, h3⟩ => ⟨c, hIxb c s A r v hr h1, (setCell_heap (by have := hbs r hr; omega)).trans h2, (setCell_heap (by have := hbs r hr; omega)).trans h3⟩
  refine (hseq (w.heap.size + 1) _ _ W1 hbel J1 J2 J3 J4 ?_ ⟨hstart, hR, hD⟩).mono ?_
  · rintro pre x W ⟨hi, hl, hk⟩ hlen hmW
    have hlt := (Array.getElem?_eq_some_iff.1 hl).1
    have hy := run_yield (P := P) (args := encs x) hl (hps x)
    have hkp : ∀ (V : World) (o : Obj), w.heap.size + 1 < V.heap.size → Below n0 V (V.putObj (w.heap.size + 1) o) := fun V o hV => (Below.refl n0 V).grown (grownBy_putObj' V _ o) (by omega) (fun k e => by cases e; omega)
    refine ⟨fn, _, assign, body, hy, roundIn_of_wpIn hfn (hassign _ x W _ ⟨_, run_beginRound hl rfl, ?_⟩)⟩
    obtain ⟨V, hV⟩ : ∃ V, W.putObj (w.heap.size + 1) (.loop { recO a ps assign body fn w.heap.size .ready none with state := .busy }) = V := ⟨_, rfl⟩
    have hlV : V.heap[w.heap.size + 1]? = some (.loop { recO a ps assign body fn w.heap.size .ready none with state := .busy }) := by rw [← hV]; exact World.putObj_heap_same hlt
    have hkV : V.heap[w.heap.size]? = some (.deferred (some [])) := by rw [← hV]; exact (World.putObj_heap_other (by omega)).trans hk
    have hiV : I pre V := by rw [← hV]; exact hI.putObj _ hi (by omega) hl rfl
    have hKV : KeepsFrom W1.heap.size W V := by rw [← hV]; exact keepsFrom_put (by omega)
    have hBV : Below n0 W V := by rw [← hV]; exact hkp _ _ hlt
    have hzV : V.heap.size = W.heap.size := by rw [← hV]; simp
    have hPV : ∀ k, k ≠ w.heap.size + 1 → V.heap[k]? = W.heap[k]? := fun k hk => by rw [← hV]; exact World.putObj_heap_other hk
    rw [hV]
    -- the round's end, by whatever jump
    have fin : ∀ (j : Option Code) (U : World), KeepsFrom w.heap.size V U → ∃ U', (Instr.endRound (w.heap.size + 1) j).run P U = .ok (.bool j.isNone) U' ∧
        U' = U.putObj (w.heap.size + 1) (.loop (recO a ps assign body fn w.heap.size (if j.isNone then .ready else .done) j)) ∧
        U.heap[w.heap.size + 1]? = some (.loop { recO a ps assign body fn w.heap.size .ready none with state := .busy }) ∧
        U'.heap[w.heap.size + 1]? = some (.loop (recO a ps assign body fn w.heap.size (if j.isNone then .ready else .done) j)) ∧
        U'.heap[w.heap.size]? = some (.deferred (some [])) := fun j U hU => by
      have hlU := hU.same _ _ (by omega) hlV rfl
      have hkU := hU.same _ _ (Nat.le_refl _) hkV rfl
      exact ⟨_, run_endRound j hlU, rfl, hlU, World.putObj_heap_same (Array.getElem?_eq_some_iff.1 hlU).1, (World.putObj_heap_other (by omega)).trans hkU⟩
    refine wpIn_mono (hbody _ pre x V hiV hlen (by omega)) ?_
    rintro e a3 U hp
    cases e with
    | normal =>
      obtain ⟨h2, h3, h4⟩ := hp
      obtain ⟨U', hr, rfl, e1, e2, e3⟩ := fin none U h2
      exact ⟨_, _, hr, (hKV.trans (KeepsFrom.raise h2 (by omega))).trans (keepsFrom_put (by omega)), .inl ⟨rfl, ⟨hI.putObj _ h4 (by omega) e1 rfl, e2, e3⟩, (hBV.trans h3.1).trans (hkp _ _ (Array.getElem?_eq_some_iff.1 e1).1), (fun k k1 k2 => (World.putObj_heap_other (by omega)).trans ((h3.2.1 k (by omega) (by omega)).trans (hPV k (by omega)))), fun k k1 => (World.putObj_heap_other (by have := hbs k k1; omega)).trans ((h3.2.2 k k1).trans (hPV k (by have := hbs k k1; omega)))⟩⟩
    | ret =>
      obtain ⟨h2, h4⟩ := hp
      obtain ⟨U', hr, rfl, e1, e2, e3⟩ := fin (some .ret) U h2
      exact ⟨_, _, hr, (hKV.trans (KeepsFrom.raise h2 (by omega))).trans (keepsFrom_put (by omega)), .inr ⟨rfl, .ret, (hIx _).putObj _ h4 (by omega) e1 rfl, e2, e3⟩⟩
    | exit id =>
      obtain ⟨h2, h4⟩ := hp
      obtain ⟨U', hr, rfl, e1, e2, e3⟩ := fin (some (.exit id)) U h2
      exact ⟨_, _, hr, (hKV.trans (KeepsFrom.raise h2 (by omega))).trans (keepsFrom_put (by omega)), .inr ⟨rfl, .exit id, (hIx _).putObj _ h4 (by omega) e1 rfl, e2, e3⟩⟩
    | goto t =>
      obtain ⟨h2, h4⟩ := hp
      obtain ⟨U', hr, rfl, e1, e2, e3⟩ := fin (some (.goto t)) U h2
      exact ⟨_, _, hr, (hKV.trans (KeepsFrom.raise h2 (by omega))).trans (keepsFrom_put (by omega)), .inr ⟨rfl, .goto t, (hIx _).putObj _ h4 (by omega) e1 rfl, e2, e3⟩⟩
    | panic ch => exact hp.elim
    | outgrown => exact hp.elim
  · rintro e W2 ⟨⟨v, rfl⟩, (⟨xs, hS, hi, hl, hk⟩ | ⟨pre, hSp, c, hi, hl, hk⟩)⟩
    · exact ⟨none, _, run_endLoop hl (by simp [recO]), hdone _ xs _ (Nat.le_refl _) hS (hI.putObj _ hi (by omega) hl rfl) ((World.putObj_heap_other (by omega)).trans hk)⟩
    · exact ⟨some c, _, run_endLoop hl (by simp [recO]), hstop _ c pre _ (Nat.le_refl _) hSp ((hIx c).putObj _ hi (by omega) hl rfl) ((World.putObj_heap_other (by omega)).trans hk)⟩

end Go.Proofs.Ytchnjafcnigllaa

/- A range over a function, what is handed to a round being told of the world that it is handed in. No program is spoken of. -/
namespace Go.Proofs.Ytchnjafcnigllaa
open Go.RowKit

/-- An iterator's promise, for rounds that keep what lay below n0, and whatever is no cells that was made since the iterator began, the first m blocks that were made since, and the blocks bs, to whose first cells the iterator writes. -/
def SeqR {α : Type} (F : Fence) (n : Nat) (P : Program) (g : Nat) (lb : Array Value) (encs : α → Array Value) (n0 m : Nat) (bs : List Nat) (S Sp : List α → Prop) (Ry : α → World → Prop) (w : World) : Prop :=
  ∀ (l : Nat) (J Jx : List α → World → Prop) (W : World), Below w.heap.size w W → OwnFrom W.heap.size J → OwnFrom W.heap.size Jx → AbidesCells bs J → AbidesCells bs Jx →
    (∀ pre x W1, J pre W1 → Sp (pre ++ [x]) → W.heap.size + m ≤ W1.heap.size → Ry x W1 → YieldAt F (n - 1) P l (encs x) W1 fun e W' =>
      KeepsFrom W.heap.size W1 W' ∧ ((e = .returned (.bool true) ∧ J (pre ++ [x]) W' ∧ Below n0 W1 W' ∧ (∀ k, W.heap.size ≤ k → k < W.heap.size + m → W'.heap[k]? = W1.heap[k]?) ∧ ∀ k, k ∈ bs → W'.heap[k]? = W1.heap[k]?) ∨ (e = .returned (.bool false) ∧ Jx (pre ++ [x]) W'))) →
    J [] W →
    CallsIn F n P g (#[.func (.yield l) #[] #[]] ++ lb) W fun e W' => (∃ v, e = .returned v) ∧ ((∃ xs, S xs ∧ J xs W') ∨ (∃ pre, Sp pre ∧ Jx pre W'))


theorem rangeR {α : Type} {F : Fence} {n : Nat} {P : Program} {g : Operand} {ps : Array Tmp} {assign body : Code} {Q : Exit → Act → World → Prop} {a : Act} {w : World}
    (hro : F.round = none) (h1 : 1 ≤ n) {gf : Nat} {lb : Array Value} (hg : a.eval g = .func (.func gf) #[] lb) (hFg : F.fn gf) (eg : ∀ args w, (callFunc gf args).run P w = .ok (.enter gf args) w)
    {encs : α → Array Value} {n0 m : Nat} {bs : List Nat} {S Sp : List α → Prop} {Ry : α → World → Prop} {w0 : World} (hseq : SeqR F (n - 1) P gf lb encs n0 m bs S Sp Ry w0) (hRy : ∀ x W l o r, W.heap[l]? = some (.loop r) → Ry x W → Ry x (W.putObj l o)) (hbs : ∀ r, r ∈ bs → r < w.heap.size)
    (hn0 : n0 ≤ w.heap.size) (hb0 : Below w0.heap.size w0 w) (hps : ∀ x, (encs x).size = ps.size)
    (I : List α → World → Prop) (Ix : Code → List α → World → Prop) (hI : OwnFrom w.heap.size I) (hIx : ∀ c, OwnFrom w.heap.size (Ix c)) (hIb : AbidesCells bs I) (hIxb : ∀ c, AbidesCells bs (Ix c)) (h0 : I [] w) (a₁ : α → Act)
    (hassign : ∀ (l : Nat) (x : α) (W : World) (K : Act → World → Prop), K (a₁ x) W →
      assign.wpIn (F.inRound l) (n - 1 - 1) P (Exit.then K (fun _ _ _ => False)) { tmps := (ps.zip (encs x)).foldl (fun t (p, v) => t.setIfInBounds p v) a.tmps, defers := [] } W)
    (hbody : ∀ (l : Nat) (pre : List α) (x : α) (W : World), I pre W → Sp (pre ++ [x]) → w.heap.size + 2 + m ≤ W.heap.size → Ry x W → body.wpIn (F.inRound l) (n - 1 - 1) P (ownPostG w.heap.size (KpO n0 m bs w) I Ix (pre ++ [x]) W) (a₁ x) W)
    (hdone : ∀ (D : Nat) (xs : List α) (W : World), w.heap.size ≤ D → S xs → I xs W → W.heap[D]? = some (.deferred (some [])) → Q .normal { a with defers := { target := .collected D, args := #[] } :: a.defers } W)
    (hstop : ∀ (D : Nat) (c : Code) (pre : List α) (W : World), w.heap.size ≤ D → Sp pre → Ix c pre W → W.heap[D]? = some (.deferred (some [])) → c.wpIn F n P Q { a with defers := { target := .collected D, args := #[] } :: a.defers } W) :
    (Code.rangeFunc g ps assign body).wpIn F n P Q a w := by
  apply wpIn_rangeFunc
  intro fn hfn
  rw [hro]
  have hW1 : ∃ W1, startO w (recO a ps assign body fn w.heap.size .ready none) = W1 := ⟨_, rfl⟩
  obtain ⟨W1, hW1⟩ := hW1
  have hz : W1.heap.size = w.heap.size + 2 := by rw [← hW1]; simp
  have hR : W1.heap[w.heap.size + 1]? = some (.loop (recO a ps assign body fn w.heap.size .ready none)) := by
    have := World.alloc_heap_new (w.alloc (.deferred (some []))) (.loop (recO a ps assign body fn w.heap.size .ready none))
    rw [World.size_alloc] at this; rw [← hW1]; exact this
  have hD : W1.heap[w.heap.size]? = some (.deferred (some [])) := by
    rw [← hW1]; exact (Below.heap_alloc _ _ _ (by simp)).trans (World.alloc_heap_new w _)
  have hstart : I [] W1 := by rw [← hW1]; exact hI.alloc _ (hI.alloc _ h0)
  have hbel : Below w0.heap.size w0 W1 := by rw [← hW1]; exact (hb0.alloc hb0.size _).alloc (by have := hb0.size; simp; omega) _
  refine ⟨w.heap.size + 1, [{ target := .collected w.heap.size, args := #[] }], W1, { target := .fn (.func gf) lb, args := #[.func (.yield (w.heap.size + 1)) #[] #[]] }, W1, gf,
    #[.func (.yield (w.heap.size + 1)) #[] #[]] ++ lb, W1, by rw [← hW1]; exact run_enterLoop_outer _ _ _ _ _, ?_, ?_, ?_, fun _ => h1, ?_⟩
  · simp only [resolve, hg]
    simp [go_sem]
  · intro f' hf'; simp [Target.leads] at hf'; subst hf'; exact hFg
  · simp [invoke, go_sem, eg]
  -- the iterator, at the caller's own invariant with the two blocks of the loop beside it
  have J1 : OwnFrom W1.heap.size (fun pre W => I pre W ∧ W.heap[w.heap.size + 1]? = some (.loop (recO a ps assign body fn w.heap.size .ready none)) ∧ W.heap[w.heap.size]? = some (.deferred (some []))) :=
    fun s A B row hs hg' hr => ⟨OwnFrom.le hI (by omega) s A B row hs.1 hg' hr, keeps_block hg' hr (by omega) hs.2.1, keeps_block hg' hr (by omega) hs.2.2⟩
  have J2 : OwnFrom W1.heap.size (fun pre W => ∃ c, Ix c pre W ∧ W.heap[w.heap.size + 1]? = some (.loop (recO a ps assign body fn w.heap.size .done (some c))) ∧ W.heap[w.heap.size]? = some (.deferred (some []))) :=
    fun s A B row ⟨c, hc, hl, hk⟩ hg' hr => ⟨c, OwnFrom.le (hIx c) (by omega) s A B row hc hg' hr, keeps_block hg' hr (by omega) hl, keeps_block hg' hr (by omega) hk⟩
  have J3 : AbidesCells bs (fun pre W => I pre W ∧ W.heap[w.heap.size + 1]? = some (.loop (recO a ps assign body fn w.heap.size .ready none)) ∧ W.heap[w.heap.size]? = some (.deferred (some []))) :=
    fun s A r v hr ⟨h1, h2, h3⟩ => ⟨hIb s A r v hr h1, (setCell_heap (by have := hbs r hr; omega)).trans h2, (setCell_heap (by have := hbs r hr; omega)).trans h3⟩
  have J4 : AbidesCells bs (fun pre W => ∃ c, Ix c pre W ∧ W.heap[w.heap.size + 1]? = some (.loop (recO a ps assign body fn w.heap.size .done (some c))) ∧ W.heap[w.heap.size]? = some (.deferred (some []))) :=
    fun s A r v hr ⟨c, h1, h2, h3⟩ => ⟨c, hIxb c s A r v hr h1, (setCell_heap (by have := hbs r hr; omega)).trans h2, (setCell_heap (by have := hbs r hr; omega)).trans h3⟩
  refine (hseq (w.heap.size + 1) _ _ W1 hbel J1 J2 J3 J4 ?_ ⟨hstart, hR, hD⟩).mono ?_
  · rintro pre x W ⟨hi, hl, hk⟩ hlen hmW hry
    have hlt := (Array.getElem?_eq_some_iff.1 hl).1
    have hy := run_yield (P := P) (args := encs x) hl (hps x)
    have hkp : ∀ (V : World) (o : Obj), w.heap.size + 1 < V.heap.size → Below n0 V (V.putObj (w.heap.size + 1) o) := fun V o hV => (Below.refl n0 V).grown (grownBy_putObj' V _ o) (by omega) (fun k e => by cases e; omega)
    refine ⟨fn, _, assign, body, hy, roundIn_of_wpIn hfn (hassign _ x W _ ⟨_, run_beginRound hl rfl, ?_⟩)⟩
    obtain ⟨V, hV⟩ : ∃ V, W.putObj (w.heap.size + 1) (.loop { recO a ps assign body fn w.heap.size .ready none with state := .busy }) = V := ⟨_, rfl⟩
    have hlV : V.heap[w.heap.size + 1]? = some (.loop { recO a ps assign body fn w.heap.size .ready none with state := .busy }) := by rw [← hV]; exact World.putObj_heap_same hlt
    have hkV : V.heap[w.heap.size]? = some (.deferred (some [])) := by rw [← hV]; exact (World.putObj_heap_other (by omega)).trans hk
    have hiV : I pre V := by rw [← hV]; exact hI.putObj _ hi (by omega) hl rfl
    have hKV : KeepsFrom W1.heap.size W V := by rw [← hV]; exact keepsFrom_put (by omega)
    have hBV : Below n0 W V := by rw [← hV]; exact hkp _ _ hlt
    have hzV : V.heap.size = W.heap.size := by rw [← hV]; simp
    have hPV : ∀ k, k ≠ w.heap.size + 1 → V.heap[k]? = W.heap[k]? := fun k hk => by rw [← hV]; exact World.putObj_heap_other hk
    have hryV : Ry x V := by rw [← hV]; exact hRy x W _ _ _ hl hry
    rw [hV]
    -- the round's end, by whatever jump
    have fin : ∀ (j : Option Code) (U : World), KeepsFrom w.heap.size V U → ∃ U', (Instr.endRound (w.heap.size + 1) j).run P U = .ok (.bool j.isNone) U' ∧
        U' = U.putObj (w.heap.size + 1) (.loop (recO a ps assign body fn w.heap.size (if j.isNone then .ready else .done) j)) ∧
        U.heap[w.heap.size + 1]? = some (.loop { recO a ps assign body fn w.heap.size .ready none with state := .busy }) ∧
        U'.heap[w.heap.size + 1]? = some (.loop (recO a ps assign body fn w.heap.size (if j.isNone then .ready else .done) j)) ∧
        U'.heap[w.heap.size]? = some (.deferred (some [])) := fun j U hU => by
      have hlU := hU.same _ _ (by omega) hlV rfl
      have hkU := hU.same _ _ (Nat.le_refl _) hkV rfl
      exact ⟨_, run_endRound j hlU, rfl, hlU, World.putObj_heap_same (Array.getElem?_eq_some_iff.1 hlU).1, (World.putObj_heap_other (by omega)).trans hkU⟩
    refine wpIn_mono (hbody _ pre x V hiV hlen (by omega) hryV) ?_
    rintro e a3 U hp
    cases e with
    | normal =>
      obtain ⟨h2, h3, h4⟩ := hp
      obtain ⟨U', hr, rfl, e1, e2, e3⟩ := fin none U h2
      exact ⟨_, _, hr, (hKV.trans (KeepsFrom.raise h2 (by omega))).trans (keepsFrom_put (by omega)), .inl ⟨rfl, ⟨hI.putObj _ h4 (by omega) e1 rfl, e2, e3⟩, (hBV.trans h3.1).trans (hkp _ _ (Array.getElem?_eq_some_iff.1 e1).1), (fun k k1 k2 => (World.putObj_heap_other (by omega)).trans ((h3.2.1 k (by omega) (by omega)).trans (hPV k (by omega)))), fun k k1 => (World.putObj_heap_other (by have := hbs k k1; omega)).trans ((h3.2.2 k k1).trans (hPV k (by have := hbs k k1; omega)))⟩⟩
    | ret =>
      obtain ⟨h2, h4⟩ := hp
      obtain ⟨U', hr, rfl, e1, e2, e3⟩ := fin (some .ret) U h2
      exact ⟨_, _, hr, (hKV.trans (KeepsFrom.raise h2 (by omega))).trans (keepsFrom_put (by omega)), .inr ⟨rfl, .ret, (hIx _).putObj _ h4 (by omega) e1 rfl, e2, e3⟩⟩
    | exit id =>
      obtain ⟨h2, h4⟩ := hp
      obtain ⟨U', hr, rfl, e1, e2, e3⟩ := fin (some (.exit id)) U h2
      exact ⟨_, _, hr, (hKV.trans (KeepsFrom.raise h2 (by omega))).trans (keepsFrom_put (by omega)), .inr ⟨rfl, .exit id, (hIx _).putObj _ h4 (by omega) e1 rfl, e2, e3⟩⟩
    | goto t =>
      obtain ⟨h2, h4⟩ := hp
      obtain ⟨U', hr, rfl, e1, e2, e3⟩ := fin (some (.goto t)) U h2
      exact ⟨_, _, hr, (hKV.trans (KeepsFrom.raise h2 (by omega))).trans (keepsFrom_put (by omega)), .inr ⟨rfl, .goto t, (hIx _).putObj _ h4 (by omega) e1 rfl, e2, e3⟩⟩
    | panic ch => exact hp.elim
    | outgrown => exact hp.elim
  · rintro e W2 ⟨⟨v, rfl⟩, (⟨xs, hS, hi, hl, hk⟩ | ⟨pre, hSp, c, hi, hl, hk⟩)⟩
    · exact ⟨none, _, run_endLoop hl (by simp [recO]), hdone _ xs _ (Nat.le_refl _) hS (hI.putObj _ hi (by omega) hl rfl) ((World.putObj_heap_other (by omega)).trans hk)⟩
    · exact ⟨some c, _, run_endLoop hl (by simp [recO]), hstop _ c pre _ (Nat.le_refl _) hSp ((hIx c).putObj _ hi (by omega) hl rfl) ((World.putObj_heap_other (by omega)).trans hk)⟩

/-- The same, where the loop's variables lie in memory. -/
theorem rangeS {α : Type} {F : Fence} {n : Nat} {P : Program} {g : Operand} {ps : Array Tmp} {assign body : Code} {Q : Exit → Act → World → Prop} {a : Act} {w : World}
    (hro : F.round = none) (h1 : 1 ≤ n) {gf : Nat} {lb : Array Value} (hg : a.eval g = .func (.func gf) #[] lb) (hFg : F.fn gf) (eg : ∀ args w, (callFunc gf args).run P w = .ok (.enter gf args) w)
    {encs : α → Array Value} {n0 m : Nat} {bs : List Nat} {S Sp : List α → Prop} {Ry : α → World → Prop} {w0 : World} (hseq : SeqR F (n - 1) P gf lb encs n0 m bs S Sp Ry w0) (Ax : α → Act → World → Prop) (hAx : ∀ x a' W l o r, W.heap[l]? = some (.loop r) → Ax x a' W → Ax x a' (W.putObj l o)) (hbs : ∀ r, r ∈ bs → r < w.heap.size)
    (hn0 : n0 ≤ w.heap.size) (hb0 : Below w0.heap.size w0 w) (hps : ∀ x, (encs x).size = ps.size)
    (I : List α → World → Prop) (Ix : Code → List α → World → Prop) (hI : OwnFrom w.heap.size I) (hIx : ∀ c, OwnFrom w.heap.size (Ix c)) (hIb : AbidesCells bs I) (hIxb : ∀ c, AbidesCells bs (Ix c)) (h0 : I [] w)
    (hassign : ∀ (l : Nat) (pre : List α) (x : α) (W : World) (K : Act → World → Prop), I pre W → Ry x W → w.heap.size + 2 + m ≤ W.heap.size → (∀ a' W', KeepsFrom w.heap.size W W' → KpO n0 m bs w W W' → I pre W' → Ax x a' W' → K a' W') →
      assign.wpIn (F.inRound l) (n - 1 - 1) P (Exit.then K (fun _ _ _ => False)) { tmps := (ps.zip (encs x)).foldl (fun t (p, v) => t.setIfInBounds p v) a.tmps, defers := [] } W)
    (hbody : ∀ (l : Nat) (pre : List α) (x : α) (a' : Act) (W : World), I pre W → Sp (pre ++ [x]) → w.heap.size + 2 + m ≤ W.heap.size → Ax x a' W → body.wpIn (F.inRound l) (n - 1 - 1) P (ownPostG w.heap.size (KpO n0 m bs w) I Ix (pre ++ [x]) W) a' W)
    (hdone : ∀ (D : Nat) (xs : List α) (W : World), w.heap.size ≤ D → S xs → I xs W → W.heap[D]? = some (.deferred (some [])) → Q .normal { a with defers := { target := .collected D, args := #[] } :: a.defers } W)
    (hstop : ∀ (D : Nat) (c : Code) (pre : List α) (W : World), w.heap.size ≤ D → Sp pre → Ix c pre W → W.heap[D]? = some (.deferred (some [])) → c.wpIn F n P Q { a with defers := { target := .collected D, args := #[] } :: a.defers } W) :
    (Code.rangeFunc g ps assign body).wpIn F n P Q a w := by
  apply wpIn_rangeFunc
  intro fn hfn
  rw [hro]
  have hW1 : ∃ W1, startO w (recO a ps assign body fn w.heap.size .ready none) = W1 := ⟨_, rfl⟩
  obtain ⟨W1, hW1⟩ := hW1
  have hz : W1.heap.size = w.heap.size + 2 := by rw [← hW1]; simp
  have hR : W1.heap[w.heap.size + 1]? = some (.loop (recO a ps assign body fn w.heap.size .ready none)) := by
    have := World.alloc_heap_new (w.alloc (.deferred (some []))) (.loop (recO a ps assign body fn w.heap.size .ready none))
    rw [World.size_alloc] at this; rw [← hW1]; exact this
  have hD : W1.heap[w.heap.size]? = some (.deferred (some [])) := by
    rw [← hW1]; exact (Below.heap_alloc _ _ _ (by simp)).trans (World.alloc_heap_new w _)
  have hstart : I [] W1 := by rw [← hW1]; exact hI.alloc _ (hI.alloc _ h0)
  have hbel : Below w0.heap.size w0 W1 := by rw [← hW1]; exact (hb0.alloc hb0.size _).alloc (by have := hb0.size; simp; omega) _
  refine ⟨w.heap.size + 1, [{ target := .collected w.heap.size, args := #[] }], W1, { target := .fn (.func gf) lb, args := #[.func (.yield (w.heap.size + 1)) #[] #[]] }, W1, gf,
    #[.func (.yield (w.heap.size + 1)) #[] #[]] ++ lb, W1, by rw [← hW1]; exact run_enterLoop_outer _ _ _ _ _, ?_, ?_, ?_, fun _ => h1, ?_⟩
  · simp only [resolve, hg]
    simp [go_sem]
  · intro f' hf'; simp [Target.leads] at hf'; subst hf'; exact hFg
  · simp [invoke, go_sem, eg]
  -- the iterator, at the caller's own invariant with the two blocks of the loop beside it
  have J1 : OwnFrom W1.heap.size (fun pre W => I pre W ∧ W.heap[w.heap.size + 1]? = some (.loop (recO a ps assign body fn w.heap.size .ready none)) ∧ W.heap[w.heap.size]? = some (.deferred (some []))) :=
    fun s A B row hs hg' hr => ⟨OwnFrom.le hI (by omega) s A B row hs.1 hg' hr, keeps_block hg' hr (by omega) hs.2.1, keeps_block hg' hr (by omega) hs.2.2⟩
  have J2 : OwnFrom W1.heap.size (fun pre W => ∃ c, Ix c pre W ∧ W.heap[w.heap.size + 1]? = some (.loop (recO a ps assign body fn w.heap.size .done (some c))) ∧ W.heap[w.heap.size]? = some (.deferred (some []))) :=
    fun s A B row ⟨c, hc, hl, hk⟩ hg' hr => ⟨c, OwnFrom.le (hIx c) (by omega) s A B row hc hg' hr, keeps_block hg' hr (by omega) hl, keeps_block hg' hr (by omega) hk⟩
  have J3 : AbidesCells bs (fun pre W => I pre W ∧ W.heap[w.heap.size + 1]? = some (.loop (recO a ps assign body fn w.heap.size .ready none)) ∧ W.heap[w.heap.size]? = some (.deferred (some []))) :=
    fun s A r v hr ⟨h1, h2, h3⟩ => ⟨hIb s A r v hr h1, (setCell_heap (by have := hbs r hr; omega)).trans h2, (setCell_heap (by have := hbs r hr; omega)).trans h3⟩
  have J4 : AbidesCells bs (fun pre W => ∃ c, Ix c pre W ∧ W.heap[w.heap.size + 1]? = some (.loop (recO a ps assign body fn w.heap.size .done (some c))) ∧ W.heap[w.heap.size]? = some (.deferred (some []))) :=
    fun s A r v hr ⟨c, h1, h2, h3⟩ => ⟨c, hIxb c s A r v hr h1, (setCell_heap (by have := hbs r hr; omega)).trans h2, (setCell_heap (by have := hbs r hr; omega)).trans h3⟩
  refine (hseq (w.heap.size + 1) _ _ W1 hbel J1 J2 J3 J4 ?_ ⟨hstart, hR, hD⟩).mono ?_
  · rintro pre x W ⟨hi, hl, hk⟩ hlen hmW hry
    have hlt := (Array.getElem?_eq_some_iff.1 hl).1
    have hy := run_yield (P := P) (args := encs x) hl (hps x)
    have hkp : ∀ (V : World) (o : Obj), w.heap.size + 1 < V.heap.size → Below n0 V (V.putObj (w.heap.size + 1) o) := fun V o hV => (Below.refl n0 V).grown (grownBy_putObj' V _ o) (by omega) (fun k e => by cases e; omega)
    refine ⟨fn, _, assign, body, hy, roundIn_of_wpIn hfn (hassign _ pre x W _ hi hry (by omega) ?_)⟩
    intro a' WA hKA hKpA hiA haxA
    have hlA := hKA.same _ _ (by omega) hl rfl
    have hkA := hKA.same _ _ (Nat.le_refl _) hk rfl
    have hzA := hKA.size
    have hltA := (Array.getElem?_eq_some_iff.1 hlA).1
    refine ⟨_, run_beginRound hlA rfl, ?_⟩
    obtain ⟨V, hV⟩ : ∃ V, WA.putObj (w.heap.size + 1) (.loop { recO a ps assign body fn w.heap.size .ready none with state := .busy }) = V := ⟨_, rfl⟩
    have hlV : V.heap[w.heap.size + 1]? = some (.loop { recO a ps assign body fn w.heap.size .ready none with state := .busy }) := by rw [← hV]; exact World.putObj_heap_same hltA
    have hkV : V.heap[w.heap.size]? = some (.deferred (some [])) := by rw [← hV]; exact (World.putObj_heap_other (by omega)).trans hkA
    have hiV : I pre V := by rw [← hV]; exact hI.putObj _ hiA (by omega) hlA rfl
    have hKV : KeepsFrom W1.heap.size W V := by rw [← hV]; exact (KeepsFrom.raise hKA (by omega)).trans (keepsFrom_put (by omega))
    have hBV : Below n0 W V := by rw [← hV]; exact hKpA.1.trans (hkp _ _ hltA)
    have hzV : V.heap.size = WA.heap.size := by rw [← hV]; simp
    have hPV : ∀ k, k ≠ w.heap.size + 1 → V.heap[k]? = WA.heap[k]? := fun k hk => by rw [← hV]; exact World.putObj_heap_other hk
    have hryV : Ax x a' V := by rw [← hV]; exact hAx x a' WA _ _ _ hlA haxA
    rw [hV]
    -- the round's end, by whatever jump
    have fin : ∀ (j : Option Code) (U : World), KeepsFrom w.heap.size V U → ∃ U', (Instr.endRound (w.heap.size + 1) j).run P U = .ok (.bool j.isNone) U' ∧
        U' = U.putObj (w.heap.size + 1) (.loop (recO a ps assign body fn w.heap.size (if j.isNone then .ready else .done) j)) ∧
        U.heap[w.heap.size + 1]? = some (.loop { recO a ps assign body fn w.heap.size .ready none with state := .busy }) ∧
        U'.heap[w.heap.size + 1]? = some (.loop (recO a ps assign body fn w.heap.size (if j.isNone then .ready else .done) j)) ∧
        U'.heap[w.heap.size]? = some (.deferred (some [])) := fun j U hU => by
      have hlU := hU.same _ _ (by omega) hlV rfl
      have hkU := hU.same _ _ (Nat.le_refl _) hkV rfl
      exact ⟨_, run_endRound j hlU, rfl, hlU, World.putObj_heap_same (Array.getElem?_eq_some_iff.1 hlU).1, (World.putObj_heap_other (by omega)).trans hkU⟩
    refine wpIn_mono (hbody _ pre x a' V hiV hlen (by omega) hryV) ?_
    rintro e a3 U hp
    cases e with
    | normal =>
      obtain ⟨h2, h3, h4⟩ := hp
      obtain ⟨U', hr, rfl, e1, e2, e3⟩ := fin none U h2
      exact ⟨_, _, hr, (hKV.trans (KeepsFrom.raise h2 (by omega))).trans (keepsFrom_put (by omega)), .inl ⟨rfl, ⟨hI.putObj _ h4 (by omega) e1 rfl, e2, e3⟩, (hBV.trans h3.1).trans (hkp _ _ (Array.getElem?_eq_some_iff.1 e1).1), (fun k k1 k2 => (World.putObj_heap_other (by omega)).trans ((h3.2.1 k (by omega) (by omega)).trans ((hPV k (by omega)).trans (hKpA.2.1 k (by omega) (by omega))))), fun k k1 => (World.putObj_heap_other (by have := hbs k k1; omega)).trans ((h3.2.2 k k1).trans ((hPV k (by have := hbs k k1; omega)).trans (hKpA.2.2 k k1)))⟩⟩
    | ret =>
      obtain ⟨h2, h4⟩ := hp
      obtain ⟨U', hr, rfl, e1, e2, e3⟩ := fin (some .ret) U h2
      exact ⟨_, _, hr, (hKV.trans (KeepsFrom.raise h2 (by omega))).trans (keepsFrom_put (by omega)), .inr ⟨rfl, .ret, (hIx _).putObj _ h4 (by omega) e1 rfl, e2, e3⟩⟩
    | exit id =>
      obtain ⟨h2, h4⟩ := hp
      obtain ⟨U', hr, rfl, e1, e2, e3⟩ := fin (some (.exit id)) U h2
      exact ⟨_, _, hr, (hKV.trans (KeepsFrom.raise h2 (by omega))).trans (keepsFrom_put (by omega)), .inr ⟨rfl, .exit id, (hIx _).putObj _ h4 (by omega) e1 rfl, e2, e3⟩⟩
    | goto t =>
      obtain ⟨h2, h4⟩ := hp
      obtain ⟨U', hr, rfl, e1, e2, e3⟩ := fin (some (.goto t)) U h2
      exact ⟨_, _, hr, (hKV.trans (KeepsFrom.raise h2 (by omega))).trans (keepsFrom_put (by omega)), .inr ⟨rfl, .goto t, (hIx _).putObj _ h4 (by omega) e1 rfl, e2, e3⟩⟩
    | panic ch => exact hp.elim
    | outgrown => exact hp.elim
  · rintro e W2 ⟨⟨v, rfl⟩, (⟨xs, hS, hi, hl, hk⟩ | ⟨pre, hSp, c, hi, hl, hk⟩)⟩
    · exact ⟨none, _, run_endLoop hl (by simp [recO]), hdone _ xs _ (Nat.le_refl _) hS (hI.putObj _ hi (by omega) hl rfl) ((World.putObj_heap_other (by omega)).trans hk)⟩
    · exact ⟨some c, _, run_endLoop hl (by simp [recO]), hstop _ c pre _ (Nat.le_refl _) hSp ((hIx c).putObj _ hi (by omega) hl rfl) ((World.putObj_heap_other (by omega)).trans hk)⟩

end Go.Proofs.Ytchnjafcnigllaa

/- A range over a function whose iterator writes cells of its own that it has made since it began. No program is spoken of. -/
namespace Go.Proofs.Ytchnjafcnigllaa
open Go.RowKit

/-- What is said stays as the first cells of m blocks from a on are written. -/
def AbidesPriv {β : Type} (a m : Nat) (J : β → World → Prop) : Prop := ∀ s W r v, a ≤ r → r < a + m → J s W → J s (W.setCell ⟨r, 0, none⟩ v)
/-- An iterator's promise, for rounds that keep what lay below n0, and whatever is no cells that was made since the iterator began, the first m blocks that were made since, and the blocks bs, to whose first cells the iterator writes. -/
def SeqP {α : Type} (F : Fence) (n : Nat) (P : Program) (g : Nat) (lb : Array Value) (encs : α → Array Value) (n0 m : Nat) (bs : List Nat) (S Sp : List α → Prop) (Ry : α → World → Prop) (w : World) : Prop :=
  ∀ (l : Nat) (J Jx : List α → World → Prop) (W : World), Below w.heap.size w W → w.heap.size + 2 ≤ W.heap.size → OwnFrom W.heap.size J → OwnFrom W.heap.size Jx → AbidesCells bs J → AbidesCells bs Jx → AbidesPriv W.heap.size m J → AbidesPriv W.heap.size m Jx →
    (∀ pre x W1, J pre W1 → Sp (pre ++ [x]) → W.heap.size + m ≤ W1.heap.size → Ry x W1 → YieldAt F (n - 1) P l (encs x) W1 fun e W' =>
      KeepsFrom W.heap.size W1 W' ∧ ((e = .returned (.bool true) ∧ J (pre ++ [x]) W' ∧ Below n0 W1 W' ∧ (∀ k, W.heap.size ≤ k → k < W.heap.size + m → W'.heap[k]? = W1.heap[k]?) ∧ ∀ k, k ∈ bs → W'.heap[k]? = W1.heap[k]?) ∨ (e = .returned (.bool false) ∧ Jx (pre ++ [x]) W'))) →
    J [] W →
    CallsIn F n P g (#[.func (.yield l) #[] #[]] ++ lb) W fun e W' => (∃ v, e = .returned v) ∧ ((∃ xs, S xs ∧ J xs W') ∨ (∃ pre, Sp pre ∧ Jx pre W'))


theorem rangeP {α : Type} {F : Fence} {n : Nat} {P : Program} {g : Operand} {ps : Array Tmp} {assign body : Code} {Q : Exit → Act → World → Prop} {a : Act} {w : World}
    (hro : F.round = none) (h1 : 1 ≤ n) {gf : Nat} {lb : Array Value} (hg : a.eval g = .func (.func gf) #[] lb) (hFg : F.fn gf) (eg : ∀ args w, (callFunc gf args).run P w = .ok (.enter gf args) w)
    {encs : α → Array Value} {n0 m : Nat} {bs : List Nat} {S Sp : List α → Prop} {Ry : α → World → Prop} {w0 : World} (hseq : SeqP F (n - 1) P gf lb encs n0 m bs S Sp Ry w0) (hRy : ∀ x W l o r, W.heap[l]? = some (.loop r) → Ry x W → Ry x (W.putObj l o)) (hbs : ∀ r, r ∈ bs → r < w.heap.size)
    (hn0 : n0 ≤ w.heap.size) (hb0 : Below w0.heap.size w0 w) (hps : ∀ x, (encs x).size = ps.size)
    (I : List α → World → Prop) (Ix : Code → List α → World → Prop) (hI : OwnFrom w.heap.size I) (hIx : ∀ c, OwnFrom w.heap.size (Ix c)) (hIb : AbidesCells bs I) (hIxb : ∀ c, AbidesCells bs (Ix c)) (hIp : AbidesPriv (w.heap.size + 2) m I) (hIxp : ∀ c, AbidesPriv (w.heap.size + 2) m (Ix c)) (h0 : I [] w) (a₁ : α → Act)
    (hassign : ∀ (l : Nat) (x : α) (W : World) (K : Act → World → Prop), K (a₁ x) W →
      assign.wpIn (F.inRound l) (n - 1 - 1) P (Exit.then K (fun _ _ _ => False)) { tmps := (ps.zip (encs x)).foldl (fun t (p, v) => t.setIfInBounds p v) a.tmps, defers := [] } W)
    (hbody : ∀ (l : Nat) (pre : List α) (x : α) (W : World), I pre W → Sp (pre ++ [x]) → w.heap.size + 2 + m ≤ W.heap.size → Ry x W → body.wpIn (F.inRound l) (n - 1 - 1) P (ownPostG w.heap.size (KpO n0 m bs w) I Ix (pre ++ [x]) W) (a₁ x) W)
    (hdone : ∀ (D : Nat) (xs : List α) (W : World), w.heap.size ≤ D → S xs → I xs W → W.heap[D]? = some (.deferred (some [])) → Q .normal { a with defers := { target := .collected D, args := #[] } :: a.defers } W)
    (hstop : ∀ (D : Nat) (c : Code) (pre : List α) (W : World), w.heap.size ≤ D → Sp pre → Ix c pre W → W.heap[D]? = some (.deferred (some [])) → c.wpIn F n P Q { a with defers := { target := .collected D, args := #[] } :: a.defers } W) :
    (Code.rangeFunc g ps assign body).wpIn F n P Q a w := by
  apply wpIn_rangeFunc
  intro fn hfn
  rw [hro]
  have hW1 : ∃ W1, startO w (recO a ps assign body fn w.heap.size .ready none) = W1 := ⟨_, rfl⟩
  obtain ⟨W1, hW1⟩ := hW1
  have hz : W1.heap.size = w.heap.size + 2 := by rw [← hW1]; simp
  have hR : W1.heap[w.heap.size + 1]? = some (.loop (recO a ps assign body fn w.heap.size .ready none)) := by
    have := World.alloc_heap_new (w.alloc (.deferred (some []))) (.loop (recO a ps assign body fn w.heap.size .ready none))
    rw [World.size_alloc] at this; rw [← hW1]; exact this
  have hD : W1.heap[w.heap.size]? = some (.deferred (some [])) := by
    rw [← hW1]; exact (Below.heap_alloc _ _ _ (by simp)).trans (World.alloc_heap_new w _)
  have hstart : I [] W1 := by rw [← hW1]; exact hI.alloc _ (hI.alloc _ h0)
  have hbel : Below w0.heap.size w0 W1 := by rw [← hW1]; exact (hb0.alloc hb0.size _).alloc (by have := hb0.size; simp; omega) _
  refine ⟨w.heap.size + 1, [{ target := .collected w.heap.size, args := #[] }], W1, { target := .fn (.func gf) lb, args := #[.func (.yield (w.heap.size + 1)) #[] #[]] }, W1, gf,
    #[.func (.yield (w.heap.size + 1)) #[] #[]] ++ lb, W1, by rw [← hW1]; exact run_enterLoop_outer _ _ _ _ _, ?_, ?_, ?_, fun _ => h1, ?_⟩
  · simp only [resolve, hg]
    simp [go_sem]
  · intro f' hf'; simp [Target.leads] at hf'; subst hf'; exact hFg
  · simp [invoke, go_sem, eg]
  -- the iterator, at the caller's own invariant with the two blocks of the loop beside it
  have J1 : OwnFrom W1.heap.size (fun pre W => I pre W ∧ W.heap[w.heap.size + 1]? = some (.loop (recO a ps assign body fn w.heap.size .ready none)) ∧ W.heap[w.heap.size]? = some (.deferred (some []))) :=
    fun s A B row hs hg' hr => ⟨OwnFrom.le hI (by omega) s A B row hs.1 hg' hr, keeps_block hg' hr (by omega) hs.2.1, keeps_block hg' hr (by omega) hs.2.2⟩
  have J2 : OwnFrom W1.heap.size (fun pre W => ∃ c, Ix c pre W ∧ W.heap[w.heap.size + 1]? = some (.loop (recO a ps assign body fn w.heap.size .done (some c))) ∧ W.heap[w.heap.size]? = some (.deferred (some []))) :=
    fun s A B row ⟨c, hc, hl, hk⟩ hg' hr => ⟨c, OwnFrom.le (hIx c) (by omega) s A B row hc hg' hr, keeps_block hg' hr (by omega) hl, keeps_block hg' hr (by omega) hk⟩
  have J3 : AbidesCells bs (fun pre W => I pre W ∧ W.heap[w.heap.size + 1]? = some (.loop (recO a ps assign body fn w.heap.size .ready none)) ∧ W.heap[w.heap.size]? = some (.deferred (some []))) :=
    fun s A r v hr ⟨h1, h2, h3⟩ => ⟨hIb s A r v hr h1, (setCell_heap (by have := hbs r hr; omega)).trans h2, (setCell_heap (by have := hbs r hr; omega)).trans h3⟩
  have J4 : AbidesCells bs (fun pre W => ∃ c, Ix c pre W ∧ W.heap[w.heap.size + 1]? = some (.loop (recO a ps assign body fn w.heap.size .done (some c))) ∧ W.heap[w.heap.size]? = some (.deferred (some []))) :=
    fun s A r v hr ⟨c, h1, h2, h3⟩ => ⟨c, hIxb c s A r v hr h1, (setCell_heap (by have := hbs r hr; omega)).trans h2, (setCell_heap (by have := hbs r hr; omega)).trans h3⟩
  have J5 : AbidesPriv W1.heap.size m (fun pre W => I pre W ∧ W.heap[w.heap.size + 1]? = some (.loop (recO a ps assign body fn w.heap.size .ready none)) ∧ W.heap[w.heap.size]? = some (.deferred (some []))) :=
    fun s A r v h1 h2 ⟨i1, i2, i3⟩ => ⟨hIp s A r v (by omega) (by omega) i1, (setCell_heap (by omega)).trans i2, (setCell_heap (by omega)).trans i3⟩
  have J6 : AbidesPriv W1.heap.size m (fun pre W => ∃ c, Ix c pre W ∧ W.heap[w.heap.size + 1]? = some (.loop (recO a ps assign body fn w.heap.size .done (some c))) ∧ W.heap[w.heap.size]? = some (.deferred (some []))) :=
    fun s A r v h1 h2 ⟨c, i1, i2, i3⟩ => ⟨c, hIxp c s A r v (by omega) (by omega) i1, (setCell_heap (by omega)).trans i2, (setCell_heap (by omega)).trans i3⟩
  refine (hseq (w.heap.size + 1) _ _ W1 hbel (by have := hb0.size; omega) J1 J2 J3 J4 J5 J6 ?_ ⟨hstart, hR, hD⟩).mono ?_
  · rintro pre x W ⟨hi, hl, hk⟩ hlen hmW hry
    have hlt := (Array.getElem?_eq_some_iff.1 hl).1
    have hy := run_yield (P := P) (args := encs x) hl (hps x)
    have hkp : ∀ (V : World) (o : Obj), w.heap.size + 1 < V.heap.size → Below n0 V (V.putObj (w.heap.size + 1) o) := fun V o hV => (Below.refl n0 V).grown (grownBy_putObj' V _ o) (by omega) (fun k e => by cases e; omega)
    refine ⟨fn, _, assign, body, hy, roundIn_of_wpIn hfn (hassign _ x W _ ⟨_, run_beginRound hl rfl, ?_⟩)⟩
    obtain ⟨V, hV⟩ : ∃ V, W.putObj (w.heap.size + 1) (.loop { recO a ps assign body fn w.heap.size .ready none with state := .busy }) = V := ⟨_, rfl⟩
    have hlV : V.heap[w.heap.size + 1]? = some (.loop { recO a ps assign body fn w.heap.size .ready none with state := .busy }) := by rw [← hV]; exact World.putObj_heap_same hlt
    have hkV : V.heap[w.heap.size]? = some (.deferred (some [])) := by rw [← hV]; exact (World.putObj_heap_other (by omega)).trans hk
    have hiV : I pre V := by rw [← hV]; exact hI.putObj _ hi (by omega) hl rfl
    have hKV : KeepsFrom W1.heap.size W V := by rw [← hV]; exact keepsFrom_put (by omega)
    have hBV : Below n0 W V := by rw [← hV]; exact hkp _ _ hlt
    have hzV : V.heap.size = W.heap.size := by rw [← hV]; simp
    have hPV : ∀ k, k ≠ w.heap.size + 1 → V.heap[k]? = W.heap[k]? := fun k hk => by rw [← hV]; exact World.putObj_heap_other hk
    have hryV : Ry x V := by rw [← hV]; exact hRy x W _ _ _ hl hry
    rw [hV]
    -- the round's end, by whatever jump
    have fin : ∀ (j : Option Code) (U : World), KeepsFrom w.heap.size V U → ∃ U', (Instr.endRound (w.heap.size + 1) j).run P U = .ok (.bool j.isNone) U' ∧
        U' = U.putObj (w.heap.size + 1) (.loop (recO a ps assign body fn w.heap.size (if j.isNone then .ready else .done) j)) ∧
        U.heap[w.heap.size + 1]? = some (.loop { recO a ps assign body fn w.heap.size .ready none with state := .busy }) ∧
        U'.heap[w.heap.size + 1]? = some (.loop (recO a ps assign body fn w.heap.size (if j.isNone then .ready else .done) j)) ∧
        U'.heap[w.heap.size]? = some (.deferred (some [])) := fun j U hU => by
      have hlU := hU.same _ _ (by omega) hlV rfl
      have hkU := hU.same _ _ (Nat.le_refl _) hkV rfl
      exact ⟨_, run_endRound j hlU, rfl, hlU, World.putObj_heap_same (Array.getElem?_eq_some_iff.1 hlU).1, (World.putObj_heap_other (by omega)).trans hkU⟩
    refine wpIn_mono (hbody _ pre x V hiV hlen (by omega) hryV) ?_
    rintro e a3 U hp
    cases e with
    | normal =>
      obtain ⟨h2, h3, h4⟩ := hp
      obtain ⟨U', hr, rfl, e1, e2, e3⟩ := fin none U h2
      exact ⟨_, _, hr, (hKV.trans (KeepsFrom.raise h2 (by omega))).trans (keepsFrom_put (by omega)), .inl ⟨rfl, ⟨hI.putObj _ h4 (by omega) e1 rfl, e2, e3⟩, (hBV.trans h3.1).trans (hkp _ _ (Array.getElem?_eq_some_iff.1 e1).1), (fun k k1 k2 => (World.putObj_heap_other (by omega)).trans ((h3.2.1 k (by omega) (by omega)).trans (hPV k (by omega)))), fun k k1 => (World.putObj_heap_other (by have := hbs k k1; omega)).trans ((h3.2.2 k k1).trans (hPV k (by have := hbs k k1; omega)))⟩⟩
    | ret =>
      obtain ⟨h2, h4⟩ := hp
      obtain ⟨U', hr, rfl, e1, e2, e3⟩ := fin (some .ret) U h2
      exact ⟨_, _, hr, (hKV.trans (KeepsFrom.raise h2 (by omega))).trans (keepsFrom_put (by omega)), .inr ⟨rfl, .ret, (hIx _).putObj _ h4 (by omega) e1 rfl, e2, e3⟩⟩
    | exit id =>
      obtain ⟨h2, h4⟩ := hp
      obtain ⟨U', hr, rfl, e1, e2, e3⟩ := fin (some (.exit id)) U h2
      exact ⟨_, _, hr, (hKV.trans (KeepsFrom.raise h2 (by omega))).trans (keepsFrom_put (by omega)), .inr ⟨rfl, .exit id, (hIx _).putObj _ h4 (by omega) e1 rfl, e2, e3⟩⟩
    | goto t =>
      obtain ⟨h2, h4⟩ := hp
      obtain ⟨U', hr, rfl, e1, e2, e3⟩ := fin (some (.goto t)) U h2
      exact ⟨_, _, hr, (hKV.trans (KeepsFrom.raise h2 (by omega))).trans (keepsFrom_put (by omega)), .inr ⟨rfl, .goto t, (hIx _).putObj _ h4 (by omega) e1 rfl, e2, e3⟩⟩
    | panic ch => exact hp.elim
    | outgrown => exact hp.elim
  · rintro e W2 ⟨⟨v, rfl⟩, (⟨xs, hS, hi, hl, hk⟩ | ⟨pre, hSp, c, hi, hl, hk⟩)⟩
    · exact ⟨none, _, run_endLoop hl (by simp [recO]), hdone _ xs _ (Nat.le_refl _) hS (hI.putObj _ hi (by omega) hl rfl) ((World.putObj_heap_other (by omega)).trans hk)⟩
    · exact ⟨some c, _, run_endLoop hl (by simp [recO]), hstop _ c pre _ (Nat.le_refl _) hSp ((hIx c).putObj _ hi (by omega) hl rfl) ((World.putObj_heap_other (by omega)).trans hk)⟩
end Go.Proofs.Ytchnjafcnigllaa

/- A region that draws its order within a round of a range over a function: it goes as outside of it, where it holds no defer statement. No program is spoken of. -/
namespace Go.Proofs.Ytchnjafcnigllaa
open Go.RowKit
set_option linter.unusedVariables false

theorem rows_round {P : Program} {row : String} {args : Array Value} {w : World} {R : Value → World → Prop} (l n : Nat) (h : Rows P row args w R) : RowsIn (Fence.wide.inRound l) n P row args w R :=
  fun c cs _ => let ⟨v, w', r, s⟩ := h c cs; ⟨v, w', r, stepsIn_wide.2 s⟩
def NoDefer (ops : Array Oper) : Prop := ∀ (i : Nat) (o : Oper), ops[i]? = some o → ∀ c, o.op ≠ .defer c
theorem noDefer_of {ops : Array Oper} (h : ops.all (fun o => match o.op with | .defer _ => false | _ => true) = true) : NoDefer ops := by
  intro i o ho c hc
  have := Array.all_eq_true_iff_forall_mem.1 h o (Array.mem_of_getElem? ho)
  simp [hc] at this
theorem ops_round {P : Program} {ops : Array Oper} {Q : Exit → Act → World → Prop} (l n : Nat) (hnd : NoDefer ops) (hLO : LetsOut Q → False) :
    ∀ (s : List Nat) (a : Act) (w : World), wpOps P ops Q s a w → wpOpsIn (Fence.wide.inRound l) n P ops Q s a w
  | [], _, _, h => h
  | i :: rest, a, w, h => by
    simp only [wpOps] at h
    simp only [wpOpsIn]
    cases ho : ops[i]? with
    | none => simp only [ho] at h; exact ops_round l n hnd hLO rest a w h
    | some o =>
      simp only [ho] at h ⊢
      by_cases hw : Region.wanted o (yielded ops a.tmps) = true
      · rw [if_pos hw] at h
        rw [if_pos hw]
        have h1 : o.wp P a w (wpOps P ops Q rest) Q := h.resolve_right (fun hh => hLO hh.2)
        refine ⟨fun f _ => trivial, ?_⟩
        rw [show (Fence.wide.inRound l).round = some l from rfl, Oper.semAt_some l _ _ (hnd i o ho)]
        unfold Oper.wp at h1
        generalize (execOp a.eval o).run P w = r at h1
        cases r with
        | ok n' w' =>
          cases n' with
          | value u => exact ops_round l n hnd hLO rest _ _ h1
          | skip => exact ops_round l n hnd hLO rest _ _ h1
          | defer d => exact ops_round l n hnd hLO rest _ _ h1
          | enter f args =>
            refine ⟨fun hd => by simp [Fence.wide] at hd, CallsIn.inRound l (callsIn_wide.2 (Calls.mono h1 fun e w'' he => ?_))⟩
            cases e with
            | returned u => exact ops_round l n hnd hLO rest _ _ he
            | panicked c => exact he
            | outgrown => exact he
          | row r args => exact ⟨fun hd => by simp [Fence.wide] at hd, rows_round l _ (Rows.mono h1 fun v w'' hv => ops_round l n hnd hLO rest _ _ hv)⟩
          | _ => exact h1.elim
        | halt x w' =>
          cases x <;> first | exact h1 | exact h1.elim
      · rw [if_neg hw] at h
        rw [if_neg hw]
        exact ⟨fun f _ => trivial, ops_round l n hnd hLO rest _ _ h⟩
theorem any_round {P : Program} {ops : Array Oper} {Q : Exit → Act → World → Prop} {id l n : Nat} {a : Act} {w : World} (hm : P.follows .mixedOrders = true) (hnd : NoDefer ops) (hLO : LetsOut Q → False)
    (h : wpAny P .any ops Q ops.size (Array.replicate ops.size false) a { w with drawn := w.drawn + 1 }) : (Code.region id ops true).wpIn (Fence.wide.inRound l) n P Q a w :=
  wpIn_region_draw fun t => by
    simp only [Region.schedule, hm, Bool.true_or, if_true]
    exact ops_round l n hnd hLO _ _ _ (wpAny_sound ops.size t _ a _ h)
/-- A region that only reads, in a round. -/
theorem quiet_round {P : Program} {Q : Exit → Act → World → Prop} {id l n : Nat} {a : Act} {w : World} {ls : List Oper} (hm : P.follows .mixedOrders = true) (hB : Region.lexB .any ls.toArray = true) (hnd : ls.toArray.all (fun o => match o.op with | .defer _ => false | _ => true) = true) (hLO : LetsOut Q → False)
    (h : wpQuiet P ls.toArray (fun w' => ∃ n, w' = w.drewN n) (fun a' => ∀ w', (∃ n, w' = w.drewN n) → Q .normal a' w') ls a) : (Code.region id ls.toArray true).wpIn (Fence.wide.inRound l) n P Q a w := by
  simp only [Region.lexB, Bool.and_eq_true] at hB
  refine any_round hm (noDefer_of hnd) hLO (wpAny_of_quiet (C := fun w' => ∃ n, w' = w.drewN n) (Q := fun a' => ∀ w', (∃ n, w' = w.drewN n) → Q .normal a' w') (fun _ w' hw' h => h w' hw') _ _ _ _ ⟨1, rfl⟩ ?_)
  have := wpAnyQ_lex (C := fun w' => ∃ n, w' = w.drewN n) (md := .any) hB.1 ls.toArray.toList 0 (Array.replicate ls.toArray.size false) a (by simp) (by simpa using hB.2) (by simpa using h)
  simpa using this
/-- The beginning of a region in which cells hold what they hold, in a round. -/
theorem held_round {P : Program} {ops : Array Oper} {Q : Exit → Act → World → Prop} {S : World → Prop} {id l n : Nat} {a : Act} {w : World} (hm : P.follows .mixedOrders = true) (hnd : NoDefer ops) (hLO : LetsOut Q → False)
    (h : wpAnyH P .any ops Q S ops.size (Array.replicate ops.size false) a { w with drawn := w.drawn + 1 }) : (Code.region id ops true).wpIn (Fence.wide.inRound l) n P Q a w :=
  any_round hm hnd hLO (wpAny_of_held _ _ _ _ h)
theorem not_out {K : Act → World → Prop} {Q : Exit → Act → World → Prop} (h : LetsOut Q → False) : LetsOut (Exit.then K Q) → False := fun ⟨a, w, hq⟩ => h ⟨a, w, hq⟩
theorem own_not_out {B : Nat} {Kp : World → World → Prop} {α : Type} {I : List α → World → Prop} {Ix : Code → List α → World → Prop} {pre : List α} {W : World} : LetsOut (ownPostG B Kp I Ix pre W) → False := fun ⟨_, _, hq⟩ => hq
end Go.Proofs.Ytchnjafcnigllaa
