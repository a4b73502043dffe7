/- A region that draws its order within a round of a range over a function: it goes as outside of it, where it holds no defer statement. No program is spoken of. -/
import Derived.Test.YtndbpmhdpjlncaaDoorRangeO
import Derived.OrdersHeld
import Derived.BigQuiet
import Derived.Deep.QuietTactic
import Derived.TacticsIn
import Derived.TacticsInMore
import Derived.RangeFuncCalls
namespace Go.Proofs.YtndbpmhdpjlncaaDoor
open Go.RowKit
set_option linter.unusedVariables false

theorem rows_round {P : Program} {row : String} {args : Array Value} {w : World} {R : Value → World → Prop} (l n : Nat) (h : Rows P row args w R) : RowsIn (Fence.wide.inRound l) n P row args w R :=
  fun c cs _ => let ⟨v, w', r, s⟩ := h c cs; ⟨v, w', r, stepsIn_wide.2 s⟩
def NoDefer (ops : Array Oper) : Prop := ∀ (i : Nat) (o : Oper), ops[i]? = some o → ∀ c, o.op ≠ .defer c
theorem noDefer_of {ops : Array Oper} (h : ops.all (fun o => match o.op with | .defer _ => false | _ => true) = true) : NoDefer ops := by
  intro i o ho c hc
  have := Array.all_eq_true_iff_forall_mem.1 h o (Array.mem_of_getElem? ho)
  simp [hc] at this
theorem ops_round {P : Program} {ops : Array Oper} {Q : Exit → Act → World → Prop} (l n : Nat) (hnd : NoDefer ops) (hLO : LetsOut Q → False) :
    ∀ (s : List Nat) (a : Act) (w : World), wpOps P ops Q s a w → wpOpsIn (Fence.wide.inRound l) n P ops Q s a w
  | [], _, _, h => h
  | i :: rest, a, w, h => by
    simp only [wpOps] at h
    simp only [wpOpsIn]
    cases ho : ops[i]? with
    | none => simp only [ho] at h; exact ops_round l n hnd hLO rest a w h
    | some o =>
      simp only [ho] at h ⊢
      by_cases hw : Region.wanted o (yielded ops a.tmps) = true
      · rw [if_pos hw] at h
        rw [if_pos hw]
        have h1 : o.wp P a w (wpOps P ops Q rest) Q := h.resolve_right (fun hh => hLO hh.2)
        refine ⟨fun f _ => trivial, ?_⟩
        rw [show (Fence.wide.inRound l).round = some l from rfl, Oper.semAt_some l _ _ (hnd i o ho)]
        unfold Oper.wp at h1
        generalize (execOp a.eval o).run P w = r at h1
        cases r with
        | ok n' w' =>
          cases n' with
          | value u => exact ops_round l n hnd hLO rest _ _ h1
          | skip => exact ops_round l n hnd hLO rest _ _ h1
          | defer d => exact ops_round l n hnd hLO rest _ _ h1
          | enter f args =>
            refine ⟨fun hd => by simp [Fence.wide] at hd, CallsIn.inRound l (callsIn_wide.2 (Calls.mono h1 fun e w'' he => ?_))⟩
            cases e with
            | returned u => exact ops_round l n hnd hLO rest _ _ he
            | panicked c => exact he
            | outgrown => exact he
          | row r args => exact ⟨fun hd => by simp [Fence.wide] at hd, rows_round l _ (Rows.mono h1 fun v w'' hv => ops_round l n hnd hLO rest _ _ hv)⟩
          | _ => exact h1.elim
        | halt x w' =>
          cases x <;> first | exact h1 | exact h1.elim
      · rw [if_neg hw] at h
        rw [if_neg hw]
        exact ⟨fun f _ => trivial, ops_round l n hnd hLO rest _ _ h⟩
theorem any_round {P : Program} {ops : Array Oper} {Q : Exit → Act → World → Prop} {id l n : Nat} {a : Act} {w : World} (hm : P.follows .mixedOrders = true) (hnd : NoDefer ops) (hLO : LetsOut Q → False)
    (h : wpAny P .any ops Q ops.size (Array.replicate ops.size false) a { w with drawn := w.drawn + 1 }) : (Code.region id ops true).wpIn (Fence.wide.inRound l) n P Q a w :=
  wpIn_region_draw fun t => by
    simp only [Region.schedule, hm, Bool.true_or, if_true]
    exact ops_round l n hnd hLO _ _ _ (wpAny_sound ops.size t _ a _ h)
/-- A region that only reads, in a round. -/
theorem quiet_round {P : Program} {Q : Exit → Act → World → Prop} {id l n : Nat} {a : Act} {w : World} {ls : List Oper} (hm : P.follows .mixedOrders = true) (hB : Region.lexB .any ls.toArray = true) (hnd : ls.toArray.all (fun o => match o.op with | .defer _ => false | _ => true) = true) (hLO : LetsOut Q → False)
    (h : wpQuiet P ls.toArray (fun w' => ∃ n, w' = w.drewN n) (fun a' => ∀ w', (∃ n, w' = w.drewN n) → Q .normal a' w') ls a) : (Code.region id ls.toArray true).wpIn (Fence.wide.inRound l) n P Q a w := by
  simp only [Region.lexB, Bool.and_eq_true] at hB
  refine any_round hm (noDefer_of hnd) hLO (wpAny_of_quiet (C := fun w' => ∃ n, w' = w.drewN n) (Q := fun a' => ∀ w', (∃ n, w' = w.drewN n) → Q .normal a' w') (fun _ w' hw' h => h w' hw') _ _ _ _ ⟨1, rfl⟩ ?_)
  have := wpAnyQ_lex (C := fun w' => ∃ n, w' = w.drewN n) (md := .any) hB.1 ls.toArray.toList 0 (Array.replicate ls.toArray.size false) a (by simp) (by simpa using hB.2) (by simpa using h)
  simpa using this
/-- The beginning of a region in which cells hold what they hold, in a round. -/
theorem held_round {P : Program} {ops : Array Oper} {Q : Exit → Act → World → Prop} {S : World → Prop} {id l n : Nat} {a : Act} {w : World} (hm : P.follows .mixedOrders = true) (hnd : NoDefer ops) (hLO : LetsOut Q → False)
    (h : wpAnyH P .any ops Q S ops.size (Array.replicate ops.size false) a { w with drawn := w.drawn + 1 }) : (Code.region id ops true).wpIn (Fence.wide.inRound l) n P Q a w :=
  any_round hm hnd hLO (wpAny_of_held _ _ _ _ h)
theorem not_out {K : Act → World → Prop} {Q : Exit → Act → World → Prop} (h : LetsOut Q → False) : LetsOut (Exit.then K Q) → False := fun ⟨a, w, hq⟩ => h ⟨a, w, hq⟩
theorem own_not_out {B : Nat} {Kp : World → World → Prop} {α : Type} {I : List α → World → Prop} {Ix : Code → List α → World → Prop} {pre : List α} {W : World} : LetsOut (ownPostG B Kp I Ix pre W) → False := fun ⟨_, _, hq⟩ => hq
end Go.Proofs.YtndbpmhdpjlncaaDoor
