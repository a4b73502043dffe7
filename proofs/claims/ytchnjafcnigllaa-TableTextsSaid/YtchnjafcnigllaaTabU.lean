/- The functions that two laws hand to Map and to Merge. -/
import Derived.Test.YtchnjafcnigllaaTabT
namespace Go.Proofs.Ytchnjafcnigllaa
open Go.RowKit
set_option linter.unusedVariables false

set_option maxRecDepth 100000 in
theorem maps1_any (k v by' : Int) (B : Nat) (W : World) (hb : W.cell? ⟨B, 0, none⟩ = some (.int .i64 by')) :
    Calls Try.prog 34 #[.int .i64 k, .int .i64 v, .pointer (some ⟨B, 0, none⟩)] W fun e W' => e = .returned (.int .i64 (bits .xor .i64 (bits .xor .i64 k v) by')) ∧ W' = W := by
  go_enter Try.func34, Try.ntmps34
  go_wp2_with fail
  go_ret
  exact ⟨rfl, rfl⟩
set_option maxRecDepth 100000 in
theorem merges1_any (k x y : Int) (W : World) :
    Calls Try.prog 36 #[.int .i64 k, .int .i64 x, .int .i64 y] W fun e W' => e = .returned (.int .i64 (bits .xor .i64 k (bits .and .i64 x y))) ∧ W' = W := by
  go_enter Try.func36, Try.ntmps36
  go_wp2_with fail
  go_ret
  exact ⟨rfl, rfl⟩
/-- One result, in a cell. -/
theorem results_cell1 {fn : Func} {p : Tmp} {ty : TypeId} (h : fn.results = #[.cell p ty]) (tmps : Array Value) (P : Program) (w : World) :
    (results fn tmps).run P w = ((asAddr (tmps.getD p undef)).run P w).andThen fun a w₁ => ((loadVar ty a).run P w₁).andThen fun v w₂ => .ok v w₂ := by
  simp only [results, h]
  simp [Sem.run_bind, Result.andThen]
  cases Sem.run P (asAddr (tmps[p]?.getD undef)) w with
  | ok a w1 => simp only; cases Sem.run P (loadVar ty a) w1 <;> rfl
  | halt h1 w1 => rfl
end Go.Proofs.Ytchnjafcnigllaa
