/-
  No cell of these rows narrows 'for every input' (looked for: loops, veiled, ifaces, maps, wideKeys, modest, calm, conditions, laid).
  DERIVED. THE GIVEN ROWS OF THIS SEAT. 3 by the template 'for every input the law returns true; each argument reads behind the call as it read before'; 0 by the template 'total and deterministic' (their statements: YtndbpmhdpjlncaaTotals.lean).
  GIVEN WITH THE SEED: the statements are not yours to turn. If you find one false, say at which input.
  Laid BY PROGRAM, IN A SANDBOX (cutbox-rows.mjs): the forced cells as the released guide's own fill.sh prints them over the translation bea3a4eaba5a2b86… (all of the seat's roots in one cut). By AI agents, Wed Nov 11 2026. No macro, syntax, notation, axiom, sorry.
-/
import Derived.Test.YtndbpmhdpjlncaaChecked
import GoSem.Claim
import GoSem.ClaimJoined
import GoSem.ClaimMapViews
import Derived.JoinedTies
import Derived.KernelRfl
namespace Go.Proofs.Ytndbpmhdpjlncaa
/- THE CELL 'sum', in the pinned program and in every row, IS THE sha256 OF THE DUMP (.gsa) THAT YtndbpmhdpjlncaaProg.lean LOADS. Nothing in Lean hashes anything: it is a label: what it is worth is what the hold of that sum in a sandbox is worth. -/
noncomputable def Try.pinned : Pinned := { name := "ytndbpmhdpjlncaa", sum := "bea3a4eaba5a2b86f880f51ec11b6de94aac21f032fb786f33bf2f179dddc0f1", checked := Try.checked }
namespace Rows
def none {H : Type} : Left H := { results := [], args := [] }

/-- 'saleroomlaw01.MoneyTwo': WHATEVER THE INPUT: true; the input reads as it did. -/
def moneyTwoSpec : ChangeSpec := { name := "moneyTwo", fn := fun _ => fun
  | [d1, d2, d3] => { results := [.lit (.bool true)], args := [d1, d2, d3] }
  | _ => none }
def moneyTwoRow : OpenClaim := { program := "ytndbpmhdpjlncaa", sum := "bea3a4eaba5a2b86f880f51ec11b6de94aac21f032fb786f33bf2f179dddc0f1", func := "saleroom/saleroomlaw01.MoneyTwo", spec := "moneyTwo", unfollowed := true, recurses := true, apart := false }
def MoneyTwoSaid : Prop := moneyTwoRow.holds Try.pinned (OpenSpec.ofChange moneyTwoSpec)

/-- ITS FALSE NEIGHBOUR: 'it returns false'. Refute it at one input. -/
def moneyTwoWrong : ChangeSpec := { name := "moneyTwo", fn := fun _ => fun
  | [d1, d2, d3] => { results := [.lit (.bool false)], args := [d1, d2, d3] }
  | _ => none }
def MoneyTwoWrongFalsely : Prop := moneyTwoRow.holds Try.pinned (OpenSpec.ofChange moneyTwoWrong)

/-- 'saleroomlaw01.MoneyCeils': WHATEVER THE INPUT: true; the input reads as it did. -/
def moneyCeilsSpec : ChangeSpec := { name := "moneyCeils", fn := fun _ => fun
  | [d1, d2] => { results := [.lit (.bool true)], args := [d1, d2] }
  | _ => none }
def moneyCeilsRow : OpenClaim := { program := "ytndbpmhdpjlncaa", sum := "bea3a4eaba5a2b86f880f51ec11b6de94aac21f032fb786f33bf2f179dddc0f1", func := "saleroom/saleroomlaw01.MoneyCeils", spec := "moneyCeils", unfollowed := true, recurses := true, apart := false }
def MoneyCeilsSaid : Prop := moneyCeilsRow.holds Try.pinned (OpenSpec.ofChange moneyCeilsSpec)

/-- ITS FALSE NEIGHBOUR: 'it returns false'. Refute it at one input. -/
def moneyCeilsWrong : ChangeSpec := { name := "moneyCeils", fn := fun _ => fun
  | [d1, d2] => { results := [.lit (.bool false)], args := [d1, d2] }
  | _ => none }
def MoneyCeilsWrongFalsely : Prop := moneyCeilsRow.holds Try.pinned (OpenSpec.ofChange moneyCeilsWrong)

/-- 'saleroomlaw01.MoneyBack': WHATEVER THE INPUT: true; the input reads as it did. -/
def moneyBackSpec : ChangeSpec := { name := "moneyBack", fn := fun _ => fun
  | [d1, d2, d3] => { results := [.lit (.bool true)], args := [d1, d2, d3] }
  | _ => none }
def moneyBackRow : OpenClaim := { program := "ytndbpmhdpjlncaa", sum := "bea3a4eaba5a2b86f880f51ec11b6de94aac21f032fb786f33bf2f179dddc0f1", func := "saleroom/saleroomlaw01.MoneyBack", spec := "moneyBack", unfollowed := true, recurses := true, apart := false }
def MoneyBackSaid : Prop := moneyBackRow.holds Try.pinned (OpenSpec.ofChange moneyBackSpec)

/-- ITS FALSE NEIGHBOUR: 'it returns false'. Refute it at one input. -/
def moneyBackWrong : ChangeSpec := { name := "moneyBack", fn := fun _ => fun
  | [d1, d2, d3] => { results := [.lit (.bool false)], args := [d1, d2, d3] }
  | _ => none }
def MoneyBackWrongFalsely : Prop := moneyBackRow.holds Try.pinned (OpenSpec.ofChange moneyBackWrong)

/- THE SECOND FORM. 'bulk': how many values and letters a reading holds, each counted each time it is reached (what is shared counts as often as it is met; a slice's spare places count too). A statement '..UptoSaid' is the law's where the arguments, and the package variables that the reading takes, are together of bulk at most 1048576: NARROWER than '..Said'. Prove '..Said' where nothing that the law and all that it calls make is longer than what came in: it says more and counts as full. Else prove '..UptoSaid'. A law counts once. -/
mutual
def uptoBulk {H : Type} : DataW H → Nat
  | .lit (.string bytes) => bytes.length + 1
  | .lit _ => 1
  | .nil => 1
  | .ptr d => uptoBulk d + 1
  | .slice elems spare => uptoBulkAll elems + uptoBulkAll spare + 1
  | .agg parts => uptoBulkAll parts + 1
  | .iface _ d => uptoBulk d + 1
  | .map entries => uptoBulkEntries entries + 1
  | .held _ => 1
def uptoBulkAll {H : Type} : List (DataW H) → Nat
  | [] => 0
  | d :: r => uptoBulk d + uptoBulkAll r
def uptoBulkEntries {H : Type} : List (Lit × DataW H) → Nat
  | [] => 0
  | x :: r => uptoBulkEntry x + uptoBulkEntries r
def uptoBulkEntry {H : Type} : Lit × DataW H → Nat
  | (.string bytes, d) => bytes.length + uptoBulk d + 1
  | (_, d) => uptoBulk d + 1
 end
def uptoSmall : (H : Type) → List (DataW H) → Bool := fun _ ds => decide (uptoBulkAll ds ≤ 1048576)
def OpenSpec.upto (s : _root_.Go.ChangeSpec) : _root_.Go.OpenSpec := { _root_.Go.OpenSpec.ofChange s with cond := some uptoSmall }

/-- 'saleroomlaw01.MoneyTwo', WHERE WHAT IT READS IS OF BULK AT MOST 1048576: true; the input reads as it did. -/
def moneyTwoUptoRow : OpenClaim := { program := "ytndbpmhdpjlncaa", sum := "bea3a4eaba5a2b86f880f51ec11b6de94aac21f032fb786f33bf2f179dddc0f1", func := "saleroom/saleroomlaw01.MoneyTwo", spec := "moneyTwo", unfollowed := true, recurses := true, apart := false, narrowed := true }
def MoneyTwoUptoSaid : Prop := moneyTwoUptoRow.holds Try.pinned (OpenSpec.upto moneyTwoSpec)

/-- 'saleroomlaw01.MoneyCeils', WHERE WHAT IT READS IS OF BULK AT MOST 1048576: true; the input reads as it did. -/
def moneyCeilsUptoRow : OpenClaim := { program := "ytndbpmhdpjlncaa", sum := "bea3a4eaba5a2b86f880f51ec11b6de94aac21f032fb786f33bf2f179dddc0f1", func := "saleroom/saleroomlaw01.MoneyCeils", spec := "moneyCeils", unfollowed := true, recurses := true, apart := false, narrowed := true }
def MoneyCeilsUptoSaid : Prop := moneyCeilsUptoRow.holds Try.pinned (OpenSpec.upto moneyCeilsSpec)

/-- 'saleroomlaw01.MoneyBack', WHERE WHAT IT READS IS OF BULK AT MOST 1048576: true; the input reads as it did. -/
def moneyBackUptoRow : OpenClaim := { program := "ytndbpmhdpjlncaa", sum := "bea3a4eaba5a2b86f880f51ec11b6de94aac21f032fb786f33bf2f179dddc0f1", func := "saleroom/saleroomlaw01.MoneyBack", spec := "moneyBack", unfollowed := true, recurses := true, apart := false, narrowed := true }
def MoneyBackUptoSaid : Prop := moneyBackUptoRow.holds Try.pinned (OpenSpec.upto moneyBackSpec)

end Rows
end Go.Proofs.Ytndbpmhdpjlncaa
