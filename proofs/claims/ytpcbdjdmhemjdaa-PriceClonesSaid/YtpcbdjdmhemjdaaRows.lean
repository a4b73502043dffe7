/-
  No cell of these rows narrows 'for every input' (looked for: loops, veiled, ifaces, maps, wideKeys, modest, calm, conditions, laid).
  DERIVED. THE GIVEN ROWS OF THIS SEAT. 5 by the template 'for every input the law returns true; each argument reads behind the call as it read before'; 0 by the template 'total and deterministic' (their statements: YtpcbdjdmhemjdaaTotals.lean).
  GIVEN WITH THE SEED: the statements are not yours to turn. If you find one false, say at which input.
  Laid BY PROGRAM, IN A SANDBOX (cutbox-rows.mjs): the forced cells as the released guide's own fill.sh prints them over the translation ee31eba16ceafb42… (all of the seat's roots in one cut). By AI agents, Wed Nov 11 2026. No macro, syntax, notation, axiom, sorry.
-/
import Derived.Test.YtpcbdjdmhemjdaaChecked
import GoSem.Claim
import GoSem.ClaimJoined
import GoSem.ClaimMapViews
import Derived.JoinedTies
import Derived.KernelRfl
namespace Go.Proofs.Ytpcbdjdmhemjdaa
/- THE CELL 'sum', in the pinned program and in every row, IS THE sha256 OF THE DUMP (.gsa) THAT YtpcbdjdmhemjdaaProg.lean LOADS. Nothing in Lean hashes anything: it is a label: what it is worth is what the hold of that sum in a sandbox is worth. -/
noncomputable def Try.pinned : Pinned := { name := "ytpcbdjdmhemjdaa", sum := "ee31eba16ceafb42d6e7931faa4a48f51f254033eeb1f7e84c397e8e3a4cce6b", checked := Try.checked }
namespace Rows
def none {H : Type} : Left H := { results := [], args := [] }

/-- 'saleroomlaw11.PricePlays': WHATEVER THE INPUT: true; the input reads as it did. -/
def pricePlaysSpec : ChangeSpec := { name := "pricePlays", fn := fun _ => fun
  | [d1, d2, d3, d4] => { results := [.lit (.bool true)], args := [d1, d2, d3, d4] }
  | _ => none }
def pricePlaysRow : OpenClaim := { program := "ytpcbdjdmhemjdaa", sum := "ee31eba16ceafb42d6e7931faa4a48f51f254033eeb1f7e84c397e8e3a4cce6b", func := "saleroom/saleroomlaw11.PricePlays", spec := "pricePlays", inPlace := ["slices.overlaps[saleroom/api.Entry]"], unfollowed := true, recurses := true, apart := false }
def PricePlaysSaid : Prop := pricePlaysRow.holds Try.pinned (OpenSpec.ofChange pricePlaysSpec)

/-- ITS FALSE NEIGHBOUR: 'it returns false'. Refute it at one input. -/
def pricePlaysWrong : ChangeSpec := { name := "pricePlays", fn := fun _ => fun
  | [d1, d2, d3, d4] => { results := [.lit (.bool false)], args := [d1, d2, d3, d4] }
  | _ => none }
def PricePlaysWrongFalsely : Prop := pricePlaysRow.holds Try.pinned (OpenSpec.ofChange pricePlaysWrong)

/-- 'saleroomlaw11.PriceGrows': WHATEVER THE INPUT: true; the input reads as it did. -/
def priceGrowsSpec : ChangeSpec := { name := "priceGrows", fn := fun _ => fun
  | [d1, d2, d3] => { results := [.lit (.bool true)], args := [d1, d2, d3] }
  | _ => none }
def priceGrowsRow : OpenClaim := { program := "ytpcbdjdmhemjdaa", sum := "ee31eba16ceafb42d6e7931faa4a48f51f254033eeb1f7e84c397e8e3a4cce6b", func := "saleroom/saleroomlaw11.PriceGrows", spec := "priceGrows", inPlace := ["slices.overlaps[saleroom/api.Entry]"], unfollowed := true, recurses := true, apart := false }
def PriceGrowsSaid : Prop := priceGrowsRow.holds Try.pinned (OpenSpec.ofChange priceGrowsSpec)

/-- ITS FALSE NEIGHBOUR: 'it returns false'. Refute it at one input. -/
def priceGrowsWrong : ChangeSpec := { name := "priceGrows", fn := fun _ => fun
  | [d1, d2, d3] => { results := [.lit (.bool false)], args := [d1, d2, d3] }
  | _ => none }
def PriceGrowsWrongFalsely : Prop := priceGrowsRow.holds Try.pinned (OpenSpec.ofChange priceGrowsWrong)

/-- 'saleroomlaw11.PriceOrder': WHATEVER THE INPUT: true; the input reads as it did. -/
def priceOrderSpec : ChangeSpec := { name := "priceOrder", fn := fun _ => fun
  | [d1, d2] => { results := [.lit (.bool true)], args := [d1, d2] }
  | _ => none }
def priceOrderRow : OpenClaim := { program := "ytpcbdjdmhemjdaa", sum := "ee31eba16ceafb42d6e7931faa4a48f51f254033eeb1f7e84c397e8e3a4cce6b", func := "saleroom/saleroomlaw11.PriceOrder", spec := "priceOrder", inPlace := ["slices.overlaps[saleroom/api.Entry]"], unfollowed := true, recurses := true, apart := false }
def PriceOrderSaid : Prop := priceOrderRow.holds Try.pinned (OpenSpec.ofChange priceOrderSpec)

/-- ITS FALSE NEIGHBOUR: 'it returns false'. Refute it at one input. -/
def priceOrderWrong : ChangeSpec := { name := "priceOrder", fn := fun _ => fun
  | [d1, d2] => { results := [.lit (.bool false)], args := [d1, d2] }
  | _ => none }
def PriceOrderWrongFalsely : Prop := priceOrderRow.holds Try.pinned (OpenSpec.ofChange priceOrderWrong)

/-- 'saleroomlaw11.PriceClones': WHATEVER THE INPUT: true; the input reads as it did. -/
def priceClonesSpec : ChangeSpec := { name := "priceClones", fn := fun _ => fun
  | [d1, d2, d3] => { results := [.lit (.bool true)], args := [d1, d2, d3] }
  | _ => none }
def priceClonesRow : OpenClaim := { program := "ytpcbdjdmhemjdaa", sum := "ee31eba16ceafb42d6e7931faa4a48f51f254033eeb1f7e84c397e8e3a4cce6b", func := "saleroom/saleroomlaw11.PriceClones", spec := "priceClones", inPlace := ["slices.overlaps[saleroom/api.Entry]"], unfollowed := true, recurses := true, apart := false }
def PriceClonesSaid : Prop := priceClonesRow.holds Try.pinned (OpenSpec.ofChange priceClonesSpec)

/-- ITS FALSE NEIGHBOUR: 'it returns false'. Refute it at one input. -/
def priceClonesWrong : ChangeSpec := { name := "priceClones", fn := fun _ => fun
  | [d1, d2, d3] => { results := [.lit (.bool false)], args := [d1, d2, d3] }
  | _ => none }
def PriceClonesWrongFalsely : Prop := priceClonesRow.holds Try.pinned (OpenSpec.ofChange priceClonesWrong)

/-- 'saleroomlaw11.PriceMerges': WHATEVER THE INPUT: true; the input reads as it did. -/
def priceMergesSpec : ChangeSpec := { name := "priceMerges", fn := fun _ => fun
  | [d1, d2, d3] => { results := [.lit (.bool true)], args := [d1, d2, d3] }
  | _ => none }
def priceMergesRow : OpenClaim := { program := "ytpcbdjdmhemjdaa", sum := "ee31eba16ceafb42d6e7931faa4a48f51f254033eeb1f7e84c397e8e3a4cce6b", func := "saleroom/saleroomlaw11.PriceMerges", spec := "priceMerges", inPlace := ["slices.overlaps[saleroom/api.Entry]"], unfollowed := true, recurses := true, apart := false }
def PriceMergesSaid : Prop := priceMergesRow.holds Try.pinned (OpenSpec.ofChange priceMergesSpec)

/-- ITS FALSE NEIGHBOUR: 'it returns false'. Refute it at one input. -/
def priceMergesWrong : ChangeSpec := { name := "priceMerges", fn := fun _ => fun
  | [d1, d2, d3] => { results := [.lit (.bool false)], args := [d1, d2, d3] }
  | _ => none }
def PriceMergesWrongFalsely : Prop := priceMergesRow.holds Try.pinned (OpenSpec.ofChange priceMergesWrong)

/- THE SECOND FORM. 'bulk': how many values and letters a reading holds, each counted each time it is reached (what is shared counts as often as it is met; a slice's spare places count too). A statement '..UptoSaid' is the law's where the arguments, and the package variables that the reading takes, are together of bulk at most 1048576: NARROWER than '..Said'. Prove '..Said' where nothing that the law and all that it calls make is longer than what came in: it says more and counts as full. Else prove '..UptoSaid'. A law counts once. -/
mutual
def uptoBulk {H : Type} : DataW H → Nat
  | .lit (.string bytes) => bytes.length + 1
  | .lit _ => 1
  | .nil => 1
  | .ptr d => uptoBulk d + 1
  | .slice elems spare => uptoBulkAll elems + uptoBulkAll spare + 1
  | .agg parts => uptoBulkAll parts + 1
  | .iface _ d => uptoBulk d + 1
  | .map entries => uptoBulkEntries entries + 1
  | .held _ => 1
def uptoBulkAll {H : Type} : List (DataW H) → Nat
  | [] => 0
  | d :: r => uptoBulk d + uptoBulkAll r
def uptoBulkEntries {H : Type} : List (Lit × DataW H) → Nat
  | [] => 0
  | x :: r => uptoBulkEntry x + uptoBulkEntries r
def uptoBulkEntry {H : Type} : Lit × DataW H → Nat
  | (.string bytes, d) => bytes.length + uptoBulk d + 1
  | (_, d) => uptoBulk d + 1
 end
def uptoSmall : (H : Type) → List (DataW H) → Bool := fun _ ds => decide (uptoBulkAll ds ≤ 1048576)
def OpenSpec.upto (s : _root_.Go.ChangeSpec) : _root_.Go.OpenSpec := { _root_.Go.OpenSpec.ofChange s with cond := some uptoSmall }

/-- 'saleroomlaw11.PricePlays', WHERE WHAT IT READS IS OF BULK AT MOST 1048576: true; the input reads as it did. -/
def pricePlaysUptoRow : OpenClaim := { program := "ytpcbdjdmhemjdaa", sum := "ee31eba16ceafb42d6e7931faa4a48f51f254033eeb1f7e84c397e8e3a4cce6b", func := "saleroom/saleroomlaw11.PricePlays", spec := "pricePlays", inPlace := ["slices.overlaps[saleroom/api.Entry]"], unfollowed := true, recurses := true, apart := false, narrowed := true }
def PricePlaysUptoSaid : Prop := pricePlaysUptoRow.holds Try.pinned (OpenSpec.upto pricePlaysSpec)

/-- 'saleroomlaw11.PriceGrows', WHERE WHAT IT READS IS OF BULK AT MOST 1048576: true; the input reads as it did. -/
def priceGrowsUptoRow : OpenClaim := { program := "ytpcbdjdmhemjdaa", sum := "ee31eba16ceafb42d6e7931faa4a48f51f254033eeb1f7e84c397e8e3a4cce6b", func := "saleroom/saleroomlaw11.PriceGrows", spec := "priceGrows", inPlace := ["slices.overlaps[saleroom/api.Entry]"], unfollowed := true, recurses := true, apart := false, narrowed := true }
def PriceGrowsUptoSaid : Prop := priceGrowsUptoRow.holds Try.pinned (OpenSpec.upto priceGrowsSpec)

/-- 'saleroomlaw11.PriceOrder', WHERE WHAT IT READS IS OF BULK AT MOST 1048576: true; the input reads as it did. -/
def priceOrderUptoRow : OpenClaim := { program := "ytpcbdjdmhemjdaa", sum := "ee31eba16ceafb42d6e7931faa4a48f51f254033eeb1f7e84c397e8e3a4cce6b", func := "saleroom/saleroomlaw11.PriceOrder", spec := "priceOrder", inPlace := ["slices.overlaps[saleroom/api.Entry]"], unfollowed := true, recurses := true, apart := false, narrowed := true }
def PriceOrderUptoSaid : Prop := priceOrderUptoRow.holds Try.pinned (OpenSpec.upto priceOrderSpec)

/-- 'saleroomlaw11.PriceClones', WHERE WHAT IT READS IS OF BULK AT MOST 1048576: true; the input reads as it did. -/
def priceClonesUptoRow : OpenClaim := { program := "ytpcbdjdmhemjdaa", sum := "ee31eba16ceafb42d6e7931faa4a48f51f254033eeb1f7e84c397e8e3a4cce6b", func := "saleroom/saleroomlaw11.PriceClones", spec := "priceClones", inPlace := ["slices.overlaps[saleroom/api.Entry]"], unfollowed := true, recurses := true, apart := false, narrowed := true }
def PriceClonesUptoSaid : Prop := priceClonesUptoRow.holds Try.pinned (OpenSpec.upto priceClonesSpec)

/-- 'saleroomlaw11.PriceMerges', WHERE WHAT IT READS IS OF BULK AT MOST 1048576: true; the input reads as it did. -/
def priceMergesUptoRow : OpenClaim := { program := "ytpcbdjdmhemjdaa", sum := "ee31eba16ceafb42d6e7931faa4a48f51f254033eeb1f7e84c397e8e3a4cce6b", func := "saleroom/saleroomlaw11.PriceMerges", spec := "priceMerges", inPlace := ["slices.overlaps[saleroom/api.Entry]"], unfollowed := true, recurses := true, apart := false, narrowed := true }
def PriceMergesUptoSaid : Prop := priceMergesUptoRow.holds Try.pinned (OpenSpec.upto priceMergesSpec)

end Rows
end Go.Proofs.Ytpcbdjdmhemjdaa
