/-
  DERIVED. GIVEN WITH THE SEED: THE CARDS: each row of YtocmfdahnekboaaDoorRows.lean that lists a variable, with what it lists TIED to the program's text (the seventh form; the later family's looks); each row that meets fmt, with fmt's text TOLD by the authors' own Lean function (tested against real Go, not proved from fmt's source: count such statements apart). THE CARD IS WHAT COUNTS. Prove the row's statement (the work); the ties are given (YtocmfdahnekboaaDoorTie.lean); close each card by the builder's one call (the guide's Derived/Test/ToyasCard.lean, 'card_holds'). Laid BY PROGRAM, IN A SANDBOX (cutbox-door.mjs). By AI agents, Wed Nov 11 2026. No macro, syntax, notation, axiom, sorry.
-/
import Derived.Test.YtocmfdahnekboaaDoorRows
import GoSem.ClaimSeven
namespace Go.Proofs.YtocmfdahnekboaaDoor
namespace Rows

/-- THE TIED CARD OF 'saleroomlaw07.JournalLooks'. -/
def journalLooksCard : Claim7 := { stood := { row := journalLooksRow, standIns := [], harness := (true, "8a6bc795da8fb135b382896ae0109ddafe31292bb90b42eb2d8042949aa133b7"), looks := false }, kinds := [], alts := [], laidByText := true, laidKinds := [.data, .data, .data], laidTests := true, laidLooks := .later }
def JournalLooksCardSaid : Prop := Claim7.holds Tryd.pinned (.plain (OpenSpec.ofChange journalLooksSpec)) journalLooksCard

/-- THE SECOND FORM's CARD OF 'saleroomlaw07.JournalLooks'. -/
def journalLooksUptoCard : Claim7 := { stood := { row := journalLooksUptoRow, standIns := [], harness := (true, "8a6bc795da8fb135b382896ae0109ddafe31292bb90b42eb2d8042949aa133b7"), looks := false }, kinds := [], alts := [], laidByText := true, laidKinds := [.data, .data, .data], laidTests := true, laidLooks := .later }
def JournalLooksUptoCardSaid : Prop := Claim7.holds Tryd.pinned (.plain (OpenSpec.upto journalLooksSpec)) journalLooksUptoCard
end Rows
end Go.Proofs.YtocmfdahnekboaaDoor
