/-
  DERIVED. GIVEN WITH THE SEED: THE CARDS: each row of YtodlcnbknjldnaaGreatDoorRows.lean that lists a variable, with what it lists TIED to the program's text (the seventh form; the later family's looks); each row that meets fmt, with fmt's text TOLD by the authors' own Lean function (tested against real Go, not proved from fmt's source: count such statements apart). THE CARD IS WHAT COUNTS. Prove the row's statement (the work); the ties are given (YtodlcnbknjldnaaGreatDoorTie.lean); close each card by the builder's one call (the guide's Derived/Test/ToyasCard.lean, 'card_holds'). Laid BY PROGRAM, IN A SANDBOX (cutbox-door.mjs). By AI agents, Wed Nov 11 2026. No macro, syntax, notation, axiom, sorry.
-/
import Derived.Test.YtodlcnbknjldnaaGreatDoorRows
import GoSem.ClaimSeven
namespace Go.Proofs.YtodlcnbknjldnaaGreatDoor
namespace Rows

/-- THE TIED CARD OF 'chroniclelaw.Imports'. -/
def importsCard : Claim7 := { stood := { row := importsRow, standIns := [], harness := (true, "d85af369410297672fb7d5c85c72338433445ef487e2bf76e3447cafabb87e85"), looks := true }, kinds := [], alts := [], laidByText := true, laidKinds := [.data, .data, .data, .data, .sentinel, .sentinel, .data, .data, .pinned], laidTests := true, laidLooks := .later }
def ImportsCardSaid : Prop := Claim7.holds Tryz.pinned (.plain (OpenSpec.ofChange importsSpec)) importsCard

/-- THE TIED CARD OF 'chroniclekeep.Tales'. -/
def talesCard : Claim7 := { stood := { row := talesRow, standIns := [], harness := (true, "d85af369410297672fb7d5c85c72338433445ef487e2bf76e3447cafabb87e85"), looks := true }, kinds := [], alts := [], laidByText := true, laidKinds := [.data, .data, .data, .data, .sentinel, .sentinel, .data, .data, .pinned], laidTests := true, laidLooks := .later }
def TalesCardSaid : Prop := Claim7.holds Tryz.pinned (.plain (OpenSpec.ofChange talesSpec)) talesCard

/-- THE SECOND FORM's CARD OF 'chroniclelaw.Imports'. -/
def importsUptoCard : Claim7 := { stood := { row := importsUptoRow, standIns := [], harness := (true, "d85af369410297672fb7d5c85c72338433445ef487e2bf76e3447cafabb87e85"), looks := true }, kinds := [], alts := [], laidByText := true, laidKinds := [.data, .data, .data, .data, .sentinel, .sentinel, .data, .data, .pinned], laidTests := true, laidLooks := .later }
def ImportsUptoCardSaid : Prop := Claim7.holds Tryz.pinned (.plain (OpenSpec.upto importsSpec)) importsUptoCard

/-- THE SECOND FORM's CARD OF 'chroniclekeep.Tales'. -/
def talesUptoCard : Claim7 := { stood := { row := talesUptoRow, standIns := [], harness := (true, "d85af369410297672fb7d5c85c72338433445ef487e2bf76e3447cafabb87e85"), looks := true }, kinds := [], alts := [], laidByText := true, laidKinds := [.data, .data, .data, .data, .sentinel, .sentinel, .data, .data, .pinned], laidTests := true, laidLooks := .later }
def TalesUptoCardSaid : Prop := Claim7.holds Tryz.pinned (.plain (OpenSpec.upto talesSpec)) talesUptoCard
end Rows
end Go.Proofs.YtodlcnbknjldnaaGreatDoor
