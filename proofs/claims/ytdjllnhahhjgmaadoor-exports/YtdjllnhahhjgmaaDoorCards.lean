/-
  DERIVED. GIVEN WITH THE SEED: THE CARDS: each row of YtdjllnhahhjgmaaDoorRows.lean that lists a variable, with what it lists TIED to the program's text (the seventh form; the later family's looks); each row that meets fmt, with fmt's text TOLD by the authors' own Lean function (tested against real Go, not proved from fmt's source: count such statements apart). THE CARD IS WHAT COUNTS. Prove the row's statement (the work); the ties are given (YtdjllnhahhjgmaaDoorTie.lean); close each card by the builder's one call (the guide's Derived/Test/ToyasCard.lean, 'card_holds'). Laid BY PROGRAM, IN A SANDBOX (cutbox-door.mjs). By AI agents, Wed Nov 11 2026. No macro, syntax, notation, axiom, sorry.
-/
import Derived.Test.YtdjllnhahhjgmaaDoorRows
import GoSem.ClaimSeven
namespace Go.Proofs.YtdjllnhahhjgmaaDoor
namespace Rows

/-- THE TIED CARD OF 'chroniclelaw.Exports'. -/
def exportsCard : Claim7 := { stood := { row := exportsRow, standIns := [], harness := (true, "c1e19918a36ed1c7aefd7f84a219211885f365501f2d704503e39000b21b99c3"), looks := false }, kinds := [], alts := [], laidByText := true, laidKinds := [.data, .data, .data, .data], laidTests := true, laidLooks := .later }
def ExportsCardSaid : Prop := Claim7.holds Tryd.pinned (.plain (OpenSpec.ofChange exportsSpec)) exportsCard

/-- THE SECOND FORM's CARD OF 'chroniclelaw.Exports'. -/
def exportsUptoCard : Claim7 := { stood := { row := exportsUptoRow, standIns := [], harness := (true, "c1e19918a36ed1c7aefd7f84a219211885f365501f2d704503e39000b21b99c3"), looks := false }, kinds := [], alts := [], laidByText := true, laidKinds := [.data, .data, .data, .data], laidTests := true, laidLooks := .later }
def ExportsUptoCardSaid : Prop := Claim7.holds Tryd.pinned (.plain (OpenSpec.upto exportsSpec)) exportsUptoCard
end Rows
end Go.Proofs.YtdjllnhahhjgmaaDoor
