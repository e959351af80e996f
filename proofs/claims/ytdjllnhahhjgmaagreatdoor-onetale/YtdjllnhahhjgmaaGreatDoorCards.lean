/-
  DERIVED. GIVEN WITH THE SEED: THE CARDS: each row of YtdjllnhahhjgmaaGreatDoorRows.lean that lists a variable, with what it lists TIED to the program's text (the seventh form; the later family's looks); each row that meets fmt, with fmt's text TOLD by the authors' own Lean function (tested against real Go, not proved from fmt's source: count such statements apart). THE CARD IS WHAT COUNTS. Prove the row's statement (the work); the ties are given (YtdjllnhahhjgmaaGreatDoorTie.lean); close each card by the builder's one call (the guide's Derived/Test/ToyasCard.lean, 'card_holds'). Laid BY PROGRAM, IN A SANDBOX (cutbox-door.mjs). By AI agents, Wed Nov 11 2026. No macro, syntax, notation, axiom, sorry.
-/
import Derived.Test.YtdjllnhahhjgmaaGreatDoorRows
import GoSem.ClaimSeven
namespace Go.Proofs.YtdjllnhahhjgmaaGreatDoor
namespace Rows

/-- THE TIED CARD OF 'chroniclelaw.Imports'. -/
def importsCard : Claim7 := { stood := { row := importsRow, standIns := [], harness := (true, "908390c0c6270449b7a6d5382845cb8ee591eae77ebccbc3517df536a805d791"), looks := true }, kinds := [], alts := [], laidByText := true, laidKinds := [.data, .data, .data, .data, .sentinel, .sentinel, .data, .data, .pinned], laidTests := true, laidLooks := .later }
def ImportsCardSaid : Prop := Claim7.holds Tryz.pinned (.plain (OpenSpec.ofChange importsSpec)) importsCard

/-- THE TIED CARD OF 'chroniclekeep.Tales'. -/
def talesCard : Claim7 := { stood := { row := talesRow, standIns := [], harness := (true, "908390c0c6270449b7a6d5382845cb8ee591eae77ebccbc3517df536a805d791"), looks := true }, kinds := [], alts := [], laidByText := true, laidKinds := [.data, .data, .data, .data, .sentinel, .sentinel, .data, .data, .pinned], laidTests := true, laidLooks := .later }
def TalesCardSaid : Prop := Claim7.holds Tryz.pinned (.plain (OpenSpec.ofChange talesSpec)) talesCard

/-- THE TIED CARD OF 'chroniclekeep.OneTale'. -/
def oneTaleCard : Claim7 := { stood := { row := oneTaleRow, standIns := [], harness := (true, "908390c0c6270449b7a6d5382845cb8ee591eae77ebccbc3517df536a805d791"), looks := true }, kinds := [], alts := [], laidByText := true, laidKinds := [.data, .data, .data, .data], laidTests := true, laidLooks := .later }
def OneTaleCardSaid : Prop := Claim7.holds Tryz.pinned (.plain (OpenSpec.ofChange oneTaleSpec)) oneTaleCard

/-- THE SECOND FORM's CARD OF 'chroniclelaw.Imports'. -/
def importsUptoCard : Claim7 := { stood := { row := importsUptoRow, standIns := [], harness := (true, "908390c0c6270449b7a6d5382845cb8ee591eae77ebccbc3517df536a805d791"), looks := true }, kinds := [], alts := [], laidByText := true, laidKinds := [.data, .data, .data, .data, .sentinel, .sentinel, .data, .data, .pinned], laidTests := true, laidLooks := .later }
def ImportsUptoCardSaid : Prop := Claim7.holds Tryz.pinned (.plain (OpenSpec.upto importsSpec)) importsUptoCard

/-- THE SECOND FORM's CARD OF 'chroniclekeep.Tales'. -/
def talesUptoCard : Claim7 := { stood := { row := talesUptoRow, standIns := [], harness := (true, "908390c0c6270449b7a6d5382845cb8ee591eae77ebccbc3517df536a805d791"), looks := true }, kinds := [], alts := [], laidByText := true, laidKinds := [.data, .data, .data, .data, .sentinel, .sentinel, .data, .data, .pinned], laidTests := true, laidLooks := .later }
def TalesUptoCardSaid : Prop := Claim7.holds Tryz.pinned (.plain (OpenSpec.upto talesSpec)) talesUptoCard

/-- THE SECOND FORM's CARD OF 'chroniclekeep.OneTale'. -/
def oneTaleUptoCard : Claim7 := { stood := { row := oneTaleUptoRow, standIns := [], harness := (true, "908390c0c6270449b7a6d5382845cb8ee591eae77ebccbc3517df536a805d791"), looks := true }, kinds := [], alts := [], laidByText := true, laidKinds := [.data, .data, .data, .data], laidTests := true, laidLooks := .later }
def OneTaleUptoCardSaid : Prop := Claim7.holds Tryz.pinned (.plain (OpenSpec.upto oneTaleSpec)) oneTaleUptoCard
end Rows
end Go.Proofs.YtdjllnhahhjgmaaGreatDoor
