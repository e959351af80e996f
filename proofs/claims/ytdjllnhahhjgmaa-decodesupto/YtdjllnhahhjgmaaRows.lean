/-
  No cell of these rows narrows 'for every input' (looked for: loops, veiled, ifaces, maps, wideKeys, modest, calm, conditions, laid).
  DERIVED. THE GIVEN ROWS OF THIS SEAT. 6 by the template 'for every input the law returns true; each argument reads behind the call as it read before'; 0 by the template 'total and deterministic' (their statements: YtdjllnhahhjgmaaTotals.lean).
  GIVEN WITH THE SEED: the statements are not yours to turn. If you find one false, say at which input.
  Laid BY PROGRAM, IN A SANDBOX (cutbox-rows.mjs): the forced cells as the released guide's own fill.sh prints them over the translation 9d07aa426e25928f… (all of the seat's roots in one cut). By AI agents, Wed Nov 11 2026. No macro, syntax, notation, axiom, sorry.
-/
import Derived.Test.YtdjllnhahhjgmaaChecked
import GoSem.Claim
import GoSem.ClaimJoined
import GoSem.ClaimMapViews
import Derived.JoinedTies
import Derived.KernelRfl
namespace Go.Proofs.Ytdjllnhahhjgmaa
/- THE CELL 'sum', in the pinned program and in every row, IS THE sha256 OF THE DUMP (.gsa) THAT YtdjllnhahhjgmaaProg.lean LOADS. Nothing in Lean hashes anything: it is a label: what it is worth is what the hold of that sum in a sandbox is worth. -/
noncomputable def Try.pinned : Pinned := { name := "ytdjllnhahhjgmaa", sum := "9d07aa426e25928fd05b22257dd56f5d4d9a2bcd3e1f3fb36303144c53162641", checked := Try.checked }
namespace Rows
def none {H : Type} : Left H := { results := [], args := [] }

/-- 'chroniclelaw.Encodes': WHATEVER THE INPUT: true; the input reads as it did. -/
def encodesSpec : ChangeSpec := { name := "encodes", fn := fun _ => fun
  | [d1, d2, d3] => { results := [.lit (.bool true)], args := [d1, d2, d3] }
  | _ => none }
def encodesRow : OpenClaim := { program := "ytdjllnhahhjgmaa", sum := "9d07aa426e25928fd05b22257dd56f5d4d9a2bcd3e1f3fb36303144c53162641", func := "chronicle/chroniclelaw.Encodes", spec := "encodes", inPlace := ["internal/abi.NoEscape"], unfollowed := true, recurses := true, apart := false }
def EncodesSaid : Prop := encodesRow.holds Try.pinned (OpenSpec.ofChange encodesSpec)

/-- ITS FALSE NEIGHBOUR: 'it returns false'. Refute it at one input. -/
def encodesWrong : ChangeSpec := { name := "encodes", fn := fun _ => fun
  | [d1, d2, d3] => { results := [.lit (.bool false)], args := [d1, d2, d3] }
  | _ => none }
def EncodesWrongFalsely : Prop := encodesRow.holds Try.pinned (OpenSpec.ofChange encodesWrong)

/-- 'chroniclelaw.Decodes': WHATEVER THE INPUT: true; the input reads as it did. -/
def decodesSpec : ChangeSpec := { name := "decodes", fn := fun _ => fun
  | [d1, d2] => { results := [.lit (.bool true)], args := [d1, d2] }
  | _ => none }
def decodesRow : OpenClaim := { program := "ytdjllnhahhjgmaa", sum := "9d07aa426e25928fd05b22257dd56f5d4d9a2bcd3e1f3fb36303144c53162641", func := "chronicle/chroniclelaw.Decodes", spec := "decodes", inPlace := ["internal/bytealg.IndexByteString", "internal/abi.NoEscape"], unfollowed := true, recurses := true, apart := false }
def DecodesSaid : Prop := decodesRow.holds Try.pinned (OpenSpec.ofChange decodesSpec)

/-- ITS FALSE NEIGHBOUR: 'it returns false'. Refute it at one input. -/
def decodesWrong : ChangeSpec := { name := "decodes", fn := fun _ => fun
  | [d1, d2] => { results := [.lit (.bool false)], args := [d1, d2] }
  | _ => none }
def DecodesWrongFalsely : Prop := decodesRow.holds Try.pinned (OpenSpec.ofChange decodesWrong)

/-- 'chroniclelaw.Changes': WHATEVER THE INPUT: true; the input reads as it did. -/
def changesSpec : ChangeSpec := { name := "changes", fn := fun _ => fun
  | [d1, d2] => { results := [.lit (.bool true)], args := [d1, d2] }
  | _ => none }
def changesRow : OpenClaim := { program := "ytdjllnhahhjgmaa", sum := "9d07aa426e25928fd05b22257dd56f5d4d9a2bcd3e1f3fb36303144c53162641", func := "chronicle/chroniclelaw.Changes", spec := "changes", inPlace := ["internal/abi.NoEscape"], recurses := true, apart := false }
def ChangesSaid : Prop := changesRow.holds Try.pinned (OpenSpec.ofChange changesSpec)

/-- ITS FALSE NEIGHBOUR: 'it returns false'. Refute it at one input. -/
def changesWrong : ChangeSpec := { name := "changes", fn := fun _ => fun
  | [d1, d2] => { results := [.lit (.bool false)], args := [d1, d2] }
  | _ => none }
def ChangesWrongFalsely : Prop := changesRow.holds Try.pinned (OpenSpec.ofChange changesWrong)

/-- 'chroniclekeep.Back': WHATEVER THE INPUT: true; the input reads as it did. -/
def backSpec : ChangeSpec := { name := "back", fn := fun _ => fun
  | [d1, d2] => { results := [.lit (.bool true)], args := [d1, d2] }
  | _ => none }
def backRow : OpenClaim := { program := "ytdjllnhahhjgmaa", sum := "9d07aa426e25928fd05b22257dd56f5d4d9a2bcd3e1f3fb36303144c53162641", func := "chronicle/chroniclekeep.Back", spec := "back", inPlace := ["internal/abi.NoEscape", "internal/bytealg.IndexByteString"], unfollowed := true, recurses := true, apart := false }
def BackSaid : Prop := backRow.holds Try.pinned (OpenSpec.ofChange backSpec)

/-- ITS FALSE NEIGHBOUR: 'it returns false'. Refute it at one input. -/
def backWrong : ChangeSpec := { name := "back", fn := fun _ => fun
  | [d1, d2] => { results := [.lit (.bool false)], args := [d1, d2] }
  | _ => none }
def BackWrongFalsely : Prop := backRow.holds Try.pinned (OpenSpec.ofChange backWrong)

/-- 'chroniclekeep.OneWay': WHATEVER THE INPUT: true; the input reads as it did. -/
def oneWaySpec : ChangeSpec := { name := "oneWay", fn := fun _ => fun
  | [d1, d2] => { results := [.lit (.bool true)], args := [d1, d2] }
  | _ => none }
def oneWayRow : OpenClaim := { program := "ytdjllnhahhjgmaa", sum := "9d07aa426e25928fd05b22257dd56f5d4d9a2bcd3e1f3fb36303144c53162641", func := "chronicle/chroniclekeep.OneWay", spec := "oneWay", inPlace := ["internal/abi.NoEscape", "internal/bytealg.IndexByteString"], unfollowed := true, recurses := true, apart := false }
def OneWaySaid : Prop := oneWayRow.holds Try.pinned (OpenSpec.ofChange oneWaySpec)

/-- ITS FALSE NEIGHBOUR: 'it returns false'. Refute it at one input. -/
def oneWayWrong : ChangeSpec := { name := "oneWay", fn := fun _ => fun
  | [d1, d2] => { results := [.lit (.bool false)], args := [d1, d2] }
  | _ => none }
def OneWayWrongFalsely : Prop := oneWayRow.holds Try.pinned (OpenSpec.ofChange oneWayWrong)

/-- 'chroniclekeep.Applied': WHATEVER THE INPUT: true; the input reads as it did. -/
def appliedSpec : ChangeSpec := { name := "applied", fn := fun _ => fun
  | [d1, d2, d3, d4] => { results := [.lit (.bool true)], args := [d1, d2, d3, d4] }
  | _ => none }
def appliedRow : OpenClaim := { program := "ytdjllnhahhjgmaa", sum := "9d07aa426e25928fd05b22257dd56f5d4d9a2bcd3e1f3fb36303144c53162641", func := "chronicle/chroniclekeep.Applied", spec := "applied", inPlace := ["internal/abi.NoEscape"], apart := false }
def AppliedSaid : Prop := appliedRow.holds Try.pinned (OpenSpec.ofChange appliedSpec)

/-- ITS FALSE NEIGHBOUR: 'it returns false'. Refute it at one input. -/
def appliedWrong : ChangeSpec := { name := "applied", fn := fun _ => fun
  | [d1, d2, d3, d4] => { results := [.lit (.bool false)], args := [d1, d2, d3, d4] }
  | _ => none }
def AppliedWrongFalsely : Prop := appliedRow.holds Try.pinned (OpenSpec.ofChange appliedWrong)

/- THE SECOND FORM. 'bulk': how many values and letters a reading holds, each counted each time it is reached (what is shared counts as often as it is met; a slice's spare places count too). A statement '..UptoSaid' is the law's where the arguments, and the package variables that the reading takes, are together of bulk at most 1048576: NARROWER than '..Said'. Prove '..Said' where nothing that the law and all that it calls make is longer than what came in: it says more and counts as full. Else prove '..UptoSaid'. A law counts once. -/
mutual
def uptoBulk {H : Type} : DataW H → Nat
  | .lit (.string bytes) => bytes.length + 1
  | .lit _ => 1
  | .nil => 1
  | .ptr d => uptoBulk d + 1
  | .slice elems spare => uptoBulkAll elems + uptoBulkAll spare + 1
  | .agg parts => uptoBulkAll parts + 1
  | .iface _ d => uptoBulk d + 1
  | .map entries => uptoBulkEntries entries + 1
  | .held _ => 1
def uptoBulkAll {H : Type} : List (DataW H) → Nat
  | [] => 0
  | d :: r => uptoBulk d + uptoBulkAll r
def uptoBulkEntries {H : Type} : List (Lit × DataW H) → Nat
  | [] => 0
  | x :: r => uptoBulkEntry x + uptoBulkEntries r
def uptoBulkEntry {H : Type} : Lit × DataW H → Nat
  | (.string bytes, d) => bytes.length + uptoBulk d + 1
  | (_, d) => uptoBulk d + 1
 end
def uptoSmall : (H : Type) → List (DataW H) → Bool := fun _ ds => decide (uptoBulkAll ds ≤ 1048576)
def OpenSpec.upto (s : _root_.Go.ChangeSpec) : _root_.Go.OpenSpec := { _root_.Go.OpenSpec.ofChange s with cond := some uptoSmall }

/-- 'chroniclelaw.Encodes', WHERE WHAT IT READS IS OF BULK AT MOST 1048576: true; the input reads as it did. -/
def encodesUptoRow : OpenClaim := { program := "ytdjllnhahhjgmaa", sum := "9d07aa426e25928fd05b22257dd56f5d4d9a2bcd3e1f3fb36303144c53162641", func := "chronicle/chroniclelaw.Encodes", spec := "encodes", inPlace := ["internal/abi.NoEscape"], unfollowed := true, recurses := true, apart := false, narrowed := true }
def EncodesUptoSaid : Prop := encodesUptoRow.holds Try.pinned (OpenSpec.upto encodesSpec)

/-- 'chroniclelaw.Decodes', WHERE WHAT IT READS IS OF BULK AT MOST 1048576: true; the input reads as it did. -/
def decodesUptoRow : OpenClaim := { program := "ytdjllnhahhjgmaa", sum := "9d07aa426e25928fd05b22257dd56f5d4d9a2bcd3e1f3fb36303144c53162641", func := "chronicle/chroniclelaw.Decodes", spec := "decodes", inPlace := ["internal/bytealg.IndexByteString", "internal/abi.NoEscape"], unfollowed := true, recurses := true, apart := false, narrowed := true }
def DecodesUptoSaid : Prop := decodesUptoRow.holds Try.pinned (OpenSpec.upto decodesSpec)

/-- 'chroniclelaw.Changes', WHERE WHAT IT READS IS OF BULK AT MOST 1048576: true; the input reads as it did. -/
def changesUptoRow : OpenClaim := { program := "ytdjllnhahhjgmaa", sum := "9d07aa426e25928fd05b22257dd56f5d4d9a2bcd3e1f3fb36303144c53162641", func := "chronicle/chroniclelaw.Changes", spec := "changes", inPlace := ["internal/abi.NoEscape"], recurses := true, apart := false, narrowed := true }
def ChangesUptoSaid : Prop := changesUptoRow.holds Try.pinned (OpenSpec.upto changesSpec)

/-- 'chroniclekeep.Back', WHERE WHAT IT READS IS OF BULK AT MOST 1048576: true; the input reads as it did. -/
def backUptoRow : OpenClaim := { program := "ytdjllnhahhjgmaa", sum := "9d07aa426e25928fd05b22257dd56f5d4d9a2bcd3e1f3fb36303144c53162641", func := "chronicle/chroniclekeep.Back", spec := "back", inPlace := ["internal/abi.NoEscape", "internal/bytealg.IndexByteString"], unfollowed := true, recurses := true, apart := false, narrowed := true }
def BackUptoSaid : Prop := backUptoRow.holds Try.pinned (OpenSpec.upto backSpec)

/-- 'chroniclekeep.OneWay', WHERE WHAT IT READS IS OF BULK AT MOST 1048576: true; the input reads as it did. -/
def oneWayUptoRow : OpenClaim := { program := "ytdjllnhahhjgmaa", sum := "9d07aa426e25928fd05b22257dd56f5d4d9a2bcd3e1f3fb36303144c53162641", func := "chronicle/chroniclekeep.OneWay", spec := "oneWay", inPlace := ["internal/abi.NoEscape", "internal/bytealg.IndexByteString"], unfollowed := true, recurses := true, apart := false, narrowed := true }
def OneWayUptoSaid : Prop := oneWayUptoRow.holds Try.pinned (OpenSpec.upto oneWaySpec)

/-- 'chroniclekeep.Applied', WHERE WHAT IT READS IS OF BULK AT MOST 1048576: true; the input reads as it did. -/
def appliedUptoRow : OpenClaim := { program := "ytdjllnhahhjgmaa", sum := "9d07aa426e25928fd05b22257dd56f5d4d9a2bcd3e1f3fb36303144c53162641", func := "chronicle/chroniclekeep.Applied", spec := "applied", inPlace := ["internal/abi.NoEscape"], apart := false, narrowed := true }
def AppliedUptoSaid : Prop := appliedUptoRow.holds Try.pinned (OpenSpec.upto appliedSpec)

end Rows
end Go.Proofs.Ytdjllnhahhjgmaa
