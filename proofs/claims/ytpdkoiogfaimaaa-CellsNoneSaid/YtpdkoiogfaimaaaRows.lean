/-
  No cell of these rows narrows 'for every input' (looked for: loops, veiled, ifaces, maps, wideKeys, modest, calm, conditions, laid).
  DERIVED. THE GIVEN ROWS OF THIS SEAT. 3 by the template 'for every input the law returns true; each argument reads behind the call as it read before'; 0 by the template 'total and deterministic' (their statements: YtpdkoiogfaimaaaTotals.lean).
  GIVEN WITH THE SEED: the statements are not yours to turn. If you find one false, say at which input.
  Laid BY PROGRAM, IN A SANDBOX (cutbox-rows.mjs): the forced cells as the released guide's own fill.sh prints them over the translation 7488690facf4f20f… (all of the seat's roots in one cut). By AI agents, Wed Nov 11 2026. No macro, syntax, notation, axiom, sorry.
-/
import Derived.Test.YtpdkoiogfaimaaaChecked
import GoSem.Claim
import GoSem.ClaimJoined
import GoSem.ClaimMapViews
import Derived.JoinedTies
import Derived.KernelRfl
namespace Go.Proofs.Ytpdkoiogfaimaaa
/- THE CELL 'sum', in the pinned program and in every row, IS THE sha256 OF THE DUMP (.gsa) THAT YtpdkoiogfaimaaaProg.lean LOADS. Nothing in Lean hashes anything: it is a label: what it is worth is what the hold of that sum in a sandbox is worth. -/
noncomputable def Try.pinned : Pinned := { name := "ytpdkoiogfaimaaa", sum := "7488690facf4f20f79ced7ed9cc6486bfd11e22a4ccf19f3d858a5d6b4d0c477", checked := Try.checked }
namespace Rows
def none {H : Type} : Left H := { results := [], args := [] }

/-- 'baileelaw10.CellsNone': WHATEVER THE INPUT: true; the input reads as it did. -/
def cellsNoneSpec : ChangeSpec := { name := "cellsNone", fn := fun _ => fun
  | [d1, d2] => { results := [.lit (.bool true)], args := [d1, d2] }
  | _ => none }
def cellsNoneRow : OpenClaim := { program := "ytpdkoiogfaimaaa", sum := "7488690facf4f20f79ced7ed9cc6486bfd11e22a4ccf19f3d858a5d6b4d0c477", func := "bailee/baileelaw10.CellsNone", spec := "cellsNone", inPlace := ["maps.clone"], unfollowed := true, recurses := true, apart := false }
def CellsNoneSaid : Prop := cellsNoneRow.holds Try.pinned (OpenSpec.ofChange cellsNoneSpec)

/-- ITS FALSE NEIGHBOUR: 'it returns false'. Refute it at one input. -/
def cellsNoneWrong : ChangeSpec := { name := "cellsNone", fn := fun _ => fun
  | [d1, d2] => { results := [.lit (.bool false)], args := [d1, d2] }
  | _ => none }
def CellsNoneWrongFalsely : Prop := cellsNoneRow.holds Try.pinned (OpenSpec.ofChange cellsNoneWrong)

/-- 'baileelaw10.CellsTurns': WHATEVER THE INPUT: true; the input reads as it did. -/
def cellsTurnsSpec : ChangeSpec := { name := "cellsTurns", fn := fun _ => fun
  | [d1, d2, d3] => { results := [.lit (.bool true)], args := [d1, d2, d3] }
  | _ => none }
def cellsTurnsRow : OpenClaim := { program := "ytpdkoiogfaimaaa", sum := "7488690facf4f20f79ced7ed9cc6486bfd11e22a4ccf19f3d858a5d6b4d0c477", func := "bailee/baileelaw10.CellsTurns", spec := "cellsTurns", inPlace := ["maps.clone"], unfollowed := true, recurses := true, apart := false }
def CellsTurnsSaid : Prop := cellsTurnsRow.holds Try.pinned (OpenSpec.ofChange cellsTurnsSpec)

/-- ITS FALSE NEIGHBOUR: 'it returns false'. Refute it at one input. -/
def cellsTurnsWrong : ChangeSpec := { name := "cellsTurns", fn := fun _ => fun
  | [d1, d2, d3] => { results := [.lit (.bool false)], args := [d1, d2, d3] }
  | _ => none }
def CellsTurnsWrongFalsely : Prop := cellsTurnsRow.holds Try.pinned (OpenSpec.ofChange cellsTurnsWrong)

/-- 'baileelaw10.CellsFull': WHATEVER THE INPUT: true; the input reads as it did. -/
def cellsFullSpec : ChangeSpec := { name := "cellsFull", fn := fun _ => fun
  | [d1, d2, d3] => { results := [.lit (.bool true)], args := [d1, d2, d3] }
  | _ => none }
def cellsFullRow : OpenClaim := { program := "ytpdkoiogfaimaaa", sum := "7488690facf4f20f79ced7ed9cc6486bfd11e22a4ccf19f3d858a5d6b4d0c477", func := "bailee/baileelaw10.CellsFull", spec := "cellsFull", inPlace := ["maps.clone"], unfollowed := true, recurses := true, apart := false }
def CellsFullSaid : Prop := cellsFullRow.holds Try.pinned (OpenSpec.ofChange cellsFullSpec)

/-- ITS FALSE NEIGHBOUR: 'it returns false'. Refute it at one input. -/
def cellsFullWrong : ChangeSpec := { name := "cellsFull", fn := fun _ => fun
  | [d1, d2, d3] => { results := [.lit (.bool false)], args := [d1, d2, d3] }
  | _ => none }
def CellsFullWrongFalsely : Prop := cellsFullRow.holds Try.pinned (OpenSpec.ofChange cellsFullWrong)

/- THE SECOND FORM. 'bulk': how many values and letters a reading holds, each counted each time it is reached (what is shared counts as often as it is met; a slice's spare places count too). A statement '..UptoSaid' is the law's where the arguments, and the package variables that the reading takes, are together of bulk at most 1048576: NARROWER than '..Said'. Prove '..Said' where nothing that the law and all that it calls make is longer than what came in: it says more and counts as full. Else prove '..UptoSaid'. A law counts once. -/
mutual
def uptoBulk {H : Type} : DataW H → Nat
  | .lit (.string bytes) => bytes.length + 1
  | .lit _ => 1
  | .nil => 1
  | .ptr d => uptoBulk d + 1
  | .slice elems spare => uptoBulkAll elems + uptoBulkAll spare + 1
  | .agg parts => uptoBulkAll parts + 1
  | .iface _ d => uptoBulk d + 1
  | .map entries => uptoBulkEntries entries + 1
  | .held _ => 1
def uptoBulkAll {H : Type} : List (DataW H) → Nat
  | [] => 0
  | d :: r => uptoBulk d + uptoBulkAll r
def uptoBulkEntries {H : Type} : List (Lit × DataW H) → Nat
  | [] => 0
  | x :: r => uptoBulkEntry x + uptoBulkEntries r
def uptoBulkEntry {H : Type} : Lit × DataW H → Nat
  | (.string bytes, d) => bytes.length + uptoBulk d + 1
  | (_, d) => uptoBulk d + 1
 end
def uptoSmall : (H : Type) → List (DataW H) → Bool := fun _ ds => decide (uptoBulkAll ds ≤ 1048576)
def OpenSpec.upto (s : _root_.Go.ChangeSpec) : _root_.Go.OpenSpec := { _root_.Go.OpenSpec.ofChange s with cond := some uptoSmall }

/-- 'baileelaw10.CellsNone', WHERE WHAT IT READS IS OF BULK AT MOST 1048576: true; the input reads as it did. -/
def cellsNoneUptoRow : OpenClaim := { program := "ytpdkoiogfaimaaa", sum := "7488690facf4f20f79ced7ed9cc6486bfd11e22a4ccf19f3d858a5d6b4d0c477", func := "bailee/baileelaw10.CellsNone", spec := "cellsNone", inPlace := ["maps.clone"], unfollowed := true, recurses := true, apart := false, narrowed := true }
def CellsNoneUptoSaid : Prop := cellsNoneUptoRow.holds Try.pinned (OpenSpec.upto cellsNoneSpec)

/-- 'baileelaw10.CellsTurns', WHERE WHAT IT READS IS OF BULK AT MOST 1048576: true; the input reads as it did. -/
def cellsTurnsUptoRow : OpenClaim := { program := "ytpdkoiogfaimaaa", sum := "7488690facf4f20f79ced7ed9cc6486bfd11e22a4ccf19f3d858a5d6b4d0c477", func := "bailee/baileelaw10.CellsTurns", spec := "cellsTurns", inPlace := ["maps.clone"], unfollowed := true, recurses := true, apart := false, narrowed := true }
def CellsTurnsUptoSaid : Prop := cellsTurnsUptoRow.holds Try.pinned (OpenSpec.upto cellsTurnsSpec)

/-- 'baileelaw10.CellsFull', WHERE WHAT IT READS IS OF BULK AT MOST 1048576: true; the input reads as it did. -/
def cellsFullUptoRow : OpenClaim := { program := "ytpdkoiogfaimaaa", sum := "7488690facf4f20f79ced7ed9cc6486bfd11e22a4ccf19f3d858a5d6b4d0c477", func := "bailee/baileelaw10.CellsFull", spec := "cellsFull", inPlace := ["maps.clone"], unfollowed := true, recurses := true, apart := false, narrowed := true }
def CellsFullUptoSaid : Prop := cellsFullUptoRow.holds Try.pinned (OpenSpec.upto cellsFullSpec)

end Rows
end Go.Proofs.Ytpdkoiogfaimaaa
