/-
  DERIVED. GIVEN WITH THE SEED: THE CARDS: each row of YtmakpjcgiiljfaaDoorRows.lean that lists a variable, with what it lists TIED to the program's text (the seventh form; the later family's looks); each row that meets fmt, with fmt's text TOLD by the authors' own Lean function (tested against real Go, not proved from fmt's source: count such statements apart). THE CARD IS WHAT COUNTS. Prove the row's statement (the work); the ties are given (YtmakpjcgiiljfaaDoorTie.lean); close each card by the builder's one call (the guide's Derived/Test/ToyasCard.lean, 'card_holds'). Laid BY PROGRAM, IN A SANDBOX (cutbox-door.mjs). By AI agents, Wed Nov 11 2026. No macro, syntax, notation, axiom, sorry.
-/
import Derived.Test.YtmakpjcgiiljfaaDoorRows
import GoSem.ClaimSeven
namespace Go.Proofs.YtmakpjcgiiljfaaDoor
namespace Rows

/-- THE TIED CARD OF 'baileelaw12.ObjectsPuts'. -/
def objectsPutsCard : Claim7 := { stood := { row := objectsPutsRow, standIns := [], harness := (true, "b6892d2cef0a919bccb03932a438074041ff28366fc17e1c6174867f1186a514"), looks := false }, kinds := [], alts := [], laidByText := true, laidKinds := [.data, .pinned], laidTests := true, laidLooks := .later }
def ObjectsPutsCardSaid : Prop := Claim7.holds Tryd.pinned (.plain (OpenSpec.ofChange objectsPutsSpec)) objectsPutsCard

/-- THE TIED CARD OF 'baileelaw12.ObjectsGets'. -/
def objectsGetsCard : Claim7 := { stood := { row := objectsGetsRow, standIns := [], harness := (true, "b6892d2cef0a919bccb03932a438074041ff28366fc17e1c6174867f1186a514"), looks := false }, kinds := [], alts := [], laidByText := true, laidKinds := [.data, .pinned], laidTests := true, laidLooks := .later }
def ObjectsGetsCardSaid : Prop := Claim7.holds Tryd.pinned (.plain (OpenSpec.ofChange objectsGetsSpec)) objectsGetsCard

/-- THE TIED CARD OF 'baileelaw12.ObjectsBelow'. -/
def objectsBelowCard : Claim7 := { stood := { row := objectsBelowRow, standIns := [], harness := (true, "b6892d2cef0a919bccb03932a438074041ff28366fc17e1c6174867f1186a514"), looks := false }, kinds := [], alts := [], laidByText := true, laidKinds := [.data, .pinned], laidTests := true, laidLooks := .later }
def ObjectsBelowCardSaid : Prop := Claim7.holds Tryd.pinned (.plain (OpenSpec.ofChange objectsBelowSpec)) objectsBelowCard

/-- THE TIED CARD OF 'baileelaw12.ObjectsLimits'. -/
def objectsLimitsCard : Claim7 := { stood := { row := objectsLimitsRow, standIns := [], harness := (true, "b6892d2cef0a919bccb03932a438074041ff28366fc17e1c6174867f1186a514"), looks := false }, kinds := [], alts := [], laidByText := true, laidKinds := [.data, .pinned], laidTests := true, laidLooks := .later }
def ObjectsLimitsCardSaid : Prop := Claim7.holds Tryd.pinned (.plain (OpenSpec.ofChange objectsLimitsSpec)) objectsLimitsCard

/-- THE SECOND FORM's CARD OF 'baileelaw12.ObjectsPuts'. -/
def objectsPutsUptoCard : Claim7 := { stood := { row := objectsPutsUptoRow, standIns := [], harness := (true, "b6892d2cef0a919bccb03932a438074041ff28366fc17e1c6174867f1186a514"), looks := false }, kinds := [], alts := [], laidByText := true, laidKinds := [.data, .pinned], laidTests := true, laidLooks := .later }
def ObjectsPutsUptoCardSaid : Prop := Claim7.holds Tryd.pinned (.plain (OpenSpec.upto objectsPutsSpec)) objectsPutsUptoCard

/-- THE SECOND FORM's CARD OF 'baileelaw12.ObjectsGets'. -/
def objectsGetsUptoCard : Claim7 := { stood := { row := objectsGetsUptoRow, standIns := [], harness := (true, "b6892d2cef0a919bccb03932a438074041ff28366fc17e1c6174867f1186a514"), looks := false }, kinds := [], alts := [], laidByText := true, laidKinds := [.data, .pinned], laidTests := true, laidLooks := .later }
def ObjectsGetsUptoCardSaid : Prop := Claim7.holds Tryd.pinned (.plain (OpenSpec.upto objectsGetsSpec)) objectsGetsUptoCard

/-- THE SECOND FORM's CARD OF 'baileelaw12.ObjectsBelow'. -/
def objectsBelowUptoCard : Claim7 := { stood := { row := objectsBelowUptoRow, standIns := [], harness := (true, "b6892d2cef0a919bccb03932a438074041ff28366fc17e1c6174867f1186a514"), looks := false }, kinds := [], alts := [], laidByText := true, laidKinds := [.data, .pinned], laidTests := true, laidLooks := .later }
def ObjectsBelowUptoCardSaid : Prop := Claim7.holds Tryd.pinned (.plain (OpenSpec.upto objectsBelowSpec)) objectsBelowUptoCard

/-- THE SECOND FORM's CARD OF 'baileelaw12.ObjectsLimits'. -/
def objectsLimitsUptoCard : Claim7 := { stood := { row := objectsLimitsUptoRow, standIns := [], harness := (true, "b6892d2cef0a919bccb03932a438074041ff28366fc17e1c6174867f1186a514"), looks := false }, kinds := [], alts := [], laidByText := true, laidKinds := [.data, .pinned], laidTests := true, laidLooks := .later }
def ObjectsLimitsUptoCardSaid : Prop := Claim7.holds Tryd.pinned (.plain (OpenSpec.upto objectsLimitsSpec)) objectsLimitsUptoCard
end Rows
end Go.Proofs.YtmakpjcgiiljfaaDoor
