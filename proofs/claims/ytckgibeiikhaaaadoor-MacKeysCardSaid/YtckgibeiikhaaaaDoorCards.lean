/-
  DERIVED. GIVEN WITH THE SEED: THE CARDS: each row of YtckgibeiikhaaaaDoorRows.lean that lists a variable, with what it lists TIED to the program's text (the seventh form; the later family's looks); each row that meets fmt, with fmt's text TOLD by the authors' own Lean function (tested against real Go, not proved from fmt's source: count such statements apart). THE CARD IS WHAT COUNTS. Prove the row's statement (the work); the ties are given (YtckgibeiikhaaaaDoorTie.lean); close each card by the builder's one call (the guide's Derived/Test/ToyasCard.lean, 'card_holds'). Laid BY PROGRAM, IN A SANDBOX (cutbox-door.mjs). By AI agents, Wed Nov 11 2026. No macro, syntax, notation, axiom, sorry.
-/
import Derived.Test.YtckgibeiikhaaaaDoorRows
import GoSem.ClaimSeven
namespace Go.Proofs.YtckgibeiikhaaaaDoor
namespace Rows

/-- THE TIED CARD OF 'baileelaw03.MacOf'. -/
def macOfCard : Claim7 := { stood := { row := macOfRow, standIns := [], harness := (true, "e28ea02c2dc53758cfb0f8fa37f20c4fcf591bbf74aeb99c1d99eb064917b334"), looks := false }, kinds := [], alts := [], laidByText := true, laidKinds := [.data, .data], laidTests := true, laidLooks := .later }
def MacOfCardSaid : Prop := Claim7.holds Tryd.pinned (.plain (OpenSpec.ofChange macOfSpec)) macOfCard

/-- THE TIED CARD OF 'baileelaw03.MacDerive'. -/
def macDeriveCard : Claim7 := { stood := { row := macDeriveRow, standIns := [], harness := (true, "e28ea02c2dc53758cfb0f8fa37f20c4fcf591bbf74aeb99c1d99eb064917b334"), looks := false }, kinds := [], alts := [], laidByText := true, laidKinds := [.data, .data], laidTests := true, laidLooks := .later }
def MacDeriveCardSaid : Prop := Claim7.holds Tryd.pinned (.plain (OpenSpec.ofChange macDeriveSpec)) macDeriveCard

/-- THE TIED CARD OF 'baileelaw03.MacSame'. -/
def macSameCard : Claim7 := { stood := { row := macSameRow, standIns := [], harness := (true, "e28ea02c2dc53758cfb0f8fa37f20c4fcf591bbf74aeb99c1d99eb064917b334"), looks := false }, kinds := [], alts := [], laidByText := true, laidKinds := [.data, .data], laidTests := true, laidLooks := .later }
def MacSameCardSaid : Prop := Claim7.holds Tryd.pinned (.plain (OpenSpec.ofChange macSameSpec)) macSameCard

/-- THE TIED CARD OF 'baileelaw03.MacCuts'. -/
def macCutsCard : Claim7 := { stood := { row := macCutsRow, standIns := [], harness := (true, "e28ea02c2dc53758cfb0f8fa37f20c4fcf591bbf74aeb99c1d99eb064917b334"), looks := false }, kinds := [], alts := [], laidByText := true, laidKinds := [.data, .data], laidTests := true, laidLooks := .later }
def MacCutsCardSaid : Prop := Claim7.holds Tryd.pinned (.plain (OpenSpec.ofChange macCutsSpec)) macCutsCard

/-- THE TIED CARD OF 'baileelaw03.MacKeys'. -/
def macKeysCard : Claim7 := { stood := { row := macKeysRow, standIns := [], harness := (true, "e28ea02c2dc53758cfb0f8fa37f20c4fcf591bbf74aeb99c1d99eb064917b334"), looks := false }, kinds := [], alts := [], laidByText := true, laidKinds := [.data, .data], laidTests := true, laidLooks := .later }
def MacKeysCardSaid : Prop := Claim7.holds Tryd.pinned (.plain (OpenSpec.ofChange macKeysSpec)) macKeysCard

/-- THE SECOND FORM's CARD OF 'baileelaw03.MacOf'. -/
def macOfUptoCard : Claim7 := { stood := { row := macOfUptoRow, standIns := [], harness := (true, "e28ea02c2dc53758cfb0f8fa37f20c4fcf591bbf74aeb99c1d99eb064917b334"), looks := false }, kinds := [], alts := [], laidByText := true, laidKinds := [.data, .data], laidTests := true, laidLooks := .later }
def MacOfUptoCardSaid : Prop := Claim7.holds Tryd.pinned (.plain (OpenSpec.upto macOfSpec)) macOfUptoCard

/-- THE SECOND FORM's CARD OF 'baileelaw03.MacDerive'. -/
def macDeriveUptoCard : Claim7 := { stood := { row := macDeriveUptoRow, standIns := [], harness := (true, "e28ea02c2dc53758cfb0f8fa37f20c4fcf591bbf74aeb99c1d99eb064917b334"), looks := false }, kinds := [], alts := [], laidByText := true, laidKinds := [.data, .data], laidTests := true, laidLooks := .later }
def MacDeriveUptoCardSaid : Prop := Claim7.holds Tryd.pinned (.plain (OpenSpec.upto macDeriveSpec)) macDeriveUptoCard

/-- THE SECOND FORM's CARD OF 'baileelaw03.MacSame'. -/
def macSameUptoCard : Claim7 := { stood := { row := macSameUptoRow, standIns := [], harness := (true, "e28ea02c2dc53758cfb0f8fa37f20c4fcf591bbf74aeb99c1d99eb064917b334"), looks := false }, kinds := [], alts := [], laidByText := true, laidKinds := [.data, .data], laidTests := true, laidLooks := .later }
def MacSameUptoCardSaid : Prop := Claim7.holds Tryd.pinned (.plain (OpenSpec.upto macSameSpec)) macSameUptoCard

/-- THE SECOND FORM's CARD OF 'baileelaw03.MacCuts'. -/
def macCutsUptoCard : Claim7 := { stood := { row := macCutsUptoRow, standIns := [], harness := (true, "e28ea02c2dc53758cfb0f8fa37f20c4fcf591bbf74aeb99c1d99eb064917b334"), looks := false }, kinds := [], alts := [], laidByText := true, laidKinds := [.data, .data], laidTests := true, laidLooks := .later }
def MacCutsUptoCardSaid : Prop := Claim7.holds Tryd.pinned (.plain (OpenSpec.upto macCutsSpec)) macCutsUptoCard

/-- THE SECOND FORM's CARD OF 'baileelaw03.MacKeys'. -/
def macKeysUptoCard : Claim7 := { stood := { row := macKeysUptoRow, standIns := [], harness := (true, "e28ea02c2dc53758cfb0f8fa37f20c4fcf591bbf74aeb99c1d99eb064917b334"), looks := false }, kinds := [], alts := [], laidByText := true, laidKinds := [.data, .data], laidTests := true, laidLooks := .later }
def MacKeysUptoCardSaid : Prop := Claim7.holds Tryd.pinned (.plain (OpenSpec.upto macKeysSpec)) macKeysUptoCard
end Rows
end Go.Proofs.YtckgibeiikhaaaaDoor
