/-
  DERIVED. GIVEN WITH THE SEED: THE CARDS: each row of YtjingbichgpfaaaDoorRows.lean that lists a variable, with what it lists TIED to the program's text (the seventh form; the later family's looks); each row that meets fmt, with fmt's text TOLD by the authors' own Lean function (tested against real Go, not proved from fmt's source: count such statements apart). THE CARD IS WHAT COUNTS. Prove the row's statement (the work); the ties are given (YtjingbichgpfaaaDoorTie.lean); close each card by the builder's one call (the guide's Derived/Test/ToyasCard.lean, 'card_holds'). Laid BY PROGRAM, IN A SANDBOX (cutbox-door.mjs). By AI agents, Wed Nov 11 2026. No macro, syntax, notation, axiom, sorry.
-/
import Derived.Test.YtjingbichgpfaaaDoorRows
import GoSem.ClaimSeven
namespace Go.Proofs.YtjingbichgpfaaaDoor
namespace Rows

/-- THE TIED CARD OF 'baileelaw02.DigestOf'. -/
def digestOfCard : Claim7 := { stood := { row := digestOfRow, standIns := [], harness := (true, "7f21ae6a5bae41a7d901c21e4eea34a87dc060f43f62c18b75006f2e462eaeb1"), looks := false }, kinds := [], alts := [], laidByText := true, laidKinds := [.data, .data], laidTests := true, laidLooks := .later }
def DigestOfCardSaid : Prop := Claim7.holds Tryd.pinned (.plain (OpenSpec.ofChange digestOfSpec)) digestOfCard

/-- THE TIED CARD OF 'baileelaw02.DigestCuts'. -/
def digestCutsCard : Claim7 := { stood := { row := digestCutsRow, standIns := [], harness := (true, "7f21ae6a5bae41a7d901c21e4eea34a87dc060f43f62c18b75006f2e462eaeb1"), looks := false }, kinds := [], alts := [], laidByText := true, laidKinds := [.data, .data], laidTests := true, laidLooks := .later }
def DigestCutsCardSaid : Prop := Claim7.holds Tryd.pinned (.plain (OpenSpec.ofChange digestCutsSpec)) digestCutsCard

/-- THE TIED CARD OF 'baileelaw02.DigestTwo'. -/
def digestTwoCard : Claim7 := { stood := { row := digestTwoRow, standIns := [], harness := (true, "7f21ae6a5bae41a7d901c21e4eea34a87dc060f43f62c18b75006f2e462eaeb1"), looks := false }, kinds := [], alts := [], laidByText := true, laidKinds := [.data, .data], laidTests := true, laidLooks := .later }
def DigestTwoCardSaid : Prop := Claim7.holds Tryd.pinned (.plain (OpenSpec.ofChange digestTwoSpec)) digestTwoCard

/-- THE TIED CARD OF 'baileelaw02.DigestNoughts'. -/
def digestNoughtsCard : Claim7 := { stood := { row := digestNoughtsRow, standIns := [], harness := (true, "7f21ae6a5bae41a7d901c21e4eea34a87dc060f43f62c18b75006f2e462eaeb1"), looks := false }, kinds := [], alts := [], laidByText := true, laidKinds := [.data, .data], laidTests := true, laidLooks := .later }
def DigestNoughtsCardSaid : Prop := Claim7.holds Tryd.pinned (.plain (OpenSpec.ofChange digestNoughtsSpec)) digestNoughtsCard

/-- THE TIED CARD OF 'baileelaw02.DigestLong'. -/
def digestLongCard : Claim7 := { stood := { row := digestLongRow, standIns := [], harness := (true, "7f21ae6a5bae41a7d901c21e4eea34a87dc060f43f62c18b75006f2e462eaeb1"), looks := false }, kinds := [], alts := [], laidByText := true, laidKinds := [.data, .data], laidTests := true, laidLooks := .later }
def DigestLongCardSaid : Prop := Claim7.holds Tryd.pinned (.plain (OpenSpec.ofChange digestLongSpec)) digestLongCard

/-- THE TIED CARD OF 'baileelaw02.DigestBits'. -/
def digestBitsCard : Claim7 := { stood := { row := digestBitsRow, standIns := [], harness := (true, "7f21ae6a5bae41a7d901c21e4eea34a87dc060f43f62c18b75006f2e462eaeb1"), looks := false }, kinds := [], alts := [], laidByText := true, laidKinds := [.data, .data], laidTests := true, laidLooks := .later }
def DigestBitsCardSaid : Prop := Claim7.holds Tryd.pinned (.plain (OpenSpec.ofChange digestBitsSpec)) digestBitsCard

/-- THE SECOND FORM's CARD OF 'baileelaw02.DigestOf'. -/
def digestOfUptoCard : Claim7 := { stood := { row := digestOfUptoRow, standIns := [], harness := (true, "7f21ae6a5bae41a7d901c21e4eea34a87dc060f43f62c18b75006f2e462eaeb1"), looks := false }, kinds := [], alts := [], laidByText := true, laidKinds := [.data, .data], laidTests := true, laidLooks := .later }
def DigestOfUptoCardSaid : Prop := Claim7.holds Tryd.pinned (.plain (OpenSpec.upto digestOfSpec)) digestOfUptoCard

/-- THE SECOND FORM's CARD OF 'baileelaw02.DigestCuts'. -/
def digestCutsUptoCard : Claim7 := { stood := { row := digestCutsUptoRow, standIns := [], harness := (true, "7f21ae6a5bae41a7d901c21e4eea34a87dc060f43f62c18b75006f2e462eaeb1"), looks := false }, kinds := [], alts := [], laidByText := true, laidKinds := [.data, .data], laidTests := true, laidLooks := .later }
def DigestCutsUptoCardSaid : Prop := Claim7.holds Tryd.pinned (.plain (OpenSpec.upto digestCutsSpec)) digestCutsUptoCard

/-- THE SECOND FORM's CARD OF 'baileelaw02.DigestTwo'. -/
def digestTwoUptoCard : Claim7 := { stood := { row := digestTwoUptoRow, standIns := [], harness := (true, "7f21ae6a5bae41a7d901c21e4eea34a87dc060f43f62c18b75006f2e462eaeb1"), looks := false }, kinds := [], alts := [], laidByText := true, laidKinds := [.data, .data], laidTests := true, laidLooks := .later }
def DigestTwoUptoCardSaid : Prop := Claim7.holds Tryd.pinned (.plain (OpenSpec.upto digestTwoSpec)) digestTwoUptoCard

/-- THE SECOND FORM's CARD OF 'baileelaw02.DigestNoughts'. -/
def digestNoughtsUptoCard : Claim7 := { stood := { row := digestNoughtsUptoRow, standIns := [], harness := (true, "7f21ae6a5bae41a7d901c21e4eea34a87dc060f43f62c18b75006f2e462eaeb1"), looks := false }, kinds := [], alts := [], laidByText := true, laidKinds := [.data, .data], laidTests := true, laidLooks := .later }
def DigestNoughtsUptoCardSaid : Prop := Claim7.holds Tryd.pinned (.plain (OpenSpec.upto digestNoughtsSpec)) digestNoughtsUptoCard

/-- THE SECOND FORM's CARD OF 'baileelaw02.DigestLong'. -/
def digestLongUptoCard : Claim7 := { stood := { row := digestLongUptoRow, standIns := [], harness := (true, "7f21ae6a5bae41a7d901c21e4eea34a87dc060f43f62c18b75006f2e462eaeb1"), looks := false }, kinds := [], alts := [], laidByText := true, laidKinds := [.data, .data], laidTests := true, laidLooks := .later }
def DigestLongUptoCardSaid : Prop := Claim7.holds Tryd.pinned (.plain (OpenSpec.upto digestLongSpec)) digestLongUptoCard

/-- THE SECOND FORM's CARD OF 'baileelaw02.DigestBits'. -/
def digestBitsUptoCard : Claim7 := { stood := { row := digestBitsUptoRow, standIns := [], harness := (true, "7f21ae6a5bae41a7d901c21e4eea34a87dc060f43f62c18b75006f2e462eaeb1"), looks := false }, kinds := [], alts := [], laidByText := true, laidKinds := [.data, .data], laidTests := true, laidLooks := .later }
def DigestBitsUptoCardSaid : Prop := Claim7.holds Tryd.pinned (.plain (OpenSpec.upto digestBitsSpec)) digestBitsUptoCard
end Rows
end Go.Proofs.YtjingbichgpfaaaDoor
