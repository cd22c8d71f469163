/-
  DERIVED. GIVEN WITH THE SEED: THE CARDS: each row of YtebhlfmianohlaaDoorRows.lean that lists a variable, with what it lists TIED to the program's text (the seventh form; the later family's looks); each row that meets fmt, with fmt's text TOLD by the authors' own Lean function (tested against real Go, not proved from fmt's source: count such statements apart). THE CARD IS WHAT COUNTS. Prove the row's statement (the work); the ties are given (YtebhlfmianohlaaDoorTie.lean); close each card by the builder's one call (the guide's Derived/Test/ToyasCard.lean, 'card_holds'). Laid BY PROGRAM, IN A SANDBOX (cutbox-door.mjs). By AI agents, Wed Nov 11 2026. No macro, syntax, notation, axiom, sorry.
-/
import Derived.Test.YtebhlfmianohlaaDoorRows
import GoSem.ClaimSeven
namespace Go.Proofs.YtebhlfmianohlaaDoor
namespace Rows

/-- THE TIED CARD OF 'baileelaw06.ProofMakes'. -/
def proofMakesCard : Claim7 := { stood := { row := proofMakesRow, standIns := [], harness := (true, "61247d7b585e84e8a3707cf5bffa76f5006f6434e94b789c271dc902a3051e04"), looks := false }, kinds := [], alts := [], laidByText := true, laidKinds := [.data, .data], laidTests := true, laidLooks := .later }
def ProofMakesCardSaid : Prop := Claim7.holds Tryd.pinned (.plain (OpenSpec.ofChange proofMakesSpec)) proofMakesCard

/-- THE TIED CARD OF 'baileelaw06.ProofChecks'. -/
def proofChecksCard : Claim7 := { stood := { row := proofChecksRow, standIns := [], harness := (true, "61247d7b585e84e8a3707cf5bffa76f5006f6434e94b789c271dc902a3051e04"), looks := false }, kinds := [], alts := [], laidByText := true, laidKinds := [.data, .data], laidTests := true, laidLooks := .later }
def ProofChecksCardSaid : Prop := Claim7.holds Tryd.pinned (.plain (OpenSpec.ofChange proofChecksSpec)) proofChecksCard

/-- THE TIED CARD OF 'baileelaw06.ProofHolds'. -/
def proofHoldsCard : Claim7 := { stood := { row := proofHoldsRow, standIns := [], harness := (true, "61247d7b585e84e8a3707cf5bffa76f5006f6434e94b789c271dc902a3051e04"), looks := false }, kinds := [], alts := [], laidByText := true, laidKinds := [.data, .data], laidTests := true, laidLooks := .later }
def ProofHoldsCardSaid : Prop := Claim7.holds Tryd.pinned (.plain (OpenSpec.ofChange proofHoldsSpec)) proofHoldsCard

/-- THE TIED CARD OF 'baileelaw06.ProofTwo'. -/
def proofTwoCard : Claim7 := { stood := { row := proofTwoRow, standIns := [], harness := (true, "61247d7b585e84e8a3707cf5bffa76f5006f6434e94b789c271dc902a3051e04"), looks := false }, kinds := [], alts := [], laidByText := true, laidKinds := [.data, .data], laidTests := true, laidLooks := .later }
def ProofTwoCardSaid : Prop := Claim7.holds Tryd.pinned (.plain (OpenSpec.ofChange proofTwoSpec)) proofTwoCard

/-- THE TIED CARD OF 'baileelaw06.ProofAll'. -/
def proofAllCard : Claim7 := { stood := { row := proofAllRow, standIns := [], harness := (true, "61247d7b585e84e8a3707cf5bffa76f5006f6434e94b789c271dc902a3051e04"), looks := false }, kinds := [], alts := [], laidByText := true, laidKinds := [.data, .data], laidTests := true, laidLooks := .later }
def ProofAllCardSaid : Prop := Claim7.holds Tryd.pinned (.plain (OpenSpec.ofChange proofAllSpec)) proofAllCard

/-- THE TIED CARD OF 'baileelaw06.ProofSwap'. -/
def proofSwapCard : Claim7 := { stood := { row := proofSwapRow, standIns := [], harness := (true, "61247d7b585e84e8a3707cf5bffa76f5006f6434e94b789c271dc902a3051e04"), looks := false }, kinds := [], alts := [], laidByText := true, laidKinds := [.data, .data], laidTests := true, laidLooks := .later }
def ProofSwapCardSaid : Prop := Claim7.holds Tryd.pinned (.plain (OpenSpec.ofChange proofSwapSpec)) proofSwapCard

/-- THE SECOND FORM's CARD OF 'baileelaw06.ProofMakes'. -/
def proofMakesUptoCard : Claim7 := { stood := { row := proofMakesUptoRow, standIns := [], harness := (true, "61247d7b585e84e8a3707cf5bffa76f5006f6434e94b789c271dc902a3051e04"), looks := false }, kinds := [], alts := [], laidByText := true, laidKinds := [.data, .data], laidTests := true, laidLooks := .later }
def ProofMakesUptoCardSaid : Prop := Claim7.holds Tryd.pinned (.plain (OpenSpec.upto proofMakesSpec)) proofMakesUptoCard

/-- THE SECOND FORM's CARD OF 'baileelaw06.ProofChecks'. -/
def proofChecksUptoCard : Claim7 := { stood := { row := proofChecksUptoRow, standIns := [], harness := (true, "61247d7b585e84e8a3707cf5bffa76f5006f6434e94b789c271dc902a3051e04"), looks := false }, kinds := [], alts := [], laidByText := true, laidKinds := [.data, .data], laidTests := true, laidLooks := .later }
def ProofChecksUptoCardSaid : Prop := Claim7.holds Tryd.pinned (.plain (OpenSpec.upto proofChecksSpec)) proofChecksUptoCard

/-- THE SECOND FORM's CARD OF 'baileelaw06.ProofHolds'. -/
def proofHoldsUptoCard : Claim7 := { stood := { row := proofHoldsUptoRow, standIns := [], harness := (true, "61247d7b585e84e8a3707cf5bffa76f5006f6434e94b789c271dc902a3051e04"), looks := false }, kinds := [], alts := [], laidByText := true, laidKinds := [.data, .data], laidTests := true, laidLooks := .later }
def ProofHoldsUptoCardSaid : Prop := Claim7.holds Tryd.pinned (.plain (OpenSpec.upto proofHoldsSpec)) proofHoldsUptoCard

/-- THE SECOND FORM's CARD OF 'baileelaw06.ProofTwo'. -/
def proofTwoUptoCard : Claim7 := { stood := { row := proofTwoUptoRow, standIns := [], harness := (true, "61247d7b585e84e8a3707cf5bffa76f5006f6434e94b789c271dc902a3051e04"), looks := false }, kinds := [], alts := [], laidByText := true, laidKinds := [.data, .data], laidTests := true, laidLooks := .later }
def ProofTwoUptoCardSaid : Prop := Claim7.holds Tryd.pinned (.plain (OpenSpec.upto proofTwoSpec)) proofTwoUptoCard

/-- THE SECOND FORM's CARD OF 'baileelaw06.ProofAll'. -/
def proofAllUptoCard : Claim7 := { stood := { row := proofAllUptoRow, standIns := [], harness := (true, "61247d7b585e84e8a3707cf5bffa76f5006f6434e94b789c271dc902a3051e04"), looks := false }, kinds := [], alts := [], laidByText := true, laidKinds := [.data, .data], laidTests := true, laidLooks := .later }
def ProofAllUptoCardSaid : Prop := Claim7.holds Tryd.pinned (.plain (OpenSpec.upto proofAllSpec)) proofAllUptoCard

/-- THE SECOND FORM's CARD OF 'baileelaw06.ProofSwap'. -/
def proofSwapUptoCard : Claim7 := { stood := { row := proofSwapUptoRow, standIns := [], harness := (true, "61247d7b585e84e8a3707cf5bffa76f5006f6434e94b789c271dc902a3051e04"), looks := false }, kinds := [], alts := [], laidByText := true, laidKinds := [.data, .data], laidTests := true, laidLooks := .later }
def ProofSwapUptoCardSaid : Prop := Claim7.holds Tryd.pinned (.plain (OpenSpec.upto proofSwapSpec)) proofSwapUptoCard
end Rows
end Go.Proofs.YtebhlfmianohlaaDoor
