/-
  What the listed variables hold (the digest's two tables and the table of quarters): the list, the door's own heap, 'Tab' and 'QTab'.
-/
import Derived.Test.YtlkkocgjpljibaaDoorLaidH
import Derived.Test.YtlkkocgjpljibaaDoorLaidQ
import Derived.ProofKit
import Derived.LaidMore
import Derived.OpenShut
import Derived.Stop.Joined
namespace Go.Proofs.YtlkkocgjpljibaaDoor
open Go.ChangeShapes Go.WideShapes Go.ChangeAt Go.WideMaps Go.WideElems Go.RowKit

def laidsB : List (String × DataW Unit) := [("bailee/stream.quarters", Rows.laid_bailee_stream_quarters), ("bailee/digest.first", Rows.laid_bailee_digest_first), ("bailee/digest.ofRound", Rows.laid_bailee_digest_ofRound)]
theorem door_metB (os : Os) (args : Array Value) : laidMetH Tryd.prog laidsB ((World.doorLaid Tryd.prog 400 os).forCall (fun _ _ => 0) ⟨#[], args, []⟩).memory :=
  laidMetH_of_parts3 (fuel := 8) (laidMet_of_run' 8 (by kernel_rfl) (by kernel_rfl)) (by kernel_rfl) (by kernel_rfl)

theorem tab_of_laidB {W : World} (h : laidMetH Tryd.prog laidsB W) : Tab W ∧ QTab W := ⟨tab_of h (by kernel_rfl) (by simp [laidsB]) (by simp [laidsB]), qtab_of h (by kernel_rfl) (by simp [laidsB])⟩
end Go.Proofs.YtlkkocgjpljibaaDoor
