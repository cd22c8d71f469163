/-
  What the listed variables hold (the digest's two tables): the list, the door's own heap, 'Tab'.
-/
import Derived.Test.YtebhlfmianohlaaDoorLaidH
import Derived.ProofKit
import Derived.LaidMore
import Derived.OpenShut
import Derived.Stop.Joined
namespace Go.Proofs.YtebhlfmianohlaaDoor
open Go.ChangeShapes Go.WideShapes Go.ChangeAt Go.WideMaps Go.WideElems Go.RowKit

def laids : List (String × DataW Unit) := [("bailee/digest.first", Rows.laid_bailee_digest_first), ("bailee/digest.ofRound", Rows.laid_bailee_digest_ofRound)]
theorem door_met (os : Os) (args : Array Value) : laidMetH Tryd.prog laids ((World.doorLaid Tryd.prog 400 os).forCall (fun _ _ => 0) ⟨#[], args, []⟩).memory :=
  laidMetH_of_parts3 (fuel := 8) (laidMet_of_run' 8 (by kernel_rfl) (by kernel_rfl)) (by kernel_rfl) (by kernel_rfl)

theorem tab_of_laid {W : World} (h : laidMetH Tryd.prog laids W) : Tab W := tab_of h (by kernel_rfl) (by simp [laids]) (by simp [laids])
end Go.Proofs.YtebhlfmianohlaaDoor
