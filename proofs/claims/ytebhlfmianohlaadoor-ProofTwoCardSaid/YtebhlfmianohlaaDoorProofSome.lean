/-
  proof: what awake finds, as the kernel works it out.
-/
import Derived.Test.YtebhlfmianohlaaDoorProofPure
namespace Go.Proofs.YtebhlfmianohlaaDoor
open Go.RowKit
set_option maxRecDepth 100000 in
theorem proof_swapped : crownD 2 (nodeD (leafD [0]) (leafD (List.replicate 64 0))) ≠ crownD 2 (nodeD (leafD (List.replicate 64 0)) (leafD [0])) := by decide +kernel
end Go.Proofs.YtebhlfmianohlaaDoor
