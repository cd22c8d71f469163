/-
  seal: what awake finds, as the kernel works it out.
-/
import Derived.Test.YtlkkocgjpljibaaDoorSealPure
namespace Go.Proofs.YtlkkocgjpljibaaDoor
open Go.RowKit
def k3 : List UInt8 := 3 :: List.replicate 31 0
def k4 : List UInt8 := 4 :: List.replicate 31 0
set_option maxRecDepth 100000 in
theorem k4_refuses : ¬ Vouched k4 (sealL k3 2 5 [97, 98, 99]) := by decide +kernel
set_option maxRecDepth 100000 in
theorem k3_names : macL (drvL k3 nameB 0) [] ≠ List.replicate 32 0 := by decide +kernel
end Go.Proofs.YtlkkocgjpljibaaDoor
