/-
  The walk of the statement BlocksOwn, for its frame.
-/
import Derived.Test.YthndpfkgljkpcaaBlkOwn
namespace Go.Proofs.Ythndpfkgljkpcaa
open Go.RowKit

theorem law_own {x y s z : Int} (hx : (Lit.int .u8 x).wf = true) (hy : (Lit.int .u8 y).wf = true) (hs : (Lit.int .u8 s).wf = true) (hz : (Lit.int .u8 z).wf = true) {w : World} :
    Calls Try.prog 5 #[.int .u8 x, .int .u8 y, .int .u8 s, .int .u8 z] w fun e w' => e = .returned (.bool true) ∧ Below w.heap.size w w' := walk_bown hx hy hs hz w
end Go.Proofs.Ythndpfkgljkpcaa
