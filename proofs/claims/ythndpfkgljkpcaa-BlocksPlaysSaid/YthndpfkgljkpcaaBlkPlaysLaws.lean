/-
  The walk of the statement BlocksPlays, for its frame.
-/
import Derived.Test.YthndpfkgljkpcaaBlkPlaysLaw
namespace Go.Proofs.Ythndpfkgljkpcaa
open Go.RowKit

theorem law_plays {n : Int} (_ : (Lit.int .i64 n).wf = true) {w : World} {A : Option Addr} {ns cs : Nat} {l : List BAct} (hacts : BActs w A ns cs l) :
    Calls Try.prog 3 #[.int .i64 n, .slice A ns cs] w fun e w' => e = .returned (.bool true) ∧ Below w.heap.size w w' := walk_bplays hacts n
end Go.Proofs.Ythndpfkgljkpcaa
