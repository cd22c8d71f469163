/-
  The walk of the statement WalPlays, for its frame.
-/
import Derived.Test.YtkhbmgmppoepjaaWalPlays
namespace Go.Proofs.Ytkhbmgmppoepjaa
open Go.RowKit

theorem law_wplays {x y z : Int} (hx : (Lit.int .i64 x).wf = true) (hy : (Lit.int .i64 y).wf = true) (hz : (Lit.int .u64 z).wf = true) {w : World} {A : Option Addr} {ns cs : Nat} {l : List WAct} (hacts : WActs w A ns cs l) :
    Calls Try.prog 3 #[.int .i64 x, .int .i64 y, .int .u64 z, .slice A ns cs] w fun e w' => e = .returned (.bool true) ∧ Below w.heap.size w w' := by
  have bx := bounds_i64 hx
  have by_ := bounds_i64 hy
  have bz := bounds_u64 hz
  obtain ⟨z, rfl⟩ := Int.eq_ofNat_of_zero_le bz.1
  exact wplays_run hacts x y z (by omega) (by omega) (by omega)
end Go.Proofs.Ytkhbmgmppoepjaa
