/-
  The walk of the statement BlocksTorn, for its frame.
-/
import Derived.Test.YthndpfkgljkpcaaBlkTornN
import Derived.Test.YthndpfkgljkpcaaBlkTornH
import Derived.Test.YthndpfkgljkpcaaBlkTornM
namespace Go.Proofs.Ythndpfkgljkpcaa
open Go.RowKit

theorem law_torn {x y z t : Int} (hx : (Lit.int .u8 x).wf = true) (hy : (Lit.int .u8 y).wf = true) (hz : (Lit.int .u8 z).wf = true) (_ : (Lit.int .i64 t).wf = true) {w : World} :
    Calls Try.prog 4 #[.int .u8 x, .int .u8 y, .int .u8 z, .int .i64 t] w fun e w' => e = .returned (.bool true) ∧ Below w.heap.size w w' := by
  have bx := bounds_u8 hx
  have by_ := bounds_u8 hy
  have bz := bounds_u8 hz
  obtain ⟨x, rfl⟩ := Int.eq_ofNat_of_zero_le bx.1
  obtain ⟨y, rfl⟩ := Int.eq_ofNat_of_zero_le by_.1
  obtain ⟨z, rfl⟩ := Int.eq_ofNat_of_zero_le bz.1
  by_cases h1 : t < 0
  · exact walk_btornN (by omega) (by omega) (by omega) h1 w
  · by_cases h2 : 128 < t
    · exact walk_btornH (by omega) (by omega) (by omega) h2 w
    · obtain ⟨t, rfl⟩ := Int.eq_ofNat_of_zero_le (show 0 ≤ t by omega)
      exact walk_btornM (by omega) (by omega) (by omega) (by omega) w
end Go.Proofs.Ythndpfkgljkpcaa
