/-
  The walk of the statement BlocksDown, for its frame.
-/
import Derived.Test.YthndpfkgljkpcaaBlkDown
namespace Go.Proofs.Ythndpfkgljkpcaa
open Go.RowKit

theorem law_down {x y z t : Int} (hx : (Lit.int .u8 x).wf = true) (hy : (Lit.int .u8 y).wf = true) (hz : (Lit.int .u8 z).wf = true) (_ : (Lit.int .i64 t).wf = true) {w : World} :
    Calls Try.prog 6 #[.int .u8 x, .int .u8 y, .int .u8 z, .int .i64 t] w fun e w' => e = .returned (.bool true) ∧ Below w.heap.size w w' := by
  have bx := bounds_u8 hx
  have by_ := bounds_u8 hy
  have bz := bounds_u8 hz
  obtain ⟨x, rfl⟩ := Int.eq_ofNat_of_zero_le bx.1
  obtain ⟨y, rfl⟩ := Int.eq_ofNat_of_zero_le by_.1
  obtain ⟨z, rfl⟩ := Int.eq_ofNat_of_zero_le bz.1
  exact walk_bdown (by omega) (by omega) (by omega) t w
end Go.Proofs.Ythndpfkgljkpcaa
