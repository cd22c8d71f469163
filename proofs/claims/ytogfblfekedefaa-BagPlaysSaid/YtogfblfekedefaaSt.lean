/-
  The string of a row of bytes.
-/
import Derived.Test.YtogfblfekedefaaCells
namespace Go.Proofs.Ytogfblfekedefaa
open Go.RowKit

theorem st_list (l : List UInt8) : (st l).toList = l := by simp [st]
theorem st_app (l m : List UInt8) : st l ++ st m = st (l ++ m) := by
  unfold st
  apply ByteArray.ext
  simp
theorem st_extract (l : List UInt8) (a b : Nat) : (st l).extract a b = st ((l.drop a).take (b - a)) := by
  apply ByteArray.ext
  unfold st
  simp
end Go.Proofs.Ytogfblfekedefaa
