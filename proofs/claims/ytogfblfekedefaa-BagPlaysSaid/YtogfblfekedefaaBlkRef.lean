/-
  A disk as the document has it, by values; the reference's Read, Stop, Restart.
-/
import Derived.Test.YtogfblfekedefaaStrs
import Derived.Test.YtogfblfekedefaaAppend
import Derived.Test.YtogfblfekedefaaInts
import Derived.Test.YtogfblfekedefaaGrow
namespace Go.Proofs.Ytogfblfekedefaa
open Go.RowKit

/-- A disk. -/
structure DM where
  l : List (List UInt8)
  left : Int
  torn : Int
  down : Bool
/-- Its value in the reference. -/
def dmV (d : DM) (A : Option Addr) (n c : Nat) : Array Value := #[.slice A n c, .int .i64 d.left, .int .i64 d.torn, .bool d.down]
def readM (d : DM) (i : Int) : List UInt8 × Int := if d.down = true then ([], 30) else if i < 0 ∨ (d.l.length : Int) ≤ i then ([], 14) else (d.l[i.toNat]?.getD [], 0)
def writeM (d : DM) (i : Int) (b : List UInt8) : DM × Int :=
  if d.down = true then (d, 30) else if i < 0 ∨ (d.l.length : Int) ≤ i then (d, 14) else if b.length ≠ 128 then (d, 1)
  else if d.left = 0 then ({ d with l := d.l.set i.toNat (b.take d.torn.toNat ++ (d.l[i.toNat]?.getD []).drop d.torn.toNat), down := true }, 30)
  else ({ d with l := d.l.set i.toNat b, left := if 0 < d.left then d.left - 1 else d.left }, 0)
def stopM (d : DM) (after torn : Int) : DM := { d with left := if after < 0 then -1 else after, torn := if torn < 0 then 0 else if 128 < torn then 128 else torn }
def restartM (d : DM) : DM := { d with left := -1, down := false }


theorem below_two (w : World) (o p : Obj) : Below w.heap.size w ((w.alloc o).alloc p) := ((Below.refl _ _).alloc (Nat.le_refl _) _).alloc (by simp) _
end Go.Proofs.Ytogfblfekedefaa
