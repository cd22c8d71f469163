/-
  The reference's New; bytes out of a seed.
-/
import Derived.Test.YtogfblfekedefaaBlkWrite
import Derived.Test.YtogfblfekedefaaMade
namespace Go.Proofs.Ytogfblfekedefaa
open Go.RowKit

def zero128 : List UInt8 := List.replicate 128 0
def newM (k : Int) : DM × Int := if k < 1 ∨ 65536 < k then (⟨[], 0, 0, false⟩, 1) else (⟨List.replicate k.toNat zero128, -1, 0, false⟩, 0)
def RNw (w1 : World) (k : Nat) (v i : Value) (wr : World) : Prop := ∃ j : Nat, j ≤ k ∧ i = .int .i64 (j : Int) ∧ wr.ownsRow w1.heap.size 9 1 v j (strs (List.replicate j zero128)) ∧ Below w1.heap.size w1 wr
theorem st_zero128 : (⟨(List.replicate 128 (0 : UInt8)).toArray⟩ : ByteArray) = st zero128 := rfl

theorem newM_ok (k : Int) : (newM k).1.Ok := by
  unfold newM
  split
  · exact ⟨fun x hx => absurd hx (by simp), by simp, by simp⟩
  · exact ⟨fun x hx => by rw [List.eq_of_mem_replicate hx]; rfl, by simp, by simp⟩
end Go.Proofs.Ytogfblfekedefaa
