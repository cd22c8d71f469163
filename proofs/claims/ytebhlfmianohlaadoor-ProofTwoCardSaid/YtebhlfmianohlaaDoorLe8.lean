/-
  A number's bytes, the lowest first.
-/
import Derived.Test.YtebhlfmianohlaaDoorCells
namespace Go.Proofs.YtebhlfmianohlaaDoor
open Go.RowKit

/-- A number's bytes, the lowest first. -/
def le8 (n : Nat) (k : Nat) : List UInt8 := (List.range k).map fun i => UInt8.ofNat (n / 2 ^ (8 * i))
theorem le8_length (n k : Nat) : (le8 n k).length = k := by simp [le8]
theorem le8_succ (n k : Nat) : le8 n (k + 1) = le8 n k ++ [UInt8.ofNat (n / 2 ^ (8 * k))] := by simp [le8, List.range_succ]
/-- The same, laid in a row of noughts. -/
def le8A (n : Nat) : Nat → List UInt8
  | 0 => List.replicate 8 0
  | k + 1 => (le8A n k).set k (UInt8.ofNat (n / 2 ^ (8 * k)))
theorem le8A_length (n : Nat) : ∀ k, (le8A n k).length = 8
  | 0 => rfl
  | k + 1 => by simp [le8A, le8A_length n k]
theorem le8A_all (n : Nat) : le8A n 8 = le8 n 8 := by rfl
theorem byte_mod (n e : Nat) : ((n / 2 ^ e : Nat) : Int) % 256 = (((UInt8.ofNat (n / 2 ^ e)).toNat : Nat) : Int) := by simp
end Go.Proofs.YtebhlfmianohlaaDoor
