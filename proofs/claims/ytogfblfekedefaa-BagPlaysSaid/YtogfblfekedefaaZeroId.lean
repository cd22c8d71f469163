/-
  A digest (32 bytes): its size, its zero value.
-/
import Derived.Test.YtogfblfekedefaaCells
namespace Go.Proofs.Ytogfblfekedefaa
open Go.RowKit

def zerosId : Array Value := (u8s (List.replicate 32 0)).toArray
end Go.Proofs.Ytogfblfekedefaa
