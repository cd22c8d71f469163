/-
  Numbers of 32 bits in walks: a cell '.int .u32 (nv x)' for x : BitVec 32. What the operations make of such. ('nv' stands ahead of simp's own laws on BitVec.toNat.)
-/
import Derived.WalkKit
import Derived.IntWalk
import Derived.Laws.BitsAllLaws
namespace Go.Proofs.Ytogfblfekedefaa
/-- The number of 32 bits as an integer. -/
def nv (x : BitVec 32) : Int := (x.toNat : Int)
def rotr (x : BitVec 32) (r : Nat) : BitVec 32 := x.rotateRight r
namespace W32
theorem xor_ (x y : BitVec 32) : bits .xor .u32 (nv x) (nv y) = nv (x ^^^ y) := by
  unfold nv
  have h1 := x.isLt
  have h2 := y.isLt
  rw [u32_xor_nat _ _ (by omega) (by omega), BitVec.toNat_xor]
theorem and_ (x y : BitVec 32) : bits .and .u32 (nv x) (nv y) = nv (x &&& y) := by
  unfold nv
  have h1 := x.isLt
  have h2 := y.isLt
  rw [u32_and_nat _ _ (by omega) (by omega), BitVec.toNat_and]
theorem or_ (x y : BitVec 32) : bits .or .u32 (nv x) (nv y) = nv (x ||| y) := by
  unfold nv
  have h1 := x.isLt
  have h2 := y.isLt
  rw [u32_or_nat _ _ (by omega) (by omega), BitVec.toNat_or]
theorem not_ (x : BitVec 32) : bits .xor .u32 4294967295 (nv x) = nv (~~~x) := by
  unfold nv
  have h1 := x.isLt
  have h2 := u32_xor_nat 4294967295 x.toNat (by omega) (by omega)
  rw [show ((4294967295 : Nat) : Int) = 4294967295 from rfl] at h2
  rw [h2]
  have := congrArg BitVec.toNat (BitVec.xor_comm (BitVec.allOnes 32) x)
  rw [BitVec.xor_allOnes, BitVec.toNat_xor] at this
  exact congrArg Nat.cast this
theorem notI (x : BitVec 32) : bits .xor .u32 (if IntKind.u32.signed = true then -1 else IntKind.u32.max) (nv x) = nv (~~~x) := not_ x
theorem add_ (x y : BitVec 32) : (nv x + nv y) % 4294967296 = nv (x + y) := by
  unfold nv
  rw [BitVec.toNat_add]
  have h : (2 : Nat) ^ 32 = 4294967296 := rfl
  rw [h]
  omega
theorem addw (x y : BitVec 32) : IntKind.u32.wrap (nv x + nv y) = nv (x + y) := by
  rw [IntKind.wrap_u32', add_]
theorem mod_ (x : BitVec 32) : nv x % 4294967296 = nv x := by
  unfold nv
  have := x.isLt
  omega
theorem nn (x : BitVec 32) : 0 ≤ nv x := by unfold nv; omega
theorem lt (x : BitVec 32) : nv x < 4294967296 := by
  unfold nv
  have := x.isLt
  omega
theorem shr_ (x : BitVec 32) (k : Nat) : nv x / 2 ^ k = nv (x >>> k) := by
  unfold nv
  rw [BitVec.toNat_ushiftRight, Nat.shiftRight_eq_div_pow]
  simp
theorem of_byte (c : UInt8) : ((c.toNat : Nat) : Int) = nv (BitVec.ofNat 32 c.toNat) := by
  unfold nv
  have := c.toNat_lt
  rw [BitVec.toNat_ofNat, Nat.mod_eq_of_lt (by omega)]
end W32

theorem ret_int {k : IntKind} {a b : Int} (h : a = b) : Ending.returned (.int k a) = .returned (.int k b) := by rw [h]

/-- Numbers of 32 bits as cells. -/
def u32s (l : List (BitVec 32)) : List Value := l.map fun x => .int .u32 (nv x)
theorem u32s_length (l : List (BitVec 32)) : (u32s l).length = l.length := by simp [u32s]
theorem u32s_one (l : List (BitVec 32)) : ∀ u ∈ u32s l, u.oneCell' = true := by
  intro u hu
  obtain ⟨x, _, rfl⟩ := List.mem_map.1 hu
  rfl
theorem u32s_at (l : List (BitVec 32)) (i : Nat) (h : i < l.length) : (u32s l)[i]? = some (.int .u32 (nv (l[i]?.getD 0))) := by
  simp [u32s, List.getElem?_map, List.getElem?_eq_getElem h]
theorem u32s_set (l : List (BitVec 32)) (i : Nat) (x : BitVec 32) : (u32s l).set i (.int .u32 (nv x)) = u32s (l.set i x) := by
  simp [u32s, List.map_set]
end Go.Proofs.Ytogfblfekedefaa
