/-
  math/bits.RotateLeft32, and digest's turn, low, high.
-/
import Derived.Test.YtckgibeiikhaaaaDoorChecked
import Derived.Test.YtckgibeiikhaaaaDoorSha
import Derived.Test.YtckgibeiikhaaaaDoorMem
import Derived.BigQuiet
namespace Go.Proofs.YtckgibeiikhaaaaDoor
open Go.RowKit

theorem rot_val (x : BitVec 32) (r s : Nat) (h : r + s = 32) (h0 : 0 < s) :
    bits .or .u32 (nv x * 2 ^ s % 4294967296) (nv x / 2 ^ (32 - s)) = nv (rotr x r) := by
  obtain rfl : s = 32 - r := by omega
  have hr : r < 32 := by omega
  rw [show 32 - (32 - r) = r by omega]
  unfold nv rotr
  have hx := x.isLt
  have e1 : ((x.toNat : Int) * 2 ^ (32 - r)) % 4294967296 = ((x.toNat * 2 ^ (32 - r) % 4294967296 : Nat) : Int) := by simp
  have e2 : ((x.toNat : Int) / 2 ^ r) = ((x.toNat / 2 ^ r : Nat) : Int) := by simp
  have hd : x.toNat / 2 ^ r < 4294967296 := Nat.lt_of_le_of_lt (Nat.div_le_self _ _) (by omega)
  rw [e1, e2, u32_or_nat _ _ (Nat.mod_lt _ (by decide)) hd, BitVec.toNat_rotateRight, Nat.mod_eq_of_lt hr, Nat.shiftRight_eq_div_pow, Nat.shiftLeft_eq, Nat.or_comm]

theorem mask_neg (r : Nat) (h0 : 0 < r) (h : r < 32) : bits .and .u64 (IntKind.u64.wrap (-(r : Int))) 31 = ((32 - r : Nat) : Int) := by
  have : ∀ r : Fin 32, 0 < r.val → bits .and .u64 (IntKind.u64.wrap (-(r.val : Int))) 31 = ((32 - r.val : Nat) : Int) := by decide +kernel
  exact this ⟨r, h⟩ h0

set_option maxHeartbeats 400000 in
theorem rotl32 (x : BitVec 32) (r : Nat) (h0 : 0 < r) (h : r < 32) (k : Int) (hk : k = -(r : Int)) (w : World) :
    Calls Tryd.prog 32 #[.int .u32 (nv x), .int .i64 k] w fun e w' => e = .returned (.int .u32 (nv (rotr x r))) ∧ w = w' := by
  have hx := W32.lt x
  have hx0 := W32.nn x
  have hm := mask_neg r h0 h
  rw [← hk] at hm
  clear hk
  obtain ⟨s, hs⟩ : ∃ s, s = 32 - r := ⟨_, rfl⟩
  rw [← hs] at hm
  have hv := rot_val x r s (by omega) (by omega)
  have h1 : s ≤ 32 := by omega
  clear hs
  go_enter Tryd.func32, Tryd.ntmps32
  go_wp2
  go_ret
  exact ⟨rfl, rfl⟩

set_option maxHeartbeats 400000 in
theorem turn_any (x : BitVec 32) (k : Int) (h0 : 0 < k) (h : k < 32) (w : World) :
    Calls Tryd.prog 31 #[.int .u32 (nv x), .int .i64 k] w fun e w' => e = .returned (.int .u32 (nv (rotr x k.toNat))) ∧ w = w' := by
  have hx := W32.lt x
  have hx0 := W32.nn x
  go_enter Tryd.func31, Tryd.ntmps31
  go_wp2_with (go_at_call 32; refine (rotl32 x k.toNat (by omega) (by omega) _ (by omega) _).mono ?_; rintro _ _ ⟨rfl, rfl⟩)
  go_ret
  exact ⟨rfl, rfl⟩


set_option maxHeartbeats 400000 in
theorem low_any (x : BitVec 32) (w : World) :
    Calls Tryd.prog 29 #[.int .u32 (nv x)] w fun e w' => e = .returned (.int .u32 (nv (lowB x))) ∧ w = w' := by
  have hx := W32.lt x
  have hx0 := W32.nn x
  have h3 : nv x / (8 : Int) = nv (x >>> (3 : Nat)) := W32.shr_ x 3
  have hxor := W32.xor_
  go_enter Tryd.func29, Tryd.ntmps29
  go_wp2_with (go_at_call 31; refine (turn_any x _ (by omega) (by omega) _).mono ?_; rintro _ _ ⟨rfl, rfl⟩)
  go_ret
  exact ⟨rfl, rfl⟩
set_option maxHeartbeats 400000 in
theorem high_any (x : BitVec 32) (w : World) :
    Calls Tryd.prog 30 #[.int .u32 (nv x)] w fun e w' => e = .returned (.int .u32 (nv (highB x))) ∧ w = w' := by
  have hx := W32.lt x
  have hx0 := W32.nn x
  have h3 : nv x / (1024 : Int) = nv (x >>> (10 : Nat)) := W32.shr_ x 10
  have hxor := W32.xor_
  go_enter Tryd.func30, Tryd.ntmps30
  go_wp2_with (go_at_call 31; refine (turn_any x _ (by omega) (by omega) _).mono ?_; rintro _ _ ⟨rfl, rfl⟩)
  go_ret
  exact ⟨rfl, rfl⟩
end Go.Proofs.YtckgibeiikhaaaaDoor
