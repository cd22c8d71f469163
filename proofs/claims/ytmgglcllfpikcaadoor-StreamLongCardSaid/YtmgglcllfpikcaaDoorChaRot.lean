/-
  math/bits.RotateLeft32, and the reference's up and quarter.
-/
import Derived.Test.YtmgglcllfpikcaaDoorChaPure
namespace Go.Proofs.YtmgglcllfpikcaaDoor
open Go.RowKit

theorem rotl_val (x : BitVec 32) (s : Nat) (h : s < 32) :
    bits .or .u32 (nv x * 2 ^ s % 4294967296) (nv x / 2 ^ (32 - s)) = nv (rotl x s) := by
  unfold nv rotl
  have hx := x.isLt
  have e1 : ((x.toNat : Int) * 2 ^ s) % 4294967296 = ((x.toNat * 2 ^ s % 4294967296 : Nat) : Int) := by simp
  have e2 : ((x.toNat : Int) / 2 ^ (32 - s)) = ((x.toNat / 2 ^ (32 - s) : Nat) : Int) := by simp
  have hd : x.toNat / 2 ^ (32 - s) < 4294967296 := Nat.lt_of_le_of_lt (Nat.div_le_self _ _) (by omega)
  rw [e1, e2, u32_or_nat _ _ (Nat.mod_lt _ (by decide)) hd, BitVec.toNat_rotateLeft, Nat.mod_eq_of_lt h, Nat.shiftRight_eq_div_pow, Nat.shiftLeft_eq]

theorem mask_pos (r : Nat) (h : r < 32) : bits .and .u64 (r : Int) 31 = (r : Int) := by
  have : ∀ r : Fin 32, bits .and .u64 (r.val : Int) 31 = (r.val : Int) := by decide +kernel
  exact this ⟨r, h⟩

set_option maxHeartbeats 400000 in
theorem rotl32 (x : BitVec 32) (k : Int) (s : Nat) (hk : k = s) (h : s < 32) (w : World) :
    Calls Tryd.prog 19 #[.int .u32 (nv x), .int .i64 k] w fun e w' => e = .returned (.int .u32 (nv (rotl x s))) ∧ w = w' := by
  subst hk
  have hx := W32.lt x
  have hx0 := W32.nn x
  have hm := mask_pos s h
  have hv := rotl_val x s h
  have h1 : s ≤ 32 := by omega
  go_enter Tryd.func19, Tryd.ntmps19
  go_wp2
  go_ret
  exact ⟨rfl, rfl⟩

theorem up_val (x : BitVec 32) : (nv x * 2 % 4294967296 + nv x / 2147483648) % 4294967296 = nv (rot1 x) := by
  have h := rotl_val x 1 (by omega)
  unfold nv rotl at h
  unfold nv rot1
  rw [← h]
  have hx := x.isLt
  have e1 : ((x.toNat : Int) * 2 ^ 1) % 4294967296 = ((x.toNat % 2147483648 * 2 : Nat) : Int) := by omega
  have e2 : ((x.toNat : Int) / 2 ^ (32 - 1)) = ((x.toNat / 2147483648 : Nat) : Int) := by simp
  rw [e1, e2, u32_or_nat _ _ (by omega) (by omega)]
  have h2 : x.toNat / 2147483648 < 2 ^ 1 := by omega
  have := Nat.two_pow_add_eq_or_of_lt h2 (x.toNat % 2147483648)
  rw [Nat.mul_comm, ← this]
  omega

set_option maxHeartbeats 400000 in
theorem up_any (x : BitVec 32) (k : Int) (s : Nat) (hk : k = s) (h : s < 32) (w : World) :
    Calls Tryd.prog 22 #[.int .u32 (nv x), .int .i64 k] w fun e w' => e = .returned (.int .u32 (nv (rotl x s))) ∧ w = w' := by
  subst hk
  go_enter Tryd.func22, Tryd.ntmps22
  go_wp2
  go_loop [0, 5] (fun v i => ∃ j : Nat, j ≤ s ∧ i = .int .i64 j ∧ v = .int .u32 (nv (rotl x j))) (fun _ i => s - (intOf i).toNat)
  case atStart => exact ⟨0, Nat.zero_le _, rfl, by rw [rotl_zero]⟩
  case round =>
    obtain ⟨j, hj, rfl, rfl⟩ := hrel
    by_cases hlt : j < s
    · have HE := Lib.hid (rotl_succ x j (by omega))
      generalize rotl x j = y at *
      have hx := W32.lt y
      have hx0 := W32.nn y
      have HU := Lib.hid (up_val y)
      go_wp2
      go_round
      case rel => exact ⟨j + 1, by omega, by go_num, by rw [HE.out, ← HU.out]; congr 1; omega⟩
      case measure => simp [intOf]; omega
    · obtain rfl : j = s := by omega
      go_wp2
      go_ret
      exact ⟨rfl, rfl⟩
/-- The same, as walks meet them. -/
theorem rotl_at (x : BitVec 32) (k : Int) (h0 : 0 ≤ k) (h : k < 32) (w : World) :
    Calls Tryd.prog 19 #[.int .u32 (nv x), .int .i64 k] w fun e w' => e = .returned (.int .u32 (nv (rotl x k.toNat))) ∧ w = w' := rotl32 x k k.toNat (by omega) (by omega) w
theorem up_at (x : BitVec 32) (k : Int) (h0 : 0 ≤ k) (h : k < 32) (w : World) :
    Calls Tryd.prog 22 #[.int .u32 (nv x), .int .i64 k] w fun e w' => e = .returned (.int .u32 (nv (rotl x k.toNat))) ∧ w = w' := up_any x k k.toNat (by omega) (by omega) w

set_option maxHeartbeats 1000000 in
theorem rquarter_any (a b c d : BitVec 32) (w : World) :
    Calls Tryd.prog 20 #[.int .u32 (nv a), .int .u32 (nv b), .int .u32 (nv c), .int .u32 (nv d)] w fun e w' =>
      e = .returned (.tuple #[.int .u32 (nv (qr a b c d).a), .int .u32 (nv (qr a b c d).b), .int .u32 (nv (qr a b c d).c), .int .u32 (nv (qr a b c d).d)]) ∧ w = w' := by
  have hadd := W32.add_
  have hxor := W32.xor_
  go_enter Tryd.func20, Tryd.ntmps20
  go_wp2_with (go_at_call 22; refine (up_at _ _ (by omega) (by omega) _).mono ?_; rintro _ _ ⟨rfl, rfl⟩)
  refine bodyPost_ret (v := .tuple #[.int .u32 (nv (qr a b c d).a), .int .u32 (nv (qr a b c d).b), .int .u32 (nv (qr a b c d).c), .int .u32 (nv (qr a b c d).d)]) (by simp [results, Tryd.results20, go_sem]; exact ⟨rfl, rfl, rfl, rfl⟩) rfl ⟨rfl, rfl⟩
end Go.Proofs.YtmgglcllfpikcaaDoor
