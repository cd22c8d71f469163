/-
  Plain mathematics of the reference: turning bit by bit, the sixty-four words.
-/
import Derived.Test.YtckgibeiikhaaaaDoorSha
namespace Go.Proofs.YtckgibeiikhaaaaDoor

theorem rotr_toNat (x : BitVec 32) (k : Nat) (hk : k < 32) : (rotr x k).toNat = x.toNat / 2 ^ k + x.toNat % 2 ^ k * 2 ^ (32 - k) := by
  unfold rotr
  have hx := x.isLt
  rw [BitVec.toNat_rotateRight, Nat.mod_eq_of_lt hk, Nat.shiftRight_eq_div_pow, Nat.shiftLeft_eq]
  have hp : (2 : Nat) ^ 32 = 2 ^ k * 2 ^ (32 - k) := by rw [← Nat.pow_add]; congr 1; omega
  have e1 : x.toNat * 2 ^ (32 - k) % 2 ^ 32 = (x.toNat % 2 ^ k) * 2 ^ (32 - k) := by rw [hp, Nat.mul_mod_mul_right]
  have h2 : x.toNat / 2 ^ k < 2 ^ (32 - k) := by
    rw [Nat.div_lt_iff_lt_mul (Nat.pow_pos (by omega)), Nat.mul_comm, ← hp]
    exact hx
  rw [e1, Nat.or_comm, ← Nat.shiftLeft_eq, ← Nat.shiftLeft_add_eq_or_of_lt h2, Nat.add_comm]

theorem rotr_zero (x : BitVec 32) : rotr x 0 = x := by
  apply BitVec.eq_of_toNat_eq
  rw [rotr_toNat x 0 (by omega)]
  simp [Nat.mod_one]

theorem half_step (x k : Nat) (hk : k < 31) :
    (x / 2 ^ k + x % 2 ^ k * 2 ^ (32 - k)) / 2 + (x / 2 ^ k + x % 2 ^ k * 2 ^ (32 - k)) % 2 * 2147483648 = x / 2 ^ (k + 1) + x % 2 ^ (k + 1) * 2 ^ (32 - (k + 1)) := by
  match k, hk with
  | 0, _ | 1, _ | 2, _ | 3, _ | 4, _ | 5, _ | 6, _ | 7, _ | 8, _ | 9, _ | 10, _ | 11, _ | 12, _ | 13, _ | 14, _ | 15, _ | 16, _ | 17, _ | 18, _ | 19, _ | 20, _ | 21, _ | 22, _ | 23, _ | 24, _ | 25, _ | 26, _ | 27, _ | 28, _ | 29, _ | 30, _ => simp only [Nat.reducePow, Nat.reduceSub, Nat.reduceAdd]; omega
  | k + 31, hk => exact absurd hk (by omega)

theorem nv_half (x : BitVec 32) (k : Nat) (hk : k < 31) : nv (rotr x k) / 2 + nv (rotr x k) % 2 * 2147483648 = nv (rotr x (k + 1)) := by
  unfold nv
  have h := half_step x.toNat k hk
  rw [← rotr_toNat x k (by omega), ← rotr_toNat x (k + 1) (by omega)] at h
  omega

/-- A word of four bytes. -/
def byW (l : List UInt8) (i : Nat) : BitVec 32 := BitVec.ofNat 32 (l[i]?.getD 0).toNat
def bew (l : List UInt8) (k : Nat) : BitVec 32 := byW l (4 * k) * 16777216#32 + byW l (4 * k + 1) * 65536#32 + byW l (4 * k + 2) * 256#32 + byW l (4 * k + 3)
def swk (L : List (BitVec 32)) (k : Nat) : BitVec 32 := (L[k - 16]?.getD 0) + lowB (L[k - 15]?.getD 0) + (L[k - 7]?.getD 0) + highB (L[k - 2]?.getD 0)
/-- The sixty-four words, the first k of them. -/
def sw (l : List UInt8) : Nat → List (BitVec 32)
  | 0 => List.replicate 64 0
  | k + 1 => (sw l k).set k (if k < 16 then bew l k else swk (sw l k) k)
theorem sw_length (l : List UInt8) : ∀ k, (sw l k).length = 64
  | 0 => by simp [sw]
  | k + 1 => by simp [sw, sw_length l k]
def roundsR (r : R8) (W : List (BitVec 32)) : Nat → R8
  | 0 => r
  | k + 1 => (roundsR r W k).next (kTab[k]?.getD 0) (W[k]?.getD 0)
def mixR (h : List (BitVec 32)) (b : List UInt8) : List (BitVec 32) := addTo h (roundsR (R8.of h) (sw b 64) 64).list 8
def hashR (m : List UInt8) : Nat → List (BitVec 32)
  | 0 => hTab
  | n + 1 => mixR (hashR m n) ((m.drop (64 * n)).take 64)
theorem hashR_length (m : List UInt8) : ∀ n, (hashR m n).length = 8
  | 0 => by rfl
  | n + 1 => by rw [hashR, mixR, addTo_length, hashR_length m n]
/-- So many of eight numbers moved one place on, the last one first. -/
def shiftV (v : List (BitVec 32)) : Nat → List (BitVec 32)
  | 0 => v
  | i + 1 => (shiftV v i).set (7 - i) ((shiftV v i)[7 - i - 1]?.getD 0)
theorem shiftV_length (v : List (BitVec 32)) : ∀ i, (shiftV v i).length = v.length
  | 0 => rfl
  | i + 1 => by simp [shiftV, shiftV_length v i]
theorem shiftV_all (a b c d e f g h : BitVec 32) : shiftV [a, b, c, d, e, f, g, h] 7 = [a, a, b, c, d, e, f, g] := by rfl
/-- The bytes of the first i of eight numbers. -/
def wordB (x : BitVec 32) (k : Nat) : UInt8 := UInt8.ofNat (x.toNat / 2 ^ (8 * (3 - k)))
def outR (H : List (BitVec 32)) : Nat → List UInt8
  | 0 => List.replicate 32 0
  | i + 1 => ((((outR H i).set (4 * i) (wordB (H[i]?.getD 0) 0)).set (4 * i + 1) (wordB (H[i]?.getD 0) 1)).set (4 * i + 2) (wordB (H[i]?.getD 0) 2)).set (4 * i + 3) (wordB (H[i]?.getD 0) 3)
theorem outR_length (H : List (BitVec 32)) : ∀ i, (outR H i).length = 32
  | 0 => by simp [outR]
  | i + 1 => by simp [outR, outR_length H i]
theorem mulw (x : BitVec 32) (c : Nat) (hc : c < 4294967296) : nv x * (c : Int) % 4294967296 = nv (x * BitVec.ofNat 32 c) := by
  unfold nv
  rw [BitVec.toNat_mul, BitVec.toNat_ofNat, Nat.mod_eq_of_lt (show c < 2 ^ 32 from hc)]
  have h : (2 : Nat) ^ 32 = 4294967296 := rfl
  rw [h]
  simp
end Go.Proofs.YtckgibeiikhaaaaDoor
