/-
  What a key says of bytes, as lists; numbers of 8 bits in walks.
-/
import Derived.Test.YtckgibeiikhaaaaDoorShaRows
import Derived.Laws.CopyOwn
namespace Go.Proofs.YtckgibeiikhaaaaDoor
open Go.RowKit

/-- A key and 32 noughts, each xor x. -/
def keyB (k : List UInt8) : List UInt8 := k ++ List.replicate 32 0
theorem keyB_length {k : List UInt8} (h : k.length = 32) : (keyB k).length = 64 := by simp [keyB, h]
/-- The first i of them xor x. -/
def ovrA (b : List UInt8) (x : UInt8) : Nat → List UInt8
  | 0 => b
  | i + 1 => (ovrA b x i).set i ((b[i]?.getD 0) ^^^ x)
theorem ovrA_length (b : List UInt8) (x : UInt8) : ∀ i, (ovrA b x i).length = b.length
  | 0 => rfl
  | i + 1 => by simp [ovrA, ovrA_length b x i]
theorem ovrA_at (b : List UInt8) (x : UInt8) : ∀ i, (ovrA b x i)[i]? = b[i]? := by
  have h : ∀ i j, i ≤ j → (ovrA b x i)[j]? = b[j]? := by
    intro i
    induction i with
    | zero => intro j _; rfl
    | succ i ih => intro j hj; rw [ovrA, List.getElem?_set_ne (by omega), ih j (by omega)]
  exact fun i => h i i (Nat.le_refl _)
def ovr (k : List UInt8) (x : UInt8) : List UInt8 := ovrA (keyB k) x 64
theorem ovr_length {k : List UInt8} (h : k.length = 32) (x : UInt8) : (ovr k x).length = 64 := by rw [ovr, ovrA_length, keyB_length h]
/-- What a key says of bytes. -/
def macL (k m : List UInt8) : List UInt8 := shaL (ovr k 92 ++ shaL (ovr k 54 ++ m))
theorem macL_length (k m : List UInt8) : (macL k m).length = 32 := shaL_length _

theorem xor8 (a b : UInt8) : bits .xor .u8 (a.toNat : Int) (b.toNat : Int) = ((a ^^^ b).toNat : Int) := by
  have h1 := a.toNat_lt
  have h2 := b.toNat_lt
  rw [u8_xor_nat _ _ (by omega) (by omega), UInt8.toNat_xor]
theorem or8 (a b : UInt8) : bits .or .u8 (a.toNat : Int) (b.toNat : Int) = ((a ||| b).toNat : Int) := by
  have h1 := a.toNat_lt
  have h2 := b.toNat_lt
  rw [u8_or_nat _ _ (by omega) (by omega), UInt8.toNat_or]
theorem or8_zero {a b : UInt8} : a ||| b = 0 ↔ a = 0 ∧ b = 0 := UInt8.or_eq_zero_iff
theorem xor8_zero {a b : UInt8} : a ^^^ b = 0 ↔ a = b := UInt8.xor_eq_zero_iff

/-- What isn't alike among the first i bytes. -/
def unl (a b : List UInt8) : Nat → UInt8
  | 0 => 0
  | i + 1 => unl a b i ||| ((a[i]?.getD 0) ^^^ (b[i]?.getD 0))
theorem unl_zero (a b : List UInt8) : ∀ i, unl a b i = 0 ↔ ∀ j, j < i → a[j]?.getD 0 = b[j]?.getD 0
  | 0 => by simp [unl]
  | i + 1 => by
    rw [unl, or8_zero, unl_zero a b i, xor8_zero]
    constructor
    · rintro ⟨h1, h2⟩ j hj
      rcases Nat.lt_succ_iff_lt_or_eq.1 hj with h | rfl
      · exact h1 j h
      · exact h2
    · intro h
      exact ⟨fun j hj => h j (by omega), h i (by omega)⟩
theorem unl_all {a b : List UInt8} (ha : a.length = 32) (hb : b.length = 32) : unl a b 32 = 0 ↔ a = b := by
  rw [unl_zero]
  constructor
  · intro h
    apply List.ext_getElem (by omega)
    intro i h1 h2
    have := h i (by omega)
    simpa [List.getElem?_eq_getElem h1, List.getElem?_eq_getElem h2] using this
  · rintro rfl j _; rfl

/-- A number's bytes, the lowest first. -/
def le8 (n : Nat) (k : Nat) : List UInt8 := (List.range k).map fun i => UInt8.ofNat (n / 2 ^ (8 * i))
theorem le8_length (n k : Nat) : (le8 n k).length = k := by simp [le8]
theorem le8_succ (n k : Nat) : le8 n (k + 1) = le8 n k ++ [UInt8.ofNat (n / 2 ^ (8 * k))] := by simp [le8, List.range_succ]
/-- The same, laid in a row of noughts. -/
def le8A (n : Nat) : Nat → List UInt8
  | 0 => List.replicate 8 0
  | k + 1 => (le8A n k).set k (UInt8.ofNat (n / 2 ^ (8 * k)))
theorem le8A_length (n : Nat) : ∀ k, (le8A n k).length = 8
  | 0 => rfl
  | k + 1 => by simp [le8A, le8A_length n k]
theorem le8A_all (n : Nat) : le8A n 8 = le8 n 8 := by rfl
theorem byte_mod (n e : Nat) : ((n / 2 ^ e : Nat) : Int) % 256 = (((UInt8.ofNat (n / 2 ^ e)).toNat : Nat) : Int) := by simp

/-! Rows of bytes as values. -/
def row8 (l : List UInt8) : Array Value := (u8s l).toArray
theorem row8_size (l : List UInt8) : (row8 l).size = l.length := by simp [row8, u8s_length]
theorem row8_one (l : List UInt8) : (row8 l).all (·.oneCell') = true := all_oneCell_toArray (u8s_one l)
end Go.Proofs.YtckgibeiikhaaaaDoor
