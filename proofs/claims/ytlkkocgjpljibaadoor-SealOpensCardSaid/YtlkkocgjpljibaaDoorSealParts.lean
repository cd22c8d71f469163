/-
  seal: a number's bytes and back.
-/
import Derived.Test.YtlkkocgjpljibaaDoorSealPure
import Derived.Test.YtlkkocgjpljibaaDoorMacOf
namespace Go.Proofs.YtlkkocgjpljibaaDoor
open Go.RowKit

def zeros12 : Array Value := row8 (List.replicate 12 0)
theorem zero_b12 : ∀ W, (zeroValue 47).run Tryd.prog W = .ok (.agg zeros12) W := fun W => by unfold zeros12 row8; kernel_rfl
def nonA (n : Nat) (j : Nat) : List UInt8 := le8A n j ++ [0, 0, 0, 0]
theorem nonA_length (n j : Nat) : (nonA n j).length = 12 := by simp [nonA, le8A_length]
theorem nonA_succ (n j : Nat) (hj : j < 8) : nonA n (j + 1) = (nonA n j).set j (UInt8.ofNat (n / 2 ^ (8 * j))) := by
  rw [nonA, nonA, List.set_append_left _ _ (by rw [le8A_length]; omega)]
  rfl
theorem nonA_all (n : Nat) : nonA n 8 = nonL (le8 n 8) := by rw [nonA, le8A_all, nonL]
def LwN (w : World) (n : Nat) (i : Value) (wr : World) : Prop := ∃ j : Nat, j ≤ 8 ∧ i = .int .i64 j ∧ Below w.heap.size w wr ∧ wr.heap[w.heap.size]? = some (.cells zeros12 47 (0, 0)) ∧ wr.heap[w.heap.size + 1]? = some (.cells (row8 (nonA n j)) 47 (0, 0))

set_option maxHeartbeats 4000000 in
set_option maxRecDepth 100000 in
theorem snonce_any (n : Nat) (w : World) :
    Calls Tryd.prog 16 #[.int .u64 (n : Int)] w fun e w' => e = .returned (.agg (row8 (nonL (le8 n 8)))) ∧ Below w.heap.size w w' := by
  have hz := zero_b12
  go_enter Tryd.func16, Tryd.ntmps16
  go_wp2_with fail
  have HG : Hid (Below w.heap.size w ((w.alloc (.cells zeros12 47)).alloc (.cells zeros12 47)) ∧ ((w.alloc (.cells zeros12 47)).alloc (.cells zeros12 47)).heap[w.heap.size]? = some (.cells zeros12 47 (0, 0)) ∧ ((w.alloc (.cells zeros12 47)).alloc (.cells zeros12 47)).heap[w.heap.size + 1]? = some (.cells (row8 (nonA n 0)) 47 (0, 0))) := Lib.hid
    ⟨((Below.refl _ _).alloc (Nat.le_refl _) _).alloc (by simp) _, (Below.heap_alloc _ _ _ (by simp)).trans (heap_alloc_new w _), by
      have := heap_alloc_new (w.alloc (.cells zeros12 47)) (.cells zeros12 47)
      rw [show row8 (nonA n 0) = zeros12 from rfl]
      simpa using this⟩
  generalize (w.alloc (.cells zeros12 47)).alloc (.cells zeros12 47) = w1 at *
  clear hz
  go_loopw [4, 5] (fun _ i wr => LwN w n i wr) (fun _ i _ => 8 - (intOf i).toNat)
  case atStart => unfold LwN; exact ⟨0, Nat.zero_le _, rfl, HG.out⟩
  case round =>
    obtain ⟨j, hj, rfl, hbr, h1, h2⟩ := hrel
    have HR := Lib.hid (And.intro hbr h1)
    by_cases hlt : j < 8
    · have hcell := u8s_cell h2 j (by rw [nonA_length]; omega)
      have hfree := free_of_cells h2 j
      have hE := Lib.hid (nonA_succ n j hlt)
      have HB := Lib.hid (byte_mod n (8 * j))
      have H2 := Lib.hid h2
      clear h1 h2 hbr
      go_wp2
      go_roundw
      case rel =>
        unfold LwN
        refine ⟨j + 1, by omega, by go_num, HR.out.1.setCell (by simp) _, (Below.heap_setCell _ _ _ _ (by simp)).trans HR.out.2, ?_⟩
        have hset := u8s_cells_set H2.out j (UInt8.ofNat (n / 2 ^ (8 * j)))
        rw [← HB.out] at hset
        rw [row8, hE.out]
        simpa using hset
      case measure => simp [intOf]; omega
    · obtain rfl : j = 8 := by omega
      have hsz : (row8 (nonA n 8)).size = 12 := by rw [row8_size, nonA_length]
      obtain ⟨RS, hRS⟩ : ∃ RS, RS = row8 (nonA n 8) := ⟨_, rfl⟩
      have HA := Lib.hid (show RS.all (·.oneCell') = true by rw [hRS]; exact row8_one _)
      rw [← hRS] at h2 hsz
      have H2 := Lib.hid h2
      have HS := Lib.hid hsz
      have HRS := Lib.hid hRS
      clear h1 h2 hbr hRS hsz hlt hj
      go_wp2_with (first | (refine wpList_load_row (by rfl) 47 (.tmp 3) (by rfl) (w.heap.size + 1) (by rfl) 47 RS (0, 0) _ H2.out Tryd.underlying47 (by rfl) (by rw [HS.out]; exact info12s) ?_) | (refine wpList_store_row (by rfl) 47 (.tmp 2) (.tmp 16) (by rfl) w.heap.size RS (by rfl) (by rfl) 47 _ HR.out.2 (by rw [HS.out]; exact info12s) (by rw [HS.out]; rfl) HA.out ?_))
      exact bodyPost_ret (results_cell_row rfl _ _ w.heap.size 47 RS (0, 0) _ rfl (setRow_at HR.out.2) Tryd.underlying47 rfl (by rw [HS.out]; exact info12s)) rfl ⟨by rw [HRS.out, nonA_all], below_setRow HR.out.1 (Nat.le_refl _) _⟩

/-! number: the bytes' number. -/
theorem num8_append (a b : List UInt8) : num8 (a ++ b) = num8 a + 256 ^ a.length * num8 b := by
  induction a with
  | nil => simp [num8]
  | cons x a ih =>
    simp only [num8, List.cons_append, List.foldr_cons, List.length_cons] at ih ⊢
    rw [ih, Nat.pow_succ, Nat.add_mul]
    generalize 256 ^ a.length = p
    generalize List.foldr (fun (x : UInt8) a => a * 256 + x.toNat) 0 b = y
    rw [Nat.mul_right_comm p y 256]
    exact Nat.add_right_comm _ _ _
theorem num8_lt : ∀ (a : List UInt8), num8 a < 256 ^ a.length
  | [] => by simp [num8]
  | x :: a => by
    have h := num8_lt a
    have hx := x.toNat_lt
    simp only [num8, List.foldr_cons, List.length_cons, Nat.pow_succ] at h ⊢
    omega
theorem num8_take_succ {l : List UInt8} {j : Nat} (hj : j < l.length) : num8 (l.take (j + 1)) = num8 (l.take j) + (l[j]?.getD 0).toNat * 256 ^ j := by
  rw [List.take_succ_eq_append_getElem hj, num8_append, List.length_take, Nat.min_eq_left (by omega), List.getElem?_eq_getElem hj, Nat.mul_comm]
  simp [num8]
theorem num_or {X c i : Nat} (hX : X < 256 ^ i) (hc : c < 256) (hi : i < 8) : bits .or .u64 (X : Int) (((c : Int) * 2 ^ (8 * i)) % 18446744073709551616) = ((X + c * 256 ^ i : Nat) : Int) := by
  have hp : (256 : Nat) ^ i = 2 ^ (8 * i) := by rw [show (256 : Nat) = 2 ^ 8 from rfl, ← Nat.pow_mul]
  have hb : c * 2 ^ (8 * i) + 2 ^ (8 * i) ≤ 2 ^ 64 := by
    have h1 : c * 2 ^ (8 * i) + 2 ^ (8 * i) = (c + 1) * 2 ^ (8 * i) := by rw [Nat.add_mul, Nat.one_mul]
    rw [h1, show (64 : Nat) = 8 + 56 from rfl]
    have h2 : (c + 1) * 2 ^ (8 * i) ≤ 2 ^ 8 * 2 ^ (8 * i) := Nat.mul_le_mul_right _ (by omega)
    have h3 : 2 ^ 8 * 2 ^ (8 * i) ≤ 2 ^ (8 + 56) := by rw [← Nat.pow_add]; exact Nat.pow_le_pow_right (by decide) (by omega)
    omega
  rw [hp] at hX ⊢
  have h64 : (2 : Nat) ^ 64 = 18446744073709551616 := rfl
  have e : ((c : Int) * 2 ^ (8 * i)) % 18446744073709551616 = ((c * 2 ^ (8 * i) : Nat) : Int) := by
    rw [show ((c : Int) * 2 ^ (8 * i)) = ((c * 2 ^ (8 * i) : Nat) : Int) by simp]
    omega
  rw [e, u64_or_nat _ _ (by omega) (by omega), Nat.or_comm, ← Nat.shiftLeft_eq, ← Nat.shiftLeft_add_eq_or_of_lt hX, Nat.shiftLeft_eq, Nat.add_comm]

set_option maxHeartbeats 4000000 in
set_option maxRecDepth 100000 in
theorem snumber_any {w : World} {S : Nat → Prop} {A : Option Addr} {c : Nat} {l : List UInt8} (h : Byt w S A 8 c l) :
    Calls Tryd.prog 34 #[.slice A 8 c] w fun e w' => e = .returned (.int .u64 (num8 l : Int)) ∧ Below w.heap.size w w' := by
  obtain ⟨b, off, rfl, _, hb, hc⟩ := h.row (by omega)
  have HL : Hid (l.length = 8) := Lib.hid h.len
  have HC := Lib.hid hc
  clear hc h
  go_enter Tryd.func34, Tryd.ntmps34
  go_wp2_with fail
  go_loopw [3, 4, 5, 8] (fun n _ _ i wr => ∃ j : Nat, j ≤ 8 ∧ i = .int .i64 j ∧ n = .int .u64 (num8 (l.take j) : Int) ∧ wr = w) (fun _ _ _ i _ => 8 - (intOf i).toNat)
  case atStart => exact ⟨0, Nat.zero_le _, rfl, rfl, rfl⟩
  case round =>
    obtain ⟨j, hj, rfl, rfl, rfl⟩ := hrel
    by_cases hlt : j < 8
    · have hcell := HC.out j hlt
      have HN := Lib.hid (num8_take_succ (l := l) (j := j) (by rw [HL.out]; omega))
      have hlt2 : num8 (l.take j) < 256 ^ j := by
        have := num8_lt (l.take j)
        rwa [List.length_take, HL.out, Nat.min_eq_left (by omega)] at this
      have hor := num_or (c := (l[j]?.getD 0).toNat) hlt2 (l[j]?.getD 0).toNat_lt hlt
      generalize l[j]?.getD 0 = ch at *
      generalize num8 (l.take j) = X at *
      go_wp2
      have hw : IntKind.u64.wrap ((ch.toNat : Nat) : Int) = ((ch.toNat : Nat) : Int) := by
        have := ch.toNat_lt
        rw [IntKind.wrap_u64]
        omega
      rw [hw, IntKind.wrap_u64, hor]
      exact ⟨⟨j + 1, by omega, by go_num, by rw [HN.out], trivial⟩, by simp [intOf]; omega⟩
    · obtain rfl : j = 8 := by omega
      have he : l.take 8 = l := List.take_of_length_le (by rw [HL.out]; omega)
      rw [he]
      go_wp2
      go_ret
      exact ⟨rfl, Below.refl _ _⟩
end Go.Proofs.YtlkkocgjpljibaaDoor
