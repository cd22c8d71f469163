/-
  Strings of bytes: read, cut, held against each other.
-/
import Derived.Test.YtogfblfekedefaaSt
namespace Go.Proofs.Ytogfblfekedefaa
open Go.RowKit

section
variable {P : Program} (t : TypeId) (h : P.underlying t = some .string) (l : List UInt8) (W : World)
include h
theorem sti_at (i : Nat) (hi : i < l.length) : (Instr.index t (.string (st l)) (.int .i64 (i : Int))).run P W = .ok (.int .u8 ((l[i]?.getD 0).toNat : Int)) W := by
  rw [run_index_string W t (st l) .i64 (i : Int) h, dif_pos ⟨by omega, by rw [st_size]; omega⟩]
  congr 4
  rw [List.getElem?_eq_getElem hi, Option.getD_some]
  rfl
theorem st_index (i : Nat) (ii : Int) (e : ii = (i : Int)) (hi : i < l.length) : (Instr.index t (.string (st l)) (.int .i64 ii)).run P W = .ok (.int .u8 ((l[i]?.getD 0).toNat : Int)) W := by
  subst e
  exact sti_at t h l W i hi
theorem st_to (k : Nat) (kk : Int) (e : kk = (k : Int)) (hk : k ≤ l.length) : (Instr.slice t (.string (st l)) none (some (.int .i64 kk)) none).run P W = .ok (.string (st (l.take k))) W := by
  subst e
  rw [run_slice_string_h W t (st l) h .i64 (k : Int) (by omega) (by rw [st_size]; omega), st_extract]
  simp
theorem st_from (k : Nat) (kk : Int) (e : kk = (k : Int)) (hk : k ≤ l.length) : (Instr.slice t (.string (st l)) (some (.int .i64 kk)) none none).run P W = .ok (.string (st (l.drop k))) W := by
  subst e
  rw [run_slice_string_l W t (st l) h .i64 (k : Int) (by omega) (by rw [st_size]; omega), st_extract, st_size, List.take_of_length_le (by simp)]
  simp
theorem st_mid (j k : Nat) (jj kk : Int) (ej : jj = (j : Int)) (e : kk = (k : Int)) (hj : j ≤ k) (hk : k ≤ l.length) : (Instr.slice t (.string (st l)) (some (.int .i64 jj)) (some (.int .i64 kk)) none).run P W = .ok (.string (st ((l.drop j).take (k - j)))) W := by
  subst e ej
  rw [run_slice_string_if, if_pos ⟨by omega, by rw [st_size]; omega⟩, if_pos ⟨by omega, by omega⟩, st_extract]
  · simp
  · exact h
end
theorem st_inj {a b : List UInt8} : st a = st b ↔ a = b := by
  constructor
  · intro h
    have := congrArg ByteArray.toList h
    rwa [st_list, st_list] at this
  · rintro rfl
    rfl
theorem st_beq (a b : List UInt8) : ((st a).toList == (st b).toList) = decide (a = b) := by
  rw [st_list, st_list]
  by_cases h : a = b <;> simp [h]
end Go.Proofs.Ytogfblfekedefaa
