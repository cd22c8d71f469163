/-
  make([]byte, n), and a block of bytes known whole.
-/
import Derived.Test.YtogfblfekedefaaCells
namespace Go.Proofs.Ytogfblfekedefaa
open Go.RowKit

theorem made_zero (c : Nat) : (madeCells #[Value.int .u8 0] (c * 1)).toList = u8s (List.replicate c 0) := by
  simp only [madeCells, u8s, Nat.mul_one]
  apply List.ext_getElem
  · simp
  · intro i h1 h2
    simp [Nat.mod_one]

/-- make([]byte, n) -/
theorem make_bytes (w : World) (N : Nat) (h : N ≤ 1000000) : (Instr.makeSlice 29 (.int .i64 (N : Int)) (.int .i64 (N : Int))).run Try.prog w = .ok (.slice (some ⟨w.heap.size, 0, none⟩) N N) (w.alloc (.cells (u8s (List.replicate N 0)).toArray 5)) := by
  obtain ⟨i0, hi, hz0, hz1, hz2⟩ := info_parts u8_info
  have hmk := run_make (P := Try.prog) (t := 29) (e := 5) w i0 (.int .u8 0) Try.underlying29 hi hz0 .i64 .i64 (N : Int) (N : Int) (by omega) (by omega) (by rw [hz2]; omega) (by omega)
  rw [hmk, hz1]
  have hm0 : madeCells (Value.int .u8 0).cells ((N : Int).toNat * 1) = (u8s (List.replicate N 0)).toArray := by
    apply Array.toList_inj.1
    rw [Int.toNat_natCast]
    exact made_zero N
  rw [hm0]
  simp
end Go.Proofs.Ytogfblfekedefaa
