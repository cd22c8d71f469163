/-
  make([]byte, n), and a block of bytes known whole.
-/
import Derived.Test.YtjingbichgpfaaaDoorRefOf
namespace Go.Proofs.YtjingbichgpfaaaDoor
open Go.RowKit

theorem byt_whole {w : World} {g : Nat} {l : List UInt8} {t : TypeId} {f : Nat × Nat} (h : w.heap[g]? = some (.cells (u8s l).toArray t f)) (hl : l.length ≤ 1000000) : Byt w (fun _ => True) (some ⟨g, 0, none⟩) l.length l.length l :=
  ⟨rfl, Nat.le_refl _, by unfold maxLen; omega, fun _ => ⟨g, 0, rfl, trivial, lt_of_cells h, fun i hi => by
    rw [cell_of_cells h, Nat.zero_add, List.getElem?_toArray]
    simp [u8s, List.getElem?_map, List.getElem?_eq_getElem hi]⟩⟩
/-- make([]byte, n) -/
theorem make_bytes (w : World) (N : Nat) (h : N ≤ 1000000) : (Instr.makeSlice 24 (.int .i64 (N : Int)) (.int .i64 (N : Int))).run Tryd.prog w = .ok (.slice (some ⟨w.heap.size, 0, none⟩) N N) (w.alloc (.cells (u8s (List.replicate N 0)).toArray 5)) := by
  obtain ⟨i0, hi, hz0, hz1, hz2⟩ := info_parts u8_info
  have hmk := run_make (P := Tryd.prog) (t := 24) (e := 5) w i0 (.int .u8 0) Tryd.underlying24 hi hz0 .i64 .i64 (N : Int) (N : Int) (by omega) (by omega) (by rw [hz2]; omega) (by omega)
  rw [hmk, hz1]
  have hm0 : madeCells (Value.int .u8 0).cells ((N : Int).toNat * 1) = (u8s (List.replicate N 0)).toArray := by
    apply Array.toList_inj.1
    rw [Int.toNat_natCast]
    exact made_zero N
  rw [hm0]
  simp
end Go.Proofs.YtjingbichgpfaaaDoor
