/-
  A slice literal of one digest.
-/
import Derived.Test.YtebhlfmianohlaaDoorIdRow
import Derived.Great.BuildSlice
namespace Go.Proofs.YtebhlfmianohlaaDoor
open Go.RowKit

theorem list32' {l : List UInt8} (h : l.length = 32) : ∃ a0 a1 a2 a3 a4 a5 a6 a7 a8 a9 b0 b1 b2 b3 b4 b5 b6 b7 b8 b9 c0 c1 c2 c3 c4 c5 c6 c7 c8 c9 d0 d1, l = [a0, a1, a2, a3, a4, a5, a6, a7, a8, a9, b0, b1, b2, b3, b4, b5, b6, b7, b8, b9, c0, c1, c2, c3, c4, c5, c6, c7, c8, c9, d0, d1] := by
  match l, h with
  | [a0, a1, a2, a3, a4, a5, a6, a7, a8, a9, b0, b1, b2, b3, b4, b5, b6, b7, b8, b9, c0, c1, c2, c3, c4, c5, c6, c7, c8, c9, d0, d1], _ => exact ⟨_, _, _, _, _, _, _, _, _, _, _, _, _, _, _, _, _, _, _, _, _, _, _, _, _, _, _, _, _, _, _, _, rfl⟩
set_option maxRecDepth 100000 in
theorem fill_id {l : List UInt8} (hl : l.length = 32) : Instr.fill (fun i => some (i * 32, 32)) (row8 (List.replicate 1 (List.replicate 32 0)).flatten) [(0, .agg (row8 l))] = some (row8 l) := by
  obtain ⟨a0, a1, a2, a3, a4, a5, a6, a7, a8, a9, b0, b1, b2, b3, b4, b5, b6, b7, b8, b9, c0, c1, c2, c3, c4, c5, c6, c7, c8, c9, d0, d1, rfl⟩ := list32' hl
  unfold row8 u8s
  kernel_rfl
/-- []api.Id{x} -/
theorem run_ids_lit (w : World) (XS : Array Value) {l : List UInt8} (h : XS = row8 l) (hl : l.length = 32) : (Instr.buildSlice 24 1 #[(0, .agg XS)]).run Tryd.prog w = .ok (.slice (some ⟨w.heap.size, 0, none⟩) 1 1) (w.alloc (.cells XS 31)) := by
  obtain ⟨i0, hi, hz0, hz1, _⟩ := info_parts id_info3
  have hm := made_ids 1
  unfold madeCells at hm
  subst h
  refine run_buildSlice w 24 31 1 #[(0, .agg (row8 l))] (row8 l) i0 (.agg zerosId) Tryd.underlying24 hi hz0 (by rw [hz1]; omega) (by rw [hz1]; omega) ?_
  rw [hz1, hm]
  exact fill_id hl
end Go.Proofs.YtebhlfmianohlaaDoor
