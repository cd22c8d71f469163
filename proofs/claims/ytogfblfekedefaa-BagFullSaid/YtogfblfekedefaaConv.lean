/-
  []byte(s) of any string.
-/
import Derived.Test.YtogfblfekedefaaCells
import Derived.Laws.IdiomStrings
namespace Go.Proofs.Ytogfblfekedefaa
open Go.RowKit
/-- []byte(s) -/
theorem conv_bytes (l : List UInt8) (hl : l.length ≤ 1000000) (W : World) : ∃ c' W', (convert 9 29 (.string (st l))).run Try.prog W = .ok (.slice (some ⟨W.heap.size, 0, none⟩) l.length c') W' ∧ Below W.heap.size W W' ∧ Byt W' (fun b => b = W.heap.size) (some ⟨W.heap.size, 0, none⟩) l.length c' l := by
  have h := run_bytes_of_string (P := Try.prog) W 9 29 5 (st l) Try.underlying9 Try.underlying29 Try.underlying5
  rw [st_size] at h
  have hge := grownCap_ge W l.length 0 5
  have hle := grownCap_le_maxLen W l.length 0 5 (by unfold maxLen; omega)
  generalize grownCap W l.length 0 5 = C at *
  refine ⟨C, _, h, (below_drew (Below.refl _ _)).alloc (Nat.le_refl _) _, rfl, hge, hle, fun h0 => ⟨_, 0, rfl, rfl, by simp, fun i hi => ?_⟩⟩
  have hnew : (W.drew.alloc (.cells (bytesRow (st l) C) 5 ((bytesRow (st l) C).size, (bytesRow (st l) C).size + 1))).heap[W.heap.size]? = some _ := heap_alloc_new W.drew _
  rw [cell_of_cells hnew]
  simp [bytesRow, st, Array.getElem?_append, hi]
end Go.Proofs.Ytogfblfekedefaa
