/-
  The code's bag: all that is told of it; what one that is none tells.
-/
import Derived.Test.YtogfblfekedefaaBagTick
namespace Go.Proofs.Ytogfblfekedefaa
open Go.RowKit

theorem bglen_nil (w : World) : Calls Try.prog 16 #[.pointer none] w fun e w' => e = .returned (.int .i64 0) ∧ Below w.heap.size w w' := by
  refine (bglen_nil0 w).mono ?_
  rintro _ _ ⟨rfl, rfl⟩
  exact ⟨rfl, Below.refl _ _⟩
set_option maxHeartbeats 4000000 in
set_option maxRecDepth 100000 in
theorem bgput_nil (w : World) (_ : Value) : Calls Try.prog 9 #[.pointer none, .agg #[.int .i64 0, .int .i64 0, .slice none 0 0]] w fun e w' => e = .returned (.int .i64 1) ∧ Below w.heap.size w w' := by
  rw [show (#[.int .i64 0, .int .i64 0, .slice none 0 0] : Array Value) = mgV 0 0 none 0 0 from rfl]
  have hb1 : Below w.heap.size w (w.alloc (.cells (mgV 0 0 none 0 0) 31)) := (Below.refl _ _).alloc (Nat.le_refl _) _
  generalize mgV 0 0 none 0 0 = MV at *
  have HB := Lib.hid hb1
  clear hb1
  go_enter Try.func9, Try.ntmps9
  go_wp2_with fail
  go_ret
  exact ⟨rfl, HB.out⟩
set_option maxHeartbeats 4000000 in
set_option maxRecDepth 100000 in
theorem bgcopy_nil (w : World) : Calls Try.prog 13 #[.pointer none, .int .i64 0] w fun e w' => e = .returned (.int .i64 1) ∧ Below w.heap.size w w' := by
  go_enter Try.func13, Try.ntmps13
  go_wp2_with fail
  go_ret
  exact ⟨rfl, Below.refl _ _⟩
end Go.Proofs.Ytogfblfekedefaa
