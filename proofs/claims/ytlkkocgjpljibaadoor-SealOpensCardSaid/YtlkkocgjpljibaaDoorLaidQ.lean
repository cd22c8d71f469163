/-
  What the table of quarters holds, as my walks want it ('QTab').
-/
import Derived.Test.YtlkkocgjpljibaaDoorLaidPart
import Derived.Test.YtlkkocgjpljibaaDoorChaPart
import Derived.ProofKit
import Derived.LaidMore
import Derived.OpenShut
import Derived.Stop.Joined
namespace Go.Proofs.YtlkkocgjpljibaaDoor
open Go.ChangeShapes Go.WideShapes Go.ChangeAt Go.WideMaps Go.WideElems Go.RowKit

theorem gQuarters : Tryd.prog.globalNamed "bailee/stream.quarters" = some 0 := by kernel_rfl
theorem tQuarters : (Tryd.prog.globals[0]?).map (·.type) = some 77 := by kernel_rfl
def fourQ (i : Nat) : List Int := [((qi i : Nat) : Int), ((qj i : Nat) : Int), ((qk i : Nat) : Int), ((ql i : Nat) : Int)]
theorem dQuarters : (Rows.laid_bailee_stream_quarters : DataW Unit) = .agg ((List.range 8).map fun i => .agg ((fourQ i).map fun z => .lit (.int .i64 z))) := by rfl
theorem tab_at (i : Nat) (hi : i < 32) : (fourQ (i / 4))[i % 4]?.getD 0 = ((tabN[i]?.getD 0 : Nat) : Int) := by
  have : ∀ i : Fin 32, (fourQ (i.val / 4))[i.val % 4]?.getD 0 = ((tabN[i.val]?.getD 0 : Nat) : Int) := by decide +kernel
  exact this ⟨i, hi⟩

theorem qtab_of {W : World} {L : List (String × DataW Unit)} (h : laidMetH Tryd.prog L W) (hp : (L.all fun x => x.2.handleName?.isNone) = true) (h1 : ("bailee/stream.quarters", (Rows.laid_bailee_stream_quarters : DataW Unit)) ∈ L) : QTab W := by
  obtain ⟨g0, t0, cs0, f0, p0, hg0, ht0, hv0, hd0⟩ := laid_one h hp h1
  obtain rfl := Option.some.inj (gQuarters.symm.trans hg0)
  obtain rfl := Option.some.inj (tQuarters.symm.trans ht0)
  rw [dQuarters] at hd0
  obtain ⟨xs, m, _, hx, hl, hn, hel⟩ := DataW.trod_array Tryd.underlying77 hd0
  refine ⟨fun i hi => ?_⟩
  have h1 := hel (i / 4) (by omega)
  rw [show Tryd.prog.cellsOf 76 = 4 by kernel_rfl] at h1
  have hxi : xs[i / 4]? = some xs[i / 4] := List.getElem?_eq_getElem (by omega)
  rw [hxi] at h1
  simp only [Prod.mk.injEq, DataW.agg.injEq] at hx
  have h2 := congrArg (fun l => l[i / 4]?) hx.1
  simp only [List.getElem?_map, hxi, Option.map_some, List.getElem?_range (show i / 4 < 8 by omega)] at h2
  have h3 : xs[i / 4] = (.agg ((fourQ (i / 4)).map fun z => .lit (.int .i64 z)), xs[i / 4].2) := by
    injection h2 with h2
    rw [h2]
  rw [h3] at h1
  have h4 := arr_cells _ Tryd.underlying76 Tryd.underlying3 (by kernel_rfl) h1 (i % 4) (by omega)
  rw [tab_at i hi] at h4
  rw [World.var?_cell hg0 hv0 i, ← Array.getElem?_toList]
  rw [List.getElem?_take_of_lt (by omega), List.getElem?_drop, show i / 4 * 4 + i % 4 = i by omega] at h4
  exact h4
end Go.Proofs.YtlkkocgjpljibaaDoor
