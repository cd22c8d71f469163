/-
  What the listed variable holds (the table of quarters), as my walks want it ('QTab'); the door's own heap.
-/
import Derived.Test.YtmgglcllfpikcaaDoorRows
import Derived.Test.YtmgglcllfpikcaaDoorChaPart
import Derived.ProofKit
import Derived.LaidMore
import Derived.OpenShut
import Derived.Stop.Joined
namespace Go.Proofs.YtmgglcllfpikcaaDoor
open Go.ChangeShapes Go.WideShapes Go.ChangeAt Go.WideMaps Go.WideElems Go.RowKit

theorem arr_cells {P : Program} {H : Type} {enc : TypeId × Value → H} {W : World} {base : Nat} {spare : Nat → Bool} {held : Bool} {fuel : Nat} {t e : TypeId} {n : Nat} {k : IntKind} {cs : List Value} {ps : List MemPlace} (zs : List Int)
    (ht : P.underlying t = some (.array n e)) (he : P.underlying e = some (.int k)) (hc : P.cellsOf e = 1) (h : DataW.trod enc P W base spare held fuel t cs = some (.agg (zs.map fun z => .lit (.int k z)), ps)) :
    ∀ i, i < n → cs[i]? = some (.int k (zs[i]?.getD 0)) := by
  obtain ⟨xs, m, rfl, hx, hl, hn, hel⟩ := DataW.trod_array ht h
  intro i hi
  have h1 := hel i hi
  rw [hc, Nat.mul_one] at h1
  have hxi : xs[i]? = some xs[i] := List.getElem?_eq_getElem (by omega)
  rw [hxi] at h1
  obtain ⟨v, e1, e2, _⟩ := DataW.trod_int he h1
  simp only [Prod.mk.injEq, DataW.agg.injEq] at hx
  have h2 := congrArg (fun l => l[i]?) hx.1
  simp only [List.getElem?_map, hxi, Option.map_some, e2] at h2
  have h3 : cs[i]? = some (.int k v) := by
    have := congrArg (fun l => l[0]?) e1
    simpa [List.getElem?_drop] using this
  rw [h3]
  cases hz : zs[i]? with
  | none => rw [hz] at h2; simp at h2
  | some z =>
    rw [hz] at h2
    simp at h2
    simp [h2]

def laids : List (String × DataW Unit) := [("bailee/stream.quarters", Rows.laid_bailee_stream_quarters)]
theorem gQuarters : Tryd.prog.globalNamed "bailee/stream.quarters" = some 0 := by kernel_rfl
theorem tQuarters : (Tryd.prog.globals[0]?).map (·.type) = some 42 := by kernel_rfl
def four (i : Nat) : List Int := [((qi i : Nat) : Int), ((qj i : Nat) : Int), ((qk i : Nat) : Int), ((ql i : Nat) : Int)]
theorem dQuarters : (Rows.laid_bailee_stream_quarters : DataW Unit) = .agg ((List.range 8).map fun i => .agg ((four i).map fun z => .lit (.int .i64 z))) := by rfl
theorem tab_at (i : Nat) (hi : i < 32) : (four (i / 4))[i % 4]?.getD 0 = ((tabN[i]?.getD 0 : Nat) : Int) := by
  have : ∀ i : Fin 32, (four (i.val / 4))[i.val % 4]?.getD 0 = ((tabN[i.val]?.getD 0 : Nat) : Int) := by decide +kernel
  exact this ⟨i, hi⟩

theorem door_met (os : Os) (args : Array Value) : laidMetH Tryd.prog laids ((World.doorLaid Tryd.prog 400 os).forCall (fun _ _ => 0) ⟨#[], args, []⟩).memory :=
  laidMetH_of_parts3 (fuel := 8) (laidMet_of_run' 8 (by kernel_rfl) (by kernel_rfl)) (by kernel_rfl) (by kernel_rfl)

theorem tab_of_laid {W : World} (h : laidMetH Tryd.prog laids W) : QTab W := by
  rw [MakeChecks.laidMetH_plain _ _ _ (by kernel_rfl)] at h
  obtain ⟨ps, ⟨g0, t0, cs0, f0, p0, q0, hg0, ht0, hv0, hd0, _, _⟩, _, _⟩ := h
  obtain rfl := Option.some.inj (gQuarters.symm.trans hg0)
  obtain rfl := Option.some.inj (tQuarters.symm.trans ht0)
  rw [dQuarters] at hd0
  obtain ⟨xs, m, _, hx, hl, hn, hel⟩ := DataW.trod_array Tryd.underlying42 hd0
  refine ⟨fun i hi => ?_⟩
  have h1 := hel (i / 4) (by omega)
  rw [show Tryd.prog.cellsOf 41 = 4 by kernel_rfl] at h1
  have hxi : xs[i / 4]? = some xs[i / 4] := List.getElem?_eq_getElem (by omega)
  rw [hxi] at h1
  simp only [Prod.mk.injEq, DataW.agg.injEq] at hx
  have h2 := congrArg (fun l => l[i / 4]?) hx.1
  simp only [List.getElem?_map, hxi, Option.map_some, List.getElem?_range (show i / 4 < 8 by omega)] at h2
  have h3 : xs[i / 4] = (.agg ((four (i / 4)).map fun z => .lit (.int .i64 z)), xs[i / 4].2) := by
    injection h2 with h2
    rw [h2]
  rw [h3] at h1
  have h4 := arr_cells _ Tryd.underlying41 Tryd.underlying3 (by kernel_rfl) h1 (i % 4) (by omega)
  rw [tab_at i hi] at h4
  rw [World.var?_cell hg0 hv0 i, ← Array.getElem?_toList]
  rw [List.getElem?_take_of_lt (by omega), List.getElem?_drop, show i / 4 * 4 + i % 4 = i by omega] at h4
  exact h4
end Go.Proofs.YtmgglcllfpikcaaDoor
