/-
  What the listed variables hold, as my walks want it ('Tab'); the door's own heap; how a tied card is closed.
-/
import Derived.Test.YtckgibeiikhaaaaDoorRows
import Derived.Test.YtckgibeiikhaaaaDoorShaMix
import Derived.ProofKit
import Derived.LaidMore
import Derived.OpenShut
import Derived.Stop.Joined
namespace Go.Proofs.YtckgibeiikhaaaaDoor
open Go.ChangeShapes Go.WideShapes Go.ChangeAt Go.WideMaps Go.WideElems Go.RowKit

theorem arr_cells {P : Program} {H : Type} {enc : TypeId × Value → H} {W : World} {base : Nat} {spare : Nat → Bool} {held : Bool} {fuel : Nat} {t e : TypeId} {n : Nat} {k : IntKind} {cs : List Value} {ps : List MemPlace} (zs : List Int)
    (ht : P.underlying t = some (.array n e)) (he : P.underlying e = some (.int k)) (hc : P.cellsOf e = 1) (h : DataW.trod enc P W base spare held fuel t cs = some (.agg (zs.map fun z => .lit (.int k z)), ps)) :
    ∀ i, i < n → cs[i]? = some (.int k (zs[i]?.getD 0)) := by
  obtain ⟨xs, m, rfl, hx, hl, hn, hel⟩ := DataW.trod_array ht h
  intro i hi
  have h1 := hel i hi
  rw [hc, Nat.mul_one] at h1
  have hxi : xs[i]? = some xs[i] := List.getElem?_eq_getElem (by omega)
  rw [hxi] at h1
  obtain ⟨v, e1, e2, _⟩ := DataW.trod_int he h1
  simp only [Prod.mk.injEq, DataW.agg.injEq] at hx
  have h2 := congrArg (fun l => l[i]?) hx.1
  simp only [List.getElem?_map, hxi, Option.map_some, e2] at h2
  have h3 : cs[i]? = some (.int k v) := by
    have := congrArg (fun l => l[0]?) e1
    simpa [List.getElem?_drop] using this
  rw [h3]
  cases hz : zs[i]? with
  | none => rw [hz] at h2; simp at h2
  | some z =>
    rw [hz] at h2
    simp at h2
    simp [h2]

def laids : List (String × DataW Unit) := [("bailee/digest.first", Rows.laid_bailee_digest_first), ("bailee/digest.ofRound", Rows.laid_bailee_digest_ofRound)]
theorem gFirst : Tryd.prog.globalNamed "bailee/digest.first" = some 0 := by kernel_rfl
theorem gRound : Tryd.prog.globalNamed "bailee/digest.ofRound" = some 1 := by kernel_rfl
theorem tFirst : (Tryd.prog.globals[0]?).map (·.type) = some 50 := by kernel_rfl
theorem tRound : (Tryd.prog.globals[1]?).map (·.type) = some 51 := by kernel_rfl
theorem dFirst : (Rows.laid_bailee_digest_first : DataW Unit) = .agg ((hTab.map nv).map fun z => .lit (.int .u32 z)) := by rfl
theorem dRound : (Rows.laid_bailee_digest_ofRound : DataW Unit) = .agg ((kTab.map nv).map fun z => .lit (.int .u32 z)) := by rfl

theorem door_met (os : Os) (args : Array Value) : laidMetH Tryd.prog laids ((World.doorLaid Tryd.prog 400 os).forCall (fun _ _ => 0) ⟨#[], args, []⟩).memory :=
  laidMetH_of_parts3 (fuel := 8) (laidMet_of_run' 8 (by kernel_rfl) (by kernel_rfl)) (by kernel_rfl) (by kernel_rfl)

theorem nv_at (l : List (BitVec 32)) (i : Nat) (h : i < l.length) : (l.map nv)[i]?.getD 0 = nv (l[i]?.getD 0) := by simp [List.getElem?_eq_getElem h]

theorem tab_of_laid {W : World} (h : laidMetH Tryd.prog laids W) : Tab W := by
  rw [MakeChecks.laidMetH_plain _ _ _ (by kernel_rfl)] at h
  obtain ⟨ps, ⟨g0, t0, cs0, f0, p0, q0, hg0, ht0, hv0, hd0, ⟨g1, t1, cs1, f1, p1, q1, hg1, ht1, hv1, hd1, _, _⟩, _⟩, _, _⟩ := h
  obtain rfl := Option.some.inj (gFirst.symm.trans hg0)
  obtain rfl := Option.some.inj (gRound.symm.trans hg1)
  obtain rfl := Option.some.inj (tFirst.symm.trans ht0)
  obtain rfl := Option.some.inj (tRound.symm.trans ht1)
  rw [dFirst] at hd0
  rw [dRound] at hd1
  refine ⟨fun i hi => ?_, fun i hi => ?_⟩
  · rw [World.var?_cell hg0 hv0 i, ← Array.getElem?_toList, arr_cells _ Tryd.underlying50 Tryd.underlying49 (by kernel_rfl) hd0 i hi, nv_at hTab i hi]
  · rw [World.var?_cell hg1 hv1 i, ← Array.getElem?_toList, arr_cells _ Tryd.underlying51 Tryd.underlying49 (by kernel_rfl) hd1 i hi, nv_at kTab i hi]
end Go.Proofs.YtckgibeiikhaaaaDoor
