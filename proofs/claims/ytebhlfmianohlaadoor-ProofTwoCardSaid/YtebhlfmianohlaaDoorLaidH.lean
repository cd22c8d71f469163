/-
  What the digest's two tables hold, as my walks want it ('Tab').
-/
import Derived.Test.YtebhlfmianohlaaDoorLaidPart
import Derived.Test.YtebhlfmianohlaaDoorShaMix
import Derived.ProofKit
import Derived.LaidMore
import Derived.OpenShut
import Derived.Stop.Joined
namespace Go.Proofs.YtebhlfmianohlaaDoor
open Go.ChangeShapes Go.WideShapes Go.ChangeAt Go.WideMaps Go.WideElems Go.RowKit

theorem gFirst : Tryd.prog.globalNamed "bailee/digest.first" = some 0 := by kernel_rfl
theorem gRound : Tryd.prog.globalNamed "bailee/digest.ofRound" = some 1 := by kernel_rfl
theorem tFirst : (Tryd.prog.globals[0]?).map (·.type) = some 72 := by kernel_rfl
theorem tRound : (Tryd.prog.globals[1]?).map (·.type) = some 74 := by kernel_rfl
theorem dFirst : (Rows.laid_bailee_digest_first : DataW Unit) = .agg ((hTab.map nv).map fun z => .lit (.int .u32 z)) := by rfl
theorem dRound : (Rows.laid_bailee_digest_ofRound : DataW Unit) = .agg ((kTab.map nv).map fun z => .lit (.int .u32 z)) := by rfl

theorem nv_at (l : List (BitVec 32)) (i : Nat) (h : i < l.length) : (l.map nv)[i]?.getD 0 = nv (l[i]?.getD 0) := by simp [List.getElem?_eq_getElem h]

theorem tab_of {W : World} {L : List (String × DataW Unit)} (h : laidMetH Tryd.prog L W) (hp : (L.all fun x => x.2.handleName?.isNone) = true) (h1 : ("bailee/digest.first", (Rows.laid_bailee_digest_first : DataW Unit)) ∈ L) (h2 : ("bailee/digest.ofRound", (Rows.laid_bailee_digest_ofRound : DataW Unit)) ∈ L) : Tab W := by
  obtain ⟨g0, t0, cs0, f0, p0, hg0, ht0, hv0, hd0⟩ := laid_one h hp h1
  obtain ⟨g1, t1, cs1, f1, p1, hg1, ht1, hv1, hd1⟩ := laid_one h hp h2
  obtain rfl := Option.some.inj (gFirst.symm.trans hg0)
  obtain rfl := Option.some.inj (gRound.symm.trans hg1)
  obtain rfl := Option.some.inj (tFirst.symm.trans ht0)
  obtain rfl := Option.some.inj (tRound.symm.trans ht1)
  rw [dFirst] at hd0
  rw [dRound] at hd1
  refine ⟨fun i hi => ?_, fun i hi => ?_⟩
  · rw [World.var?_cell hg0 hv0 i, ← Array.getElem?_toList, arr_cells _ Tryd.underlying72 Tryd.underlying71 (by kernel_rfl) hd0 i hi, nv_at hTab i hi]
  · rw [World.var?_cell hg1 hv1 i, ← Array.getElem?_toList, arr_cells _ Tryd.underlying74 Tryd.underlying71 (by kernel_rfl) hd1 i hi, nv_at kTab i hi]
end Go.Proofs.YtebhlfmianohlaaDoor
