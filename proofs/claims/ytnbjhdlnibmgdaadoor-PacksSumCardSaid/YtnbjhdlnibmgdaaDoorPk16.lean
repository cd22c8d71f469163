/-
  What one listed variable holds, out of all that are listed; an array's cells.
  What the digest's two tables hold, as my walks want it ('Tab').
  What the listed variables hold (the digest's two tables): the list, the door's own heap, 'Tab'.
-/
import Derived.Test.YtnbjhdlnibmgdaaDoorRows
import Derived.ProofKit
import Derived.LaidMore
import Derived.OpenShut
import Derived.Stop.Joined
import Derived.Test.YtnbjhdlnibmgdaaDoorPk10
/-! What one listed variable holds, out of all that are listed; an array's cells. -/
namespace Go.Proofs.YtnbjhdlnibmgdaaDoor
open Go.ChangeShapes Go.WideShapes Go.ChangeAt Go.WideMaps Go.WideElems Go.RowKit

theorem arr_cells {P : Program} {H : Type} {enc : TypeId × Value → H} {W : World} {base : Nat} {spare : Nat → Bool} {held : Bool} {fuel : Nat} {t e : TypeId} {n : Nat} {k : IntKind} {cs : List Value} {ps : List MemPlace} (zs : List Int)
    (ht : P.underlying t = some (.array n e)) (he : P.underlying e = some (.int k)) (hc : P.cellsOf e = 1) (h : DataW.trod enc P W base spare held fuel t cs = some (.agg (zs.map fun z => .lit (.int k z)), ps)) :
    ∀ i, i < n → cs[i]? = some (.int k (zs[i]?.getD 0)) := by
  obtain ⟨xs, m, rfl, hx, hl, hn, hel⟩ := DataW.trod_array ht h
  intro i hi
  have h1 := hel i hi
  rw [hc, Nat.mul_one] at h1
  have hxi : xs[i]? = some xs[i] := List.getElem?_eq_getElem (by omega)
  rw [hxi] at h1
  obtain ⟨v, e1, e2, _⟩ := DataW.trod_int he h1
  simp only [Prod.mk.injEq, DataW.agg.injEq] at hx
  have h2 := congrArg (fun l => l[i]?) hx.1
  simp only [List.getElem?_map, hxi, Option.map_some, e2] at h2
  have h3 : cs[i]? = some (.int k v) := by
    have := congrArg (fun l => l[0]?) e1
    simpa [List.getElem?_drop] using this
  rw [h3]
  cases hz : zs[i]? with
  | none => rw [hz] at h2; simp at h2
  | some z =>
    rw [hz] at h2
    simp at h2
    simp [h2]

/-- One of the listed variables. -/
theorem laid_var {P : Program} {W : World} {n : String} {D : DataW Unit} : ∀ {L : List (String × DataW Unit)} {ps : List MemPlace}, DataW.LaidVars P W L ps → (n, D) ∈ L →
    ∃ g t cs fuel p, P.globalNamed n = some g ∧ (P.globals[g]?).map (·.type) = some t ∧ W.var? P n = some cs ∧ DataW.trod (fun _ => ()) P W 0 (fun _ => true) false fuel t cs.toList = some (D, p)
  | [], _, _, hm => absurd hm (by simp)
  | (n', d') :: r, ps, h, hm => by
    obtain ⟨g, t, cs, fuel, p, q, hg, ht, hv, hd, hr, _⟩ := h
    rcases List.mem_cons.1 hm with e | hm'
    · obtain ⟨rfl, rfl⟩ := Prod.mk.inj e
      exact ⟨g, t, cs, fuel, p, hg, ht, hv, hd⟩
    · exact laid_var hr hm'
theorem laid_one {P : Program} {W : World} {n : String} {D : DataW Unit} {L : List (String × DataW Unit)} (h : laidMetH P L W) (hp : (L.all fun x => x.2.handleName?.isNone) = true) (hm : (n, D) ∈ L) :
    ∃ g t cs fuel p, P.globalNamed n = some g ∧ (P.globals[g]?).map (·.type) = some t ∧ W.var? P n = some cs ∧ DataW.trod (fun _ => ()) P W 0 (fun _ => true) false fuel t cs.toList = some (D, p) := by
  rw [MakeChecks.laidMetH_plain _ _ _ hp] at h
  obtain ⟨ps, hl, _⟩ := h
  exact laid_var hl hm
end Go.Proofs.YtnbjhdlnibmgdaaDoor

/-! What the digest's two tables hold, as my walks want it ('Tab'). -/
namespace Go.Proofs.YtnbjhdlnibmgdaaDoor
open Go.ChangeShapes Go.WideShapes Go.ChangeAt Go.WideMaps Go.WideElems Go.RowKit

theorem gFirst : Tryd.prog.globalNamed "bailee/digest.first" = some 0 := by kernel_rfl
theorem gRound : Tryd.prog.globalNamed "bailee/digest.ofRound" = some 1 := by kernel_rfl
theorem tFirst : (Tryd.prog.globals[0]?).map (·.type) = some 95 := by kernel_rfl
theorem tRound : (Tryd.prog.globals[1]?).map (·.type) = some 107 := by kernel_rfl
theorem dFirst : (Rows.laid_bailee_digest_first : DataW Unit) = .agg ((hTab.map nv).map fun z => .lit (.int .u32 z)) := by rfl
theorem dRound : (Rows.laid_bailee_digest_ofRound : DataW Unit) = .agg ((kTab.map nv).map fun z => .lit (.int .u32 z)) := by rfl

theorem nv_at (l : List (BitVec 32)) (i : Nat) (h : i < l.length) : (l.map nv)[i]?.getD 0 = nv (l[i]?.getD 0) := by simp [List.getElem?_eq_getElem h]

theorem tab_of {W : World} {L : List (String × DataW Unit)} (h : laidMetH Tryd.prog L W) (hp : (L.all fun x => x.2.handleName?.isNone) = true) (h1 : ("bailee/digest.first", (Rows.laid_bailee_digest_first : DataW Unit)) ∈ L) (h2 : ("bailee/digest.ofRound", (Rows.laid_bailee_digest_ofRound : DataW Unit)) ∈ L) : Tab W := by
  obtain ⟨g0, t0, cs0, f0, p0, hg0, ht0, hv0, hd0⟩ := laid_one h hp h1
  obtain ⟨g1, t1, cs1, f1, p1, hg1, ht1, hv1, hd1⟩ := laid_one h hp h2
  obtain rfl := Option.some.inj (gFirst.symm.trans hg0)
  obtain rfl := Option.some.inj (gRound.symm.trans hg1)
  obtain rfl := Option.some.inj (tFirst.symm.trans ht0)
  obtain rfl := Option.some.inj (tRound.symm.trans ht1)
  rw [dFirst] at hd0
  rw [dRound] at hd1
  refine ⟨fun i hi => ?_, fun i hi => ?_⟩
  · rw [World.var?_cell hg0 hv0 i, ← Array.getElem?_toList, arr_cells _ Tryd.underlying95 Tryd.underlying94 (by kernel_rfl) hd0 i hi, nv_at hTab i hi]
  · rw [World.var?_cell hg1 hv1 i, ← Array.getElem?_toList, arr_cells _ Tryd.underlying107 Tryd.underlying94 (by kernel_rfl) hd1 i hi, nv_at kTab i hi]
end Go.Proofs.YtnbjhdlnibmgdaaDoor

/-! What the listed variables hold (the digest's two tables): the list, the door's own heap, 'Tab'. -/
namespace Go.Proofs.YtnbjhdlnibmgdaaDoor
open Go.ChangeShapes Go.WideShapes Go.ChangeAt Go.WideMaps Go.WideElems Go.RowKit

def laids : List (String × DataW Unit) := [("bailee/digest.first", Rows.laid_bailee_digest_first), ("bailee/digest.ofRound", Rows.laid_bailee_digest_ofRound)]
theorem door_met (os : Os) (args : Array Value) : laidMetH Tryd.prog laids ((World.doorLaid Tryd.prog 400 os).forCall (fun _ _ => 0) ⟨#[], args, []⟩).memory :=
  laidMetH_of_parts3 (fuel := 8) (laidMet_of_run' 8 (by kernel_rfl) (by kernel_rfl)) (by kernel_rfl) (by kernel_rfl)

theorem tab_of_laid {W : World} (h : laidMetH Tryd.prog laids W) : Tab W := tab_of h (by kernel_rfl) (by simp [laids]) (by simp [laids])
end Go.Proofs.YtnbjhdlnibmgdaaDoor
