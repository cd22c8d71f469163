/-
  What one listed variable holds, out of all that are listed; an array's cells.
-/
import Derived.Test.YtebhlfmianohlaaDoorRows
import Derived.ProofKit
import Derived.LaidMore
import Derived.OpenShut
import Derived.Stop.Joined
namespace Go.Proofs.YtebhlfmianohlaaDoor
open Go.ChangeShapes Go.WideShapes Go.ChangeAt Go.WideMaps Go.WideElems Go.RowKit

theorem arr_cells {P : Program} {H : Type} {enc : TypeId × Value → H} {W : World} {base : Nat} {spare : Nat → Bool} {held : Bool} {fuel : Nat} {t e : TypeId} {n : Nat} {k : IntKind} {cs : List Value} {ps : List MemPlace} (zs : List Int)
    (ht : P.underlying t = some (.array n e)) (he : P.underlying e = some (.int k)) (hc : P.cellsOf e = 1) (h : DataW.trod enc P W base spare held fuel t cs = some (.agg (zs.map fun z => .lit (.int k z)), ps)) :
    ∀ i, i < n → cs[i]? = some (.int k (zs[i]?.getD 0)) := by
  obtain ⟨xs, m, rfl, hx, hl, hn, hel⟩ := DataW.trod_array ht h
  intro i hi
  have h1 := hel i hi
  rw [hc, Nat.mul_one] at h1
  have hxi : xs[i]? = some xs[i] := List.getElem?_eq_getElem (by omega)
  rw [hxi] at h1
  obtain ⟨v, e1, e2, _⟩ := DataW.trod_int he h1
  simp only [Prod.mk.injEq, DataW.agg.injEq] at hx
  have h2 := congrArg (fun l => l[i]?) hx.1
  simp only [List.getElem?_map, hxi, Option.map_some, e2] at h2
  have h3 : cs[i]? = some (.int k v) := by
    have := congrArg (fun l => l[0]?) e1
    simpa [List.getElem?_drop] using this
  rw [h3]
  cases hz : zs[i]? with
  | none => rw [hz] at h2; simp at h2
  | some z =>
    rw [hz] at h2
    simp at h2
    simp [h2]

/-- One of the listed variables. -/
theorem laid_var {P : Program} {W : World} {n : String} {D : DataW Unit} : ∀ {L : List (String × DataW Unit)} {ps : List MemPlace}, DataW.LaidVars P W L ps → (n, D) ∈ L →
    ∃ g t cs fuel p, P.globalNamed n = some g ∧ (P.globals[g]?).map (·.type) = some t ∧ W.var? P n = some cs ∧ DataW.trod (fun _ => ()) P W 0 (fun _ => true) false fuel t cs.toList = some (D, p)
  | [], _, _, hm => absurd hm (by simp)
  | (n', d') :: r, ps, h, hm => by
    obtain ⟨g, t, cs, fuel, p, q, hg, ht, hv, hd, hr, _⟩ := h
    rcases List.mem_cons.1 hm with e | hm'
    · obtain ⟨rfl, rfl⟩ := Prod.mk.inj e
      exact ⟨g, t, cs, fuel, p, hg, ht, hv, hd⟩
    · exact laid_var hr hm'
theorem laid_one {P : Program} {W : World} {n : String} {D : DataW Unit} {L : List (String × DataW Unit)} (h : laidMetH P L W) (hp : (L.all fun x => x.2.handleName?.isNone) = true) (hm : (n, D) ∈ L) :
    ∃ g t cs fuel p, P.globalNamed n = some g ∧ (P.globals[g]?).map (·.type) = some t ∧ W.var? P n = some cs ∧ DataW.trod (fun _ => ()) P W 0 (fun _ => true) false fuel t cs.toList = some (D, p) := by
  rw [MakeChecks.laidMetH_plain _ _ _ hp] at h
  obtain ⟨ps, hl, _⟩ := h
  exact laid_var hl hm
end Go.Proofs.YtebhlfmianohlaaDoor
