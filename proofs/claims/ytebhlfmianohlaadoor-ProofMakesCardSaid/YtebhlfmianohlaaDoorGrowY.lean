/-
  The law of drawn regions with what holds till an operation is done (wpIn_region_grow of XGrowIn), at any open fence.
-/
import Derived.Test.YtebhlfmianohlaaDoorGrowF
import Derived.Test.YtebhlfmianohlaaDoorGrowIn
namespace Go.Proofs.YtebhlfmianohlaaDoor
open Go.RowKit
namespace Grow
section
variable {P : Program} {ops : Array Oper} {Q : Exit → Act → World → Prop} {G : World → World → Prop} {Φ : Nat → Value → World → Prop} {a0 : Act} {w0 : World} {F : Fence} {nr : Nat}
theorem step_invYF (hF : Open F nr P) {Ψ : Nat → World → Prop} {n i : Nat} {listed : Array Bool} {a : Act} {w : World} (hnd : noDefer ops = true) (hB : growB ops n = true) (hn : a0.tmps.size = n)
    (hI : InvY Ψ ops G Φ a0 w0 listed a w) (hi : i ∈ Region.ready .any ops listed) (hs : GStepY P Ψ ops G Φ a0 w0 i) : wpOpIn F nr P ops Q i (fun a' w' => InvY Ψ ops G Φ a0 w0 (listed.setIfInBounds i true) a' w') a w := by
  obtain ⟨hun, o, ho, hall⟩ := mem_ready.1 hi
  obtain ⟨hun, hil⟩ := getD_both' hun
  obtain ⟨hr1, hr2⟩ := inv_reads hI.base hi ho
  have hwait : ∀ j, waitsB ops j i = true → listed.getD j false = false := fun j hw => by
    unfold waitsB at hw
    cases hoj : ops[j]? with
    | none => rw [hoj] at hw; cases hw
    | some oj =>
      rw [hoj] at hw
      obtain ⟨e, he, hb⟩ := Array.any_eq_true'.1 hw
      simp only [Bool.and_eq_true, beq_iff_eq] at hb
      cases hlj : listed.getD j false with
      | false => rfl
      | true =>
        have := hI.base.closed j oj hoj hlj e he hb.1
        rw [hb.2, hun] at this
        cases this
  obtain ⟨hg, hr⟩ := hs o ho a.eval w (fun _ => rfl) (fun _ => rfl) (fun _ => rfl) hI.base.grow hr1 hr2 (fun j hj hji => by
    refine hI.yet j hj ?_
    rcases hji with rfl | hw
    · exact hun
    · exact hwait j hw)
  unfold wpOpIn
  rw [ho]
  show if Region.wanted o (yielded ops a.tmps) = true then _ else _
  rw [if_pos (by unfold Region.wanted; rw [hg])]
  refine runs_wpF hF (noDefer_spec hnd ho) (fun v w' h => ⟨inv_put hB hn hI.base hi ho h.1 (fun j hl u hu => ?_) h.2.1, fun j hj hl => ?_⟩) hr
  · have hlt : j < ops.size := by
      rw [← hI.base.lsize]
      cases Nat.lt_or_ge j listed.size with
      | inl h => exact h
      | inr h => rw [Array.getD_eq_getD_getElem?, Array.getElem?_eq_none h] at hl; cases hl
    have hne : j ≠ i := by rintro rfl; rw [hun] at hl; cases hl
    have hw : waitsB ops j i = false := by
      cases hw : waitsB ops j i with
      | false => rfl
      | true => rw [hwait j hw] at hl; cases hl
    exact h.2.2.1 j hlt hne hw u hu
  by_cases hji : i = j
  · subst hji
    rw [getD_set_same hil] at hl
    cases hl
  · rw [getD_set_ne' hji] at hl
    exact h.2.2.2 j hj (fun e => hji e.symm) (hI.yet j hj hl)

theorem any_of_invYF (hF : Open F nr P) {Ψ : Nat → World → Prop} {n : Nat} (hnd : noDefer ops = true) (hB : growB ops n = true) (hn : a0.tmps.size = n)
    (hs : ∀ i, i < ops.size → GStepY P Ψ ops G Φ a0 w0 i) (hfin : ∀ W, G w0 W → fin Φ Q W ops.toList 0 a0) :
    ∀ (fuel : Nat) (listed : Array Bool) (a : Act) (w : World), InvY Ψ ops G Φ a0 w0 listed a w → listed.toList.count false ≤ fuel → wpAnyIn F nr P .any ops Q fuel listed a w := by
  have hend : ∀ (listed : Array Bool) (a : Act) (w : World), Inv ops G Φ a0 w0 listed a w → Region.ready .any ops listed = [] → Q .normal a w := by
    intro listed a w hI hr
    have hall := all_of_ready hB hI.lsize hr
    have hal : ∀ j o, ops[j]? = some o → listed.getD j false = true := fun j o hj => hall j (Array.getElem?_eq_some_iff.1 hj).1
    have hsame : putL (fun j => a.tmps.getD ((dstOf ops j).getD 0) undef) ops.toList 0 a0 = a := by
      refine putL_same (a := a) _ 0 a0 hI.size.symm hI.defers.symm ?_ ?_
      · intro j o d hj hd
        have hj' : ops[j]? = some o := by rw [← hj, Array.getElem?_toList]
        refine ⟨by rw [hI.size, hn]; exact ((growB_spec hB hj').2 d hd).1, ?_⟩
        have hdd : dstOf ops j = some d := by unfold dstOf; rw [hj']; exact hd
        simp [hdd]
      · intro d hd
        exact (hI.rest d fun j o hj _ => hd o (by rw [Array.mem_toList_iff]; exact Array.mem_of_getElem? hj)).symm
    rw [← hsame]
    refine fin_putL ops.toList 0 a0 (hfin w hI.grow) ?_ (fun j o hj hd => by
      have hj' : ops[j]? = some o := by rw [← hj, Array.getElem?_toList]
      simpa using hI.doneN j o hj' (hal j o hj') hd)
    intro j o d hj hd
    have hj' : ops[j]? = some o := by rw [← hj, Array.getElem?_toList]
    have hdd : dstOf ops j = some d := by unfold dstOf; rw [hj']; exact hd
    have := hI.done j o d hj' (hal j o hj') hd
    simpa [hdd] using this
  intro fuel
  induction fuel with
  | zero =>
    intro listed a w hI hc
    have hr : Region.ready .any ops listed = [] := by
      rw [List.eq_nil_iff_forall_not_mem]
      intro i hi
      have := count_set (mem_ready.1 hi).1
      omega
    exact ⟨hr, hend _ _ _ hI.base hr⟩
  | succ fuel ih =>
    intro listed a w hI hc
    refine ⟨hend _ _ _ hI.base, fun i hi => ?_⟩
    obtain ⟨h1, o, ho, _⟩ := mem_ready.1 hi
    refine wpOpIn_mono ?_ (step_invYF hF hnd hB hn hI hi (hs i (Array.getElem?_eq_some_iff.1 ho).1))
    intro a' w' hI'
    exact ih _ a' w' hI' (by have := count_set h1; omega)
end
end Grow

/-- THE LAW. n: how many slots the frame has; Ψ: what holds till an operation is done. -/
theorem wpIn_region_growY {F : Fence} {nr : Nat} {P : Program} {ops : Array Oper} {Q : Exit → Act → World → Prop} {id : Nat} {a : Act} {w : World} (hF : Grow.Open F nr P) (Θ : World → Prop) (Ψ : Nat → World → Prop) (Φ : Nat → Value → World → Prop) (n : Nat) (hm : P.follows .mixedOrders = true) (hnd : Grow.noDefer ops = true)
    (hB : Grow.growB ops n = true) (hn : a.tmps.size = n) (hθ : Θ w.drew) (hy : ∀ j, j < ops.size → Ψ j w.drew)
    (hs : Grow.allBelow (Grow.GStepY P Ψ ops (fun _ W => Θ W) Φ a w.drew) ops.size) (hfin : ∀ W, Θ W → Grow.fin Φ Q W ops.toList 0 a) : (Code.region id ops true).wpIn F nr P Q a w := by
  refine wpIn_region_any hm (Grow.any_of_invYF hF hnd hB hn (Grow.allBelow_at hs) hfin ops.size _ a _ ⟨⟨hθ, by simp, rfl, rfl, ?_, ?_, ?_, fun _ _ => rfl⟩, fun j hj _ => hy j hj⟩ ?_)
  · intro j o hj hl
    simp at hl
    have := (Array.getElem?_eq_some_iff.1 hj).1
    simp [this] at hl
  · intro j o d hj hl
    have := (Array.getElem?_eq_some_iff.1 hj).1
    simp [this] at hl
  · intro j o hj hl
    have := (Array.getElem?_eq_some_iff.1 hj).1
    simp [this] at hl
  · simp

end Go.Proofs.YtebhlfmianohlaaDoor
