/-
  The law of drawn regions (Grow) within a round of a loop over an iterator; whole rows loaded and stored there.
  Dedup: maps.Keys of a map whose keys are ids, and what its iterator promises.
  Arrays of bytes held against each other.
-/
import Derived.Test.YtmmibldchfmleaaPk03
import Derived.OrdersIn
import Derived.RangeFuncCalls
import Derived.OwnWalkIn
import Derived.Test.YtmmibldchfmleaaPk04
import Derived.Test.YtmmibldchfmleaaPk07
import Derived.Sort.MapsRangeIn
import Derived.Shelf.Abstract
import Derived.Shelf.RegionOpen
import Derived.WalkKit
import Derived.TacticsInMore
import Derived.LoopNIn
import Derived.LoopIn
import Derived.Test.YtmmibldchfmleaaPk01
import Derived.DeepKeys
/-! The law of drawn regions (Grow) within a round of a loop over an iterator; whole rows loaded and stored there. -/
namespace Go.Proofs.Ytmmibldchfmleaa
open Go.RowKit
namespace Grow
/-- No operation defers. -/
def noDefer (ops : Array Oper) : Bool := ops.all fun o => match o.op with | .defer _ => false | _ => true
theorem noDefer_spec {ops : Array Oper} (h : noDefer ops = true) {i : Nat} {o : Oper} (ho : ops[i]? = some o) : ∀ c, o.op ≠ .defer c := by
  intro c hc
  have := Array.all_eq_true_iff_forall_mem.1 h o (Array.mem_of_getElem? ho)
  rw [hc] at this
  cases this
section
variable {P : Program} {ops : Array Oper} {Q : Exit → Act → World → Prop} {G : World → World → Prop} {Φ : Nat → Value → World → Prop} {a0 : Act} {w0 : World} {lr nr : Nat}
theorem runs_wpIn {o : Oper} {a : Act} {w : World} {K : Act → World → Prop} {R : Value → World → Prop} (hd : ∀ c, o.op ≠ .defer c) (hR : ∀ v w', R v w' → K (a.put o.dst v) w') (h : runsTo P R ((execOp a.eval o).run P w)) : o.wpIn (Fence.wide.inRound lr) nr P a w K Q := by
  unfold Oper.wpIn
  refine ⟨fun _ _ => trivial, ?_⟩
  rw [Oper.semAt_plain _ _ _ hd]
  generalize (execOp a.eval o).run P w = r at h
  unfold runsTo at h
  split at h
  · exact hR _ _ h
  · exact hR _ _ h
  · refine ⟨fun h => (by cases h), CallsIn.inRound lr (callsIn_wide.2 (Calls.mono h ?_))⟩
    rintro e w'' ⟨v, rfl, hr⟩
    exact hR _ _ hr
  · exact h.elim

theorem inv_put {n i : Nat} {listed : Array Bool} {a : Act} {w : World} {o : Oper} {v : Value} {w' : World} (hB : growB ops n = true) (hn : a0.tmps.size = n) 
    (hI : Inv ops G Φ a0 w0 listed a w) (hi : i ∈ Region.ready .any ops listed) (ho : ops[i]? = some o) (hg : G w0 w') (hkeep : ∀ j, listed.getD j false = true → ∀ u, Φ j u w → Φ j u w') (hv : Φ i v w') : Inv ops G Φ a0 w0 (listed.setIfInBounds i true) (a.put o.dst v) w' := by
  obtain ⟨hun, o1, ho1, hall⟩ := mem_ready.1 hi
  obtain rfl : o = o1 := by rw [ho] at ho1; exact Option.some.inj ho1
  obtain ⟨hun, hil⟩ := getD_both' hun
  obtain ⟨hB1, hB2⟩ := growB_spec hB ho
  have hmon : ∀ j, listed.getD j false = true → (listed.setIfInBounds i true).getD j false = true := fun j hj => by
    by_cases hji : i = j
    · subst hji; exact getD_set_same hil
    · rw [getD_set_ne' hji]; exact hj
  refine ⟨hg, by simpa using hI.lsize, ?_, ?_, ?_, ?_, ?_, ?_⟩
  · cases hd : o.dst <;> simp [Act.put, hI.size]
  · cases hd : o.dst <;> simp [Act.put, hI.defers]
  · intro j o' hj hl e he hb
    by_cases hji : i = j
    · subst hji
      obtain rfl : o = o' := by rw [ho] at hj; exact Option.some.inj hj
      exact hmon _ (hall e he hb)
    · rw [getD_set_ne' hji] at hl
      exact hmon _ (hI.closed j o' hj hl e he hb)
  · intro j o' d hj hl hd
    by_cases hji : i = j
    · subst hji
      obtain rfl : o = o' := by rw [ho] at hj; exact Option.some.inj hj
      have := (hB2 d hd).1
      rw [hd]
      have e : (a.put (some d) v).tmps.getD d undef = v := by
        simp only [Act.put, Array.getD_eq_getD_getElem?, Array.getElem?_setIfInBounds_self, hI.size, hn]
        rw [if_pos this]; rfl
      rw [e]
      exact hv
    · rw [getD_set_ne' hji] at hl
      have h1 := hkeep j hl _ (hI.done j o' d hj hl hd)
      cases hdo : o.dst with
      | none => simpa [Act.put] using h1
      | some e =>
        have hne : e ≠ d := by
          rintro rfl
          exact (hB2 e hdo).2 j o' hj (fun h => hji h.symm) hd
        have e1 : (a.put (some e) v).tmps.getD d undef = a.tmps.getD d undef := by
          simp only [Act.put, Array.getD_eq_getD_getElem?, Array.getElem?_setIfInBounds_ne hne]
        rw [e1]; exact h1
  · intro j o' hj hl hd
    by_cases hji : i = j
    · subst hji
      exact ⟨v, hv⟩
    · rw [getD_set_ne' hji] at hl
      obtain ⟨x, hx⟩ := hI.doneN j o' hj hl hd
      exact ⟨x, hkeep j hl _ hx⟩
  · intro d hd
    have h1 := hI.rest d fun j o' hj hl => hd j o' hj (hmon j hl)
    rw [← h1]
    cases hdo : o.dst with
    | none => rfl
    | some e =>
      have hne : e ≠ d := by
        rintro rfl
        exact hd i o ho (getD_set_same hil) hdo
      simp only [Act.put, Array.getElem?_setIfInBounds_ne hne]

theorem inv_reads {i : Nat} {listed : Array Bool} {a : Act} {w : World} {o : Oper} (hI : Inv ops G Φ a0 w0 listed a w) (hi : i ∈ Region.ready .any ops listed) (ho : ops[i]? = some o) :
    (∀ j d, depB ops i j d = true → Φ j (a.eval (.tmp d)) w) ∧ (∀ d, untB ops i d = true → a.eval (.tmp d) = a0.eval (.tmp d)) := by
  obtain ⟨hun, o1, ho1, hall⟩ := mem_ready.1 hi
  obtain rfl : o = o1 := by rw [ho] at ho1; exact Option.some.inj ho1
  obtain ⟨hun, hil⟩ := getD_both' hun
  refine ⟨?_, ?_⟩
  · intro j d hd
    unfold depB at hd
    rw [ho] at hd
    simp only [Bool.and_eq_true, beq_iff_eq] at hd
    obtain ⟨e, he, hb⟩ := Array.any_eq_true'.1 hd.1
    simp only [Bool.and_eq_true, beq_iff_eq] at hb
    obtain ⟨oj, hoj, hdj⟩ := Option.bind_eq_some_iff.1 hd.2
    exact hI.done j oj d hoj (hb.2 ▸ hall e he hb.1) hdj
  · intro d hd
    have := hI.rest d fun j o' hj hl hdd => by
      rcases untB_spec hd j o' hj hdd with rfl | ⟨e, he, hb, hon⟩
      · rw [hun] at hl; cases hl
      · have := hI.closed j o' hj hl e he hb
        rw [hon, hun] at this; cases this
    show a.tmps.getD d undef = a0.tmps.getD d undef
    rw [Array.getD_eq_getD_getElem?, Array.getD_eq_getD_getElem?, this]


/-- j waits for i. -/
def waitsB (ops : Array Oper) (j i : Nat) : Bool := match ops[j]? with | some o => o.after.any fun e => Region.binds .any e && e.on == i | none => false
/-- The invariant, with what holds till an operation is done (Ψ). -/
structure InvY (Ψ : Nat → World → Prop) (ops : Array Oper) (G : World → World → Prop) (Φ : Nat → Value → World → Prop) (a0 : Act) (w0 : World) (listed : Array Bool) (a : Act) (w : World) : Prop where
  base : Inv ops G Φ a0 w0 listed a w
  yet : ∀ j, j < ops.size → listed.getD j false = false → Ψ j w
/-- THE WALK OF ONE OPERATION: Ψ i, and Ψ j of each that waits for it, hold; those of all others stay; so do the claims of those that don't wait for it. -/
def GStepY (P : Program) (Ψ : Nat → World → Prop) (ops : Array Oper) (G : World → World → Prop) (Φ : Nat → Value → World → Prop) (a0 : Act) (w0 : World) (i : Nat) : Prop :=
  ∀ (o : Oper), ops[i]? = some o → ∀ (E : Operand → Value) (W : World), (∀ v, E (.const v) = v) → (∀ g, E (.global g) = .pointer (some ⟨g, 0, none⟩)) → (∀ f, E (.func f) = .func (.func f) #[] #[]) → G w0 W →
    (∀ j d, depB ops i j d = true → Φ j (E (.tmp d)) W) → (∀ d, untB ops i d = true → E (.tmp d) = a0.eval (.tmp d)) → (∀ j, j < ops.size → (j = i ∨ waitsB ops j i = true) → Ψ j W) →
    o.guard = none ∧ runsTo P (fun v W' => G w0 W' ∧ Φ i v W' ∧ (∀ j, j < ops.size → j ≠ i → waitsB ops j i = false → ∀ u, Φ j u W → Φ j u W') ∧ ∀ j, j < ops.size → j ≠ i → Ψ j W → Ψ j W') ((execOp E o).run P W)

theorem step_invY {Ψ : Nat → World → Prop} {n i : Nat} {listed : Array Bool} {a : Act} {w : World} (hnd : noDefer ops = true) (hB : growB ops n = true) (hn : a0.tmps.size = n)
    (hI : InvY Ψ ops G Φ a0 w0 listed a w) (hi : i ∈ Region.ready .any ops listed) (hs : GStepY P Ψ ops G Φ a0 w0 i) : wpOpIn (Fence.wide.inRound lr) nr P ops Q i (fun a' w' => InvY Ψ ops G Φ a0 w0 (listed.setIfInBounds i true) a' w') a w := by
  obtain ⟨hun, o, ho, hall⟩ := mem_ready.1 hi
  obtain ⟨hun, hil⟩ := getD_both' hun
  obtain ⟨hr1, hr2⟩ := inv_reads hI.base hi ho
  have hwait : ∀ j, waitsB ops j i = true → listed.getD j false = false := fun j hw => by
    unfold waitsB at hw
    cases hoj : ops[j]? with
    | none => rw [hoj] at hw; cases hw
    | some oj =>
      rw [hoj] at hw
      obtain ⟨e, he, hb⟩ := Array.any_eq_true'.1 hw
      simp only [Bool.and_eq_true, beq_iff_eq] at hb
      cases hlj : listed.getD j false with
      | false => rfl
      | true =>
        have := hI.base.closed j oj hoj hlj e he hb.1
        rw [hb.2, hun] at this
        cases this
  obtain ⟨hg, hr⟩ := hs o ho a.eval w (fun _ => rfl) (fun _ => rfl) (fun _ => rfl) hI.base.grow hr1 hr2 (fun j hj hji => by
    refine hI.yet j hj ?_
    rcases hji with rfl | hw
    · exact hun
    · exact hwait j hw)
  unfold wpOpIn
  rw [ho]
  show if Region.wanted o (yielded ops a.tmps) = true then _ else _
  rw [if_pos (by unfold Region.wanted; rw [hg])]
  refine runs_wpIn (noDefer_spec hnd ho) (fun v w' h => ⟨inv_put hB hn hI.base hi ho h.1 (fun j hl u hu => ?_) h.2.1, fun j hj hl => ?_⟩) hr
  · have hlt : j < ops.size := by
      rw [← hI.base.lsize]
      cases Nat.lt_or_ge j listed.size with
      | inl h => exact h
      | inr h => rw [Array.getD_eq_getD_getElem?, Array.getElem?_eq_none h] at hl; cases hl
    have hne : j ≠ i := by rintro rfl; rw [hun] at hl; cases hl
    have hw : waitsB ops j i = false := by
      cases hw : waitsB ops j i with
      | false => rfl
      | true => rw [hwait j hw] at hl; cases hl
    exact h.2.2.1 j hlt hne hw u hu
  by_cases hji : i = j
  · subst hji
    rw [getD_set_same hil] at hl
    cases hl
  · rw [getD_set_ne' hji] at hl
    exact h.2.2.2 j hj (fun e => hji e.symm) (hI.yet j hj hl)

theorem any_of_invY {Ψ : Nat → World → Prop} {n : Nat} (hnd : noDefer ops = true) (hB : growB ops n = true) (hn : a0.tmps.size = n)
    (hs : ∀ i, i < ops.size → GStepY P Ψ ops G Φ a0 w0 i) (hfin : ∀ W, G w0 W → fin Φ Q W ops.toList 0 a0) :
    ∀ (fuel : Nat) (listed : Array Bool) (a : Act) (w : World), InvY Ψ ops G Φ a0 w0 listed a w → listed.toList.count false ≤ fuel → wpAnyIn (Fence.wide.inRound lr) nr P .any ops Q fuel listed a w := by
  have hend : ∀ (listed : Array Bool) (a : Act) (w : World), Inv ops G Φ a0 w0 listed a w → Region.ready .any ops listed = [] → Q .normal a w := by
    intro listed a w hI hr
    have hall := all_of_ready hB hI.lsize hr
    have hal : ∀ j o, ops[j]? = some o → listed.getD j false = true := fun j o hj => hall j (Array.getElem?_eq_some_iff.1 hj).1
    have hsame : putL (fun j => a.tmps.getD ((dstOf ops j).getD 0) undef) ops.toList 0 a0 = a := by
      refine putL_same (a := a) _ 0 a0 hI.size.symm hI.defers.symm ?_ ?_
      · intro j o d hj hd
        have hj' : ops[j]? = some o := by rw [← hj, Array.getElem?_toList]
        refine ⟨by rw [hI.size, hn]; exact ((growB_spec hB hj').2 d hd).1, ?_⟩
        have hdd : dstOf ops j = some d := by unfold dstOf; rw [hj']; exact hd
        simp [hdd]
      · intro d hd
        exact (hI.rest d fun j o hj _ => hd o (by rw [Array.mem_toList_iff]; exact Array.mem_of_getElem? hj)).symm
    rw [← hsame]
    refine fin_putL ops.toList 0 a0 (hfin w hI.grow) ?_ (fun j o hj hd => by
      have hj' : ops[j]? = some o := by rw [← hj, Array.getElem?_toList]
      simpa using hI.doneN j o hj' (hal j o hj') hd)
    intro j o d hj hd
    have hj' : ops[j]? = some o := by rw [← hj, Array.getElem?_toList]
    have hdd : dstOf ops j = some d := by unfold dstOf; rw [hj']; exact hd
    have := hI.done j o d hj' (hal j o hj') hd
    simpa [hdd] using this
  intro fuel
  induction fuel with
  | zero =>
    intro listed a w hI hc
    have hr : Region.ready .any ops listed = [] := by
      rw [List.eq_nil_iff_forall_not_mem]
      intro i hi
      have := count_set (mem_ready.1 hi).1
      omega
    exact ⟨hr, hend _ _ _ hI.base hr⟩
  | succ fuel ih =>
    intro listed a w hI hc
    refine ⟨hend _ _ _ hI.base, fun i hi => ?_⟩
    obtain ⟨h1, o, ho, _⟩ := mem_ready.1 hi
    refine wpOpIn_mono ?_ (step_invY hnd hB hn hI hi (hs i (Array.getElem?_eq_some_iff.1 ho).1))
    intro a' w' hI'
    exact ih _ a' w' hI' (by have := count_set h1; omega)
end
/-- One operation that has no guard. -/
theorem stepY_in {P : Program} {Ψ : Nat → World → Prop} {ops : Array Oper} {G : World → World → Prop} {Φ : Nat → Value → World → Prop} {a0 : Act} {w0 : World} {i : Nat} {o : Oper} (ho : ops.toList[i]? = some o) (hg : o.guard = none)
    (h : ∀ (E : Operand → Value) (W : World), (∀ v, E (.const v) = v) → (∀ g, E (.global g) = .pointer (some ⟨g, 0, none⟩)) → (∀ f, E (.func f) = .func (.func f) #[] #[]) → G w0 W →
      (∀ j d, depB ops i j d = true → Φ j (E (.tmp d)) W) → (∀ d, untB ops i d = true → E (.tmp d) = a0.eval (.tmp d)) → (∀ j, j < ops.size → (j = i ∨ waitsB ops j i = true) → Ψ j W) →
      ∀ R : Value → World → Prop, Hid (∀ v W', G w0 W' → Φ i v W' → (∀ j, j < ops.size → j ≠ i → waitsB ops j i = false → ∀ u, Φ j u W → Φ j u W') → (∀ j, j < ops.size → j ≠ i → Ψ j W → Ψ j W') → R v W') → runsTo P R ((execOp E o).run P W)) : GStepY P Ψ ops G Φ a0 w0 i := by
  intro o' ho' E W h1 h2 h3 h4 h5 h6 h7
  obtain rfl : o = o' := by rw [← Array.getElem?_toList, ho] at ho'; exact Option.some.inj ho'
  exact ⟨hg, h E W h1 h2 h3 h4 h5 h6 h7 _ (Lib.hid fun _ _ a b c d => ⟨a, b, c, d⟩)⟩
end Grow

/-- THE LAW. n: how many slots the frame has; Ψ: what holds till an operation is done. -/
theorem wpIn_region_grow {P : Program} {ops : Array Oper} {Q : Exit → Act → World → Prop} {id lr nr : Nat} {a : Act} {w : World} (Θ : World → Prop) (Ψ : Nat → World → Prop) (Φ : Nat → Value → World → Prop) (n : Nat) (hm : P.follows .mixedOrders = true) (hnd : Grow.noDefer ops = true)
    (hB : Grow.growB ops n = true) (hn : a.tmps.size = n) (hθ : Θ w.drew) (hy : ∀ j, j < ops.size → Ψ j w.drew)
    (hs : Grow.allBelow (Grow.GStepY P Ψ ops (fun _ W => Θ W) Φ a w.drew) ops.size) (hfin : ∀ W, Θ W → Grow.fin Φ Q W ops.toList 0 a) : (Code.region id ops true).wpIn (Fence.wide.inRound lr) nr P Q a w := by
  refine wpIn_region_any hm (Grow.any_of_invY hnd hB hn (Grow.allBelow_at hs) hfin ops.size _ a _ ⟨⟨hθ, by simp, rfl, rfl, ?_, ?_, ?_, fun _ _ => rfl⟩, fun j hj _ => hy j hj⟩ ?_)
  · intro j o hj hl
    simp at hl
    have := (Array.getElem?_eq_some_iff.1 hj).1
    simp [this] at hl
  · intro j o d hj hl
    have := (Array.getElem?_eq_some_iff.1 hj).1
    simp [this] at hl
  · intro j o hj hl
    have := (Array.getElem?_eq_some_iff.1 hj).1
    simp [this] at hl
  · simp

theorem wpListIn_load_row {F : Fence} {n : Nat} {P : Program} {ops : Array Oper} {rest : List Oper} {o : Oper} {a : Act} {w : World} {Q : Exit → Act → World → Prop} (hgd : o.guard = none) (ty : TypeId) (x : Operand) (ho : o.op = .load ty x)
    (g : Nat) (hx : a.eval x = .pointer (some ⟨g, 0, none⟩)) (t : TypeId) (cs : Array Value) (fr : Nat × Nat) (d : TypeDesc) (hg : w.heap[g]? = some (.cells cs t fr))
    (hu : P.underlying ty = some d) (hd : (match d with | .struct _ | .array _ _ => true | _ => false) = true) (hi : (P.info? ty).map (·.size) = some cs.size)
    (h : wpListIn F n P ops Q rest (a.put o.dst (.agg cs)) w) : wpListIn F n P ops Q (o :: rest) a w := by
  refine wpListIn_plain hgd fun K hK => ?_
  unfold Oper.wpIn
  refine ⟨?_, ?_⟩
  · simp [Oper.about, ho]
  · rw [Oper.semAt_plain F _ _ (by rw [ho]; intro c hc; cases hc)]
    unfold execOp
    simp only [ho, hx, Instr.loadAt, Instr.sureAddr, Sem.run_bind, Sem.run_pure, Result.andThen_ok, run_loadVar_row w g t ty cs fr d hg hu hd hi]
    exact hK _ _ h
theorem wpListIn_store_row {F : Fence} {n : Nat} {P : Program} {ops : Array Oper} {rest : List Oper} {o : Oper} {a : Act} {w : World} {Q : Exit → Act → World → Prop} (hgd : o.guard = none) (ty : TypeId) (x y : Operand) (ho : o.op = .store ty x y)
    (g : Nat) (cells : Array Value) (hx : a.eval x = .pointer (some ⟨g, 0, none⟩)) (hy : a.eval y = .agg cells)
    (t : TypeId) (old : Array Value) (hg : w.heap[g]? = some (.cells old t (0, 0))) (hi : (P.info? ty).map (·.size) = some cells.size)
    (hold : old.size = cells.size) (h1 : cells.all (·.oneCell') = true)
    (h : wpListIn F n P ops Q rest (a.put o.dst undef) (w.setRow g cells)) : wpListIn F n P ops Q (o :: rest) a w := by
  refine wpListIn_plain hgd fun K hK => ?_
  unfold Oper.wpIn
  refine ⟨?_, ?_⟩
  · simp [Oper.about, ho]
  · rw [Oper.semAt_plain F _ _ (by rw [ho]; intro c hc; cases hc)]
    unfold execOp
    simp only [ho, hx, hy, Instr.storeAt, Instr.sureAddr, Sem.run_bind, Sem.run_pure, Result.andThen_ok, run_storeVar_row w g t ty old cells hg hi hold h1]
    exact hK _ _ h
end Go.Proofs.Ytmmibldchfmleaa

/-! Dedup: maps.Keys of a map whose keys are ids, and what its iterator promises. -/
namespace Go.Proofs.Ytmmibldchfmleaa
open Go.RowKit Go.Maps Go.Shelf
attribute [local go_sem] Oper.semAt_some

section
variable {V : Type} {enc : V → Value} {F : Fence} {n : Nat} (w : World) {ops : Array Oper} {rest : List Oper} {o : Oper} {a : Act} {Q : Exit → Act → World → Prop} {b r : Nat} {t : Tv V} {lf : List UInt8 → Bool}
/-- 'range m' at the operation. -/
theorem wpListIn_range_kv (hg : o.guard = none) (m : Operand) {T E : TypeId} (hop : o.op = Op.range T m) (hT : Try.prog.underlying T = some (.map 31 E)) (hm : a.eval m = .map (some b)) (hown : Kv enc w b t)
    (hK : ∀ w', Rgv enc w' b w.heap.size t (fun k => (getV t k).isSome) → Below w.heap.size w w' → w'.heap.size = w.heap.size + 1 → wpListIn F n Try.prog ops Q rest (a.put o.dst (.pointer (some ⟨w.heap.size, 0, none⟩))) w') :
    wpListIn F n Try.prog ops Q (o :: rest) a w := by
  refine wpListIn_plain hg fun K' hK' => ?_
  obtain ⟨w', hrun, r1, r2, r3⟩ := hown.range hT
  unfold Oper.wpIn
  refine ⟨?_, ?_⟩
  · simp [Oper.about, hop]
  · rw [Oper.semAt_plain F _ _ (by rw [hop]; intro c hc'; cases hc')]
    simp [execOp, hop, hm, hrun, Result.andThen]
    exact hK' _ _ (hK w' r1 r2 r3)
theorem wpListIn_next_kv (hg : o.guard = none) (it : Operand) (hop : o.op = Op.next it false) (hit : a.eval it = .pointer (some ⟨r, 0, none⟩)) (h : Rgv enc w b r t lf)
    (hDone : (∀ k, lf k = false) → wpListIn F n Try.prog ops Q rest (a.put o.dst (.tuple #[.bool false])) w)
    (hMore : ∀ k v w', k.length = 32 → lf k = true → getV t k = some v → Rgv enc w' b r t (fun x => lf x && decide (x ≠ k)) → w'.rangeLeft b r < w.rangeLeft b r → w.grownBy w' (some r) → w'.heap.size = w.heap.size →
      (Instr.entry (.pointer (some ⟨r, 0, none⟩))).run Try.prog w' = .ok (.tuple #[.agg (row8 k), enc v]) w' → wpListIn F n Try.prog ops Q rest (a.put o.dst (.tuple #[.bool true, .agg (row8 k), enc v])) w') :
    wpListIn F n Try.prog ops Q (o :: rest) a w := by
  refine wpListIn_plain hg fun K' hK' => ?_
  unfold Oper.wpIn
  refine ⟨by simp [Oper.about, hop], ?_⟩
  rw [Oper.semAt_plain F _ _ (by rw [hop]; intro c hc'; cases hc')]
  rcases h.next o.type with ⟨hl, hrun⟩ | ⟨k, v, w', hk, hlk, hv, hrun, hrg, hlt, hgr, hsz, hen⟩
  · simp [execOp, hop, hit, hrun, Result.andThen]
    exact hK' _ _ (hDone hl)
  · simp [execOp, hop, hit, hrun, Result.andThen]
    exact hK' _ _ (hMore k v w' hk hlk hv hrg hlt hgr hsz hen)
theorem wpList_range_kv (hg : o.guard = none) (m : Operand) {T E : TypeId} (hop : o.op = Op.range T m) (hT : Try.prog.underlying T = some (.map 31 E)) (hm : a.eval m = .map (some b)) (hown : Kv enc w b t)
    (hK : ∀ w', Rgv enc w' b w.heap.size t (fun k => (getV t k).isSome) → Below w.heap.size w w' → w'.heap.size = w.heap.size + 1 → wpList Try.prog ops Q rest (a.put o.dst (.pointer (some ⟨w.heap.size, 0, none⟩))) w') :
    wpList Try.prog ops Q (o :: rest) a w := by
  refine wpList_plain hg fun K' hK' => ?_
  obtain ⟨w', hrun, r1, r2, r3⟩ := hown.range hT
  unfold Oper.wp
  simp [execOp, hop, hm, hrun, Result.andThen]
  exact hK' _ _ (hK w' r1 r2 r3)
theorem wpList_next_kv (hg : o.guard = none) (it : Operand) (hop : o.op = Op.next it false) (hit : a.eval it = .pointer (some ⟨r, 0, none⟩)) (h : Rgv enc w b r t lf)
    (hDone : (∀ k, lf k = false) → wpList Try.prog ops Q rest (a.put o.dst (.tuple #[.bool false])) w)
    (hMore : ∀ k v w', k.length = 32 → lf k = true → getV t k = some v → Rgv enc w' b r t (fun x => lf x && decide (x ≠ k)) → w'.rangeLeft b r < w.rangeLeft b r → w.grownBy w' (some r) → w'.heap.size = w.heap.size →
      (Instr.entry (.pointer (some ⟨r, 0, none⟩))).run Try.prog w' = .ok (.tuple #[.agg (row8 k), enc v]) w' → wpList Try.prog ops Q rest (a.put o.dst (.tuple #[.bool true, .agg (row8 k), enc v])) w') :
    wpList Try.prog ops Q (o :: rest) a w := by
  refine wpList_plain hg fun K' hK' => ?_
  unfold Oper.wp
  rcases h.next o.type with ⟨hl, hrun⟩ | ⟨k, v, w', hk, hlk, hv, hrun, hrg, hlt, hgr, hsz, hen⟩
  · simp [execOp, hop, hit, hrun, Result.andThen]
    exact hK' _ _ (hDone hl)
  · simp [execOp, hop, hit, hrun, Result.andThen]
    exact hK' _ _ (hMore k v w' hk hlk hv hrg hlt hgr hsz hen)
/-- Which keys are still to come, when these have. -/
def lfOf (t : Tv V) (pre : List (List UInt8)) (k : List UInt8) : Bool := (getV t k).isSome && !pre.contains k
theorem lfOf_nil (t : Tv V) : lfOf t [] = fun k => (getV t k).isSome := by
  funext k
  simp [lfOf]
theorem lfOf_snoc (t : Tv V) (pre : List (List UInt8)) (k : List UInt8) : (fun x => lfOf t pre x && decide (x ≠ k)) = lfOf t (pre ++ [k]) := by
  funext x
  by_cases e : x = k
  · simp [lfOf, e]
  · cases h1 : (getV t x).isSome <;> simp [lfOf, e, h1]
/-- What has come. -/
def Kys (t : Tv V) (pre : List (List UInt8)) : Prop := pre.Nodup ∧ ∀ x ∈ pre, (getV t x).isSome = true
theorem Kys.nil (t : Tv V) : Kys t [] := ⟨List.nodup_nil, fun _ h => by cases h⟩
theorem Kys.snoc {pre : List (List UInt8)} {k : List UInt8} (h : Kys t pre) (hk : lfOf t pre k = true) : Kys t (pre ++ [k]) := by
  unfold lfOf at hk
  simp only [Bool.and_eq_true, Bool.not_eq_true', List.contains_eq_mem, decide_eq_false_iff_not] at hk
  refine ⟨List.nodup_append.2 ⟨h.1, by simp, fun a ha b hb e => ?_⟩, fun x hx => ?_⟩
  · simp only [List.mem_singleton] at hb
    exact hk.2 (hb ▸ e ▸ ha)
  · rcases List.mem_append.1 hx with hx | hx
    · exact h.2 x hx
    · simp only [List.mem_singleton] at hx
      rw [hx]
      exact hk.1
theorem Kys.done {pre : List (List UInt8)} (h : Kys t pre) (ht : Sv t) (hl : ∀ k, lfOf t pre k = false) : pre.Perm (t.map (·.1)) := by
  refine (List.perm_ext_iff_of_nodup h.1 ht.nodup).2 fun x => ⟨fun hx => getV_isSome.1 (h.2 x hx), fun hx => ?_⟩
  have h1 := hl x
  have h2 := getV_isSome.2 hx
  unfold lfOf at h1
  rw [h2] at h1
  simpa using h1
theorem Kys.len {pre : List (List UInt8)} (h : Kys t pre) (ht : Sv t) : pre.length ≤ t.length := by
  by_cases hs : Sv t
  · have h1 : pre.Perm ((t.map (·.1)).filter fun x => pre.contains x) := (List.perm_ext_iff_of_nodup h.1 (hs.nodup.filter _)).2 fun x => by
      rw [List.mem_filter, List.contains_eq_mem, decide_eq_true_eq]
      exact ⟨fun hx => ⟨getV_isSome.1 (h.2 x hx), hx⟩, fun hx => hx.2⟩
    rw [h1.length_eq]
    exact Nat.le_trans (List.length_filter_le _ _) (by simp)
  · exact absurd ht hs
/-- Between two rounds of the iterator's. -/
structure KyS (enc : V → Value) (J : (Nat → Prop) → List (List UInt8) → World → Prop) (p b r : Nat) (T : TypeId) (t : Tv V) (pre : List (List UInt8)) (W : World) : Prop where
  rg : Rgv enc W b r t (lfOf t pre)
  box : W.heap[p]? = some (.cells #[.map (some b)] T (0, 0))
  j : J (fun k => k = r) pre W
  ky : Kys t pre
end

def keysFnP (p : Nat) : Value := .func (.func 50) #[] #[.pointer (some ⟨p, 0, none⟩)]
set_option maxHeartbeats 2000000 in
theorem keysP_any (mb : Option Nat) (w : World) :
    Calls Try.prog 40 #[.map mb] w fun e w' => e = .returned (keysFnP w.heap.size) ∧ w' = w.alloc (.cells #[.map mb] 64) := by
  have hmf : ∀ (fn : Fn) (first cap : Array Value) (w : World), (Instr.makeFunc fn first cap).run Try.prog w = .ok (.func fn first cap) w := fun _ _ _ _ => rfl
  go_enter Try.func40, Try.ntmps40
  go_wp2_with fail
  go_ret
  exact ⟨rfl, rfl⟩
set_option maxHeartbeats 4000000 in
set_option maxRecDepth 100000 in
theorem keysP1 {V : Type} {enc : V → Value} {t : Tv V} (l p b : Nat) (J Jx : (Nat → Prop) → List (List UInt8) → World → Prop) (W : World) (hJ : Still W.heap.size J)
    (hbox : W.heap[p]? = some (.cells #[.map (some b)] 64 (0, 0))) (hkv : Kv enc W b t)
    (hY : ∀ D pre k W1, Bounds W.heap.size D W1 → J D pre W1 → Kys t (pre ++ [k]) → YieldAt Fence.wide 2 Try.prog l #[.agg (row8 k)] W1 fun e W' =>
      (e = .returned (.bool true) ∧ J D (pre ++ [k]) W' ∧ Kept W.heap.size D (fun k => k = p ∨ k = b) W1 W') ∨ (e = .returned (.bool false) ∧ Jx D (pre ++ [k]) W' ∧ Kept W.heap.size D (fun k => k = p ∨ k = b) W1 W'))
    (h0 : J (fun _ => False) [] W) :
    CallsIn Fence.wide 3 Try.prog 50 #[.func (.yield l) #[] #[], .pointer (some ⟨p, 0, none⟩)] W fun e W' => (∃ v, e = .returned v) ∧ ∃ D, Bounds W.heap.size D W' ∧ ((∃ xs, xs.Perm (t.map (·.1)) ∧ Kys t xs ∧ J D xs W') ∨ (∃ pre, Kys t pre ∧ Jx D pre W')) := by
  have hz := zero_id
  have hc1 := cell_of_cells hbox 0
  simp only [List.getElem?_toArray, List.getElem?_cons_zero] at hc1
  have HB := Lib.hid (And.intro hbox (And.intro hkv h0))
  have HY := Lib.hid hY
  have HJ := Lib.hid hJ
  have hpl := lt_of_cells hbox
  have hbl := hkv.lt
  have HPB := Lib.hid (And.intro hpl hbl)
  clear hbox hY hJ h0 hpl hbl
  refine callsIn_of_wp Try.func50 rfl trivial ?_ rfl
  simp only [Try.ntmps50, List.size_toArray, List.length_cons, List.length_nil, Nat.reduceAdd, Nat.reduceSub, Array.replicate_succ, Array.replicate_zero, List.push_toArray, List.append_toArray, List.nil_append, List.cons_append]
  gi_wp2_with (first
    | (gi_at_range; refine wpListIn_range_kv _ rfl _ rfl Try.underlying64 rfl hkv ?_; intro w0 hrg0 hb0 hs0)
    | gi_in)
  have H0 : Hid (KyS enc J p b W.heap.size 64 t [] w0) := Lib.hid
    ⟨by rw [lfOf_nil]; exact hrg0, (hb0.block _ HPB.out.1).trans HB.out.1, HJ.out _ _ _ _ _ (Bounds.none_ _ _) HB.out.2.2 (Steps.of_below hb0) (fun b hb => .inr ⟨by omega, by omega⟩), Kys.nil t⟩
  have HS0 := Lib.hid hs0
  clear hrg0 hb0 hs0 hkv HB hc1
  obtain ⟨r, hr⟩ : ∃ r, r = W.heap.size := ⟨_, rfl⟩
  have HR : Hid (r = W.heap.size) := Lib.hid hr
  rw [← hr] at H0 ⊢
  clear hr
  go_frame
  gi_loopw [3] (fun _ wr => ∃ pre, KyS enc J p b r 64 t pre wr) (fun _ wr => wr.rangeLeft b r)
  case atStart => exact ⟨[], H0.out⟩
  case round =>
    obtain ⟨pre, hks⟩ := hrel
    clear H0
    have HK := Lib.hid hks
    clear hks
    gi_wp2_with (first
      | (gi_at_next; refine wpListIn_next_kv _ rfl _ rfl rfl HK.out.rg ?_ ?_)
      | gi_in)
    · intro hl
      have HF : Hid (pre.Perm (t.map (·.1)) ∧ Kys t pre ∧ J (fun k => k = r) pre wr ∧ Bounds r (fun k => k = r) wr) := Lib.hid ⟨HK.out.ky.done HK.out.rg.kv.srt hl, HK.out.ky, HK.out.j, fun b hb => by have := HK.out.rg.lt; omega⟩
      clear hl HK
      gi_wp2
      go_end0
      exact ⟨⟨_, rfl⟩, fun k => k = r, HR.out ▸ HF.out.2.2.2, .inl ⟨pre, HF.out.1, HF.out.2.1, HF.out.2.2.1⟩⟩
    · intro k v w2 hk32 hlk hgv hrg2 hlt hg2 hs2 hen
      have hrg2 : Rgv enc w2 b r t (lfOf t (pre ++ [k])) := by rw [← lfOf_snoc]; simpa using hrg2
      obtain ⟨KS, hKS⟩ : ∃ KS, KS = row8 k := ⟨_, rfl⟩
      obtain ⟨VV, hVV⟩ : ∃ VV, VV = enc v := ⟨_, rfl⟩
      rw [← hKS, ← hVV] at hen ⊢
      have HKS : Hid (KS.size = 32 ∧ KS.all (·.oneCell') = true ∧ KS = row8 k) := Lib.hid ⟨by rw [hKS, row8_size, hk32], by rw [hKS]; exact row8_one _, hKS⟩
      have hb2 : Steps W.heap.size (fun k => k = r) wr w2 := ⟨hg2.os, hg2.tape, hg2.output, hg2.size, fun b hb hd _ => hg2.block b hb (fun e => hd (by injection e))⟩
      have H2 : Hid (Rgv enc w2 b r t (lfOf t (pre ++ [k])) ∧ w2.heap[p]? = some (.cells #[.map (some b)] 64 (0, 0)) ∧ J (fun k => k = r) pre w2 ∧ Kys t (pre ++ [k]) ∧ w2.rangeLeft b r < wr.rangeLeft b r ∧ r < w2.heap.size) := Lib.hid
        ⟨hrg2, (hg2.block _ (lt_of_cells HK.out.box) (fun e => by injection e with e; have := HPB.out.1; have := HR.out; omega)).trans HK.out.box,
         HJ.out _ _ _ _ _ (fun b hb => by have h1 := HK.out.rg.lt; have h2 := HR.out; omega) HK.out.j hb2 (fun _ h => .inl h), HK.out.ky.snoc hlk, hlt, by rw [hs2]; exact HK.out.rg.lt⟩
      clear hrg2 hlt hg2 hs2 hlk hgv hk32 hKS hVV hb2 HK
      have hg7 := heap_alloc_new w2 (.cells zerosId 31)
      have HG7 := Lib.hid hg7
      have hs3 : ∀ b, b < w2.heap.size → ((w2.alloc (.cells zerosId 31)).setRow w2.heap.size KS).heap[b]? = w2.heap[b]? := fun b hb => (setRow_ne _ _ _ _ (by omega)).trans (Below.heap_alloc _ _ _ hb)
      have hb3 : Below w2.heap.size w2 ((w2.alloc (.cells zerosId 31)).setRow w2.heap.size KS) := below_setRow ((Below.refl _ _).alloc (Nat.le_refl _) _) (Nat.le_refl _) _
      have hrg3 := H2.out.1.below hb3
      have H3 : Hid (Rgv enc ((w2.alloc (.cells zerosId 31)).setRow w2.heap.size KS) b r t (lfOf t (pre ++ [k])) ∧ ((w2.alloc (.cells zerosId 31)).setRow w2.heap.size KS).heap[p]? = some (.cells #[.map (some b)] 64 (0, 0)) ∧ J (fun k => k = r) pre ((w2.alloc (.cells zerosId 31)).setRow w2.heap.size KS) ∧ Kys t (pre ++ [k]) ∧ ((w2.alloc (.cells zerosId 31)).setRow w2.heap.size KS).rangeLeft b r < wr.rangeLeft b r ∧ ((w2.alloc (.cells zerosId 31)).setRow w2.heap.size KS).heap[w2.heap.size]? = some (.cells KS 31 (0, 0)) ∧ r < ((w2.alloc (.cells zerosId 31)).setRow w2.heap.size KS).heap.size) := Lib.hid
        ⟨hrg3.1, (hs3 _ (lt_of_cells H2.out.2.1)).trans H2.out.2.1, HJ.out _ _ _ _ _ (fun b hb => by have h1 := H2.out.2.2.2.2.2; have h2 := HR.out; omega) H2.out.2.2.1 (Steps.of_below hb3) (fun _ h => .inl h), H2.out.2.2.2.1, by rw [hrg3.2]; exact H2.out.2.2.2.2.1, setRow_at hg7, Nat.lt_of_lt_of_le H2.out.2.2.2.2.2 hb3.size⟩
      clear hg7 hs3 hb3 hrg3 H2
      gi_wp2_with (first
        | (refine wpListIn_store_row (by rfl) 31 (.tmp 3) (.tmp 9) (by rfl) w2.heap.size KS (by rfl) (by rfl) 31 zerosId HG7.out (by rw [HKS.out.1]; exact id_info) (by rw [HKS.out.1]; rfl) HKS.out.2.1 ?_
           clear HG7 hen
           generalize (w2.alloc (.cells zerosId 31)).setRow w2.heap.size KS = w3 at H3 ⊢
           generalize w2.heap.size = q7 at H3 ⊢
           obtain ⟨fn, tmps, assign, body, hy, hR⟩ := HY.out (fun k => k = r) pre k w3 (fun b hb => by have h1 := H3.out.2.2.2.2.2.2; have h2 := HR.out; omega) H3.out.2.2.1 H3.out.2.2.2.1
           have HRR := Lib.hid hR
           rw [show row8 k = KS from HKS.out.2.2.symm] at hy
           clear hR)
        | (refine wpListIn_load_row (by rfl) 31 (.tmp 3) (by rfl) q7 (by rfl) 31 KS (0, 0) _ H3.out.2.2.2.2.2.1 Try.underlying31 (by rfl) (by rw [HKS.out.1]; exact id_info) ?_))
      refine HRR.out.mono ?_
      rintro e w4 (⟨rfl, hJ4, hk4⟩ | ⟨rfl, hJx4, hk4⟩)
      · have hrb : w4.heap[b]? = w3.heap[b]? := hk4.turned.block b H3.out.1.kv.lt (fun h => h (.inr (.inr rfl)))
        have hrr : w4.heap[r]? = w3.heap[r]? := hk4.turned.block r H3.out.1.lt (fun h => h (.inl rfl))
        have hrg4 := H3.out.1.kept hrb hrr
        have H4 : Hid (KyS enc J p b r 64 t (pre ++ [k]) w4 ∧ w4.rangeLeft b r < wr.rangeLeft b r) := Lib.hid
          ⟨⟨hrg4.1, (hk4.turned.block p (lt_of_cells H3.out.2.1) (fun h => h (.inr (.inl rfl)))).trans H3.out.2.1, hJ4, H3.out.2.2.2.1⟩, by rw [hrg4.2]; exact H3.out.2.2.2.2.1⟩
        clear hrb hrr hrg4 hJ4 hk4 hy HRR H3
        gi_wp2
        go_roundw
        case rel => exact ⟨_, H4.out.1⟩
        case measure => exact H4.out.2
      · have HXX : Hid (∃ D, Bounds W.heap.size D w4 ∧ ∃ pre, Kys t pre ∧ Jx D pre w4) := Lib.hid ⟨fun k => k = r, fun b hb => by have h1 := H3.out.2.2.2.2.2.2; have h2 := HR.out; have h3 := hk4.turned.size; omega, _, H3.out.2.2.2.1, hJx4⟩
        clear hJx4 hk4 hy HRR H3
        gi_wp2
        refine bodyPost_ret (results_none rfl _ _ _) rfl ?_
        obtain ⟨D, hB, hx⟩ := HXX.out
        exact ⟨⟨_, rfl⟩, D, hB, .inr hx⟩
/-- ITS PROMISE. -/
theorem keysP_iter {V : Type} {enc : V → Value} {t : Tv V} (p b : Nat) (w : World) (hbox : w.heap[p]? = some (.cells #[.map (some b)] 64 (0, 0))) (hkv : Kv enc w b t) :
    Iter Try.prog 50 #[.pointer (some ⟨p, 0, none⟩)] (fun k => #[.agg (row8 k)]) (fun k => k = p ∨ k = b) (fun _ pre _ => Kys t pre) (fun xs => xs.Perm (t.map (·.1))) w := by
  refine ⟨fun _ _ _ _ h _ => h, fun l J Jx W hW hJ hJx hY h0 => ?_⟩
  refine callsIn_wide.1 ((keysP1 l p b J Jx W hJ ((hW.block _ (lt_of_cells hbox)).trans hbox) (hkv.below hW) (fun D pre k W1 hB hj hk => ?_) h0).mono ?_)
  · obtain ⟨fn, tmps, assign, body, hy, hR⟩ := hY D pre k W1 hB hj hk
    exact ⟨fn, tmps, assign, body, hy, RoundIn.wide hR⟩
  · rintro e W' ⟨hv, D, hB, ⟨xs, h1, h2, h3⟩ | ⟨pre, h2, h3⟩⟩
    · exact ⟨hv, D, hB, .inl ⟨xs, h1, h2, h3⟩⟩
    · exact ⟨hv, D, hB, .inr ⟨pre, h2, h3⟩⟩

def keysFnN (p : Nat) : Value := .func (.func 49) #[] #[.pointer (some ⟨p, 0, none⟩)]
set_option maxHeartbeats 2000000 in
theorem keysN_any (mb : Option Nat) (w : World) :
    Calls Try.prog 39 #[.map mb] w fun e w' => e = .returned (keysFnN w.heap.size) ∧ w' = w.alloc (.cells #[.map mb] 88) := by
  have hmf : ∀ (fn : Fn) (first cap : Array Value) (w : World), (Instr.makeFunc fn first cap).run Try.prog w = .ok (.func fn first cap) w := fun _ _ _ _ => rfl
  go_enter Try.func39, Try.ntmps39
  go_wp2_with fail
  go_ret
  exact ⟨rfl, rfl⟩
set_option maxHeartbeats 4000000 in
set_option maxRecDepth 100000 in
theorem keysN1 {V : Type} {enc : V → Value} {t : Tv V} (l p b : Nat) (J Jx : (Nat → Prop) → List (List UInt8) → World → Prop) (W : World) (hJ : Still W.heap.size J)
    (hbox : W.heap[p]? = some (.cells #[.map (some b)] 88 (0, 0))) (hkv : Kv enc W b t)
    (hY : ∀ D pre k W1, Bounds W.heap.size D W1 → J D pre W1 → Kys t (pre ++ [k]) → YieldAt Fence.wide 2 Try.prog l #[.agg (row8 k)] W1 fun e W' =>
      (e = .returned (.bool true) ∧ J D (pre ++ [k]) W' ∧ Kept W.heap.size D (fun k => k = p ∨ k = b) W1 W') ∨ (e = .returned (.bool false) ∧ Jx D (pre ++ [k]) W' ∧ Kept W.heap.size D (fun k => k = p ∨ k = b) W1 W'))
    (h0 : J (fun _ => False) [] W) :
    CallsIn Fence.wide 3 Try.prog 49 #[.func (.yield l) #[] #[], .pointer (some ⟨p, 0, none⟩)] W fun e W' => (∃ v, e = .returned v) ∧ ∃ D, Bounds W.heap.size D W' ∧ ((∃ xs, xs.Perm (t.map (·.1)) ∧ Kys t xs ∧ J D xs W') ∨ (∃ pre, Kys t pre ∧ Jx D pre W')) := by
  have hz := zero_id
  have hc1 := cell_of_cells hbox 0
  simp only [List.getElem?_toArray, List.getElem?_cons_zero] at hc1
  have HB := Lib.hid (And.intro hbox (And.intro hkv h0))
  have HY := Lib.hid hY
  have HJ := Lib.hid hJ
  have hpl := lt_of_cells hbox
  have hbl := hkv.lt
  have HPB := Lib.hid (And.intro hpl hbl)
  clear hbox hY hJ h0 hpl hbl
  refine callsIn_of_wp Try.func49 rfl trivial ?_ rfl
  simp only [Try.ntmps49, List.size_toArray, List.length_cons, List.length_nil, Nat.reduceAdd, Nat.reduceSub, Array.replicate_succ, Array.replicate_zero, List.push_toArray, List.append_toArray, List.nil_append, List.cons_append]
  gi_wp2_with (first
    | (gi_at_range; refine wpListIn_range_kv _ rfl _ rfl Try.underlying88 rfl hkv ?_; intro w0 hrg0 hb0 hs0)
    | gi_in)
  have H0 : Hid (KyS enc J p b W.heap.size 88 t [] w0) := Lib.hid
    ⟨by rw [lfOf_nil]; exact hrg0, (hb0.block _ HPB.out.1).trans HB.out.1, HJ.out _ _ _ _ _ (Bounds.none_ _ _) HB.out.2.2 (Steps.of_below hb0) (fun b hb => .inr ⟨by omega, by omega⟩), Kys.nil t⟩
  have HS0 := Lib.hid hs0
  clear hrg0 hb0 hs0 hkv HB hc1
  obtain ⟨r, hr⟩ : ∃ r, r = W.heap.size := ⟨_, rfl⟩
  have HR : Hid (r = W.heap.size) := Lib.hid hr
  rw [← hr] at H0 ⊢
  clear hr
  go_frame
  gi_loopw [3] (fun _ wr => ∃ pre, KyS enc J p b r 88 t pre wr) (fun _ wr => wr.rangeLeft b r)
  case atStart => exact ⟨[], H0.out⟩
  case round =>
    obtain ⟨pre, hks⟩ := hrel
    clear H0
    have HK := Lib.hid hks
    clear hks
    gi_wp2_with (first
      | (gi_at_next; refine wpListIn_next_kv _ rfl _ rfl rfl HK.out.rg ?_ ?_)
      | gi_in)
    · intro hl
      have HF : Hid (pre.Perm (t.map (·.1)) ∧ Kys t pre ∧ J (fun k => k = r) pre wr ∧ Bounds r (fun k => k = r) wr) := Lib.hid ⟨HK.out.ky.done HK.out.rg.kv.srt hl, HK.out.ky, HK.out.j, fun b hb => by have := HK.out.rg.lt; omega⟩
      clear hl HK
      gi_wp2
      go_end0
      exact ⟨⟨_, rfl⟩, fun k => k = r, HR.out ▸ HF.out.2.2.2, .inl ⟨pre, HF.out.1, HF.out.2.1, HF.out.2.2.1⟩⟩
    · intro k v w2 hk32 hlk hgv hrg2 hlt hg2 hs2 hen
      have hrg2 : Rgv enc w2 b r t (lfOf t (pre ++ [k])) := by rw [← lfOf_snoc]; simpa using hrg2
      obtain ⟨KS, hKS⟩ : ∃ KS, KS = row8 k := ⟨_, rfl⟩
      obtain ⟨VV, hVV⟩ : ∃ VV, VV = enc v := ⟨_, rfl⟩
      rw [← hKS, ← hVV] at hen ⊢
      have HKS : Hid (KS.size = 32 ∧ KS.all (·.oneCell') = true ∧ KS = row8 k) := Lib.hid ⟨by rw [hKS, row8_size, hk32], by rw [hKS]; exact row8_one _, hKS⟩
      have hb2 : Steps W.heap.size (fun k => k = r) wr w2 := ⟨hg2.os, hg2.tape, hg2.output, hg2.size, fun b hb hd _ => hg2.block b hb (fun e => hd (by injection e))⟩
      have H2 : Hid (Rgv enc w2 b r t (lfOf t (pre ++ [k])) ∧ w2.heap[p]? = some (.cells #[.map (some b)] 88 (0, 0)) ∧ J (fun k => k = r) pre w2 ∧ Kys t (pre ++ [k]) ∧ w2.rangeLeft b r < wr.rangeLeft b r ∧ r < w2.heap.size) := Lib.hid
        ⟨hrg2, (hg2.block _ (lt_of_cells HK.out.box) (fun e => by injection e with e; have := HPB.out.1; have := HR.out; omega)).trans HK.out.box,
         HJ.out _ _ _ _ _ (fun b hb => by have h1 := HK.out.rg.lt; have h2 := HR.out; omega) HK.out.j hb2 (fun _ h => .inl h), HK.out.ky.snoc hlk, hlt, by rw [hs2]; exact HK.out.rg.lt⟩
      clear hrg2 hlt hg2 hs2 hlk hgv hk32 hKS hVV hb2 HK
      have hg7 := heap_alloc_new w2 (.cells zerosId 31)
      have HG7 := Lib.hid hg7
      have hs3 : ∀ b, b < w2.heap.size → ((w2.alloc (.cells zerosId 31)).setRow w2.heap.size KS).heap[b]? = w2.heap[b]? := fun b hb => (setRow_ne _ _ _ _ (by omega)).trans (Below.heap_alloc _ _ _ hb)
      have hb3 : Below w2.heap.size w2 ((w2.alloc (.cells zerosId 31)).setRow w2.heap.size KS) := below_setRow ((Below.refl _ _).alloc (Nat.le_refl _) _) (Nat.le_refl _) _
      have hrg3 := H2.out.1.below hb3
      have H3 : Hid (Rgv enc ((w2.alloc (.cells zerosId 31)).setRow w2.heap.size KS) b r t (lfOf t (pre ++ [k])) ∧ ((w2.alloc (.cells zerosId 31)).setRow w2.heap.size KS).heap[p]? = some (.cells #[.map (some b)] 88 (0, 0)) ∧ J (fun k => k = r) pre ((w2.alloc (.cells zerosId 31)).setRow w2.heap.size KS) ∧ Kys t (pre ++ [k]) ∧ ((w2.alloc (.cells zerosId 31)).setRow w2.heap.size KS).rangeLeft b r < wr.rangeLeft b r ∧ ((w2.alloc (.cells zerosId 31)).setRow w2.heap.size KS).heap[w2.heap.size]? = some (.cells KS 31 (0, 0)) ∧ r < ((w2.alloc (.cells zerosId 31)).setRow w2.heap.size KS).heap.size) := Lib.hid
        ⟨hrg3.1, (hs3 _ (lt_of_cells H2.out.2.1)).trans H2.out.2.1, HJ.out _ _ _ _ _ (fun b hb => by have h1 := H2.out.2.2.2.2.2; have h2 := HR.out; omega) H2.out.2.2.1 (Steps.of_below hb3) (fun _ h => .inl h), H2.out.2.2.2.1, by rw [hrg3.2]; exact H2.out.2.2.2.2.1, setRow_at hg7, Nat.lt_of_lt_of_le H2.out.2.2.2.2.2 hb3.size⟩
      clear hg7 hs3 hb3 hrg3 H2
      gi_wp2_with (first
        | (refine wpListIn_store_row (by rfl) 31 (.tmp 3) (.tmp 9) (by rfl) w2.heap.size KS (by rfl) (by rfl) 31 zerosId HG7.out (by rw [HKS.out.1]; exact id_info) (by rw [HKS.out.1]; rfl) HKS.out.2.1 ?_
           clear HG7 hen
           generalize (w2.alloc (.cells zerosId 31)).setRow w2.heap.size KS = w3 at H3 ⊢
           generalize w2.heap.size = q7 at H3 ⊢
           obtain ⟨fn, tmps, assign, body, hy, hR⟩ := HY.out (fun k => k = r) pre k w3 (fun b hb => by have h1 := H3.out.2.2.2.2.2.2; have h2 := HR.out; omega) H3.out.2.2.1 H3.out.2.2.2.1
           have HRR := Lib.hid hR
           rw [show row8 k = KS from HKS.out.2.2.symm] at hy
           clear hR)
        | (refine wpListIn_load_row (by rfl) 31 (.tmp 3) (by rfl) q7 (by rfl) 31 KS (0, 0) _ H3.out.2.2.2.2.2.1 Try.underlying31 (by rfl) (by rw [HKS.out.1]; exact id_info) ?_))
      refine HRR.out.mono ?_
      rintro e w4 (⟨rfl, hJ4, hk4⟩ | ⟨rfl, hJx4, hk4⟩)
      · have hrb : w4.heap[b]? = w3.heap[b]? := hk4.turned.block b H3.out.1.kv.lt (fun h => h (.inr (.inr rfl)))
        have hrr : w4.heap[r]? = w3.heap[r]? := hk4.turned.block r H3.out.1.lt (fun h => h (.inl rfl))
        have hrg4 := H3.out.1.kept hrb hrr
        have H4 : Hid (KyS enc J p b r 88 t (pre ++ [k]) w4 ∧ w4.rangeLeft b r < wr.rangeLeft b r) := Lib.hid
          ⟨⟨hrg4.1, (hk4.turned.block p (lt_of_cells H3.out.2.1) (fun h => h (.inr (.inl rfl)))).trans H3.out.2.1, hJ4, H3.out.2.2.2.1⟩, by rw [hrg4.2]; exact H3.out.2.2.2.2.1⟩
        clear hrb hrr hrg4 hJ4 hk4 hy HRR H3
        gi_wp2
        go_roundw
        case rel => exact ⟨_, H4.out.1⟩
        case measure => exact H4.out.2
      · have HXX : Hid (∃ D, Bounds W.heap.size D w4 ∧ ∃ pre, Kys t pre ∧ Jx D pre w4) := Lib.hid ⟨fun k => k = r, fun b hb => by have h1 := H3.out.2.2.2.2.2.2; have h2 := HR.out; have h3 := hk4.turned.size; omega, _, H3.out.2.2.2.1, hJx4⟩
        clear hJx4 hk4 hy HRR H3
        gi_wp2
        refine bodyPost_ret (results_none rfl _ _ _) rfl ?_
        obtain ⟨D, hB, hx⟩ := HXX.out
        exact ⟨⟨_, rfl⟩, D, hB, .inr hx⟩
/-- ITS PROMISE. -/
theorem keysN_iter {V : Type} {enc : V → Value} {t : Tv V} (p b : Nat) (w : World) (hbox : w.heap[p]? = some (.cells #[.map (some b)] 88 (0, 0))) (hkv : Kv enc w b t) :
    Iter Try.prog 49 #[.pointer (some ⟨p, 0, none⟩)] (fun k => #[.agg (row8 k)]) (fun k => k = p ∨ k = b) (fun _ pre _ => Kys t pre) (fun xs => xs.Perm (t.map (·.1))) w := by
  refine ⟨fun _ _ _ _ h _ => h, fun l J Jx W hW hJ hJx hY h0 => ?_⟩
  refine callsIn_wide.1 ((keysN1 l p b J Jx W hJ ((hW.block _ (lt_of_cells hbox)).trans hbox) (hkv.below hW) (fun D pre k W1 hB hj hk => ?_) h0).mono ?_)
  · obtain ⟨fn, tmps, assign, body, hy, hR⟩ := hY D pre k W1 hB hj hk
    exact ⟨fn, tmps, assign, body, hy, RoundIn.wide hR⟩
  · rintro e W' ⟨hv, D, hB, ⟨xs, h1, h2, h3⟩ | ⟨pre, h2, h3⟩⟩
    · exact ⟨hv, D, hB, .inl ⟨xs, h1, h2, h3⟩⟩
    · exact ⟨hv, D, hB, .inr ⟨pre, h2, h3⟩⟩
end Go.Proofs.Ytmmibldchfmleaa

/-! Arrays of bytes held against each other. -/
namespace Go.Proofs.Ytmmibldchfmleaa
open Go.RowKit

section
variable {P : Program} (w : World)
theorem run_part_byte {e : TypeId} (he : P.underlying e = some (.int .u8)) (l : List UInt8) (k : Nat) (hk : k < l.length) :
    (part e (u8s l).toArray (k * 1)).run P w = .ok (.int .u8 ((l[k]).toNat : Int)) w := by
  have hag : (isAgg e).run P w = .ok false w := by
    unfold isAgg
    rw [Sem.run_bind, run_underlying he w]
    simp
  have hc : (u8s l)[k]? = some (.int .u8 ((l[k]).toNat : Int)) := by simp [u8s, List.getElem?_eq_getElem hk]
  simp [part, Sem.run_bind, hag, hc]

theorem run_eqItems_bytes (d : Nat) {e : TypeId} (he : P.underlying e = some (.int .u8)) (l m : List UInt8) (hlm : l.length = m.length) :
    ∀ (j k : Nat), k + j = l.length → (Op.eqItems (d + 1) e 1 (u8s l).toArray (u8s m).toArray (List.range' k j)).run P w = .ok (decide (l.drop k = m.drop k)) w
  | 0, k, h => by
    have h1 : l.drop k = [] := List.drop_eq_nil_of_le (by omega)
    have h2 : m.drop k = [] := List.drop_eq_nil_of_le (by omega)
    simp [Op.eqItems, h1, h2]
  | j + 1, k, h => by
    have hk : k < l.length := by omega
    have hk2 : k < m.length := by omega
    rw [List.range'_succ]
    simp only [Op.eqItems, Sem.run_bind, run_part_byte w he l k hk, run_part_byte w he m k hk2, Result.andThen_ok, run_equalIn_int w d e .u8 .u8 _ _ he]
    have e1 : l.drop k = l[k] :: l.drop (k + 1) := List.drop_eq_getElem_cons hk
    have e2 : m.drop k = m[k] :: m.drop (k + 1) := List.drop_eq_getElem_cons hk2
    have ih := run_eqItems_bytes d he l m hlm j (k + 1) (by omega)
    rw [e1, e2]
    clear e1 e2
    generalize l.drop (k + 1) = a at *
    generalize m.drop (k + 1) = b at *
    by_cases hx : l[k] = m[k]
    · rw [hx]
      simp [ih]
    · have hne : ¬ ((l[k]).toNat : Int) = ((m[k]).toNat : Int) := by
        intro e1
        exact hx (UInt8.toNat.inj (by omega))
      simp [hx, hne]

theorem run_equalIn_bytes {t e : TypeId} {n : Nat} {i : TypeInfo} (ht : P.underlying t = some (.array n e)) (he : P.underlying e = some (.int .u8)) (hi : P.info? e = some i) (hs : P.cellsOf e = 1) (d : Nat) (l m : List UInt8) (hl : l.length = n) (hm : m.length = n) :
    (Op.equalIn (d + 2) t (.agg (u8s l).toArray) (.agg (u8s m).toArray)).run P w = .ok (decide (l = m)) w := by
  rw [show d + 2 = (d + 1) + 1 from rfl, run_equalIn_array w (d + 1) _ _ ht hi, hs, List.range_eq_range', run_eqItems_bytes w d he l m (by omega) n 0 (by omega)]
  simp
end
end Go.Proofs.Ytmmibldchfmleaa
