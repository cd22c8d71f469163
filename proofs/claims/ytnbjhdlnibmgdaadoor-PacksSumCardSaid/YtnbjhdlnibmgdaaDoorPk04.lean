/-
  The law of drawn regions (Grow) within a round of a loop over an iterator; whole rows loaded and stored there.
-/
import Derived.Test.YtnbjhdlnibmgdaaDoorPk03
import Derived.OrdersIn
import Derived.RangeFuncCalls
import Derived.OwnWalkIn
/-! The law of drawn regions (Grow) within a round of a loop over an iterator; whole rows loaded and stored there. -/
namespace Go.Proofs.YtnbjhdlnibmgdaaDoor
open Go.RowKit
namespace Grow
/-- No operation defers. -/
def noDefer (ops : Array Oper) : Bool := ops.all fun o => match o.op with | .defer _ => false | _ => true
theorem noDefer_spec {ops : Array Oper} (h : noDefer ops = true) {i : Nat} {o : Oper} (ho : ops[i]? = some o) : ∀ c, o.op ≠ .defer c := by
  intro c hc
  have := Array.all_eq_true_iff_forall_mem.1 h o (Array.mem_of_getElem? ho)
  rw [hc] at this
  cases this
section
variable {P : Program} {ops : Array Oper} {Q : Exit → Act → World → Prop} {G : World → World → Prop} {Φ : Nat → Value → World → Prop} {a0 : Act} {w0 : World} {lr nr : Nat}
theorem runs_wpIn {o : Oper} {a : Act} {w : World} {K : Act → World → Prop} {R : Value → World → Prop} (hd : ∀ c, o.op ≠ .defer c) (hR : ∀ v w', R v w' → K (a.put o.dst v) w') (h : runsTo P R ((execOp a.eval o).run P w)) : o.wpIn (Fence.wide.inRound lr) nr P a w K Q := by
  unfold Oper.wpIn
  refine ⟨fun _ _ => trivial, ?_⟩
  rw [Oper.semAt_plain _ _ _ hd]
  generalize (execOp a.eval o).run P w = r at h
  unfold runsTo at h
  split at h
  · exact hR _ _ h
  · exact hR _ _ h
  · refine ⟨fun h => (by cases h), CallsIn.inRound lr (callsIn_wide.2 (Calls.mono h ?_))⟩
    rintro e w'' ⟨v, rfl, hr⟩
    exact hR _ _ hr
  · exact h.elim

theorem inv_put {n i : Nat} {listed : Array Bool} {a : Act} {w : World} {o : Oper} {v : Value} {w' : World} (hB : growB ops n = true) (hn : a0.tmps.size = n) 
    (hI : Inv ops G Φ a0 w0 listed a w) (hi : i ∈ Region.ready .any ops listed) (ho : ops[i]? = some o) (hg : G w0 w') (hkeep : ∀ j, listed.getD j false = true → ∀ u, Φ j u w → Φ j u w') (hv : Φ i v w') : Inv ops G Φ a0 w0 (listed.setIfInBounds i true) (a.put o.dst v) w' := by
  obtain ⟨hun, o1, ho1, hall⟩ := mem_ready.1 hi
  obtain rfl : o = o1 := by rw [ho] at ho1; exact Option.some.inj ho1
  obtain ⟨hun, hil⟩ := getD_both' hun
  obtain ⟨hB1, hB2⟩ := growB_spec hB ho
  have hmon : ∀ j, listed.getD j false = true → (listed.setIfInBounds i true).getD j false = true := fun j hj => by
    by_cases hji : i = j
    · subst hji; exact getD_set_same hil
    · rw [getD_set_ne' hji]; exact hj
  refine ⟨hg, by simpa using hI.lsize, ?_, ?_, ?_, ?_, ?_, ?_⟩
  · cases hd : o.dst <;> simp [Act.put, hI.size]
  · cases hd : o.dst <;> simp [Act.put, hI.defers]
  · intro j o' hj hl e he hb
    by_cases hji : i = j
    · subst hji
      obtain rfl : o = o' := by rw [ho] at hj; exact Option.some.inj hj
      exact hmon _ (hall e he hb)
    · rw [getD_set_ne' hji] at hl
      exact hmon _ (hI.closed j o' hj hl e he hb)
  · intro j o' d hj hl hd
    by_cases hji : i = j
    · subst hji
      obtain rfl : o = o' := by rw [ho] at hj; exact Option.some.inj hj
      have := (hB2 d hd).1
      rw [hd]
      have e : (a.put (some d) v).tmps.getD d undef = v := by
        simp only [Act.put, Array.getD_eq_getD_getElem?, Array.getElem?_setIfInBounds_self, hI.size, hn]
        rw [if_pos this]; rfl
      rw [e]
      exact hv
    · rw [getD_set_ne' hji] at hl
      have h1 := hkeep j hl _ (hI.done j o' d hj hl hd)
      cases hdo : o.dst with
      | none => simpa [Act.put] using h1
      | some e =>
        have hne : e ≠ d := by
          rintro rfl
          exact (hB2 e hdo).2 j o' hj (fun h => hji h.symm) hd
        have e1 : (a.put (some e) v).tmps.getD d undef = a.tmps.getD d undef := by
          simp only [Act.put, Array.getD_eq_getD_getElem?, Array.getElem?_setIfInBounds_ne hne]
        rw [e1]; exact h1
  · intro j o' hj hl hd
    by_cases hji : i = j
    · subst hji
      exact ⟨v, hv⟩
    · rw [getD_set_ne' hji] at hl
      obtain ⟨x, hx⟩ := hI.doneN j o' hj hl hd
      exact ⟨x, hkeep j hl _ hx⟩
  · intro d hd
    have h1 := hI.rest d fun j o' hj hl => hd j o' hj (hmon j hl)
    rw [← h1]
    cases hdo : o.dst with
    | none => rfl
    | some e =>
      have hne : e ≠ d := by
        rintro rfl
        exact hd i o ho (getD_set_same hil) hdo
      simp only [Act.put, Array.getElem?_setIfInBounds_ne hne]

theorem inv_reads {i : Nat} {listed : Array Bool} {a : Act} {w : World} {o : Oper} (hI : Inv ops G Φ a0 w0 listed a w) (hi : i ∈ Region.ready .any ops listed) (ho : ops[i]? = some o) :
    (∀ j d, depB ops i j d = true → Φ j (a.eval (.tmp d)) w) ∧ (∀ d, untB ops i d = true → a.eval (.tmp d) = a0.eval (.tmp d)) := by
  obtain ⟨hun, o1, ho1, hall⟩ := mem_ready.1 hi
  obtain rfl : o = o1 := by rw [ho] at ho1; exact Option.some.inj ho1
  obtain ⟨hun, hil⟩ := getD_both' hun
  refine ⟨?_, ?_⟩
  · intro j d hd
    unfold depB at hd
    rw [ho] at hd
    simp only [Bool.and_eq_true, beq_iff_eq] at hd
    obtain ⟨e, he, hb⟩ := Array.any_eq_true'.1 hd.1
    simp only [Bool.and_eq_true, beq_iff_eq] at hb
    obtain ⟨oj, hoj, hdj⟩ := Option.bind_eq_some_iff.1 hd.2
    exact hI.done j oj d hoj (hb.2 ▸ hall e he hb.1) hdj
  · intro d hd
    have := hI.rest d fun j o' hj hl hdd => by
      rcases untB_spec hd j o' hj hdd with rfl | ⟨e, he, hb, hon⟩
      · rw [hun] at hl; cases hl
      · have := hI.closed j o' hj hl e he hb
        rw [hon, hun] at this; cases this
    show a.tmps.getD d undef = a0.tmps.getD d undef
    rw [Array.getD_eq_getD_getElem?, Array.getD_eq_getD_getElem?, this]


/-- j waits for i. -/
def waitsB (ops : Array Oper) (j i : Nat) : Bool := match ops[j]? with | some o => o.after.any fun e => Region.binds .any e && e.on == i | none => false
/-- The invariant, with what holds till an operation is done (Ψ). -/
structure InvY (Ψ : Nat → World → Prop) (ops : Array Oper) (G : World → World → Prop) (Φ : Nat → Value → World → Prop) (a0 : Act) (w0 : World) (listed : Array Bool) (a : Act) (w : World) : Prop where
  base : Inv ops G Φ a0 w0 listed a w
  yet : ∀ j, j < ops.size → listed.getD j false = false → Ψ j w
/-- THE WALK OF ONE OPERATION: Ψ i, and Ψ j of each that waits for it, hold; those of all others stay; so do the claims of those that don't wait for it. -/
def GStepY (P : Program) (Ψ : Nat → World → Prop) (ops : Array Oper) (G : World → World → Prop) (Φ : Nat → Value → World → Prop) (a0 : Act) (w0 : World) (i : Nat) : Prop :=
  ∀ (o : Oper), ops[i]? = some o → ∀ (E : Operand → Value) (W : World), (∀ v, E (.const v) = v) → (∀ g, E (.global g) = .pointer (some ⟨g, 0, none⟩)) → (∀ f, E (.func f) = .func (.func f) #[] #[]) → G w0 W →
    (∀ j d, depB ops i j d = true → Φ j (E (.tmp d)) W) → (∀ d, untB ops i d = true → E (.tmp d) = a0.eval (.tmp d)) → (∀ j, j < ops.size → (j = i ∨ waitsB ops j i = true) → Ψ j W) →
    o.guard = none ∧ runsTo P (fun v W' => G w0 W' ∧ Φ i v W' ∧ (∀ j, j < ops.size → j ≠ i → waitsB ops j i = false → ∀ u, Φ j u W → Φ j u W') ∧ ∀ j, j < ops.size → j ≠ i → Ψ j W → Ψ j W') ((execOp E o).run P W)

theorem step_invY {Ψ : Nat → World → Prop} {n i : Nat} {listed : Array Bool} {a : Act} {w : World} (hnd : noDefer ops = true) (hB : growB ops n = true) (hn : a0.tmps.size = n)
    (hI : InvY Ψ ops G Φ a0 w0 listed a w) (hi : i ∈ Region.ready .any ops listed) (hs : GStepY P Ψ ops G Φ a0 w0 i) : wpOpIn (Fence.wide.inRound lr) nr P ops Q i (fun a' w' => InvY Ψ ops G Φ a0 w0 (listed.setIfInBounds i true) a' w') a w := by
  obtain ⟨hun, o, ho, hall⟩ := mem_ready.1 hi
  obtain ⟨hun, hil⟩ := getD_both' hun
  obtain ⟨hr1, hr2⟩ := inv_reads hI.base hi ho
  have hwait : ∀ j, waitsB ops j i = true → listed.getD j false = false := fun j hw => by
    unfold waitsB at hw
    cases hoj : ops[j]? with
    | none => rw [hoj] at hw; cases hw
    | some oj =>
      rw [hoj] at hw
      obtain ⟨e, he, hb⟩ := Array.any_eq_true'.1 hw
      simp only [Bool.and_eq_true, beq_iff_eq] at hb
      cases hlj : listed.getD j false with
      | false => rfl
      | true =>
        have := hI.base.closed j oj hoj hlj e he hb.1
        rw [hb.2, hun] at this
        cases this
  obtain ⟨hg, hr⟩ := hs o ho a.eval w (fun _ => rfl) (fun _ => rfl) (fun _ => rfl) hI.base.grow hr1 hr2 (fun j hj hji => by
    refine hI.yet j hj ?_
    rcases hji with rfl | hw
    · exact hun
    · exact hwait j hw)
  unfold wpOpIn
  rw [ho]
  show if Region.wanted o (yielded ops a.tmps) = true then _ else _
  rw [if_pos (by unfold Region.wanted; rw [hg])]
  refine runs_wpIn (noDefer_spec hnd ho) (fun v w' h => ⟨inv_put hB hn hI.base hi ho h.1 (fun j hl u hu => ?_) h.2.1, fun j hj hl => ?_⟩) hr
  · have hlt : j < ops.size := by
      rw [← hI.base.lsize]
      cases Nat.lt_or_ge j listed.size with
      | inl h => exact h
      | inr h => rw [Array.getD_eq_getD_getElem?, Array.getElem?_eq_none h] at hl; cases hl
    have hne : j ≠ i := by rintro rfl; rw [hun] at hl; cases hl
    have hw : waitsB ops j i = false := by
      cases hw : waitsB ops j i with
      | false => rfl
      | true => rw [hwait j hw] at hl; cases hl
    exact h.2.2.1 j hlt hne hw u hu
  by_cases hji : i = j
  · subst hji
    rw [getD_set_same hil] at hl
    cases hl
  · rw [getD_set_ne' hji] at hl
    exact h.2.2.2 j hj (fun e => hji e.symm) (hI.yet j hj hl)

theorem any_of_invY {Ψ : Nat → World → Prop} {n : Nat} (hnd : noDefer ops = true) (hB : growB ops n = true) (hn : a0.tmps.size = n)
    (hs : ∀ i, i < ops.size → GStepY P Ψ ops G Φ a0 w0 i) (hfin : ∀ W, G w0 W → fin Φ Q W ops.toList 0 a0) :
    ∀ (fuel : Nat) (listed : Array Bool) (a : Act) (w : World), InvY Ψ ops G Φ a0 w0 listed a w → listed.toList.count false ≤ fuel → wpAnyIn (Fence.wide.inRound lr) nr P .any ops Q fuel listed a w := by
  have hend : ∀ (listed : Array Bool) (a : Act) (w : World), Inv ops G Φ a0 w0 listed a w → Region.ready .any ops listed = [] → Q .normal a w := by
    intro listed a w hI hr
    have hall := all_of_ready hB hI.lsize hr
    have hal : ∀ j o, ops[j]? = some o → listed.getD j false = true := fun j o hj => hall j (Array.getElem?_eq_some_iff.1 hj).1
    have hsame : putL (fun j => a.tmps.getD ((dstOf ops j).getD 0) undef) ops.toList 0 a0 = a := by
      refine putL_same (a := a) _ 0 a0 hI.size.symm hI.defers.symm ?_ ?_
      · intro j o d hj hd
        have hj' : ops[j]? = some o := by rw [← hj, Array.getElem?_toList]
        refine ⟨by rw [hI.size, hn]; exact ((growB_spec hB hj').2 d hd).1, ?_⟩
        have hdd : dstOf ops j = some d := by unfold dstOf; rw [hj']; exact hd
        simp [hdd]
      · intro d hd
        exact (hI.rest d fun j o hj _ => hd o (by rw [Array.mem_toList_iff]; exact Array.mem_of_getElem? hj)).symm
    rw [← hsame]
    refine fin_putL ops.toList 0 a0 (hfin w hI.grow) ?_ (fun j o hj hd => by
      have hj' : ops[j]? = some o := by rw [← hj, Array.getElem?_toList]
      simpa using hI.doneN j o hj' (hal j o hj') hd)
    intro j o d hj hd
    have hj' : ops[j]? = some o := by rw [← hj, Array.getElem?_toList]
    have hdd : dstOf ops j = some d := by unfold dstOf; rw [hj']; exact hd
    have := hI.done j o d hj' (hal j o hj') hd
    simpa [hdd] using this
  intro fuel
  induction fuel with
  | zero =>
    intro listed a w hI hc
    have hr : Region.ready .any ops listed = [] := by
      rw [List.eq_nil_iff_forall_not_mem]
      intro i hi
      have := count_set (mem_ready.1 hi).1
      omega
    exact ⟨hr, hend _ _ _ hI.base hr⟩
  | succ fuel ih =>
    intro listed a w hI hc
    refine ⟨hend _ _ _ hI.base, fun i hi => ?_⟩
    obtain ⟨h1, o, ho, _⟩ := mem_ready.1 hi
    refine wpOpIn_mono ?_ (step_invY hnd hB hn hI hi (hs i (Array.getElem?_eq_some_iff.1 ho).1))
    intro a' w' hI'
    exact ih _ a' w' hI' (by have := count_set h1; omega)
end
/-- One operation that has no guard. -/
theorem stepY_in {P : Program} {Ψ : Nat → World → Prop} {ops : Array Oper} {G : World → World → Prop} {Φ : Nat → Value → World → Prop} {a0 : Act} {w0 : World} {i : Nat} {o : Oper} (ho : ops.toList[i]? = some o) (hg : o.guard = none)
    (h : ∀ (E : Operand → Value) (W : World), (∀ v, E (.const v) = v) → (∀ g, E (.global g) = .pointer (some ⟨g, 0, none⟩)) → (∀ f, E (.func f) = .func (.func f) #[] #[]) → G w0 W →
      (∀ j d, depB ops i j d = true → Φ j (E (.tmp d)) W) → (∀ d, untB ops i d = true → E (.tmp d) = a0.eval (.tmp d)) → (∀ j, j < ops.size → (j = i ∨ waitsB ops j i = true) → Ψ j W) →
      ∀ R : Value → World → Prop, Hid (∀ v W', G w0 W' → Φ i v W' → (∀ j, j < ops.size → j ≠ i → waitsB ops j i = false → ∀ u, Φ j u W → Φ j u W') → (∀ j, j < ops.size → j ≠ i → Ψ j W → Ψ j W') → R v W') → runsTo P R ((execOp E o).run P W)) : GStepY P Ψ ops G Φ a0 w0 i := by
  intro o' ho' E W h1 h2 h3 h4 h5 h6 h7
  obtain rfl : o = o' := by rw [← Array.getElem?_toList, ho] at ho'; exact Option.some.inj ho'
  exact ⟨hg, h E W h1 h2 h3 h4 h5 h6 h7 _ (Lib.hid fun _ _ a b c d => ⟨a, b, c, d⟩)⟩
end Grow

/-- THE LAW. n: how many slots the frame has; Ψ: what holds till an operation is done. -/
theorem wpIn_region_grow {P : Program} {ops : Array Oper} {Q : Exit → Act → World → Prop} {id lr nr : Nat} {a : Act} {w : World} (Θ : World → Prop) (Ψ : Nat → World → Prop) (Φ : Nat → Value → World → Prop) (n : Nat) (hm : P.follows .mixedOrders = true) (hnd : Grow.noDefer ops = true)
    (hB : Grow.growB ops n = true) (hn : a.tmps.size = n) (hθ : Θ w.drew) (hy : ∀ j, j < ops.size → Ψ j w.drew)
    (hs : Grow.allBelow (Grow.GStepY P Ψ ops (fun _ W => Θ W) Φ a w.drew) ops.size) (hfin : ∀ W, Θ W → Grow.fin Φ Q W ops.toList 0 a) : (Code.region id ops true).wpIn (Fence.wide.inRound lr) nr P Q a w := by
  refine wpIn_region_any hm (Grow.any_of_invY hnd hB hn (Grow.allBelow_at hs) hfin ops.size _ a _ ⟨⟨hθ, by simp, rfl, rfl, ?_, ?_, ?_, fun _ _ => rfl⟩, fun j hj _ => hy j hj⟩ ?_)
  · intro j o hj hl
    simp at hl
    have := (Array.getElem?_eq_some_iff.1 hj).1
    simp [this] at hl
  · intro j o d hj hl
    have := (Array.getElem?_eq_some_iff.1 hj).1
    simp [this] at hl
  · intro j o hj hl
    have := (Array.getElem?_eq_some_iff.1 hj).1
    simp [this] at hl
  · simp

theorem wpListIn_load_row {F : Fence} {n : Nat} {P : Program} {ops : Array Oper} {rest : List Oper} {o : Oper} {a : Act} {w : World} {Q : Exit → Act → World → Prop} (hgd : o.guard = none) (ty : TypeId) (x : Operand) (ho : o.op = .load ty x)
    (g : Nat) (hx : a.eval x = .pointer (some ⟨g, 0, none⟩)) (t : TypeId) (cs : Array Value) (fr : Nat × Nat) (d : TypeDesc) (hg : w.heap[g]? = some (.cells cs t fr))
    (hu : P.underlying ty = some d) (hd : (match d with | .struct _ | .array _ _ => true | _ => false) = true) (hi : (P.info? ty).map (·.size) = some cs.size)
    (h : wpListIn F n P ops Q rest (a.put o.dst (.agg cs)) w) : wpListIn F n P ops Q (o :: rest) a w := by
  refine wpListIn_plain hgd fun K hK => ?_
  unfold Oper.wpIn
  refine ⟨?_, ?_⟩
  · simp [Oper.about, ho]
  · rw [Oper.semAt_plain F _ _ (by rw [ho]; intro c hc; cases hc)]
    unfold execOp
    simp only [ho, hx, Instr.loadAt, Instr.sureAddr, Sem.run_bind, Sem.run_pure, Result.andThen_ok, run_loadVar_row w g t ty cs fr d hg hu hd hi]
    exact hK _ _ h
theorem wpListIn_store_row {F : Fence} {n : Nat} {P : Program} {ops : Array Oper} {rest : List Oper} {o : Oper} {a : Act} {w : World} {Q : Exit → Act → World → Prop} (hgd : o.guard = none) (ty : TypeId) (x y : Operand) (ho : o.op = .store ty x y)
    (g : Nat) (cells : Array Value) (hx : a.eval x = .pointer (some ⟨g, 0, none⟩)) (hy : a.eval y = .agg cells)
    (t : TypeId) (old : Array Value) (hg : w.heap[g]? = some (.cells old t (0, 0))) (hi : (P.info? ty).map (·.size) = some cells.size)
    (hold : old.size = cells.size) (h1 : cells.all (·.oneCell') = true)
    (h : wpListIn F n P ops Q rest (a.put o.dst undef) (w.setRow g cells)) : wpListIn F n P ops Q (o :: rest) a w := by
  refine wpListIn_plain hgd fun K hK => ?_
  unfold Oper.wpIn
  refine ⟨?_, ?_⟩
  · simp [Oper.about, ho]
  · rw [Oper.semAt_plain F _ _ (by rw [ho]; intro c hc; cases hc)]
    unfold execOp
    simp only [ho, hx, hy, Instr.storeAt, Instr.sureAddr, Sem.run_bind, Sem.run_pure, Result.andThen_ok, run_storeVar_row w g t ty old cells hg hi hold h1]
    exact hK _ _ h
end Go.Proofs.YtnbjhdlnibmgdaaDoor
