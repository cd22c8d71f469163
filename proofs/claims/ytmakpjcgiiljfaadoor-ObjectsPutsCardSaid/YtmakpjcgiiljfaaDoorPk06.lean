/-
  The law of drawn regions (Grow) within a round of a loop over an iterator; whole rows loaded and stored there.
  The law of drawn regions (Grow) at any fence without a bound on the depth; and where the last operation waits for all others, and is walked by itself (a call of yield).
  Files: does a file stand where another one needs a directory?
  Files: are they more than may be?
  Files: may files be a tree?
  codec.Writer: what each of its methods does, told of a writer that holds a list of bytes ('Wr').
  Files: the tree of bytes.
  Files: strings.Compare's order, the first of rising paths that is not below a text.
  codec.Writer, its further methods.
-/
import Derived.Test.YtmakpjcgiiljfaaDoorPk02
import Derived.OrdersIn
import Derived.RangeFuncCalls
import Derived.OwnWalkIn
import Derived.Test.YtmakpjcgiiljfaaDoorPk05
import Derived.Test.YtmakpjcgiiljfaaDoorPk03
import Derived.Maps.AppendAt
import Derived.Test.YtmakpjcgiiljfaaDoorPk04
/-! The law of drawn regions (Grow) within a round of a loop over an iterator; whole rows loaded and stored there. -/
namespace Go.Proofs.YtmakpjcgiiljfaaDoor
open Go.RowKit
namespace Grow
/-- No operation defers. -/
def noDefer (ops : Array Oper) : Bool := ops.all fun o => match o.op with | .defer _ => false | _ => true
theorem noDefer_spec {ops : Array Oper} (h : noDefer ops = true) {i : Nat} {o : Oper} (ho : ops[i]? = some o) : ∀ c, o.op ≠ .defer c := by
  intro c hc
  have := Array.all_eq_true_iff_forall_mem.1 h o (Array.mem_of_getElem? ho)
  rw [hc] at this
  cases this
section
variable {P : Program} {ops : Array Oper} {Q : Exit → Act → World → Prop} {G : World → World → Prop} {Φ : Nat → Value → World → Prop} {a0 : Act} {w0 : World} {lr nr : Nat}
theorem runs_wpIn {o : Oper} {a : Act} {w : World} {K : Act → World → Prop} {R : Value → World → Prop} (hd : ∀ c, o.op ≠ .defer c) (hR : ∀ v w', R v w' → K (a.put o.dst v) w') (h : runsTo P R ((execOp a.eval o).run P w)) : o.wpIn (Fence.wide.inRound lr) nr P a w K Q := by
  unfold Oper.wpIn
  refine ⟨fun _ _ => trivial, ?_⟩
  rw [Oper.semAt_plain _ _ _ hd]
  generalize (execOp a.eval o).run P w = r at h
  unfold runsTo at h
  split at h
  · exact hR _ _ h
  · exact hR _ _ h
  · refine ⟨fun h => (by cases h), CallsIn.inRound lr (callsIn_wide.2 (Calls.mono h ?_))⟩
    rintro e w'' ⟨v, rfl, hr⟩
    exact hR _ _ hr
  · exact h.elim

theorem inv_put {n i : Nat} {listed : Array Bool} {a : Act} {w : World} {o : Oper} {v : Value} {w' : World} (hB : growB ops n = true) (hn : a0.tmps.size = n) 
    (hI : Inv ops G Φ a0 w0 listed a w) (hi : i ∈ Region.ready .any ops listed) (ho : ops[i]? = some o) (hg : G w0 w') (hkeep : ∀ j, listed.getD j false = true → ∀ u, Φ j u w → Φ j u w') (hv : Φ i v w') : Inv ops G Φ a0 w0 (listed.setIfInBounds i true) (a.put o.dst v) w' := by
  obtain ⟨hun, o1, ho1, hall⟩ := mem_ready.1 hi
  obtain rfl : o = o1 := by rw [ho] at ho1; exact Option.some.inj ho1
  obtain ⟨hun, hil⟩ := getD_both' hun
  obtain ⟨hB1, hB2⟩ := growB_spec hB ho
  have hmon : ∀ j, listed.getD j false = true → (listed.setIfInBounds i true).getD j false = true := fun j hj => by
    by_cases hji : i = j
    · subst hji; exact getD_set_same hil
    · rw [getD_set_ne' hji]; exact hj
  refine ⟨hg, by simpa using hI.lsize, ?_, ?_, ?_, ?_, ?_, ?_⟩
  · cases hd : o.dst <;> simp [Act.put, hI.size]
  · cases hd : o.dst <;> simp [Act.put, hI.defers]
  · intro j o' hj hl e he hb
    by_cases hji : i = j
    · subst hji
      obtain rfl : o = o' := by rw [ho] at hj; exact Option.some.inj hj
      exact hmon _ (hall e he hb)
    · rw [getD_set_ne' hji] at hl
      exact hmon _ (hI.closed j o' hj hl e he hb)
  · intro j o' d hj hl hd
    by_cases hji : i = j
    · subst hji
      obtain rfl : o = o' := by rw [ho] at hj; exact Option.some.inj hj
      have := (hB2 d hd).1
      rw [hd]
      have e : (a.put (some d) v).tmps.getD d undef = v := by
        simp only [Act.put, Array.getD_eq_getD_getElem?, Array.getElem?_setIfInBounds_self, hI.size, hn]
        rw [if_pos this]; rfl
      rw [e]
      exact hv
    · rw [getD_set_ne' hji] at hl
      have h1 := hkeep j hl _ (hI.done j o' d hj hl hd)
      cases hdo : o.dst with
      | none => simpa [Act.put] using h1
      | some e =>
        have hne : e ≠ d := by
          rintro rfl
          exact (hB2 e hdo).2 j o' hj (fun h => hji h.symm) hd
        have e1 : (a.put (some e) v).tmps.getD d undef = a.tmps.getD d undef := by
          simp only [Act.put, Array.getD_eq_getD_getElem?, Array.getElem?_setIfInBounds_ne hne]
        rw [e1]; exact h1
  · intro j o' hj hl hd
    by_cases hji : i = j
    · subst hji
      exact ⟨v, hv⟩
    · rw [getD_set_ne' hji] at hl
      obtain ⟨x, hx⟩ := hI.doneN j o' hj hl hd
      exact ⟨x, hkeep j hl _ hx⟩
  · intro d hd
    have h1 := hI.rest d fun j o' hj hl => hd j o' hj (hmon j hl)
    rw [← h1]
    cases hdo : o.dst with
    | none => rfl
    | some e =>
      have hne : e ≠ d := by
        rintro rfl
        exact hd i o ho (getD_set_same hil) hdo
      simp only [Act.put, Array.getElem?_setIfInBounds_ne hne]

theorem inv_reads {i : Nat} {listed : Array Bool} {a : Act} {w : World} {o : Oper} (hI : Inv ops G Φ a0 w0 listed a w) (hi : i ∈ Region.ready .any ops listed) (ho : ops[i]? = some o) :
    (∀ j d, depB ops i j d = true → Φ j (a.eval (.tmp d)) w) ∧ (∀ d, untB ops i d = true → a.eval (.tmp d) = a0.eval (.tmp d)) := by
  obtain ⟨hun, o1, ho1, hall⟩ := mem_ready.1 hi
  obtain rfl : o = o1 := by rw [ho] at ho1; exact Option.some.inj ho1
  obtain ⟨hun, hil⟩ := getD_both' hun
  refine ⟨?_, ?_⟩
  · intro j d hd
    unfold depB at hd
    rw [ho] at hd
    simp only [Bool.and_eq_true, beq_iff_eq] at hd
    obtain ⟨e, he, hb⟩ := Array.any_eq_true'.1 hd.1
    simp only [Bool.and_eq_true, beq_iff_eq] at hb
    obtain ⟨oj, hoj, hdj⟩ := Option.bind_eq_some_iff.1 hd.2
    exact hI.done j oj d hoj (hb.2 ▸ hall e he hb.1) hdj
  · intro d hd
    have := hI.rest d fun j o' hj hl hdd => by
      rcases untB_spec hd j o' hj hdd with rfl | ⟨e, he, hb, hon⟩
      · rw [hun] at hl; cases hl
      · have := hI.closed j o' hj hl e he hb
        rw [hon, hun] at this; cases this
    show a.tmps.getD d undef = a0.tmps.getD d undef
    rw [Array.getD_eq_getD_getElem?, Array.getD_eq_getD_getElem?, this]


/-- j waits for i. -/
def waitsB (ops : Array Oper) (j i : Nat) : Bool := match ops[j]? with | some o => o.after.any fun e => Region.binds .any e && e.on == i | none => false
/-- The invariant, with what holds till an operation is done (Ψ). -/
structure InvY (Ψ : Nat → World → Prop) (ops : Array Oper) (G : World → World → Prop) (Φ : Nat → Value → World → Prop) (a0 : Act) (w0 : World) (listed : Array Bool) (a : Act) (w : World) : Prop where
  base : Inv ops G Φ a0 w0 listed a w
  yet : ∀ j, j < ops.size → listed.getD j false = false → Ψ j w
/-- THE WALK OF ONE OPERATION: Ψ i, and Ψ j of each that waits for it, hold; those of all others stay; so do the claims of those that don't wait for it. -/
def GStepY (P : Program) (Ψ : Nat → World → Prop) (ops : Array Oper) (G : World → World → Prop) (Φ : Nat → Value → World → Prop) (a0 : Act) (w0 : World) (i : Nat) : Prop :=
  ∀ (o : Oper), ops[i]? = some o → ∀ (E : Operand → Value) (W : World), (∀ v, E (.const v) = v) → (∀ g, E (.global g) = .pointer (some ⟨g, 0, none⟩)) → (∀ f, E (.func f) = .func (.func f) #[] #[]) → G w0 W →
    (∀ j d, depB ops i j d = true → Φ j (E (.tmp d)) W) → (∀ d, untB ops i d = true → E (.tmp d) = a0.eval (.tmp d)) → (∀ j, j < ops.size → (j = i ∨ waitsB ops j i = true) → Ψ j W) →
    o.guard = none ∧ runsTo P (fun v W' => G w0 W' ∧ Φ i v W' ∧ (∀ j, j < ops.size → j ≠ i → waitsB ops j i = false → ∀ u, Φ j u W → Φ j u W') ∧ ∀ j, j < ops.size → j ≠ i → Ψ j W → Ψ j W') ((execOp E o).run P W)

theorem step_invY {Ψ : Nat → World → Prop} {n i : Nat} {listed : Array Bool} {a : Act} {w : World} (hnd : noDefer ops = true) (hB : growB ops n = true) (hn : a0.tmps.size = n)
    (hI : InvY Ψ ops G Φ a0 w0 listed a w) (hi : i ∈ Region.ready .any ops listed) (hs : GStepY P Ψ ops G Φ a0 w0 i) : wpOpIn (Fence.wide.inRound lr) nr P ops Q i (fun a' w' => InvY Ψ ops G Φ a0 w0 (listed.setIfInBounds i true) a' w') a w := by
  obtain ⟨hun, o, ho, hall⟩ := mem_ready.1 hi
  obtain ⟨hun, hil⟩ := getD_both' hun
  obtain ⟨hr1, hr2⟩ := inv_reads hI.base hi ho
  have hwait : ∀ j, waitsB ops j i = true → listed.getD j false = false := fun j hw => by
    unfold waitsB at hw
    cases hoj : ops[j]? with
    | none => rw [hoj] at hw; cases hw
    | some oj =>
      rw [hoj] at hw
      obtain ⟨e, he, hb⟩ := Array.any_eq_true'.1 hw
      simp only [Bool.and_eq_true, beq_iff_eq] at hb
      cases hlj : listed.getD j false with
      | false => rfl
      | true =>
        have := hI.base.closed j oj hoj hlj e he hb.1
        rw [hb.2, hun] at this
        cases this
  obtain ⟨hg, hr⟩ := hs o ho a.eval w (fun _ => rfl) (fun _ => rfl) (fun _ => rfl) hI.base.grow hr1 hr2 (fun j hj hji => by
    refine hI.yet j hj ?_
    rcases hji with rfl | hw
    · exact hun
    · exact hwait j hw)
  unfold wpOpIn
  rw [ho]
  show if Region.wanted o (yielded ops a.tmps) = true then _ else _
  rw [if_pos (by unfold Region.wanted; rw [hg])]
  refine runs_wpIn (noDefer_spec hnd ho) (fun v w' h => ⟨inv_put hB hn hI.base hi ho h.1 (fun j hl u hu => ?_) h.2.1, fun j hj hl => ?_⟩) hr
  · have hlt : j < ops.size := by
      rw [← hI.base.lsize]
      cases Nat.lt_or_ge j listed.size with
      | inl h => exact h
      | inr h => rw [Array.getD_eq_getD_getElem?, Array.getElem?_eq_none h] at hl; cases hl
    have hne : j ≠ i := by rintro rfl; rw [hun] at hl; cases hl
    have hw : waitsB ops j i = false := by
      cases hw : waitsB ops j i with
      | false => rfl
      | true => rw [hwait j hw] at hl; cases hl
    exact h.2.2.1 j hlt hne hw u hu
  by_cases hji : i = j
  · subst hji
    rw [getD_set_same hil] at hl
    cases hl
  · rw [getD_set_ne' hji] at hl
    exact h.2.2.2 j hj (fun e => hji e.symm) (hI.yet j hj hl)

theorem any_of_invY {Ψ : Nat → World → Prop} {n : Nat} (hnd : noDefer ops = true) (hB : growB ops n = true) (hn : a0.tmps.size = n)
    (hs : ∀ i, i < ops.size → GStepY P Ψ ops G Φ a0 w0 i) (hfin : ∀ W, G w0 W → fin Φ Q W ops.toList 0 a0) :
    ∀ (fuel : Nat) (listed : Array Bool) (a : Act) (w : World), InvY Ψ ops G Φ a0 w0 listed a w → listed.toList.count false ≤ fuel → wpAnyIn (Fence.wide.inRound lr) nr P .any ops Q fuel listed a w := by
  have hend : ∀ (listed : Array Bool) (a : Act) (w : World), Inv ops G Φ a0 w0 listed a w → Region.ready .any ops listed = [] → Q .normal a w := by
    intro listed a w hI hr
    have hall := all_of_ready hB hI.lsize hr
    have hal : ∀ j o, ops[j]? = some o → listed.getD j false = true := fun j o hj => hall j (Array.getElem?_eq_some_iff.1 hj).1
    have hsame : putL (fun j => a.tmps.getD ((dstOf ops j).getD 0) undef) ops.toList 0 a0 = a := by
      refine putL_same (a := a) _ 0 a0 hI.size.symm hI.defers.symm ?_ ?_
      · intro j o d hj hd
        have hj' : ops[j]? = some o := by rw [← hj, Array.getElem?_toList]
        refine ⟨by rw [hI.size, hn]; exact ((growB_spec hB hj').2 d hd).1, ?_⟩
        have hdd : dstOf ops j = some d := by unfold dstOf; rw [hj']; exact hd
        simp [hdd]
      · intro d hd
        exact (hI.rest d fun j o hj _ => hd o (by rw [Array.mem_toList_iff]; exact Array.mem_of_getElem? hj)).symm
    rw [← hsame]
    refine fin_putL ops.toList 0 a0 (hfin w hI.grow) ?_ (fun j o hj hd => by
      have hj' : ops[j]? = some o := by rw [← hj, Array.getElem?_toList]
      simpa using hI.doneN j o hj' (hal j o hj') hd)
    intro j o d hj hd
    have hj' : ops[j]? = some o := by rw [← hj, Array.getElem?_toList]
    have hdd : dstOf ops j = some d := by unfold dstOf; rw [hj']; exact hd
    have := hI.done j o d hj' (hal j o hj') hd
    simpa [hdd] using this
  intro fuel
  induction fuel with
  | zero =>
    intro listed a w hI hc
    have hr : Region.ready .any ops listed = [] := by
      rw [List.eq_nil_iff_forall_not_mem]
      intro i hi
      have := count_set (mem_ready.1 hi).1
      omega
    exact ⟨hr, hend _ _ _ hI.base hr⟩
  | succ fuel ih =>
    intro listed a w hI hc
    refine ⟨hend _ _ _ hI.base, fun i hi => ?_⟩
    obtain ⟨h1, o, ho, _⟩ := mem_ready.1 hi
    refine wpOpIn_mono ?_ (step_invY hnd hB hn hI hi (hs i (Array.getElem?_eq_some_iff.1 ho).1))
    intro a' w' hI'
    exact ih _ a' w' hI' (by have := count_set h1; omega)
end
/-- One operation that has no guard. -/
theorem stepY_in {P : Program} {Ψ : Nat → World → Prop} {ops : Array Oper} {G : World → World → Prop} {Φ : Nat → Value → World → Prop} {a0 : Act} {w0 : World} {i : Nat} {o : Oper} (ho : ops.toList[i]? = some o) (hg : o.guard = none)
    (h : ∀ (E : Operand → Value) (W : World), (∀ v, E (.const v) = v) → (∀ g, E (.global g) = .pointer (some ⟨g, 0, none⟩)) → (∀ f, E (.func f) = .func (.func f) #[] #[]) → G w0 W →
      (∀ j d, depB ops i j d = true → Φ j (E (.tmp d)) W) → (∀ d, untB ops i d = true → E (.tmp d) = a0.eval (.tmp d)) → (∀ j, j < ops.size → (j = i ∨ waitsB ops j i = true) → Ψ j W) →
      ∀ R : Value → World → Prop, Hid (∀ v W', G w0 W' → Φ i v W' → (∀ j, j < ops.size → j ≠ i → waitsB ops j i = false → ∀ u, Φ j u W → Φ j u W') → (∀ j, j < ops.size → j ≠ i → Ψ j W → Ψ j W') → R v W') → runsTo P R ((execOp E o).run P W)) : GStepY P Ψ ops G Φ a0 w0 i := by
  intro o' ho' E W h1 h2 h3 h4 h5 h6 h7
  obtain rfl : o = o' := by rw [← Array.getElem?_toList, ho] at ho'; exact Option.some.inj ho'
  exact ⟨hg, h E W h1 h2 h3 h4 h5 h6 h7 _ (Lib.hid fun _ _ a b c d => ⟨a, b, c, d⟩)⟩
end Grow

/-- THE LAW. n: how many slots the frame has; Ψ: what holds till an operation is done. -/
theorem wpIn_region_grow {P : Program} {ops : Array Oper} {Q : Exit → Act → World → Prop} {id lr nr : Nat} {a : Act} {w : World} (Θ : World → Prop) (Ψ : Nat → World → Prop) (Φ : Nat → Value → World → Prop) (n : Nat) (hm : P.follows .mixedOrders = true) (hnd : Grow.noDefer ops = true)
    (hB : Grow.growB ops n = true) (hn : a.tmps.size = n) (hθ : Θ w.drew) (hy : ∀ j, j < ops.size → Ψ j w.drew)
    (hs : Grow.allBelow (Grow.GStepY P Ψ ops (fun _ W => Θ W) Φ a w.drew) ops.size) (hfin : ∀ W, Θ W → Grow.fin Φ Q W ops.toList 0 a) : (Code.region id ops true).wpIn (Fence.wide.inRound lr) nr P Q a w := by
  refine wpIn_region_any hm (Grow.any_of_invY hnd hB hn (Grow.allBelow_at hs) hfin ops.size _ a _ ⟨⟨hθ, by simp, rfl, rfl, ?_, ?_, ?_, fun _ _ => rfl⟩, fun j hj _ => hy j hj⟩ ?_)
  · intro j o hj hl
    simp at hl
    have := (Array.getElem?_eq_some_iff.1 hj).1
    simp [this] at hl
  · intro j o d hj hl
    have := (Array.getElem?_eq_some_iff.1 hj).1
    simp [this] at hl
  · intro j o hj hl
    have := (Array.getElem?_eq_some_iff.1 hj).1
    simp [this] at hl
  · simp

theorem wpListIn_load_row {F : Fence} {n : Nat} {P : Program} {ops : Array Oper} {rest : List Oper} {o : Oper} {a : Act} {w : World} {Q : Exit → Act → World → Prop} (hgd : o.guard = none) (ty : TypeId) (x : Operand) (ho : o.op = .load ty x)
    (g : Nat) (hx : a.eval x = .pointer (some ⟨g, 0, none⟩)) (t : TypeId) (cs : Array Value) (fr : Nat × Nat) (d : TypeDesc) (hg : w.heap[g]? = some (.cells cs t fr))
    (hu : P.underlying ty = some d) (hd : (match d with | .struct _ | .array _ _ => true | _ => false) = true) (hi : (P.info? ty).map (·.size) = some cs.size)
    (h : wpListIn F n P ops Q rest (a.put o.dst (.agg cs)) w) : wpListIn F n P ops Q (o :: rest) a w := by
  refine wpListIn_plain hgd fun K hK => ?_
  unfold Oper.wpIn
  refine ⟨?_, ?_⟩
  · simp [Oper.about, ho]
  · rw [Oper.semAt_plain F _ _ (by rw [ho]; intro c hc; cases hc)]
    unfold execOp
    simp only [ho, hx, Instr.loadAt, Instr.sureAddr, Sem.run_bind, Sem.run_pure, Result.andThen_ok, run_loadVar_row w g t ty cs fr d hg hu hd hi]
    exact hK _ _ h
theorem wpListIn_store_row {F : Fence} {n : Nat} {P : Program} {ops : Array Oper} {rest : List Oper} {o : Oper} {a : Act} {w : World} {Q : Exit → Act → World → Prop} (hgd : o.guard = none) (ty : TypeId) (x y : Operand) (ho : o.op = .store ty x y)
    (g : Nat) (cells : Array Value) (hx : a.eval x = .pointer (some ⟨g, 0, none⟩)) (hy : a.eval y = .agg cells)
    (t : TypeId) (old : Array Value) (hg : w.heap[g]? = some (.cells old t (0, 0))) (hi : (P.info? ty).map (·.size) = some cells.size)
    (hold : old.size = cells.size) (h1 : cells.all (·.oneCell') = true)
    (h : wpListIn F n P ops Q rest (a.put o.dst undef) (w.setRow g cells)) : wpListIn F n P ops Q (o :: rest) a w := by
  refine wpListIn_plain hgd fun K hK => ?_
  unfold Oper.wpIn
  refine ⟨?_, ?_⟩
  · simp [Oper.about, ho]
  · rw [Oper.semAt_plain F _ _ (by rw [ho]; intro c hc; cases hc)]
    unfold execOp
    simp only [ho, hx, hy, Instr.storeAt, Instr.sureAddr, Sem.run_bind, Sem.run_pure, Result.andThen_ok, run_storeVar_row w g t ty old cells hg hi hold h1]
    exact hK _ _ h
end Go.Proofs.YtmakpjcgiiljfaaDoor

/-! The law of drawn regions (Grow) at any fence without a bound on the depth; and where the last operation waits for all others, and is walked by itself (a call of yield). -/
namespace Go.Proofs.YtmakpjcgiiljfaaDoor
open Go.RowKit
namespace Grow
/-- A fence that lets every call in. -/
structure Open (F : Fence) (nr : Nat) (P : Program) : Prop where
  fn : ∀ f, F.fn f
  depth : F.depth.isSome = true → 1 ≤ nr
  calls : ∀ f args w R, Calls P f args w R → CallsIn F (nr - 1) P f args w R
theorem open_wide (nr : Nat) (P : Program) : Open Fence.wide nr P := ⟨fun _ => trivial, fun h => (by cases h), fun _ _ _ _ h => callsIn_wide.2 h⟩
theorem open_round (l nr : Nat) (P : Program) : Open (Fence.wide.inRound l) nr P := ⟨fun _ => trivial, fun h => (by cases h), fun _ _ _ _ h => CallsIn.inRound l (callsIn_wide.2 h)⟩
section
variable {P : Program} {ops : Array Oper} {Q : Exit → Act → World → Prop} {G : World → World → Prop} {Φ : Nat → Value → World → Prop} {a0 : Act} {w0 : World} {F : Fence} {nr : Nat}
theorem runs_wpF (hF : Open F nr P) {o : Oper} {a : Act} {w : World} {K : Act → World → Prop} {R : Value → World → Prop} (hd : ∀ c, o.op ≠ .defer c) (hR : ∀ v w', R v w' → K (a.put o.dst v) w') (h : runsTo P R ((execOp a.eval o).run P w)) : o.wpIn F nr P a w K Q := by
  unfold Oper.wpIn
  refine ⟨fun _ _ => hF.fn _, ?_⟩
  rw [Oper.semAt_plain _ _ _ hd]
  generalize (execOp a.eval o).run P w = r at h
  unfold runsTo at h
  split at h
  · exact hR _ _ h
  · exact hR _ _ h
  · refine ⟨hF.depth, hF.calls _ _ _ _ (Calls.mono h ?_)⟩
    rintro e w'' ⟨v, rfl, hr⟩
    exact hR _ _ hr
  · exact h.elim
theorem step_invF (hF : Open F nr P) {n i : Nat} {listed : Array Bool} {a : Act} {w : World} (hnd : noDefer ops = true) (hB : growB ops n = true) (hn : a0.tmps.size = n) (htr : ∀ A B C, G A B → G B C → G A C) (hmono : ∀ j v W W', Φ j v W → G W W' → Φ j v W') (hrefl : ∀ W, G W W)
    (hI : Inv ops G Φ a0 w0 listed a w) (hi : i ∈ Region.ready .any ops listed) (hs : GStep P ops G Φ a0 w0 i) : wpOpIn F nr P ops Q i (fun a' w' => Inv ops G Φ a0 w0 (listed.setIfInBounds i true) a' w') a w := by
  obtain ⟨hun, o, ho, hall⟩ := mem_ready.1 hi
  obtain ⟨hr1, hr2⟩ := inv_reads hI hi ho
  have hnew : ∀ v w', G w w' → Φ i v w' → Inv ops G Φ a0 w0 (listed.setIfInBounds i true) (a.put o.dst v) w' := fun v w' hg hv =>
    inv_put hB hn hI hi ho (htr _ _ _ hI.grow hg) (fun j _ u hu => hmono j u _ _ hu hg) hv
  have hst := hs o ho a.eval w (fun _ => rfl) (fun _ => rfl) (fun _ => rfl) hI.grow hr1 hr2
  unfold wpOpIn
  rw [ho]
  show if Region.wanted o (yielded ops a.tmps) = true then _ else _
  rcases hst with ⟨hw, hr⟩ | ⟨⟨g, b, u, d, hg, hd, hE, hne⟩, hu⟩
  · have hwt : Region.wanted o (yielded ops a.tmps) = true := by
      unfold Region.wanted
      rcases hw with hw | ⟨g, b, d, hg, hd, hE⟩
      · rw [hw]
      · rw [hg]
        simp [yielded_of hd hE]
    rw [if_pos hwt]
    exact runs_wpF hF (noDefer_spec hnd ho) (fun v w' h => hnew v w' h.1 h.2) hr
  · have hwt : Region.wanted o (yielded ops a.tmps) = false := by
      unfold Region.wanted
      rw [hg]
      exact yielded_not hd hE hne
    rw [hwt]
    simp only [Bool.false_eq_true, if_false]
    exact ⟨fun _ _ => hF.fn _, hnew undef w (hrefl w) hu⟩
/-- What the activation is when those of the front have run. -/
theorem front_done {n m : Nat} {listed : Array Bool} {a : Act} {w : World} (hB : growB ops n = true) (hn : a0.tmps.size = n) (hI : Inv ops G Φ a0 w0 listed a w) {front back : List Oper} (hsp : ops.toList = front ++ back) (hm : front.length = m)
    (hl : ∀ j, j < m → listed.getD j false = true) (hl2 : ∀ j, m ≤ j → listed.getD j false = false) (hfin : fin Φ Q w front 0 a0) : Q .normal a w := by
  have hat : ∀ j o, front[j]? = some o → ops[j]? = some o ∧ j < m := fun j o hj => by
    have hjl := (List.getElem?_eq_some_iff.1 hj).1
    refine ⟨?_, by omega⟩
    rw [← Array.getElem?_toList, hsp, List.getElem?_append_left hjl, hj]
  have hsame : putL (fun j => a.tmps.getD ((dstOf ops j).getD 0) undef) front 0 a0 = a := by
    refine putL_same (a := a) _ 0 a0 hI.size.symm hI.defers.symm ?_ ?_
    · intro j o d hj hd
      obtain ⟨hj', _⟩ := hat j o hj
      refine ⟨by rw [hI.size, hn]; exact ((growB_spec hB hj').2 d hd).1, ?_⟩
      have hdd : dstOf ops j = some d := by unfold dstOf; rw [hj']; exact hd
      simp [hdd]
    · intro d hd
      refine (hI.rest d fun j o hj hlj => ?_).symm
      have hjm : j < m := by
        rcases Nat.lt_or_ge j m with h | h
        · exact h
        · rw [hl2 j h] at hlj
          cases hlj
      refine hd o ?_
      have : front[j]? = some o := by
        rw [← hj, ← Array.getElem?_toList, hsp, List.getElem?_append_left (by omega)]
      exact List.mem_of_getElem? this
  rw [← hsame]
  refine fin_putL front 0 a0 hfin ?_ (fun j o hj hd => by
    obtain ⟨hj', hjm⟩ := hat j o hj
    simpa using hI.doneN j o hj' (hl j hjm) hd)
  intro j o d hj hd
  obtain ⟨hj', hjm⟩ := hat j o hj
  have hdd : dstOf ops j = some d := by unfold dstOf; rw [hj']; exact hd
  have := hI.done j o d hj' (hl j hjm) hd
  simpa [hdd] using this
theorem any_of_invF (hF : Open F nr P) {n : Nat} (hnd : noDefer ops = true) (hB : growB ops n = true) (hn : a0.tmps.size = n) (htr : ∀ A B C, G A B → G B C → G A C) (hmono : ∀ j v W W', Φ j v W → G W W' → Φ j v W') (hrefl : ∀ W, G W W)
    (hs : ∀ i, i < ops.size → GStep P ops G Φ a0 w0 i) (hfin : ∀ W, G w0 W → fin Φ Q W ops.toList 0 a0) :
    ∀ (fuel : Nat) (listed : Array Bool) (a : Act) (w : World), Inv ops G Φ a0 w0 listed a w → listed.toList.count false ≤ fuel → wpAnyIn F nr P .any ops Q fuel listed a w := by
  have hend : ∀ (listed : Array Bool) (a : Act) (w : World), Inv ops G Φ a0 w0 listed a w → Region.ready .any ops listed = [] → Q .normal a w := by
    intro listed a w hI hr
    have hall := all_of_ready hB hI.lsize hr
    exact front_done (front := ops.toList) (back := []) (m := ops.size) hB hn hI (by simp) (by simp) (fun j hj => hall j hj) (fun j hj => by rw [Array.getD_eq_getD_getElem?, Array.getElem?_eq_none (by rw [hI.lsize]; exact hj)]; rfl) (hfin w hI.grow)
  intro fuel
  induction fuel with
  | zero =>
    intro listed a w hI hc
    have hr : Region.ready .any ops listed = [] := by
      rw [List.eq_nil_iff_forall_not_mem]
      intro i hi
      have := count_set (mem_ready.1 hi).1
      omega
    exact ⟨hr, hend _ _ _ hI hr⟩
  | succ fuel ih =>
    intro listed a w hI hc
    refine ⟨hend _ _ _ hI, fun i hi => ?_⟩
    obtain ⟨h1, o, ho, _⟩ := mem_ready.1 hi
    refine wpOpIn_mono ?_ (step_invF hF hnd hB hn htr hmono hrefl hI hi (hs i (Array.getElem?_eq_some_iff.1 ho).1))
    intro a' w' hI'
    exact ih _ a' w' hI' (by have := count_set h1; omega)
/-- Each but the last is waited for by a later one. -/
def lastB (ops : Array Oper) : Bool := (List.range (ops.size - 1)).all fun j => (List.range ops.size).any fun k => decide (j < k) && waitsB ops k j
theorem lastB_spec (h : lastB ops = true) (j : Nat) (hj : j < ops.size - 1) : ∃ k, j < k ∧ k < ops.size ∧ waitsB ops k j = true := by
  obtain ⟨k, hk, hkb⟩ := List.any_eq_true.1 (List.all_eq_true.1 h j (List.mem_range.2 hj))
  simp only [Bool.and_eq_true, decide_eq_true_eq] at hkb
  exact ⟨k, hkb.1, List.mem_range.1 hk, hkb.2⟩
theorem any_of_invL (hF : Open F nr P) {n : Nat} (hnd : noDefer ops = true) (hB : growB ops n = true) (hL : lastB ops = true) (hn : a0.tmps.size = n) (htr : ∀ A B C, G A B → G B C → G A C) (hmono : ∀ j v W W', Φ j v W → G W W' → Φ j v W') (hrefl : ∀ W, G W W)
    {front : List Oper} {oz : Oper} (hsp : ops.toList = front ++ [oz]) (hgz : oz.guard = none)
    (hs : ∀ i, i < front.length → GStep P ops G Φ a0 w0 i) (hfin : ∀ W, G w0 W → fin Φ (fun _ a w => oz.wpIn F nr P a w (fun a' w' => Q .normal a' w') Q) W front 0 a0) :
    ∀ (fuel : Nat) (listed : Array Bool) (a : Act) (w : World), Inv ops G Φ a0 w0 listed a w → listed.getD front.length true = false → listed.toList.count false ≤ fuel → wpAnyIn F nr P .any ops Q fuel listed a w := by
  have hsz : ops.size = front.length + 1 := by
    rw [← Array.length_toList, hsp]
    simp
  have hoz : ops[front.length]? = some oz := by
    rw [← Array.getElem?_toList, hsp]
    simp
  intro fuel
  induction fuel with
  | zero =>
    intro listed a w hI hz hc
    have := count_set hz
    omega
  | succ fuel ih =>
    intro listed a w hI hz hc
    refine ⟨fun hr => ?_, fun i hi => ?_⟩
    · have hall := all_of_ready hB hI.lsize hr front.length (by omega)
      obtain ⟨h1, _⟩ := getD_both' hz
      rw [hall] at h1
      cases h1
    obtain ⟨h1, o, ho, hall⟩ := mem_ready.1 hi
    by_cases hiz : i = front.length
    · subst hiz
      -- all others have run
      have hlt : ∀ d j, j < front.length → front.length - j ≤ d → listed.getD j false = true := by
        intro d
        induction d with
        | zero => intro j hj hd; omega
        | succ d ihd =>
          intro j hj hd
          obtain ⟨k, hjk, hk, hw⟩ := lastB_spec hL j (by omega)
          unfold waitsB at hw
          by_cases hkz : k = front.length
          · subst hkz
            rw [hoz] at hw
            obtain ⟨e, he, hb⟩ := Array.any_eq_true'.1 hw
            simp only [Bool.and_eq_true, beq_iff_eq] at hb
            obtain rfl : o = oz := by rw [ho] at hoz; exact Option.some.inj hoz
            exact hb.2 ▸ hall e he hb.1
          · have hkl := ihd k (by omega) (by omega)
            cases hok : ops[k]? with
            | none => rw [hok] at hw; cases hw
            | some ok =>
              rw [hok] at hw
              obtain ⟨e, he, hb⟩ := Array.any_eq_true'.1 hw
              simp only [Bool.and_eq_true, beq_iff_eq] at hb
              exact hb.2 ▸ hI.closed k ok hok hkl e he hb.1
      have hq := front_done (Q := fun _ a w => oz.wpIn F nr P a w (fun a' w' => Q .normal a' w') Q) (m := front.length) hB hn hI hsp rfl (fun j hj => hlt _ j hj (Nat.le_refl _)) (fun j hj => by
        rcases Nat.lt_or_ge j ops.size with h | h
        · obtain rfl : j = front.length := by omega
          exact (getD_both' h1).1
        · rw [Array.getD_eq_getD_getElem?, Array.getElem?_eq_none (by rw [hI.lsize]; exact h)]
          rfl) (hfin w hI.grow)
      have hop : wpOpIn F nr P ops Q front.length (fun a' w' => Q .normal a' w') a w := by
        unfold wpOpIn
        rw [hoz]
        show if Region.wanted oz (yielded ops a.tmps) = true then _ else _
        rw [if_pos (by unfold Region.wanted; rw [hgz])]
        exact hq
      refine wpOpIn_mono ?_ hop
      intro a' w' hQ
      have hr : Region.ready .any ops (listed.setIfInBounds front.length true) = [] := by
        rw [List.eq_nil_iff_forall_not_mem]
        intro k hk
        obtain ⟨hun, ok, hok, _⟩ := mem_ready.1 hk
        obtain ⟨hun, hkl⟩ := getD_both' hun
        have hks := (Array.getElem?_eq_some_iff.1 hok).1
        by_cases hkz : k = front.length
        · subst hkz
          rw [getD_set_same (by rw [hI.lsize]; omega)] at hun
          cases hun
        · rw [getD_set_ne' (fun e => hkz e.symm), hlt _ k (by omega) (Nat.le_refl _)] at hun
          cases hun
      cases fuel with
      | zero => exact ⟨hr, hQ⟩
      | succ fuel => exact ⟨fun _ => hQ, fun k hk => by rw [hr] at hk; cases hk⟩
    · have hlt : i < front.length := by
        have := (Array.getElem?_eq_some_iff.1 ho).1
        omega
      refine wpOpIn_mono ?_ (step_invF hF hnd hB hn htr hmono hrefl hI hi (hs i hlt))
      intro a' w' hI'
      refine ih _ a' w' hI' ?_ (by have := count_set h1; omega)
      rw [Array.getD_eq_getD_getElem?, Array.getElem?_setIfInBounds_ne hiz, ← Array.getD_eq_getD_getElem?]
      exact hz
end
end Grow
section
variable {P : Program} {ops : Array Oper} {Q : Exit → Act → World → Prop} {F : Fence} {nr id : Nat} {a : Act} {w : World}
theorem inv_start {G : World → World → Prop} {Φ : Nat → Value → World → Prop} {w0 : World} (h : G w0 w0) : Grow.Inv ops G Φ a w0 (Array.replicate ops.size false) a w0 := by
  refine ⟨h, by simp, rfl, rfl, ?_, ?_, ?_, fun _ _ => rfl⟩
  · intro j o hj hl
    simp at hl
    have := (Array.getElem?_eq_some_iff.1 hj).1
    simp [this] at hl
  · intro j o d hj hl
    have := (Array.getElem?_eq_some_iff.1 hj).1
    simp [this] at hl
  · intro j o hj hl
    have := (Array.getElem?_eq_some_iff.1 hj).1
    simp [this] at hl
/-- THE LAW, at such a fence. -/
theorem wpIn_region_growF (hF : Grow.Open F nr P) (G : World → World → Prop) (Φ : Nat → Value → World → Prop) (n : Nat) (hm : P.follows .mixedOrders = true) (hnd : Grow.noDefer ops = true)
    (hB : Grow.growB ops n = true) (hn : a.tmps.size = n) (hrefl : ∀ W, G W W) (htr : ∀ A B C, G A B → G B C → G A C) (hmono : ∀ j v W W', Φ j v W → G W W' → Φ j v W')
    (hs : Grow.allBelow (Grow.GStep P ops G Φ a w.drew) ops.size) (hfin : ∀ W, G w.drew W → Grow.fin Φ Q W ops.toList 0 a) : (Code.region id ops true).wpIn F nr P Q a w :=
  wpIn_region_any hm (Grow.any_of_invF hF hnd hB hn htr hmono hrefl (Grow.allBelow_at hs) hfin ops.size _ a _ (inv_start (hrefl _)) (by simp))
/-- .. where the last one is walked by itself. -/
theorem wpIn_region_growL (hF : Grow.Open F nr P) (G : World → World → Prop) (Φ : Nat → Value → World → Prop) (n : Nat) (hm : P.follows .mixedOrders = true) (hnd : Grow.noDefer ops = true)
    (hB : Grow.growB ops n = true) (hL : Grow.lastB ops = true) (hn : a.tmps.size = n) (hrefl : ∀ W, G W W) (htr : ∀ A B C, G A B → G B C → G A C) (hmono : ∀ j v W W', Φ j v W → G W W' → Φ j v W')
    (k : Nat) {oz : Oper} (hsz : ops.size = k + 1) (hoz : ops.toList[k]? = some oz) (hgz : oz.guard = none)
    (hs : Grow.allBelow (Grow.GStep P ops G Φ a w.drew) k) (hfin : ∀ W, G w.drew W → Grow.fin Φ (fun _ a w => oz.wpIn F nr P a w (fun a' w' => Q .normal a' w') Q) W (ops.toList.take k) 0 a) : (Code.region id ops true).wpIn F nr P Q a w := by
  obtain ⟨hk, he⟩ := List.getElem?_eq_some_iff.1 hoz
  have hsp : ops.toList = ops.toList.take k ++ [oz] := by
    rw [← he, ← List.take_succ_eq_append_getElem hk, List.take_of_length_le (by rw [Array.length_toList]; omega)]
  have hfl : (ops.toList.take k).length = k := by rw [List.length_take, Array.length_toList]; omega
  rw [← hfl] at hs
  exact wpIn_region_any hm (Grow.any_of_invL hF hnd hB hL hn htr hmono hrefl hsp hgz (Grow.allBelow_at hs) hfin ops.size _ a _ (inv_start (hrefl _)) (by rw [hfl]; simp [hsz]) (by simp))
end
end Go.Proofs.YtmakpjcgiiljfaaDoor

/-! Files: does a file stand where another one needs a directory? -/
namespace Go.Proofs.YtmakpjcgiiljfaaDoor
open Go.RowKit Go.Shelf Codec
attribute [local go_sem] Oper.semAt_some

/-! ### marks that rounds of an outer loop leave -/
def markD (E : Nat) : Deferred := { target := .collected E, args := #[] }
theorem leaves_marks {F : Fence} {n : Nat} {P : Program} {fn : Func} {tmps : Array Value} {R : Ending → World → Prop} {J : World → Prop} {B : Nat}
    (hJ : ∀ E W, B ≤ E → W.heap[E]? = some (.deferred (some [])) → J W → J (W.putObj E (.deferred none))) (hend : ∀ W, J W → ∃ v, (results fn tmps).run P W = .ok v W ∧ R (.returned v) W) :
    ∀ (Es : List Nat) (W : World), Es.Nodup → (∀ E ∈ Es, B ≤ E ∧ W.heap[E]? = some (.deferred (some []))) → J W → LeavesInM F n P fn tmps R (Es.map markD) .returning W
  | [], W, _, _, h => hend W h
  | E :: Es, W, hn, hE, h => by
    obtain ⟨h1, h2⟩ := hE E List.mem_cons_self
    obtain ⟨hn1, hn2⟩ := List.nodup_cons.1 hn
    refine ⟨by simp, .inl ⟨E, _, rfl, run_takeDeferred h2, leaves_marks hJ hend Es _ hn2 (fun D hD => ?_) (hJ E W h1 h2 h)⟩⟩
    obtain ⟨h3, h4⟩ := hE D (List.mem_cons_of_mem _ hD)
    exact ⟨h3, (World.putObj_heap_other (by rintro rfl; exact hn1 hD)).trans h4⟩
theorem results_cell1 {P : Program} {fn : Func} {p : Tmp} {t : TypeId} (h : fn.results = #[.cell p t]) (tmps : Array Value) (w : World) (a : Addr) {x : Value}
    (hp : tmps.getD p undef = .pointer (some a)) (hx : (loadVar t a).run P w = .ok x w) : (results fn tmps).run P w = .ok x w := by
  have hp' : tmps[p]?.getD undef = .pointer (some a) := by simpa using hp
  simp [results, h, hp', asAddr, hx]
theorem run_loadVar_truth {W : World} {g : Nat} {b : Bool} (h : W.heap[g]? = some (.cells #[.bool b] 4 (0, 0))) : (loadVar 4 ⟨g, 0, none⟩).run Tryd.prog W = .ok (.bool b) W := by
  have hc := cell_of_cells h 0
  simp only [List.getElem?_toArray, List.getElem?_cons_zero] at hc
  simp [loadVar, hc, go_sem]

theorem wpListIn_load_at {F : Fence} {n : Nat} {P : Program} {ops : Array Oper} {rest : List Oper} {o : Oper} {a : Act} {w : World} {Q : Exit → Act → World → Prop} (hgd : o.guard = none) (ty : TypeId) (x : Operand) (ho : o.op = .load ty x) (ad : Addr) (hx : a.eval x = .pointer (some ad)) (cs : Array Value) (d : TypeDesc)
    (hc : ∀ (j : Nat) (v : Value), cs[j]? = some v → w.cell? (ad.add j) = some v) (hu : P.underlying ty = some d) (hd : (match d with | .struct _ | .array _ _ => true | _ => false) = true) (hi : (P.info? ty).map (·.size) = some cs.size)
    (h : wpListIn F n P ops Q rest (a.put o.dst (.agg cs)) w) : wpListIn F n P ops Q (o :: rest) a w := by
  refine wpListIn_plain hgd fun K hK => ?_
  unfold Oper.wpIn
  refine ⟨?_, ?_⟩
  · simp [Oper.about, ho]
  · rw [Oper.semAt_plain F _ _ (by rw [ho]; intro c hc; cases hc)]
    unfold execOp
    simp only [ho, hx, Instr.loadAt, Instr.sureAddr, Sem.run_bind, Sem.run_pure, Result.andThen_ok, run_loadVar_at w ad ty cs d hc hu hd hi]
    exact hK _ _ h

/-! ### what holds -/
def clashAt (l : Tb) (i : Nat) : Bool := (fr (l[i]?.getD ([], [])).1).any fun q => (l.take i).any fun y => y.1 == q
theorem clashB_eq (l : Tb) : clashB l = (List.range l.length).any (clashAt l) := rfl
theorem clash_none {l : Tb} (h : ∀ i, i < l.length → clashAt l i = false) : clashB l = false := by
  rw [clashB_eq, List.any_eq_false]
  intro i hi
  rw [h i (List.mem_range.1 hi)]
  simp
theorem clash_some {l : Tb} {i : Nat} (hi : i < l.length) (h : clashAt l i = true) : clashB l = true := by
  rw [clashB_eq, List.any_eq_true]
  exact ⟨i, List.mem_range.2 hi, h⟩
def aheadL (l : Tb) (j : Nat) : List (List UInt8) := ((l.take j).map (·.1)).reverse
theorem clashAt_iff {l : Tb} {i : Nat} {x : Fi} (hx : l[i]? = some x) : clashAt l i = true ↔ ∃ q ∈ fr x.1, q ∈ aheadL l i := by
  unfold clashAt aheadL
  rw [hx]
  simp only [Option.getD_some, List.any_eq_true, List.mem_reverse, List.mem_map, beq_iff_eq]
theorem ahead_succ {l : Tb} {j : Nat} {x : Fi} (hx : l[j]? = some x) : aheadL l (j + 1) = x.1 :: aheadL l j := by
  unfold aheadL
  rw [List.take_add_one, hx]
  simp
/-- One was found. -/
structure FcX (w : World) (l : Tb) (j : Nat) (Es : List Nat) (c : Code) (W : World) : Prop where
  ret_ : c = .ret
  some_ : clashAt l j = true
  res : W.heap[w.heap.size]? = some (.cells #[.bool true] 4 (0, 0))
  below : Below w.heap.size w W
  nodup : Es.Nodup
  marks : ∀ E ∈ Es, w.heap.size + 3 ≤ E ∧ W.heap[E]? = some (.deferred (some []))
theorem FcX.still {w : World} {l : Tb} {j : Nat} {Es : List Nat} {c : Code} {B p : Nat} (hp : w.heap.size + 3 ≤ p) (hB : p < B) (hE : ∀ E ∈ Es, E < B ∧ E ≠ p) : StillZ B (· = p) (fun _ => FcX w l j Es c) := fun _ W W' h hs =>
  ⟨h.ret_, h.some_, (hs.block _ (lt_of_cells h.res) (by omega) (.inl (by omega))).trans h.res, hs.belowZ h.below (fun b hb => by omega) (Nat.le_refl _) (by omega), h.nodup, fun E hE' => ⟨(h.marks E hE').1, (hs.block _ (Array.getElem?_eq_some_iff.1 (h.marks E hE').2).1 (hE E hE').2 (.inl (hE E hE').1)).trans (h.marks E hE').2⟩⟩
end Go.Proofs.YtmakpjcgiiljfaaDoor

/-! Files: are they more than may be? -/
namespace Go.Proofs.YtmakpjcgiiljfaaDoor
open Go.RowKit Codec

theorem allF_app (l m : Tb) : allF (l ++ m) = allF l + allF m := by simp [allF]
theorem allF_take (l : Tb) (k : Nat) : allF (l.take k) ≤ allF l := by
  have h := allF_app (l.take k) (l.drop k)
  rw [List.take_append_drop] at h
  omega
theorem allF_succ {l : Tb} {j : Nat} {x : Fi} (hx : l[j]? = some x) : allF (l.take (j + 1)) = allF (l.take j) + x.2.length := by
  rw [List.take_add_one, hx, allF_app]
  simp [allF]
theorem too_one {l : Tb} {j : Nat} {x : Fi} (hx : l[j]? = some x) (h : 1048576 < x.2.length) : tooB l = true := by
  unfold tooB
  have : l.any (fun x => decide (1048576 < x.2.length)) = true := List.any_eq_true.2 ⟨x, List.mem_of_getElem? hx, by simpa using h⟩
  rw [this]
  simp
theorem too_all {l : Tb} {k : Nat} (h : 16777216 < allF (l.take k)) : tooB l = true := by
  unfold tooB
  have := allF_take l k
  rw [decide_eq_true (show 16777216 < allF l by omega), Bool.or_true]
/-- While they are counted. -/
def TmR (w : World) (l : Tb) (v i : Value) (wr : World) : Prop :=
  ∃ j : Nat, j ≤ l.length ∧ i = .int .i64 (j : Int) ∧ v = .int .i64 (allF (l.take j) : Int) ∧ (l.take j).any (fun x => decide (1048576 < x.2.length)) = false ∧ allF (l.take j) ≤ 16777216 ∧ Below w.heap.size w wr
end Go.Proofs.YtmakpjcgiiljfaaDoor

/-! Files: may files be a tree? -/
namespace Go.Proofs.YtmakpjcgiiljfaaDoor
open Go.RowKit Codec

theorem rise_path : ∀ {l : Tb}, riseB l = true → ∀ x ∈ l, pathOk x.1 = true
  | [], _, x, h => by simp at h
  | y :: t, h, x, hx => by
    unfold riseB at h
    simp only [Bool.and_eq_true] at h
    rcases List.mem_cons.1 hx with rfl | hx
    · exact h.1.1
    · exact rise_path h.2 x hx
end Go.Proofs.YtmakpjcgiiljfaaDoor

/-! codec.Writer: what each of its methods does, told of a writer that holds a list of bytes ('Wr'). -/
namespace Go.Proofs.YtmakpjcgiiljfaaDoor
open Go.RowKit Codec

/-- THE STRUCT AT BLOCK p IS A WRITER that holds the bytes l; all its memory lies in blocks of S. -/
def Wr (w : World) (S : Nat → Prop) (p : Nat) (l : List UInt8) : Prop :=
  S p ∧ ∃ A c, w.heap[p]? = some (.cells #[.slice A l.length c] 87 (0, 0)) ∧ w.ownsRow 0 5 1 (.slice A l.length c) l.length (u8s l) ∧ ∀ a, A = some a → S a.block

section
variable {w w' : World} {S : Nat → Prop} {p : Nat} {l : List UInt8}
theorem Wr.lt (h : Wr w S p l) : p < w.heap.size := by
  obtain ⟨_, A, c, hh, _⟩ := h
  exact lt_of_cells hh
theorem own_lt {base : Nat} {e : TypeId} {size : Nat} {A : Option Addr} {n c : Nat} {xs : List Value} (h : w.ownsRow base e size (.slice A n c) n xs) : ∀ a, A = some a → a.block < w.heap.size := by
  rintro a rfl
  exact (h.lt a.block rfl).2
theorem Wr.mono {T : Nat → Prop} (h : Wr w S p l) (hS : ∀ b, b < w.heap.size → S b → T b) : Wr w T p l := by
  have hlt := h.lt
  obtain ⟨hp, A, c, hh, ho, hs⟩ := h
  exact ⟨hS _ hlt hp, A, c, hh, ho, fun a ha => hS _ (own_lt ho a ha) (hs a ha)⟩
/-- What a writer does not hold may turn. -/
theorem Wr.turned {T : Nat → Prop} (h : Wr w S p l) (ht : Turned T w w') (hd : ∀ b, b < w.heap.size → S b → ¬ T b) : Wr w' S p l := by
  have hlt := h.lt
  obtain ⟨hp, A, c, hh, ho, hs⟩ := h
  refine ⟨hp, A, c, (ht.block p hlt (hd p hlt hp)).trans hh, ?_, hs⟩
  obtain ⟨h1, h2⟩ := ho
  refine ⟨h1, ?_⟩
  rcases h2 with h2 | ⟨g, cap, cur, hv, hg, hhg, r⟩
  · exact .inl h2
  · have hgl := lt_of_cells hhg
    have hsg : S g := hs ⟨g, 0, none⟩ (by injection hv)
    exact .inr ⟨g, cap, cur, hv, hg, (ht.block g hgl (hd g hgl hsg)).trans hhg, r⟩
theorem Rd.turned {e : Int} {T : Nat → Prop} (h : Rd w S p l e) (ht : Turned T w w') (hd : ∀ b, b < w.heap.size → S b → ¬ T b) : Rd w' S p l e := by
  have hlt := h.lt
  obtain ⟨hB, A, n, c, hh, hy⟩ := h
  exact ⟨hB, A, n, c, (ht.block p hlt (hd p hlt hB)).trans hh, hy.turned ht hd⟩

/-- The store behind an append: the writer then. -/
theorem Wr.put_back {w1 : World} {l m : List UInt8} {A A' : Option Addr} {c c' n : Nat} (hp : S p) (hh : w.heap[p]? = some (.cells #[.slice A l.length c] 87 (0, 0))) (ho : w.ownsRow 0 5 1 (.slice A l.length c) l.length (u8s l)) (hs : ∀ a, A = some a → S a.block)
    (hsz : w.heap.size ≤ w'.heap.size) (hw : ∀ k, k < w.heap.size → w'.heap[k]? = w.heap[k]?)
    (ho1 : w1.ownsRow 0 5 1 (.slice A' n c') n (u8s l ++ u8s m)) (hn : n = l.length + m.length) (hg : w'.grownBy w1 (Value.slice A l.length c).ownBlock)
    (hat : (Value.slice A' n c').ownBlock = (Value.slice A l.length c).ownBlock ∨ (Value.slice A' n c').ownBlock = some w'.heap.size) :
    Wr (w1.setCell ⟨p, 0, none⟩ (.slice A' n c')) (fun b => S b ∨ w.heap.size ≤ b) p (l ++ m) := by
  have hplt := lt_of_cells hh
  have hne : ∀ g, (Value.slice A l.length c).ownBlock = some g → g ≠ p := by
    rintro g hg rfl
    rcases ho.2 with ⟨hv, _⟩ | ⟨g', cap, cur, hv, _, hhg, _⟩
    · rw [hv] at hg; simp [Value.ownBlock] at hg
    · rw [hv] at hg
      simp [Value.ownBlock] at hg
      subst hg
      rw [hh] at hhg
      injection hhg with hhg
      injection hhg with _ ht _
      exact absurd ht (by decide)
  have hp1 : w1.heap[p]? = some (.cells #[.slice A l.length c] 87 (0, 0)) :=
    (hg.block p (by omega) (fun e => hne p e.symm rfl)).trans ((hw p hplt).trans hh)
  have hlen : n = (l ++ m).length := by rw [hn, List.length_append]
  subst hlen
  rw [← u8s_append] at ho1
  have hne1 : ∀ g, (Value.slice A' (l ++ m).length c').ownBlock = some g → g ≠ p := by
    intro g hg1
    rcases hat with e | e
    · rw [e] at hg1; exact hne g hg1
    · rw [e] at hg1; injection hg1; omega
  refine ⟨.inl hp, A', c', by simpa using set_of_cells hp1 0 _, ?_, ?_⟩
  · obtain ⟨h1, h2⟩ := ho1
    refine ⟨h1, ?_⟩
    rcases h2 with h2 | ⟨g, cap, cur, hv, hgb, hhg, r⟩
    · exact .inl h2
    · have : g ≠ p := hne1 g (by rw [hv]; rfl)
      exact .inr ⟨g, cap, cur, hv, hgb, (Below.heap_setCell _ _ _ _ this).trans hhg, r⟩
  · rintro a rfl
    rcases hat with e | e
    · rcases A with _ | a0
      · simp [Value.ownBlock] at e
      · simp [Value.ownBlock] at e
        exact .inl (by rw [e]; exact hs a0 rfl)
    · simp [Value.ownBlock] at e
      exact .inr (by omega)
end

theorem own_wr {S : Nat → Prop} {A : Option Addr} {n c : Nat} (hs : ∀ a, A = some a → S a.block) : ∀ g, (Value.slice A n c).ownBlock = some g → S g := by
  intro g hg
  rcases A with _ | a
  · simp [Value.ownBlock] at hg
  · simp [Value.ownBlock] at hg
    rw [← hg]; exact hs a rfl

/-- What the walk is told behind an append to a writer's bytes. -/
theorem Wr.app {w wx w1 : World} {S : Nat → Prop} {p : Nat} {l m : List UInt8} {A A' : Option Addr} {c c' n : Nat} (hp : S p) (hh : w.heap[p]? = some (.cells #[.slice A l.length c] 87 (0, 0))) (ho : w.ownsRow 0 5 1 (.slice A l.length c) l.length (u8s l)) (hs : ∀ a, A = some a → S a.block)
    (hx : Below w.heap.size w wx) (ho1 : w1.ownsRow 0 5 1 (.slice A' n c') n (u8s l ++ u8s m)) (hn : n = l.length + m.length) (hg : wx.grownBy w1 (Value.slice A l.length c).ownBlock)
    (hat : (Value.slice A' n c').ownBlock = (Value.slice A l.length c).ownBlock ∨ (Value.slice A' n c').ownBlock = some wx.heap.size) :
    w1.cell? ⟨p, 0, none⟩ = some (.slice A l.length c) ∧ w1.frozen? ⟨p, 0, none⟩ = false ∧
      Hid (Wr (w1.setCell ⟨p, 0, none⟩ (.slice A' n c')) (fun b => S b ∨ w.heap.size ≤ b) p (l ++ m) ∧ Turned S w (w1.setCell ⟨p, 0, none⟩ (.slice A' n c'))) := by
  have hplt := lt_of_cells hh
  have hne : (Value.slice A l.length c).ownBlock ≠ some p := by
    intro hg
    rcases ho.2 with ⟨hv, _⟩ | ⟨g', cap, cur, hv, _, hhg, _⟩
    · rw [hv] at hg; simp [Value.ownBlock] at hg
    · rw [hv] at hg
      simp [Value.ownBlock] at hg
      subst hg
      rw [hh] at hhg
      injection hhg with hhg
      injection hhg with _ ht _
      exact absurd ht (by decide)
  have hp1 : w1.heap[p]? = some (.cells #[.slice A l.length c] 87 (0, 0)) :=
    (hg.block p (Nat.lt_of_lt_of_le hplt hx.size) (fun e => hne e.symm)).trans ((hx.block p hplt).trans hh)
  refine ⟨by rw [cell_of_cells hp1 0]; rfl, free_of_cells hp1 0, ?_⟩
  refine ⟨Wr.put_back hp hh ho hs hx.size (fun k hk => hx.block k hk) ho1 hn hg hat, ?_⟩
  exact ((Turned.of_below hx).trans (Turned.of_gr hg (own_wr hs)) fun _ _ h => h).set hp _ _



theorem own_cap {w : World} {base : Nat} {e : TypeId} {size : Nat} {A : Option Addr} {n c : Nat} {xs : List Value} (h : w.ownsRow base e size (.slice A n c) n xs) : n ≤ c := by
  rcases h.2 with ⟨hv, rfl⟩ | ⟨g', cap, cur, hv, _, _, hn, _⟩
  · omega
  · injection hv with _ _ hc; omega

/-- The post of a writer's call. -/
def Put (w : World) (S : Nat → Prop) (p : Nat) (l : List UInt8) (e : Ending) (w' : World) : Prop := e = .returned (.tuple #[]) ∧ Wr w' (fun b => S b ∨ w.heap.size ≤ b) p l ∧ Turned S w w'

set_option maxHeartbeats 1000000 in
theorem wfixed {w : World} {S T : Nat → Prop} {p : Nat} {l m : List UInt8} {A : Option Addr} {n c : Nat} (h : Wr w S p l) (hm : Byt w T A n c m) (hb : l.length + n ≤ 140737488355328) :
    Calls Tryd.prog 21 #[.pointer (some ⟨p, 0, none⟩), .slice A n c] w (Put w S p (l ++ m)) := by
  obtain ⟨i0, hi, hz0, hz1, hz2⟩ := info_parts u8_info
  have hmax := hm.max
  have hcap := hm.cap
  have hmlen := hm.len
  have hW := Lib.hid h
  obtain ⟨hp, A0, c0, hh, ho, hs⟩ := h
  have h0 := cell_of_cells hh 0
  simp only [List.getElem?_toArray, List.getElem?_cons_zero] at h0
  have f0 := free_of_cells hh 0
  have hoc := own_cap ho
  have HH := Lib.hid hh
  have HO := Lib.hid ho
  have HL := Lib.hid hmlen
  rcases A with _ | ad
  · have hn0 : n = 0 := by
      rcases Nat.eq_zero_or_pos n with h0 | h0
      · exact h0
      · obtain ⟨_, _, hA, _⟩ := hm.row h0
        cases hA
    subst hn0
    obtain rfl : m = [] := List.eq_nil_of_length_eq_zero hmlen
    have fin : Put w S p (l ++ []) (.returned (.tuple #[])) (w.setCell ⟨p, 0, none⟩ (.slice A0 l.length c0)) := by
      rw [List.append_nil]
      refine ⟨rfl, ⟨.inl hp, A0, c0, by simpa using set_of_cells hh 0 (.slice A0 l.length c0), ?_, fun a ha => .inl (hs a ha)⟩, (Turned.refl _ _).set hp _ _⟩
      obtain ⟨h1, h2⟩ := ho
      refine ⟨h1, ?_⟩
      rcases h2 with h2 | ⟨g, cap, cur, hv, hgb, hhg, r⟩
      · exact .inl h2
      · have : g ≠ p := by
          rintro rfl
          rw [hh] at hhg
          injection hhg with hhg
          injection hhg with _ ht _
          exact absurd ht (by decide)
        exact .inr ⟨g, cap, cur, hv, hgb, (Below.heap_setCell _ _ _ _ this).trans hhg, r⟩
    clear hm hh ho hmlen
    go_enter Tryd.func21, Tryd.ntmps21
    go_wp2_with (at_builtin; refine wpList_append_zero (by rfl) _ _ 22 (by rfl) 5 i0 Tryd.underlying22 hi A0 l.length c0 c hoc (by rfl) (by rfl) ?_)
    go_end0
    exact fin
  · have hnews := byt_news hm
    have hlen := u8s_length m
    have hone := u8s_one m
    clear hm hh ho hmlen
    go_enter Tryd.func21, Tryd.ntmps21
    go_wp2_with (at_builtin; refine wpList_append_own_at _ rfl _ _ 22 rfl 0 5 i0 (.int .u8 0) 1 1 Tryd.underlying22 hi hz0 hz1 hz2 rfl (by decide) _ l.length (u8s l) rfl HO.out ad n c (u8s m) rfl ?qc1 hnews hone ?qc4 ?qc5 ?qc6 ?_)
    case qc1 => rw [hlen, HL.out]; omega
    case qc4 => unfold maxLen at *; omega
    case qc5 => omega
    case qc6 => simp
    intro v' w1 hown hgrow hnn hat
    obtain ⟨A', c', rfl, _⟩ := own_byt (l := l ++ m) (by rw [u8s_append]; exact hown)
    obtain ⟨g1, g2, g3⟩ := Wr.app hp HH.out HO.out hs (Below.refl _ _) hown (by rw [HL.out]) hgrow hat
    clear hown hgrow hnn hat h0 f0 hnews
    go_wp2
    go_end0
    exact ⟨rfl, g3.out⟩
end Go.Proofs.YtmakpjcgiiljfaaDoor

/-! Files: the tree of bytes. -/
namespace Go.Proofs.YtmakpjcgiiljfaaDoor
open Go.RowKit Codec

def fgGo : Nat → Tb → List UInt8 → Int → Tb × List UInt8 × Int
  | 0, acc, l, e => (acc, l, e)
  | m + 1, acc, l, e =>
    if byE (byL l e 255) (byE l e 255) 1048576 ≠ 0 then (acc, byL (byL l e 255) (byE l e 255) 1048576, byE (byL l e 255) (byE l e 255) 1048576)
    else fgGo m (acc ++ [(byB l e 255, byB (byL l e 255) (byE l e 255) 1048576)]) (byL (byL l e 255) (byE l e 255) 1048576) (byE (byL l e 255) (byE l e 255) 1048576)
def fgEnd (r : Tb × List UInt8 × Int) : Tb × Int := if endE r.2.1 r.2.2 ≠ 0 then ([], endE r.2.1 r.2.2) else if chkE r.1 ≠ 0 then ([], 11) else (r.1, 0)
/-- THE TREE OF BYTES. -/
def getF (b : List UInt8) : Tb × Int := if 65536 < uiX b 0 then ([], 13) else fgEnd (fgGo (uiX b 0) [] (uiL b 0) (uiE b 0))

section
variable {w1 W W' : World} {S1 S2 : Nat → Prop} {p x0 : Nat} {l l' : List UInt8} {e e' : Int} {v : Value} {acc : Tb} {CS : Array Value}
theorem turnedF_of_gr {p : Nat} (h : W.grownBy W' (some p)) : Turned (fun k => k = p) W W' := Turned.of_gr h fun _ e => (Option.some.inj e).symm
end
/-- What Get tells. -/
def FgPost (w : World) (r : Tb × Int) (e : Ending) (w' : World) : Prop :=
  ∃ A c, e = .returned (.tuple #[.slice A r.1.length c, .int .i64 r.2]) ∧ Fls w' (w.heap.size ≤ ·) A r.1.length c r.1 ∧ Below w.heap.size w w'
theorem fgPost_nil {w w' : World} {r : Tb × Int} {E : Int} (hr : r = ([], E)) (hb : Below w.heap.size w w') : FgPost w r (.returned (.tuple #[.slice none 0 0, .int .i64 E])) w' := by
  subst hr
  exact ⟨none, 0, rfl, Fls.nil _ _ _ _ (Nat.zero_le _), hb⟩
end Go.Proofs.YtmakpjcgiiljfaaDoor

/-! Files: strings.Compare's order, the first of rising paths that is not below a text. -/
namespace Go.Proofs.YtmakpjcgiiljfaaDoor
open Go.RowKit Codec

theorem cmp_neg : ∀ (a b : List UInt8), (Lib.compareBytes a b < 0 ↔ a < b) ∧ (Lib.compareBytes a b = 0 ↔ a = b) ∧ -1 ≤ Lib.compareBytes a b ∧ Lib.compareBytes a b ≤ 1
  | [], [] => by simp [Lib.compareBytes]
  | [], b :: bs => by simp [Lib.compareBytes]
  | a :: u, [] => by simp [Lib.compareBytes]
  | a :: u, b :: bs => by
    obtain ⟨h1, h2, h3, h4⟩ := cmp_neg u bs
    unfold Lib.compareBytes
    rw [List.cons_lt_cons_iff, List.cons.injEq]
    by_cases hab : a < b
    · have : a ≠ b := fun e => by rw [e] at hab; exact absurd hab (UInt8.lt_irrefl b)
      simp [hab, this]
    · by_cases hba : b < a
      · have : a ≠ b := fun e => by rw [e] at hba; exact absurd hba (UInt8.lt_irrefl b)
        simp [hab, hba, this]
      · have : a = b := UInt8.le_antisymm (UInt8.not_lt.1 hba) (UInt8.not_lt.1 hab)
        subst this
        simp [h1, h2, h3, h4]
theorem wpList_load_at_on {P : Program} {ops : Array Oper} {rest : List Oper} {o : Oper} {a : Act} {w : World} {Q : Exit → Act → World → Prop} (hw : Region.wanted o (yielded ops a.tmps) = true) (ty : TypeId) (x : Operand) (ho : o.op = .load ty x) (ad : Addr) (hx : a.eval x = .pointer (some ad)) (cs : Array Value) (d : TypeDesc)
    (hc : ∀ (j : Nat) (v : Value), cs[j]? = some v → w.cell? (ad.add j) = some v) (hu : P.underlying ty = some d) (hd : (match d with | .struct _ | .array _ _ => true | _ => false) = true) (hi : (P.info? ty).map (·.size) = some cs.size)
    (h : wpList P ops Q rest (a.put o.dst (.agg cs)) w) : wpList P ops Q (o :: rest) a w := by
  unfold wpList
  rw [if_pos hw]
  refine .inl ?_
  unfold Oper.wp execOp
  simp only [ho, hx, Instr.loadAt, Instr.sureAddr, Sem.run_bind, Sem.run_pure, Result.andThen_ok, run_loadVar_at w ad ty cs d hc hu hd hi]
  exact h
/-- PATHS RISE. -/
def Ris (l : Tb) : Prop := ∀ (i k : Nat) (x y : Fi), i < k → l[i]? = some x → l[k]? = some y → x.1 < y.1
/-- While it is searched. -/
def BsR (w : World) (l : Tb) (s : List UInt8) (i j : Value) (wr : World) : Prop :=
  ∃ a b : Nat, i = .int .i64 (a : Int) ∧ j = .int .i64 (b : Int) ∧ a ≤ b ∧ b ≤ l.length ∧ (∀ k x, k < a → l[k]? = some x → x.1 < s) ∧ (∀ k x, b ≤ k → l[k]? = some x → ¬ x.1 < s) ∧ Below w.heap.size w wr
def BsPost (w : World) (l : Tb) (s : List UInt8) (e : Ending) (w' : World) : Prop :=
  ∃ (a : Nat) (z : Bool), e = .returned (.tuple #[.int .i64 (a : Int), .bool z]) ∧ a ≤ l.length ∧ (∀ k x, k < a → l[k]? = some x → x.1 < s) ∧ (∀ k x, a ≤ k → l[k]? = some x → ¬ x.1 < s) ∧ Below w.heap.size w w'
end Go.Proofs.YtmakpjcgiiljfaaDoor

/-! codec.Writer, its further methods. -/
namespace Go.Proofs.YtmakpjcgiiljfaaDoor
open Go.RowKit Codec

theorem or128_all : ∀ a, a < 256 → a ||| 128 = a % 128 + 128 := by decide +kernel
theorem byte_more (x : Nat) : bits .or .u8 (IntKind.u8.wrap (x : Int)) 128 = ((UInt8.ofNat (x % 128 + 128)).toNat : Int) := by
  have e : IntKind.u8.wrap (x : Int) = ((x % 256 : Nat) : Int) := by simp [IntKind.wrap, IntKind.signed, IntKind.bits]
  rw [e, show (128 : Int) = ((128 : Nat) : Int) from rfl, u8_or_nat _ _ (by omega) (by omega), or128_all _ (by omega)]
  have : (UInt8.ofNat (x % 128 + 128)).toNat = x % 128 + 128 := by simp; omega
  rw [this]
  omega
theorem byte_last (x : Nat) : IntKind.u8.wrap (x : Int) = ((UInt8.ofNat x).toNat : Int) := by
  have e : IntKind.u8.wrap (x : Int) = ((x % 256 : Nat) : Int) := by simp [IntKind.wrap, IntKind.signed, IntKind.bits]
  rw [e]
  simp


set_option maxHeartbeats 1000000 in
set_option maxRecDepth 100000 in
theorem wuint {w : World} {S : Nat → Prop} {p : Nat} {l : List UInt8} {x : Nat} (h : Wr w S p l) (hx : x < 18446744073709551616) (hb : l.length + 10 ≤ 140737488355328) :
    Calls Tryd.prog 19 #[.pointer (some ⟨p, 0, none⟩), .int .u64 x] w (Put w S p (l ++ put x)) := by
  obtain ⟨i0, hi, hz0, hz1, hz2⟩ := info_parts u8_info
  go_enter Tryd.func19, Tryd.ntmps19
  go_wp2
  go_loopw [1] (fun s1 wr => ∃ (y : Nat) (d : List UInt8), y < 18446744073709551616 ∧ s1 = .int .u64 y ∧ Hid (l ++ put x = d ++ put y) ∧ Wr wr (fun b => S b ∨ w.heap.size ≤ b) p d ∧ Turned S w wr) (fun s1 _ => (intOf s1).toNat)
  case atStart => exact ⟨x, l, hx, rfl, rfl, h.mono fun _ _ hs => .inl hs, Turned.refl _ _⟩
  case round =>
    obtain ⟨y, d, hy, rfl, HD, hW, hT⟩ := hrel
    obtain ⟨hp, A0, c0, hh, ho, hs⟩ := hW
    have h0 := cell_of_cells hh 0
    simp only [List.getElem?_toArray, List.getElem?_cons_zero] at h0
    have f0 := free_of_cells hh 0
    have hdl : d.length + 1 ≤ l.length + 10 := by
      have e := congrArg List.length HD.out
      have := put_length_64 hx
      have := put_length_pos y
      simp at e
      omega
    have HH := Lib.hid hh
    have HO := Lib.hid ho
    clear hh ho
    have hq4 : d.length + 1 ≤ maxLen := by unfold maxLen; omega
    have hq5 : (d.length + 1) * 1 ≤ 140737488355328 := by omega
    by_cases hlt : y < 128
    · have hge : ¬ 128 ≤ y := by omega
      have hput := put_small hlt
      have HP := Lib.hid hput
      have hone : [Value.int .u8 (y : Int)] = u8s [UInt8.ofNat y] := by simp [u8s, Nat.mod_eq_of_lt (show y < 256 by omega)]
      have HV := Lib.hid hone
      clear hput hone
      go_wp2_with (at_builtin; refine wpList_append_own_at _ rfl _ _ 22 rfl 0 5 i0 (.int .u8 0) 1 1 Tryd.underlying22 hi hz0 hz1 hz2 rfl (by decide) _ d.length (u8s d) rfl (HO.out.alloc _) ⟨wr.heap.size, 0, none⟩ 1 1 [.int .u8 (y : Int)] rfl rfl (cell_one_new _ _ _) (one_of rfl) hq4 hq5 (Nat.zero_le _) ?_)
      intro v' w1 hown hgrow hnn hat
      rw [HV.out] at hown
      obtain ⟨A', c', rfl, _⟩ := own_byt (l := d ++ [UInt8.ofNat y]) (by rw [u8s_append]; exact hown)
      obtain ⟨g1, g2, g3⟩ := Wr.app (S := fun b => S b ∨ w.heap.size ≤ b) hp HH.out HO.out hs ((Below.refl _ _).alloc (Nat.le_refl _) _) hown rfl hgrow (hat.imp_right fun e => e.trans (by simp))
      have fin : Put w S p (l ++ put x) (.returned (.tuple #[])) (w1.setCell ⟨p, 0, none⟩ (.slice A' (d.length + 1) c')) := by
        rw [HD.out, HP.out]
        refine ⟨rfl, g3.out.1.mono fun b _ hs => ?_, hT.trans g3.out.2 fun i hi hs => ?_⟩
        · rcases hs with hs | hs
          · exact hs
          · exact .inr (Nat.le_trans hT.size hs)
        · rcases hs with hs | hs
          · exact hs
          · omega
      have HF := Lib.hid fin
      clear hown hgrow hnn hat h0 f0 fin
      go_wp2
      go_end0
      exact HF.out
    · have hone : [Value.int .u8 (bits .or .u8 (IntKind.u8.wrap (y : Int)) 128)] = u8s [UInt8.ofNat (y % 128 + 128)] := by rw [byte_more]; rfl
      have HV := Lib.hid hone
      have hput := put_big (x := y) (by omega)
      have HP := Lib.hid hput
      clear hput hone
      go_wp2_with (at_builtin; refine wpList_append_own_at _ rfl _ _ 22 rfl 0 5 i0 (.int .u8 0) 1 1 Tryd.underlying22 hi hz0 hz1 hz2 rfl (by decide) _ d.length (u8s d) rfl (HO.out.alloc _) ⟨wr.heap.size, 0, none⟩ 1 1 [.int .u8 (bits .or .u8 (IntKind.u8.wrap (y : Int)) 128)] rfl rfl (cell_one_new _ _ _) (one_of rfl) hq4 hq5 (Nat.zero_le _) ?_)
      intro v' w1 hown hgrow hnn hat
      rw [HV.out] at hown
      obtain ⟨A', c', rfl, _⟩ := own_byt (l := d ++ [UInt8.ofNat (y % 128 + 128)]) (by rw [u8s_append]; exact hown)
      obtain ⟨g1, g2, g3⟩ := Wr.app (S := fun b => S b ∨ w.heap.size ≤ b) hp HH.out HO.out hs ((Below.refl _ _).alloc (Nat.le_refl _) _) hown rfl hgrow (hat.imp_right fun e => e.trans (by simp))
      clear hown hgrow hnn hat h0 f0
      go_wp2
      go_roundw
      case rel =>
        refine ⟨y / 128, d ++ [UInt8.ofNat (y % 128 + 128)], by omega, ?_, ?_, g3.out.1.mono fun b _ hs => ?_, hT.trans g3.out.2 fun i hi hs => ?_⟩
        · go_num
        · show l ++ put x = _
          rw [HD.out, HP.out]; simp
        · rcases hs with hs | hs
          · exact hs
          · exact .inr (Nat.le_trans hT.size hs)
        · rcases hs with hs | hs
          · exact hs
          · omega
      case measure => simp [intOf]; omega
end Go.Proofs.YtmakpjcgiiljfaaDoor
