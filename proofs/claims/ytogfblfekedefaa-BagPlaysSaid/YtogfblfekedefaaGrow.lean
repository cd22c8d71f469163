/-
  A REGION THAT DRAWS ITS ORDER, WALKED ONCE WHATEVER THE ORDER ('wp_region_grow'): each operation i has a claim Φ i on what it yields (a value, and the world), which stays as the world grows (G); each operation is walked once, in whatever world, from the claims of those that it waits for; behind the region all claims hold. No order is taken up.
-/
import Derived.WalkKit
import Derived.OrdersHeld
import Derived.RegionTactic
import Derived.Lib.Hide
namespace Go.Proofs.Ytogfblfekedefaa
open Go.RowKit
namespace Grow

def dstOf (ops : Array Oper) (j : Nat) : Option Tmp := (ops[j]?).bind (·.dst)
/-- i waits for j, which writes slot d. -/
def depB (ops : Array Oper) (i j d : Nat) : Bool :=
  (match ops[i]? with | some o => o.after.any fun e => Region.binds .any e && e.on == j | none => false) && dstOf ops j == some d
/-- Whatever writes slot d waits for i. -/
def untB (ops : Array Oper) (i d : Nat) : Bool :=
  (List.range ops.size).all fun j => j == i || dstOf ops j != some d || match ops[j]? with | some o => o.after.any (fun e => Region.binds .any e && e.on == i) | none => true
def growB (ops : Array Oper) (n : Nat) : Bool :=
  (List.range ops.size).all fun i => match ops[i]? with
    | none => false
    | some o => (o.after.all fun e => !Region.binds .any e || decide (e.on < i)) &&
      match o.dst with
      | none => true
      | some d => decide (d < n) && (List.range ops.size).all fun j => j == i || dstOf ops j != some d

/-- What a single operation comes to. -/
def runsTo (P : Program) (R : Value → World → Prop) : Result Next → Prop
  | .ok (.value v) w' => R v w'
  | .ok .skip w' => R undef w'
  | .ok (.enter f args) w' => Calls P f args w' fun e w'' => ∃ v, e = .returned v ∧ R v w''
  | _ => False

@[go_sem] theorem runsTo_value (P : Program) (R : Value → World → Prop) (v : Value) (w : World) : runsTo P R (.ok (.value v) w) = R v w := rfl
@[go_sem] theorem runsTo_skip (P : Program) (R : Value → World → Prop) (w : World) : runsTo P R (.ok .skip w) = R undef w := rfl
@[go_sem] theorem runsTo_enter (P : Program) (R : Value → World → Prop) (f : FuncId) (args : Array Value) (w : World) : runsTo P R (.ok (.enter f args) w) = Calls P f args w fun e w'' => ∃ v, e = .returned v ∧ R v w'' := rfl

section
variable (P : Program) (ops : Array Oper) (G : World → World → Prop) (Φ : Nat → Value → World → Prop) (a0 : Act) (w0 : World)

/-- THE WALK OF ONE OPERATION, its operands read by E. -/
def GStep (i : Nat) : Prop :=
  ∀ (o : Oper), ops[i]? = some o → ∀ (E : Operand → Value) (W : World), (∀ v, E (.const v) = v) → (∀ g, E (.global g) = .pointer (some ⟨g, 0, none⟩)) → (∀ f, E (.func f) = .func (.func f) #[] #[]) → G w0 W →
    (∀ j d, depB ops i j d = true → Φ j (E (.tmp d)) W) → (∀ d, untB ops i d = true → E (.tmp d) = a0.eval (.tmp d)) →
    ((o.guard = none ∨ ∃ g b d, o.guard = some (g, b) ∧ dstOf ops g = some d ∧ E (.tmp d) = .bool b) ∧ runsTo P (fun v W' => G W W' ∧ Φ i v W') ((execOp E o).run P W)) ∨
    ((∃ g b u d, o.guard = some (g, b) ∧ dstOf ops g = some d ∧ E (.tmp d) = u ∧ u ≠ .bool b) ∧ Φ i undef W)

def allBelow (p : Nat → Prop) : Nat → Prop
  | 0 => True
  | n + 1 => allBelow p n ∧ p n
theorem allBelow_at {p : Nat → Prop} : ∀ {n : Nat}, allBelow p n → ∀ i, i < n → p i
  | n + 1, h, i, hi => by
    rcases Nat.lt_succ_iff_lt_or_eq.1 hi with h1 | rfl
    · exact allBelow_at h.1 i h1
    · exact h.2

/-- What follows, slot by slot. -/
def fin (Q : Exit → Act → World → Prop) (W : World) : List Oper → Nat → Act → Prop
  | [], _, a => Q .normal a W
  | o :: r, j, a => match o.dst with
    | none => (∃ v, Φ j v W) → fin Q W r (j + 1) a
    | some d => ∀ v, Φ j v W → fin Q W r (j + 1) (a.put (some d) v)

def putL (v : Nat → Value) : List Oper → Nat → Act → Act
  | [], _, a => a
  | o :: r, j, a => putL v r (j + 1) (a.put o.dst (v j))
end

section
variable {P : Program} {ops : Array Oper} {Q : Exit → Act → World → Prop} {G : World → World → Prop} {Φ : Nat → Value → World → Prop} {a0 : Act} {w0 : World}

theorem fin_putL {W : World} {v : Nat → Value} : ∀ (l : List Oper) (k : Nat) (a : Act), fin Φ Q W l k a → (∀ j o d, l[j]? = some o → o.dst = some d → Φ (k + j) (v (k + j)) W) → (∀ j o, l[j]? = some o → o.dst = none → ∃ x, Φ (k + j) x W) → Q .normal (putL v l k a) W
  | [], _, _, h, _, _ => h
  | o :: r, k, a, h, hv, hnn => by
    have hrn : ∀ j o', r[j]? = some o' → o'.dst = none → ∃ x, Φ (k + 1 + j) x W := fun j o' hj hd => by
      have := hnn (j + 1) o' (by simpa using hj) hd
      rwa [show k + (j + 1) = k + 1 + j by omega] at this
    have hr : ∀ j o' d, r[j]? = some o' → o'.dst = some d → Φ (k + 1 + j) (v (k + 1 + j)) W := fun j o' d hj hd => by
      have := hv (j + 1) o' d (by simpa using hj) hd
      rwa [show k + (j + 1) = k + 1 + j by omega] at this
    unfold fin at h
    cases hd : o.dst with
    | none =>
      rw [hd] at h
      simp only [putL, hd]
      exact fin_putL r (k + 1) _ (h (hnn 0 o rfl hd)) hr hrn
    | some d =>
      rw [hd] at h
      simp only [putL, hd]
      exact fin_putL r (k + 1) _ (h _ (hv 0 o d rfl hd)) hr hrn

theorem putL_same {a : Act} {v : Nat → Value} : ∀ (l : List Oper) (k : Nat) (b : Act), b.tmps.size = a.tmps.size → b.defers = a.defers →
    (∀ j o d, l[j]? = some o → o.dst = some d → d < a.tmps.size ∧ v (k + j) = a.tmps.getD d undef) → (∀ d, (∀ o ∈ l, o.dst ≠ some d) → b.tmps[d]? = a.tmps[d]?) → putL v l k b = a
  | [], _, b, _, hd, _, h => by
    obtain ⟨t, ds⟩ := b
    obtain ⟨t', ds'⟩ := a
    simp only at hd h
    subst hd
    have : t = t' := Array.ext_getElem? fun i => h i (by simp)
    rw [putL, this]
  | o :: r, k, b, hs, hdf, hv, h => by
    have hr : ∀ j o' d, r[j]? = some o' → o'.dst = some d → d < a.tmps.size ∧ v (k + 1 + j) = a.tmps.getD d undef := fun j o' d hj hd => by
      have := hv (j + 1) o' d (by simpa using hj) hd
      rwa [show k + (j + 1) = k + 1 + j by omega] at this
    rw [putL]
    cases ho : o.dst with
    | none =>
      refine putL_same r (k + 1) _ hs hdf hr fun d hd => h d fun o' ho' => ?_
      rcases List.mem_cons.1 ho' with rfl | h1
      · rw [ho]; simp
      · exact hd o' h1
    | some e =>
      refine putL_same r (k + 1) _ (by simpa [Act.put] using hs) hdf hr fun d hd => ?_
      obtain ⟨h1, h2⟩ := hv 0 o e rfl ho
      by_cases hde : e = d
      · subst hde
        simp only [Act.put, Array.getElem?_setIfInBounds_self, hs]
        rw [if_pos h1, show v k = v (k + 0) from rfl, h2]
        simp [h1]
      · simp only [Act.put]
        rw [Array.getElem?_setIfInBounds_ne hde]
        refine h d fun o' ho' => ?_
        rcases List.mem_cons.1 ho' with rfl | h3
        · rw [ho]; simpa using hde
        · exact hd o' h3

structure Inv (ops : Array Oper) (G : World → World → Prop) (Φ : Nat → Value → World → Prop) (a0 : Act) (w0 : World) (listed : Array Bool) (a : Act) (w : World) : Prop where
  grow : G w0 w
  lsize : listed.size = ops.size
  size : a.tmps.size = a0.tmps.size
  defers : a.defers = a0.defers
  closed : ∀ j o, ops[j]? = some o → listed.getD j false = true → ∀ e ∈ o.after, Region.binds .any e = true → listed.getD e.on false = true
  done : ∀ j o d, ops[j]? = some o → listed.getD j false = true → o.dst = some d → Φ j (a.tmps.getD d undef) w
  doneN : ∀ j o, ops[j]? = some o → listed.getD j false = true → o.dst = none → ∃ v, Φ j v w
  rest : ∀ d, (∀ j o, ops[j]? = some o → listed.getD j false = true → o.dst ≠ some d) → a.tmps[d]? = a0.tmps[d]?

theorem getD_set_ne' {listed : Array Bool} {i j : Nat} (h : i ≠ j) : (listed.setIfInBounds i true).getD j false = listed.getD j false := by
  simp [Array.getD_eq_getD_getElem?, Array.getElem?_setIfInBounds_ne h]
theorem getD_set_same {listed : Array Bool} {i : Nat} (h : i < listed.size) : (listed.setIfInBounds i true).getD i false = true := by
  simp [Array.getD_eq_getD_getElem?, h]

theorem runs_wp {o : Oper} {a : Act} {w : World} {K : Act → World → Prop} {R : Value → World → Prop} (hR : ∀ v w', R v w' → K (a.put o.dst v) w') (h : runsTo P R ((execOp a.eval o).run P w)) : o.wp P a w K Q := by
  unfold Oper.wp
  generalize (execOp a.eval o).run P w = r at h
  unfold runsTo at h
  split at h
  · exact hR _ _ h
  · exact hR _ _ h
  · refine Calls.mono h ?_
    rintro e w'' ⟨v, rfl, hr⟩
    exact hR _ _ hr
  · exact h.elim

theorem untB_spec {i d : Nat} (h : untB ops i d = true) (j : Nat) (o : Oper) (hj : ops[j]? = some o) (hd : o.dst = some d) : j = i ∨ ∃ e ∈ o.after, Region.binds .any e = true ∧ e.on = i := by
  have hlt := (Array.getElem?_eq_some_iff.1 hj).1
  have h1 := List.all_eq_true.1 h j (List.mem_range.2 hlt)
  simp only [dstOf, hj, Option.bind_some, hd, Bool.or_eq_true, beq_iff_eq, bne_self_eq_false, or_false, Bool.false_eq_true] at h1
  rcases h1 with h1 | h1
  · exact .inl h1
  · obtain ⟨e, he, hb⟩ := Array.any_eq_true'.1 h1
    simp only [Bool.and_eq_true, beq_iff_eq] at hb
    exact .inr ⟨e, he, hb.1, hb.2⟩
theorem growB_spec {n i : Nat} (h : growB ops n = true) {o : Oper} (ho : ops[i]? = some o) : (∀ e ∈ o.after, Region.binds .any e = true → e.on < i) ∧ ∀ d, o.dst = some d → d < n ∧ ∀ j o', ops[j]? = some o' → j ≠ i → o'.dst ≠ some d := by
  have hlt := (Array.getElem?_eq_some_iff.1 ho).1
  have h1 := List.all_eq_true.1 h i (List.mem_range.2 hlt)
  simp only [ho, Bool.and_eq_true] at h1
  refine ⟨fun e he hb => ?_, fun d hd => ?_⟩
  · have := Array.all_eq_true_iff_forall_mem.1 h1.1 e he
    simpa [hb] using this
  · have h2 := h1.2
    rw [hd] at h2
    simp only [Bool.and_eq_true, decide_eq_true_eq] at h2
    refine ⟨h2.1, fun j o' hj hne hd' => ?_⟩
    have h3 := List.all_eq_true.1 h2.2 j (List.mem_range.2 (Array.getElem?_eq_some_iff.1 hj).1)
    simp [dstOf, hj, hd', hne] at h3

theorem getD_both' {listed : Array Bool} {i : Nat} (h : listed.getD i true = false) : listed.getD i false = false ∧ i < listed.size := by
  rcases Nat.lt_or_ge i listed.size with h' | h'
  · simp [h'] at h ⊢; exact h
  · simp [Array.getElem?_eq_none h'] at h

theorem yielded_not {a : Act} {g d : Nat} {b : Bool} {u : Value} (hd : dstOf ops g = some d) (h : a.tmps.getD d undef = u) (hne : u ≠ .bool b) : (yielded ops a.tmps g == some b) = false := by
  rw [beq_eq_false_iff_ne]
  intro hy
  unfold yielded at hy
  unfold dstOf at hd
  rw [hd] at hy
  simp only [Option.bind_some] at hy
  split at hy
  · rename_i b' hb'
    injection hy with hy
    subst hy
    apply hne
    rw [← h, Array.getD_eq_getD_getElem?, hb']
    rfl
  · cases hy
theorem yielded_of {a : Act} {g d : Nat} {b : Bool} (hd : dstOf ops g = some d) (h : a.tmps.getD d undef = .bool b) : yielded ops a.tmps g = some b := by
  have hs : a.tmps[d]? = some (.bool b) := by
    rw [Array.getD_eq_getD_getElem?] at h
    cases ht : a.tmps[d]? with
    | none => rw [ht] at h; simp [undef] at h
    | some v => rw [ht] at h; simp at h; rw [h]
  unfold yielded
  unfold dstOf at hd
  rw [hd]
  simp [hs]

theorem step_inv {n i : Nat} {listed : Array Bool} {a : Act} {w : World} (hB : growB ops n = true) (hn : a0.tmps.size = n) (htr : ∀ A B C, G A B → G B C → G A C) (hmono : ∀ j v W W', Φ j v W → G W W' → Φ j v W') (hrefl : ∀ W, G W W)
    (hI : Inv ops G Φ a0 w0 listed a w) (hi : i ∈ Region.ready .any ops listed) (hs : GStep P ops G Φ a0 w0 i) : wpOp P ops Q i (fun a' w' => Inv ops G Φ a0 w0 (listed.setIfInBounds i true) a' w') a w := by
  obtain ⟨hun, o, ho, hall⟩ := mem_ready.1 hi
  obtain ⟨hun, hil⟩ := getD_both' hun
  obtain ⟨hB1, hB2⟩ := growB_spec hB ho
  have hnew : ∀ v w', G w w' → Φ i v w' → Inv ops G Φ a0 w0 (listed.setIfInBounds i true) (a.put o.dst v) w' := by
    intro v w' hg hv
    have hmon : ∀ j, listed.getD j false = true → (listed.setIfInBounds i true).getD j false = true := fun j hj => by
      by_cases hji : i = j
      · subst hji; exact getD_set_same hil
      · rw [getD_set_ne' hji]; exact hj
    refine ⟨htr _ _ _ hI.grow hg, by simpa using hI.lsize, ?_, ?_, ?_, ?_, ?_, ?_⟩
    · cases hd : o.dst <;> simp [Act.put, hI.size]
    · cases hd : o.dst <;> simp [Act.put, hI.defers]
    · intro j o' hj hl e he hb
      by_cases hji : i = j
      · subst hji
        obtain rfl : o = o' := by rw [ho] at hj; exact Option.some.inj hj
        exact hmon _ (hall e he hb)
      · rw [getD_set_ne' hji] at hl
        exact hmon _ (hI.closed j o' hj hl e he hb)
    · intro j o' d hj hl hd
      by_cases hji : i = j
      · subst hji
        obtain rfl : o = o' := by rw [ho] at hj; exact Option.some.inj hj
        have := (hB2 d hd).1
        rw [hd]
        have e : (a.put (some d) v).tmps.getD d undef = v := by
          simp only [Act.put, Array.getD_eq_getD_getElem?, Array.getElem?_setIfInBounds_self, hI.size, hn]
          rw [if_pos this]; rfl
        rw [e]
        exact hv
      · rw [getD_set_ne' hji] at hl
        have h1 := hmono _ _ _ _ (hI.done j o' d hj hl hd) hg
        cases hdo : o.dst with
        | none => simpa [Act.put] using h1
        | some e =>
          have hne : e ≠ d := by
            rintro rfl
            exact (hB2 e hdo).2 j o' hj (fun h => hji h.symm) hd
          have e1 : (a.put (some e) v).tmps.getD d undef = a.tmps.getD d undef := by
            simp only [Act.put, Array.getD_eq_getD_getElem?, Array.getElem?_setIfInBounds_ne hne]
          rw [e1]; exact h1
    · intro j o' hj hl hd
      by_cases hji : i = j
      · subst hji
        exact ⟨v, hv⟩
      · rw [getD_set_ne' hji] at hl
        obtain ⟨x, hx⟩ := hI.doneN j o' hj hl hd
        exact ⟨x, hmono _ _ _ _ hx hg⟩
    · intro d hd
      have h1 := hI.rest d fun j o' hj hl => hd j o' hj (hmon j hl)
      rw [← h1]
      cases hdo : o.dst with
      | none => rfl
      | some e =>
        have hne : e ≠ d := by
          rintro rfl
          exact hd i o ho (getD_set_same hil) hdo
        simp only [Act.put, Array.getElem?_setIfInBounds_ne hne]
  have hst := hs o ho a.eval w (fun _ => rfl) (fun _ => rfl) (fun _ => rfl) hI.grow ?_ ?_
  · unfold wpOp
    rw [ho]
    show if Region.wanted o (yielded ops a.tmps) = true then _ else _
    rcases hst with ⟨hw, hr⟩ | ⟨⟨g, b, u, d, hg, hd, hE, hne⟩, hu⟩
    · have hwt : Region.wanted o (yielded ops a.tmps) = true := by
        unfold Region.wanted
        rcases hw with hw | ⟨g, b, d, hg, hd, hE⟩
        · rw [hw]
        · rw [hg]
          simp [yielded_of hd hE]
      rw [if_pos hwt]
      exact .inl (runs_wp (fun v w' h => hnew v w' h.1 h.2) hr)
    · have hwt : Region.wanted o (yielded ops a.tmps) = false := by
        unfold Region.wanted
        rw [hg]
        exact yielded_not hd hE hne
      rw [hwt]
      simp only [Bool.false_eq_true, if_false]
      exact hnew undef w (hrefl w) hu
  · intro j d hd
    unfold depB at hd
    rw [ho] at hd
    simp only [Bool.and_eq_true, beq_iff_eq] at hd
    obtain ⟨e, he, hb⟩ := Array.any_eq_true'.1 hd.1
    simp only [Bool.and_eq_true, beq_iff_eq] at hb
    obtain ⟨oj, hoj, hdj⟩ := Option.bind_eq_some_iff.1 hd.2
    exact hI.done j oj d hoj (hb.2 ▸ hall e he hb.1) hdj
  · intro d hd
    have := hI.rest d fun j o' hj hl hdd => by
      rcases untB_spec hd j o' hj hdd with rfl | ⟨e, he, hb, hon⟩
      · rw [hun] at hl; cases hl
      · have := hI.closed j o' hj hl e he hb
        rw [hon, hun] at this; cases this
    show a.tmps.getD d undef = a0.tmps.getD d undef
    rw [Array.getD_eq_getD_getElem?, Array.getD_eq_getD_getElem?, this]

theorem all_of_ready {n : Nat} {listed : Array Bool} (hB : growB ops n = true) (hl : listed.size = ops.size) (hr : Region.ready .any ops listed = []) : ∀ i, i < ops.size → listed.getD i false = true := by
  intro i
  induction i using Nat.strongRecOn with
  | _ i ih =>
    intro hi
    cases hc : listed.getD i false with
    | true => rfl
    | false =>
      have ho : ops[i]? = some ops[i] := Array.getElem?_eq_getElem hi
      have : i ∈ Region.ready .any ops listed := by
        refine mem_ready.2 ⟨?_, ops[i], ho, fun e he hb => ?_⟩
        · have : i < listed.size := by omega
          simp [this] at hc ⊢
          exact hc
        · have h1 := (growB_spec hB ho).1 e he hb
          exact ih e.on h1 (by omega)
      rw [hr] at this
      cases this

theorem count_set {listed : Array Bool} {i : Nat} (h : listed.getD i true = false) : (listed.setIfInBounds i true).toList.count false + 1 = listed.toList.count false := by
  obtain ⟨h1, h2⟩ := getD_both' h
  have hi : i < listed.toList.length := by simpa using h2
  have hg : listed.toList[i] = false := by simp [h2] at h1; simpa using h1
  have hp : 0 < listed.toList.count false := List.count_pos_iff.2 (hg ▸ List.getElem_mem hi)
  rw [Array.toList_setIfInBounds, List.count_set hi, hg]
  simp
  have := hp
  rw [← Array.count_toList] 
  omega

theorem any_of_inv {n : Nat} (hB : growB ops n = true) (hn : a0.tmps.size = n) (htr : ∀ A B C, G A B → G B C → G A C) (hmono : ∀ j v W W', Φ j v W → G W W' → Φ j v W') (hrefl : ∀ W, G W W)
    (hs : ∀ i, i < ops.size → GStep P ops G Φ a0 w0 i) (hfin : ∀ W, G w0 W → fin Φ Q W ops.toList 0 a0) :
    ∀ (fuel : Nat) (listed : Array Bool) (a : Act) (w : World), Inv ops G Φ a0 w0 listed a w → listed.toList.count false ≤ fuel → wpAny P .any ops Q fuel listed a w := by
  have hend : ∀ (listed : Array Bool) (a : Act) (w : World), Inv ops G Φ a0 w0 listed a w → Region.ready .any ops listed = [] → Q .normal a w := by
    intro listed a w hI hr
    have hall := all_of_ready hB hI.lsize hr
    have hal : ∀ j o, ops[j]? = some o → listed.getD j false = true := fun j o hj => hall j (Array.getElem?_eq_some_iff.1 hj).1
    have hsame : putL (fun j => a.tmps.getD ((dstOf ops j).getD 0) undef) ops.toList 0 a0 = a := by
      refine putL_same (a := a) _ 0 a0 hI.size.symm hI.defers.symm ?_ ?_
      · intro j o d hj hd
        have hj' : ops[j]? = some o := by rw [← hj, Array.getElem?_toList]
        refine ⟨by rw [hI.size, hn]; exact ((growB_spec hB hj').2 d hd).1, ?_⟩
        have hdd : dstOf ops j = some d := by unfold dstOf; rw [hj']; exact hd
        simp [hdd]
      · intro d hd
        exact (hI.rest d fun j o hj _ => hd o (by rw [Array.mem_toList_iff]; exact Array.mem_of_getElem? hj)).symm
    rw [← hsame]
    refine fin_putL ops.toList 0 a0 (hfin w hI.grow) ?_ (fun j o hj hd => by
      have hj' : ops[j]? = some o := by rw [← hj, Array.getElem?_toList]
      simpa using hI.doneN j o hj' (hal j o hj') hd)
    intro j o d hj hd
    have hj' : ops[j]? = some o := by rw [← hj, Array.getElem?_toList]
    have hdd : dstOf ops j = some d := by unfold dstOf; rw [hj']; exact hd
    have := hI.done j o d hj' (hal j o hj') hd
    simpa [hdd] using this
  intro fuel
  induction fuel with
  | zero =>
    intro listed a w hI hc
    have hr : Region.ready .any ops listed = [] := by
      rw [List.eq_nil_iff_forall_not_mem]
      intro i hi
      have := count_set (mem_ready.1 hi).1
      omega
    exact ⟨hr, hend _ _ _ hI hr⟩
  | succ fuel ih =>
    intro listed a w hI hc
    refine ⟨hend _ _ _ hI, fun i hi => ?_⟩
    obtain ⟨h1, o, ho, _⟩ := mem_ready.1 hi
    refine wpOp_mono ?_ (step_inv hB hn htr hmono hrefl hI hi (hs i (Array.getElem?_eq_some_iff.1 ho).1))
    intro a' w' hI'
    exact ih _ a' w' hI' (by have := count_set h1; omega)
end

/-! The claims as a list. -/
def nth (L : List (Value → World → Prop)) (j : Nat) : Value → World → Prop := L.getD j fun _ _ => True
def MonoAll (G : World → World → Prop) : List (Value → World → Prop) → Prop
  | [] => True
  | φ :: r => (∀ v W W', φ v W → G W W' → φ v W') ∧ MonoAll G r
theorem mono_nth {G : World → World → Prop} : ∀ {L : List (Value → World → Prop)}, MonoAll G L → ∀ j v W W', nth L j v W → G W W' → nth L j v W'
  | [], _, _, _, _, _, _, _ => trivial
  | _ :: _, h, 0, v, W, W', h1, h2 => h.1 v W W' h1 h2
  | _ :: _, h, j + 1, v, W, W', h1, h2 => mono_nth h.2 j v W W' h1 h2
section
variable {P : Program} {ops : Array Oper} {Q : Exit → Act → World → Prop} {G : World → World → Prop} {Φ : Nat → Value → World → Prop} {a0 : Act} {w0 : World}
/-- One operation that has no guard. -/
theorem step_in {i : Nat} {o : Oper} (ho : ops.toList[i]? = some o) (hg : o.guard = none)
    (h : ∀ (E : Operand → Value) (W : World), (∀ v, E (.const v) = v) → (∀ g, E (.global g) = .pointer (some ⟨g, 0, none⟩)) → (∀ f, E (.func f) = .func (.func f) #[] #[]) → G w0 W →
      (∀ j d, depB ops i j d = true → Φ j (E (.tmp d)) W) → (∀ d, untB ops i d = true → E (.tmp d) = a0.eval (.tmp d)) → ∀ R : Value → World → Prop, Hid (∀ v W', G W W' → Φ i v W' → R v W') → runsTo P R ((execOp E o).run P W)) : GStep P ops G Φ a0 w0 i := by
  intro o' ho' E W h1 h2 h3 h4 h5 h6
  obtain rfl : o = o' := by rw [← Array.getElem?_toList, ho] at ho'; exact Option.some.inj ho'
  exact .inl ⟨.inl hg, h E W h1 h2 h3 h4 h5 h6 _ (Lib.hid fun _ _ a b => ⟨a, b⟩)⟩
/-- One operation whose guard holds. -/
theorem step_on {i g d : Nat} {b : Bool} {o : Oper} (ho : ops.toList[i]? = some o) (hg : o.guard = some (g, b)) (hd : dstOf ops g = some d) (hdep : depB ops i g d = true) (hb : ∀ v W, Φ g v W → v = .bool b)
    (h : ∀ (E : Operand → Value) (W : World), (∀ v, E (.const v) = v) → (∀ g, E (.global g) = .pointer (some ⟨g, 0, none⟩)) → (∀ f, E (.func f) = .func (.func f) #[] #[]) → G w0 W →
      (∀ j d, depB ops i j d = true → Φ j (E (.tmp d)) W) → (∀ d, untB ops i d = true → E (.tmp d) = a0.eval (.tmp d)) → ∀ R : Value → World → Prop, Hid (∀ v W', G W W' → Φ i v W' → R v W') → runsTo P R ((execOp E o).run P W)) : GStep P ops G Φ a0 w0 i := by
  intro o' ho' E W h1 h2 h3 h4 h5 h6
  obtain rfl : o = o' := by rw [← Array.getElem?_toList, ho] at ho'; exact Option.some.inj ho'
  exact .inl ⟨.inr ⟨g, b, d, hg, hd, hb _ _ (h5 g d hdep)⟩, h E W h1 h2 h3 h4 h5 h6 _ (Lib.hid fun _ _ a b => ⟨a, b⟩)⟩
/-- One operation whose guard doesn't hold. -/
theorem step_off {i g d : Nat} {b b' : Bool} {o : Oper} (ho : ops.toList[i]? = some o) (hg : o.guard = some (g, b)) (hd : dstOf ops g = some d) (hdep : depB ops i g d = true) (hb : ∀ v W, Φ g v W → v = .bool b') (hne : b' ≠ b)
    (h : ∀ W, Φ i undef W) : GStep P ops G Φ a0 w0 i := by
  intro o' ho' E W h1 h2 h3 h4 h5 h6
  obtain rfl : o = o' := by rw [← Array.getElem?_toList, ho] at ho'; exact Option.some.inj ho'
  exact .inr ⟨⟨g, b, .bool b', d, hg, hd, hb _ _ (h5 g d hdep), fun e => hne (by injection e)⟩, h W⟩
/-- One operation whose guard wasn't asked itself. -/
theorem step_far {i g d : Nat} {b : Bool} {o : Oper} (ho : ops.toList[i]? = some o) (hg : o.guard = some (g, b)) (hd : dstOf ops g = some d) (hdep : depB ops i g d = true) (hb : ∀ v W, Φ g v W → v = undef)
    (h : ∀ W, Φ i undef W) : GStep P ops G Φ a0 w0 i := by
  intro o' ho' E W h1 h2 h3 h4 h5 h6
  obtain rfl : o = o' := by rw [← Array.getElem?_toList, ho] at ho'; exact Option.some.inj ho'
  exact .inr ⟨⟨g, b, undef, d, hg, hd, hb _ _ (h5 g d hdep), fun e => by cases e⟩, h W⟩
theorem fin_dst {W : World} {o : Oper} {r : List Oper} {j : Nat} {a : Act} {d : Tmp} (hd : o.dst = some d) (h : ∀ v, Φ j v W → fin Φ Q W r (j + 1) (a.put (some d) v)) : fin Φ Q W (o :: r) j a := by
  unfold fin
  rw [hd]
  exact h
theorem fin_end {W : World} {j : Nat} {a : Act} (h : Q .normal a W) : fin Φ Q W [] j a := h
theorem fin_none {W : World} {o : Oper} {r : List Oper} {j : Nat} {a : Act} (hd : o.dst = none) (h : fin Φ Q W r (j + 1) a) : fin Φ Q W (o :: r) j a := by
  unfold fin
  rw [hd]
  exact fun _ => h
theorem fin_told {W : World} {o : Oper} {r : List Oper} {j : Nat} {a : Act} (hd : o.dst = none) (h : (∃ v, Φ j v W) → fin Φ Q W r (j + 1) a) : fin Φ Q W (o :: r) j a := by
  unfold fin
  rw [hd]
  exact h
end
theorem below_of_drew {w W : World} (h : Below w.drew.heap.size w.drew W) : Below w.heap.size w W := ⟨h.os, h.tape, h.output, h.size, h.block⟩
end Grow

/-- THE LAW. n: how many slots the frame has. -/
theorem wp_region_grow {P : Program} {ops : Array Oper} {Q : Exit → Act → World → Prop} {id : Nat} {a : Act} {w : World} (G : World → World → Prop) (Φ : Nat → Value → World → Prop) (n : Nat) (hm : P.follows .mixedOrders = true)
    (hB : Grow.growB ops n = true) (hn : a.tmps.size = n) (hrefl : ∀ W, G W W) (htr : ∀ A B C, G A B → G B C → G A C) (hmono : ∀ j v W W', Φ j v W → G W W' → Φ j v W')
    (hs : Grow.allBelow (Grow.GStep P ops G Φ a w.drew) ops.size) (hfin : ∀ W, G w.drew W → Grow.fin Φ Q W ops.toList 0 a) : (Code.region id ops true).wp P Q a w := by
  refine wp_region_any hm (Grow.any_of_inv hB hn htr hmono hrefl (Grow.allBelow_at hs) hfin ops.size _ a _ ⟨hrefl _, by simp, rfl, rfl, ?_, ?_, ?_, fun _ _ => rfl⟩ ?_)
  · intro j o hj hl
    simp at hl
    have := (Array.getElem?_eq_some_iff.1 hj).1
    simp [this] at hl
  · intro j o d hj hl
    have := (Array.getElem?_eq_some_iff.1 hj).1
    simp [this] at hl
  · intro j o hj hl
    have := (Array.getElem?_eq_some_iff.1 hj).1
    simp [this] at hl
  · simp
end Go.Proofs.Ytogfblfekedefaa
