/-
  A REGION THAT DRAWS ITS ORDER, WALKED ONCE WHATEVER THE ORDER ('wp_region_grow'): each operation i has a claim Φ i on what it yields (a value, and the world), which stays as the world grows (G); each operation is walked once, in whatever world, from the claims of those that it waits for; behind the region all claims hold. No order is taken up.
  The law of drawn regions (Grow) where one old row may be written, once: 'Sto q o': of the old blocks only q may have turned, and it is as it was, or it is o.
  Rows of the call's own that have room (append); arrays and structs that are read anywhere; slices with three bounds; returns of four results; what all orders of a region end in.
  A slice of digests (arrays of 32 bytes) that reads as a list of rows of bytes; how one that came in is opened.
  A digest (32 bytes): its size, its zero value.
  A row of digests of the call's own, filled one by one.
-/
import Derived.WalkKit
import Derived.OrdersHeld
import Derived.RegionTactic
import Derived.Lib.Hide
import Derived.Test.YtmmibldchfmleaaPk01
import Derived.Test.YtmmibldchfmleaaPk02
import Derived.Laws.Cover3
import Derived.Deep.Strs
/-! A REGION THAT DRAWS ITS ORDER, WALKED ONCE WHATEVER THE ORDER ('wp_region_grow'): each operation i has a claim Φ i on what it yields (a value, and the world), which stays as the world grows (G); each operation is walked once, in whatever world, from the claims of those that it waits for; behind the region all claims hold. No order is taken up. -/
namespace Go.Proofs.Ytmmibldchfmleaa
open Go.RowKit
namespace Grow

def dstOf (ops : Array Oper) (j : Nat) : Option Tmp := (ops[j]?).bind (·.dst)
/-- i waits for j, which writes slot d. -/
def depB (ops : Array Oper) (i j d : Nat) : Bool :=
  (match ops[i]? with | some o => o.after.any fun e => Region.binds .any e && e.on == j | none => false) && dstOf ops j == some d
/-- Whatever writes slot d waits for i. -/
def untB (ops : Array Oper) (i d : Nat) : Bool :=
  (List.range ops.size).all fun j => j == i || dstOf ops j != some d || match ops[j]? with | some o => o.after.any (fun e => Region.binds .any e && e.on == i) | none => true
def growB (ops : Array Oper) (n : Nat) : Bool :=
  (List.range ops.size).all fun i => match ops[i]? with
    | none => false
    | some o => (o.after.all fun e => !Region.binds .any e || decide (e.on < i)) &&
      match o.dst with
      | none => true
      | some d => decide (d < n) && (List.range ops.size).all fun j => j == i || dstOf ops j != some d

/-- What a single operation comes to. -/
def runsTo (P : Program) (R : Value → World → Prop) : Result Next → Prop
  | .ok (.value v) w' => R v w'
  | .ok .skip w' => R undef w'
  | .ok (.enter f args) w' => Calls P f args w' fun e w'' => ∃ v, e = .returned v ∧ R v w''
  | _ => False

@[go_sem] theorem runsTo_value (P : Program) (R : Value → World → Prop) (v : Value) (w : World) : runsTo P R (.ok (.value v) w) = R v w := rfl
@[go_sem] theorem runsTo_skip (P : Program) (R : Value → World → Prop) (w : World) : runsTo P R (.ok .skip w) = R undef w := rfl
@[go_sem] theorem runsTo_enter (P : Program) (R : Value → World → Prop) (f : FuncId) (args : Array Value) (w : World) : runsTo P R (.ok (.enter f args) w) = Calls P f args w fun e w'' => ∃ v, e = .returned v ∧ R v w'' := rfl

section
variable (P : Program) (ops : Array Oper) (G : World → World → Prop) (Φ : Nat → Value → World → Prop) (a0 : Act) (w0 : World)

/-- THE WALK OF ONE OPERATION, its operands read by E. -/
def GStep (i : Nat) : Prop :=
  ∀ (o : Oper), ops[i]? = some o → ∀ (E : Operand → Value) (W : World), (∀ v, E (.const v) = v) → (∀ g, E (.global g) = .pointer (some ⟨g, 0, none⟩)) → (∀ f, E (.func f) = .func (.func f) #[] #[]) → G w0 W →
    (∀ j d, depB ops i j d = true → Φ j (E (.tmp d)) W) → (∀ d, untB ops i d = true → E (.tmp d) = a0.eval (.tmp d)) →
    ((o.guard = none ∨ ∃ g b d, o.guard = some (g, b) ∧ dstOf ops g = some d ∧ E (.tmp d) = .bool b) ∧ runsTo P (fun v W' => G W W' ∧ Φ i v W') ((execOp E o).run P W)) ∨
    ((∃ g b u d, o.guard = some (g, b) ∧ dstOf ops g = some d ∧ E (.tmp d) = u ∧ u ≠ .bool b) ∧ Φ i undef W)

def allBelow (p : Nat → Prop) : Nat → Prop
  | 0 => True
  | n + 1 => allBelow p n ∧ p n
theorem allBelow_at {p : Nat → Prop} : ∀ {n : Nat}, allBelow p n → ∀ i, i < n → p i
  | n + 1, h, i, hi => by
    rcases Nat.lt_succ_iff_lt_or_eq.1 hi with h1 | rfl
    · exact allBelow_at h.1 i h1
    · exact h.2

/-- What follows, slot by slot. -/
def fin (Q : Exit → Act → World → Prop) (W : World) : List Oper → Nat → Act → Prop
  | [], _, a => Q .normal a W
  | o :: r, j, a => match o.dst with
    | none => (∃ v, Φ j v W) → fin Q W r (j + 1) a
    | some d => ∀ v, Φ j v W → fin Q W r (j + 1) (a.put (some d) v)

def putL (v : Nat → Value) : List Oper → Nat → Act → Act
  | [], _, a => a
  | o :: r, j, a => putL v r (j + 1) (a.put o.dst (v j))
end

section
variable {P : Program} {ops : Array Oper} {Q : Exit → Act → World → Prop} {G : World → World → Prop} {Φ : Nat → Value → World → Prop} {a0 : Act} {w0 : World}

theorem fin_putL {W : World} {v : Nat → Value} : ∀ (l : List Oper) (k : Nat) (a : Act), fin Φ Q W l k a → (∀ j o d, l[j]? = some o → o.dst = some d → Φ (k + j) (v (k + j)) W) → (∀ j o, l[j]? = some o → o.dst = none → ∃ x, Φ (k + j) x W) → Q .normal (putL v l k a) W
  | [], _, _, h, _, _ => h
  | o :: r, k, a, h, hv, hnn => by
    have hrn : ∀ j o', r[j]? = some o' → o'.dst = none → ∃ x, Φ (k + 1 + j) x W := fun j o' hj hd => by
      have := hnn (j + 1) o' (by simpa using hj) hd
      rwa [show k + (j + 1) = k + 1 + j by omega] at this
    have hr : ∀ j o' d, r[j]? = some o' → o'.dst = some d → Φ (k + 1 + j) (v (k + 1 + j)) W := fun j o' d hj hd => by
      have := hv (j + 1) o' d (by simpa using hj) hd
      rwa [show k + (j + 1) = k + 1 + j by omega] at this
    unfold fin at h
    cases hd : o.dst with
    | none =>
      rw [hd] at h
      simp only [putL, hd]
      exact fin_putL r (k + 1) _ (h (hnn 0 o rfl hd)) hr hrn
    | some d =>
      rw [hd] at h
      simp only [putL, hd]
      exact fin_putL r (k + 1) _ (h _ (hv 0 o d rfl hd)) hr hrn

theorem putL_same {a : Act} {v : Nat → Value} : ∀ (l : List Oper) (k : Nat) (b : Act), b.tmps.size = a.tmps.size → b.defers = a.defers →
    (∀ j o d, l[j]? = some o → o.dst = some d → d < a.tmps.size ∧ v (k + j) = a.tmps.getD d undef) → (∀ d, (∀ o ∈ l, o.dst ≠ some d) → b.tmps[d]? = a.tmps[d]?) → putL v l k b = a
  | [], _, b, _, hd, _, h => by
    obtain ⟨t, ds⟩ := b
    obtain ⟨t', ds'⟩ := a
    simp only at hd h
    subst hd
    have : t = t' := Array.ext_getElem? fun i => h i (by simp)
    rw [putL, this]
  | o :: r, k, b, hs, hdf, hv, h => by
    have hr : ∀ j o' d, r[j]? = some o' → o'.dst = some d → d < a.tmps.size ∧ v (k + 1 + j) = a.tmps.getD d undef := fun j o' d hj hd => by
      have := hv (j + 1) o' d (by simpa using hj) hd
      rwa [show k + (j + 1) = k + 1 + j by omega] at this
    rw [putL]
    cases ho : o.dst with
    | none =>
      refine putL_same r (k + 1) _ hs hdf hr fun d hd => h d fun o' ho' => ?_
      rcases List.mem_cons.1 ho' with rfl | h1
      · rw [ho]; simp
      · exact hd o' h1
    | some e =>
      refine putL_same r (k + 1) _ (by simpa [Act.put] using hs) hdf hr fun d hd => ?_
      obtain ⟨h1, h2⟩ := hv 0 o e rfl ho
      by_cases hde : e = d
      · subst hde
        simp only [Act.put, Array.getElem?_setIfInBounds_self, hs]
        rw [if_pos h1, show v k = v (k + 0) from rfl, h2]
        simp [h1]
      · simp only [Act.put]
        rw [Array.getElem?_setIfInBounds_ne hde]
        refine h d fun o' ho' => ?_
        rcases List.mem_cons.1 ho' with rfl | h3
        · rw [ho]; simpa using hde
        · exact hd o' h3

structure Inv (ops : Array Oper) (G : World → World → Prop) (Φ : Nat → Value → World → Prop) (a0 : Act) (w0 : World) (listed : Array Bool) (a : Act) (w : World) : Prop where
  grow : G w0 w
  lsize : listed.size = ops.size
  size : a.tmps.size = a0.tmps.size
  defers : a.defers = a0.defers
  closed : ∀ j o, ops[j]? = some o → listed.getD j false = true → ∀ e ∈ o.after, Region.binds .any e = true → listed.getD e.on false = true
  done : ∀ j o d, ops[j]? = some o → listed.getD j false = true → o.dst = some d → Φ j (a.tmps.getD d undef) w
  doneN : ∀ j o, ops[j]? = some o → listed.getD j false = true → o.dst = none → ∃ v, Φ j v w
  rest : ∀ d, (∀ j o, ops[j]? = some o → listed.getD j false = true → o.dst ≠ some d) → a.tmps[d]? = a0.tmps[d]?

theorem getD_set_ne' {listed : Array Bool} {i j : Nat} (h : i ≠ j) : (listed.setIfInBounds i true).getD j false = listed.getD j false := by
  simp [Array.getD_eq_getD_getElem?, Array.getElem?_setIfInBounds_ne h]
theorem getD_set_same {listed : Array Bool} {i : Nat} (h : i < listed.size) : (listed.setIfInBounds i true).getD i false = true := by
  simp [Array.getD_eq_getD_getElem?, h]

theorem runs_wp {o : Oper} {a : Act} {w : World} {K : Act → World → Prop} {R : Value → World → Prop} (hR : ∀ v w', R v w' → K (a.put o.dst v) w') (h : runsTo P R ((execOp a.eval o).run P w)) : o.wp P a w K Q := by
  unfold Oper.wp
  generalize (execOp a.eval o).run P w = r at h
  unfold runsTo at h
  split at h
  · exact hR _ _ h
  · exact hR _ _ h
  · refine Calls.mono h ?_
    rintro e w'' ⟨v, rfl, hr⟩
    exact hR _ _ hr
  · exact h.elim

theorem untB_spec {i d : Nat} (h : untB ops i d = true) (j : Nat) (o : Oper) (hj : ops[j]? = some o) (hd : o.dst = some d) : j = i ∨ ∃ e ∈ o.after, Region.binds .any e = true ∧ e.on = i := by
  have hlt := (Array.getElem?_eq_some_iff.1 hj).1
  have h1 := List.all_eq_true.1 h j (List.mem_range.2 hlt)
  simp only [dstOf, hj, Option.bind_some, hd, Bool.or_eq_true, beq_iff_eq, bne_self_eq_false, or_false, Bool.false_eq_true] at h1
  rcases h1 with h1 | h1
  · exact .inl h1
  · obtain ⟨e, he, hb⟩ := Array.any_eq_true'.1 h1
    simp only [Bool.and_eq_true, beq_iff_eq] at hb
    exact .inr ⟨e, he, hb.1, hb.2⟩
theorem growB_spec {n i : Nat} (h : growB ops n = true) {o : Oper} (ho : ops[i]? = some o) : (∀ e ∈ o.after, Region.binds .any e = true → e.on < i) ∧ ∀ d, o.dst = some d → d < n ∧ ∀ j o', ops[j]? = some o' → j ≠ i → o'.dst ≠ some d := by
  have hlt := (Array.getElem?_eq_some_iff.1 ho).1
  have h1 := List.all_eq_true.1 h i (List.mem_range.2 hlt)
  simp only [ho, Bool.and_eq_true] at h1
  refine ⟨fun e he hb => ?_, fun d hd => ?_⟩
  · have := Array.all_eq_true_iff_forall_mem.1 h1.1 e he
    simpa [hb] using this
  · have h2 := h1.2
    rw [hd] at h2
    simp only [Bool.and_eq_true, decide_eq_true_eq] at h2
    refine ⟨h2.1, fun j o' hj hne hd' => ?_⟩
    have h3 := List.all_eq_true.1 h2.2 j (List.mem_range.2 (Array.getElem?_eq_some_iff.1 hj).1)
    simp [dstOf, hj, hd', hne] at h3

theorem getD_both' {listed : Array Bool} {i : Nat} (h : listed.getD i true = false) : listed.getD i false = false ∧ i < listed.size := by
  rcases Nat.lt_or_ge i listed.size with h' | h'
  · simp [h'] at h ⊢; exact h
  · simp [Array.getElem?_eq_none h'] at h

theorem yielded_not {a : Act} {g d : Nat} {b : Bool} {u : Value} (hd : dstOf ops g = some d) (h : a.tmps.getD d undef = u) (hne : u ≠ .bool b) : (yielded ops a.tmps g == some b) = false := by
  rw [beq_eq_false_iff_ne]
  intro hy
  unfold yielded at hy
  unfold dstOf at hd
  rw [hd] at hy
  simp only [Option.bind_some] at hy
  split at hy
  · rename_i b' hb'
    injection hy with hy
    subst hy
    apply hne
    rw [← h, Array.getD_eq_getD_getElem?, hb']
    rfl
  · cases hy
theorem yielded_of {a : Act} {g d : Nat} {b : Bool} (hd : dstOf ops g = some d) (h : a.tmps.getD d undef = .bool b) : yielded ops a.tmps g = some b := by
  have hs : a.tmps[d]? = some (.bool b) := by
    rw [Array.getD_eq_getD_getElem?] at h
    cases ht : a.tmps[d]? with
    | none => rw [ht] at h; simp [undef] at h
    | some v => rw [ht] at h; simp at h; rw [h]
  unfold yielded
  unfold dstOf at hd
  rw [hd]
  simp [hs]

theorem step_inv {n i : Nat} {listed : Array Bool} {a : Act} {w : World} (hB : growB ops n = true) (hn : a0.tmps.size = n) (htr : ∀ A B C, G A B → G B C → G A C) (hmono : ∀ j v W W', Φ j v W → G W W' → Φ j v W') (hrefl : ∀ W, G W W)
    (hI : Inv ops G Φ a0 w0 listed a w) (hi : i ∈ Region.ready .any ops listed) (hs : GStep P ops G Φ a0 w0 i) : wpOp P ops Q i (fun a' w' => Inv ops G Φ a0 w0 (listed.setIfInBounds i true) a' w') a w := by
  obtain ⟨hun, o, ho, hall⟩ := mem_ready.1 hi
  obtain ⟨hun, hil⟩ := getD_both' hun
  obtain ⟨hB1, hB2⟩ := growB_spec hB ho
  have hnew : ∀ v w', G w w' → Φ i v w' → Inv ops G Φ a0 w0 (listed.setIfInBounds i true) (a.put o.dst v) w' := by
    intro v w' hg hv
    have hmon : ∀ j, listed.getD j false = true → (listed.setIfInBounds i true).getD j false = true := fun j hj => by
      by_cases hji : i = j
      · subst hji; exact getD_set_same hil
      · rw [getD_set_ne' hji]; exact hj
    refine ⟨htr _ _ _ hI.grow hg, by simpa using hI.lsize, ?_, ?_, ?_, ?_, ?_, ?_⟩
    · cases hd : o.dst <;> simp [Act.put, hI.size]
    · cases hd : o.dst <;> simp [Act.put, hI.defers]
    · intro j o' hj hl e he hb
      by_cases hji : i = j
      · subst hji
        obtain rfl : o = o' := by rw [ho] at hj; exact Option.some.inj hj
        exact hmon _ (hall e he hb)
      · rw [getD_set_ne' hji] at hl
        exact hmon _ (hI.closed j o' hj hl e he hb)
    · intro j o' d hj hl hd
      by_cases hji : i = j
      · subst hji
        obtain rfl : o = o' := by rw [ho] at hj; exact Option.some.inj hj
        have := (hB2 d hd).1
        rw [hd]
        have e : (a.put (some d) v).tmps.getD d undef = v := by
          simp only [Act.put, Array.getD_eq_getD_getElem?, Array.getElem?_setIfInBounds_self, hI.size, hn]
          rw [if_pos this]; rfl
        rw [e]
        exact hv
      · rw [getD_set_ne' hji] at hl
        have h1 := hmono _ _ _ _ (hI.done j o' d hj hl hd) hg
        cases hdo : o.dst with
        | none => simpa [Act.put] using h1
        | some e =>
          have hne : e ≠ d := by
            rintro rfl
            exact (hB2 e hdo).2 j o' hj (fun h => hji h.symm) hd
          have e1 : (a.put (some e) v).tmps.getD d undef = a.tmps.getD d undef := by
            simp only [Act.put, Array.getD_eq_getD_getElem?, Array.getElem?_setIfInBounds_ne hne]
          rw [e1]; exact h1
    · intro j o' hj hl hd
      by_cases hji : i = j
      · subst hji
        exact ⟨v, hv⟩
      · rw [getD_set_ne' hji] at hl
        obtain ⟨x, hx⟩ := hI.doneN j o' hj hl hd
        exact ⟨x, hmono _ _ _ _ hx hg⟩
    · intro d hd
      have h1 := hI.rest d fun j o' hj hl => hd j o' hj (hmon j hl)
      rw [← h1]
      cases hdo : o.dst with
      | none => rfl
      | some e =>
        have hne : e ≠ d := by
          rintro rfl
          exact hd i o ho (getD_set_same hil) hdo
        simp only [Act.put, Array.getElem?_setIfInBounds_ne hne]
  have hst := hs o ho a.eval w (fun _ => rfl) (fun _ => rfl) (fun _ => rfl) hI.grow ?_ ?_
  · unfold wpOp
    rw [ho]
    show if Region.wanted o (yielded ops a.tmps) = true then _ else _
    rcases hst with ⟨hw, hr⟩ | ⟨⟨g, b, u, d, hg, hd, hE, hne⟩, hu⟩
    · have hwt : Region.wanted o (yielded ops a.tmps) = true := by
        unfold Region.wanted
        rcases hw with hw | ⟨g, b, d, hg, hd, hE⟩
        · rw [hw]
        · rw [hg]
          simp [yielded_of hd hE]
      rw [if_pos hwt]
      exact .inl (runs_wp (fun v w' h => hnew v w' h.1 h.2) hr)
    · have hwt : Region.wanted o (yielded ops a.tmps) = false := by
        unfold Region.wanted
        rw [hg]
        exact yielded_not hd hE hne
      rw [hwt]
      simp only [Bool.false_eq_true, if_false]
      exact hnew undef w (hrefl w) hu
  · intro j d hd
    unfold depB at hd
    rw [ho] at hd
    simp only [Bool.and_eq_true, beq_iff_eq] at hd
    obtain ⟨e, he, hb⟩ := Array.any_eq_true'.1 hd.1
    simp only [Bool.and_eq_true, beq_iff_eq] at hb
    obtain ⟨oj, hoj, hdj⟩ := Option.bind_eq_some_iff.1 hd.2
    exact hI.done j oj d hoj (hb.2 ▸ hall e he hb.1) hdj
  · intro d hd
    have := hI.rest d fun j o' hj hl hdd => by
      rcases untB_spec hd j o' hj hdd with rfl | ⟨e, he, hb, hon⟩
      · rw [hun] at hl; cases hl
      · have := hI.closed j o' hj hl e he hb
        rw [hon, hun] at this; cases this
    show a.tmps.getD d undef = a0.tmps.getD d undef
    rw [Array.getD_eq_getD_getElem?, Array.getD_eq_getD_getElem?, this]

theorem all_of_ready {n : Nat} {listed : Array Bool} (hB : growB ops n = true) (hl : listed.size = ops.size) (hr : Region.ready .any ops listed = []) : ∀ i, i < ops.size → listed.getD i false = true := by
  intro i
  induction i using Nat.strongRecOn with
  | _ i ih =>
    intro hi
    cases hc : listed.getD i false with
    | true => rfl
    | false =>
      have ho : ops[i]? = some ops[i] := Array.getElem?_eq_getElem hi
      have : i ∈ Region.ready .any ops listed := by
        refine mem_ready.2 ⟨?_, ops[i], ho, fun e he hb => ?_⟩
        · have : i < listed.size := by omega
          simp [this] at hc ⊢
          exact hc
        · have h1 := (growB_spec hB ho).1 e he hb
          exact ih e.on h1 (by omega)
      rw [hr] at this
      cases this

theorem count_set {listed : Array Bool} {i : Nat} (h : listed.getD i true = false) : (listed.setIfInBounds i true).toList.count false + 1 = listed.toList.count false := by
  obtain ⟨h1, h2⟩ := getD_both' h
  have hi : i < listed.toList.length := by simpa using h2
  have hg : listed.toList[i] = false := by simp [h2] at h1; simpa using h1
  have hp : 0 < listed.toList.count false := List.count_pos_iff.2 (hg ▸ List.getElem_mem hi)
  rw [Array.toList_setIfInBounds, List.count_set hi, hg]
  simp
  have := hp
  rw [← Array.count_toList] 
  omega

theorem any_of_inv {n : Nat} (hB : growB ops n = true) (hn : a0.tmps.size = n) (htr : ∀ A B C, G A B → G B C → G A C) (hmono : ∀ j v W W', Φ j v W → G W W' → Φ j v W') (hrefl : ∀ W, G W W)
    (hs : ∀ i, i < ops.size → GStep P ops G Φ a0 w0 i) (hfin : ∀ W, G w0 W → fin Φ Q W ops.toList 0 a0) :
    ∀ (fuel : Nat) (listed : Array Bool) (a : Act) (w : World), Inv ops G Φ a0 w0 listed a w → listed.toList.count false ≤ fuel → wpAny P .any ops Q fuel listed a w := by
  have hend : ∀ (listed : Array Bool) (a : Act) (w : World), Inv ops G Φ a0 w0 listed a w → Region.ready .any ops listed = [] → Q .normal a w := by
    intro listed a w hI hr
    have hall := all_of_ready hB hI.lsize hr
    have hal : ∀ j o, ops[j]? = some o → listed.getD j false = true := fun j o hj => hall j (Array.getElem?_eq_some_iff.1 hj).1
    have hsame : putL (fun j => a.tmps.getD ((dstOf ops j).getD 0) undef) ops.toList 0 a0 = a := by
      refine putL_same (a := a) _ 0 a0 hI.size.symm hI.defers.symm ?_ ?_
      · intro j o d hj hd
        have hj' : ops[j]? = some o := by rw [← hj, Array.getElem?_toList]
        refine ⟨by rw [hI.size, hn]; exact ((growB_spec hB hj').2 d hd).1, ?_⟩
        have hdd : dstOf ops j = some d := by unfold dstOf; rw [hj']; exact hd
        simp [hdd]
      · intro d hd
        exact (hI.rest d fun j o hj _ => hd o (by rw [Array.mem_toList_iff]; exact Array.mem_of_getElem? hj)).symm
    rw [← hsame]
    refine fin_putL ops.toList 0 a0 (hfin w hI.grow) ?_ (fun j o hj hd => by
      have hj' : ops[j]? = some o := by rw [← hj, Array.getElem?_toList]
      simpa using hI.doneN j o hj' (hal j o hj') hd)
    intro j o d hj hd
    have hj' : ops[j]? = some o := by rw [← hj, Array.getElem?_toList]
    have hdd : dstOf ops j = some d := by unfold dstOf; rw [hj']; exact hd
    have := hI.done j o d hj' (hal j o hj') hd
    simpa [hdd] using this
  intro fuel
  induction fuel with
  | zero =>
    intro listed a w hI hc
    have hr : Region.ready .any ops listed = [] := by
      rw [List.eq_nil_iff_forall_not_mem]
      intro i hi
      have := count_set (mem_ready.1 hi).1
      omega
    exact ⟨hr, hend _ _ _ hI hr⟩
  | succ fuel ih =>
    intro listed a w hI hc
    refine ⟨hend _ _ _ hI, fun i hi => ?_⟩
    obtain ⟨h1, o, ho, _⟩ := mem_ready.1 hi
    refine wpOp_mono ?_ (step_inv hB hn htr hmono hrefl hI hi (hs i (Array.getElem?_eq_some_iff.1 ho).1))
    intro a' w' hI'
    exact ih _ a' w' hI' (by have := count_set h1; omega)
end

/-! The claims as a list. -/
def nth (L : List (Value → World → Prop)) (j : Nat) : Value → World → Prop := L.getD j fun _ _ => True
def MonoAll (G : World → World → Prop) : List (Value → World → Prop) → Prop
  | [] => True
  | φ :: r => (∀ v W W', φ v W → G W W' → φ v W') ∧ MonoAll G r
theorem mono_nth {G : World → World → Prop} : ∀ {L : List (Value → World → Prop)}, MonoAll G L → ∀ j v W W', nth L j v W → G W W' → nth L j v W'
  | [], _, _, _, _, _, _, _ => trivial
  | _ :: _, h, 0, v, W, W', h1, h2 => h.1 v W W' h1 h2
  | _ :: _, h, j + 1, v, W, W', h1, h2 => mono_nth h.2 j v W W' h1 h2
section
variable {P : Program} {ops : Array Oper} {Q : Exit → Act → World → Prop} {G : World → World → Prop} {Φ : Nat → Value → World → Prop} {a0 : Act} {w0 : World}
/-- One operation that has no guard. -/
theorem step_in {i : Nat} {o : Oper} (ho : ops.toList[i]? = some o) (hg : o.guard = none)
    (h : ∀ (E : Operand → Value) (W : World), (∀ v, E (.const v) = v) → (∀ g, E (.global g) = .pointer (some ⟨g, 0, none⟩)) → (∀ f, E (.func f) = .func (.func f) #[] #[]) → G w0 W →
      (∀ j d, depB ops i j d = true → Φ j (E (.tmp d)) W) → (∀ d, untB ops i d = true → E (.tmp d) = a0.eval (.tmp d)) → ∀ R : Value → World → Prop, Hid (∀ v W', G W W' → Φ i v W' → R v W') → runsTo P R ((execOp E o).run P W)) : GStep P ops G Φ a0 w0 i := by
  intro o' ho' E W h1 h2 h3 h4 h5 h6
  obtain rfl : o = o' := by rw [← Array.getElem?_toList, ho] at ho'; exact Option.some.inj ho'
  exact .inl ⟨.inl hg, h E W h1 h2 h3 h4 h5 h6 _ (Lib.hid fun _ _ a b => ⟨a, b⟩)⟩
/-- One operation whose guard holds. -/
theorem step_on {i g d : Nat} {b : Bool} {o : Oper} (ho : ops.toList[i]? = some o) (hg : o.guard = some (g, b)) (hd : dstOf ops g = some d) (hdep : depB ops i g d = true) (hb : ∀ v W, Φ g v W → v = .bool b)
    (h : ∀ (E : Operand → Value) (W : World), (∀ v, E (.const v) = v) → (∀ g, E (.global g) = .pointer (some ⟨g, 0, none⟩)) → (∀ f, E (.func f) = .func (.func f) #[] #[]) → G w0 W →
      (∀ j d, depB ops i j d = true → Φ j (E (.tmp d)) W) → (∀ d, untB ops i d = true → E (.tmp d) = a0.eval (.tmp d)) → ∀ R : Value → World → Prop, Hid (∀ v W', G W W' → Φ i v W' → R v W') → runsTo P R ((execOp E o).run P W)) : GStep P ops G Φ a0 w0 i := by
  intro o' ho' E W h1 h2 h3 h4 h5 h6
  obtain rfl : o = o' := by rw [← Array.getElem?_toList, ho] at ho'; exact Option.some.inj ho'
  exact .inl ⟨.inr ⟨g, b, d, hg, hd, hb _ _ (h5 g d hdep)⟩, h E W h1 h2 h3 h4 h5 h6 _ (Lib.hid fun _ _ a b => ⟨a, b⟩)⟩
/-- One operation whose guard doesn't hold. -/
theorem step_off {i g d : Nat} {b b' : Bool} {o : Oper} (ho : ops.toList[i]? = some o) (hg : o.guard = some (g, b)) (hd : dstOf ops g = some d) (hdep : depB ops i g d = true) (hb : ∀ v W, Φ g v W → v = .bool b') (hne : b' ≠ b)
    (h : ∀ W, Φ i undef W) : GStep P ops G Φ a0 w0 i := by
  intro o' ho' E W h1 h2 h3 h4 h5 h6
  obtain rfl : o = o' := by rw [← Array.getElem?_toList, ho] at ho'; exact Option.some.inj ho'
  exact .inr ⟨⟨g, b, .bool b', d, hg, hd, hb _ _ (h5 g d hdep), fun e => hne (by injection e)⟩, h W⟩
/-- One operation whose guard wasn't asked itself. -/
theorem step_far {i g d : Nat} {b : Bool} {o : Oper} (ho : ops.toList[i]? = some o) (hg : o.guard = some (g, b)) (hd : dstOf ops g = some d) (hdep : depB ops i g d = true) (hb : ∀ v W, Φ g v W → v = undef)
    (h : ∀ W, Φ i undef W) : GStep P ops G Φ a0 w0 i := by
  intro o' ho' E W h1 h2 h3 h4 h5 h6
  obtain rfl : o = o' := by rw [← Array.getElem?_toList, ho] at ho'; exact Option.some.inj ho'
  exact .inr ⟨⟨g, b, undef, d, hg, hd, hb _ _ (h5 g d hdep), fun e => by cases e⟩, h W⟩
theorem fin_dst {W : World} {o : Oper} {r : List Oper} {j : Nat} {a : Act} {d : Tmp} (hd : o.dst = some d) (h : ∀ v, Φ j v W → fin Φ Q W r (j + 1) (a.put (some d) v)) : fin Φ Q W (o :: r) j a := by
  unfold fin
  rw [hd]
  exact h
theorem fin_end {W : World} {j : Nat} {a : Act} (h : Q .normal a W) : fin Φ Q W [] j a := h
theorem fin_none {W : World} {o : Oper} {r : List Oper} {j : Nat} {a : Act} (hd : o.dst = none) (h : fin Φ Q W r (j + 1) a) : fin Φ Q W (o :: r) j a := by
  unfold fin
  rw [hd]
  exact fun _ => h
theorem fin_told {W : World} {o : Oper} {r : List Oper} {j : Nat} {a : Act} (hd : o.dst = none) (h : (∃ v, Φ j v W) → fin Φ Q W r (j + 1) a) : fin Φ Q W (o :: r) j a := by
  unfold fin
  rw [hd]
  exact h
end
theorem below_of_drew {w W : World} (h : Below w.drew.heap.size w.drew W) : Below w.heap.size w W := ⟨h.os, h.tape, h.output, h.size, h.block⟩
end Grow

/-- THE LAW. n: how many slots the frame has. -/
theorem wp_region_grow {P : Program} {ops : Array Oper} {Q : Exit → Act → World → Prop} {id : Nat} {a : Act} {w : World} (G : World → World → Prop) (Φ : Nat → Value → World → Prop) (n : Nat) (hm : P.follows .mixedOrders = true)
    (hB : Grow.growB ops n = true) (hn : a.tmps.size = n) (hrefl : ∀ W, G W W) (htr : ∀ A B C, G A B → G B C → G A C) (hmono : ∀ j v W W', Φ j v W → G W W' → Φ j v W')
    (hs : Grow.allBelow (Grow.GStep P ops G Φ a w.drew) ops.size) (hfin : ∀ W, G w.drew W → Grow.fin Φ Q W ops.toList 0 a) : (Code.region id ops true).wp P Q a w := by
  refine wp_region_any hm (Grow.any_of_inv hB hn htr hmono hrefl (Grow.allBelow_at hs) hfin ops.size _ a _ ⟨hrefl _, by simp, rfl, rfl, ?_, ?_, ?_, fun _ _ => rfl⟩ ?_)
  · intro j o hj hl
    simp at hl
    have := (Array.getElem?_eq_some_iff.1 hj).1
    simp [this] at hl
  · intro j o d hj hl
    have := (Array.getElem?_eq_some_iff.1 hj).1
    simp [this] at hl
  · intro j o hj hl
    have := (Array.getElem?_eq_some_iff.1 hj).1
    simp [this] at hl
  · simp
end Go.Proofs.Ytmmibldchfmleaa

/-! The law of drawn regions (Grow) where one old row may be written, once: 'Sto q o': of the old blocks only q may have turned, and it is as it was, or it is o. -/
namespace Go.Proofs.Ytmmibldchfmleaa
open Go.RowKit

structure Sto (q : Nat) (o : Obj) (W W' : World) : Prop where
  turned : Turned (· = q) W W'
  at_ : W'.heap[q]? = W.heap[q]? ∨ W'.heap[q]? = some o
section
variable {q : Nat} {o : Obj} {A B C : World}
theorem Sto.refl (q : Nat) (o : Obj) (W : World) : Sto q o W W := ⟨Turned.refl _ _, .inl rfl⟩
theorem Sto.trans (h : Sto q o A B) (k : Sto q o B C) : Sto q o A C :=
  ⟨h.turned.trans k.turned fun _ _ h => h, by
    rcases k.at_ with h1 | h1
    · rw [h1]; exact h.at_
    · exact .inr h1⟩
theorem Sto.of_below (h : Below A.heap.size A B) (hq : q < A.heap.size) : Sto q o A B := ⟨Turned.of_below h, .inl (h.block q hq)⟩
theorem Sto.keeps (h : Sto q o A B) (hA : A.heap[q]? = some o) : B.heap[q]? = some o := by
  rcases h.at_ with h1 | h1
  · rw [h1, hA]
  · exact h1
theorem Sto.lt (h : Sto q o A B) (hq : q < A.heap.size) : q < B.heap.size := Nat.lt_of_lt_of_le hq h.turned.size
theorem Sto.old {cs os : Array Value} {t : TypeId} (h : Sto q (.cells cs t (0, 0)) A B) (hA : A.heap[q]? = some (.cells os t (0, 0))) : ∃ ds, B.heap[q]? = some (.cells ds t (0, 0)) ∧ (ds = os ∨ ds = cs) := by
  rcases h.at_ with h1 | h1
  · exact ⟨os, h1.trans hA, .inl rfl⟩
  · exact ⟨cs, h1, .inr rfl⟩
theorem turned_setRow {w : World} {g : Nat} (cs : Array Value) : Turned (· = g) w (w.setRow g cs) :=
  ⟨rfl, rfl, rfl, by simp [World.setRow], fun k _ hk => by
    simp only [World.setRow, Array.getElem?_modify]
    rw [if_neg (fun e => hk e.symm)]⟩
theorem Sto.store {W : World} {cs os : Array Value} {t : TypeId} (h : W.heap[q]? = some (.cells os t (0, 0))) : Sto q (.cells cs t (0, 0)) W (W.setRow q cs) :=
  ⟨turned_setRow cs, .inr (setRow_at h)⟩
theorem Sto.of_drew (h : Sto q o A.drew B) : Sto q o A B := ⟨⟨h.turned.os, h.turned.tape, h.turned.output, h.turned.size, h.turned.block⟩, h.at_⟩
end

/-- What a store of a whole row comes to. -/
theorem runs_store {P : Program} {R : Value → World → Prop} {E : Operand → Value} {o : Oper} {W : World} (ty : TypeId) (x y : Operand) (ho : o.op = .store ty x y) (g : Nat) (cells : Array Value) (hx : E x = .pointer (some ⟨g, 0, none⟩)) (hy : E y = .agg cells)
    (t : TypeId) (old : Array Value) (hg : W.heap[g]? = some (.cells old t (0, 0))) (hi : (P.info? ty).map (·.size) = some cells.size) (hold : old.size = cells.size) (h1 : cells.all (·.oneCell') = true) (h : R undef (W.setRow g cells)) : Grow.runsTo P R ((execOp E o).run P W) := by
  unfold execOp
  simp only [ho, hx, hy, Instr.storeAt, Instr.sureAddr, Sem.run_bind, Sem.run_pure, Result.andThen_ok, run_storeVar_row W g t ty old cells hg hi hold h1]
  exact h
/-- What a load of a whole row comes to. -/
theorem runs_load {P : Program} {R : Value → World → Prop} {E : Operand → Value} {o : Oper} {W : World} {t e : TypeId} {n : Nat} (ty : TypeId) (x : Operand) (ho : o.op = .load ty x) (g : Nat) (hx : E x = .pointer (some ⟨g, 0, none⟩)) (cells : Array Value) (f : Nat × Nat) (hg : W.heap[g]? = some (.cells cells t f))
    (hu : P.underlying ty = some (.array n e)) (hi : (P.info? ty).map (·.size) = some cells.size) (h : R (.agg cells) W) : Grow.runsTo P R ((execOp E o).run P W) := by
  unfold execOp
  simp only [ho, hx, Instr.loadAt, Instr.sureAddr, Sem.run_bind, Sem.run_pure, Result.andThen_ok, run_loadVar_row W g t ty cells f _ hg hu rfl hi]
  exact h
end Go.Proofs.Ytmmibldchfmleaa

/-! Rows of the call's own that have room (append); arrays and structs that are read anywhere; slices with three bounds; returns of four results; what all orders of a region end in. -/
namespace Go.Proofs.Ytmmibldchfmleaa
open Go.RowKit

theorem own_byt_at {w : World} {B : Nat} {e : TypeId} {A : Option Addr} {n c : Nat} {l : List UInt8} (h : w.ownsRow B e 1 (.slice A n c) n (u8s l)) : Byt w (B ≤ ·) A n c l := by
  obtain ⟨A', c', hv, hY⟩ := own_byt h
  injection hv with h1 h2 h3
  subst h1 h3
  exact hY
theorem own_below {w w' : World} {base : Nat} {e : TypeId} {size : Nat} {v : Value} {n : Nat} {xs : List Value} (h : w.ownsRow base e size v n xs) (hb : Below w.heap.size w w') : w'.ownsRow base e size v n xs :=
  h.kept (row := none) ⟨hb.os, hb.tape, hb.output, hb.size, fun k hk _ => hb.block k hk⟩ (by cases v.ownBlock <;> simp)
theorem own_base {w : World} {base base' : Nat} {e : TypeId} {size : Nat} {v : Value} {n : Nat} {xs : List Value} (h : w.ownsRow base e size v n xs) (hb : base' ≤ base) : w.ownsRow base' e size v n xs := by
  refine ⟨h.1, ?_⟩
  rcases h.2 with hn | ⟨g, cap, cur, h1, h2, rest⟩
  · exact .inl hn
  · exact .inr ⟨g, cap, cur, h1, by omega, rest⟩
theorem below_of_gr {B : Nat} {a w w' : World} (h : Below B a w) (hg : w.grownBy w' (some B)) (hB : B ≤ w.heap.size) : Below B a w' := h.grown hg hB fun k e => by injection e; omega
/-- append of a slice that reads as bytes to a row of the call's own that has room. -/
theorem append_byt {W : World} {B g k cap : Nat} {xs : List Value} (hown : W.ownsRow B 5 1 (.slice (some ⟨g, 0, none⟩) k cap) k xs) {S : Nat → Prop} {A : Option Addr} {n c : Nat} {l : List UInt8} (h : Byt W S A n c l) (hr : k + n ≤ cap) (ty : TypeId) :
    ∃ W', (Builtin.append_ #[49, 49] ty #[.slice (some ⟨g, 0, none⟩) k cap, .slice A n c]).run Try.prog W = .ok (.slice (some ⟨g, 0, none⟩) (k + n) cap) W' ∧ W'.ownsRow B 5 1 (.slice (some ⟨g, 0, none⟩) (k + n) cap) (k + n) (xs ++ u8s l) ∧ W.grownBy W' (some g) := by
  obtain ⟨i0, hi, hz0, hz1, hz2⟩ := info_parts u8_info
  rcases A with _ | ad
  · obtain rfl : n = 0 := by
      rcases Nat.eq_zero_or_pos n with h0 | h0
      · exact h0
      · obtain ⟨_, _, hA, _⟩ := h.row h0
        cases hA
    obtain rfl : l = [] := List.eq_nil_of_length_eq_zero h.len
    exact ⟨W, run_append_zero W 49 ty 5 i0 Try.underlying49 hi _ k cap c (by omega), by simpa [u8s] using hown, World.grownBy.refl _ _⟩
  · exact run_append_fits W B 49 ty 5 i0 1 Try.underlying49 hi hz1 g k cap xs hown ad n c (u8s l) (by rw [u8s_length, h.len, Nat.mul_one]) (byt_news h) (u8s_one l) hr
theorem eff_app {P : Program} {ops : Array Oper} {Q : Exit → Act → World → Prop} {i : Nat} {o : Oper} {K : Act → World → Prop} {a : Act} {w : World} (ho : ops.toList[i]? = some o) (hgd : o.guard = none) (s x : Operand) (t : TypeId)
    (hop : o.op = .call { callee := .builtin .append, args := #[s, x], argTypes := #[t, t] }) {v u v' : Value} {w' : World} (hs : a.eval s = v) (hx : a.eval x = u)
    (hrun : (Builtin.append_ #[t, t] o.type #[v, u]).run P w = .ok v' w') (h : K (a.put o.dst v') w') : wpOp P ops Q i K a w :=
  eff_step ho fun K' hK' => by
    rw [if_pos (by unfold Region.wanted; rw [hgd])]
    unfold Oper.wp execOp
    simp only [hop, resolve, invoke, builtin, Sem.run_bind, Sem.run_pure, Result.andThen_ok, List.map_toArray, List.map_cons, List.map_nil, hs, hx, hrun]
    exact hK' _ _ h
theorem wpList_app {P : Program} {ops : Array Oper} {rest : List Oper} {o : Oper} {a : Act} {Q : Exit → Act → World → Prop} {w w' : World} (hgd : o.guard = none) (s x : Operand) (t : TypeId)
    (hop : o.op = .call { callee := .builtin .append, args := #[s, x], argTypes := #[t, t] }) {v u v' : Value} (hs : a.eval s = v) (hx : a.eval x = u)
    (hrun : (Builtin.append_ #[t, t] o.type #[v, u]).run P w = .ok v' w') (h : wpList P ops Q rest (a.put o.dst v') w') : wpList P ops Q (o :: rest) a w :=
  wpList_plain hgd fun _ hK => by
    unfold Oper.wp execOp
    simp only [hop, resolve, invoke, builtin, Sem.run_bind, Sem.run_pure, Result.andThen_ok, List.map_toArray, List.map_cons, List.map_nil, hs, hx, hrun]
    exact hK _ _ h
theorem exec_load_row {P : Program} {E : Operand → Value} {o : Oper} {W : World} {t e : TypeId} {n : Nat} (ty : TypeId) (x : Operand) (ho : o.op = .load ty x) (g : Nat) (hx : E x = .pointer (some ⟨g, 0, none⟩)) (cells : Array Value) (f : Nat × Nat) (hg : W.heap[g]? = some (.cells cells t f))
    (hu : P.underlying ty = some (.array n e)) (hi : (P.info? ty).map (·.size) = some cells.size) : (execOp E o).run P W = .ok (.value (.agg cells)) W := by
  unfold execOp
  simp only [ho, hx, Instr.loadAt, Instr.sureAddr, Sem.run_bind, Sem.run_pure, Result.andThen_ok, run_loadVar_row W g t ty cells f _ hg hu rfl hi]
/-- s[l:h:m] -/
theorem run_lhm {P : Program} (t e : TypeId) (ht : P.underlying t = some (.slice e)) (hz : ∀ w, (Go.sizeOf e).run P w = .ok 1 w) (A : Option Addr) (n c l h m : Nat) (li hi mi : Int) (el : li = (l : Int)) (eh : hi = (h : Int)) (em : mi = (m : Int)) (h1 : l ≤ h) (h2 : h ≤ m) (h3 : m ≤ c) (W : World) :
    (Instr.slice t (.slice A n c) (some (.int .i64 li)) (some (.int .i64 hi)) (some (.int .i64 mi))).run P W = .ok (.slice (cutA A m l) (h - l) (m - l)) W := by
  have ht' : P.underlying t = some (.slice (P.elem t)) := by simp [Program.elem, ht]
  have he : P.elem t = e := by simp [Program.elem, ht]
  subst el eh em
  rw [run_slice_lhm W t A n c ht' .i64 .i64 .i64 (l : Int) (h : Int) (m : Int) (by omega) (by omega) (by omega) (by omega), he, hz]
  simp [Result.andThen, sliced, cutA]
/-- An array or a struct that is read anywhere. -/
theorem run_loadVar_at {P : Program} (w : World) (ad : Addr) (ty : TypeId) (cs : Array Value) (d : TypeDesc) (hc : ∀ j v, cs[j]? = some v → w.cell? (ad.add j) = some v)
    (hu : P.underlying ty = some d) (hd : (match d with | .struct _ | .array _ _ => true | _ => false) = true) (hi : (P.info? ty).map (·.size) = some cs.size) :
    (loadVar ty ad).run P w = .ok (.agg cs) w := by
  have hl : (loadCells ad cs.toList.length).run P w = .ok cs.toList.toArray w :=
    run_loadCells_list (P := P) w ad cs.toList (fun j v hv => hc j v (by simpa using hv))
  cases hq : P.info? ty with
  | none => simp [hq] at hi
  | some i =>
    have hs : i.size = cs.size := by simpa [hq] using hi
    have hagg : (isAgg ty).run P w = .ok true w := by
      unfold isAgg
      rw [Sem.run_bind, run_underlying hu w]
      cases d <;> simp_all
    simp only [Array.length_toList, Array.toArray_toList] at hl
    simp [loadVar, Sem.run_bind, hagg, sizeOf, typeInfo, hq, hs, hl]
theorem runs_load_at {P : Program} {R : Value → World → Prop} {E : Operand → Value} {o : Oper} {W : World} {e : TypeId} {n : Nat} (ty : TypeId) (x : Operand) (ho : o.op = .load ty x) (ad : Addr) (hx : E x = .pointer (some ad)) (cells : Array Value) (hc : ∀ j v, cells[j]? = some v → W.cell? (ad.add j) = some v)
    (hu : P.underlying ty = some (.array n e)) (hi : (P.info? ty).map (·.size) = some cells.size) (h : R (.agg cells) W) : Grow.runsTo P R ((execOp E o).run P W) := by
  unfold execOp
  simp only [ho, hx, Instr.loadAt, Instr.sureAddr, Sem.run_bind, Sem.run_pure, Result.andThen_ok, run_loadVar_at W ad ty cells _ hc hu rfl hi]
  exact h
/-- What T{..} comes to, its value by a closed fact. -/
theorem runs_build {P : Program} {R : Value → World → Prop} {E : Operand → Value} {o : Oper} {W : World} (t : TypeId) (parts : Array (Nat × Operand)) (ho : o.op = .build t parts) (vs : List (Nat × Value)) (hv : (parts.map fun (i, x) => (i, E x)).toList = vs)
    (cells : Array Value) (hb : P.built t vs = some cells) (h : R (.agg cells) W) : Grow.runsTo P R ((execOp E o).run P W) := by
  have hr : (Instr.build t (parts.map fun (i, x) => (i, E x))).run P W = .ok (.agg cells) W := run_build W t _ cells (by rw [hv]; exact hb)
  unfold execOp
  simp only [ho, Sem.run_bind, hr, Result.andThen_ok, Sem.run_pure]
  exact h
theorem results_tmp4 {fn : Func} {t u v x : Tmp} (h : fn.results = #[.tmp t, .tmp u, .tmp v, .tmp x]) (tmps : Array Value) (P : Program) (w : World) :
    (results fn tmps).run P w = .ok (.tuple #[tmps.getD t undef, tmps.getD u undef, tmps.getD v undef, tmps.getD x undef]) w := by
  simp [results, h]
theorem wp_via {P : Program} {Q : Exit → Act → World → Prop} {c : Code} {a : Act} {w : World} (R : Act → World → Prop) (h : c.wp P (fun e a w => e = .normal ∧ R a w) a w) (k : ∀ a w, R a w → Q .normal a w) : c.wp P Q a w :=
  wp_mono h fun e a w hr => by
    obtain ⟨rfl, hr⟩ := hr
    exact k _ _ hr
theorem setRow_ne (w : World) (g k : Nat) (cs : Array Value) (h : k ≠ g) : (w.setRow g cs).heap[k]? = w.heap[k]? := by
  simp only [World.setRow, Array.getElem?_modify]
  rw [if_neg (fun e => h e.symm)]
/-- A load of a whole row by an operation whose guard says yes. -/
theorem wpList_load_row_on {P : Program} {ops : Array Oper} {rest : List Oper} {o : Oper} {a : Act} {w : World} {Q : Exit → Act → World → Prop} (hw : Region.wanted o (yielded ops a.tmps) = true) (ty : TypeId) (x : Operand) (ho : o.op = .load ty x)
    (g : Nat) (hx : a.eval x = .pointer (some ⟨g, 0, none⟩)) (t : TypeId) (cs : Array Value) (fr : Nat × Nat) (d : TypeDesc) (hg : w.heap[g]? = some (.cells cs t fr))
    (hu : P.underlying ty = some d) (hd : (match d with | .struct _ | .array _ _ => true | _ => false) = true) (hi : (P.info? ty).map (·.size) = some cs.size)
    (h : wpList P ops Q rest (a.put o.dst (.agg cs)) w) : wpList P ops Q (o :: rest) a w := by
  unfold wpList
  rw [if_pos hw]
  exact .inl (wp_load_row ty x ho g hx t cs fr d hg hu hd hi h)
/-- T{..}, its value by a closed fact, by an operation whose guard says yes. -/
theorem wpList_built_on {P : Program} {ops : Array Oper} {rest : List Oper} {o : Oper} {a : Act} {w : World} {Q : Exit → Act → World → Prop} (hw : Region.wanted o (yielded ops a.tmps) = true) (t : TypeId) (parts : Array (Nat × Operand)) (ho : o.op = .build t parts)
    (vs : List (Nat × Value)) (hv : (parts.map fun (i, x) => (i, a.eval x)).toList = vs) (Z : Array Value) (hb : P.built t vs = some Z) (h : wpList P ops Q rest (a.put o.dst (.agg Z)) w) : wpList P ops Q (o :: rest) a w := by
  unfold wpList
  rw [if_pos hw]
  refine .inl (wp_build t parts ho (by rw [hv, hb]; rfl) ?_)
  rw [hv, hb]
  exact h
/-- A struct that is read anywhere. -/
theorem wpList_load_at {P : Program} {ops : Array Oper} {rest : List Oper} {o : Oper} {a : Act} {w : World} {Q : Exit → Act → World → Prop} (hgd : o.guard = none) (ty : TypeId) (x : Operand) (ho : o.op = .load ty x) (ad : Addr) (hx : a.eval x = .pointer (some ad)) (cs : Array Value) (d : TypeDesc)
    (hc : ∀ (j : Nat) (v : Value), cs[j]? = some v → w.cell? (ad.add j) = some v) (hu : P.underlying ty = some d) (hd : (match d with | .struct _ | .array _ _ => true | _ => false) = true) (hi : (P.info? ty).map (·.size) = some cs.size)
    (h : wpList P ops Q rest (a.put o.dst (.agg cs)) w) : wpList P ops Q (o :: rest) a w :=
  wpList_plain hgd fun K hK => by
    unfold Oper.wp execOp
    simp only [ho, hx, Instr.loadAt, Instr.sureAddr, Sem.run_bind, Sem.run_pure, Result.andThen_ok, run_loadVar_at w ad ty cs d hc hu hd hi]
    exact hK _ _ h
end Go.Proofs.Ytmmibldchfmleaa

/-! A slice of digests (arrays of 32 bytes) that reads as a list of rows of bytes; how one that came in is opened. -/
namespace Go.Proofs.Ytmmibldchfmleaa
open Go.ChangeShapes Go.WideShapes Go.ChangeAt Go.RowKit Go.Deep

/-- THE SLICE VALUE '.slice A n c' OF DIGESTS READS AS l; its row, if it has any, lies in a block of S. -/
structure Ids (w : World) (S : Nat → Prop) (A : Option Addr) (n c : Nat) (l : List (List UInt8)) : Prop where
  len : l.length = n
  each : ∀ x ∈ l, x.length = 32
  cap : n ≤ c
  max : c ≤ maxLen
  row : 0 < n → ∃ b off, A = some ⟨b, off, none⟩ ∧ S b ∧ b < w.heap.size ∧ ∀ i j, i < n → j < 32 → w.cell? ⟨b, off + (i * 32 + j), none⟩ = some (.int .u8 (((l[i]?.getD [])[j]?.getD 0).toNat : Int))
section
variable {w w' : World} {S T : Nat → Prop} {A : Option Addr} {n c : Nat} {l : List (List UInt8)}
theorem Ids.below (h : Ids w S A n c l) (hb : Below w.heap.size w w') : Ids w' S A n c l :=
  ⟨h.len, h.each, h.cap, h.max, fun h0 => by
    obtain ⟨b, off, hA, hS, hlt, hc⟩ := h.row h0
    exact ⟨b, off, hA, hS, Nat.lt_of_lt_of_le hlt hb.size, fun i j hi hj => (hb.cell (p := ⟨_, _, none⟩) hlt).trans (hc i j hi hj)⟩⟩
theorem Ids.turned (h : Ids w S A n c l) (ht : Turned T w w') (hd : ∀ b, b < w.heap.size → S b → ¬ T b) : Ids w' S A n c l :=
  ⟨h.len, h.each, h.cap, h.max, fun h0 => by
    obtain ⟨b, off, hA, hS, hlt, hc⟩ := h.row h0
    exact ⟨b, off, hA, hS, Nat.lt_of_lt_of_le hlt ht.size, fun i j hi hj => (World.cell?_of_block (w := w) (a := ⟨b, off + (i * 32 + j), none⟩) (ht.block b hlt (hd b hlt hS))).trans (hc i j hi hj)⟩⟩
theorem Ids.mono (h : Ids w S A n c l) (hT : ∀ b, b < w.heap.size → S b → T b) : Ids w T A n c l :=
  ⟨h.len, h.each, h.cap, h.max, fun h0 => by
    obtain ⟨b, off, hA, hS, hlt, hc⟩ := h.row h0
    exact ⟨b, off, hA, hT b hlt hS, hlt, hc⟩⟩
theorem Ids.drew (h : Ids w S A n c l) : Ids w.drew S A n c l := ⟨h.len, h.each, h.cap, h.max, h.row⟩
theorem Ids.drewN (h : Ids w S A n c l) (k : Nat) : Ids (w.drewN k) S A n c l := ⟨h.len, h.each, h.cap, h.max, h.row⟩
theorem Ids.nil (w : World) (S : Nat → Prop) (A : Option Addr) (c : Nat) (hc : c ≤ maxLen) : Ids w S A 0 c [] := ⟨rfl, by simp, Nat.zero_le _, hc, fun h => absurd h (by omega)⟩
/-- One of them, as a row of bytes. -/
theorem Ids.at_ (h : Ids w S A n c l) {i : Nat} (hi : i < n) : ∃ b off, A = some ⟨b, off, none⟩ ∧ b < w.heap.size ∧ (l[i]?.getD []).length = 32 ∧ ∀ j v, (row8 (l[i]?.getD []))[j]? = some v → w.cell? ((⟨b, off + i * 32, none⟩ : Addr).add j) = some v := by
  obtain ⟨b, off, hA, _, hlt, hc⟩ := h.row (by omega)
  have hil : i < l.length := by rw [h.len]; exact hi
  have h32 : (l[i]?.getD []).length = 32 := by
    rw [List.getElem?_eq_getElem hil]
    exact h.each _ (List.getElem_mem hil)
  refine ⟨b, off, hA, hlt, h32, fun j v hj => ?_⟩
  have hjl : j < 32 := by
    have := (Array.getElem?_eq_some_iff.1 hj).1
    rwa [row8_size, h32] at this
  rw [add_plain, Nat.add_assoc, hc i j hi hjl, ← hj, row8, List.getElem?_toArray]
  generalize l[i]?.getD [] = x at *
  simp [u8s, show j < x.length by omega]
end
/-- Digests one behind the other, as cells. -/
def idsC (l : List (List UInt8)) : List Value := u8s l.flatten
theorem flatten_length32 : ∀ {l : List (List UInt8)}, (∀ x ∈ l, x.length = 32) → l.flatten.length = l.length * 32
  | [], _ => rfl
  | a :: l, h => by
    rw [List.flatten_cons, List.length_append, h a (by simp), flatten_length32 (fun x hx => h x (by simp [hx])), List.length_cons]
    omega
theorem flatten_at32 : ∀ {l : List (List UInt8)}, (∀ x ∈ l, x.length = 32) → ∀ i j, i < l.length → j < 32 → l.flatten[i * 32 + j]? = (l[i]?.getD [])[j]?
  | [], _, _, _, h, _ => absurd h (by simp)
  | a :: l, h, i, j, hi, hj => by
    have ha := h a (by simp)
    have hl : ∀ x ∈ l, x.length = 32 := fun x hx => h x (by simp [hx])
    rw [List.flatten_cons]
    cases i with
    | zero => rw [List.getElem?_append_left (by omega)]; simp
    | succ i =>
      rw [List.getElem?_append_right (by omega), show (i + 1) * 32 + j - a.length = i * 32 + j by omega, flatten_at32 hl i j (by simpa using hi) hj]
      simp
/-- A row of the call's own reads as digests. -/
theorem own_ids {w : World} {B : Nat} {e : TypeId} {v : Value} {n : Nat} {l : List (List UInt8)} (h : w.ownsRow B e 32 v n (idsC l)) (hl : ∀ x ∈ l, x.length = 32) : ∃ A c, v = .slice A n c ∧ Ids w (B ≤ ·) A n c l := by
  have hn : l.length = n := by
    have := h.1
    rw [idsC, u8s_length, flatten_length32 hl] at this
    omega
  rcases h.2 with ⟨rfl, h2⟩ | ⟨g, cap, cur, rfl, hb, hg, hnc, hm, _, _⟩
  · have : n = 0 := by
      have := h.1
      rw [h2] at this
      simp at this
      omega
    subst this
    obtain rfl : l = [] := List.eq_nil_of_length_eq_zero hn
    exact ⟨none, 0, rfl, Ids.nil _ _ _ _ (Nat.zero_le _)⟩
  · refine ⟨_, cap, rfl, hn, hl, hnc, hm, fun _ => ⟨g, 0, rfl, hb, (Array.getElem?_eq_some_iff.1 hg).1, fun i j hi hj => ?_⟩⟩
    have hil : i < l.length := by omega
    have hx : (l[i]?.getD []).length = 32 := by
      rw [List.getElem?_eq_getElem hil]
      exact hl _ (List.getElem_mem hil)
    have hf := flatten_at32 hl i j hil hj
    have := h.cells (g := g) rfl (i * 32 + j) (.int .u8 (((l[i]?.getD [])[j]?.getD 0).toNat : Int)) (by
      rw [idsC, u8s, List.getElem?_map, hf]
      generalize l[i]?.getD [] = x at *
      simp [show j < x.length by omega])
    rw [add_plain] at this
    exact this
/-- Digests that came in. -/
theorem ids_in {P : Program} {w : World} {H : Type} {enc : TypeId × Value → H} {base : Nat} {spare : Nat → Bool} {held : Bool} {t e b8 : TypeId} {a : Option Addr} {len cap : Nat} {d : DataW H} {p : List MemPlace}
    (ht : P.underlying t = some (.slice e)) (he : P.underlying e = some (.array 32 b8)) (hb : P.underlying b8 = some (.int .u8)) (hc1 : P.cellsOf b8 = 1) (hce : P.cellsOf e = 32)
    (hs : spare = fun _ => true) (h : DataW.Trod enc P w base spare held t (.slice a len cap) d p) : ∃ l, Ids w (fun _ => True) a len cap l := by
  subst hs
  obtain ⟨fuel, hf⟩ := h
  rcases open_slice ht hf with ⟨hcs, _⟩ | ⟨x, l, c, m, n, D, Pl, hcs, _, hl, hm, hmm, _, hi⟩
  · simp [Value.cells] at hcs
    obtain ⟨rfl, rfl, rfl⟩ := hcs
    exact ⟨[], Ids.nil _ _ _ _ (Nat.zero_le _)⟩
  · simp [Value.cells] at hcs
    obtain ⟨rfl, rfl, rfl⟩ := hcs
    rw [hce] at hi
    simp only [if_true] at hmm
    have one : ∀ i, ∃ q : List UInt8, i < len → q.length = 32 ∧ ∀ j, j < 32 → w.cell? ((x.add (i * 32)).add j) = some (.int .u8 ((q[j]?.getD 0).toNat : Int)) := fun i => by
      by_cases him : i < len
      · obtain ⟨cs', hc, htr⟩ := hi i (by omega)
        obtain ⟨_, hcl, hat⟩ := World.cells?_some hc
        obtain ⟨q, hq, hql⟩ := arr_in (P := P) (w := w) (enc := enc) (base := base) (held := held) (cs := cs'.toArray) he hb hc1 hce ⟨_, by simpa [Value.cells] using htr⟩
        refine ⟨q, fun _ => ⟨hql, fun j hj => ?_⟩⟩
        have hcj := hat j (by omega)
        have he2 : cs' = u8s q := by
          have := congrArg Array.toList hq
          simpa [row8] using this
        rw [hcj]
        subst he2
        simp [u8s, show j < q.length by omega]
      · exact ⟨[], fun h => absurd h him⟩
    obtain ⟨f, hf⟩ := Classical.skolem.1 one
    refine ⟨(List.range len).map f, by simp, fun y hy => ?_, hl, hm, fun h0 => ?_⟩
    · obtain ⟨i, hi, rfl⟩ := List.mem_map.1 hy
      exact (hf i (List.mem_range.1 hi)).1
    · obtain ⟨b, off, spot⟩ := x
      have hc0 := (hf 0 h0).2 0 (by omega)
      have hspot : spot = none := by simpa [Addr.add] using World.cell?_spot hc0
      subst hspot
      have hlt := World.block_lt_of_cell? _ _ hc0
      rw [add_plain, add_plain] at hlt
      refine ⟨b, off, rfl, trivial, hlt, fun i j hil hj => ?_⟩
      have h1 := (hf i hil).2 j hj
      rw [add_plain, add_plain, Nat.add_assoc] at h1
      rw [h1]
      simp [hil]
end Go.Proofs.Ytmmibldchfmleaa

/-! A digest (32 bytes): its size, its zero value. -/
namespace Go.Proofs.Ytmmibldchfmleaa
open Go.RowKit

theorem id_info : (Try.prog.info? 31).map (·.size) = some 32 := by kernel_rfl
def zerosId : Array Value := (u8s (List.replicate 32 0)).toArray
theorem zero_id : ∀ W, (zeroValue 31).run Try.prog W = .ok (.agg zerosId) W := fun W => by unfold zerosId; kernel_rfl
end Go.Proofs.Ytmmibldchfmleaa

/-! A row of digests of the call's own, filled one by one. -/
namespace Go.Proofs.Ytmmibldchfmleaa
open Go.RowKit

theorem set_flat : ∀ {l : List (List UInt8)} (_ : ∀ x ∈ l, x.length = 32) (i : Nat) (_ : i < l.length) (d : List UInt8) (_ : d.length = 32), (l.set i d).flatten = l.flatten.take (i * 32) ++ d ++ l.flatten.drop (i * 32 + 32)
  | [], _, _, h, _, _ => absurd h (by simp)
  | a :: l, hl, 0, _, d, hd => by
    have ha := hl a (by simp)
    simp [ha, List.take_append]
  | a :: l, hl, i + 1, h, d, hd => by
    have ha := hl a (by simp)
    have ih := set_flat (l := l) (fun x hx => hl x (by simp [hx])) i (by simpa using h) d hd
    rw [List.set_cons_succ, List.flatten_cons, ih, List.flatten_cons, List.take_append, List.drop_append, ha, List.take_of_length_le (by omega : a.length ≤ (i + 1) * 32), List.drop_of_length_le (by omega : a.length ≤ (i + 1) * 32 + 32), show (i + 1) * 32 - 32 = i * 32 by omega, show (i + 1) * 32 + 32 - 32 = i * 32 + 32 by omega]
    simp
theorem set_len32 {l : List (List UInt8)} (hl : ∀ x ∈ l, x.length = 32) (i : Nat) {d : List UInt8} (hd : d.length = 32) : ∀ x ∈ l.set i d, x.length = 32 := fun x hx => by
  rcases List.mem_or_eq_of_mem_set hx with h | h
  · exact hl x h
  · rw [h, hd]
/-- A block that holds digests. -/
def IdBlk (w : World) (g : Nat) (l : List (List UInt8)) : Prop := w.heap[g]? = some (.cells (row8 l.flatten) 31 (0, 0)) ∧ ∀ x ∈ l, x.length = 32
theorem IdBlk.lt {w : World} {g : Nat} {l : List (List UInt8)} (h : IdBlk w g l) : g < w.heap.size := lt_of_cells h.1
theorem IdBlk.below {w w' : World} {g : Nat} {l : List (List UInt8)} (h : IdBlk w g l) (hb : Below w.heap.size w w') : IdBlk w' g l := ⟨(hb.block _ h.lt).trans h.1, h.2⟩
theorem run_store_id {w : World} {g : Nat} {l : List (List UInt8)} (h : IdBlk w g l) (i : Nat) (hi : i < l.length) (DS : Array Value) (d : List UInt8) (hDS : DS = row8 d) (hd : d.length = 32) (o : Nat) (ho : o = i * 32) :
    (Instr.storeAt 31 (.pointer (some ⟨g, o, none⟩)) (.agg DS)).run Try.prog w = .ok () (w.setRow g (row8 (l.set i d).flatten)) ∧ IdBlk (w.setRow g (row8 (l.set i d).flatten)) g (l.set i d) := by
  subst hDS ho
  have hfl := flatten_length32 h.2
  have hst := run_storeCells_at (P := Try.prog) g (i * 32) 31 (u8s d) 0 (row8 l.flatten) w h.1 (by rw [row8_size, hfl, u8s_length, hd]; omega) (u8s_one d)
  have e : ((row8 l.flatten).toList.take (i * 32 + 0) ++ u8s d ++ (row8 l.flatten).toList.drop (i * 32 + 0 + (u8s d).length)).toArray = row8 (l.set i d).flatten := by
    rw [set_flat h.2 i hi d hd, u8s_length, hd]
    simp [row8, u8s, List.map_take, List.map_drop]
  rw [e] at hst
  refine ⟨?_, setRow_at h.1, set_len32 h.2 i hd⟩
  have hq := id_info
  cases hi2 : Try.prog.info? 31 with
  | none => simp [hi2] at hq
  | some inf =>
    have hsz : inf.size = 32 := by simpa [hi2] using hq
    have hrs : (row8 d).size = 32 := by rw [row8_size, hd]
    have hl2 : (row8 d).toList = u8s d := by simp [row8]
    simp [Instr.storeAt, Instr.sureAddr, Sem.run_bind, storeVar, sizeOf, typeInfo, hi2, hsz, Value.cells, hrs, hl2, hst, Result.andThen]
theorem wpList_store_id {ops : Array Oper} {rest : List Oper} {op : Oper} {a : Act} {w : World} {Q : Exit → Act → World → Prop} (hgd : op.guard = none) (x y : Operand) (ho : op.op = .store 31 x y)
    {g : Nat} {l : List (List UInt8)} (h : IdBlk w g l) (i : Nat) (hi : i < l.length) (DS : Array Value) (d : List UInt8) (hDS : DS = row8 d) (hd : d.length = 32) (o : Nat) (hoo : o = i * 32)
    (hx : a.eval x = .pointer (some ⟨g, o, none⟩)) (hy : a.eval y = .agg DS)
    (hK : ∀ w', IdBlk w' g (l.set i d) → w.grownBy w' (some g) → wpList Try.prog ops Q rest (a.put op.dst undef) w') : wpList Try.prog ops Q (op :: rest) a w :=
  wpList_plain hgd fun K hK' => by
    obtain ⟨hr, hb⟩ := run_store_id h i hi DS d hDS hd o hoo
    have hg : w.grownBy (w.setRow g (row8 (l.set i d).flatten)) (some g) := ⟨rfl, rfl, rfl, by simp [World.setRow], fun k _ hk => setRow_ne _ _ _ _ (fun e => hk (by rw [e]))⟩
    unfold Oper.wp execOp
    simp only [ho, hx, hy, Sem.run_bind, hr, Result.andThen_ok, Sem.run_pure]
    exact hK' _ _ (hK _ hb hg)
theorem id_info3 : (Try.prog.info? 31).map (fun i => (i.zero, i.size, i.bytes)) = some (some (.agg zerosId), 32, 32) := by unfold zerosId; kernel_rfl
theorem zerosId_at (k : Nat) (hk : k < 32) : zerosId[k]! = .int .u8 0 := by
  have h : zerosId[k]? = some (.int .u8 0) := by
    unfold zerosId
    rw [List.getElem?_toArray, u8s, List.map_replicate, List.getElem?_replicate, if_pos hk]
    rfl
  simp [getElem!_def, h]
theorem made_ids (n : Nat) : madeCells (Value.agg zerosId).cells (n * 32) = row8 (List.replicate n (List.replicate 32 0)).flatten := by
  have hz : (Value.agg zerosId).cells = zerosId := rfl
  have hs : zerosId.size = 32 := by unfold zerosId; simp [u8s_length]
  rw [List.flatten_replicate_replicate, hz]
  apply Array.toList_inj.1
  apply List.ext_getElem
  · simp [madeCells, row8, u8s_length]
  · intro i h1 h2
    have : i % 32 < 32 := Nat.mod_lt _ (by decide)
    simp [madeCells, row8, u8s, hs, zerosId_at _ this]
/-- make([]api.Id, n) -/
theorem make_ids (w : World) (n : Nat) (h : n ≤ 1000000) : ∃ w', (Instr.makeSlice 55 (.int .i64 (n : Int)) (.int .i64 (n : Int))).run Try.prog w = .ok (.slice (some ⟨w.heap.size, 0, none⟩) n n) w' ∧ IdBlk w' w.heap.size (List.replicate n (List.replicate 32 0)) ∧ Below w.heap.size w w' ∧ w'.heap.size = w.heap.size + 1 := by
  obtain ⟨i0, hi, hz0, hz1, hz2⟩ := info_parts id_info3
  have hmk := run_make (P := Try.prog) (t := 55) (e := 31) w i0 (.agg zerosId) Try.underlying55 hi hz0 .i64 .i64 (n : Int) (n : Int) (by omega) (by omega) (by rw [hz2]; omega) (by omega)
  refine ⟨_, hmk, ⟨?_, ?_⟩, (Below.refl _ _).alloc (Nat.le_refl _) _, by simp⟩
  · have := heap_alloc_new w (.cells (madeCells (Value.agg zerosId).cells ((n : Int).toNat * i0.size)) 31)
    rw [hz1, Int.toNat_natCast, made_ids] at this
    rw [hz1, Int.toNat_natCast, made_ids]
    exact this
  · intro x hx
    rw [(List.mem_replicate.1 hx).2]
    simp
/-- Its slice reads as them. -/
theorem IdBlk.ids {w : World} {g : Nat} {l : List (List UInt8)} (h : IdBlk w g l) {S : Nat → Prop} (hS : S g) (n : Nat) (hn : l.length = n) (hm : n ≤ 1000000) : Ids w S (some ⟨g, 0, none⟩) n n l :=
  ⟨hn, h.2, Nat.le_refl _, by unfold maxLen; omega, fun _ => ⟨g, 0, rfl, hS, h.lt, fun i j hi hj => by
    have hil : i < l.length := by omega
    have hx : (l[i]?.getD []).length = 32 := by
      rw [List.getElem?_eq_getElem hil]
      exact h.2 _ (List.getElem_mem hil)
    have hf := flatten_at32 h.2 i j hil hj
    rw [cell_of_cells h.1, Nat.zero_add, row8, List.getElem?_toArray, u8s, List.getElem?_map, hf]
    generalize l[i]?.getD [] = x at *
    simp [show j < x.length by omega]⟩⟩
end Go.Proofs.Ytmmibldchfmleaa
