/-
  Steps of a plan that read or store a whole row of cells.
-/
import Derived.WalkKit
import Derived.OrdersHeld
import Derived.RegionTactic
import Derived.Lib.Hide
import Derived.IntWalk
import Derived.Laws.BitsAllLaws
import Derived.WalkSpells
import Derived.Lib.SlBytesRow
import Derived.OpenShut
import Derived.Test.YtmioifcbkhpdaaaGreatChecked
import Derived.BigQuiet
import Derived.Deep.MidRow
import Derived.DeepKeys
import Derived.StillTailTactics
import Derived.Deep.DeepCutAuto
import Derived.Lib.SlBytesConst
set_option maxHeartbeats 16000000
set_option maxRecDepth 100000
namespace Go.Proofs.YtmioifcbkhpdaaaGreat
open Go.RowKit
namespace Grow
def dstOf (ops : Array Oper) (j : Nat) : Option Tmp := (ops[j]?).bind (·.dst)
def depB (ops : Array Oper) (i j d : Nat) : Bool :=
 (match ops[i]? with | some o => o.after.any fun e => Region.binds .any e && e.on == j | none => false) && dstOf ops j == some d
def untB (ops : Array Oper) (i d : Nat) : Bool :=
 (List.range ops.size).all fun j => j == i || dstOf ops j != some d || match ops[j]? with | some o => o.after.any (fun e => Region.binds .any e && e.on == i) | none => true
def growB (ops : Array Oper) (n : Nat) : Bool :=
 (List.range ops.size).all fun i => match ops[i]? with
   | none => false
   | some o => (o.after.all fun e => !Region.binds .any e || decide (e.on < i)) &&
     match o.dst with
     | none => true
     | some d => decide (d < n) && (List.range ops.size).all fun j => j == i || dstOf ops j != some d
def runsTo (P : Program) (R : Value → World → Prop) : Result Next → Prop
 | .ok (.value v) w' => R v w'
 | .ok .skip w' => R undef w'
 | .ok (.enter f args) w' => Calls P f args w' fun e w'' => ∃ v, e = .returned v ∧ R v w''
 | _ => False
@[go_sem] theorem runsTo_value (P : Program) (R : Value → World → Prop) (v : Value) (w : World) : runsTo P R (.ok (.value v) w) = R v w := rfl
@[go_sem] theorem runsTo_skip (P : Program) (R : Value → World → Prop) (w : World) : runsTo P R (.ok .skip w) = R undef w := rfl
@[go_sem] theorem runsTo_enter (P : Program) (R : Value → World → Prop) (f : FuncId) (args : Array Value) (w : World) : runsTo P R (.ok (.enter f args) w) = Calls P f args w fun e w'' => ∃ v, e = .returned v ∧ R v w'' := rfl
section
variable (P : Program) (ops : Array Oper) (G : World → World → Prop) (Φ : Nat → Value → World → Prop) (a0 : Act) (w0 : World)
def GStep (i : Nat) : Prop :=
 ∀ (o : Oper), ops[i]? = some o → ∀ (E : Operand → Value) (W : World), (∀ v, E (.const v) = v) → (∀ g, E (.global g) = .pointer (some ⟨g, 0, none⟩)) → (∀ f, E (.func f) = .func (.func f) #[] #[]) → G w0 W →
   (∀ j d, depB ops i j d = true → Φ j (E (.tmp d)) W) → (∀ d, untB ops i d = true → E (.tmp d) = a0.eval (.tmp d)) →
   ((o.guard = none ∨ ∃ g b d, o.guard = some (g, b) ∧ dstOf ops g = some d ∧ E (.tmp d) = .bool b) ∧ runsTo P (fun v W' => G W W' ∧ Φ i v W') ((execOp E o).run P W)) ∨
   ((∃ g b u d, o.guard = some (g, b) ∧ dstOf ops g = some d ∧ E (.tmp d) = u ∧ u ≠ .bool b) ∧ Φ i undef W)
def allBelow (p : Nat → Prop) : Nat → Prop
 | 0 => True
 | n + 1 => allBelow p n ∧ p n
theorem allBelow_at {p : Nat → Prop} : ∀ {n : Nat}, allBelow p n → ∀ i, i < n → p i
 | n + 1, h, i, hi => by
   rcases Nat.lt_succ_iff_lt_or_eq.1 hi with h1 | rfl
   ·exact allBelow_at h.1 i h1
   ·exact h.2
def fin (Q : Exit → Act → World → Prop) (W : World) : List Oper → Nat → Act → Prop
 | [], _, a => Q .normal a W
 | o :: r, j, a => match o.dst with
   | none => (∃ v, Φ j v W) → fin Q W r (j + 1) a
   | some d => ∀ v, Φ j v W → fin Q W r (j + 1) (a.put (some d) v)
def putL (v : Nat → Value) : List Oper → Nat → Act → Act
 | [], _, a => a
 | o :: r, j, a => putL v r (j + 1) (a.put o.dst (v j))
end
section
variable {P : Program} {ops : Array Oper} {Q : Exit → Act → World → Prop} {G : World → World → Prop} {Φ : Nat → Value → World → Prop} {a0 : Act} {w0 : World}
theorem fin_putL {W : World} {v : Nat → Value} : ∀ (l : List Oper) (k : Nat) (a : Act), fin Φ Q W l k a → (∀ j o d, l[j]? = some o → o.dst = some d → Φ (k + j) (v (k + j)) W) → (∀ j o, l[j]? = some o → o.dst = none → ∃ x, Φ (k + j) x W) → Q .normal (putL v l k a) W
 | [], _, _, h, _, _ => h
 | o :: r, k, a, h, hv, hnn => by
   have hrn : ∀ j o', r[j]? = some o' → o'.dst = none → ∃ x, Φ (k + 1 + j) x W := fun j o' hj hd => by
    have := hnn (j + 1) o' (by simpa using hj) hd
    rwa [show k + (j + 1) = k + 1 + j by omega] at this
   have hr : ∀ j o' d, r[j]? = some o' → o'.dst = some d → Φ (k + 1 + j) (v (k + 1 + j)) W := fun j o' d hj hd => by
    have := hv (j + 1) o' d (by simpa using hj) hd
    rwa [show k + (j + 1) = k + 1 + j by omega] at this
   unfold fin at h
   cases hd : o.dst with
   | none =>
     rw [hd] at h;simp only [putL, hd];exact fin_putL r (k + 1) _ (h (hnn 0 o rfl hd)) hr hrn
   | some d =>
     rw [hd] at h;simp only [putL, hd];exact fin_putL r (k + 1) _ (h _ (hv 0 o d rfl hd)) hr hrn
theorem putL_same {a : Act} {v : Nat → Value} : ∀ (l : List Oper) (k : Nat) (b : Act), b.tmps.size = a.tmps.size → b.defers = a.defers →
    (∀ j o d, l[j]? = some o → o.dst = some d → d < a.tmps.size ∧ v (k + j) = a.tmps.getD d undef) → (∀ d, (∀ o ∈ l, o.dst ≠ some d) → b.tmps[d]? = a.tmps[d]?) → putL v l k b = a
 | [], _, b, _, hd, _, h => by
   obtain ⟨t, ds⟩ := b;obtain ⟨t', ds'⟩ := a;simp only at hd h;subst hd;(have : t = t' := Array.ext_getElem? fun i => h i (by simp));rw [putL, this]
 | o :: r, k, b, hs, hdf, hv, h => by
   have hr : ∀ j o' d, r[j]? = some o' → o'.dst = some d → d < a.tmps.size ∧ v (k + 1 + j) = a.tmps.getD d undef := fun j o' d hj hd => by
    have := hv (j + 1) o' d (by simpa using hj) hd
    rwa [show k + (j + 1) = k + 1 + j by omega] at this
   rw [putL]
   cases ho : o.dst with
   | none =>
     refine putL_same r (k + 1) _ hs hdf hr fun d hd => h d fun o' ho' => ?_
     rcases List.mem_cons.1 ho' with rfl | h1
     ·rw [ho]; simp
     ·exact hd o' h1
   | some e =>
     refine putL_same r (k + 1) _ (by simpa [Act.put] using hs) hdf hr fun d hd => ?_
     obtain ⟨h1, h2⟩ := hv 0 o e rfl ho
     by_cases hde : e = d
     ·subst hde;simp only [Act.put, Array.getElem?_setIfInBounds_self, hs];rw [if_pos h1, show v k = v (k + 0) from rfl, h2];simp [h1]
     ·simp only [Act.put];rw [Array.getElem?_setIfInBounds_ne hde];refine h d fun o' ho' => ?_
      rcases List.mem_cons.1 ho' with rfl | h3
      ·rw [ho]; simpa using hde
      ·exact hd o' h3
structure Inv (ops : Array Oper) (G : World → World → Prop) (Φ : Nat → Value → World → Prop) (a0 : Act) (w0 : World) (listed : Array Bool) (a : Act) (w : World) : Prop where
 grow : G w0 w
 lsize : listed.size = ops.size
 size : a.tmps.size = a0.tmps.size
 defers : a.defers = a0.defers
 closed : ∀ j o, ops[j]? = some o → listed.getD j false = true → ∀ e ∈ o.after, Region.binds .any e = true → listed.getD e.on false = true
 done : ∀ j o d, ops[j]? = some o → listed.getD j false = true → o.dst = some d → Φ j (a.tmps.getD d undef) w
 doneN : ∀ j o, ops[j]? = some o → listed.getD j false = true → o.dst = none → ∃ v, Φ j v w
 rest : ∀ d, (∀ j o, ops[j]? = some o → listed.getD j false = true → o.dst ≠ some d) → a.tmps[d]? = a0.tmps[d]?
theorem yD {listed : Array Bool} {i j : Nat} (h : i ≠ j) : (listed.setIfInBounds i true).getD j false = listed.getD j false := by
 simp [Array.getD_eq_getD_getElem?, Array.getElem?_setIfInBounds_ne h]
theorem ye {listed : Array Bool} {i : Nat} (h : i < listed.size) : (listed.setIfInBounds i true).getD i false = true := by
 simp [Array.getD_eq_getD_getElem?, h]
theorem runs_wp {o : Oper} {a : Act} {w : World} {K : Act → World → Prop} {R : Value → World → Prop} (hR : ∀ v w', R v w' → K (a.put o.dst v) w') (h : runsTo P R ((execOp a.eval o).run P w)) : o.wp P a w K Q := by
 unfold Oper.wp
 generalize (execOp a.eval o).run P w = r at h
 unfold runsTo at h
 split at h
 ·exact hR _ _ h
 ·exact hR _ _ h
 ·refine Calls.mono h ?_;rintro e w'' ⟨v, rfl, hr⟩;exact hR _ _ hr
 ·exact h.elim
theorem untB_spec {i d : Nat} (h : untB ops i d = true) (j : Nat) (o : Oper) (hj : ops[j]? = some o) (hd : o.dst = some d) : j = i ∨ ∃ e ∈ o.after, Region.binds .any e = true ∧ e.on = i := by
 have hlt := (Array.getElem?_eq_some_iff.1 hj).1;have h1 := List.all_eq_true.1 h j (List.mem_range.2 hlt);simp only [dstOf, hj, Option.bind_some, hd, Bool.or_eq_true, beq_iff_eq, bne_self_eq_false, or_false, Bool.false_eq_true] at h1;rcases h1 with h1 | h1
 ·exact .inl h1
 ·obtain ⟨e, he, hb⟩ := Array.any_eq_true'.1 h1;simp only [Bool.and_eq_true, beq_iff_eq] at hb;exact .inr ⟨e, he, hb.1, hb.2⟩
theorem growB_spec {n i : Nat} (h : growB ops n = true) {o : Oper} (ho : ops[i]? = some o) : (∀ e ∈ o.after, Region.binds .any e = true → e.on < i) ∧ ∀ d, o.dst = some d → d < n ∧ ∀ j o', ops[j]? = some o' → j ≠ i → o'.dst ≠ some d := by
 have hlt := (Array.getElem?_eq_some_iff.1 ho).1;have h1 := List.all_eq_true.1 h i (List.mem_range.2 hlt);simp only [ho, Bool.and_eq_true] at h1;refine ⟨fun e he hb => ?_, fun d hd => ?_⟩
 ·have := Array.all_eq_true_iff_forall_mem.1 h1.1 e he
  simpa [hb] using this
 ·have h2 := h1.2;rw [hd] at h2;simp only [Bool.and_eq_true, decide_eq_true_eq] at h2;refine ⟨h2.1, fun j o' hj hne hd' => ?_⟩;have h3 := List.all_eq_true.1 h2.2 j (List.mem_range.2 (Array.getElem?_eq_some_iff.1 hj).1);simp [dstOf, hj, hd', hne] at h3
theorem yk {listed : Array Bool} {i : Nat} (h : listed.getD i true = false) : listed.getD i false = false ∧ i < listed.size := by
 rcases Nat.lt_or_ge i listed.size with h' | h'
 ·simp [h'] at h ⊢; exact h
 ·simp [Array.getElem?_eq_none h'] at h
theorem yielded_not {a : Act} {g d : Nat} {b : Bool} {u : Value} (hd : dstOf ops g = some d) (h : a.tmps.getD d undef = u) (hne : u ≠ .bool b) : (yielded ops a.tmps g == some b) = false := by
 rw [beq_eq_false_iff_ne];intro hy;unfold yielded at hy;unfold dstOf at hd;rw [hd] at hy;simp only [Option.bind_some] at hy
 split at hy
 ·rename_i b' hb'
  injection hy with hy
  subst hy;apply hne;rw [← h, Array.getD_eq_getD_getElem?, hb'];rfl
 ·cases hy
theorem yielded_of {a : Act} {g d : Nat} {b : Bool} (hd : dstOf ops g = some d) (h : a.tmps.getD d undef = .bool b) : yielded ops a.tmps g = some b := by
 have hs : a.tmps[d]? = some (.bool b) := by
  rw [Array.getD_eq_getD_getElem?] at h
  cases ht : a.tmps[d]? with
  | none => rw [ht] at h; simp [undef] at h
  | some v => rw [ht] at h; simp at h; rw [h]
 unfold yielded;unfold dstOf at hd;rw [hd];simp [hs]
theorem step_inv {n i : Nat} {listed : Array Bool} {a : Act} {w : World} (hB : growB ops n = true) (hn : a0.tmps.size = n) (htr : ∀ A B C, G A B → G B C → G A C) (hmono : ∀ j v W W', Φ j v W → G W W' → Φ j v W') (hrefl : ∀ W, G W W)
    (hI : Inv ops G Φ a0 w0 listed a w) (hi : i ∈ Region.ready .any ops listed) (hs : GStep P ops G Φ a0 w0 i) : wpOp P ops Q i (fun a' w' => Inv ops G Φ a0 w0 (listed.setIfInBounds i true) a' w') a w := by
 obtain ⟨hun, o, ho, hall⟩ := mem_ready.1 hi;obtain ⟨hun, hil⟩ := yk hun;obtain ⟨hB1, hB2⟩ := growB_spec hB ho
 have hnew : ∀ v w', G w w' → Φ i v w' → Inv ops G Φ a0 w0 (listed.setIfInBounds i true) (a.put o.dst v) w' := by
  intro v w' hg hv
  have hmon : ∀ j, listed.getD j false = true → (listed.setIfInBounds i true).getD j false = true := fun j hj => by
   by_cases hji : i = j
   ·subst hji; exact ye hil
   ·rw [yD hji]; exact hj
  refine ⟨htr _ _ _ hI.grow hg, by simpa using hI.lsize, ?_, ?_, ?_, ?_, ?_, ?_⟩
  ·cases hd : o.dst <;> simp [Act.put, hI.size]
  ·cases hd : o.dst <;> simp [Act.put, hI.defers]
  ·intro j o' hj hl e he hb
   by_cases hji : i = j
   ·subst hji;(obtain rfl : o = o' := by rw [ho] at hj; exact Option.some.inj hj);exact hmon _ (hall e he hb)
   ·rw [yD hji] at hl;exact hmon _ (hI.closed j o' hj hl e he hb)
  ·intro j o' d hj hl hd
   by_cases hji : i = j
   ·subst hji;(obtain rfl : o = o' := by rw [ho] at hj; exact Option.some.inj hj);have := (hB2 d hd).1;rw [hd]
    have e : (a.put (some d) v).tmps.getD d undef = v := by
     simp only [Act.put, Array.getD_eq_getD_getElem?, Array.getElem?_setIfInBounds_self, hI.size, hn];rw [if_pos this]; rfl
    rw [e];exact hv
   ·rw [yD hji] at hl;have h1 := hmono _ _ _ _ (hI.done j o' d hj hl hd) hg
    cases hdo : o.dst with
    | none => simpa [Act.put] using h1
    | some e =>
      have hne : e ≠ d := by
       rintro rfl;exact (hB2 e hdo).2 j o' hj (fun h => hji h.symm) hd
      have e1 : (a.put (some e) v).tmps.getD d undef = a.tmps.getD d undef := by
       simp only [Act.put, Array.getD_eq_getD_getElem?, Array.getElem?_setIfInBounds_ne hne]
      rw [e1]; exact h1
  ·intro j o' hj hl hd
   by_cases hji : i = j
   ·subst hji;exact ⟨v, hv⟩
   ·rw [yD hji] at hl;obtain ⟨x, hx⟩ := hI.doneN j o' hj hl hd;exact ⟨x, hmono _ _ _ _ hx hg⟩
  ·intro d hd;(have h1 := hI.rest d fun j o' hj hl => hd j o' hj (hmon j hl));rw [← h1]
   cases hdo : o.dst with
   | none => rfl
   | some e =>
     have hne : e ≠ d := by
      rintro rfl;exact hd i o ho (ye hil) hdo
     simp only [Act.put, Array.getElem?_setIfInBounds_ne hne]
 have hst := hs o ho a.eval w (fun _ => rfl) (fun _ => rfl) (fun _ => rfl) hI.grow ?_ ?_
 ·unfold wpOp;rw [ho];show if Region.wanted o (yielded ops a.tmps) = true then _ else _
  rcases hst with ⟨hw, hr⟩ | ⟨⟨g, b, u, d, hg, hd, hE, hne⟩, hu⟩
  ·have hwt : Region.wanted o (yielded ops a.tmps) = true := by
     unfold Region.wanted;rcases hw with hw | ⟨g, b, d, hg, hd, hE⟩
     ·rw [hw]
     ·rw [hg];simp [yielded_of hd hE]
   rw [if_pos hwt];exact .inl (runs_wp (fun v w' h => hnew v w' h.1 h.2) hr)
  ·have hwt : Region.wanted o (yielded ops a.tmps) = false := by
     unfold Region.wanted;rw [hg];exact yielded_not hd hE hne
   rw [hwt];simp only [Bool.false_eq_true, if_false];exact hnew undef w (hrefl w) hu
 ·intro j d hd;unfold depB at hd;rw [ho] at hd;simp only [Bool.and_eq_true, beq_iff_eq] at hd;obtain ⟨e, he, hb⟩ := Array.any_eq_true'.1 hd.1;simp only [Bool.and_eq_true, beq_iff_eq] at hb;obtain ⟨oj, hoj, hdj⟩ := Option.bind_eq_some_iff.1 hd.2;exact hI.done j oj d hoj (hb.2 ▸ hall e he hb.1) hdj
 ·intro d hd
  have := hI.rest d fun j o' hj hl hdd => by
   rcases untB_spec hd j o' hj hdd with rfl | ⟨e, he, hb, hon⟩
   ·rw [hun] at hl; cases hl
   ·have := hI.closed j o' hj hl e he hb;rw [hon, hun] at this; cases this
  show a.tmps.getD d undef = a0.tmps.getD d undef;rw [Array.getD_eq_getD_getElem?, Array.getD_eq_getD_getElem?, this]
theorem all_of_ready {n : Nat} {listed : Array Bool} (hB : growB ops n = true) (hl : listed.size = ops.size) (hr : Region.ready .any ops listed = []) : ∀ i, i < ops.size → listed.getD i false = true := by
 intro i
 induction i using Nat.strongRecOn with
 | _ i ih =>
   intro hi
   cases hc : listed.getD i false with
   | true => rfl
   | false =>
     have ho : ops[i]? = some ops[i] := Array.getElem?_eq_getElem hi
     have : i ∈ Region.ready .any ops listed := by
      refine mem_ready.2 ⟨?_, ops[i], ho, fun e he hb => ?_⟩
      ·(have : i < listed.size := by omega);simp [this] at hc ⊢;exact hc
      ·have h1 := (growB_spec hB ho).1 e he hb;exact ih e.on h1 (by omega)
     rw [hr] at this
     cases this
theorem count_set {listed : Array Bool} {i : Nat} (h : listed.getD i true = false) : (listed.setIfInBounds i true).toList.count false + 1 = listed.toList.count false := by
 obtain ⟨h1, h2⟩ := yk h;have hi : i < listed.toList.length := by simpa using h2
 have hg : listed.toList[i] = false := by simp [h2] at h1; simpa using h1
 have hp : 0 < listed.toList.count false := List.count_pos_iff.2 (hg ▸ List.getElem_mem hi);rw [Array.toList_setIfInBounds, List.count_set hi, hg];simp;have := hp;rw [← Array.count_toList] ;omega
theorem any_of_inv {n : Nat} (hB : growB ops n = true) (hn : a0.tmps.size = n) (htr : ∀ A B C, G A B → G B C → G A C) (hmono : ∀ j v W W', Φ j v W → G W W' → Φ j v W') (hrefl : ∀ W, G W W)
    (hs : ∀ i, i < ops.size → GStep P ops G Φ a0 w0 i) (hfin : ∀ W, G w0 W → fin Φ Q W ops.toList 0 a0) :
    ∀ (fuel : Nat) (listed : Array Bool) (a : Act) (w : World), Inv ops G Φ a0 w0 listed a w → listed.toList.count false ≤ fuel → wpAny P .any ops Q fuel listed a w := by
 have hend : ∀ (listed : Array Bool) (a : Act) (w : World), Inv ops G Φ a0 w0 listed a w → Region.ready .any ops listed = [] → Q .normal a w := by
  intro listed a w hI hr;have hall := all_of_ready hB hI.lsize hr;have hal : ∀ j o, ops[j]? = some o → listed.getD j false = true := fun j o hj => hall j (Array.getElem?_eq_some_iff.1 hj).1
  have hsame : putL (fun j => a.tmps.getD ((dstOf ops j).getD 0) undef) ops.toList 0 a0 = a := by
   refine putL_same (a := a) _ 0 a0 hI.size.symm hI.defers.symm ?_ ?_
   ·intro j o d hj hd;(have hj' : ops[j]? = some o := by rw [← hj, Array.getElem?_toList]);refine ⟨by rw [hI.size, hn]; exact ((growB_spec hB hj').2 d hd).1, ?_⟩;(have hdd : dstOf ops j = some d := by unfold dstOf; rw [hj']; exact hd);simp [hdd]
   ·intro d hd;exact (hI.rest d fun j o hj _ => hd o (by rw [Array.mem_toList_iff]; exact Array.mem_of_getElem? hj)).symm
  rw [← hsame]
  refine fin_putL ops.toList 0 a0 (hfin w hI.grow) ?_ (fun j o hj hd => by
   have hj' : ops[j]? = some o := by rw [← hj, Array.getElem?_toList]
   simpa using hI.doneN j o hj' (hal j o hj') hd)
  intro j o d hj hd;have hj' : ops[j]? = some o := by rw [← hj, Array.getElem?_toList]
  have hdd : dstOf ops j = some d := by unfold dstOf; rw [hj']; exact hd
  have := hI.done j o d hj' (hal j o hj') hd
  simpa [hdd] using this
 intro fuel
 induction fuel with
 | zero =>
   intro listed a w hI hc
   have hr : Region.ready .any ops listed = [] := by
    rw [List.eq_nil_iff_forall_not_mem];intro i hi;have := count_set (mem_ready.1 hi).1;omega
   exact ⟨hr, hend _ _ _ hI hr⟩
 | succ fuel ih =>
   intro listed a w hI hc;refine ⟨hend _ _ _ hI, fun i hi => ?_⟩;obtain ⟨h1, o, ho, _⟩ := mem_ready.1 hi;refine wpOp_mono ?_ (step_inv hB hn htr hmono hrefl hI hi (hs i (Array.getElem?_eq_some_iff.1 ho).1));intro a' w' hI';exact ih _ a' w' hI' (by have := count_set h1; omega)
end
/-! The claims as a list. -/
def nth (L : List (Value → World → Prop)) (j : Nat) : Value → World → Prop := L.getD j fun _ _ => True
def MonoAll (G : World → World → Prop) : List (Value → World → Prop) → Prop
 | [] => True
 | φ :: r => (∀ v W W', φ v W → G W W' → φ v W') ∧ MonoAll G r
theorem mono_nth {G : World → World → Prop} : ∀ {L : List (Value → World → Prop)}, MonoAll G L → ∀ j v W W', nth L j v W → G W W' → nth L j v W'
 | [], _, _, _, _, _, _, _ => trivial
 | _ :: _, h, 0, v, W, W', h1, h2 => h.1 v W W' h1 h2
 | _ :: _, h, j + 1, v, W, W', h1, h2 => mono_nth h.2 j v W W' h1 h2
section
variable {P : Program} {ops : Array Oper} {Q : Exit → Act → World → Prop} {G : World → World → Prop} {Φ : Nat → Value → World → Prop} {a0 : Act} {w0 : World}
theorem step_in {i : Nat} {o : Oper} (ho : ops.toList[i]? = some o) (hg : o.guard = none)
    (h : ∀ (E : Operand → Value) (W : World), (∀ v, E (.const v) = v) → (∀ g, E (.global g) = .pointer (some ⟨g, 0, none⟩)) → (∀ f, E (.func f) = .func (.func f) #[] #[]) → G w0 W →
      (∀ j d, depB ops i j d = true → Φ j (E (.tmp d)) W) → (∀ d, untB ops i d = true → E (.tmp d) = a0.eval (.tmp d)) → ∀ R : Value → World → Prop, Hid (∀ v W', G W W' → Φ i v W' → R v W') → runsTo P R ((execOp E o).run P W)) : GStep P ops G Φ a0 w0 i := by
 intro o' ho' E W h1 h2 h3 h4 h5 h6;obtain rfl : o = o' := by rw [← Array.getElem?_toList, ho] at ho'; exact Option.some.inj ho'
 exact .inl ⟨.inl hg, h E W h1 h2 h3 h4 h5 h6 _ (Lib.hid fun _ _ a b => ⟨a, b⟩)⟩
theorem step_on {i g d : Nat} {b : Bool} {o : Oper} (ho : ops.toList[i]? = some o) (hg : o.guard = some (g, b)) (hd : dstOf ops g = some d) (hdep : depB ops i g d = true) (hb : ∀ v W, Φ g v W → v = .bool b)
    (h : ∀ (E : Operand → Value) (W : World), (∀ v, E (.const v) = v) → (∀ g, E (.global g) = .pointer (some ⟨g, 0, none⟩)) → (∀ f, E (.func f) = .func (.func f) #[] #[]) → G w0 W →
      (∀ j d, depB ops i j d = true → Φ j (E (.tmp d)) W) → (∀ d, untB ops i d = true → E (.tmp d) = a0.eval (.tmp d)) → ∀ R : Value → World → Prop, Hid (∀ v W', G W W' → Φ i v W' → R v W') → runsTo P R ((execOp E o).run P W)) : GStep P ops G Φ a0 w0 i := by
 intro o' ho' E W h1 h2 h3 h4 h5 h6;obtain rfl : o = o' := by rw [← Array.getElem?_toList, ho] at ho'; exact Option.some.inj ho'
 exact .inl ⟨.inr ⟨g, b, d, hg, hd, hb _ _ (h5 g d hdep)⟩, h E W h1 h2 h3 h4 h5 h6 _ (Lib.hid fun _ _ a b => ⟨a, b⟩)⟩
theorem step_off {i g d : Nat} {b b' : Bool} {o : Oper} (ho : ops.toList[i]? = some o) (hg : o.guard = some (g, b)) (hd : dstOf ops g = some d) (hdep : depB ops i g d = true) (hb : ∀ v W, Φ g v W → v = .bool b') (hne : b' ≠ b)
    (h : ∀ W, Φ i undef W) : GStep P ops G Φ a0 w0 i := by
 intro o' ho' E W h1 h2 h3 h4 h5 h6;obtain rfl : o = o' := by rw [← Array.getElem?_toList, ho] at ho'; exact Option.some.inj ho'
 exact .inr ⟨⟨g, b, .bool b', d, hg, hd, hb _ _ (h5 g d hdep), fun e => hne (by injection e)⟩, h W⟩
theorem step_far {i g d : Nat} {b : Bool} {o : Oper} (ho : ops.toList[i]? = some o) (hg : o.guard = some (g, b)) (hd : dstOf ops g = some d) (hdep : depB ops i g d = true) (hb : ∀ v W, Φ g v W → v = undef)
    (h : ∀ W, Φ i undef W) : GStep P ops G Φ a0 w0 i := by
 intro o' ho' E W h1 h2 h3 h4 h5 h6;obtain rfl : o = o' := by rw [← Array.getElem?_toList, ho] at ho'; exact Option.some.inj ho'
 exact .inr ⟨⟨g, b, undef, d, hg, hd, hb _ _ (h5 g d hdep), fun e => by cases e⟩, h W⟩
theorem fin_dst {W : World} {o : Oper} {r : List Oper} {j : Nat} {a : Act} {d : Tmp} (hd : o.dst = some d) (h : ∀ v, Φ j v W → fin Φ Q W r (j + 1) (a.put (some d) v)) : fin Φ Q W (o :: r) j a := by
 unfold fin;rw [hd];exact h
theorem fin_end {W : World} {j : Nat} {a : Act} (h : Q .normal a W) : fin Φ Q W [] j a := h
end
theorem below_of_drew {w W : World} (h : Below w.drew.heap.size w.drew W) : Below w.heap.size w W := ⟨h.os, h.tape, h.output, h.size, h.block⟩
end Grow
theorem wp_region_grow {P : Program} {ops : Array Oper} {Q : Exit → Act → World → Prop} {id : Nat} {a : Act} {w : World} (G : World → World → Prop) (Φ : Nat → Value → World → Prop) (n : Nat) (hm : P.follows .mixedOrders = true)
    (hB : Grow.growB ops n = true) (hn : a.tmps.size = n) (hrefl : ∀ W, G W W) (htr : ∀ A B C, G A B → G B C → G A C) (hmono : ∀ j v W W', Φ j v W → G W W' → Φ j v W')
    (hs : Grow.allBelow (Grow.GStep P ops G Φ a w.drew) ops.size) (hfin : ∀ W, G w.drew W → Grow.fin Φ Q W ops.toList 0 a) : (Code.region id ops true).wp P Q a w := by
 refine wp_region_any hm (Grow.any_of_inv hB hn htr hmono hrefl (Grow.allBelow_at hs) hfin ops.size _ a _ ⟨hrefl _, by simp, rfl, rfl, ?_, ?_, ?_, fun _ _ => rfl⟩ ?_)
 ·intro j o hj hl;simp at hl;have := (Array.getElem?_eq_some_iff.1 hj).1;simp [this] at hl
 ·intro j o d hj hl;have := (Array.getElem?_eq_some_iff.1 hj).1;simp [this] at hl
 ·intro j o hj hl;have := (Array.getElem?_eq_some_iff.1 hj).1;simp [this] at hl
 ·simp
end Go.Proofs.YtmioifcbkhpdaaaGreat
namespace Go.Proofs.YtmioifcbkhpdaaaGreat
set_option maxHeartbeats 16000000
set_option maxRecDepth 100000
open Go.RowKit
section
variable {P : Program} {ops : Array Oper} {Q : Exit → Act → World → Prop} {G : World → World → Prop} {Φ : Nat → Value → World → Prop} {a0 : Act} {w0 : World}
theorem sqi {i : Nat} {o : Oper}
    (h : ∀ (E : Operand → Value) (W : World), (∀ v, E (.const v) = v) → (∀ g, E (.global g) = .pointer (some ⟨g, 0, none⟩)) → (∀ f, E (.func f) = .func (.func f) #[] #[]) → G w0 W →
      (∀ j d, (_ : Grow.depB ops i j d = true := by kernel_rfl) → Φ j (E (.tmp d)) W) → (∀ d, (_ : Grow.untB ops i d = true := by kernel_rfl) → E (.tmp d) = a0.eval (.tmp d)) → ∀ R : Value → World → Prop, Hid (∀ v W', G W W' → Φ i v W' → R v W') → Grow.runsTo P R ((execOp E o).run P W))
    (ho : ops.toList[i]? = some o := by rfl) (hg : o.guard = none := by rfl) : Grow.GStep P ops G Φ a0 w0 i := Grow.step_in ho hg h
theorem sqo {i : Nat} {o : Oper} (g d : Nat)
    (h : ∀ (E : Operand → Value) (W : World), (∀ v, E (.const v) = v) → (∀ g, E (.global g) = .pointer (some ⟨g, 0, none⟩)) → (∀ f, E (.func f) = .func (.func f) #[] #[]) → G w0 W →
      (∀ j d, (_ : Grow.depB ops i j d = true := by kernel_rfl) → Φ j (E (.tmp d)) W) → (∀ d, (_ : Grow.untB ops i d = true := by kernel_rfl) → E (.tmp d) = a0.eval (.tmp d)) → ∀ R : Value → World → Prop, Hid (∀ v W', G W W' → Φ i v W' → R v W') → Grow.runsTo P R ((execOp E o).run P W))
    (ho : ops.toList[i]? = some o := by rfl) (hg : o.guard = some (g, true) := by rfl) (hd : Grow.dstOf ops g = some d := by rfl) (hdep : Grow.depB ops i g d = true := by kernel_rfl)
    (hb : ∀ v W, Φ g v W → v = .bool true := by exact fun v W h => h) : Grow.GStep P ops G Φ a0 w0 i := Grow.step_on ho hg hd hdep hb h
theorem sqn {i : Nat} {o : Oper} (g d : Nat)
    (h : ∀ (E : Operand → Value) (W : World), (∀ v, E (.const v) = v) → (∀ g, E (.global g) = .pointer (some ⟨g, 0, none⟩)) → (∀ f, E (.func f) = .func (.func f) #[] #[]) → G w0 W →
      (∀ j d, (_ : Grow.depB ops i j d = true := by kernel_rfl) → Φ j (E (.tmp d)) W) → (∀ d, (_ : Grow.untB ops i d = true := by kernel_rfl) → E (.tmp d) = a0.eval (.tmp d)) → ∀ R : Value → World → Prop, Hid (∀ v W', G W W' → Φ i v W' → R v W') → Grow.runsTo P R ((execOp E o).run P W))
    (ho : ops.toList[i]? = some o := by rfl) (hg : o.guard = some (g, false) := by rfl) (hd : Grow.dstOf ops g = some d := by rfl) (hdep : Grow.depB ops i g d = true := by kernel_rfl)
    (hb : ∀ v W, Φ g v W → v = .bool false := by exact fun v W h => h) : Grow.GStep P ops G Φ a0 w0 i := Grow.step_on ho hg hd hdep hb h
theorem sqx {i : Nat} {o : Oper} (g d : Nat)
    (ho : ops.toList[i]? = some o := by rfl) (hg : o.guard = some (g, true) := by rfl) (hd : Grow.dstOf ops g = some d := by rfl) (hdep : Grow.depB ops i g d = true := by kernel_rfl)
    (hb : ∀ v W, Φ g v W → v = .bool false := by exact fun v W h => h) (h : ∀ W, Φ i undef W := by exact fun _ => rfl) : Grow.GStep P ops G Φ a0 w0 i := Grow.step_off ho hg hd hdep hb (by decide) h
theorem sqy {i : Nat} {o : Oper} (g d : Nat)
    (ho : ops.toList[i]? = some o := by rfl) (hg : o.guard = some (g, false) := by rfl) (hd : Grow.dstOf ops g = some d := by rfl) (hdep : Grow.depB ops i g d = true := by kernel_rfl)
    (hb : ∀ v W, Φ g v W → v = .bool true := by exact fun v W h => h) (h : ∀ W, Φ i undef W := by exact fun _ => rfl) : Grow.GStep P ops G Φ a0 w0 i := Grow.step_off ho hg hd hdep hb (by decide) h
theorem sqf {i : Nat} {o : Oper} (g d : Nat) (b : Bool)
    (ho : ops.toList[i]? = some o := by rfl) (hg : o.guard = some (g, b) := by rfl) (hd : Grow.dstOf ops g = some d := by rfl) (hdep : Grow.depB ops i g d = true := by kernel_rfl)
    (hb : ∀ v W, Φ g v W → v = undef := by exact fun v W h => h) (h : ∀ W, Φ i undef W := by exact fun _ => rfl) : Grow.GStep P ops G Φ a0 w0 i := Grow.step_far ho hg hd hdep hb h
end
theorem sqm {G : World → World → Prop} {φ : Value → Prop} : ∀ (v : Value) (W W' : World), φ v → G W W' → φ v := fun _ _ _ h _ => h
theorem sqp {α : Type} : (∀ (x : List α) (i : Nat) (a : α), x.toArray.setIfInBounds i a = (x.set i a).toArray) ∧ (∀ (x a : α) (l : List α), (x :: l).set 0 a = a :: l) ∧ ∀ (x a : α) (l : List α) (i : Nat), (x :: l).set (i + 1) a = x :: l.set i a :=
 ⟨fun x i a => by simp, fun _ _ _ => rfl, fun _ _ _ _ => rfl⟩
theorem sqh {W : World} {p R : Value → World → Prop} {v : Value} (H : Hid (∀ v W', Below W.heap.size W W' → p v W' → R v W')) (h : p v W := by exact rfl) : R v W := H.out _ _ (Below.refl _ _) h
theorem sqe {α : Type} {a b : α} (h : a = b) : a = b := h
theorem sqz {α : Type} (a : α) : ∃ x, x = a := ⟨_, rfl⟩
abbrev sqv (x : Value) : Value → World → Prop := fun v _ => v = x
section
variable {P : Program} {ops : Array Oper} {Q : Exit → Act → World → Prop} {Φ : Nat → Value → World → Prop} {a0 : Act} {w0 : World} {i : Nat} {o : Oper}
theorem sqd (j d : Nat) (ho : ops.toList[i]? = some o := by rfl) (hg : o.guard = none := by rfl) (hop : ∀ (E : Operand → Value) (W : World), (execOp E o).run P W = .ok (.value (E (.tmp d))) W := by exact fun _ _ => rfl)
    (hdep : Grow.depB ops i j d = true := by kernel_rfl) (hΦ : ∀ v W, Φ j v W → Φ i v W := by exact fun _ _ h => h) : Grow.GStep P ops (fun W W' => Below W.heap.size W W') Φ a0 w0 i :=
 Grow.step_in ho hg fun E W _ _ _ _ hd _ R HR => by
  rw [hop];exact HR.out _ _ (Below.refl _ _) (hΦ _ _ (hd j d hdep))
theorem squ (d : Nat) (ho : ops.toList[i]? = some o := by rfl) (hg : o.guard = none := by rfl) (hop : ∀ (E : Operand → Value) (W : World), (execOp E o).run P W = .ok (.value (E (.tmp d))) W := by exact fun _ _ => rfl)
    (hun : Grow.untB ops i d = true := by kernel_rfl) (hΦ : ∀ W, Φ i (a0.eval (.tmp d)) W := by exact fun _ => rfl) : Grow.GStep P ops (fun W W' => Below W.heap.size W W') Φ a0 w0 i :=
 Grow.step_in ho hg fun E W _ _ _ _ _ hu R HR => by
  rw [hop, hu d hun];exact HR.out _ _ (Below.refl _ _) (hΦ _)
theorem sqdo (g e : Nat) (b : Bool) (j d : Nat) (ho : ops.toList[i]? = some o := by rfl) (hg : o.guard = some (g, b) := by rfl) (hge : Grow.dstOf ops g = some e := by rfl) (hgd : Grow.depB ops i g e = true := by kernel_rfl) (hgb : ∀ v W, Φ g v W → v = .bool b := by exact fun v W h => h)
    (hop : ∀ (E : Operand → Value) (W : World), (execOp E o).run P W = .ok (.value (E (.tmp d))) W := by exact fun _ _ => rfl)
    (hdep : Grow.depB ops i j d = true := by kernel_rfl) (hΦ : ∀ v W, Φ j v W → Φ i v W := by exact fun _ _ h => h) : Grow.GStep P ops (fun W W' => Below W.heap.size W W') Φ a0 w0 i :=
 Grow.step_on ho hg hge hgd hgb fun E W _ _ _ _ hd _ R HR => by
  rw [hop];exact HR.out _ _ (Below.refl _ _) (hΦ _ _ (hd j d hdep))
theorem yX (g e : Nat) (b : Bool) (d : Nat) (ho : ops.toList[i]? = some o := by rfl) (hg : o.guard = some (g, b) := by rfl) (hge : Grow.dstOf ops g = some e := by rfl) (hgd : Grow.depB ops i g e = true := by kernel_rfl) (hgb : ∀ v W, Φ g v W → v = .bool b := by exact fun v W h => h)
    (hop : ∀ (E : Operand → Value) (W : World), (execOp E o).run P W = .ok (.value (E (.tmp d))) W := by exact fun _ _ => rfl)
    (hun : Grow.untB ops i d = true := by kernel_rfl) (hΦ : ∀ W, Φ i (a0.eval (.tmp d)) W := by exact fun _ => rfl) : Grow.GStep P ops (fun W W' => Below W.heap.size W W') Φ a0 w0 i :=
 Grow.step_on ho hg hge hgd hgb fun E W _ _ _ _ _ hu R HR => by
  rw [hop, hu d hun];exact HR.out _ _ (Below.refl _ _) (hΦ _)
theorem sqg {id : Nat} {a : Act} {w : World} (L : List (Value → World → Prop)) (n : Nat) (hmono : Grow.MonoAll (fun W W' => Below W.heap.size W W') L) (hs : Grow.allBelow (Grow.GStep P ops (fun W W' => Below W.heap.size W W') (Grow.nth L) a w.drew) ops.size) (hfin : ∀ W, Below w.drew.heap.size w.drew W → Grow.fin (Grow.nth L) Q W ops.toList 0 a)
    (hm : P.follows .mixedOrders = true := by kernel_rfl) (hB : Grow.growB ops n = true := by kernel_rfl) (hn : a.tmps.size = n := by rfl) : (Code.region id ops true).wp P Q a w :=
 wp_region_grow (fun W W' => Below W.heap.size W W') (Grow.nth L) n hm hB hn (fun W => Below.refl _ W) (fun _ _ _ h1 h2 => h1.trans (h2.mono h1.size)) (Grow.mono_nth hmono) hs hfin
end
theorem sq2 {A0 A1 : Prop} (a0 : A0) (a1 : A1) : Hid (A0 ∧ A1) := Lib.hid ⟨a0, a1⟩
theorem sq3 {A0 A1 A2 : Prop} (a0 : A0) (a1 : A1) (a2 : A2) : Hid (A0 ∧ A1 ∧ A2) := Lib.hid ⟨a0, a1, a2⟩
theorem sq4 {A0 A1 A2 A3 : Prop} (a0 : A0) (a1 : A1) (a2 : A2) (a3 : A3) : Hid (A0 ∧ A1 ∧ A2 ∧ A3) := Lib.hid ⟨a0, a1, a2, a3⟩
theorem sq5 {A0 A1 A2 A3 A4 : Prop} (a0 : A0) (a1 : A1) (a2 : A2) (a3 : A3) (a4 : A4) : Hid (A0 ∧ A1 ∧ A2 ∧ A3 ∧ A4) := Lib.hid ⟨a0, a1, a2, a3, a4⟩
theorem sq6 {A0 A1 A2 A3 A4 A5 : Prop} (a0 : A0) (a1 : A1) (a2 : A2) (a3 : A3) (a4 : A4) (a5 : A5) : Hid (A0 ∧ A1 ∧ A2 ∧ A3 ∧ A4 ∧ A5) := Lib.hid ⟨a0, a1, a2, a3, a4, a5⟩
theorem sq7 {A0 A1 A2 A3 A4 A5 A6 : Prop} (a0 : A0) (a1 : A1) (a2 : A2) (a3 : A3) (a4 : A4) (a5 : A5) (a6 : A6) : Hid (A0 ∧ A1 ∧ A2 ∧ A3 ∧ A4 ∧ A5 ∧ A6) := Lib.hid ⟨a0, a1, a2, a3, a4, a5, a6⟩
theorem sq8 {A0 A1 A2 A3 A4 A5 A6 A7 : Prop} (a0 : A0) (a1 : A1) (a2 : A2) (a3 : A3) (a4 : A4) (a5 : A5) (a6 : A6) (a7 : A7) : Hid (A0 ∧ A1 ∧ A2 ∧ A3 ∧ A4 ∧ A5 ∧ A6 ∧ A7) := Lib.hid ⟨a0, a1, a2, a3, a4, a5, a6, a7⟩
section
variable {P : Program} {ops : Array Oper} {Q : Exit → Act → World → Prop} {md : Region.Mode}
def wpSeg (P : Program) (ops : Array Oper) (C : World → Prop) (Q' : Act → Prop) : List Nat → Act → Prop
 | [], a => Q' a
 | i :: r, a => ∃ o v, ops[i]? = some o ∧ YieldsIf P ops C o v a ∧ wpSeg P ops C Q' r (a.put o.dst v)
def segB (md : Region.Mode) (ops : Array Oper) : Array Bool → List Nat → Bool
 | _, [] => true
 | listed, i :: r => (Region.ready md ops listed).contains i && Region.free md ops listed i && segB md ops (listed.setIfInBounds i true) r
def ya : Array Bool → List Nat → Array Bool
 | listed, [] => listed
 | listed, i :: r => ya (listed.setIfInBounds i true) r
def wpPlan (P : Program) (ops : Array Oper) (Q : Exit → Act → World → Prop) : (World → Prop) → List (List Nat × Nat) → List Nat → Act → World → Prop
 | C, [], q, a, w => wpSeg P ops C (fun a' => Q .normal a' w) q a
 | C, (q1, e) :: r, q, a, w => wpSeg P ops C (fun a1 => wpOp P ops Q e (fun a2 w2 => ∃ C' : World → Prop, C' w2 ∧ (∀ W, C' W → C W) ∧ wpPlan P ops Q C' r q a2 w2) a1 w) q1 a
def planB (md : Region.Mode) (ops : Array Oper) : Array Bool → List (List Nat × Nat) → List Nat → Bool
 | listed, [], q => segB md ops listed q && (Region.ready md ops (ya listed q)).isEmpty
 | listed, (q1, e) :: r, q => segB md ops listed q1 && (Region.ready md ops (ya listed q1) == [e]) && planB md ops ((ya listed q1).setIfInBounds e true) r q
theorem wpAnyH_mono {S S' : World → Prop} (hS : ∀ W, S' W → S W) : ∀ (fuel : Nat) (listed : Array Bool) (a : Act) (w : World), wpAnyH P md ops Q S' fuel listed a w → wpAnyH P md ops Q S fuel listed a w
 | 0, _, _, _, h => h
 | fuel + 1, _, _, _, h => ⟨h.1, fun i hi => wpOp_mono (fun _ _ h' => ⟨hS _ h'.1, wpAnyH_mono hS fuel _ _ _ h'.2⟩) (h.2 i hi)⟩
theorem wpAnyH_seg {C : World → Prop} {Q' : Act → Prop} (hs : Region.noSelect ops = true) (hQ : ∀ c a d v w, Q (.panic c) (Act.put a d v) w → Q (.panic c) a w) {fuel : Nat} {w : World} (hC : C w) :
    ∀ (q : List Nat) (listed : Array Bool) (a : Act), segB md ops listed q = true → wpSeg P ops C Q' q a → (∀ a', Q' a' → wpAnyH P md ops Q C fuel (ya listed q) a' w) → wpAnyH P md ops Q C (fuel + q.length) listed a w
 | [], _, _, _, h, hn => hn _ h
 | i :: r, listed, a, hB, h, hn => by
   simp only [segB, Bool.and_eq_true] at hB;obtain ⟨⟨hr, hf⟩, hB'⟩ := hB;obtain ⟨o, v, ho, hy, hk⟩ := h;exact wpAnyH_take (fuel := fuel + r.length) ho hs hf hr (fun c a w => hQ c a o.dst v w) hy hC (wpAnyH_seg hs hQ hC r _ _ hB' hk hn)
theorem wpAnyH_plan (hs : Region.noSelect ops = true) (hQ : ∀ c a d v w, Q (.panic c) (Act.put a d v) w → Q (.panic c) a w) :
    ∀ (plan : List (List Nat × Nat)) (q : List Nat) (C : World → Prop) (listed : Array Bool) (a : Act) (w : World), C w → planB md ops listed plan q = true → wpPlan P ops Q C plan q a w → ∃ fuel, wpAnyH P md ops Q C fuel listed a w ∧ fuel = q.length + (plan.map fun x => x.1.length + 1).sum
 | [], q, C, listed, a, w, hC, hB, h => by
   simp only [planB, Bool.and_eq_true] at hB;refine ⟨_, wpAnyH_seg (fuel := 0) hs hQ hC q listed a hB.1 h fun a' h' => wpAnyH_done (by simpa using hB.2) h' 0, by simp⟩
 | (q1, e) :: r, q, C, listed, a, w, hC, hB, h => by
   simp only [planB, Bool.and_eq_true, beq_iff_eq] at hB;obtain ⟨⟨hB1, hB2⟩, hB3⟩ := hB;refine ⟨_, wpAnyH_seg (fuel := (q.length + (r.map fun x => x.1.length + 1).sum) + 1) hs hQ hC q1 listed a hB1 h fun a' h' => ?_, by simp; omega⟩;refine wpAnyH_all hB2 (by simp) fun i hi => ?_
   rw [List.mem_singleton.1 hi];refine wpOp_mono ?_ h';rintro a2 w2 ⟨C', hC', hsub, hp⟩;obtain ⟨f, hf, rfl⟩ := wpAnyH_plan hs hQ r q C' _ a2 w2 hC' hB3 hp;exact ⟨hsub _ hC', wpAnyH_mono hsub _ _ _ _ hf⟩
theorem wp_region_plan {id : Nat} {a : Act} {w : World} (C : World → Prop) (plan : List (List Nat × Nat)) (q : List Nat) (hm : P.follows .mixedOrders = true)
    (hB : (Region.noSelect ops && planB .any ops (Array.replicate ops.size false) plan q && (q.length + (plan.map fun x => x.1.length + 1).sum == ops.size)) = true)
    (hQ : ∀ c a d v w, Q (.panic c) (Act.put a d v) w → Q (.panic c) a w) (hC : C w.drew) (h : wpPlan P ops Q C plan q a w.drew) : (Code.region id ops true).wp P Q a w := by
 simp only [Bool.and_eq_true, beq_iff_eq] at hB;obtain ⟨⟨h1, h2⟩, h3⟩ := hB;obtain ⟨f, hf, rfl⟩ := wpAnyH_plan (md := .any) h1 hQ plan q C _ a _ hC h2 h;rw [h3] at hf;exact wp_region_held hm hf
/-! The steps of a plan. -/
theorem zR {C : World → Prop} {q1 : List Nat} {e : Nat} {r : List (List Nat × Nat)} {q : List Nat} {a : Act} {w : World}
    (h : wpSeg P ops C (fun a1 => wpOp P ops Q e (fun a2 w2 => ∃ C' : World → Prop, C' w2 ∧ (∀ W, C' W → C W) ∧ wpPlan P ops Q C' r q a2 w2) a1 w) q1 a) : wpPlan P ops Q C ((q1, e) :: r) q a w := h
theorem zZ {C : World → Prop} {q : List Nat} {a : Act} {w : World} (h : wpSeg P ops C (fun a' => Q .normal a' w) q a) : wpPlan P ops Q C [] q a w := h
theorem zH {C : World → Prop} {Q' : Act → Prop} {a : Act} (h : Q' a) : wpSeg P ops C Q' [] a := h
theorem zb {C : World → Prop} {Q' : Act → Prop} {i : Nat} {r : List Nat} {a : Act} {o : Oper} (ho : ops.toList[i]? = some o)
    (h : ∀ K : Act → Prop, (∀ a, wpSeg P ops C Q' r a → K a) → if Region.wanted o (yielded ops a.tmps) then ∃ v, (∀ w, C w → (execOp a.eval o).run P w = .ok (.value v) w) ∧ K (a.put o.dst v) else K (a.put o.dst undef)) : wpSeg P ops C Q' (i :: r) a := by
 have ho : ops[i]? = some o := by rw [← ho, Array.getElem?_toList]
 have h1 := h _ (fun _ h => h)
 by_cases hw : Region.wanted o (yielded ops a.tmps) = true
 ·rw [if_pos hw] at h1;obtain ⟨v, hv, hk⟩ := h1;exact ⟨o, v, ho, .inl ⟨hw, hv⟩, hk⟩
 ·rw [if_neg hw] at h1;exact ⟨o, undef, ho, .inr ⟨by simpa using hw, rfl⟩, h1⟩
theorem zE {C : World → Prop} {Q' : Act → Prop} {i : Nat} {r : List Nat} {a : Act} {o : Oper} (v : Value) (ho : ops.toList[i]? = some o) (hw : Region.wanted o (yielded ops a.tmps) = true)
    (hv : ∀ w, C w → (execOp a.eval o).run P w = .ok (.value v) w) (h : wpSeg P ops C Q' r (a.put o.dst v)) : wpSeg P ops C Q' (i :: r) a := ⟨o, v, by rw [← ho, Array.getElem?_toList], .inl ⟨hw, hv⟩, h⟩
theorem zr {i : Nat} {o : Oper} {K : Act → World → Prop} {a : Act} {w : World} (ho : ops.toList[i]? = some o)
    (h : ∀ K' : Act → World → Prop, (∀ a w, K a w → K' a w) → if Region.wanted o (yielded ops a.tmps) = true then Oper.wp P o a w K' Q else K' (a.put o.dst undef) w) : wpOp P ops Q i K a w :=
 wpOp_step (by rw [← ho, Array.getElem?_toList]) h
end
end Go.Proofs.YtmioifcbkhpdaaaGreat
set_option maxHeartbeats 16000000
set_option maxRecDepth 100000
namespace Go.Proofs.YtmioifcbkhpdaaaGreat
def nv (x : BitVec 32) : Int := (x.toNat : Int)
namespace W32
theorem nn (x : BitVec 32) : 0 ≤ nv x := by unfold nv; omega
end W32
end Go.Proofs.YtmioifcbkhpdaaaGreat
namespace Go.Proofs.YtmioifcbkhpdaaaGreat
set_option maxHeartbeats 16000000
set_option maxRecDepth 100000
open Go.RowKit
theorem zK (b o i : Nat) : (⟨b, o, none⟩ : Addr).add i = ⟨b, o + i, none⟩ := by unfold Addr.add; split <;> simp_all
structure Byt (w : World) (S : Nat → Prop) (A : Option Addr) (n c : Nat) (l : List UInt8) : Prop where
 len : l.length = n
 cap : n ≤ c
 max : c ≤ maxLen
 row : 0 < n → ∃ b off, A = some ⟨b, off, none⟩ ∧ S b ∧ b < w.heap.size ∧ ∀ i, i < n → w.cell? ⟨b, off + i, none⟩ = some (.int .u8 ((l[i]?.getD 0).toNat : Int))
section
variable {w w' : World} {S : Nat → Prop} {A : Option Addr} {n c : Nat} {l : List UInt8}
theorem Byt.keep (h : Byt w S A n c l) (hs : w.heap.size ≤ w'.heap.size) (hk : ∀ b o, b < w.heap.size → w'.cell? ⟨b, o, none⟩ = w.cell? ⟨b, o, none⟩) : Byt w' S A n c l :=
 ⟨h.len, h.cap, h.max, fun h0 => by
   obtain ⟨b, off, hA, hB, hb, hc⟩ := h.row h0;exact ⟨b, off, hA, hB, by omega, fun i hi => (hk _ _ hb).trans (hc i hi)⟩⟩
theorem Byt.below (h : Byt w S A n c l) (hb : Below w.heap.size w w') : Byt w' S A n c l := h.keep hb.size fun _ _ hlt => hb.cell (p := ⟨_, _, none⟩) hlt
theorem Byt.alloc (h : Byt w S A n c l) (o : Obj) : Byt (w.alloc o) S A n c l := h.below ((Below.refl _ _).alloc (Nat.le_refl _) o)
theorem Byt.drew (h : Byt w S A n c l) : Byt w.drew S A n c l := ⟨h.len, h.cap, h.max, h.row⟩
theorem Byt.mono {T : Nat → Prop} (h : Byt w S A n c l) (hB : ∀ b, b < w.heap.size → S b → T b) : Byt w T A n c l :=
 ⟨h.len, h.cap, h.max, fun h0 => by
   obtain ⟨b, off, hA, hB', hb, hc⟩ := h.row h0;exact ⟨b, off, hA, hB b hb hB', hb, hc⟩⟩
theorem Byt.drop (h : Byt w S A n c l) {k : Nat} (hk : k ≤ n) : Byt w S (if c = k then A else A.map (·.add k)) (n - k) (c - k) (l.drop k) :=
 ⟨by rw [List.length_drop, h.len], by have := h.cap; omega, by have := h.max; omega, fun h0 => by
   obtain ⟨b, off, rfl, hB, hb, hc⟩ := h.row (by omega);have := h.cap;rw [if_neg (by omega)];refine ⟨b, off + k, by simp [zK], hB, hb, fun i hi => ?_⟩;rw [Nat.add_assoc, hc (k + i) (by omega), List.getElem?_drop]⟩
theorem Byt.take (h : Byt w S A n c l) {k : Nat} (hk : k ≤ n) : Byt w S A k k (l.take k) :=
 ⟨by rw [List.length_take, h.len]; omega, Nat.le_refl _, by have := h.cap; have := h.max; omega, fun h0 => by
   obtain ⟨b, off, rfl, hB, hb, hc⟩ := h.row (by omega);refine ⟨b, off, rfl, hB, hb, fun i hi => ?_⟩;rw [hc i (by omega), List.getElem?_take_of_lt hi]⟩
theorem Byt.nil (w : World) (S : Nat → Prop) (A : Option Addr) (c : Nat) (hc : c ≤ maxLen) : Byt w S A 0 c [] := ⟨rfl, Nat.zero_le _, hc, fun h => absurd h (by omega)⟩
theorem Byt.far (h : Byt w S A n c l) {p j : Nat} (hp : ∀ o x, w.cell? ⟨p, o, none⟩ ≠ some (.int .u8 x)) (u : Value) : Byt (w.setCell ⟨p, j, none⟩ u) S A n c l :=
 ⟨h.len, h.cap, h.max, fun h0 => by
   obtain ⟨b, off, hA, hB, hb, hc⟩ := h.row h0;(have hne : b ≠ p := by rintro rfl; exact hp _ _ (hc 0 h0));refine ⟨b, off, hA, hB, by simpa [World.setCell] using hb, fun i hi => (World.cell?_of_block (w := w) (a := ⟨b, off + i, none⟩) (Below.heap_setCell _ _ _ _ hne)).trans (hc i hi)⟩⟩
theorem Byt.grown (h : Byt w S A n c l) {row : Option Nat} (hg : w.grownBy w' row) (hr : ∀ g, row = some g → ¬ S g ∨ ∀ o x, w.cell? ⟨g, o, none⟩ ≠ some (.int .u8 x)) : Byt w' S A n c l :=
 ⟨h.len, h.cap, h.max, fun h0 => by
   obtain ⟨b, off, hA, hB, hb, hc⟩ := h.row h0
   have hne : some b ≠ row := by
    rintro rfl;rcases hr b rfl with h1 | h1
    ·exact h1 hB
    ·exact h1 _ _ (hc 0 h0)
   exact ⟨b, off, hA, hB, Nat.lt_of_lt_of_le hb hg.size, fun i hi => (World.cell?_of_block (w := w) (a := ⟨b, off + i, none⟩) (hg.block b hb hne)).trans (hc i hi)⟩⟩
end
/-! Only one block of the old ones may have turned. -/
theorem gr_refl (w : World) (row : Option Nat) : w.grownBy w row := ⟨rfl, rfl, rfl, Nat.le_refl _, fun _ _ _ => rfl⟩
theorem gr_trans {a b c : World} {row : Option Nat} (h : a.grownBy b row) (k : b.grownBy c row) : a.grownBy c row :=
 ⟨k.os.trans h.os, k.tape.trans h.tape, k.output.trans h.output, Nat.le_trans h.size k.size, fun i hi hne => (k.block i (Nat.lt_of_lt_of_le hi h.size) hne).trans (h.block i hi hne)⟩
theorem gr_set {a w : World} {p : Nat} (h : a.grownBy w (some p)) (j : Nat) (u : Value) : a.grownBy (w.setCell ⟨p, j, none⟩ u) (some p) :=
 ⟨h.os, h.tape, h.output, by simpa [World.setCell] using h.size, fun i hi hne => (Below.heap_setCell w ⟨p, j, none⟩ u i (fun e => hne (by rw [e]))).trans (h.block i hi hne)⟩
theorem gr_below {a b c : World} {row : Option Nat} (h : a.grownBy b row) (k : Below b.heap.size b c) : a.grownBy c row :=
 ⟨k.os.trans h.os, k.tape.trans h.tape, k.output.trans h.output, Nat.le_trans h.size k.size, fun i hi hne => (k.block i (Nat.lt_of_lt_of_le hi h.size)).trans (h.block i hi hne)⟩
structure Turned (S : Nat → Prop) (w w' : World) : Prop where
 os : w'.os = w.os
 tape : w'.tape = w.tape
 output : w'.output = w.output
 size : w.heap.size ≤ w'.heap.size
 block : ∀ k, k < w.heap.size → ¬ S k → w'.heap[k]? = w.heap[k]?
theorem Turned.refl (S : Nat → Prop) (w : World) : Turned S w w := ⟨rfl, rfl, rfl, Nat.le_refl _, fun _ _ _ => rfl⟩
theorem Turned.of_gr {S : Nat → Prop} {w w' : World} {row : Option Nat} (h : w.grownBy w' row) (hr : ∀ g, row = some g → S g) : Turned S w w' :=
 ⟨h.os, h.tape, h.output, h.size, fun k hk hs => h.block k hk (fun e => hs (hr k e.symm))⟩
theorem Turned.of_below {S : Nat → Prop} {w w' : World} (h : Below w.heap.size w w') : Turned S w w' := ⟨h.os, h.tape, h.output, h.size, fun k hk _ => h.block k hk⟩
theorem Turned.trans {S T : Nat → Prop} {a b c : World} (h : Turned S a b) (k : Turned T b c) (hT : ∀ i, i < a.heap.size → T i → S i) : Turned S a c :=
 ⟨k.os.trans h.os, k.tape.trans h.tape, k.output.trans h.output, Nat.le_trans h.size k.size, fun i hi hs => (k.block i (Nat.lt_of_lt_of_le hi h.size) (fun ht => hs (hT i hi ht))).trans (h.block i hi hs)⟩
theorem Turned.mono {S T : Nat → Prop} {a b : World} (h : Turned S a b) (hT : ∀ i, i < a.heap.size → S i → T i) : Turned T a b :=
 ⟨h.os, h.tape, h.output, h.size, fun i hi hs => h.block i hi (fun ht => hs (hT i hi ht))⟩
theorem Turned.below {a b : World} {B : Nat} (h : Turned (B ≤ ·) a b) (hB : B ≤ a.heap.size) : Below B a b :=
 ⟨h.os, h.tape, h.output, h.size, fun i hi => h.block i (by omega) (by omega)⟩
theorem Turned.set {S : Nat → Prop} {a w : World} (h : Turned S a w) {p : Nat} (hp : S p) (j : Nat) (u : Value) : Turned S a (w.setCell ⟨p, j, none⟩ u) :=
 ⟨h.os, h.tape, h.output, by simpa [World.setCell] using h.size, fun i hi hs => (Below.heap_setCell w ⟨p, j, none⟩ u i (by rintro rfl; exact hs hp)).trans (h.block i hi hs)⟩
theorem Turned.alloc {S : Nat → Prop} {a w : World} (h : Turned S a w) (o : Obj) : Turned S a (w.alloc o) :=
 ⟨h.os, h.tape, h.output, Nat.le_trans h.size (by simp), fun i hi hs => (Below.heap_alloc w o i (Nat.lt_of_lt_of_le hi h.size)).trans (h.block i hi hs)⟩
theorem Turned.drew {S : Nat → Prop} {a w : World} (h : Turned S a w) : Turned S a w.drew := ⟨h.os, h.tape, h.output, h.size, h.block⟩
theorem Byt.turned {w w' : World} {S T : Nat → Prop} {A : Option Addr} {n c : Nat} {l : List UInt8} (h : Byt w S A n c l) (ht : Turned T w w') (hd : ∀ b, b < w.heap.size → S b → ¬ T b) : Byt w' S A n c l :=
 ⟨h.len, h.cap, h.max, fun h0 => by
   obtain ⟨b, off, hA, hB, hb, hc⟩ := h.row h0;exact ⟨b, off, hA, hB, Nat.lt_of_lt_of_le hb ht.size, fun i hi => (World.cell?_of_block (w := w) (a := ⟨b, off + i, none⟩) (ht.block b hb (hd b hb hB))).trans (hc i hi)⟩⟩
def u8s (l : List UInt8) : List Value := l.map fun c => .int .u8 (c.toNat : Int)
theorem zn (l : List UInt8) : (u8s l).length = l.length := by simp [u8s]
theorem yt (l m : List UInt8) : u8s (l ++ m) = u8s l ++ u8s m := by simp [u8s]
theorem u8s_one (l : List UInt8) : ∀ u ∈ u8s l, u.oneCell' = true := by
 intro u hu;obtain ⟨x, _, rfl⟩ := List.mem_map.1 hu;rfl
def xO (w : World) (A : Option Addr) : Prop := ∀ a, A = some a → a.block < w.heap.size ∧ ∀ i, w.frozen? ⟨a.block, i, none⟩ = false
theorem xO.none_ (w : World) : xO w none := fun a h => by cases h
theorem own_free {w : World} {B : Nat} {e : TypeId} {size : Nat} {A : Option Addr} {n c : Nat} {xs : List Value} (h : w.ownsRow B e size (.slice A n c) n xs) : xO w A := by
 intro a ha;rcases h.2 with ⟨hv, _⟩ | ⟨g, cap, cur, hv, _, hg, _⟩
 ·injection hv with h1; rw [h1] at ha; cases ha
 ·injection hv with h1
  rw [h1] at ha;injection ha with ha
  subst ha;exact ⟨(Array.getElem?_eq_some_iff.1 hg).1, fun i => by simp [World.frozen?, hg]⟩
theorem own_byt {w : World} {B : Nat} {e : TypeId} {v : Value} {n : Nat} {l : List UInt8} (h : w.ownsRow B e 1 v n (u8s l)) : ∃ A c, v = .slice A n c ∧ Byt w (B ≤ ·) A n c l := by
 have hl : l.length = n := by have := h.1; rw [zn] at this; omega
 rcases h.2 with ⟨rfl, rfl⟩ | ⟨g, cap, cur, rfl, hb, hg, hn, hm, _, _⟩
 ·have : l = [] := List.eq_nil_of_length_eq_zero hl;subst this;exact ⟨none, 0, rfl, Byt.nil _ _ _ _ (Nat.zero_le _)⟩
 ·refine ⟨_, cap, rfl, hl, hn, hm, fun _ => ⟨g, 0, rfl, hb, (Array.getElem?_eq_some_iff.1 hg).1, fun i hi => ?_⟩⟩
  have := h.cells (g := g) rfl i (.int .u8 ((l[i]?.getD 0).toNat : Int)) (by
   (have hil : i < l.length := by omega);simp [u8s, List.getElem?_map, List.getElem?_eq_getElem hil])
  rw [zK] at this;exact this
theorem xF {w : World} {S : Nat → Prop} {n c : Nat} {ad : Addr} {l : List UInt8} (h : Byt w S (some ad) n c l) : ∀ j u, (u8s l)[j]? = some u → w.cell? (ad.add j) = some u := by
 intro j u hj
 have hjl : j < l.length := by
  have := (List.getElem?_eq_some_iff.1 hj).1
  rwa [zn] at this
 obtain ⟨b, off, hA, _, _, hc⟩ := h.row (by have := h.len; omega);obtain rfl : ad = ⟨b, off, none⟩ := by injection hA
 rw [zK, hc j (by have := h.len; omega)];rw [← hj];simp [u8s, List.getElem?_map, List.getElem?_eq_getElem hjl]
def cutA (A : Option Addr) (c k : Nat) : Option Addr := if c = k then A else A.map (·.add k)
theorem Byt.cut {w : World} {S : Nat → Prop} {n c k : Nat} {A : Option Addr} {l : List UInt8} (h : Byt w S A n c l) (hk : k ≤ n) : Byt w S (cutA A c k) (n - k) (c - k) (l.drop k) := h.drop hk
theorem run_cut {P : Program} (t e : TypeId) (ht : P.underlying t = some (.slice e)) (hz : ∀ w, (Go.sizeOf e).run P w = .ok 1 w) (A : Option Addr) (n c k : Nat) (hk : k ≤ n) (W : World) :
    (Instr.slice t (.slice A n c) (some (.int .i64 (k : Int))) none none).run P W = .ok (.slice (cutA A c k) (n - k) (c - k)) W := by
 have ht' : P.underlying t = some (.slice (P.elem t)) := by simp [Program.elem, ht]
 have he : P.elem t = e := by simp [Program.elem, ht]
 rw [run_slice_l W t A n c ht' .i64 (k : Int) (by omega) (by omega), he, hz];simp [Result.andThen, sliced, cutA]
theorem run_front {P : Program} (t e : TypeId) (ht : P.underlying t = some (.slice e)) (hz : ∀ w, (Go.sizeOf e).run P w = .ok 1 w) (A : Option Addr) (n c k : Nat) (hk : k ≤ c) (W : World) :
    (Instr.slice t (.slice A n c) none (some (.int .i64 (k : Int))) (some (.int .i64 (k : Int)))).run P W = .ok (.slice A k k) W := by
 have ht' : P.underlying t = some (.slice (P.elem t)) := by simp [Program.elem, ht]
 have he : P.elem t = e := by simp [Program.elem, ht]
 rw [run_slice_hm W t A n c ht' .i64 .i64 (k : Int) (k : Int) (by omega) (by omega) (by omega), he, hz];have h0 : ∀ a : Addr, a.add 0 = a := fun a => by simp [Addr.add]
 cases A <;> simp [Result.andThen, sliced, h0]
section
variable {w w' : World} {p : Nat}
theorem zB {cs : Array Value} {t : TypeId} {f : Nat × Nat} (h : w.heap[p]? = some (.cells cs t f)) : p < w.heap.size := (Array.getElem?_eq_some_iff.1 h).1
theorem zA {cs : Array Value} {t : TypeId} {f : Nat × Nat} (h : w.heap[p]? = some (.cells cs t f)) (i : Nat) : w.cell? ⟨p, i, none⟩ = cs[i]? := cell_of_row w p i cs t f h
theorem zC {cs : Array Value} {t : TypeId} (h : w.heap[p]? = some (.cells cs t (0, 0))) (i : Nat) : w.frozen? ⟨p, i, none⟩ = false := by simp [World.frozen?, h]
theorem zG {cs : Array Value} {t : TypeId} {f : Nat × Nat} (h : w.heap[p]? = some (.cells cs t f)) (i : Nat) (u : Value) : (w.setCell ⟨p, i, none⟩ u).heap[p]? = some (.cells (cs.setIfInBounds i u) t f) := by
 simp [World.setCell, Array.getElem?_modify, h]
end
theorem u8_size : ∀ w, (Go.sizeOf 5).run Tryz.prog w = .ok 1 w := fun w => by kernel_rfl
theorem zF {w : World} {g : Nat} {cs new : Array Value} {t : TypeId} (h : w.heap[g]? = some (.cells cs t (0, 0))) : (w.setRow g new).heap[g]? = some (.cells new t (0, 0)) := by
 simp [World.setRow, Array.getElem?_modify, h]
theorem zD {a w : World} {B : Nat} (h : Below B a w) {g : Nat} (hg : B ≤ g) (cs : Array Value) : Below B a (w.setRow g cs) :=
 ⟨h.os, h.tape, h.output, by simpa [World.setRow] using h.size, fun i hi => by
   rw [← h.block i hi];simp only [World.setRow, Array.getElem?_modify];rw [if_neg (by omega)]⟩
theorem yW {B : Nat} {a w : World} (h : Below B a w) (k : Nat) : Below B a (w.drewN k) := ⟨h.os, h.tape, h.output, h.size, h.block⟩
theorem yG {B : Nat} {a w : World} (h : Below B a w) : Below B a w.drew := ⟨h.os, h.tape, h.output, h.size, h.block⟩
theorem u8s_set (l : List UInt8) (i : Nat) (x : UInt8) : (u8s l).set i (.int .u8 (x.toNat : Int)) = u8s (l.set i x) := by simp [u8s, List.map_set]
theorem u8s_cells_set {w : World} {p : Nat} {l : List UInt8} {t : TypeId} (h : w.heap[p]? = some (.cells (u8s l).toArray t (0, 0))) (i : Nat) (x : UInt8) :
    (w.setCell ⟨p, i, none⟩ (.int .u8 (x.toNat : Int))).heap[p]? = some (.cells (u8s (l.set i x)).toArray t (0, 0)) := by
 rw [zG h, ← u8s_set];simp
theorem u8s_cell {w : World} {p : Nat} {l : List UInt8} {t : TypeId} (h : w.heap[p]? = some (.cells (u8s l).toArray t (0, 0))) (i : Nat) (hi : i < l.length) :
    w.cell? ⟨p, i, none⟩ = some (.int .u8 ((l[i]?.getD 0).toNat : Int)) := by
 rw [zA h, List.getElem?_toArray];simp [u8s, List.getElem?_map, List.getElem?_eq_getElem hi]
theorem str_of (l : List UInt8) : strOfNums (l.map fun c => (c.toNat : Int)) = ⟨l.toArray⟩ := by
 unfold strOfNums
 congr 2
 rw [List.map_map]
 conv => rhs; rw [← List.map_id l]
 apply List.map_congr_left;intro c _;simp
theorem yM {w : World} {S : Nat → Prop} {A : Option Addr} {n c : Nat} {l : List UInt8} (h : Byt w S A n c l) : (convert 54 9 (.slice A n c)).run Tryz.prog w = .ok (.string ⟨l.toArray⟩) w := by
 have hl := h.len
 by_cases h0 : 0 < n
 ·obtain ⟨b, off, rfl, _, _, hc⟩ := h.row h0
  have := run_convert_bytes_arg (P := Tryz.prog) w 54 5 Tryz.underlying54 Tryz.underlying5 b off n c (l.map fun c => (c.toNat : Int)) (by simp [hl]) (fun i hi => by
   rw [hc i hi];simp [List.getD, List.getElem?_map, List.getElem?_eq_getElem (show i < l.length by omega)]) 9 Tryz.underlying9
  rw [this, str_of]
 ·have : n = 0 := by omega
  subst this;have : l = [] := List.eq_nil_of_length_eq_zero hl;subst this;rcases A with _ | ad
  ·rw [run_convert_bytes_nil w 54 5 Tryz.underlying54 Tryz.underlying5 0 c 9 Tryz.underlying9];rfl
  ·rw [run_convert_bytes_string w 54 9 5 (some ad) 0 c Tryz.underlying54 Tryz.underlying5 Tryz.underlying9, run_bytesToString w ad 0 c [] (by simp [loadCells, loadCellsFrom])];rfl
theorem byt_new {w : World} (l : List UInt8) (t : TypeId) (f : Nat × Nat) (hl : l.length ≤ 1000000) : Byt (w.alloc (.cells (u8s l).toArray t f)) (fun _ => True) (some ⟨w.heap.size, 0, none⟩) l.length l.length l :=
 ⟨rfl, Nat.le_refl _, by unfold maxLen; omega, fun _ => ⟨w.heap.size, 0, rfl, trivial, by simp, fun i hi => by
   rw [zA (heap_alloc_new w _), Nat.zero_add, List.getElem?_toArray];simp [u8s, List.getElem?_map, List.getElem?_eq_getElem hi]⟩⟩
theorem byt_whole {w : World} {g : Nat} {l : List UInt8} {t : TypeId} {f : Nat × Nat} (h : w.heap[g]? = some (.cells (u8s l).toArray t f)) (hl : l.length ≤ 1000000) : Byt w (fun _ => True) (some ⟨g, 0, none⟩) l.length l.length l :=
 ⟨rfl, Nat.le_refl _, by unfold maxLen; omega, fun _ => ⟨g, 0, rfl, trivial, zB h, fun i hi => by
   rw [zA h, Nat.zero_add, List.getElem?_toArray];simp [u8s, List.getElem?_map, List.getElem?_eq_getElem hi]⟩⟩
def zy (l : List UInt8) : Array Value := (u8s l).toArray
theorem yh (l : List UInt8) : (zy l).size = l.length := by simp [zy, zn]
theorem yx (l : List UInt8) : (zy l).all (·.oneCell') = true := all_oneCell_toArray (u8s_one l)
theorem run_to {P : Program} (t e : TypeId) (ht : P.underlying t = some (.slice e)) (hz : ∀ w, (Go.sizeOf e).run P w = .ok 1 w) (A : Option Addr) (n c k : Nat) (hk : k ≤ c) (W : World) :
    (Instr.slice t (.slice A n c) none (some (.int .i64 (k : Int))) none).run P W = .ok (.slice A k c) W := by
 have ht' : P.underlying t = some (.slice (P.elem t)) := by simp [Program.elem, ht]
 have he : P.elem t = e := by simp [Program.elem, ht]
 rw [run_slice_h W t A n c ht' .i64 (k : Int) (by omega) (by omega), he, hz];have h0 : ∀ a : Addr, a.add 0 = a := fun a => by simp [Addr.add]
 cases A <;> simp [Result.andThen, sliced, h0]
theorem Byt.to {w : World} {S : Nat → Prop} {A : Option Addr} {n c k : Nat} {l : List UInt8} (h : Byt w S A n c l) (hk : k ≤ n) : Byt w S A k c (l.take k) :=
 ⟨by rw [List.length_take, h.len]; omega, by have := h.cap; omega, h.max, fun h0 => by
   obtain ⟨b, off, rfl, hB, hb, hc⟩ := h.row (by omega);refine ⟨b, off, rfl, hB, hb, fun i hi => ?_⟩;rw [hc i (by omega), List.getElem?_take_of_lt hi]⟩
theorem u8_info : (Tryz.prog.info? 5).map (fun i => (i.zero, i.size, i.bytes)) = some (some (.int .u8 0), 1, 1) := by kernel_rfl
def st (l : List UInt8) : ByteArray := ⟨l.toArray⟩
theorem zN (l : List UInt8) : (st l).size = l.length := by simp [st, ByteArray.size]
theorem wpList_built {P : Program} {ops : Array Oper} {rest : List Oper} {o : Oper} {a : Act} {w : World} {Q : Exit → Act → World → Prop} (hg : o.guard = none) (t : TypeId) (parts : Array (Nat × Operand)) (ho : o.op = .build t parts)
    (vs : List (Nat × Value)) (hv : (parts.map fun (i, x) => (i, a.eval x)).toList = vs) (Z : Array Value) (hb : P.built t vs = some Z) (h : wpList P ops Q rest (a.put o.dst (.agg Z)) w) : wpList P ops Q (o :: rest) a w := by
 refine wpList_build hg t parts ho (by rw [hv, hb]; rfl) ?_;rw [hv, hb];exact h
theorem exec_load_st {P : Program} {E : Operand → Value} {o : Oper} {W : World} {t : TypeId} (ty : TypeId) (x : Operand) (ho : o.op = .load ty x) (g : Nat) (hx : E x = .pointer (some ⟨g, 0, none⟩)) (cells : Array Value) (f : Nat × Nat) (hg : W.heap[g]? = some (.cells cells t f)) (d : TypeDesc)
    (hu : P.underlying ty = some d) (hd : (match d with | .struct _ | .array _ _ => true | _ => false) = true) (hi : (P.info? ty).map (·.size) = some cells.size) : (execOp E o).run P W = .ok (.value (.agg cells)) W := by
 unfold execOp;simp only [ho, hx, Instr.loadAt, Instr.sureAddr, Sem.run_bind, Sem.run_pure, Result.andThen_ok, run_loadVar_row W g t ty cells f d hg hu hd hi]
theorem eff_store_row {P : Program} {ops : Array Oper} {Q : Exit → Act → World → Prop} {i : Nat} {o : Oper} {K : Act → World → Prop} {a : Act} {w : World} (ho : ops.toList[i]? = some o) (hgd : o.guard = none) (ty : TypeId) (x y : Operand) (hop : o.op = .store ty x y)
    (g : Nat) (cells : Array Value) (hx : a.eval x = .pointer (some ⟨g, 0, none⟩)) (hy : a.eval y = .agg cells) (t : TypeId) (old : Array Value) (hg : w.heap[g]? = some (.cells old t (0, 0))) (hi : (P.info? ty).map (·.size) = some cells.size)
    (hold : old.size = cells.size) (h1 : cells.all (·.oneCell') = true) (h : K (a.put o.dst undef) (w.setRow g cells)) : wpOp P ops Q i K a w :=
 zr ho fun K' hK' => by
  rw [if_pos (by unfold Region.wanted; rw [hgd])];exact wp_store_row ty x y hop g cells hx hy t old hg hi hold h1 (hK' _ _ h)
end Go.Proofs.YtmioifcbkhpdaaaGreat
