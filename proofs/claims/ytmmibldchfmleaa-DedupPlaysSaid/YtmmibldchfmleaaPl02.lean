/-
  Dedup: maps whose keys are ids, in memory; ranges over them.
-/
import Derived.WalkKit
import Derived.OrdersHeld
import Derived.RegionTactic
import Derived.Lib.Hide
import Derived.Test.YtmmibldchfmleaaPl01
import Derived.Laws.Cover3
import Derived.Deep.Strs
import Derived.Maps.OwnSet
import Derived.Maps.RangeWalk
import Derived.Sort.KeysCollected
import Derived.DeepKeys5
namespace Go.Proofs.Ytmmibldchfmleaa
open Go.RowKit
section
variable {P : Program} {ops : Array Oper} {Q : Exit → Act → World → Prop} {md : Region.Mode}
def wpSeg (P : Program) (ops : Array Oper) (C : World → Prop) (Q' : Act → Prop) : List Nat → Act → Prop
 | [], a => Q' a
 | i :: r, a => ∃ o v, ops[i]? = some o ∧ YieldsIf P ops C o v a ∧ wpSeg P ops C Q' r (a.put o.dst v)
def segB (md : Region.Mode) (ops : Array Oper) : Array Bool → List Nat → Bool
 | _, [] => true
 | listed, i :: r => (Region.ready md ops listed).contains i && Region.free md ops listed i && segB md ops (listed.setIfInBounds i true) r
def listedBy : Array Bool → List Nat → Array Bool
 | listed, [] => listed
 | listed, i :: r => listedBy (listed.setIfInBounds i true) r
def wpPlan (P : Program) (ops : Array Oper) (Q : Exit → Act → World → Prop) : (World → Prop) → List (List Nat × Nat) → List Nat → Act → World → Prop
 | C, [], q, a, w => wpSeg P ops C (fun a' => Q .normal a' w) q a
 | C, (q1, e) :: r, q, a, w => wpSeg P ops C (fun a1 => wpOp P ops Q e (fun a2 w2 => ∃ C' : World → Prop, C' w2 ∧ (∀ W, C' W → C W) ∧ wpPlan P ops Q C' r q a2 w2) a1 w) q1 a
def planB (md : Region.Mode) (ops : Array Oper) : Array Bool → List (List Nat × Nat) → List Nat → Bool
 | listed, [], q => segB md ops listed q && (Region.ready md ops (listedBy listed q)).isEmpty
 | listed, (q1, e) :: r, q => segB md ops listed q1 && (Region.ready md ops (listedBy listed q1) == [e]) && planB md ops ((listedBy listed q1).setIfInBounds e true) r q
theorem wpAnyH_mono {S S' : World → Prop} (hS : ∀ W, S' W → S W) : ∀ (fuel : Nat) (listed : Array Bool) (a : Act) (w : World), wpAnyH P md ops Q S' fuel listed a w → wpAnyH P md ops Q S fuel listed a w
 | 0, _, _, _, h => h
 | fuel + 1, _, _, _, h => ⟨h.1, fun i hi => wpOp_mono (fun _ _ h' => ⟨hS _ h'.1, wpAnyH_mono hS fuel _ _ _ h'.2⟩) (h.2 i hi)⟩
theorem wpAnyH_seg {C : World → Prop} {Q' : Act → Prop} (hs : Region.noSelect ops = true) (hQ : ∀ c a d v w, Q (.panic c) (Act.put a d v) w → Q (.panic c) a w) {fuel : Nat} {w : World} (hC : C w) :
    ∀ (q : List Nat) (listed : Array Bool) (a : Act), segB md ops listed q = true → wpSeg P ops C Q' q a → (∀ a', Q' a' → wpAnyH P md ops Q C fuel (listedBy listed q) a' w) → wpAnyH P md ops Q C (fuel + q.length) listed a w
 | [], _, _, _, h, hn => hn _ h
 | i :: r, listed, a, hB, h, hn => by
   simp only [segB, Bool.and_eq_true] at hB
   obtain ⟨⟨hr, hf⟩, hB'⟩ := hB
   obtain ⟨o, v, ho, hy, hk⟩ := h
   exact wpAnyH_take (fuel := fuel + r.length) ho hs hf hr (fun c a w => hQ c a o.dst v w) hy hC (wpAnyH_seg hs hQ hC r _ _ hB' hk hn)
theorem wpAnyH_plan (hs : Region.noSelect ops = true) (hQ : ∀ c a d v w, Q (.panic c) (Act.put a d v) w → Q (.panic c) a w) :
    ∀ (plan : List (List Nat × Nat)) (q : List Nat) (C : World → Prop) (listed : Array Bool) (a : Act) (w : World), C w → planB md ops listed plan q = true → wpPlan P ops Q C plan q a w → ∃ fuel, wpAnyH P md ops Q C fuel listed a w ∧ fuel = q.length + (plan.map fun x => x.1.length + 1).sum
 | [], q, C, listed, a, w, hC, hB, h => by
   simp only [planB, Bool.and_eq_true] at hB
   refine ⟨_, wpAnyH_seg (fuel := 0) hs hQ hC q listed a hB.1 h fun a' h' => wpAnyH_done (by simpa using hB.2) h' 0, by simp⟩
 | (q1, e) :: r, q, C, listed, a, w, hC, hB, h => by
   simp only [planB, Bool.and_eq_true, beq_iff_eq] at hB
   obtain ⟨⟨hB1, hB2⟩, hB3⟩ := hB
   refine ⟨_, wpAnyH_seg (fuel := (q.length + (r.map fun x => x.1.length + 1).sum) + 1) hs hQ hC q1 listed a hB1 h fun a' h' => ?_, by simp; omega⟩
   refine wpAnyH_all hB2 (by simp) fun i hi => ?_
   rw [List.mem_singleton.1 hi]
   refine wpOp_mono ?_ h'
   rintro a2 w2 ⟨C', hC', hsub, hp⟩
   obtain ⟨f, hf, rfl⟩ := wpAnyH_plan hs hQ r q C' _ a2 w2 hC' hB3 hp
   exact ⟨hsub _ hC', wpAnyH_mono hsub _ _ _ _ hf⟩
theorem wp_region_plan {id : Nat} {a : Act} {w : World} (C : World → Prop) (plan : List (List Nat × Nat)) (q : List Nat) (hm : P.follows .mixedOrders = true)
    (hB : (Region.noSelect ops && planB .any ops (Array.replicate ops.size false) plan q && (q.length + (plan.map fun x => x.1.length + 1).sum == ops.size)) = true)
    (hQ : ∀ c a d v w, Q (.panic c) (Act.put a d v) w → Q (.panic c) a w) (hC : C w.drew) (h : wpPlan P ops Q C plan q a w.drew) : (Code.region id ops true).wp P Q a w := by
 simp only [Bool.and_eq_true, beq_iff_eq] at hB
 obtain ⟨⟨h1, h2⟩, h3⟩ := hB
 obtain ⟨f, hf, rfl⟩ := wpAnyH_plan (md := .any) h1 hQ plan q C _ a _ hC h2 h
 rw [h3] at hf
 exact wp_region_held hm hf
/-! The steps of a plan. -/
theorem plan_eff {C : World → Prop} {q1 : List Nat} {e : Nat} {r : List (List Nat × Nat)} {q : List Nat} {a : Act} {w : World}
    (h : wpSeg P ops C (fun a1 => wpOp P ops Q e (fun a2 w2 => ∃ C' : World → Prop, C' w2 ∧ (∀ W, C' W → C W) ∧ wpPlan P ops Q C' r q a2 w2) a1 w) q1 a) : wpPlan P ops Q C ((q1, e) :: r) q a w := h
theorem plan_last {C : World → Prop} {q : List Nat} {a : Act} {w : World} (h : wpSeg P ops C (fun a' => Q .normal a' w) q a) : wpPlan P ops Q C [] q a w := h
theorem seg_nil {C : World → Prop} {Q' : Act → Prop} {a : Act} (h : Q' a) : wpSeg P ops C Q' [] a := h
theorem seg_step {C : World → Prop} {Q' : Act → Prop} {i : Nat} {r : List Nat} {a : Act} {o : Oper} (ho : ops.toList[i]? = some o)
    (h : ∀ K : Act → Prop, (∀ a, wpSeg P ops C Q' r a → K a) → if Region.wanted o (yielded ops a.tmps) then ∃ v, (∀ w, C w → (execOp a.eval o).run P w = .ok (.value v) w) ∧ K (a.put o.dst v) else K (a.put o.dst undef)) : wpSeg P ops C Q' (i :: r) a := by
 have ho : ops[i]? = some o := by rw [← ho, Array.getElem?_toList]
 have h1 := h _ (fun _ h => h)
 by_cases hw : Region.wanted o (yielded ops a.tmps) = true
 ·rw [if_pos hw] at h1
  obtain ⟨v, hv, hk⟩ := h1
  exact ⟨o, v, ho, .inl ⟨hw, hv⟩, hk⟩
 ·rw [if_neg hw] at h1
  exact ⟨o, undef, ho, .inr ⟨by simpa using hw, rfl⟩, h1⟩
theorem seg_read {C : World → Prop} {Q' : Act → Prop} {i : Nat} {r : List Nat} {a : Act} {o : Oper} (v : Value) (ho : ops.toList[i]? = some o) (hw : Region.wanted o (yielded ops a.tmps) = true)
    (hv : ∀ w, C w → (execOp a.eval o).run P w = .ok (.value v) w) (h : wpSeg P ops C Q' r (a.put o.dst v)) : wpSeg P ops C Q' (i :: r) a := ⟨o, v, by rw [← ho, Array.getElem?_toList], .inl ⟨hw, hv⟩, h⟩
theorem seg_off {C : World → Prop} {Q' : Act → Prop} {i : Nat} {r : List Nat} {a : Act} {o : Oper} (ho : ops.toList[i]? = some o) (hw : Region.wanted o (yielded ops a.tmps) = false)
    (h : wpSeg P ops C Q' r (a.put o.dst undef)) : wpSeg P ops C Q' (i :: r) a := ⟨o, undef, by rw [← ho, Array.getElem?_toList], .inr ⟨hw, rfl⟩, h⟩
theorem eff_step {i : Nat} {o : Oper} {K : Act → World → Prop} {a : Act} {w : World} (ho : ops.toList[i]? = some o)
    (h : ∀ K' : Act → World → Prop, (∀ a w, K a w → K' a w) → if Region.wanted o (yielded ops a.tmps) = true then Oper.wp P o a w K' Q else K' (a.put o.dst undef) w) : wpOp P ops Q i K a w :=
 wpOp_step (by rw [← ho, Array.getElem?_toList]) h
end
end Go.Proofs.Ytmmibldchfmleaa

namespace Go.Proofs.Ytmmibldchfmleaa
open Go.RowKit
namespace Grow
def dstOf (ops : Array Oper) (j : Nat) : Option Tmp := (ops[j]?).bind (·.dst)
def depB (ops : Array Oper) (i j d : Nat) : Bool :=
 (match ops[i]? with | some o => o.after.any fun e => Region.binds .any e && e.on == j | none => false) && dstOf ops j == some d
def untB (ops : Array Oper) (i d : Nat) : Bool :=
 (List.range ops.size).all fun j => j == i || dstOf ops j != some d || match ops[j]? with | some o => o.after.any (fun e => Region.binds .any e && e.on == i) | none => true
def growB (ops : Array Oper) (n : Nat) : Bool :=
 (List.range ops.size).all fun i => match ops[i]? with
   | none => false
   | some o => (o.after.all fun e => !Region.binds .any e || decide (e.on < i)) &&
     match o.dst with
     | none => true
     | some d => decide (d < n) && (List.range ops.size).all fun j => j == i || dstOf ops j != some d
def runsTo (P : Program) (R : Value → World → Prop) : Result Next → Prop
 | .ok (.value v) w' => R v w'
 | .ok .skip w' => R undef w'
 | .ok (.enter f args) w' => Calls P f args w' fun e w'' => ∃ v, e = .returned v ∧ R v w''
 | _ => False
@[go_sem] theorem runsTo_value (P : Program) (R : Value → World → Prop) (v : Value) (w : World) : runsTo P R (.ok (.value v) w) = R v w := rfl
@[go_sem] theorem runsTo_skip (P : Program) (R : Value → World → Prop) (w : World) : runsTo P R (.ok .skip w) = R undef w := rfl
@[go_sem] theorem runsTo_enter (P : Program) (R : Value → World → Prop) (f : FuncId) (args : Array Value) (w : World) : runsTo P R (.ok (.enter f args) w) = Calls P f args w fun e w'' => ∃ v, e = .returned v ∧ R v w'' := rfl
section
variable (P : Program) (ops : Array Oper) (G : World → World → Prop) (Φ : Nat → Value → World → Prop) (a0 : Act) (w0 : World)
def GStep (i : Nat) : Prop :=
 ∀ (o : Oper), ops[i]? = some o → ∀ (E : Operand → Value) (W : World), (∀ v, E (.const v) = v) → (∀ g, E (.global g) = .pointer (some ⟨g, 0, none⟩)) → (∀ f, E (.func f) = .func (.func f) #[] #[]) → G w0 W →
   (∀ j d, depB ops i j d = true → Φ j (E (.tmp d)) W) → (∀ d, untB ops i d = true → E (.tmp d) = a0.eval (.tmp d)) →
   ((o.guard = none ∨ ∃ g b d, o.guard = some (g, b) ∧ dstOf ops g = some d ∧ E (.tmp d) = .bool b) ∧ runsTo P (fun v W' => G W W' ∧ Φ i v W') ((execOp E o).run P W)) ∨
   ((∃ g b u d, o.guard = some (g, b) ∧ dstOf ops g = some d ∧ E (.tmp d) = u ∧ u ≠ .bool b) ∧ Φ i undef W)
def allBelow (p : Nat → Prop) : Nat → Prop
 | 0 => True
 | n + 1 => allBelow p n ∧ p n
theorem allBelow_at {p : Nat → Prop} : ∀ {n : Nat}, allBelow p n → ∀ i, i < n → p i
 | n + 1, h, i, hi => by
   rcases Nat.lt_succ_iff_lt_or_eq.1 hi with h1 | rfl
   ·exact allBelow_at h.1 i h1
   ·exact h.2
def fin (Q : Exit → Act → World → Prop) (W : World) : List Oper → Nat → Act → Prop
 | [], _, a => Q .normal a W
 | o :: r, j, a => match o.dst with
   | none => (∃ v, Φ j v W) → fin Q W r (j + 1) a
   | some d => ∀ v, Φ j v W → fin Q W r (j + 1) (a.put (some d) v)
def putL (v : Nat → Value) : List Oper → Nat → Act → Act
 | [], _, a => a
 | o :: r, j, a => putL v r (j + 1) (a.put o.dst (v j))
end
section
variable {P : Program} {ops : Array Oper} {Q : Exit → Act → World → Prop} {G : World → World → Prop} {Φ : Nat → Value → World → Prop} {a0 : Act} {w0 : World}
theorem fin_putL {W : World} {v : Nat → Value} : ∀ (l : List Oper) (k : Nat) (a : Act), fin Φ Q W l k a → (∀ j o d, l[j]? = some o → o.dst = some d → Φ (k + j) (v (k + j)) W) → (∀ j o, l[j]? = some o → o.dst = none → ∃ x, Φ (k + j) x W) → Q .normal (putL v l k a) W
 | [], _, _, h, _, _ => h
 | o :: r, k, a, h, hv, hnn => by
   have hrn : ∀ j o', r[j]? = some o' → o'.dst = none → ∃ x, Φ (k + 1 + j) x W := fun j o' hj hd => by
    have := hnn (j + 1) o' (by simpa using hj) hd
    rwa [show k + (j + 1) = k + 1 + j by omega] at this
   have hr : ∀ j o' d, r[j]? = some o' → o'.dst = some d → Φ (k + 1 + j) (v (k + 1 + j)) W := fun j o' d hj hd => by
    have := hv (j + 1) o' d (by simpa using hj) hd
    rwa [show k + (j + 1) = k + 1 + j by omega] at this
   unfold fin at h
   cases hd : o.dst with
   | none =>
     rw [hd] at h
     simp only [putL, hd]
     exact fin_putL r (k + 1) _ (h (hnn 0 o rfl hd)) hr hrn
   | some d =>
     rw [hd] at h
     simp only [putL, hd]
     exact fin_putL r (k + 1) _ (h _ (hv 0 o d rfl hd)) hr hrn
theorem putL_same {a : Act} {v : Nat → Value} : ∀ (l : List Oper) (k : Nat) (b : Act), b.tmps.size = a.tmps.size → b.defers = a.defers →
    (∀ j o d, l[j]? = some o → o.dst = some d → d < a.tmps.size ∧ v (k + j) = a.tmps.getD d undef) → (∀ d, (∀ o ∈ l, o.dst ≠ some d) → b.tmps[d]? = a.tmps[d]?) → putL v l k b = a
 | [], _, b, _, hd, _, h => by
   obtain ⟨t, ds⟩ := b
   obtain ⟨t', ds'⟩ := a
   simp only at hd h
   subst hd
   have : t = t' := Array.ext_getElem? fun i => h i (by simp)
   rw [putL, this]
 | o :: r, k, b, hs, hdf, hv, h => by
   have hr : ∀ j o' d, r[j]? = some o' → o'.dst = some d → d < a.tmps.size ∧ v (k + 1 + j) = a.tmps.getD d undef := fun j o' d hj hd => by
    have := hv (j + 1) o' d (by simpa using hj) hd
    rwa [show k + (j + 1) = k + 1 + j by omega] at this
   rw [putL]
   cases ho : o.dst with
   | none =>
     refine putL_same r (k + 1) _ hs hdf hr fun d hd => h d fun o' ho' => ?_
     rcases List.mem_cons.1 ho' with rfl | h1
     ·rw [ho]; simp
     ·exact hd o' h1
   | some e =>
     refine putL_same r (k + 1) _ (by simpa [Act.put] using hs) hdf hr fun d hd => ?_
     obtain ⟨h1, h2⟩ := hv 0 o e rfl ho
     by_cases hde : e = d
     ·subst hde
      simp only [Act.put, Array.getElem?_setIfInBounds_self, hs]
      rw [if_pos h1, show v k = v (k + 0) from rfl, h2]
      simp [h1]
     ·simp only [Act.put]
      rw [Array.getElem?_setIfInBounds_ne hde]
      refine h d fun o' ho' => ?_
      rcases List.mem_cons.1 ho' with rfl | h3
      ·rw [ho]; simpa using hde
      ·exact hd o' h3
structure Inv (ops : Array Oper) (G : World → World → Prop) (Φ : Nat → Value → World → Prop) (a0 : Act) (w0 : World) (listed : Array Bool) (a : Act) (w : World) : Prop where
 grow : G w0 w
 lsize : listed.size = ops.size
 size : a.tmps.size = a0.tmps.size
 defers : a.defers = a0.defers
 closed : ∀ j o, ops[j]? = some o → listed.getD j false = true → ∀ e ∈ o.after, Region.binds .any e = true → listed.getD e.on false = true
 done : ∀ j o d, ops[j]? = some o → listed.getD j false = true → o.dst = some d → Φ j (a.tmps.getD d undef) w
 doneN : ∀ j o, ops[j]? = some o → listed.getD j false = true → o.dst = none → ∃ v, Φ j v w
 rest : ∀ d, (∀ j o, ops[j]? = some o → listed.getD j false = true → o.dst ≠ some d) → a.tmps[d]? = a0.tmps[d]?
theorem getD_set_ne' {listed : Array Bool} {i j : Nat} (h : i ≠ j) : (listed.setIfInBounds i true).getD j false = listed.getD j false := by
 simp [Array.getD_eq_getD_getElem?, Array.getElem?_setIfInBounds_ne h]
theorem getD_set_same {listed : Array Bool} {i : Nat} (h : i < listed.size) : (listed.setIfInBounds i true).getD i false = true := by
 simp [Array.getD_eq_getD_getElem?, h]
theorem runs_wp {o : Oper} {a : Act} {w : World} {K : Act → World → Prop} {R : Value → World → Prop} (hR : ∀ v w', R v w' → K (a.put o.dst v) w') (h : runsTo P R ((execOp a.eval o).run P w)) : o.wp P a w K Q := by
 unfold Oper.wp
 generalize (execOp a.eval o).run P w = r at h
 unfold runsTo at h
 split at h
 ·exact hR _ _ h
 ·exact hR _ _ h
 ·refine Calls.mono h ?_
  rintro e w'' ⟨v, rfl, hr⟩
  exact hR _ _ hr
 ·exact h.elim
theorem untB_spec {i d : Nat} (h : untB ops i d = true) (j : Nat) (o : Oper) (hj : ops[j]? = some o) (hd : o.dst = some d) : j = i ∨ ∃ e ∈ o.after, Region.binds .any e = true ∧ e.on = i := by
 have hlt := (Array.getElem?_eq_some_iff.1 hj).1
 have h1 := List.all_eq_true.1 h j (List.mem_range.2 hlt)
 simp only [dstOf, hj, Option.bind_some, hd, Bool.or_eq_true, beq_iff_eq, bne_self_eq_false, or_false, Bool.false_eq_true] at h1
 rcases h1 with h1 | h1
 ·exact .inl h1
 ·obtain ⟨e, he, hb⟩ := Array.any_eq_true'.1 h1
  simp only [Bool.and_eq_true, beq_iff_eq] at hb
  exact .inr ⟨e, he, hb.1, hb.2⟩
theorem growB_spec {n i : Nat} (h : growB ops n = true) {o : Oper} (ho : ops[i]? = some o) : (∀ e ∈ o.after, Region.binds .any e = true → e.on < i) ∧ ∀ d, o.dst = some d → d < n ∧ ∀ j o', ops[j]? = some o' → j ≠ i → o'.dst ≠ some d := by
 have hlt := (Array.getElem?_eq_some_iff.1 ho).1
 have h1 := List.all_eq_true.1 h i (List.mem_range.2 hlt)
 simp only [ho, Bool.and_eq_true] at h1
 refine ⟨fun e he hb => ?_, fun d hd => ?_⟩
 ·have := Array.all_eq_true_iff_forall_mem.1 h1.1 e he
  simpa [hb] using this
 ·have h2 := h1.2
  rw [hd] at h2
  simp only [Bool.and_eq_true, decide_eq_true_eq] at h2
  refine ⟨h2.1, fun j o' hj hne hd' => ?_⟩
  have h3 := List.all_eq_true.1 h2.2 j (List.mem_range.2 (Array.getElem?_eq_some_iff.1 hj).1)
  simp [dstOf, hj, hd', hne] at h3
theorem getD_both' {listed : Array Bool} {i : Nat} (h : listed.getD i true = false) : listed.getD i false = false ∧ i < listed.size := by
 rcases Nat.lt_or_ge i listed.size with h' | h'
 ·simp [h'] at h ⊢; exact h
 ·simp [Array.getElem?_eq_none h'] at h
theorem yielded_not {a : Act} {g d : Nat} {b : Bool} {u : Value} (hd : dstOf ops g = some d) (h : a.tmps.getD d undef = u) (hne : u ≠ .bool b) : (yielded ops a.tmps g == some b) = false := by
 rw [beq_eq_false_iff_ne]
 intro hy
 unfold yielded at hy
 unfold dstOf at hd
 rw [hd] at hy
 simp only [Option.bind_some] at hy
 split at hy
 ·rename_i b' hb'
  injection hy with hy
  subst hy
  apply hne
  rw [← h, Array.getD_eq_getD_getElem?, hb']
  rfl
 ·cases hy
theorem yielded_of {a : Act} {g d : Nat} {b : Bool} (hd : dstOf ops g = some d) (h : a.tmps.getD d undef = .bool b) : yielded ops a.tmps g = some b := by
 have hs : a.tmps[d]? = some (.bool b) := by
  rw [Array.getD_eq_getD_getElem?] at h
  cases ht : a.tmps[d]? with
  | none => rw [ht] at h; simp [undef] at h
  | some v => rw [ht] at h; simp at h; rw [h]
 unfold yielded
 unfold dstOf at hd
 rw [hd]
 simp [hs]
theorem step_inv {n i : Nat} {listed : Array Bool} {a : Act} {w : World} (hB : growB ops n = true) (hn : a0.tmps.size = n) (htr : ∀ A B C, G A B → G B C → G A C) (hmono : ∀ j v W W', Φ j v W → G W W' → Φ j v W') (hrefl : ∀ W, G W W)
    (hI : Inv ops G Φ a0 w0 listed a w) (hi : i ∈ Region.ready .any ops listed) (hs : GStep P ops G Φ a0 w0 i) : wpOp P ops Q i (fun a' w' => Inv ops G Φ a0 w0 (listed.setIfInBounds i true) a' w') a w := by
 obtain ⟨hun, o, ho, hall⟩ := mem_ready.1 hi
 obtain ⟨hun, hil⟩ := getD_both' hun
 obtain ⟨hB1, hB2⟩ := growB_spec hB ho
 have hnew : ∀ v w', G w w' → Φ i v w' → Inv ops G Φ a0 w0 (listed.setIfInBounds i true) (a.put o.dst v) w' := by
  intro v w' hg hv
  have hmon : ∀ j, listed.getD j false = true → (listed.setIfInBounds i true).getD j false = true := fun j hj => by
   by_cases hji : i = j
   ·subst hji; exact getD_set_same hil
   ·rw [getD_set_ne' hji]; exact hj
  refine ⟨htr _ _ _ hI.grow hg, by simpa using hI.lsize, ?_, ?_, ?_, ?_, ?_, ?_⟩
  ·cases hd : o.dst <;> simp [Act.put, hI.size]
  ·cases hd : o.dst <;> simp [Act.put, hI.defers]
  ·intro j o' hj hl e he hb
   by_cases hji : i = j
   ·subst hji
    obtain rfl : o = o' := by rw [ho] at hj; exact Option.some.inj hj
    exact hmon _ (hall e he hb)
   ·rw [getD_set_ne' hji] at hl
    exact hmon _ (hI.closed j o' hj hl e he hb)
  ·intro j o' d hj hl hd
   by_cases hji : i = j
   ·subst hji
    obtain rfl : o = o' := by rw [ho] at hj; exact Option.some.inj hj
    have := (hB2 d hd).1
    rw [hd]
    have e : (a.put (some d) v).tmps.getD d undef = v := by
     simp only [Act.put, Array.getD_eq_getD_getElem?, Array.getElem?_setIfInBounds_self, hI.size, hn]
     rw [if_pos this]; rfl
    rw [e]
    exact hv
   ·rw [getD_set_ne' hji] at hl
    have h1 := hmono _ _ _ _ (hI.done j o' d hj hl hd) hg
    cases hdo : o.dst with
    | none => simpa [Act.put] using h1
    | some e =>
      have hne : e ≠ d := by
       rintro rfl
       exact (hB2 e hdo).2 j o' hj (fun h => hji h.symm) hd
      have e1 : (a.put (some e) v).tmps.getD d undef = a.tmps.getD d undef := by
       simp only [Act.put, Array.getD_eq_getD_getElem?, Array.getElem?_setIfInBounds_ne hne]
      rw [e1]; exact h1
  ·intro j o' hj hl hd
   by_cases hji : i = j
   ·subst hji
    exact ⟨v, hv⟩
   ·rw [getD_set_ne' hji] at hl
    obtain ⟨x, hx⟩ := hI.doneN j o' hj hl hd
    exact ⟨x, hmono _ _ _ _ hx hg⟩
  ·intro d hd
   have h1 := hI.rest d fun j o' hj hl => hd j o' hj (hmon j hl)
   rw [← h1]
   cases hdo : o.dst with
   | none => rfl
   | some e =>
     have hne : e ≠ d := by
      rintro rfl
      exact hd i o ho (getD_set_same hil) hdo
     simp only [Act.put, Array.getElem?_setIfInBounds_ne hne]
 have hst := hs o ho a.eval w (fun _ => rfl) (fun _ => rfl) (fun _ => rfl) hI.grow ?_ ?_
 ·unfold wpOp
  rw [ho]
  show if Region.wanted o (yielded ops a.tmps) = true then _ else _
  rcases hst with ⟨hw, hr⟩ | ⟨⟨g, b, u, d, hg, hd, hE, hne⟩, hu⟩
  ·have hwt : Region.wanted o (yielded ops a.tmps) = true := by
     unfold Region.wanted
     rcases hw with hw | ⟨g, b, d, hg, hd, hE⟩
     ·rw [hw]
     ·rw [hg]
      simp [yielded_of hd hE]
   rw [if_pos hwt]
   exact .inl (runs_wp (fun v w' h => hnew v w' h.1 h.2) hr)
  ·have hwt : Region.wanted o (yielded ops a.tmps) = false := by
     unfold Region.wanted
     rw [hg]
     exact yielded_not hd hE hne
   rw [hwt]
   simp only [Bool.false_eq_true, if_false]
   exact hnew undef w (hrefl w) hu
 ·intro j d hd
  unfold depB at hd
  rw [ho] at hd
  simp only [Bool.and_eq_true, beq_iff_eq] at hd
  obtain ⟨e, he, hb⟩ := Array.any_eq_true'.1 hd.1
  simp only [Bool.and_eq_true, beq_iff_eq] at hb
  obtain ⟨oj, hoj, hdj⟩ := Option.bind_eq_some_iff.1 hd.2
  exact hI.done j oj d hoj (hb.2 ▸ hall e he hb.1) hdj
 ·intro d hd
  have := hI.rest d fun j o' hj hl hdd => by
   rcases untB_spec hd j o' hj hdd with rfl | ⟨e, he, hb, hon⟩
   ·rw [hun] at hl; cases hl
   ·have := hI.closed j o' hj hl e he hb
    rw [hon, hun] at this; cases this
  show a.tmps.getD d undef = a0.tmps.getD d undef
  rw [Array.getD_eq_getD_getElem?, Array.getD_eq_getD_getElem?, this]
theorem all_of_ready {n : Nat} {listed : Array Bool} (hB : growB ops n = true) (hl : listed.size = ops.size) (hr : Region.ready .any ops listed = []) : ∀ i, i < ops.size → listed.getD i false = true := by
 intro i
 induction i using Nat.strongRecOn with
 | _ i ih =>
   intro hi
   cases hc : listed.getD i false with
   | true => rfl
   | false =>
     have ho : ops[i]? = some ops[i] := Array.getElem?_eq_getElem hi
     have : i ∈ Region.ready .any ops listed := by
      refine mem_ready.2 ⟨?_, ops[i], ho, fun e he hb => ?_⟩
      ·have : i < listed.size := by omega
       simp [this] at hc ⊢
       exact hc
      ·have h1 := (growB_spec hB ho).1 e he hb
       exact ih e.on h1 (by omega)
     rw [hr] at this
     cases this
theorem count_set {listed : Array Bool} {i : Nat} (h : listed.getD i true = false) : (listed.setIfInBounds i true).toList.count false + 1 = listed.toList.count false := by
 obtain ⟨h1, h2⟩ := getD_both' h
 have hi : i < listed.toList.length := by simpa using h2
 have hg : listed.toList[i] = false := by simp [h2] at h1; simpa using h1
 have hp : 0 < listed.toList.count false := List.count_pos_iff.2 (hg ▸ List.getElem_mem hi)
 rw [Array.toList_setIfInBounds, List.count_set hi, hg]
 simp
 have := hp
 rw [← Array.count_toList] 
 omega
theorem any_of_inv {n : Nat} (hB : growB ops n = true) (hn : a0.tmps.size = n) (htr : ∀ A B C, G A B → G B C → G A C) (hmono : ∀ j v W W', Φ j v W → G W W' → Φ j v W') (hrefl : ∀ W, G W W)
    (hs : ∀ i, i < ops.size → GStep P ops G Φ a0 w0 i) (hfin : ∀ W, G w0 W → fin Φ Q W ops.toList 0 a0) :
    ∀ (fuel : Nat) (listed : Array Bool) (a : Act) (w : World), Inv ops G Φ a0 w0 listed a w → listed.toList.count false ≤ fuel → wpAny P .any ops Q fuel listed a w := by
 have hend : ∀ (listed : Array Bool) (a : Act) (w : World), Inv ops G Φ a0 w0 listed a w → Region.ready .any ops listed = [] → Q .normal a w := by
  intro listed a w hI hr
  have hall := all_of_ready hB hI.lsize hr
  have hal : ∀ j o, ops[j]? = some o → listed.getD j false = true := fun j o hj => hall j (Array.getElem?_eq_some_iff.1 hj).1
  have hsame : putL (fun j => a.tmps.getD ((dstOf ops j).getD 0) undef) ops.toList 0 a0 = a := by
   refine putL_same (a := a) _ 0 a0 hI.size.symm hI.defers.symm ?_ ?_
   ·intro j o d hj hd
    have hj' : ops[j]? = some o := by rw [← hj, Array.getElem?_toList]
    refine ⟨by rw [hI.size, hn]; exact ((growB_spec hB hj').2 d hd).1, ?_⟩
    have hdd : dstOf ops j = some d := by unfold dstOf; rw [hj']; exact hd
    simp [hdd]
   ·intro d hd
    exact (hI.rest d fun j o hj _ => hd o (by rw [Array.mem_toList_iff]; exact Array.mem_of_getElem? hj)).symm
  rw [← hsame]
  refine fin_putL ops.toList 0 a0 (hfin w hI.grow) ?_ (fun j o hj hd => by
   have hj' : ops[j]? = some o := by rw [← hj, Array.getElem?_toList]
   simpa using hI.doneN j o hj' (hal j o hj') hd)
  intro j o d hj hd
  have hj' : ops[j]? = some o := by rw [← hj, Array.getElem?_toList]
  have hdd : dstOf ops j = some d := by unfold dstOf; rw [hj']; exact hd
  have := hI.done j o d hj' (hal j o hj') hd
  simpa [hdd] using this
 intro fuel
 induction fuel with
 | zero =>
   intro listed a w hI hc
   have hr : Region.ready .any ops listed = [] := by
    rw [List.eq_nil_iff_forall_not_mem]
    intro i hi
    have := count_set (mem_ready.1 hi).1
    omega
   exact ⟨hr, hend _ _ _ hI hr⟩
 | succ fuel ih =>
   intro listed a w hI hc
   refine ⟨hend _ _ _ hI, fun i hi => ?_⟩
   obtain ⟨h1, o, ho, _⟩ := mem_ready.1 hi
   refine wpOp_mono ?_ (step_inv hB hn htr hmono hrefl hI hi (hs i (Array.getElem?_eq_some_iff.1 ho).1))
   intro a' w' hI'
   exact ih _ a' w' hI' (by have := count_set h1; omega)
end
/-! The claims as a list. -/
def nth (L : List (Value → World → Prop)) (j : Nat) : Value → World → Prop := L.getD j fun _ _ => True
def MonoAll (G : World → World → Prop) : List (Value → World → Prop) → Prop
 | [] => True
 | φ :: r => (∀ v W W', φ v W → G W W' → φ v W') ∧ MonoAll G r
theorem mono_nth {G : World → World → Prop} : ∀ {L : List (Value → World → Prop)}, MonoAll G L → ∀ j v W W', nth L j v W → G W W' → nth L j v W'
 | [], _, _, _, _, _, _, _ => trivial
 | _ :: _, h, 0, v, W, W', h1, h2 => h.1 v W W' h1 h2
 | _ :: _, h, j + 1, v, W, W', h1, h2 => mono_nth h.2 j v W W' h1 h2
section
variable {P : Program} {ops : Array Oper} {Q : Exit → Act → World → Prop} {G : World → World → Prop} {Φ : Nat → Value → World → Prop} {a0 : Act} {w0 : World}
theorem step_in {i : Nat} {o : Oper} (ho : ops.toList[i]? = some o) (hg : o.guard = none)
    (h : ∀ (E : Operand → Value) (W : World), (∀ v, E (.const v) = v) → (∀ g, E (.global g) = .pointer (some ⟨g, 0, none⟩)) → (∀ f, E (.func f) = .func (.func f) #[] #[]) → G w0 W →
      (∀ j d, depB ops i j d = true → Φ j (E (.tmp d)) W) → (∀ d, untB ops i d = true → E (.tmp d) = a0.eval (.tmp d)) → ∀ R : Value → World → Prop, Hid (∀ v W', G W W' → Φ i v W' → R v W') → runsTo P R ((execOp E o).run P W)) : GStep P ops G Φ a0 w0 i := by
 intro o' ho' E W h1 h2 h3 h4 h5 h6
 obtain rfl : o = o' := by rw [← Array.getElem?_toList, ho] at ho'; exact Option.some.inj ho'
 exact .inl ⟨.inl hg, h E W h1 h2 h3 h4 h5 h6 _ (Lib.hid fun _ _ a b => ⟨a, b⟩)⟩
theorem step_on {i g d : Nat} {b : Bool} {o : Oper} (ho : ops.toList[i]? = some o) (hg : o.guard = some (g, b)) (hd : dstOf ops g = some d) (hdep : depB ops i g d = true) (hb : ∀ v W, Φ g v W → v = .bool b)
    (h : ∀ (E : Operand → Value) (W : World), (∀ v, E (.const v) = v) → (∀ g, E (.global g) = .pointer (some ⟨g, 0, none⟩)) → (∀ f, E (.func f) = .func (.func f) #[] #[]) → G w0 W →
      (∀ j d, depB ops i j d = true → Φ j (E (.tmp d)) W) → (∀ d, untB ops i d = true → E (.tmp d) = a0.eval (.tmp d)) → ∀ R : Value → World → Prop, Hid (∀ v W', G W W' → Φ i v W' → R v W') → runsTo P R ((execOp E o).run P W)) : GStep P ops G Φ a0 w0 i := by
 intro o' ho' E W h1 h2 h3 h4 h5 h6
 obtain rfl : o = o' := by rw [← Array.getElem?_toList, ho] at ho'; exact Option.some.inj ho'
 exact .inl ⟨.inr ⟨g, b, d, hg, hd, hb _ _ (h5 g d hdep)⟩, h E W h1 h2 h3 h4 h5 h6 _ (Lib.hid fun _ _ a b => ⟨a, b⟩)⟩
theorem fin_dst {W : World} {o : Oper} {r : List Oper} {j : Nat} {a : Act} {d : Tmp} (hd : o.dst = some d) (h : ∀ v, Φ j v W → fin Φ Q W r (j + 1) (a.put (some d) v)) : fin Φ Q W (o :: r) j a := by
 unfold fin
 rw [hd]
 exact h
theorem fin_end {W : World} {j : Nat} {a : Act} (h : Q .normal a W) : fin Φ Q W [] j a := h
end
theorem below_of_drew {w W : World} (h : Below w.drew.heap.size w.drew W) : Below w.heap.size w W := ⟨h.os, h.tape, h.output, h.size, h.block⟩
end Grow
theorem wp_region_grow {P : Program} {ops : Array Oper} {Q : Exit → Act → World → Prop} {id : Nat} {a : Act} {w : World} (G : World → World → Prop) (Φ : Nat → Value → World → Prop) (n : Nat) (hm : P.follows .mixedOrders = true)
    (hB : Grow.growB ops n = true) (hn : a.tmps.size = n) (hrefl : ∀ W, G W W) (htr : ∀ A B C, G A B → G B C → G A C) (hmono : ∀ j v W W', Φ j v W → G W W' → Φ j v W')
    (hs : Grow.allBelow (Grow.GStep P ops G Φ a w.drew) ops.size) (hfin : ∀ W, G w.drew W → Grow.fin Φ Q W ops.toList 0 a) : (Code.region id ops true).wp P Q a w := by
 refine wp_region_any hm (Grow.any_of_inv hB hn htr hmono hrefl (Grow.allBelow_at hs) hfin ops.size _ a _ ⟨hrefl _, by simp, rfl, rfl, ?_, ?_, ?_, fun _ _ => rfl⟩ ?_)
 ·intro j o hj hl
  simp at hl
  have := (Array.getElem?_eq_some_iff.1 hj).1
  simp [this] at hl
 ·intro j o d hj hl
  have := (Array.getElem?_eq_some_iff.1 hj).1
  simp [this] at hl
 ·intro j o hj hl
  have := (Array.getElem?_eq_some_iff.1 hj).1
  simp [this] at hl
 ·simp
end Go.Proofs.Ytmmibldchfmleaa

namespace Go.Proofs.Ytmmibldchfmleaa
open Go.RowKit
structure Sto (q : Nat) (o : Obj) (W W' : World) : Prop where
 turned : Turned (· = q) W W'
 at_ : W'.heap[q]? = W.heap[q]? ∨ W'.heap[q]? = some o
section
variable {q : Nat} {o : Obj} {A B C : World}
theorem Sto.refl (q : Nat) (o : Obj) (W : World) : Sto q o W W := ⟨Turned.refl _ _, .inl rfl⟩
theorem Sto.trans (h : Sto q o A B) (k : Sto q o B C) : Sto q o A C :=
 ⟨h.turned.trans k.turned fun _ _ h => h, by
   rcases k.at_ with h1 | h1
   ·rw [h1]; exact h.at_
   ·exact .inr h1⟩
theorem Sto.of_below (h : Below A.heap.size A B) (hq : q < A.heap.size) : Sto q o A B := ⟨Turned.of_below h, .inl (h.block q hq)⟩
theorem Sto.keeps (h : Sto q o A B) (hA : A.heap[q]? = some o) : B.heap[q]? = some o := by
 rcases h.at_ with h1 | h1
 ·rw [h1, hA]
 ·exact h1
theorem Sto.lt (h : Sto q o A B) (hq : q < A.heap.size) : q < B.heap.size := Nat.lt_of_lt_of_le hq h.turned.size
theorem Sto.old {cs os : Array Value} {t : TypeId} (h : Sto q (.cells cs t (0, 0)) A B) (hA : A.heap[q]? = some (.cells os t (0, 0))) : ∃ ds, B.heap[q]? = some (.cells ds t (0, 0)) ∧ (ds = os ∨ ds = cs) := by
 rcases h.at_ with h1 | h1
 ·exact ⟨os, h1.trans hA, .inl rfl⟩
 ·exact ⟨cs, h1, .inr rfl⟩
theorem turned_setRow {w : World} {g : Nat} (cs : Array Value) : Turned (· = g) w (w.setRow g cs) :=
 ⟨rfl, rfl, rfl, by simp [World.setRow], fun k _ hk => by
   simp only [World.setRow, Array.getElem?_modify]
   rw [if_neg (fun e => hk e.symm)]⟩
theorem Sto.store {W : World} {cs os : Array Value} {t : TypeId} (h : W.heap[q]? = some (.cells os t (0, 0))) : Sto q (.cells cs t (0, 0)) W (W.setRow q cs) :=
 ⟨turned_setRow cs, .inr (setRow_at h)⟩
end
end Go.Proofs.Ytmmibldchfmleaa

namespace Go.Proofs.Ytmmibldchfmleaa
open Go.RowKit
theorem own_base {w : World} {base base' : Nat} {e : TypeId} {size : Nat} {v : Value} {n : Nat} {xs : List Value} (h : w.ownsRow base e size v n xs) (hb : base' ≤ base) : w.ownsRow base' e size v n xs := by
 refine ⟨h.1, ?_⟩
 rcases h.2 with hn | ⟨g, cap, cur, h1, h2, rest⟩
 ·exact .inl hn
 ·exact .inr ⟨g, cap, cur, h1, by omega, rest⟩
theorem wpList_app {P : Program} {ops : Array Oper} {rest : List Oper} {o : Oper} {a : Act} {Q : Exit → Act → World → Prop} {w w' : World} (hgd : o.guard = none) (s x : Operand) (t : TypeId)
    (hop : o.op = .call { callee := .builtin .append, args := #[s, x], argTypes := #[t, t] }) {v u v' : Value} (hs : a.eval s = v) (hx : a.eval x = u)
    (hrun : (Builtin.append_ #[t, t] o.type #[v, u]).run P w = .ok v' w') (h : wpList P ops Q rest (a.put o.dst v') w') : wpList P ops Q (o :: rest) a w :=
 wpList_plain hgd fun _ hK => by
  unfold Oper.wp execOp
  simp only [hop, resolve, invoke, builtin, Sem.run_bind, Sem.run_pure, Result.andThen_ok, List.map_toArray, List.map_cons, List.map_nil, hs, hx, hrun]
  exact hK _ _ h
theorem run_loadVar_at {P : Program} (w : World) (ad : Addr) (ty : TypeId) (cs : Array Value) (d : TypeDesc) (hc : ∀ j v, cs[j]? = some v → w.cell? (ad.add j) = some v)
    (hu : P.underlying ty = some d) (hd : (match d with | .struct _ | .array _ _ => true | _ => false) = true) (hi : (P.info? ty).map (·.size) = some cs.size) :
    (loadVar ty ad).run P w = .ok (.agg cs) w := by
 have hl : (loadCells ad cs.toList.length).run P w = .ok cs.toList.toArray w :=
  run_loadCells_list (P := P) w ad cs.toList (fun j v hv => hc j v (by simpa using hv))
 cases hq : P.info? ty with
 | none => simp [hq] at hi
 | some i =>
   have hs : i.size = cs.size := by simpa [hq] using hi
   have hagg : (isAgg ty).run P w = .ok true w := by
    unfold isAgg
    rw [Sem.run_bind, run_underlying hu w]
    cases d <;> simp_all
   simp only [Array.length_toList, Array.toArray_toList] at hl
   simp [loadVar, Sem.run_bind, hagg, sizeOf, typeInfo, hq, hs, hl]
theorem setRow_ne (w : World) (g k : Nat) (cs : Array Value) (h : k ≠ g) : (w.setRow g cs).heap[k]? = w.heap[k]? := by
 simp only [World.setRow, Array.getElem?_modify]
 rw [if_neg (fun e => h e.symm)]
theorem wpList_load_row_on {P : Program} {ops : Array Oper} {rest : List Oper} {o : Oper} {a : Act} {w : World} {Q : Exit → Act → World → Prop} (hw : Region.wanted o (yielded ops a.tmps) = true) (ty : TypeId) (x : Operand) (ho : o.op = .load ty x)
    (g : Nat) (hx : a.eval x = .pointer (some ⟨g, 0, none⟩)) (t : TypeId) (cs : Array Value) (fr : Nat × Nat) (d : TypeDesc) (hg : w.heap[g]? = some (.cells cs t fr))
    (hu : P.underlying ty = some d) (hd : (match d with | .struct _ | .array _ _ => true | _ => false) = true) (hi : (P.info? ty).map (·.size) = some cs.size)
    (h : wpList P ops Q rest (a.put o.dst (.agg cs)) w) : wpList P ops Q (o :: rest) a w := by
 unfold wpList
 rw [if_pos hw]
 exact .inl (wp_load_row ty x ho g hx t cs fr d hg hu hd hi h)
theorem wpList_built_on {P : Program} {ops : Array Oper} {rest : List Oper} {o : Oper} {a : Act} {w : World} {Q : Exit → Act → World → Prop} (hw : Region.wanted o (yielded ops a.tmps) = true) (t : TypeId) (parts : Array (Nat × Operand)) (ho : o.op = .build t parts)
    (vs : List (Nat × Value)) (hv : (parts.map fun (i, x) => (i, a.eval x)).toList = vs) (Z : Array Value) (hb : P.built t vs = some Z) (h : wpList P ops Q rest (a.put o.dst (.agg Z)) w) : wpList P ops Q (o :: rest) a w := by
 unfold wpList
 rw [if_pos hw]
 refine .inl (wp_build t parts ho (by rw [hv, hb]; rfl) ?_)
 rw [hv, hb]
 exact h
theorem wpList_load_at {P : Program} {ops : Array Oper} {rest : List Oper} {o : Oper} {a : Act} {w : World} {Q : Exit → Act → World → Prop} (hgd : o.guard = none) (ty : TypeId) (x : Operand) (ho : o.op = .load ty x) (ad : Addr) (hx : a.eval x = .pointer (some ad)) (cs : Array Value) (d : TypeDesc)
    (hc : ∀ (j : Nat) (v : Value), cs[j]? = some v → w.cell? (ad.add j) = some v) (hu : P.underlying ty = some d) (hd : (match d with | .struct _ | .array _ _ => true | _ => false) = true) (hi : (P.info? ty).map (·.size) = some cs.size)
    (h : wpList P ops Q rest (a.put o.dst (.agg cs)) w) : wpList P ops Q (o :: rest) a w :=
 wpList_plain hgd fun K hK => by
  unfold Oper.wp execOp
  simp only [ho, hx, Instr.loadAt, Instr.sureAddr, Sem.run_bind, Sem.run_pure, Result.andThen_ok, run_loadVar_at w ad ty cs d hc hu hd hi]
  exact hK _ _ h
end Go.Proofs.Ytmmibldchfmleaa

namespace Go.Proofs.Ytmmibldchfmleaa
open Go.ChangeShapes Go.WideShapes Go.ChangeAt Go.RowKit Go.Deep
structure Ids (w : World) (S : Nat → Prop) (A : Option Addr) (n c : Nat) (l : List (List UInt8)) : Prop where
 len : l.length = n
 each : ∀ x ∈ l, x.length = 32
 cap : n ≤ c
 max : c ≤ maxLen
 row : 0 < n → ∃ b off, A = some ⟨b, off, none⟩ ∧ S b ∧ b < w.heap.size ∧ ∀ i j, i < n → j < 32 → w.cell? ⟨b, off + (i * 32 + j), none⟩ = some (.int .u8 (((l[i]?.getD [])[j]?.getD 0).toNat : Int))
section
variable {w w' : World} {S T : Nat → Prop} {A : Option Addr} {n c : Nat} {l : List (List UInt8)}
theorem Ids.below (h : Ids w S A n c l) (hb : Below w.heap.size w w') : Ids w' S A n c l :=
 ⟨h.len, h.each, h.cap, h.max, fun h0 => by
   obtain ⟨b, off, hA, hS, hlt, hc⟩ := h.row h0
   exact ⟨b, off, hA, hS, Nat.lt_of_lt_of_le hlt hb.size, fun i j hi hj => (hb.cell (p := ⟨_, _, none⟩) hlt).trans (hc i j hi hj)⟩⟩
theorem Ids.turned (h : Ids w S A n c l) (ht : Turned T w w') (hd : ∀ b, b < w.heap.size → S b → ¬ T b) : Ids w' S A n c l :=
 ⟨h.len, h.each, h.cap, h.max, fun h0 => by
   obtain ⟨b, off, hA, hS, hlt, hc⟩ := h.row h0
   exact ⟨b, off, hA, hS, Nat.lt_of_lt_of_le hlt ht.size, fun i j hi hj => (World.cell?_of_block (w := w) (a := ⟨b, off + (i * 32 + j), none⟩) (ht.block b hlt (hd b hlt hS))).trans (hc i j hi hj)⟩⟩
theorem Ids.mono (h : Ids w S A n c l) (hT : ∀ b, b < w.heap.size → S b → T b) : Ids w T A n c l :=
 ⟨h.len, h.each, h.cap, h.max, fun h0 => by
   obtain ⟨b, off, hA, hS, hlt, hc⟩ := h.row h0
   exact ⟨b, off, hA, hT b hlt hS, hlt, hc⟩⟩
theorem Ids.drew (h : Ids w S A n c l) : Ids w.drew S A n c l := ⟨h.len, h.each, h.cap, h.max, h.row⟩
theorem Ids.drewN (h : Ids w S A n c l) (k : Nat) : Ids (w.drewN k) S A n c l := ⟨h.len, h.each, h.cap, h.max, h.row⟩
theorem Ids.nil (w : World) (S : Nat → Prop) (A : Option Addr) (c : Nat) (hc : c ≤ maxLen) : Ids w S A 0 c [] := ⟨rfl, by simp, Nat.zero_le _, hc, fun h => absurd h (by omega)⟩
theorem Ids.at_ (h : Ids w S A n c l) {i : Nat} (hi : i < n) : ∃ b off, A = some ⟨b, off, none⟩ ∧ b < w.heap.size ∧ (l[i]?.getD []).length = 32 ∧ ∀ j v, (row8 (l[i]?.getD []))[j]? = some v → w.cell? ((⟨b, off + i * 32, none⟩ : Addr).add j) = some v := by
 obtain ⟨b, off, hA, _, hlt, hc⟩ := h.row (by omega)
 have hil : i < l.length := by rw [h.len]; exact hi
 have h32 : (l[i]?.getD []).length = 32 := by
  rw [List.getElem?_eq_getElem hil]
  exact h.each _ (List.getElem_mem hil)
 refine ⟨b, off, hA, hlt, h32, fun j v hj => ?_⟩
 have hjl : j < 32 := by
  have := (Array.getElem?_eq_some_iff.1 hj).1
  rwa [row8_size, h32] at this
 rw [add_plain, Nat.add_assoc, hc i j hi hjl, ← hj, row8, List.getElem?_toArray]
 generalize l[i]?.getD [] = x at *
 simp [u8s, show j < x.length by omega]
end
def idsC (l : List (List UInt8)) : List Value := u8s l.flatten
theorem flatten_length32 : ∀ {l : List (List UInt8)}, (∀ x ∈ l, x.length = 32) → l.flatten.length = l.length * 32
 | [], _ => rfl
 | a :: l, h => by
   rw [List.flatten_cons, List.length_append, h a (by simp), flatten_length32 (fun x hx => h x (by simp [hx])), List.length_cons]
   omega
theorem flatten_at32 : ∀ {l : List (List UInt8)}, (∀ x ∈ l, x.length = 32) → ∀ i j, i < l.length → j < 32 → l.flatten[i * 32 + j]? = (l[i]?.getD [])[j]?
 | [], _, _, _, h, _ => absurd h (by simp)
 | a :: l, h, i, j, hi, hj => by
   have ha := h a (by simp)
   have hl : ∀ x ∈ l, x.length = 32 := fun x hx => h x (by simp [hx])
   rw [List.flatten_cons]
   cases i with
   | zero => rw [List.getElem?_append_left (by omega)]; simp
   | succ i =>
     rw [List.getElem?_append_right (by omega), show (i + 1) * 32 + j - a.length = i * 32 + j by omega, flatten_at32 hl i j (by simpa using hi) hj]
     simp
theorem own_ids {w : World} {B : Nat} {e : TypeId} {v : Value} {n : Nat} {l : List (List UInt8)} (h : w.ownsRow B e 32 v n (idsC l)) (hl : ∀ x ∈ l, x.length = 32) : ∃ A c, v = .slice A n c ∧ Ids w (B ≤ ·) A n c l := by
 have hn : l.length = n := by
  have := h.1
  rw [idsC, u8s_length, flatten_length32 hl] at this
  omega
 rcases h.2 with ⟨rfl, h2⟩ | ⟨g, cap, cur, rfl, hb, hg, hnc, hm, _, _⟩
 ·have : n = 0 := by
    have := h.1
    rw [h2] at this
    simp at this
    omega
  subst this
  obtain rfl : l = [] := List.eq_nil_of_length_eq_zero hn
  exact ⟨none, 0, rfl, Ids.nil _ _ _ _ (Nat.zero_le _)⟩
 ·refine ⟨_, cap, rfl, hn, hl, hnc, hm, fun _ => ⟨g, 0, rfl, hb, (Array.getElem?_eq_some_iff.1 hg).1, fun i j hi hj => ?_⟩⟩
  have hil : i < l.length := by omega
  have hx : (l[i]?.getD []).length = 32 := by
   rw [List.getElem?_eq_getElem hil]
   exact hl _ (List.getElem_mem hil)
  have hf := flatten_at32 hl i j hil hj
  have := h.cells (g := g) rfl (i * 32 + j) (.int .u8 (((l[i]?.getD [])[j]?.getD 0).toNat : Int)) (by
   rw [idsC, u8s, List.getElem?_map, hf]
   generalize l[i]?.getD [] = x at *
   simp [show j < x.length by omega])
  rw [add_plain] at this
  exact this
end Go.Proofs.Ytmmibldchfmleaa

namespace Go.Proofs.Ytmmibldchfmleaa
open Go.RowKit
theorem id_info : (Try.prog.info? 31).map (·.size) = some 32 := by kernel_rfl
def zerosId : Array Value := (u8s (List.replicate 32 0)).toArray
theorem zero_id : ∀ W, (zeroValue 31).run Try.prog W = .ok (.agg zerosId) W := fun W => by unfold zerosId; kernel_rfl
end Go.Proofs.Ytmmibldchfmleaa

namespace Go.Proofs.Ytmmibldchfmleaa
open Go.RowKit
def IdBlk (w : World) (g : Nat) (l : List (List UInt8)) : Prop := w.heap[g]? = some (.cells (row8 l.flatten) 31 (0, 0)) ∧ ∀ x ∈ l, x.length = 32
theorem IdBlk.lt {w : World} {g : Nat} {l : List (List UInt8)} (h : IdBlk w g l) : g < w.heap.size := lt_of_cells h.1
theorem IdBlk.below {w w' : World} {g : Nat} {l : List (List UInt8)} (h : IdBlk w g l) (hb : Below w.heap.size w w') : IdBlk w' g l := ⟨(hb.block _ h.lt).trans h.1, h.2⟩
theorem id_info3 : (Try.prog.info? 31).map (fun i => (i.zero, i.size, i.bytes)) = some (some (.agg zerosId), 32, 32) := by unfold zerosId; kernel_rfl
theorem zerosId_at (k : Nat) (hk : k < 32) : zerosId[k]! = .int .u8 0 := by
 have h : zerosId[k]? = some (.int .u8 0) := by
  unfold zerosId
  rw [List.getElem?_toArray, u8s, List.map_replicate, List.getElem?_replicate, if_pos hk]
  rfl
 simp [getElem!_def, h]
theorem made_ids (n : Nat) : madeCells (Value.agg zerosId).cells (n * 32) = row8 (List.replicate n (List.replicate 32 0)).flatten := by
 have hz : (Value.agg zerosId).cells = zerosId := rfl
 have hs : zerosId.size = 32 := by unfold zerosId; simp [u8s_length]
 rw [List.flatten_replicate_replicate, hz]
 apply Array.toList_inj.1
 apply List.ext_getElem
 ·simp [madeCells, row8, u8s_length]
 ·intro i h1 h2
  have : i % 32 < 32 := Nat.mod_lt _ (by decide)
  simp [madeCells, row8, u8s, hs, zerosId_at _ this]
theorem IdBlk.ids {w : World} {g : Nat} {l : List (List UInt8)} (h : IdBlk w g l) {S : Nat → Prop} (hS : S g) (n : Nat) (hn : l.length = n) (hm : n ≤ 1000000) : Ids w S (some ⟨g, 0, none⟩) n n l :=
 ⟨hn, h.2, Nat.le_refl _, by unfold maxLen; omega, fun _ => ⟨g, 0, rfl, hS, h.lt, fun i j hi hj => by
   have hil : i < l.length := by omega
   have hx : (l[i]?.getD []).length = 32 := by
    rw [List.getElem?_eq_getElem hil]
    exact h.2 _ (List.getElem_mem hil)
   have hf := flatten_at32 h.2 i j hil hj
   rw [cell_of_cells h.1, Nat.zero_add, row8, List.getElem?_toArray, u8s, List.getElem?_map, hf]
   generalize l[i]?.getD [] = x at *
   simp [show j < x.length by omega]⟩⟩
end Go.Proofs.Ytmmibldchfmleaa

namespace Go.Proofs.Ytmmibldchfmleaa
open Go.RowKit Go.Maps
def rvk (v : Value) : Option (DataW Value × List MemPlace) := some (.held v, [])
theorem dd_laid : laidOutB Try.prog = true := by kernel_rfl
theorem idlaw : Keyed Try.prog 31 := Keyed.of_law (deep_law_laid dd_laid (m := 2) (by omega) (of_decide_eq_true (by kernel_rfl)) (by kernel_rfl) (by kernel_rfl))
theorem lits_u8 (d : Nat) (x : UInt8) : Try.prog.keyLits (d + 1) 5 [.int .u8 (x.toNat : Int)] = some [.int .u8 (x.toNat : Int)] := by
 have hx := x.toNat_lt
 have hw : (Lit.int .u8 (x.toNat : Int)).wf = true := by simp [Lit.wf, IntKind.min, IntKind.max, IntKind.signed, IntKind.bits]; omega
 unfold Program.keyLits
 rw [Try.underlying5]
 simp [hw]
theorem mapM_all {α β : Type} {f : α → Option β} {g : α → β} : ∀ {l : List α}, (∀ x ∈ l, f x = some (g x)) → l.mapM f = some (l.map g)
 | [], _ => rfl
 | a :: l, h => by
   rw [List.mapM_cons, h a (by simp), mapM_all fun x hx => h x (by simp [hx])]
   rfl
theorem id_form {l : List UInt8} (h : l.length = 32) : (Value.agg (row8 l)).formed Try.prog 31 = true := by
 have hc : Try.prog.cellsOf 31 = 32 := by kernel_rfl
 unfold Value.formed
 rw [Try.underlying31]
 simp [hc, row8_size, h]
theorem key_bytes (l : List UInt8) : keyBytes (l.map fun x => Lit.int .u8 (x.toNat : Int)) = l := by
 induction l with
 | nil => rfl
 | cons a l ih =>
   have ha := a.toNat_lt
   unfold keyBytes at ih ⊢
   rw [List.map_cons, List.flatMap_cons, ih]
   have h1 : UInt8.ofNat (((a.toNat : Int) % 256).toNat % 256) = a := by
    rw [show ((a.toNat : Int) % 256).toNat % 256 = a.toNat by omega]
    simp
   simp [Lit.keyBytes, IntKind.bits, bytesBE, bytesLE, h1]
theorem id_key {l : List UInt8} (h : l.length = 32) : keyOf Try.prog 31 (.agg (row8 l)) = some (.string l) := by
 have hk : Try.prog.keyType 31 = true := by kernel_rfl
 have hc : Try.prog.cellsOf 31 = 32 := by kernel_rfl
 have hc1 : Try.prog.cellsOf 5 = 1 := by kernel_rfl
 obtain ⟨m, hm⟩ : ∃ m, Try.prog.types.size = m + 1 := ⟨Try.prog.types.size - 1, by have : 0 < Try.prog.types.size := of_decide_eq_true (by kernel_rfl); omega⟩
 have hl : Try.prog.keyLits (Try.prog.types.size + 1) 31 (u8s l) = some (l.map fun x => Lit.int .u8 (x.toNat : Int)) := by
  rw [hm]
  unfold Program.keyLits
  rw [Try.underlying31]
  simp only [hc, hc1]
  rw [if_pos (by rw [u8s_length, h]), mapM_all (g := fun i => [Lit.int .u8 ((l[i]?.getD 0).toNat : Int)]) (fun i hi => ?_)]
  ·simp only [Option.map_some, Option.some.injEq]
   rw [← List.flatMap_def, ← List.map_eq_flatMap]
   apply List.ext_getElem
   ·simp [h]
   ·intro i h1 h2
    have hil : i < l.length := by simpa using h2
    simp [List.getElem?_eq_getElem hil]
  ·have hil : i < l.length := by rw [h]; simpa using hi
   have e : ((u8s l).drop (i * 1)).take 1 = [.int .u8 ((l[i]?.getD 0).toNat : Int)] := by
    rw [Nat.mul_one, List.getElem?_eq_getElem hil]
    have hiu : i < (u8s l).length := by rw [u8s_length]; exact hil
    rw [List.drop_eq_getElem_cons hiu]
    simp [u8s]
   rw [e]
   exact lits_u8 m _
 unfold keyOf
 rw [Try.underlying31]
 have hcl : (Value.agg (row8 l)).cells.toList = u8s l := by simp [Value.cells, row8]
 simp only [hk, id_form h, hcl, hl, Bool.and_self, if_true, Option.map_some, key_bytes]
theorem str_litk (k : List UInt8) : WideAt.IsKeyLit (.string k) := by trivial
theorem ownsMap_exactk {w : World} {b : Nat} {P : Program} {k : TypeId} {R : Value → Option (DataW Value × List MemPlace)} {n : Nat} {D : DataW Value} (h : w.ownsMap P k R b n D) : w.ownsMap P k R b (Maps.size D) D := by
 obtain ⟨es, clock, hb, F, hs, rfl⟩ := h
 exact ⟨es, clock, hb, F, by simp [Maps.size, length_sorted], rfl⟩
theorem ownsMap_keptk {w w' : World} {b : Nat} {P : Program} {k : TypeId} {R : Value → Option (DataW Value × List MemPlace)} {n : Nat} {D : DataW Value} (h : w.ownsMap P k R b n D) (hb : w'.heap[b]? = w.heap[b]?) : w'.ownsMap P k R b n D := by
 obtain ⟨es, clock, hb', r⟩ := h
 exact ⟨es, clock, hb.trans hb', r⟩
section
variable {V : Type} {enc : V → Value} {w w' : World} {b r : Nat} {t : Tv V} {D : DataW Value} {lf : List UInt8 → Bool}
structure AgrV (enc : V → Value) (D : DataW Value) (t : Tv V) : Prop where
 srt : Sv t
 key : ∀ p ∈ t, p.1.length = 32
 size : Maps.size D = t.length
 has : ∀ k, Maps.has D (.string k) = (getV t k).isSome
 at_ : ∀ k v, getV t k = some v → ∀ z, D.atKey (.string k) z = .held (enc v)
def Kv (enc : V → Value) (w : World) (b : Nat) (t : Tv V) : Prop := ∃ D, w.ownsMap Try.prog 31 rvk b t.length D ∧ AgrV enc D t
theorem Kv.srt (h : Kv enc w b t) : Sv t := by
 obtain ⟨D, _, ha⟩ := h
 exact ha.srt
theorem Kv.key (h : Kv enc w b t) : ∀ p ∈ t, p.1.length = 32 := by
 obtain ⟨D, _, ha⟩ := h
 exact ha.key
theorem Kv.lt (h : Kv enc w b t) : b < w.heap.size := by
 obtain ⟨D, ho, _⟩ := h
 exact ho.lt
theorem Kv.kept (h : Kv enc w b t) (hb : w'.heap[b]? = w.heap[b]?) : Kv enc w' b t := by
 obtain ⟨D, ho, ha⟩ := h
 exact ⟨D, ownsMap_keptk ho hb, ha⟩
theorem Kv.below (h : Kv enc w b t) (hb : Below w.heap.size w w') : Kv enc w' b t := h.kept (hb.block _ h.lt)
theorem Kv.turned {T : Nat → Prop} (h : Kv enc w b t) (ht : Turned T w w') (hd : ¬ T b) : Kv enc w' b t := h.kept (ht.block _ h.lt hd)
theorem made_kv (enc : V → Value) (w : World) : Kv enc (w.alloc (.map #[] 0)) w.heap.size ([] : Tv V) :=
 ⟨.map [], World.ownsMap_made _ _ _ _, ⟨Sv.nil, fun _ h => (by cases h), rfl, fun _ => rfl, fun _ _ h => (by cases h)⟩⟩
theorem Kv.put (h : Kv enc w b t) {T E : TypeId} (hT : Try.prog.underlying T = some (.map 31 E)) {k : List UInt8} (hk : k.length = 32) (hl : t.length ≤ 10000000000000) (v : V) :
    ∃ w', (Instr.mapUpdate T (.map (some b)) (.agg (row8 k)) (enc v)).run Try.prog w = .ok () w' ∧ Kv enc w' b (putV t k v) ∧ w.mapTurned w' b := by
 obtain ⟨D, ho, ha⟩ := h
 obtain ⟨w', hrun, ho', hm⟩ := ho.store (t := T) (e := E) idlaw hT (by unfold maxLen; omega) (id_key hk) (d := .held (enc v)) (ps := []) rfl
 have hti := ho.tidy idlaw
 have him := ho.isMap
 have hsz : Maps.size (D.put (.string k) (.held (enc v))) = (putV t k v).length := by
  have h1 := len_put ha.srt k v
  rw [size_put hti, ha.has, ha.size]
  cases hq : (getV t k).isSome <;> simp [hq] at h1 ⊢ <;> omega
 refine ⟨w', hrun, ⟨_, by rw [← hsz]; exact ownsMap_exactk ho', ⟨ha.srt.put _ _, fun p hp => ?_, hsz, fun x => ?_, fun x y hx => ?_⟩⟩, hm⟩
 ·unfold putV at hp
  rcases List.mem_append.1 hp with hp | hp
  ·rcases List.mem_append.1 hp with hp | hp
   ·exact ha.key p (List.mem_filter.1 hp).1
   ·simp only [List.mem_singleton] at hp
    rw [hp]
    exact hk
  ·exact ha.key p (List.mem_filter.1 hp).1
 ·rw [getV_put]
  by_cases e : x = k
  ·subst e
   rw [has_put_same him (str_litk x)]
   simp
  ·rw [has_put_other (by simpa using e), ha.has, if_neg e]
 ·rw [getV_put] at hx
  by_cases e : x = k
  ·subst e
   rw [if_pos rfl] at hx
   obtain rfl : v = y := by simpa using hx
   exact fun z => atKey_put_same him (str_litk x) _ _
  ·rw [if_neg e] at hx
   exact fun z => by rw [atKey_put_other (by simpa using e)]; exact ha.at_ x y hx z
theorem AgrV.del (ha : AgrV enc D t) (hti : Tidy D) (k : List UInt8) : AgrV enc (D.del (.string k)) (delV t k) := by
 refine ⟨ha.srt.del k, fun p hp => ha.key p (List.mem_filter.1 hp).1, ?_, fun x => ?_, fun x y hx => ?_⟩
 ·have h1 := size_del (k := .string k) hti
  have h2 := len_del ha.srt k
  rw [ha.has, ha.size] at h1
  omega
 ·rw [getV_del]
  by_cases e : x = k
  ·subst e
   rw [has_del_same]
   simp
  ·rw [has_del_other (by simpa using e), ha.has, if_neg e]
 ·rw [getV_del] at hx
  by_cases e : x = k
  ·rw [if_pos e] at hx
   cases hx
  ·rw [if_neg e] at hx
   exact fun z => by rw [atKey_del_other (by simpa using e)]; exact ha.at_ x y hx z
theorem Kv.look (h : Kv enc w b t) {T E : TypeId} (hT : Try.prog.underlying T = some (.map 31 E)) {z : Value} (hz : (zeroValue E).run Try.prog w = .ok z w) {k : List UInt8} (hk : k.length = 32) :
    (Instr.lookup T (.map (some b)) (.agg (row8 k)) true).run Try.prog w = .ok (.tuple #[(getV t k).elim z enc, .bool (getV t k).isSome]) w ∧
      (Instr.lookup T (.map (some b)) (.agg (row8 k)) false).run Try.prog w = .ok ((getV t k).elim z enc) w := by
 obtain ⟨D, ho, ha⟩ := h
 obtain ⟨v, ps, hrun, hv⟩ := ho.look_ok (t := T) (e := E) idlaw hT hz (zd := .held z) (zp := []) rfl (id_key hk)
 obtain ⟨v2, ps2, hrun2, hv2⟩ := ho.lookup (t := T) (e := E) idlaw hT hz (zd := .held z) (zp := []) rfl (id_key hk)
 rw [ha.has] at hrun
 have hd : D.atKey (.string k) (.held z) = .held ((getV t k).elim z enc) := by
  rcases hg : getV t k with _ | y
  ·have hno : Maps.has D (.string k) = false := by rw [ha.has, hg]; rfl
   exact atKey_of_not_has hno _
  ·exact ha.at_ k y hg _
 unfold rvk at hv hv2
 simp only [Option.some.injEq, Prod.mk.injEq, hd, DataW.held.injEq] at hv hv2
 rw [hv.1] at hrun
 rw [hv2.1] at hrun2
 exact ⟨hrun, hrun2⟩
theorem Kv.len (h : Kv enc w b t) {T E : TypeId} (hT : Try.prog.underlying T = some (.map 31 E)) (ty : TypeId) : (Builtin.len_ #[T] ty #[.map (some b)]).run Try.prog w = .ok (.int .i64 (t.length : Int)) w := by
 obtain ⟨D, ho, ha⟩ := h
 rw [ho.len (e := E) (k := 31) hT ty, ha.size]
def Rgv (enc : V → Value) (w : World) (b r : Nat) (t : Tv V) (lf : List UInt8 → Bool) : Prop :=
 ∃ D left cnt n, w.ranges Try.prog 31 rvk b r n D left cnt ∧ AgrV enc D t ∧ (∀ k, left (.string k) = lf k)
theorem Rgv.kv (h : Rgv enc w b r t lf) : Kv enc w b t := by
 obtain ⟨D, left, cnt, n, hr, ha, _⟩ := h
 exact ⟨D, by rw [← ha.size]; exact ownsMap_exactk hr.owns, ha⟩
theorem Rgv.lt (h : Rgv enc w b r t lf) : r < w.heap.size := by
 obtain ⟨D, left, cnt, n, hr, ha, _⟩ := h
 exact hr.lt
theorem Rgv.ne (h : Rgv enc w b r t lf) : r ≠ b := by
 obtain ⟨D, left, cnt, n, hr, ha, _⟩ := h
 exact hr.ne
theorem Kv.isMap (h : Kv enc w b t) : ∃ es clock, w.heap[b]? = some (.map es clock) := by
 obtain ⟨D, ⟨es, clock, hb, _⟩, _⟩ := h
 exact ⟨es, clock, hb⟩
theorem Rgv.kept (h : Rgv enc w b r t lf) (hb : w'.heap[b]? = w.heap[b]?) (hr' : w'.heap[r]? = w.heap[r]?) : Rgv enc w' b r t lf ∧ w'.rangeLeft b r = w.rangeLeft b r := by
 obtain ⟨D, left, cnt, n, hr, ha, hl⟩ := h
 have h1 : w'.ranges Try.prog 31 rvk b r n D left cnt := by
  obtain ⟨es, clock, since, seen, c0, h1, h2, h3, h4, h5, rest⟩ := hr
  exact ⟨es, clock, since, seen, c0, hb.trans h1, h2, h3, h4, hr'.trans h5, rest⟩
 exact ⟨⟨D, left, cnt, n, h1, ha, hl⟩, by rw [h1.left_eq, hr.left_eq]⟩
theorem Rgv.below (h : Rgv enc w b r t lf) (hb : Below w.heap.size w w') : Rgv enc w' b r t lf ∧ w'.rangeLeft b r = w.rangeLeft b r :=
 h.kept (hb.block _ h.kv.lt) (hb.block _ h.lt)
theorem Kv.range (h : Kv enc w b t) {T E : TypeId} (hT : Try.prog.underlying T = some (.map 31 E)) :
    ∃ w', (Instr.range T (.map (some b))).run Try.prog w = .ok (.pointer (some ⟨w.heap.size, 0, none⟩)) w' ∧ Rgv enc w' b w.heap.size t (fun k => (getV t k).isSome) ∧ Below w.heap.size w w' ∧ w'.heap.size = w.heap.size + 1 := by
 obtain ⟨D, ho, ha⟩ := h
 obtain ⟨w', hrun, hr, hg, hs⟩ := ho.range (t := T) (e := E) idlaw hT
 exact ⟨w', hrun, ⟨D, _, _, _, hr, ha, fun k => ha.has k⟩, ⟨hg.os, hg.tape, hg.output, hg.size, fun i hi => hg.block i hi (by simp)⟩, hs⟩
theorem Rgv.next (h : Rgv enc w b r t lf) (ty : TypeId) :
    ((∀ k, lf k = false) ∧ (Instr.next (.pointer (some ⟨r, 0, none⟩)) false ty).run Try.prog w = .ok (.tuple #[.bool false]) w) ∨
    ∃ k v w', k.length = 32 ∧ lf k = true ∧ getV t k = some v ∧ (Instr.next (.pointer (some ⟨r, 0, none⟩)) false ty).run Try.prog w = .ok (.tuple #[.bool true, .agg (row8 k), enc v]) w' ∧
      Rgv enc w' b r t (fun x => lf x && decide (x ≠ k)) ∧ w'.rangeLeft b r < w.rangeLeft b r ∧ w.grownBy w' (some r) ∧ w'.heap.size = w.heap.size ∧ (Instr.entry (.pointer (some ⟨r, 0, none⟩))).run Try.prog w' = .ok (.tuple #[.agg (row8 k), enc v]) w' := by
 obtain ⟨D, left, cnt, n, hr, ha, hl⟩ := h
 rcases hr.next idlaw ty with ⟨h0, hlf, hrun⟩ | ⟨key, v, kl, y, w', cnt', hkey, hlk, hv, hat, hrun, hrg, hlt, hgr, hsz, hen⟩
 ·exact .inl ⟨fun k => by rw [← hl, hlf], hrun⟩
 ·obtain ⟨es, hD, _, hks⟩ := hr.owns.entries idlaw
  obtain ⟨es', hD', hko⟩ := hr.owns.keysOf
  have hhas : Maps.has D kl = true := has_true_of_atKey hat
  obtain ⟨k, rfl⟩ : ∃ k, kl = .string k := (Go.WideMaps.KeyLaw.str (deep_law_laid dd_laid (m := 2) (by omega) (of_decide_eq_true (by kernel_rfl)) (by kernel_rfl) (by kernel_rfl)) hkey)
  rw [ha.has] at hhas
  obtain ⟨x, hx⟩ := Option.isSome_iff_exists.1 hhas
  have hk32 := ha.key _ (getV_some hx)
  obtain rfl : key = .agg (row8 k) := idlaw.inj hkey (id_key hk32)
  have hvx : v = enc x := by
   have h1 := hat .nil
   rw [ha.at_ k x hx] at h1
   unfold rvk at hv
   simp only [Option.some.injEq] at hv
   rw [← hv] at h1
   simp only [DataW.held.injEq] at h1
   exact h1.symm
  subst hvx
  exact .inr ⟨k, x, w', hk32, by rw [← hl]; exact hlk, hx, hrun, ⟨D, _, cnt', n, hrg, ha, fun z => by
   rw [hl]
   by_cases e : z = k
   ·subst e
    simp [Lit.sameKey]
   ·simp [Lit.sameKey, e]⟩, by rw [hrg.left_eq, hr.left_eq]; exact hlt, hgr, hsz, hen⟩
theorem Rgv.drop (h : Rgv enc w b r t lf) {T E : TypeId} (hT : Try.prog.underlying T = some (.map 31 E)) {k : List UInt8} (hk : k.length = 32) (ty : TypeId) :
    ∃ w', (Builtin.delete_ #[T, 31] ty #[.map (some b), .agg (row8 k)]).run Try.prog w = .ok (.tuple #[]) w' ∧ Rgv enc w' b r (delV t k) (fun x => lf x && decide (x ≠ k)) ∧ w'.rangeLeft b r ≤ w.rangeLeft b r ∧ w.mapTurned w' b := by
 obtain ⟨D, left, cnt, n, hr, ha, hl⟩ := h
 obtain ⟨w', cnt', hrun, hr', hle, hm⟩ := hr.drop (t := T) (e := E) idlaw hT (id_key hk) ty
 exact ⟨w', hrun, ⟨_, _, _, _, hr', ha.del (hr.owns.tidy idlaw) k, fun z => by
     rw [hl]
     by_cases e : z = k
     ·subst e
      simp [Lit.sameKey]
     ·simp [Lit.sameKey, e]⟩, by rw [hr'.left_eq, hr.left_eq]; exact hle, hm⟩
theorem mapTurned_turnedk (h : w.mapTurned w' b) : Turned (fun q => q = b) w w' := Turned.of_gr h.grown fun _ e => (Option.some.inj e).symm
end
end Go.Proofs.Ytmmibldchfmleaa
