/-
  A REGION THAT DRAWS ITS ORDER, WALKED IN ONE ORDER OF MY CHOICE ('wp_region_plan'). The plan: rows of operations that yield the same value in every world of a class ('pulled': they may be taken first), each row followed by one operation that is then the only one that may come up ('effect'); behind it the class may be made smaller; a last row. Whether the plan fits the region is one closed Bool ('planB').
-/
import Derived.WalkKit
import Derived.OrdersHeld
import Derived.RegionTactic
namespace Go.Proofs.Ytogfblfekedefaa
open Go.RowKit
section
variable {P : Program} {ops : Array Oper} {Q : Exit → Act → World → Prop} {md : Region.Mode}

/-- The operations of a row, one behind the other, each of which yields its value in every world of C. -/
def wpSeg (P : Program) (ops : Array Oper) (C : World → Prop) (Q' : Act → Prop) : List Nat → Act → Prop
  | [], a => Q' a
  | i :: r, a => ∃ o v, ops[i]? = some o ∧ YieldsIf P ops C o v a ∧ wpSeg P ops C Q' r (a.put o.dst v)

def segB (md : Region.Mode) (ops : Array Oper) : Array Bool → List Nat → Bool
  | _, [] => true
  | listed, i :: r => (Region.ready md ops listed).contains i && Region.free md ops listed i && segB md ops (listed.setIfInBounds i true) r

def listedBy : Array Bool → List Nat → Array Bool
  | listed, [] => listed
  | listed, i :: r => listedBy (listed.setIfInBounds i true) r

def wpPlan (P : Program) (ops : Array Oper) (Q : Exit → Act → World → Prop) : (World → Prop) → List (List Nat × Nat) → List Nat → Act → World → Prop
  | C, [], q, a, w => wpSeg P ops C (fun a' => Q .normal a' w) q a
  | C, (q1, e) :: r, q, a, w => wpSeg P ops C (fun a1 => wpOp P ops Q e (fun a2 w2 => ∃ C' : World → Prop, C' w2 ∧ (∀ W, C' W → C W) ∧ wpPlan P ops Q C' r q a2 w2) a1 w) q1 a

def planB (md : Region.Mode) (ops : Array Oper) : Array Bool → List (List Nat × Nat) → List Nat → Bool
  | listed, [], q => segB md ops listed q && (Region.ready md ops (listedBy listed q)).isEmpty
  | listed, (q1, e) :: r, q => segB md ops listed q1 && (Region.ready md ops (listedBy listed q1) == [e]) && planB md ops ((listedBy listed q1).setIfInBounds e true) r q

theorem wpAnyH_mono {S S' : World → Prop} (hS : ∀ W, S' W → S W) : ∀ (fuel : Nat) (listed : Array Bool) (a : Act) (w : World), wpAnyH P md ops Q S' fuel listed a w → wpAnyH P md ops Q S fuel listed a w
  | 0, _, _, _, h => h
  | fuel + 1, _, _, _, h => ⟨h.1, fun i hi => wpOp_mono (fun _ _ h' => ⟨hS _ h'.1, wpAnyH_mono hS fuel _ _ _ h'.2⟩) (h.2 i hi)⟩

theorem wpAnyH_seg {C : World → Prop} {Q' : Act → Prop} (hs : Region.noSelect ops = true) (hQ : ∀ c a d v w, Q (.panic c) (Act.put a d v) w → Q (.panic c) a w) {fuel : Nat} {w : World} (hC : C w) :
    ∀ (q : List Nat) (listed : Array Bool) (a : Act), segB md ops listed q = true → wpSeg P ops C Q' q a → (∀ a', Q' a' → wpAnyH P md ops Q C fuel (listedBy listed q) a' w) → wpAnyH P md ops Q C (fuel + q.length) listed a w
  | [], _, _, _, h, hn => hn _ h
  | i :: r, listed, a, hB, h, hn => by
    simp only [segB, Bool.and_eq_true] at hB
    obtain ⟨⟨hr, hf⟩, hB'⟩ := hB
    obtain ⟨o, v, ho, hy, hk⟩ := h
    exact wpAnyH_take (fuel := fuel + r.length) ho hs hf hr (fun c a w => hQ c a o.dst v w) hy hC (wpAnyH_seg hs hQ hC r _ _ hB' hk hn)

theorem wpAnyH_plan (hs : Region.noSelect ops = true) (hQ : ∀ c a d v w, Q (.panic c) (Act.put a d v) w → Q (.panic c) a w) :
    ∀ (plan : List (List Nat × Nat)) (q : List Nat) (C : World → Prop) (listed : Array Bool) (a : Act) (w : World), C w → planB md ops listed plan q = true → wpPlan P ops Q C plan q a w → ∃ fuel, wpAnyH P md ops Q C fuel listed a w ∧ fuel = q.length + (plan.map fun x => x.1.length + 1).sum
  | [], q, C, listed, a, w, hC, hB, h => by
    simp only [planB, Bool.and_eq_true] at hB
    refine ⟨_, wpAnyH_seg (fuel := 0) hs hQ hC q listed a hB.1 h fun a' h' => wpAnyH_done (by simpa using hB.2) h' 0, by simp⟩
  | (q1, e) :: r, q, C, listed, a, w, hC, hB, h => by
    simp only [planB, Bool.and_eq_true, beq_iff_eq] at hB
    obtain ⟨⟨hB1, hB2⟩, hB3⟩ := hB
    refine ⟨_, wpAnyH_seg (fuel := (q.length + (r.map fun x => x.1.length + 1).sum) + 1) hs hQ hC q1 listed a hB1 h fun a' h' => ?_, by simp; omega⟩
    refine wpAnyH_all hB2 (by simp) fun i hi => ?_
    rw [List.mem_singleton.1 hi]
    refine wpOp_mono ?_ h'
    rintro a2 w2 ⟨C', hC', hsub, hp⟩
    obtain ⟨f, hf, rfl⟩ := wpAnyH_plan hs hQ r q C' _ a2 w2 hC' hB3 hp
    exact ⟨hsub _ hC', wpAnyH_mono hsub _ _ _ _ hf⟩

/-- THE LAW. -/
theorem wp_region_plan {id : Nat} {a : Act} {w : World} (C : World → Prop) (plan : List (List Nat × Nat)) (q : List Nat) (hm : P.follows .mixedOrders = true)
    (hB : (Region.noSelect ops && planB .any ops (Array.replicate ops.size false) plan q && (q.length + (plan.map fun x => x.1.length + 1).sum == ops.size)) = true)
    (hQ : ∀ c a d v w, Q (.panic c) (Act.put a d v) w → Q (.panic c) a w) (hC : C w.drew) (h : wpPlan P ops Q C plan q a w.drew) : (Code.region id ops true).wp P Q a w := by
  simp only [Bool.and_eq_true, beq_iff_eq] at hB
  obtain ⟨⟨h1, h2⟩, h3⟩ := hB
  obtain ⟨f, hf, rfl⟩ := wpAnyH_plan (md := .any) h1 hQ plan q C _ a _ hC h2 h
  rw [h3] at hf
  exact wp_region_held hm hf

/-! The steps of a plan. -/
theorem plan_eff {C : World → Prop} {q1 : List Nat} {e : Nat} {r : List (List Nat × Nat)} {q : List Nat} {a : Act} {w : World}
    (h : wpSeg P ops C (fun a1 => wpOp P ops Q e (fun a2 w2 => ∃ C' : World → Prop, C' w2 ∧ (∀ W, C' W → C W) ∧ wpPlan P ops Q C' r q a2 w2) a1 w) q1 a) : wpPlan P ops Q C ((q1, e) :: r) q a w := h
theorem plan_last {C : World → Prop} {q : List Nat} {a : Act} {w : World} (h : wpSeg P ops C (fun a' => Q .normal a' w) q a) : wpPlan P ops Q C [] q a w := h
theorem seg_nil {C : World → Prop} {Q' : Act → Prop} {a : Act} (h : Q' a) : wpSeg P ops C Q' [] a := h
/-- One pulled operation, what follows behind a variable. -/
theorem seg_step {C : World → Prop} {Q' : Act → Prop} {i : Nat} {r : List Nat} {a : Act} {o : Oper} (ho : ops.toList[i]? = some o)
    (h : ∀ K : Act → Prop, (∀ a, wpSeg P ops C Q' r a → K a) → if Region.wanted o (yielded ops a.tmps) then ∃ v, (∀ w, C w → (execOp a.eval o).run P w = .ok (.value v) w) ∧ K (a.put o.dst v) else K (a.put o.dst undef)) : wpSeg P ops C Q' (i :: r) a := by
  have ho : ops[i]? = some o := by rw [← ho, Array.getElem?_toList]
  have h1 := h _ (fun _ h => h)
  by_cases hw : Region.wanted o (yielded ops a.tmps) = true
  · rw [if_pos hw] at h1
    obtain ⟨v, hv, hk⟩ := h1
    exact ⟨o, v, ho, .inl ⟨hw, hv⟩, hk⟩
  · rw [if_neg hw] at h1
    exact ⟨o, undef, ho, .inr ⟨by simpa using hw, rfl⟩, h1⟩
/-- One that reads, its value typed out. -/
theorem seg_read {C : World → Prop} {Q' : Act → Prop} {i : Nat} {r : List Nat} {a : Act} {o : Oper} (v : Value) (ho : ops.toList[i]? = some o) (hw : Region.wanted o (yielded ops a.tmps) = true)
    (hv : ∀ w, C w → (execOp a.eval o).run P w = .ok (.value v) w) (h : wpSeg P ops C Q' r (a.put o.dst v)) : wpSeg P ops C Q' (i :: r) a := ⟨o, v, by rw [← ho, Array.getElem?_toList], .inl ⟨hw, hv⟩, h⟩
/-- One whose guard says no. -/
theorem seg_off {C : World → Prop} {Q' : Act → Prop} {i : Nat} {r : List Nat} {a : Act} {o : Oper} (ho : ops.toList[i]? = some o) (hw : Region.wanted o (yielded ops a.tmps) = false)
    (h : wpSeg P ops C Q' r (a.put o.dst undef)) : wpSeg P ops C Q' (i :: r) a := ⟨o, undef, by rw [← ho, Array.getElem?_toList], .inr ⟨hw, rfl⟩, h⟩
/-- The effect. -/
theorem eff_step {i : Nat} {o : Oper} {K : Act → World → Prop} {a : Act} {w : World} (ho : ops.toList[i]? = some o)
    (h : ∀ K' : Act → World → Prop, (∀ a w, K a w → K' a w) → if Region.wanted o (yielded ops a.tmps) = true then Oper.wp P o a w K' Q else K' (a.put o.dst undef) w) : wpOp P ops Q i K a w :=
  wpOp_step (by rw [← ho, Array.getElem?_toList]) h
end
end Go.Proofs.Ytogfblfekedefaa
