/-
  A REGION THAT DRAWS ITS ORDER, WALKED BY A PLAN, WHERE THE LAST EFFECTS CHANGE WHAT THE FIRST OPERATIONS READ ('wp_region_dead'): behind the operations of D, each of which waits for all that was pulled ahead of it, the class may be any.
-/
import Derived.Test.YtogfblfekedefaaRegion
namespace Go.Proofs.Ytogfblfekedefaa
open Go.RowKit
section
variable {P : Program} {ops : Array Oper} {Q : Exit → Act → World → Prop} {md : Region.Mode} {D Z : List Nat}

/-- Whatever order is picked; behind every operation that is none of D the world is the same, or S holds. -/
def wpAnyX (P : Program) (md : Region.Mode) (ops : Array Oper) (D : List Nat) (Q : Exit → Act → World → Prop) (S : World → Prop) : Nat → Array Bool → Act → World → Prop
  | 0, listed, a, w => Region.ready md ops listed = [] ∧ Q .normal a w
  | fuel + 1, listed, a, w => (Region.ready md ops listed = [] → Q .normal a w) ∧
    ∀ i ∈ Region.ready md ops listed, wpOp P ops Q i (fun a' w' => (D.contains i = true ∨ w' = w ∨ S w') ∧ wpAnyX P md ops D Q S fuel (listed.setIfInBounds i true) a' w') a w
theorem wpAnyX_any {S : World → Prop} : ∀ (fuel : Nat) (listed : Array Bool) (a : Act) (w : World), wpAnyX P md ops D Q S fuel listed a w → wpAny P md ops Q fuel listed a w
  | 0, _, _, _, h => h
  | fuel + 1, _, _, _, h => ⟨h.1, fun i hi => wpOp_mono (fun _ _ h' => wpAnyX_any fuel _ _ _ h'.2) (h.2 i hi)⟩
theorem wpAnyX_mono {S S' : World → Prop} (hS : ∀ W, S' W → S W) : ∀ (fuel : Nat) (listed : Array Bool) (a : Act) (w : World), wpAnyX P md ops D Q S' fuel listed a w → wpAnyX P md ops D Q S fuel listed a w
  | 0, _, _, _, h => h
  | fuel + 1, _, _, _, h => ⟨h.1, fun i hi => wpOp_mono (fun _ _ h' => ⟨h'.1.imp id (Or.imp id (hS _)), wpAnyX_mono hS fuel _ _ _ h'.2⟩) (h.2 i hi)⟩
/-- All that is left is of D: the class may be any. -/
theorem wpAnyX_rest {S S' : World → Prop} : ∀ (fuel : Nat) (listed : Array Bool) (a : Act) (w : World), (∀ i, i < ops.size → listed.getD i true = false → D.contains i = true) → wpAnyX P md ops D Q S' fuel listed a w → wpAnyX P md ops D Q S fuel listed a w
  | 0, _, _, _, _, h => h
  | fuel + 1, listed, _, _, hD, h => ⟨h.1, fun i hi => wpOp_mono (fun _ _ h' => ⟨.inl (by
      obtain ⟨h1, o, ho, _⟩ := mem_ready.1 hi
      exact hD i (Array.getElem?_eq_some_iff.1 ho).1 h1), wpAnyX_rest fuel _ _ _ (fun k hk h1 => hD k hk (by
      by_cases e : i = k
      · subst e
        exact (mem_ready.1 hi).1
      · rw [getD_set_ne true e] at h1
        exact h1)) h'.2⟩) (h.2 i hi)⟩
/-- One that may come up may be taken first, if those of D that are left wait for it. -/
theorem wpAnyX_first {S V : World → Prop} (hSV : ∀ W, S W → V W) {i : Nat} {oi : Oper} {v : Value} (hi : ops[i]? = some oi) (hsel : ∀ (j : Nat) (o : Oper) cs b, ops[j]? = some o → o.op ≠ .select cs b)
    (hQ : ∀ c a w, Q (.panic c) (a.put oi.dst v) w → Q (.panic c) a w) :
    ∀ (fuel : Nat) (listed : Array Bool) (a : Act) (w : World),
      (∀ j oj, ops[j]? = some oj → j ≠ i → listed.getD j true = false → (∀ e ∈ oj.after, Region.binds md e = true → e.on ≠ i) → oi.apart ops oj = true ∧ (D.contains j = false ∨ ∀ W, V W)) →
      i ∈ Region.ready md ops listed → YieldsIf P ops V oi v a → V w →
      wpAnyX P md ops D Q S fuel (listed.setIfInBounds i true) (a.put oi.dst v) w → wpAnyX P md ops D Q S (fuel + 1) listed a w := by
  intro fuel
  induction fuel with
  | zero =>
    intro listed a w _ hr hy hS H
    refine ⟨fun h => (by rw [h] at hr; cases hr), fun j hj => ?_⟩
    by_cases hji : j = i
    · subst hji; exact hy.wpOp hi hS ⟨.inr (.inl rfl), H⟩
    · have := ready_mono hj hji
      rw [H.1] at this
      cases this
  | succ fuel ih =>
    intro listed a w hfree hr hy hS H
    refine ⟨fun h => (by rw [h] at hr; cases hr), fun j hj => ?_⟩
    by_cases hji : j = i
    · subst hji; exact hy.wpOp hi hS ⟨.inr (.inl rfl), H⟩
    · have h1 := H.2 j (ready_mono hj hji)
      obtain ⟨hjun, oj, hoj, hall⟩ := mem_ready.1 hj
      have hnot : ∀ e ∈ oj.after, Region.binds md e = true → e.on ≠ i := fun e he hb heq => by
        have h1 := hall e he hb
        have h0 := (mem_ready.1 hr).1
        rw [heq] at h1
        rcases Nat.lt_or_ge i listed.size with h' | h'
        · simp [h'] at h0 h1; rw [h0] at h1; cases h1
        · simp [Array.getElem?_eq_none h'] at h1
      obtain ⟨hap, hnd⟩ := hfree j oj hoj hji hjun hnot
      have h2 := wpOp_putIf hoj hap (fun cs b => hsel i oi cs b hi) (fun cs b => hsel j oj cs b hoj) hQ hy h1
      have hfree' : ∀ k ok, ops[k]? = some ok → k ≠ i → (listed.setIfInBounds j true).getD k true = false →
          (∀ e ∈ ok.after, Region.binds md e = true → e.on ≠ i) → oi.apart ops ok = true ∧ (D.contains k = false ∨ ∀ W, V W) := fun k ok hk hki hun hno => by
        refine hfree k ok hk hki ?_ hno
        by_cases hjk : j = k
        · subst hjk; exact hjun
        · rw [getD_set_ne true hjk] at hun; exact hun
      refine wpOp_mono (fun a' w' h3 => ?_) h2
      have hS' : V w' := by
        rcases hnd with hnd | hnd
        · rcases h3.2.1 with h4 | h4 | h4
          · rw [hnd] at h4; cases h4
          · rw [h4]; exact hS
          · exact hSV _ h4
        · exact hnd _
      refine ⟨h3.2.1, ih (listed.setIfInBounds j true) a' w' hfree' (ready_mono hr (Ne.symm hji)) h3.1 hS' ?_⟩
      rw [Array.setIfInBounds_comm _ _ hji]
      exact h3.2.2
/-- Those of D that are left wait for i. -/
def waitB (md : Region.Mode) (ops : Array Oper) (D : List Nat) (listed : Array Bool) (i : Nat) : Bool :=
  D.all fun j => j == i || listed.getD j true || (match ops[j]? with | some oj => oj.after.any fun e => Region.binds md e && e.on == i | none => true)
def segX (md : Region.Mode) (ops : Array Oper) (D Z : List Nat) : Array Bool → List Nat → Bool
  | _, [] => true
  | listed, i :: r => (Region.ready md ops listed).contains i && Region.free md ops listed i && (Z.contains i || waitB md ops D listed i) && segX md ops D Z (listed.setIfInBounds i true) r
def leftB (ops : Array Oper) (D : List Nat) (listed : Array Bool) : Bool := (List.range ops.size).all fun i => listed.getD i true || D.contains i
def planX (md : Region.Mode) (ops : Array Oper) (D Z : List Nat) : Array Bool → List (List Nat × Nat) → List Nat → Bool
  | listed, [], q => segX md ops D Z listed q && (Region.ready md ops (listedBy listed q)).isEmpty
  | listed, (q1, e) :: r, q => segX md ops D Z listed q1 && (Region.ready md ops (listedBy listed q1) == [e]) && (!D.contains e || leftB ops D ((listedBy listed q1).setIfInBounds e true)) && planX md ops D Z ((listedBy listed q1).setIfInBounds e true) r q
/-- The operations of a row: those of Z yield their value in every world, the others in every world of C. -/
def wpSegX (P : Program) (ops : Array Oper) (Z : List Nat) (C : World → Prop) (Q' : Act → Prop) : List Nat → Act → Prop
  | [], a => Q' a
  | i :: r, a => ∃ o v, ops[i]? = some o ∧ (if Z.contains i = true then YieldsIf P ops (fun _ => True) o v a else YieldsIf P ops C o v a) ∧ wpSegX P ops Z C Q' r (a.put o.dst v)
def wpPlanX (P : Program) (ops : Array Oper) (D Z : List Nat) (Q : Exit → Act → World → Prop) : (World → Prop) → List (List Nat × Nat) → List Nat → Act → World → Prop
  | C, [], q, a, w => wpSegX P ops Z C (fun a' => Q .normal a' w) q a
  | C, (q1, e) :: r, q, a, w => wpSegX P ops Z C (fun a1 => wpOp P ops Q e (fun a2 w2 => ∃ C' : World → Prop, C' w2 ∧ (D.contains e = true ∨ ∀ W, C' W → C W) ∧ wpPlanX P ops D Z Q C' r q a2 w2) a1 w) q1 a
theorem wpAnyX_seg {C : World → Prop} {Q' : Act → Prop} (hs : Region.noSelect ops = true) (hQ : ∀ c a d v w, Q (.panic c) (Act.put a d v) w → Q (.panic c) a w) {fuel : Nat} {w : World} (hC : C w) :
    ∀ (q : List Nat) (listed : Array Bool) (a : Act), segX md ops D Z listed q = true → wpSegX P ops Z C Q' q a → (∀ a', Q' a' → wpAnyX P md ops D Q C fuel (listedBy listed q) a' w) → wpAnyX P md ops D Q C (fuel + q.length) listed a w
  | [], _, _, _, h, hn => hn _ h
  | i :: r, listed, a, hB, h, hn => by
    simp only [segX, Bool.and_eq_true] at hB
    obtain ⟨⟨⟨hr, hf⟩, hw⟩, hB'⟩ := hB
    obtain ⟨o, v, ho, hy, hk⟩ := h
    by_cases hz : Z.contains i = true
    · rw [if_pos hz] at hy
      exact wpAnyX_first (V := fun _ => True) (fun _ _ => trivial) (fuel := fuel + r.length) ho (Region.noSelect_spec hs) (fun c a w => hQ c a o.dst v w) listed a w (fun j oj hoj hji hun hno => ⟨Region.free_spec ho hf j oj hoj hji hun hno, .inr fun _ => trivial⟩) (by simpa using hr) hy trivial (wpAnyX_seg hs hQ hC r _ _ hB' hk hn)
    · rw [if_neg hz] at hy
      have hw' : waitB md ops D listed i = true := by
        rcases Bool.or_eq_true _ _ ▸ hw with h | h
        · exact absurd h hz
        · exact h
      refine wpAnyX_first (V := C) (fun _ h => h) (fuel := fuel + r.length) ho (Region.noSelect_spec hs) (fun c a w => hQ c a o.dst v w) listed a w ?_ (by simpa using hr) hy hC (wpAnyX_seg hs hQ hC r _ _ hB' hk hn)
      intro j oj hoj hji hun hno
      refine ⟨Region.free_spec ho hf j oj hoj hji hun hno, .inl ?_⟩
      cases hd : D.contains j with
      | false => rfl
      | true =>
        have h1 := List.all_eq_true.1 hw' j (by simpa using hd)
        rw [hoj, hun] at h1
        simp only [Bool.or_false, Bool.or_eq_true, beq_iff_eq, hji, false_or] at h1
        obtain ⟨e, he, hb⟩ := Array.any_eq_true'.1 h1
        simp only [Bool.and_eq_true, beq_iff_eq] at hb
        exact absurd hb.2 (hno e he hb.1)
theorem wpAnyX_all {S : World → Prop} {rs : List Nat} {fuel : Nat} {listed : Array Bool} {a : Act} {w : World} (hr : Region.ready md ops listed = rs) (hne : rs ≠ [])
    (h : ∀ i ∈ rs, wpOp P ops Q i (fun a' w' => (D.contains i = true ∨ w' = w ∨ S w') ∧ wpAnyX P md ops D Q S fuel (listed.setIfInBounds i true) a' w') a w) : wpAnyX P md ops D Q S (fuel + 1) listed a w :=
  ⟨fun h0 => absurd (hr ▸ h0) hne, hr ▸ h⟩
theorem wpAnyX_plan (hs : Region.noSelect ops = true) (hQ : ∀ c a d v w, Q (.panic c) (Act.put a d v) w → Q (.panic c) a w) :
    ∀ (plan : List (List Nat × Nat)) (q : List Nat) (C : World → Prop) (listed : Array Bool) (a : Act) (w : World), C w → planX md ops D Z listed plan q = true → wpPlanX P ops D Z Q C plan q a w → wpAnyX P md ops D Q C (q.length + (plan.map fun x => x.1.length + 1).sum) listed a w
  | [], q, C, listed, a, w, hC, hB, h => by
    simp only [planX, Bool.and_eq_true] at hB
    have := wpAnyX_seg (fuel := 0) hs hQ hC q listed a hB.1 h fun a' h' => (show wpAnyX P md ops D Q C 0 _ _ _ from ⟨by simpa using hB.2, h'⟩)
    simpa using this
  | (q1, e) :: r, q, C, listed, a, w, hC, hB, h => by
    simp only [planX, Bool.and_eq_true, beq_iff_eq] at hB
    obtain ⟨⟨⟨hB1, hB2⟩, hB4⟩, hB3⟩ := hB
    have := wpAnyX_seg (fuel := (q.length + (r.map fun x => x.1.length + 1).sum) + 1) hs hQ hC q1 listed a hB1 h fun a' h' => by
      refine wpAnyX_all hB2 (by simp) fun i hi => ?_
      rw [List.mem_singleton.1 hi]
      refine wpOp_mono ?_ h'
      rintro a2 w2 ⟨C', hC', hsub, hp⟩
      have hh := wpAnyX_plan hs hQ r q C' _ a2 w2 hC' hB3 hp
      rcases hsub with hd | hsub
      · refine ⟨.inl hd, wpAnyX_rest _ _ _ _ (fun k hk hun => ?_) hh⟩
        rw [hd] at hB4
        simp only [Bool.not_true, Bool.false_or] at hB4
        have h1 := List.all_eq_true.1 hB4 k (by simpa using hk)
        rw [hun] at h1
        simpa using h1
      · exact ⟨.inr (.inr (hsub _ hC')), wpAnyX_mono hsub _ _ _ _ hh⟩
    rw [show q.length + ((q1, e) :: r |>.map fun x => x.1.length + 1).sum = (q.length + (r.map fun x => x.1.length + 1).sum) + 1 + q1.length by simp; omega]
    exact this
/-- THE LAW. -/
theorem wp_region_dead {id : Nat} {a : Act} {w : World} (C : World → Prop) (D Z : List Nat) (plan : List (List Nat × Nat)) (q : List Nat) (hm : P.follows .mixedOrders = true)
    (hB : (Region.noSelect ops && planX .any ops D Z (Array.replicate ops.size false) plan q && (q.length + (plan.map fun x => x.1.length + 1).sum == ops.size)) = true)
    (hQ : ∀ c a d v w, Q (.panic c) (Act.put a d v) w → Q (.panic c) a w) (hC : C w.drew) (h : wpPlanX P ops D Z Q C plan q a w.drew) : (Code.region id ops true).wp P Q a w := by
  simp only [Bool.and_eq_true, beq_iff_eq] at hB
  obtain ⟨⟨h1, h2⟩, h3⟩ := hB
  have hf := wpAnyX_plan (md := .any) h1 hQ plan q C _ a _ hC h2 h
  rw [h3] at hf
  exact wp_region_any hm (wpAnyX_any _ _ _ _ hf)
theorem planX_eff {C : World → Prop} {q1 : List Nat} {e : Nat} {r : List (List Nat × Nat)} {q : List Nat} {a : Act} {w : World}
    (h : wpSegX P ops Z C (fun a1 => wpOp P ops Q e (fun a2 w2 => ∃ C' : World → Prop, C' w2 ∧ (D.contains e = true ∨ ∀ W, C' W → C W) ∧ wpPlanX P ops D Z Q C' r q a2 w2) a1 w) q1 a) : wpPlanX P ops D Z Q C ((q1, e) :: r) q a w := h
theorem planX_last {C : World → Prop} {q : List Nat} {a : Act} {w : World} (h : wpSegX P ops Z C (fun a' => Q .normal a' w) q a) : wpPlanX P ops D Z Q C [] q a w := h
theorem segX_nil {C : World → Prop} {Q' : Act → Prop} {a : Act} (h : Q' a) : wpSegX P ops Z C Q' [] a := h
/-- One that reads what the class tells. -/
theorem segX_read {C : World → Prop} {Q' : Act → Prop} {i : Nat} {r : List Nat} {a : Act} {o : Oper} (v : Value) (ho : ops.toList[i]? = some o) (hw : Region.wanted o (yielded ops a.tmps) = true) (hz : Z.contains i = false)
    (h : ∀ w, C w → (execOp a.eval o).run P w = .ok (.value v) w) (k : wpSegX P ops Z C Q' r (a.put o.dst v)) : wpSegX P ops Z C Q' (i :: r) a :=
  ⟨o, v, by rw [← ho, Array.getElem?_toList], by rw [hz, if_neg (by decide)]; exact .inl ⟨hw, h⟩, k⟩
/-- One that yields its value in every world. -/
theorem segX_any {C : World → Prop} {Q' : Act → Prop} {i : Nat} {r : List Nat} {a : Act} {o : Oper} (v : Value) (ho : ops.toList[i]? = some o) (hw : Region.wanted o (yielded ops a.tmps) = true) (hz : Z.contains i = true)
    (h : ∀ w, (execOp a.eval o).run P w = .ok (.value v) w) (k : wpSegX P ops Z C Q' r (a.put o.dst v)) : wpSegX P ops Z C Q' (i :: r) a :=
  ⟨o, v, by rw [← ho, Array.getElem?_toList], by rw [if_pos hz]; exact .inl ⟨hw, fun w _ => h w⟩, k⟩
end
end Go.Proofs.Ytogfblfekedefaa
