/-
  Cells: the record of all, written; a map's copy.
-/
import Derived.Test.YtmioifcbkhpdaaaGreatPkPl01
import Derived.Test.YtmioifcbkhpdaaaGreatPkPl21
import Derived.Test.YtmioifcbkhpdaaaGreatPkPl04
import Derived.Test.YtmioifcbkhpdaaaGreatPkPl22
import Derived.Test.YtmioifcbkhpdaaaGreatPkPl02
import Derived.Test.YtmioifcbkhpdaaaGreatPkPl15
import Derived.Test.YtmioifcbkhpdaaaGreatPkPl05
namespace Go.Proofs.YtmioifcbkhpdaaaGreat
set_option maxHeartbeats 16000000
set_option maxRecDepth 100000
open Go.RowKit
section
variable {P : Program} {ops : Array Oper} {Q : Exit → Act → World → Prop} {md : Region.Mode} {D Z : List Nat}
def wpAnyX (P : Program) (md : Region.Mode) (ops : Array Oper) (D : List Nat) (Q : Exit → Act → World → Prop) (S : World → Prop) : Nat → Array Bool → Act → World → Prop
 | 0, listed, a, w => Region.ready md ops listed = [] ∧ Q .normal a w
 | fuel + 1, listed, a, w => (Region.ready md ops listed = [] → Q .normal a w) ∧
   ∀ i ∈ Region.ready md ops listed, wpOp P ops Q i (fun a' w' => (D.contains i = true ∨ w' = w ∨ S w') ∧ wpAnyX P md ops D Q S fuel (listed.setIfInBounds i true) a' w') a w
theorem wpAnyX_any {S : World → Prop} : ∀ (fuel : Nat) (listed : Array Bool) (a : Act) (w : World), wpAnyX P md ops D Q S fuel listed a w → wpAny P md ops Q fuel listed a w
 | 0, _, _, _, h => h
 | fuel + 1, _, _, _, h => ⟨h.1, fun i hi => wpOp_mono (fun _ _ h' => wpAnyX_any fuel _ _ _ h'.2) (h.2 i hi)⟩
theorem wpAnyX_mono {S S' : World → Prop} (hS : ∀ W, S' W → S W) : ∀ (fuel : Nat) (listed : Array Bool) (a : Act) (w : World), wpAnyX P md ops D Q S' fuel listed a w → wpAnyX P md ops D Q S fuel listed a w
 | 0, _, _, _, h => h
 | fuel + 1, _, _, _, h => ⟨h.1, fun i hi => wpOp_mono (fun _ _ h' => ⟨h'.1.imp id (Or.imp id (hS _)), wpAnyX_mono hS fuel _ _ _ h'.2⟩) (h.2 i hi)⟩
theorem wpAnyX_rest {S S' : World → Prop} : ∀ (fuel : Nat) (listed : Array Bool) (a : Act) (w : World), (∀ i, i < ops.size → listed.getD i true = false → D.contains i = true) → wpAnyX P md ops D Q S' fuel listed a w → wpAnyX P md ops D Q S fuel listed a w
 | 0, _, _, _, _, h => h
 | fuel + 1, listed, _, _, hD, h => ⟨h.1, fun i hi => wpOp_mono (fun _ _ h' => ⟨.inl (by
     obtain ⟨h1, o, ho, _⟩ := mem_ready.1 hi;exact hD i (Array.getElem?_eq_some_iff.1 ho).1 h1), wpAnyX_rest fuel _ _ _ (fun k hk h1 => hD k hk (by
     by_cases e : i = k
     ·subst e;exact (mem_ready.1 hi).1
     ·rw [getD_set_ne true e] at h1;exact h1)) h'.2⟩) (h.2 i hi)⟩
theorem wpAnyX_first {S V : World → Prop} (hSV : ∀ W, S W → V W) {i : Nat} {oi : Oper} {v : Value} (hi : ops[i]? = some oi) (hsel : ∀ (j : Nat) (o : Oper) cs b, ops[j]? = some o → o.op ≠ .select cs b)
    (hQ : ∀ c a w, Q (.panic c) (a.put oi.dst v) w → Q (.panic c) a w) :
    ∀ (fuel : Nat) (listed : Array Bool) (a : Act) (w : World),
      (∀ j oj, ops[j]? = some oj → j ≠ i → listed.getD j true = false → (∀ e ∈ oj.after, Region.binds md e = true → e.on ≠ i) → oi.apart ops oj = true ∧ (D.contains j = false ∨ ∀ W, V W)) →
      i ∈ Region.ready md ops listed → YieldsIf P ops V oi v a → V w →
      wpAnyX P md ops D Q S fuel (listed.setIfInBounds i true) (a.put oi.dst v) w → wpAnyX P md ops D Q S (fuel + 1) listed a w := by
 intro fuel
 induction fuel with
 | zero =>
   intro listed a w _ hr hy hS H;refine ⟨fun h => (by rw [h] at hr; cases hr), fun j hj => ?_⟩
   by_cases hji : j = i
   ·subst hji; exact hy.wpOp hi hS ⟨.inr (.inl rfl), H⟩
   ·have := ready_mono hj hji;rw [H.1] at this
    cases this
 | succ fuel ih =>
   intro listed a w hfree hr hy hS H;refine ⟨fun h => (by rw [h] at hr; cases hr), fun j hj => ?_⟩
   by_cases hji : j = i
   ·subst hji; exact hy.wpOp hi hS ⟨.inr (.inl rfl), H⟩
   ·have h1 := H.2 j (ready_mono hj hji);obtain ⟨hjun, oj, hoj, hall⟩ := mem_ready.1 hj
    have hnot : ∀ e ∈ oj.after, Region.binds md e = true → e.on ≠ i := fun e he hb heq => by
     have h1 := hall e he hb;have h0 := (mem_ready.1 hr).1;rw [heq] at h1;rcases Nat.lt_or_ge i listed.size with h' | h'
     ·simp [h'] at h0 h1; rw [h0] at h1; cases h1
     ·simp [Array.getElem?_eq_none h'] at h1
    obtain ⟨hap, hnd⟩ := hfree j oj hoj hji hjun hnot;have h2 := wpOp_putIf hoj hap (fun cs b => hsel i oi cs b hi) (fun cs b => hsel j oj cs b hoj) hQ hy h1
    have hfree' : ∀ k ok, ops[k]? = some ok → k ≠ i → (listed.setIfInBounds j true).getD k true = false →
        (∀ e ∈ ok.after, Region.binds md e = true → e.on ≠ i) → oi.apart ops ok = true ∧ (D.contains k = false ∨ ∀ W, V W) := fun k ok hk hki hun hno => by
     refine hfree k ok hk hki ?_ hno
     by_cases hjk : j = k
     ·subst hjk; exact hjun
     ·rw [getD_set_ne true hjk] at hun; exact hun
    refine wpOp_mono (fun a' w' h3 => ?_) h2
    have hS' : V w' := by
     rcases hnd with hnd | hnd
     ·rcases h3.2.1 with h4 | h4 | h4
      ·rw [hnd] at h4; cases h4
      ·rw [h4]; exact hS
      ·exact hSV _ h4
     ·exact hnd _
    refine ⟨h3.2.1, ih (listed.setIfInBounds j true) a' w' hfree' (ready_mono hr (Ne.symm hji)) h3.1 hS' ?_⟩;rw [Array.setIfInBounds_comm _ _ hji];exact h3.2.2
def waitB (md : Region.Mode) (ops : Array Oper) (D : List Nat) (listed : Array Bool) (i : Nat) : Bool :=
 D.all fun j => j == i || listed.getD j true || (match ops[j]? with | some oj => oj.after.any fun e => Region.binds md e && e.on == i | none => true)
def segX (md : Region.Mode) (ops : Array Oper) (D Z : List Nat) : Array Bool → List Nat → Bool
 | _, [] => true
 | listed, i :: r => (Region.ready md ops listed).contains i && Region.free md ops listed i && (Z.contains i || waitB md ops D listed i) && segX md ops D Z (listed.setIfInBounds i true) r
def leftB (ops : Array Oper) (D : List Nat) (listed : Array Bool) : Bool := (List.range ops.size).all fun i => listed.getD i true || D.contains i
def planX (md : Region.Mode) (ops : Array Oper) (D Z : List Nat) : Array Bool → List (List Nat × Nat) → List Nat → Bool
 | listed, [], q => segX md ops D Z listed q && (Region.ready md ops (ya listed q)).isEmpty
 | listed, (q1, e) :: r, q => segX md ops D Z listed q1 && (Region.ready md ops (ya listed q1) == [e]) && (!D.contains e || leftB ops D ((ya listed q1).setIfInBounds e true)) && planX md ops D Z ((ya listed q1).setIfInBounds e true) r q
def wpSegX (P : Program) (ops : Array Oper) (Z : List Nat) (C : World → Prop) (Q' : Act → Prop) : List Nat → Act → Prop
 | [], a => Q' a
 | i :: r, a => ∃ o v, ops[i]? = some o ∧ (if Z.contains i = true then YieldsIf P ops (fun _ => True) o v a else YieldsIf P ops C o v a) ∧ wpSegX P ops Z C Q' r (a.put o.dst v)
def wpPlanX (P : Program) (ops : Array Oper) (D Z : List Nat) (Q : Exit → Act → World → Prop) : (World → Prop) → List (List Nat × Nat) → List Nat → Act → World → Prop
 | C, [], q, a, w => wpSegX P ops Z C (fun a' => Q .normal a' w) q a
 | C, (q1, e) :: r, q, a, w => wpSegX P ops Z C (fun a1 => wpOp P ops Q e (fun a2 w2 => ∃ C' : World → Prop, C' w2 ∧ (D.contains e = true ∨ ∀ W, C' W → C W) ∧ wpPlanX P ops D Z Q C' r q a2 w2) a1 w) q1 a
theorem wpAnyX_seg {C : World → Prop} {Q' : Act → Prop} (hs : Region.noSelect ops = true) (hQ : ∀ c a d v w, Q (.panic c) (Act.put a d v) w → Q (.panic c) a w) {fuel : Nat} {w : World} (hC : C w) :
    ∀ (q : List Nat) (listed : Array Bool) (a : Act), segX md ops D Z listed q = true → wpSegX P ops Z C Q' q a → (∀ a', Q' a' → wpAnyX P md ops D Q C fuel (ya listed q) a' w) → wpAnyX P md ops D Q C (fuel + q.length) listed a w
 | [], _, _, _, h, hn => hn _ h
 | i :: r, listed, a, hB, h, hn => by
   simp only [segX, Bool.and_eq_true] at hB;obtain ⟨⟨⟨hr, hf⟩, hw⟩, hB'⟩ := hB;obtain ⟨o, v, ho, hy, hk⟩ := h
   by_cases hz : Z.contains i = true
   ·rw [if_pos hz] at hy;exact wpAnyX_first (V := fun _ => True) (fun _ _ => trivial) (fuel := fuel + r.length) ho (Region.noSelect_spec hs) (fun c a w => hQ c a o.dst v w) listed a w (fun j oj hoj hji hun hno => ⟨Region.free_spec ho hf j oj hoj hji hun hno, .inr fun _ => trivial⟩) (by simpa using hr) hy trivial (wpAnyX_seg hs hQ hC r _ _ hB' hk hn)
   ·rw [if_neg hz] at hy
    have hw' : waitB md ops D listed i = true := by
     rcases Bool.or_eq_true _ _ ▸ hw with h | h
     ·exact absurd h hz
     ·exact h
    refine wpAnyX_first (V := C) (fun _ h => h) (fuel := fuel + r.length) ho (Region.noSelect_spec hs) (fun c a w => hQ c a o.dst v w) listed a w ?_ (by simpa using hr) hy hC (wpAnyX_seg hs hQ hC r _ _ hB' hk hn);intro j oj hoj hji hun hno;refine ⟨Region.free_spec ho hf j oj hoj hji hun hno, .inl ?_⟩
    cases hd : D.contains j with
    | false => rfl
    | true =>
      have h1 := List.all_eq_true.1 hw' j (by simpa using hd);rw [hoj, hun] at h1;simp only [Bool.or_false, Bool.or_eq_true, beq_iff_eq, hji, false_or] at h1;obtain ⟨e, he, hb⟩ := Array.any_eq_true'.1 h1;simp only [Bool.and_eq_true, beq_iff_eq] at hb;exact absurd hb.2 (hno e he hb.1)
theorem wpAnyX_all {S : World → Prop} {rs : List Nat} {fuel : Nat} {listed : Array Bool} {a : Act} {w : World} (hr : Region.ready md ops listed = rs) (hne : rs ≠ [])
    (h : ∀ i ∈ rs, wpOp P ops Q i (fun a' w' => (D.contains i = true ∨ w' = w ∨ S w') ∧ wpAnyX P md ops D Q S fuel (listed.setIfInBounds i true) a' w') a w) : wpAnyX P md ops D Q S (fuel + 1) listed a w :=
 ⟨fun h0 => absurd (hr ▸ h0) hne, hr ▸ h⟩
theorem wpAnyX_plan (hs : Region.noSelect ops = true) (hQ : ∀ c a d v w, Q (.panic c) (Act.put a d v) w → Q (.panic c) a w) :
    ∀ (plan : List (List Nat × Nat)) (q : List Nat) (C : World → Prop) (listed : Array Bool) (a : Act) (w : World), C w → planX md ops D Z listed plan q = true → wpPlanX P ops D Z Q C plan q a w → wpAnyX P md ops D Q C (q.length + (plan.map fun x => x.1.length + 1).sum) listed a w
 | [], q, C, listed, a, w, hC, hB, h => by
   simp only [planX, Bool.and_eq_true] at hB;have := wpAnyX_seg (fuel := 0) hs hQ hC q listed a hB.1 h fun a' h' => (show wpAnyX P md ops D Q C 0 _ _ _ from ⟨by simpa using hB.2, h'⟩)
   simpa using this
 | (q1, e) :: r, q, C, listed, a, w, hC, hB, h => by
   simp only [planX, Bool.and_eq_true, beq_iff_eq] at hB;obtain ⟨⟨⟨hB1, hB2⟩, hB4⟩, hB3⟩ := hB
   have := wpAnyX_seg (fuel := (q.length + (r.map fun x => x.1.length + 1).sum) + 1) hs hQ hC q1 listed a hB1 h fun a' h' => by
    refine wpAnyX_all hB2 (by simp) fun i hi => ?_
    rw [List.mem_singleton.1 hi];refine wpOp_mono ?_ h';rintro a2 w2 ⟨C', hC', hsub, hp⟩;have hh := wpAnyX_plan hs hQ r q C' _ a2 w2 hC' hB3 hp;rcases hsub with hd | hsub
    ·refine ⟨.inl hd, wpAnyX_rest _ _ _ _ (fun k hk hun => ?_) hh⟩;rw [hd] at hB4;simp only [Bool.not_true, Bool.false_or] at hB4;have h1 := List.all_eq_true.1 hB4 k (by simpa using hk);rw [hun] at h1
     simpa using h1
    ·exact ⟨.inr (.inr (hsub _ hC')), wpAnyX_mono hsub _ _ _ _ hh⟩
   rw [show q.length + ((q1, e) :: r |>.map fun x => x.1.length + 1).sum = (q.length + (r.map fun x => x.1.length + 1).sum) + 1 + q1.length by simp; omega];exact this
theorem wp_region_dead {id : Nat} {a : Act} {w : World} (C : World → Prop) (D Z : List Nat) (plan : List (List Nat × Nat)) (q : List Nat) (hm : P.follows .mixedOrders = true)
    (hB : (Region.noSelect ops && planX .any ops D Z (Array.replicate ops.size false) plan q && (q.length + (plan.map fun x => x.1.length + 1).sum == ops.size)) = true)
    (hQ : ∀ c a d v w, Q (.panic c) (Act.put a d v) w → Q (.panic c) a w) (hC : C w.drew) (h : wpPlanX P ops D Z Q C plan q a w.drew) : (Code.region id ops true).wp P Q a w := by
 simp only [Bool.and_eq_true, beq_iff_eq] at hB;obtain ⟨⟨h1, h2⟩, h3⟩ := hB;have hf := wpAnyX_plan (md := .any) h1 hQ plan q C _ a _ hC h2 h;rw [h3] at hf;exact wp_region_any hm (wpAnyX_any _ _ _ _ hf)
theorem yn {C : World → Prop} {q1 : List Nat} {e : Nat} {r : List (List Nat × Nat)} {q : List Nat} {a : Act} {w : World}
    (h : wpSegX P ops Z C (fun a1 => wpOp P ops Q e (fun a2 w2 => ∃ C' : World → Prop, C' w2 ∧ (D.contains e = true ∨ ∀ W, C' W → C W) ∧ wpPlanX P ops D Z Q C' r q a2 w2) a1 w) q1 a) : wpPlanX P ops D Z Q C ((q1, e) :: r) q a w := h
theorem planX_last {C : World → Prop} {q : List Nat} {a : Act} {w : World} (h : wpSegX P ops Z C (fun a' => Q .normal a' w) q a) : wpPlanX P ops D Z Q C [] q a w := h
theorem yj {C : World → Prop} {Q' : Act → Prop} {a : Act} (h : Q' a) : wpSegX P ops Z C Q' [] a := h
theorem yg {C : World → Prop} {Q' : Act → Prop} {i : Nat} {r : List Nat} {a : Act} {o : Oper} (v : Value) (ho : ops.toList[i]? = some o) (hw : Region.wanted o (yielded ops a.tmps) = true) (hz : Z.contains i = false)
    (h : ∀ w, C w → (execOp a.eval o).run P w = .ok (.value v) w) (k : wpSegX P ops Z C Q' r (a.put o.dst v)) : wpSegX P ops Z C Q' (i :: r) a :=
 ⟨o, v, by rw [← ho, Array.getElem?_toList], by rw [hz, if_neg (by decide)]; exact .inl ⟨hw, h⟩, k⟩
theorem xD {C : World → Prop} {Q' : Act → Prop} {i : Nat} {r : List Nat} {a : Act} {o : Oper} (v : Value) (ho : ops.toList[i]? = some o) (hw : Region.wanted o (yielded ops a.tmps) = true) (hz : Z.contains i = true)
    (h : ∀ w, (execOp a.eval o).run P w = .ok (.value v) w) (k : wpSegX P ops Z C Q' r (a.put o.dst v)) : wpSegX P ops Z C Q' (i :: r) a :=
 ⟨o, v, by rw [← ho, Array.getElem?_toList], by rw [if_pos hz]; exact .inl ⟨hw, fun w _ => h w⟩, k⟩
end
open Codec
def zc (d : DM) (s : SM) (l : List Ch) : DM × SM × Int :=
 if yu s l ≠ 0 ∨ l = [] then (d, s, yu s l)
 else if (zJ d s l).2.2 = 0 then ((zJ d s l).1, { (zJ d s l).2.1 with t := doL s.t l }, 0)
 else ((zJ d s l).1, (if (zJ d s l).2.2 = 31 then s else { s with e := (zJ d s l).2.2 }), (zJ d s l).2.2)
structure RaW (w0 : World) (DV SV RD RS : Array Value) (w : World) : Prop where
 dv : w.heap[w0.heap.size]? = some (.cells DV 30 (0, 0))
 sv : w.heap[w0.heap.size + 1]? = some (.cells SV 41 (0, 0))
 rd : w.heap[w0.heap.size + 2]? = some (.cells RD 30 (0, 0))
 rs : w.heap[w0.heap.size + 3]? = some (.cells RS 41 (0, 0))
 bel : Below w0.heap.size w0 w
section
variable {w0 w w' : World} {DV SV RD RS : Array Value}
theorem RaW.setE (h : RaW w0 DV SV RD RS w) (i : Nat) (u : Value) : RaW w0 DV (SV.setIfInBounds i u) RD RS (w.setCell ⟨w0.heap.size + 1, i, none⟩ u) :=
 ⟨(Below.heap_setCell _ _ _ _ (by simp)).trans h.dv, zG h.sv i u, (Below.heap_setCell _ _ _ _ (by simp)).trans h.rd, (Below.heap_setCell _ _ _ _ (by simp)).trans h.rs, h.bel.setCell (by simp) u⟩
theorem RaW.below (h : RaW w0 DV SV RD RS w) (hb : Below w.heap.size w w') : RaW w0 DV SV RD RS w' :=
 ⟨(hb.block _ (zB h.dv)).trans h.dv, (hb.block _ (zB h.sv)).trans h.sv, (hb.block _ (zB h.rd)).trans h.rd, (hb.block _ (zB h.rs)).trans h.rs, h.bel.trans (hb.mono h.bel.size)⟩
theorem RaW.drew (h : RaW w0 DV SV RD RS w) : RaW w0 DV SV RD RS w.drew := ⟨h.dv, h.sv, h.rd, h.rs, h.bel.drew⟩
theorem RaW.setD (h : RaW w0 DV SV RD RS w) (X : Array Value) : RaW w0 X SV RD RS (w.setRow w0.heap.size X) :=
 ⟨zF h.dv, (zM _ _ _ _ (by omega)).trans h.sv, (zM _ _ _ _ (by omega)).trans h.rd, (zM _ _ _ _ (by omega)).trans h.rs, zD h.bel (by omega) _⟩
theorem RaW.setRD (h : RaW w0 DV SV RD RS w) (X : Array Value) : RaW w0 DV SV X RS (w.setRow (w0.heap.size + 2) X) :=
 ⟨(zM _ _ _ _ (by omega)).trans h.dv, (zM _ _ _ _ (by omega)).trans h.sv, zF h.rd, (zM _ _ _ _ (by omega)).trans h.rs, zD h.bel (by omega) _⟩
theorem RaW.setRS (h : RaW w0 DV SV RD RS w) (X : Array Value) : RaW w0 DV SV RD X (w.setRow (w0.heap.size + 3) X) :=
 ⟨(zM _ _ _ _ (by omega)).trans h.dv, (zM _ _ _ _ (by omega)).trans h.sv, (zM _ _ _ _ (by omega)).trans h.rd, zF h.rs, zD h.bel (by omega) _⟩
theorem RaW.setO (h : RaW w0 DV SV RD RS w) {q : Nat} (hq : w0.heap.size + 4 ≤ q) (X : Array Value) : RaW w0 DV SV RD RS (w.setRow q X) :=
 ⟨(zM _ _ _ _ (by omega)).trans h.dv, (zM _ _ _ _ (by omega)).trans h.sv, (zM _ _ _ _ (by omega)).trans h.rd, (zM _ _ _ _ (by omega)).trans h.rs, zD h.bel (by omega) _⟩
end
theorem yY {fn : Func} {p q u : Tmp} (h : fn.results = #[.cell p 30, .cell q 41, .tmp u]) (tmps : Array Value) {w0 w : World} {DV SV RD RS : Array Value} (hw : RaW w0 DV SV RD RS w) (hp : tmps.getD p undef = .pointer (some ⟨w0.heap.size + 2, 0, none⟩)) (hq : tmps.getD q undef = .pointer (some ⟨w0.heap.size + 3, 0, none⟩)) (hd : RD.size = 4) (hl : RS.size = 11) :
    (results fn tmps).run Tryz.prog w = .ok (.tuple #[.agg RD, .agg RS, tmps.getD u undef]) w := by
 have hp' : tmps[p]?.getD undef = .pointer (some ⟨w0.heap.size + 2, 0, none⟩) := by simpa using hp
 have hq' : tmps[q]?.getD undef = .pointer (some ⟨w0.heap.size + 3, 0, none⟩) := by simpa using hq
 simp [results, h, hp', hq', asAddr, run_loadVar_row w _ 30 30 RD (0, 0) _ hw.rd Tryz.underlying30 rfl (by rw [hd]; exact zI), run_loadVar_row w _ 41 41 RS (0, 0) _ hw.rs Tryz.underlying41 rfl (by rw [hl]; exact za), Result.andThen, Sem.run_bind]
def RapPost (w : World) (U : Nat → Prop) (nl : Nat) (r : DM × SM × Int) (e : Ending) (w' : World) : Prop :=
 ∃ A c At nt ct A2 n2 c2, e = .returned (.tuple #[.agg (dmV r.1 A nl c), .agg (smV r.2.1 At nt ct A2 n2 c2), .int .i64 r.2.2]) ∧ Strs w' (fun k => U k ∨ w.heap.size ≤ k) A nl c r.1.l ∧ Cms w' (fun k => U k ∨ w.heap.size ≤ k) At nt ct (tb2 r.2.1.t) ∧ Strs w' (fun k => U k ∨ w.heap.size ≤ k) A2 n2 c2 r.2.1.log.l ∧ Below w.heap.size w w'
theorem raw_start (w : World) (DV SV ZD ZS : Array Value) : RaW w DV SV ZD ZS ((((w.alloc (.cells DV 30)).alloc (.cells SV 41)).alloc (.cells ZD 30)).alloc (.cells ZS 41)) := by
 have h1 := heap_alloc_new w (.cells DV 30);have h2 := heap_alloc_new (w.alloc (.cells DV 30)) (.cells SV 41);have h3 := heap_alloc_new ((w.alloc (.cells DV 30)).alloc (.cells SV 41)) (.cells ZD 30);have h4 := heap_alloc_new (((w.alloc (.cells DV 30)).alloc (.cells SV 41)).alloc (.cells ZD 30)) (.cells ZS 41);have up : ∀ (W : World) (o : Obj) {k : Nat} {cs : Array Value} {t : TypeId}, W.heap[k]? = some (.cells cs t (0, 0)) → (W.alloc o).heap[k]? = some (.cells cs t (0, 0)) := fun W o {k cs t} h => (heap_alloc_old W o (zB h)).trans h
 simp only [World.size_alloc] at h2 h3 h4;exact ⟨up _ _ (up _ _ (up _ _ h1)), up _ _ (up _ _ h2), up _ _ h3, h4, (((((Below.refl _ _).alloc (Nat.le_refl _) _).alloc (by simp) _).alloc (by simp <;> omega) _).alloc (by simp <;> omega) _)⟩
theorem Strs.off {w : World} {S : Nat → Prop} {A : Option Addr} {n c : Nat} {l : List (List UInt8)} (h : Strs w S A n c l) {g : Nat} {cs : Array Value} {t : TypeId} (hg : w.heap[g]? = some (.cells cs t (0, 0))) (hno : ∀ (i : Nat) (b : ByteArray), cs[i]? ≠ some (.string b)) : Strs w (fun k => S k ∧ k ≠ g) A n c l :=
 ⟨h.len, h.cap, h.max, fun h0 => by
   obtain ⟨b, off, hA, hS, hlt, hc⟩ := h.row h0;refine ⟨b, off, hA, ⟨hS, fun e => ?_⟩, hlt, hc⟩;subst e;have h1 := hc 0 h0;rw [zA hg] at h1;exact hno _ _ h1⟩
theorem Cms.off {w : World} {S : Nat → Prop} {A : Option Addr} {n c : Nat} {l : List Ch} (h : Cms w S A n c l) {g : Nat} {cs : Array Value} {t : TypeId} (hg : w.heap[g]? = some (.cells cs t (0, 0))) (hno : ∀ (i : Nat) (b : ByteArray), cs[i]? ≠ some (.string b)) : Cms w (fun k => S k ∧ k ≠ g) A n c l :=
 ⟨h.len, h.cap, h.max, fun h0 => by
   obtain ⟨b, off, hA, hS, hlt, hc⟩ := h.row h0;refine ⟨b, off, hA, ⟨hS, fun e => ?_⟩, hlt, hc⟩;subst e;(have h00 : 0 < l.length := by rw [h.len]; exact h0);have h1 := hc 0 l[0] (List.getElem?_eq_getElem h00) 0 _ rfl;rw [zA hg] at h1;exact hno _ _ h1⟩
theorem dmV_no (d : DM) (A : Option Addr) (n c : Nat) (i : Nat) (b : ByteArray) : (dmV d A n c)[i]? ≠ some (.string b) := fun e => by
 have h := Array.mem_of_getElem? e;simp [dmV] at h
theorem lmV_no (m : LM) (A : Option Addr) (n c : Nat) (i : Nat) (b : ByteArray) : (lmV m A n c)[i]? ≠ some (.string b) := fun e => by
 have h := Array.mem_of_getElem? e;simp [lmV] at h
theorem smV_no (s : SM) (At : Option Addr) (nt ct : Nat) (A : Option Addr) (n c : Nat) (i : Nat) (b : ByteArray) : (smV s At nt ct A n c)[i]? ≠ some (.string b) := fun e => by
 have h := Array.mem_of_getElem? e;simp [smV] at h
theorem turned_row (w : World) (g : Nat) (cs : Array Value) : Turned (· = g) w (w.setRow g cs) := ⟨rfl, rfl, rfl, by simp [World.setRow], fun k _ hk => zM _ _ _ _ hk⟩
theorem Strs.set {w : World} {S : Nat → Prop} {A : Option Addr} {n c : Nat} {l : List (List UInt8)} (h : Strs w S A n c l) {g : Nat} {cs : Array Value} {t : TypeId} (hg : w.heap[g]? = some (.cells cs t (0, 0))) (hno : ∀ (i : Nat) (b : ByteArray), cs[i]? ≠ some (.string b)) (X : Array Value) : Strs (w.setRow g X) S A n c l :=
 ((h.off hg hno).turned (turned_row w g X) fun _ _ h1 h2 => h1.2 h2).mono fun _ _ h => h.1
theorem Cms.set {w : World} {S : Nat → Prop} {A : Option Addr} {n c : Nat} {l : List Ch} (h : Cms w S A n c l) {g : Nat} {cs : Array Value} {t : TypeId} (hg : w.heap[g]? = some (.cells cs t (0, 0))) (hno : ∀ (i : Nat) (b : ByteArray), cs[i]? ≠ some (.string b)) (X : Array Value) : Cms (w.setRow g X) S A n c l :=
 ((h.off hg hno).turned (turned_row w g X) fun _ _ h1 h2 => h1.2 h2).mono fun _ _ h => h.1
theorem allB_few {t : Tb} (h : wtT t ≤ 800000) : (allB t).length ≤ 1000000 := by
 have := allB_len t (by omega);omega
theorem half_okx {d : DM} {H F n nl : Nat} (h1 : 1 ≤ hn d) (hl : d.l.length = nl) (h2 : nl ≤ 24) (hn' : n = hn d) (hF : F = H * n) (hH : H ≤ 1) : (yd (zW d.l (F : Int) (n : Int)) (F : Int) (n : Int)).Ok := by
 subst hF hn';exact half_ok h1 (by omega) H hH
theorem lm_in_sm (s : SM) (At : Option Addr) (nt ct : Nat) (A : Option Addr) (n c : Nat) {u : Nat} {v : Value} (hu : (lmV s.log A n c)[u]? = some v) : (smV s At nt ct A n c)[2 + u]? = some v := by
 have h : u < 7 := (Array.getElem?_eq_some_iff.1 hu).1;rcases (show u = 0 ∨ u = 1 ∨ u = 2 ∨ u = 3 ∨ u = 4 ∨ u = 5 ∨ u = 6 by omega) with rfl | rfl | rfl | rfl | rfl | rfl | rfl <;> exact hu
theorem sm_built (T : Option Addr) (nt ct : Nat) (hf tn : Int) (m : LM) (A : Option Addr) (n c : Nat) : Tryz.prog.built 41 [(0, .slice T nt ct), (1, .int .i64 hf), (2, .agg (lmV m A n c)), (3, .int .i64 tn)] = some #[.slice T nt ct, .int .i64 hf, .int .i64 m.from_, .int .i64 m.n, .int .u64 (m.first : Int), .int .u64 (m.next : Int), .int .i64 (m.have_ : Int), .slice A n c, .int .i64 m.e, .int .i64 tn, .int .i64 0] := by
 kernel_rfl
theorem exec_build4 {P : Program} {E : Operand → Value} {o : Oper} {W : World} (t : TypeId) (x0 x1 x2 x3 : Operand) (ho : o.op = .build t #[(0, x0), (1, x1), (2, x2), (3, x3)]) (u0 u1 u2 u3 : Value) (h0 : E x0 = u0) (h1 : E x1 = u1) (h2 : E x2 = u2) (h3 : E x3 = u3) (cells : Array Value) (hb : P.built t [(0, u0), (1, u1), (2, u2), (3, u3)] = some cells) : (execOp E o).run P W = .ok (.value (.agg cells)) W := by
 have hr : (Instr.build t #[(0, u0), (1, u1), (2, u2), (3, u3)]).run P W = .ok (.agg cells) W := run_build W t _ cells hb;unfold execOp;simp [ho, h0, h1, h2, h3, hr, Result.andThen]
structure RaK (U : Nat → Prop) (A1 : Option Addr) (n1 c1 : Nat) (l1 : List (List UInt8)) (At : Option Addr) (nt ct : Nat) (t : List Ch) (A2 : Option Addr) (n2 c2 : Nat) (l2 : List (List UInt8)) (W : World) : Prop where
 s1 : Strs W U A1 n1 c1 l1
 cm : Cms W U At nt ct t
 s2 : Strs W U A2 n2 c2 l2
theorem RaK.set {U : Nat → Prop} {A1 At A2 : Option Addr} {n1 c1 nt ct n2 c2 : Nat} {l1 l2 : List (List UInt8)} {t : List Ch} {W : World} (h : RaK U A1 n1 c1 l1 At nt ct t A2 n2 c2 l2 W) {g : Nat} {cs : Array Value} {ty : TypeId} (hg : W.heap[g]? = some (.cells cs ty (0, 0))) (hno : ∀ (i : Nat) (b : ByteArray), cs[i]? ≠ some (.string b)) (X : Array Value) : RaK U A1 n1 c1 l1 At nt ct t A2 n2 c2 l2 (W.setRow g X) :=
 ⟨h.s1.set hg hno X, h.cm.set hg hno X, h.s2.set hg hno X⟩
theorem RaK.setC {U : Nat → Prop} {A1 At A2 : Option Addr} {n1 c1 nt ct n2 c2 : Nat} {l1 l2 : List (List UInt8)} {t : List Ch} {W : World} (h : RaK U A1 n1 c1 l1 At nt ct t A2 n2 c2 l2 W) {g : Nat} {cs : Array Value} {ty : TypeId} (hg : W.heap[g]? = some (.cells cs ty (0, 0))) (hno : ∀ (i : Nat) (b : ByteArray), cs[i]? ≠ some (.string b)) (k : Nat) (u : Value) : RaK U A1 n1 c1 l1 At nt ct t A2 n2 c2 l2 (W.setCell ⟨g, k, none⟩ u) := by
 have ht : Turned (· = g) W (W.setCell ⟨g, k, none⟩ u) := Turned.set (S := (· = g)) (Turned.refl _ W) (show g = g from rfl) k u;exact ⟨((h.s1.off hg hno).turned ht fun _ _ h1 h2 => h1.2 h2).mono fun _ _ h => h.1, ((h.cm.off hg hno).turned ht fun _ _ h1 h2 => h1.2 h2).mono fun _ _ h => h.1, ((h.s2.off hg hno).turned ht fun _ _ h1 h2 => h1.2 h2).mono fun _ _ h => h.1⟩
theorem RaK.drew {U : Nat → Prop} {A1 At A2 : Option Addr} {n1 c1 nt ct n2 c2 : Nat} {l1 l2 : List (List UInt8)} {t : List Ch} {W : World} (h : RaK U A1 n1 c1 l1 At nt ct t A2 n2 c2 l2 W) : RaK U A1 n1 c1 l1 At nt ct t A2 n2 c2 l2 W.drew :=
 ⟨h.s1.drew, ⟨h.cm.len, h.cm.cap, h.cm.max, h.cm.row⟩, h.s2.drew⟩
theorem rcapply_e {w : World} {U V : Nat → Prop} {A At A2 A3 : Option Addr} {nl c nt ct n2 c2 n3 c3 : Nat} {d : DM} {s : SM} {l : List Ch} (h : Strs w U A nl c d.l) (ht : Cms w U At nt ct (tb2 s.t)) (h2 : Strs w U A2 n2 c2 s.log.l) (hc : Cms w V A3 n3 c3 l) (he : s.e ≠ 0) : Calls Tryz.prog 11 #[.agg (dmV d A nl c), .agg (smV s At nt ct A2 n2 c2), .slice A3 n3 c3] w fun e w' => RapPost w U nl (zc d s l) e w' := by
 have hr : zc d s l = (d, s, s.e) := by
  have : yu s l = s.e := by unfold yu; rw [if_pos he]
  unfold zc;rw [this, if_pos (.inl he)]
 rw [hr];have he' : (s.e != 0) = true := by simpa using he
 clear hr he;have hz := zero_sm;have hzd := xT;obtain ⟨ZS, hZS⟩ := sqz (smV sm0 none 0 0 none 0 0);rw [← hZS] at hz;obtain ⟨ZD, hZD⟩ := sqz dz;rw [← hZD] at hzd;obtain ⟨DV, hDV⟩ := sqz (dmV d A nl c);rw [← hDV];obtain ⟨SV, hSV⟩ := sqz (smV s At nt ct A2 n2 c2);rw [← hSV];have hO := raw_start w DV SV ZD ZS;have HV : Hid (DV = dmV d A nl c ∧ SV = smV s At nt ct A2 n2 c2 ∧ DV.size = 4 ∧ SV.size = 11 ∧ ZD.size = 4 ∧ ZS.size = 11 ∧ DV.all (·.oneCell') = true ∧ SV.all (·.oneCell') = true ∧ (∀ (i : Nat) (b : ByteArray), ZD[i]? ≠ some (.string b)) ∧ (∀ (i : Nat) (b : ByteArray), ZS[i]? ≠ some (.string b))) := Lib.hid ⟨hDV, hSV, by rw [hDV]; rfl, by rw [hSV]; rfl, by rw [hZD]; rfl, by rw [hZS]; rfl, by rw [hDV]; exact zt _ _ _ _, by rw [hSV]; exact yL _ _ _ _ _ _ _, by rw [hZD]; exact dmV_no ⟨[], 0, 0, false⟩ none 0 0, by rw [hZS]; exact smV_no _ _ _ _ _ _ _⟩;have HH := sq5 h ht h2 hc hc.len;clear hZS hZD hDV hSV h ht h2 hc
 go_enter Tryz.func11, Tryz.ntmps11
 go_upto_region 1 with fail
 generalize ((((w.alloc (.cells DV 30)).alloc (.cells SV 41)).alloc (.cells ZD 30)).alloc (.cells ZS 41)) = w2 at *
 have HO := Lib.hid hO;clear hO hz hzd;have hce : w2.cell? ⟨w.heap.size + 1, 10, none⟩ = some (.int .i64 s.e) := by rw [zA HO.out.sv, HV.out.2.1]; rfl
 go_upto_region 2 with fail
 clear hce;refine sqpl (fun W => ∃ RD RS, RaW w DV SV RD RS W) [([0, 1, 2, 3], 4), ([], 5)] [6] ⟨_, _, HO.out.drew⟩ ?_;have HD := Lib.hid HO.out.drew;clear HO
 generalize (w2).drew = wd at *
 refine zR ?_;refine zE (.agg DV) (by rfl) (by rfl) (fun W hW => yU 3 hW.choose_spec.choose_spec.dv Tryz.underlying30 (by rw [HV.out.2.2.1]; exact zI)) ?_
 try simp only [Act.put, sqp]
 refine zE (.agg SV) (by rfl) (by rfl) (fun W hW => yU 4 hW.choose_spec.choose_spec.sv Tryz.underlying41 (by rw [HV.out.2.2.2.1]; exact za)) ?_
 try simp only [Act.put, sqp]
 refine sqr ?_
 try simp only [Act.put, sqp]
 refine zE (.int .i64 s.e) (by rfl) (by rfl) ?h9 ?_
 case h9 => intro W hW; have hc : W.cell? ⟨w.heap.size + 1, 10, none⟩ = some (.int .i64 s.e) := by { rw [zA hW.choose_spec.choose_spec.sv 10, HV.out.2.1]; rfl }; clear hW; go_simp
 try simp only [Act.put, sqp]
 refine zH ?_;refine yO 6 21 DV HD.out.rd (by rw [HV.out.2.2.1]; exact zI) (by rw [HV.out.2.2.2.2.1, HV.out.2.2.1]) (HV.out.2.2.2.2.2.2.1) ?_;have HE := Lib.hid (HD.out.setRD DV);clear HD
 generalize wd.setRow (w.heap.size + 2) DV = we at *
 refine ⟨fun W => ∃ RD RS, RaW w DV SV RD RS W, ⟨_, _, HE.out⟩, fun _ h => h, ?_⟩
 try simp only [Act.put]
 refine zR ?_;refine zH ?_;refine yO 7 22 SV HE.out.rs (by rw [HV.out.2.2.2.1]; exact za) (by rw [HV.out.2.2.2.2.2.1, HV.out.2.2.2.1]) (HV.out.2.2.2.2.2.2.2.1) ?_;have HF := Lib.hid (HE.out.setRS SV);clear HE
 generalize we.setRow (w.heap.size + 3) SV = wf at *
 refine ⟨fun W => W = wf, rfl, fun W (e : W = wf) => ⟨_, _, e ▸ HF.out⟩, ?_⟩;refine zZ ?_
 try simp only [Act.put]
 repeat (refine zb (by rfl) (fun K hK => ?_); go_simp; refine hK _ ?_; clear hK K)
 refine zH ?_
 go_wp2_with fail
 (try simp only [Exit.inBlock, Exit.then])
 refine bodyPost_ret (yY (p := 6) (q := 7) (u := 8) rfl _ HF.out rfl rfl (by rw [HV.out.2.2.1]) (by rw [HV.out.2.2.2.1])) rfl ?_;exact (show RapPost w U nl (d, s, s.e) _ _ from ⟨A, c, At, nt, ct, A2, n2, c2, by rw [HV.out.1, HV.out.2.1]; rfl, (HH.out.1.below HF.out.bel).mono fun _ _ h => .inl h, (HH.out.2.1.below HF.out.bel).mono fun _ _ h => .inl h, (HH.out.2.2.1.below HF.out.bel).mono fun _ _ h => .inl h, HF.out.bel⟩)
theorem rcapply_no {w : World} {U V : Nat → Prop} {A At A2 A3 : Option Addr} {nl c nt ct n2 c2 n3 c3 : Nat} {d : DM} {s : SM} {l : List Ch} (h : Strs w U A nl c d.l) (ht : Cms w U At nt ct (tb2 s.t)) (h2 : Strs w U A2 n2 c2 s.log.l) (hc : Cms w V A3 n3 c3 l) (he0 : s.e = 0) (hno : ¬ ∀ x ∈ l, zq x = true) : Calls Tryz.prog 11 #[.agg (dmV d A nl c), .agg (smV s At nt ct A2 n2 c2), .slice A3 n3 c3] w fun e w' => RapPost w U nl (zc d s l) e w' := by
 have hr : zc d s l = (d, s, 1) := by
  have : yu s l = 1 := by
   unfold yu;rw [if_neg (by simp [he0]), if_neg (by rw [List.all_eq_true]; exact hno)]
  unfold zc;rw [this, if_pos (.inl (by decide))]
 rw [hr];have HNO := Lib.hid hno;clear hr hno;have hz := zero_sm;have hzd := xT;obtain ⟨ZS, hZS⟩ := sqz (smV sm0 none 0 0 none 0 0);rw [← hZS] at hz;obtain ⟨ZD, hZD⟩ := sqz dz;rw [← hZD] at hzd;obtain ⟨DV, hDV⟩ := sqz (dmV d A nl c);rw [← hDV];obtain ⟨SV, hSV⟩ := sqz (smV s At nt ct A2 n2 c2);rw [← hSV];have hO := raw_start w DV SV ZD ZS;have HV : Hid (DV = dmV d A nl c ∧ SV = smV s At nt ct A2 n2 c2 ∧ DV.size = 4 ∧ SV.size = 11 ∧ ZD.size = 4 ∧ ZS.size = 11 ∧ DV.all (·.oneCell') = true ∧ SV.all (·.oneCell') = true ∧ (∀ (i : Nat) (b : ByteArray), ZD[i]? ≠ some (.string b)) ∧ (∀ (i : Nat) (b : ByteArray), ZS[i]? ≠ some (.string b))) := Lib.hid ⟨hDV, hSV, by rw [hDV]; rfl, by rw [hSV]; rfl, by rw [hZD]; rfl, by rw [hZS]; rfl, by rw [hDV]; exact zt _ _ _ _, by rw [hSV]; exact yL _ _ _ _ _ _ _, by rw [hZD]; exact dmV_no ⟨[], 0, 0, false⟩ none 0 0, by rw [hZS]; exact smV_no _ _ _ _ _ _ _⟩;have HH := sq5 h ht h2 hc hc.len;clear hZS hZD hDV hSV h ht h2 hc
 go_enter Tryz.func11, Tryz.ntmps11
 go_upto_region 1 with fail
 generalize ((((w.alloc (.cells DV 30)).alloc (.cells SV 41)).alloc (.cells ZD 30)).alloc (.cells ZS 41)) = w2 at *
 have HO := Lib.hid hO;clear hO hz hzd;have hce : w2.cell? ⟨w.heap.size + 1, 10, none⟩ = some (.int .i64 s.e) := by rw [zA HO.out.sv, HV.out.2.1]; rfl
 have hce' : (s.e != 0) = false := by simpa using he0
 go_upto_region 3 with fail
 clear hce hce'
 go_upto_region 4 with fail
 go_loopw [9] (fun iv wr => ∃ j : Nat, j ≤ n3 ∧ iv = .int .i64 (j : Int) ∧ RaW w DV SV ZD ZS wr ∧ ∀ x ∈ l.take j, zq x = true) (fun iv _ => n3 - (intOf iv).toNat)
 case atStart => exact ⟨0, Nat.zero_le _, rfl, HO.out, by simp⟩
 case round =>
  obtain ⟨j, hj, rfl, hO, hall⟩ := hrel;clear HO
  by_cases hlt : j < n3
  ·(have hlt' : (j : Int) < (n3 : Int) := by omega);(obtain ⟨x, hx⟩ : ∃ x, l[j]? = some x := ⟨_, List.getElem?_eq_getElem (by rw [HH.out.2.2.2.2]; exact hlt)⟩);obtain ⟨b, off, hA, _, hbl, hrow⟩ := HH.out.2.2.2.1.row (by omega);subst hA;obtain ⟨XS, hXS⟩ := sqz (cmV x)
   have HX : Hid (XS.size = 3 ∧ ∀ u v, XS[u]? = some v → wr.cell? ((⟨b, off + j * 3, none⟩ : Addr).add u) = some v) := Lib.hid ⟨by rw [hXS]; rfl, fun u v hu => by
    rw [zK];exact (hO.bel.cell (p := ⟨b, _, none⟩) hbl).trans (hrow j x hx u v (by rw [hXS] at hu; exact hu))⟩
   obtain ⟨Z, hZ⟩ := sqz (zq x);have hmy := xG x wr;rw [← hZ, ← hXS] at hmy;have hjj := IntWalk.i64_in ((j : Int) + 1) (by have := HH.out.2.2.2.1.max; have := HH.out.2.2.2.1.cap; unfold maxLen at *; omega);have HJ := sq5 hlt hx hZ hall hO;clear hXS hZ hrow hbl hx hlt hj hall hO
   go_wp2_with (first
    | (refine sqwa 33 HX.out.2 Tryz.underlying95 (by rw [HX.out.1]; exact xN) ?_)
    | (go_at_call 38; refine hmy.mono ?_; clear hmy; rintro _ w3 ⟨rfl, hb3⟩; have HO := Lib.hid (HJ.out.2.2.2.2.below hb3); clear hb3; cases Z))
   ·go_upto_region 8 with fail
    refine sqpl (fun W => ∃ RD RS, RaW w DV SV RD RS W) [([0, 1], 2), ([], 3)] [4] ⟨_, _, HO.out.drew⟩ ?_;have HD := Lib.hid HO.out.drew;clear HO
    (generalize (w3).drew = wd at *);refine zR ?_;refine zE (.agg DV) (by rfl) (by rfl) (fun W hW => yU 3 hW.choose_spec.choose_spec.dv Tryz.underlying30 (by rw [HV.out.2.2.1]; exact zI)) ?_
    try simp only [Act.put, sqp]
    refine zE (.agg SV) (by rfl) (by rfl) (fun W hW => yU 4 hW.choose_spec.choose_spec.sv Tryz.underlying41 (by rw [HV.out.2.2.2.1]; exact za)) ?_
    try simp only [Act.put, sqp]
    refine zH ?_;refine yO 6 38 DV HD.out.rd (by rw [HV.out.2.2.1]; exact zI) (by rw [HV.out.2.2.2.2.1, HV.out.2.2.1]) (HV.out.2.2.2.2.2.2.1) ?_;have HE := Lib.hid (HD.out.setRD DV);clear HD
    (generalize wd.setRow (w.heap.size + 2) DV = we at *);refine ⟨fun W => ∃ RD RS, RaW w DV SV RD RS W, ⟨_, _, HE.out⟩, fun _ h => h, ?_⟩
    try simp only [Act.put]
    refine zR ?_;refine zH ?_;refine yO 7 39 SV HE.out.rs (by rw [HV.out.2.2.2.1]; exact za) (by rw [HV.out.2.2.2.2.2.1, HV.out.2.2.2.1]) (HV.out.2.2.2.2.2.2.2.1) ?_;have HF := Lib.hid (HE.out.setRS SV);clear HE
    (generalize we.setRow (w.heap.size + 3) SV = wf at *);refine ⟨fun W => W = wf, rfl, fun W (e : W = wf) => ⟨_, _, e ▸ HF.out⟩, ?_⟩;refine zZ ?_
    try simp only [Act.put]
    repeat (refine zb (by rfl) (fun K hK => ?_); go_simp; refine hK _ ?_; clear hK K)
    refine zH ?_
    go_wp2_with fail
    (try simp only [Exit.inBlock, Exit.then])
    refine bodyPost_ret (yY (p := 6) (q := 7) (u := 8) rfl _ HF.out rfl rfl (by rw [HV.out.2.2.1]) (by rw [HV.out.2.2.2.1])) rfl ?_;exact (show RapPost w U nl (d, s, 1) _ _ from ⟨A, c, At, nt, ct, A2, n2, c2, by rw [HV.out.1, HV.out.2.1]; rfl, (HH.out.1.below HF.out.bel).mono fun _ _ h => .inl h, (HH.out.2.1.below HF.out.bel).mono fun _ _ h => .inl h, (HH.out.2.2.1.below HF.out.bel).mono fun _ _ h => .inl h, HF.out.bel⟩)
   ·go_wp2
    exact ⟨⟨j + 1, HJ.out.1, by simp, HO.out, fun y hy => by
     rw [List.take_add_one, HJ.out.2.1, List.mem_append] at hy;rcases hy with hy | hy
     ·exact HJ.out.2.2.2.1 y hy
     ·simp at hy; rw [hy]; exact HJ.out.2.2.1.symm⟩, by have := HJ.out.1; simp only [intOf]; omega⟩
  ·(obtain rfl : j = n3 := by omega);(have hlt' : ¬ (j : Int) < (j : Int) := by omega);have HO := Lib.hid hO;(have HALL : Hid (∀ x ∈ l, zq x = true) := Lib.hid fun x hx => hall x (by rw [List.take_of_length_le (by have := HH.out.2.2.2.2; omega)]; exact hx));clear hlt hj hall hO;exact absurd HALL.out HNO.out
theorem rcapply_nil {w : World} {U V : Nat → Prop} {A At A2 A3 : Option Addr} {nl c nt ct n2 c2 n3 c3 : Nat} {d : DM} {s : SM} {l : List Ch} (h : Strs w U A nl c d.l) (ht : Cms w U At nt ct (tb2 s.t)) (h2 : Strs w U A2 n2 c2 s.log.l) (hc : Cms w V A3 n3 c3 l) (he0 : s.e = 0) (hmay : ∀ x ∈ l, zq x = true) (hl : l = []) : Calls Tryz.prog 11 #[.agg (dmV d A nl c), .agg (smV s At nt ct A2 n2 c2), .slice A3 n3 c3] w fun e w' => RapPost w U nl (zc d s l) e w' := by
 have href : yu s l = 0 := by
  unfold yu;rw [if_neg (by simp [he0]), if_pos (by rw [List.all_eq_true]; exact hmay)]
 have HMAY := Lib.hid hmay;clear hmay;have hr : zc d s l = (d, s, 0) := by unfold zc; rw [href, if_pos (.inr hl)]
 rw [hr];have HN : Hid (n3 = 0) := Lib.hid (by rw [← hc.len, hl]; rfl);clear hr href hl;have hz := zero_sm;have hzd := xT;obtain ⟨ZS, hZS⟩ := sqz (smV sm0 none 0 0 none 0 0);rw [← hZS] at hz;obtain ⟨ZD, hZD⟩ := sqz dz;rw [← hZD] at hzd;obtain ⟨DV, hDV⟩ := sqz (dmV d A nl c);rw [← hDV];obtain ⟨SV, hSV⟩ := sqz (smV s At nt ct A2 n2 c2);rw [← hSV];have hO := raw_start w DV SV ZD ZS;have HV : Hid (DV = dmV d A nl c ∧ SV = smV s At nt ct A2 n2 c2 ∧ DV.size = 4 ∧ SV.size = 11 ∧ ZD.size = 4 ∧ ZS.size = 11 ∧ DV.all (·.oneCell') = true ∧ SV.all (·.oneCell') = true ∧ (∀ (i : Nat) (b : ByteArray), ZD[i]? ≠ some (.string b)) ∧ (∀ (i : Nat) (b : ByteArray), ZS[i]? ≠ some (.string b))) := Lib.hid ⟨hDV, hSV, by rw [hDV]; rfl, by rw [hSV]; rfl, by rw [hZD]; rfl, by rw [hZS]; rfl, by rw [hDV]; exact zt _ _ _ _, by rw [hSV]; exact yL _ _ _ _ _ _ _, by rw [hZD]; exact dmV_no ⟨[], 0, 0, false⟩ none 0 0, by rw [hZS]; exact smV_no _ _ _ _ _ _ _⟩;have HH := sq5 h ht h2 hc hc.len;clear hZS hZD hDV hSV h ht h2 hc
 go_enter Tryz.func11, Tryz.ntmps11
 go_upto_region 1 with fail
 generalize ((((w.alloc (.cells DV 30)).alloc (.cells SV 41)).alloc (.cells ZD 30)).alloc (.cells ZS 41)) = w2 at *
 have HO := Lib.hid hO;clear hO hz hzd;have hce : w2.cell? ⟨w.heap.size + 1, 10, none⟩ = some (.int .i64 s.e) := by rw [zA HO.out.sv, HV.out.2.1]; rfl
 have hce' : (s.e != 0) = false := by simpa using he0
 go_upto_region 3 with fail
 clear hce hce'
 go_upto_region 4 with fail
 go_loopw [9] (fun iv wr => ∃ j : Nat, j ≤ n3 ∧ iv = .int .i64 (j : Int) ∧ RaW w DV SV ZD ZS wr ∧ ∀ x ∈ l.take j, zq x = true) (fun iv _ => n3 - (intOf iv).toNat)
 case atStart => exact ⟨0, Nat.zero_le _, rfl, HO.out, by simp⟩
 case round =>
  obtain ⟨j, hj, rfl, hO, hall⟩ := hrel;clear HO
  by_cases hlt : j < n3
  ·(have hlt' : (j : Int) < (n3 : Int) := by omega);(obtain ⟨x, hx⟩ : ∃ x, l[j]? = some x := ⟨_, List.getElem?_eq_getElem (by rw [HH.out.2.2.2.2]; exact hlt)⟩);obtain ⟨b, off, hA, _, hbl, hrow⟩ := HH.out.2.2.2.1.row (by omega);subst hA;obtain ⟨XS, hXS⟩ := sqz (cmV x)
   have HX : Hid (XS.size = 3 ∧ ∀ u v, XS[u]? = some v → wr.cell? ((⟨b, off + j * 3, none⟩ : Addr).add u) = some v) := Lib.hid ⟨by rw [hXS]; rfl, fun u v hu => by
    rw [zK];exact (hO.bel.cell (p := ⟨b, _, none⟩) hbl).trans (hrow j x hx u v (by rw [hXS] at hu; exact hu))⟩
   obtain ⟨Z, hZ⟩ := sqz (zq x);have hmy := xG x wr;rw [← hZ, ← hXS] at hmy;have hjj := IntWalk.i64_in ((j : Int) + 1) (by have := HH.out.2.2.2.1.max; have := HH.out.2.2.2.1.cap; unfold maxLen at *; omega);have HJ := sq5 hlt hx hZ hall hO;clear hXS hZ hrow hbl hx hlt hj hall hO
   go_wp2_with (first
    | (refine sqwa 33 HX.out.2 Tryz.underlying95 (by rw [HX.out.1]; exact xN) ?_)
    | (go_at_call 38; refine hmy.mono ?_; clear hmy; rintro _ w3 ⟨rfl, hb3⟩; have HO := Lib.hid (HJ.out.2.2.2.2.below hb3); clear hb3; cases Z))
   ·have hz : zq x = true := HMAY.out x (List.mem_of_getElem? HJ.out.2.1);rw [hz] at HJ;exact absurd HJ.out.2.2.1 (by decide)
   ·go_wp2
    exact ⟨⟨j + 1, HJ.out.1, by simp, HO.out, fun y hy => by
     rw [List.take_add_one, HJ.out.2.1, List.mem_append] at hy;rcases hy with hy | hy
     ·exact HJ.out.2.2.2.1 y hy
     ·simp at hy; rw [hy]; exact HJ.out.2.2.1.symm⟩, by have := HJ.out.1; simp only [intOf]; omega⟩
  ·(obtain rfl : j = n3 := by omega);(have hlt' : ¬ (j : Int) < (j : Int) := by omega);have HO := Lib.hid hO;(have HALL : Hid (∀ x ∈ l, zq x = true) := Lib.hid fun x hx => hall x (by rw [List.take_of_length_le (by have := HH.out.2.2.2.2; omega)]; exact hx));clear hlt hj hall hO;have hj0 : ((j : Int) == 0) = true := by rw [HN.out]; rfl
   go_upto_region 10 with fail
   refine sqpl (fun W => ∃ RD RS, RaW w DV SV RD RS W) [([0, 1], 2), ([], 3)] [4] ⟨_, _, HO.out.drew⟩ ?_;have HD := Lib.hid HO.out.drew;clear HO
   (generalize (wr).drew = wd at *);refine zR ?_;refine zE (.agg DV) (by rfl) (by rfl) (fun W hW => yU 3 hW.choose_spec.choose_spec.dv Tryz.underlying30 (by rw [HV.out.2.2.1]; exact zI)) ?_
   try simp only [Act.put, sqp]
   refine zE (.agg SV) (by rfl) (by rfl) (fun W hW => yU 4 hW.choose_spec.choose_spec.sv Tryz.underlying41 (by rw [HV.out.2.2.2.1]; exact za)) ?_
   try simp only [Act.put, sqp]
   refine zH ?_;refine yO 6 43 DV HD.out.rd (by rw [HV.out.2.2.1]; exact zI) (by rw [HV.out.2.2.2.2.1, HV.out.2.2.1]) (HV.out.2.2.2.2.2.2.1) ?_;have HE := Lib.hid (HD.out.setRD DV);clear HD
   (generalize wd.setRow (w.heap.size + 2) DV = we at *);refine ⟨fun W => ∃ RD RS, RaW w DV SV RD RS W, ⟨_, _, HE.out⟩, fun _ h => h, ?_⟩
   try simp only [Act.put]
   refine zR ?_;refine zH ?_;refine yO 7 44 SV HE.out.rs (by rw [HV.out.2.2.2.1]; exact za) (by rw [HV.out.2.2.2.2.2.1, HV.out.2.2.2.1]) (HV.out.2.2.2.2.2.2.2.1) ?_;have HF := Lib.hid (HE.out.setRS SV);clear HE
   (generalize we.setRow (w.heap.size + 3) SV = wf at *);refine ⟨fun W => W = wf, rfl, fun W (e : W = wf) => ⟨_, _, e ▸ HF.out⟩, ?_⟩;refine zZ ?_
   try simp only [Act.put]
   repeat (refine zb (by rfl) (fun K hK => ?_); go_simp; refine hK _ ?_; clear hK K)
   refine zH ?_
   go_wp2_with fail
   (try simp only [Exit.inBlock, Exit.then])
   refine bodyPost_ret (yY (p := 6) (q := 7) (u := 8) rfl _ HF.out rfl rfl (by rw [HV.out.2.2.1]) (by rw [HV.out.2.2.2.1])) rfl ?_;exact (show RapPost w U nl (d, s, 0) _ _ from ⟨A, c, At, nt, ct, A2, n2, c2, by rw [HV.out.1, HV.out.2.1]; rfl, (HH.out.1.below HF.out.bel).mono fun _ _ h => .inl h, (HH.out.2.1.below HF.out.bel).mono fun _ _ h => .inl h, (HH.out.2.2.1.below HF.out.bel).mono fun _ _ h => .inl h, HF.out.bel⟩)
def RfR (w : World) (l : List Ch) (i : Value) (wr : World) : Prop :=
 ∃ j : Nat, j ≤ l.length ∧ i = .int .i64 (j : Int) ∧ (l.take j).all zq = true ∧ Below w.heap.size w wr
theorem crefuse_any {w : World} {S T : Nat → Prop} {p g : Nat} {s : SM} (h : Cs w S p g s) {A : Option Addr} {n c : Nat} {l : List Ch} (hl : Chs w T A n c l) (hn : n ≤ 100000000) :
    Calls Tryz.prog 35 #[.pointer (some ⟨p, 0, none⟩), .slice A n c] w fun e w' => e = .returned (.int .i64 (yu s l)) ∧ Below w.heap.size w w' := by
 have he := cerr_any h;obtain ⟨E, hE⟩ := sqz s.e;have HR : Hid (yu s l = if E ≠ 0 then E else if l.all zq then 0 else 1) := Lib.hid (by rw [hE]; rfl);rw [← hE] at he;have HL := Lib.hid hl;have HN := Lib.hid hl.len;have H0 : Hid (RfR w l (.int .i64 0) w) := Lib.hid ⟨0, Nat.zero_le _, rfl, rfl, Below.refl _ _⟩;have hzc := zero_chg;clear h hl hE
 by_cases h0 : E = 0
 ·subst h0
  go_enter Tryz.func35, Tryz.ntmps35
  go_wp2_with (go_at_call 21; refine he.mono ?_; clear he; rintro _ _ ⟨rfl, rfl⟩)
  go_loopw [15] (fun i wr => RfR w l i wr) (fun i _ => n - (intOf i).toNat)
  case atStart => exact H0.out
  case round =>
   obtain ⟨j, hj, rfl, hall, hb⟩ := hrel;clear H0;have HK := sq2 hall hb;clear hall hb
   by_cases hlt : j < n
   ·(have hlt' : (j : Int) < (n : Int) := by omega);obtain ⟨q, off, x, Ai, ni, ci, rfl, _, hqlt, hx, hcs, hy⟩ := HL.out.at_ hlt;obtain rfl : ni = x.v.length := hy.len.symm;obtain ⟨CV, hCV⟩ := sqz (chV Ai x.v.length ci x);rw [← hCV] at hcs
    have hcw : ∀ (i : Nat) (v : Value), CV[i]? = some v → wr.cell? ((⟨q, off + j * 3, none⟩ : Addr).add i) = some v := fun i v hv => by
     have h1 := hcs i v hv;rw [zK] at h1 ⊢;exact (HK.out.2.cell (p := ⟨_, _, none⟩) hqlt).trans h1
    have hadd := IntWalk.i64_in ((j : Int) + 1) (by omega);have HCV := sq2 hCV hcw;have HX := Lib.hid hx;clear hCV hcw hcs hy hx hqlt
    go_upto_region 7 with (first
     | (refine sqwa 17 HCV.out.2 Tryz.underlying64 (by rw [HCV.out.1]; exact ys) ?_)
     | (refine zl 7 18 CV (heap_alloc_new wr _) (by rw [HCV.out.1]; exact ys) (by rw [HCV.out.1]; rfl) (by rw [HCV.out.1]; exact chV_one _ _ _ _) ?_))
    have hal : Below wr.heap.size wr ((wr.alloc (.cells #[.string ⟨#[]⟩, .slice none 0 0, .bool false] 64)).setRow wr.heap.size CV) := zD ((Below.refl _ _).alloc (Nat.le_refl _) _) (Nat.le_refl _) _;have hpa : ((wr.alloc (.cells #[.string ⟨#[]⟩, .slice none 0 0, .bool false] 64)).setRow wr.heap.size CV).heap[wr.heap.size]? = some (.cells CV 64 (0, 0)) := zF (heap_alloc_new wr _);have H5 := sq2 hal hpa;clear hal hpa hzc
    (generalize (wr.alloc (.cells #[.string ⟨#[]⟩, .slice none 0 0, .bool false] 64)).setRow wr.heap.size CV = w5 at *);have hmb := maybe_any x Ai ci w5;rw [← HCV.out.1] at hmb
    have HTK : Hid (l.take (j + 1) = l.take j ++ [x]) := Lib.hid (by
     obtain ⟨hjl, hxe⟩ := List.getElem?_eq_some_iff.1 HX.out;rw [List.take_succ_eq_append_getElem hjl, hxe])
    by_cases hmay : zq x = true
    ·rw [hmay] at hmb;have HM := Lib.hid hmay;clear hmay
     go_wp2_with (first
      | (refine yA 7 H5.out.2 Tryz.underlying64 (by rw [HCV.out.1]; exact ys) ?_)
      | (go_at_call 63; refine hmb.mono ?_; clear hmb; rintro _ w6 ⟨rfl, hb6⟩; have H6 := Lib.hid hb6; clear hb6))
     go_roundw
     case rel =>
      unfold RfR;refine ⟨j + 1, by have := HN.out; omega, by simp, by rw [HTK.out, List.all_append, HK.out.1]; simp [HM.out], HK.out.2.trans ((H5.out.1.trans (H6.out.mono H5.out.1.size)).mono HK.out.2.size)⟩
     case measure => simp only [intOf]; omega
    ·(have hmay' : zq x = false := by simpa using hmay);rw [hmay'] at hmb;have HM := Lib.hid hmay';clear hmay hmay'
     go_wp2_with (first
      | (refine yA 7 H5.out.2 Tryz.underlying64 (by rw [HCV.out.1]; exact ys) ?_)
      | (go_at_call 63; refine hmb.mono ?_; clear hmb; rintro _ w6 ⟨rfl, hb6⟩; have H6 := Lib.hid hb6; clear hb6))
     go_ret
     have hr : yu s l = 1 := by
      rw [HR.out, if_neg (by simp), if_neg];intro h;have := List.all_eq_true.1 h x (List.mem_of_getElem? HX.out);rw [HM.out] at this
      cases this
     rw [hr];exact ⟨rfl, HK.out.2.trans ((H5.out.1.trans (H6.out.mono H5.out.1.size)).mono HK.out.2.size)⟩
   ·(obtain rfl : j = n := by have := HN.out; omega);(have hnl : ¬ (j : Int) < (j : Int) := by omega);clear hlt
    go_wp2_with fail
    go_ret
    have hr : yu s l = 0 := by
     have h1 := HK.out.1;rw [List.take_of_length_le (by have := HN.out; omega)] at h1;rw [HR.out, if_neg (by simp), if_pos h1]
    rw [hr];exact ⟨rfl, HK.out.2⟩
 ·have he' : (E != 0) = true := by simpa using h0
  have HE := Lib.hid h0;clear h0
  go_enter Tryz.func35, Tryz.ntmps35
  go_wp2_with (go_at_call 21; refine he.mono ?_; clear he; rintro _ _ ⟨rfl, rfl⟩)
  go_ret
  rw [HR.out, if_pos HE.out];exact ⟨rfl, Below.refl _ _⟩
theorem capply_no {w : World} {T U : Nat → Prop} {p g : Nat} {s : SM} (h : Cs w T p g s) {A : Option Addr} {n c : Nat} {l : List Ch} (hl : Chs w U A n c l) (hn : n ≤ 1000000) (hr : yu s l ≠ 0) :
    Calls Tryz.prog 10 #[.pointer (some ⟨p, 0, none⟩), .slice A n c] w fun e w' => e = .returned (.int .i64 (yu s l)) ∧ Below w.heap.size w w' := by
 have hrf := crefuse_any h hl (by omega);obtain ⟨E, hE⟩ := sqz (yu s l);rw [← hE] at hrf hr ⊢;have he' : (E != 0) = true := by simpa using hr
 clear h hl hn hE hr
 go_enter Tryz.func10, Tryz.ntmps10
 go_wp2_with (go_at_call 35; refine hrf.mono ?_; clear hrf; rintro _ w1 ⟨rfl, hb1⟩; have H1 := Lib.hid hb1; clear hb1)
 go_ret
 exact ⟨rfl, H1.out⟩
theorem cell_turned' {T : Nat → Prop} {w w' : World} (ht : Turned T w w') {k : Nat} (hk : k < w.heap.size) (hT : ¬ T k) (o : Nat) : w'.cell? ⟨k, o, none⟩ = w.cell? ⟨k, o, none⟩ :=
 World.cell?_of_block (w := w) (a := ⟨k, o, none⟩) (ht.block k hk hT)
theorem mclone_any {w : World} {S : Nat → Prop} {b : Nat} {t : Tb} (h : Nms w S b t) :
    Calls Tryz.prog 95 #[.map (some b)] w fun e w' => e = .returned (.map (some w.heap.size)) ∧ Nms w' (fun k => (S k ∧ k ≠ b) ∨ k = w.heap.size) w.heap.size t ∧ Below w.heap.size w w' := by
 obtain ⟨hS, D, hown, ha⟩ := h;have hc : Calls Tryz.prog 95 #[.map (some b)] w _ := AnyW.maps_Clone_owns Tryz.cloneL 9 rv b t.length D w hown;refine hc.mono ?_;rintro e w' ⟨rfl, h1, h2, hb⟩;refine ⟨rfl, ⟨.inr rfl, D, h1, ((ha.mono (T := fun k => ((S k ∧ k ≠ b) ∨ k = w.heap.size) ∧ k ≠ w.heap.size) fun k hk hs => ⟨.inl hs, by omega⟩).turned (T := fun _ => False) (Turned.of_below hb) fun _ _ _ h => h)⟩, hb⟩
def arF (B lo hi k : Nat) : Prop := B ≤ k ∧ ¬ (lo ≤ k ∧ k < hi)
def ArR (w w4 : World) (lo p : Nat) (pre : List UInt8) (t : Tb) (i : Value) (wr : World) : Prop :=
 ∃ j : Nat, j ≤ t.length ∧ i = .int .i64 (j : Int) ∧ Wr wr (arF w.heap.size lo w4.heap.size) p (pre ++ ofT (t.take j)) ∧ Turned (arF w.heap.size lo w4.heap.size) w4 wr
theorem wtT_take (t : Tb) (j : Nat) : wtT (t.take j) ≤ wtT t := by
 have h := wtT_app (t.take j) (t.drop j);rw [List.take_append_drop] at h;omega
theorem wtT_mem {t : Tb} {x : List UInt8 × List UInt8} (h : x ∈ t) : x.1.length + x.2.length + 20 ≤ wtT t := by
 obtain ⟨a, b, rfl⟩ := List.append_of_mem h;rw [wtT_app];simp only [wtT];omega
theorem allrec_any {w : World} {S : Nat → Prop} {b : Nat} {t : Tb} (hm : Nms w S b t) (hb : wtT t ≤ 900000) :
    Calls Tryz.prog 96 #[.map (some b)] w fun e w' => ∃ A' m c', e = .returned (.slice A' m c') ∧ Byt w' (w.heap.size ≤ ·) A' m c' (allB t) ∧ Below w.heap.size w w' := by
 have hnw := newWriter w;have hwl := wtT_len t;obtain ⟨n, hn⟩ := sqz t.length;have hcv := IntWalk.u64_in (n : Int) (by omega);have hbig : n ≤ 100000 := by omega
 have HL := sq3 (hm.mono (T := fun k => k < w.heap.size) fun k hk _ => hk) hb hm.srt;have HN := Lib.hid hn;have HW := Lib.hid hwl;clear hm hb hn hwl
 go_enter Tryz.func96, Tryz.ntmps96
 go_upto_region 2 with (go_at_call 85; refine hnw.mono ?_; clear hnw; rintro _ w1 ⟨p, rfl, hw1, hb1⟩)
 have h2 := wuint hw1 (x := 1) (by omega) (by simp);have HB1 := Lib.hid hb1;clear hw1 hb1
 go_upto_region 3 with (go_at_call 86; refine h2.mono ?_; clear h2; rintro _ w2 hp2; obtain ⟨rfl, hw2, ht2⟩ := hp2)
 have hp2 := Put.from (e := .returned (.tuple #[])) (show Put w1 (w.heap.size ≤ ·) p ([] ++ put 1) _ w2 from ⟨rfl, hw2, ht2⟩) HB1.out.size
 have HB2 := Lib.hid (HB1.out.trans hp2.2);have h3 := wuint hp2.1 (x := n) (by omega) (by have := zX (x := 1) (by omega); simp; omega);have hlen := (HL.out.1.below HB2.out).len 3;rw [← HN.out] at hlen;clear hw2 ht2 hp2 HB1
 go_upto_region 4 with (go_at_call 86; refine h3.mono ?_; clear h3; rintro _ w3 hp3; obtain ⟨rfl, hw3, ht3⟩ := hp3)
 clear hlen;have hp3 := Put.from (e := .returned (.tuple #[])) (show Put w2 (w.heap.size ≤ ·) p ([] ++ put 1 ++ put n) _ w3 from ⟨rfl, hw3, ht3⟩) HB2.out.size
 obtain ⟨pre, hpre⟩ := sqz (put 1 ++ put n);have H3 := sq2 (show Wr w3 (w.heap.size ≤ ·) p pre by rw [hpre]; simpa using hp3.1) (HB2.out.trans hp3.2);have HPRE : Hid (pre = put 1 ++ put n ∧ pre.length ≤ 20) := Lib.hid ⟨hpre, by rw [hpre, List.length_append]; have h1 := zX (x := 1) (by omega); have h2 := zX (x := n) (by omega); omega⟩;have hks := keys_func (some b) w3;have hss := keys_sorted (HL.out.1.below H3.out.2) (by have := HN.out; omega);clear hw3 ht3 hp3 HB2 hpre
 go_wp2_with (first
  | (go_at_call 50; refine hks.mono ?_; clear hks; rintro _ _ ⟨rfl, rfl⟩)
  | (go_at_call 49; refine hss.mono ?_; clear hss; rintro _ w4 ⟨A4, n4, c4, rfl, hs4, hb4⟩; obtain rfl : n4 = n := by { have h1 := hs4.len; have h2 := HN.out; rw [List.length_map] at h1; omega }; have H4 := sq2 hs4 hb4; clear hs4 hb4))
 have HST := Lib.hid (H4.out.1.mono (T := fun k => w3.heap.size ≤ k ∧ k < w4.heap.size) fun k hk h => ⟨h, hk⟩)
 have H0 : Hid (ArR w w4 w3.heap.size p pre t (.int .i64 0) w4) := Lib.hid ⟨0, Nat.zero_le _, rfl, by
  have h1 := (H3.out.1.mono (T := arF w.heap.size w3.heap.size w4.heap.size) fun k hk h => ⟨h, by omega⟩).turned (T := fun _ => False) (Turned.of_below H4.out.2) fun _ _ _ h => h
  simpa [ofT] using h1, Turned.refl _ _⟩
 have HB := sq3 H3.out.2 H4.out.2 (show w.heap.size ≤ w3.heap.size from H3.out.2.size);have HNM := Lib.hid (HL.out.1.below (H3.out.2.trans (H4.out.2.mono H3.out.2.size)));clear H3 H4
 go_loopw [18] (fun i wr => ArR w w4 w3.heap.size p pre t i wr) (fun i _ => n4 - (intOf i).toNat)
 case atStart => exact H0.out
 case round =>
  obtain ⟨j, hj, rfl, hwr, htn⟩ := hrel;clear H0;have HK := sq2 hwr htn;clear hwr htn
  by_cases hlt : j < n4
  ·(have hlt' : (j : Int) < (n4 : Int) := by omega);obtain ⟨q, off, rfl, hq, hqlt, hcs⟩ := HST.out.row (by omega);(have hjt : j < t.length := by have := HN.out; omega);(obtain ⟨x, hx⟩ : ∃ x, t[j]? = some x := ⟨_, List.getElem?_eq_getElem hjt⟩);have hxm := List.mem_of_getElem? hx;have hxw := wtT_mem hxm;have hgx := getT_mem HL.out.2.2 hxm;have hc := hcs j hlt;(have hkx : ((t.map (·.1))[j]?.getD []) = x.1 := by rw [List.getElem?_map, hx]; rfl);rw [hkx] at hc;have hcw : wr.cell? ⟨q, off + j, none⟩ = some (.string (st x.1)) := (cell_turned' HK.out.2 hqlt (fun h => h.2 hq) _).trans hc;have hadd := IntWalk.i64_in ((j : Int) + 1) (by omega);have HX := sq3 hx hxw hgx;have HNW := Lib.hid (HNM.out.turned HK.out.2 fun k _ h1 h2 => by have := h2.1; omega);(have hxb : x.1.length + x.2.length ≤ 900000 := by have := HL.out.2.1; omega);obtain ⟨c6, w6, hcv6, hb6, hy6⟩ := conv_bytes x.1 (by omega) wr;have hwt := wtT_take t j;have hofl := ofT_len (t.take j) (by have := HL.out.2.1; omega);(have hl5 : (pre ++ ofT (t.take j)).length ≤ 1000000 := by rw [List.length_append]; have := HPRE.out.2; have := HL.out.2.1; omega);have h4r := HK.out.2.size;have hwb := wbytes ((HK.out.1.mono (T := fun k => arF w.heap.size w3.heap.size w4.heap.size k ∧ k < wr.heap.size) fun k hk h => ⟨h, hk⟩).turned (T := fun _ => False) (Turned.of_below hb6) fun _ _ _ h => h) hy6 (fun k _ h1 h2 => by rw [h1] at h2; exact absurd h2.2 (Nat.lt_irrefl _)) (by omega);have HB6 := sq4 hb6 hl5 hxb h4r;clear hb6 hy6 hwt hofl hl5 hxb h4r hx hxm hxw hgx hcs hc hkx hjt hq hqlt
   go_upto_region 8 with (go_at_call 87; refine hwb.mono ?_; clear hwb; rintro _ w7 hp7; obtain ⟨rfl, hw7, ht7⟩ := hp7)
   have H7 := Lib.hid (And.intro (hw7.mono (T := arF w.heap.size w3.heap.size w4.heap.size) fun k hk h => by
       have h1 := HB6.out.1.size; have h2 := HB6.out.2.2.2; have h3 := HB.out.2.1.size; have h4 := HB.out.2.2;rcases h with h | h
       ·exact h.1
       ·exact ⟨by omega, by omega⟩) ((Turned.of_below (S := arF w.heap.size w3.heap.size w4.heap.size) HB6.out.1).trans ht7 fun k _ h => h.1))
   clear hw7 ht7 hcv6 hcw;obtain ⟨Av, nv, cv, _, hlk, hyv⟩ := (HNW.out.turned H7.out.2 fun k _ h1 h2 => by have := h2.1; omega).look (k := x.1) (by have := HB6.out.2.2.1; omega);rw [HX.out.2.2] at hyv
   have hwv := wbytes H7.out.1 hyv (fun k _ h1 h2 => by have := h2.1; omega) (by
    have h1 := zX (x := x.1.length) (by have := HB6.out.2.2.1; omega);have h2 := HB6.out.2.1;have h3 := HB6.out.2.2.1;have h4 : x.2.length = nv := hyv.len;simp only [List.length_append] at h2 ⊢;omega)
   clear hyv
   go_wp2_with (go_at_call 87; refine hwv.mono ?_; clear hwv; rintro _ w9 hp9; obtain ⟨rfl, hw9, ht9⟩ := hp9; have H9 := sq2 hw9 ht9; clear hw9 ht9)
   go_roundw
   case rel =>
    unfold ArR;(have hjt : j < t.length := by have := HN.out; omega);refine ⟨j + 1, by omega, by simp, ?_, (HK.out.2.trans H7.out.2 fun k _ h => h).trans H9.out.2 fun k _ h => h⟩
    have htk : t.take (j + 1) = t.take j ++ [x] := by
     obtain ⟨hjl, hxe⟩ := List.getElem?_eq_some_iff.1 HX.out.1;rw [List.take_succ_eq_append_getElem hjl, hxe]
    rw [htk, ofT_snoc]
    have e : pre ++ (ofT (t.take j) ++ (rowB x.1 ++ rowB x.2)) = pre ++ ofT (t.take j) ++ (put x.1.length ++ x.1) ++ (put x.2.length ++ x.2) := by
     unfold rowB;simp
    rw [e];refine H9.out.1.mono fun k hk h => ?_
    rcases h with h | h
    ·exact h
    ·have h1 := H7.out.2.size;have h2 := HB6.out.2.2.2;have h3 := HB.out.2.1.size;have h4 := HB.out.2.2;exact ⟨by omega, by omega⟩
   case measure => simp only [intOf]; omega
  ·(obtain rfl : j = n4 := by have := HN.out; omega);(have hnl : ¬ (j : Int) < (j : Int) := by omega);have hfull : t.take j = t := List.take_of_length_le (by have := HN.out; omega);have h1 := HK.out.1;rw [hfull, HPRE.out.1, HN.out, show put 1 ++ put t.length ++ ofT t = allB t from rfl] at h1;have hcl := allB_len t (by have := HL.out.2.1; omega);have hout := wout h1 (by have := HL.out.2.1; omega);have HBW := Lib.hid ((HB.out.1.trans (HB.out.2.1.mono HB.out.2.2)).trans ((HK.out.2.mono (T := (w.heap.size ≤ ·)) fun k _ h => h.1).below (by have := HB.out.2.1.size; have := HB.out.2.2; omega)));clear hlt h1 hfull hcl;obtain ⟨M, hM⟩ := sqz ((allB t).length);rw [← hM] at hout;clear hM
   go_wp2_with (go_at_call 89; refine hout.mono ?_; clear hout; rintro _ w8 ⟨A8, c8, rfl, hy8, hb8, _⟩; have H8 := sq2 (hy8.mono (T := (w.heap.size ≤ ·)) fun k _ hk => Nat.le_trans HBW.out.size hk) (HBW.out.trans (hb8.mono HBW.out.size)); clear hy8 hb8)
   go_ret
   exact ⟨A8, _, c8, rfl, H8.out.1, H8.out.2⟩
end Go.Proofs.YtmioifcbkhpdaaaGreat
