/-
  Rows of bytes: a slice of slices of bytes that reads as a list of rows.
  A REGION THAT DRAWS ITS ORDER, WALKED IN ONE ORDER OF MY CHOICE ('wp_region_plan'). The plan: rows of operations that yield the same value in every world of a class ('pulled': they may be taken first), each row followed by one operation that is then the only one that may come up ('effect'); behind it the class may be made smaller; a last row. Whether the plan fits the region is one closed Bool ('planB').
  The law of drawn regions (Grow) where one old row may be written, once: 'Sto q o': of the old blocks only q may have turned, and it is as it was, or it is o.
  Rows of the call's own that have room (append); arrays and structs that are read anywhere; slices with three bounds; returns of four results; what all orders of a region end in.
  A slice of digests (arrays of 32 bytes) that reads as a list of rows of bytes; how one that came in is opened.
  A digest (32 bytes): its size, its zero value.
  A row of digests of the call's own, filled one by one.
  Plain mathematics of the codec's numbers: 'rd i l' reads a number from the bytes l, the first of which is the number's byte i; 'put x' is the number's own bytes. No program is named here.
-/
import Derived.Test.YtmakpjcgiiljfaaDoorPk01
import Derived.WalkKit
import Derived.OrdersHeld
import Derived.RegionTactic
import Derived.Laws.Cover3
import Derived.Deep.Strs
/-! Rows of bytes: a slice of slices of bytes that reads as a list of rows. -/
namespace Go.Proofs.YtmakpjcgiiljfaaDoor
open Go.RowKit

theorem one_of {v : Value} (h : v.oneCell' = true) : ∀ u ∈ [v], u.oneCell' = true := by
  intro u hu
  rw [List.mem_singleton.1 hu]
  exact h
/-- A SLICE OF ROWS OF BYTES READS AS ls; all of it lies in blocks of S. -/
structure Rws (w : World) (S : Nat → Prop) (A : Option Addr) (n c : Nat) (ls : List (List UInt8)) : Prop where
  len : ls.length = n
  cap : n ≤ c
  max : c ≤ maxLen
  row : 0 < n → ∃ b off, A = some ⟨b, off, none⟩ ∧ S b ∧ b < w.heap.size ∧ ∀ i, i < n → ∃ Ai ni ci, w.cell? ⟨b, off + i, none⟩ = some (.slice Ai ni ci) ∧ Byt w S Ai ni ci (ls[i]?.getD [])
section
variable {w w' : World} {S : Nat → Prop} {A : Option Addr} {n c : Nat} {ls : List (List UInt8)}
theorem Rws.below (h : Rws w S A n c ls) (hb : Below w.heap.size w w') : Rws w' S A n c ls :=
  ⟨h.len, h.cap, h.max, fun h0 => by
    obtain ⟨b, off, hA, hS, hlt, hc⟩ := h.row h0
    refine ⟨b, off, hA, hS, Nat.lt_of_lt_of_le hlt hb.size, fun i hi => ?_⟩
    obtain ⟨Ai, ni, ci, h1, h2⟩ := hc i hi
    exact ⟨Ai, ni, ci, (hb.cell (p := ⟨_, _, none⟩) hlt).trans h1, h2.below hb⟩⟩
theorem Rws.mono {T : Nat → Prop} (h : Rws w S A n c ls) (hT : ∀ b, b < w.heap.size → S b → T b) : Rws w T A n c ls :=
  ⟨h.len, h.cap, h.max, fun h0 => by
    obtain ⟨b, off, hA, hS, hlt, hc⟩ := h.row h0
    refine ⟨b, off, hA, hT b hlt hS, hlt, fun i hi => ?_⟩
    obtain ⟨Ai, ni, ci, h1, h2⟩ := hc i hi
    exact ⟨Ai, ni, ci, h1, h2.mono hT⟩⟩
theorem Rws.drewN (h : Rws w S A n c ls) (k : Nat) : Rws (w.drewN k) S A n c ls :=
  ⟨h.len, h.cap, h.max, fun h0 => by
    obtain ⟨b, off, hA, hS, hlt, hc⟩ := h.row h0
    refine ⟨b, off, hA, hS, hlt, fun i hi => ?_⟩
    obtain ⟨Ai, ni, ci, h1, h2⟩ := hc i hi
    exact ⟨Ai, ni, ci, h1, h2.drewN k⟩⟩
end

theorem own_rws {w : World} {S : Nat → Prop} {B : Nat} {e : TypeId} {v : Value} {n : Nat} {rs : List (Option Addr × Nat × Nat)} {ls : List (List UInt8)} (h : w.ownsRow B e 1 v n (rs.map fun r => Value.slice r.1 r.2.1 r.2.2)) (hl : ls.length = rs.length)
    (hb : ∀ (i : Nat) (r : Option Addr × Nat × Nat), rs[i]? = some r → Byt w S r.1 r.2.1 r.2.2 (ls[i]?.getD [])) : ∃ A c, v = .slice A n c ∧ Rws w (fun _ => True) A n c ls := by
  have hn : ls.length = n := by have := h.1; rw [List.length_map] at this; omega
  rcases h.2 with ⟨rfl, rfl⟩ | ⟨g, cap, cur, rfl, _, hg, hnc, hm, _, _⟩
  · exact ⟨none, 0, rfl, hn, Nat.le_refl _, Nat.zero_le _, fun h => absurd h (by omega)⟩
  · refine ⟨_, cap, rfl, hn, hnc, hm, fun _ => ⟨g, 0, rfl, trivial, (Array.getElem?_eq_some_iff.1 hg).1, fun i hi => ?_⟩⟩
    have hir : i < rs.length := by omega
    have := h.cells (g := g) rfl i (.slice rs[i].1 rs[i].2.1 rs[i].2.2) (by simp [List.getElem?_map, List.getElem?_eq_getElem hir])
    rw [add_plain] at this
    exact ⟨_, _, _, this, (hb i rs[i] (List.getElem?_eq_getElem hir)).mono fun _ _ _ => trivial⟩
theorem sl_info : (Tryd.prog.info? 22).map (fun i => (i.zero, i.size, i.bytes)) = some (some (.slice none 0 0), 1, 24) := by kernel_rfl
theorem Rws.turned {w w' : World} {S T : Nat → Prop} {A : Option Addr} {n c : Nat} {ls : List (List UInt8)} (h : Rws w S A n c ls) (ht : Turned T w w') (hd : ∀ b, b < w.heap.size → S b → ¬ T b) : Rws w' S A n c ls :=
  ⟨h.len, h.cap, h.max, fun h0 => by
    obtain ⟨b, off, hA, hS, hlt, hc⟩ := h.row h0
    refine ⟨b, off, hA, hS, Nat.lt_of_lt_of_le hlt ht.size, fun i hi => ?_⟩
    obtain ⟨Ai, ni, ci, h1, h2⟩ := hc i hi
    exact ⟨Ai, ni, ci, (World.cell?_of_block (w := w) (a := ⟨b, off + i, none⟩) (ht.block b hlt (hd b hlt hS))).trans h1, h2.turned ht hd⟩⟩
/-- The rows one by one. -/
theorem Rws.rows {w : World} {S : Nat → Prop} {A : Option Addr} {n c : Nat} {ls : List (List UInt8)} (h : Rws w S A n c ls) : ∃ rs : List (Option Addr × Nat × Nat), rs.length = n ∧ (∀ (i : Nat) (r : Option Addr × Nat × Nat), rs[i]? = some r → Byt w S r.1 r.2.1 r.2.2 (ls[i]?.getD [])) ∧
    ∀ ad, A = some ad → ∀ j u, (rs.map fun r => Value.slice r.1 r.2.1 r.2.2)[j]? = some u → w.cell? (ad.add j) = some u := by
  by_cases h0 : 0 < n
  · obtain ⟨b, off, rfl, hS, hlt, hc⟩ := h.row h0
    have one : ∀ i, ∃ r : Option Addr × Nat × Nat, i < n → w.cell? ⟨b, off + i, none⟩ = some (.slice r.1 r.2.1 r.2.2) ∧ Byt w S r.1 r.2.1 r.2.2 (ls[i]?.getD []) := fun i => by
      by_cases hi : i < n
      · obtain ⟨Ai, ni, ci, h1, h2⟩ := hc i hi
        exact ⟨(Ai, ni, ci), fun _ => ⟨h1, h2⟩⟩
      · exact ⟨(none, 0, 0), fun h => absurd h hi⟩
    obtain ⟨f, hf⟩ := Classical.skolem.1 one
    refine ⟨(List.range n).map f, by simp, fun i r hr => ?_, fun ad had j u hj => ?_⟩
    · have hi : i < n := by have := (List.getElem?_eq_some_iff.1 hr).1; simpa using this
      simp [hi] at hr
      subst hr
      exact (hf i hi).2
    · have hi : j < n := by have := (List.getElem?_eq_some_iff.1 hj).1; simpa using this
      obtain rfl : ad = ⟨b, off, none⟩ := by injection had with h; exact h.symm
      rw [add_plain]
      simp [hi] at hj
      subst hj
      exact (hf j hi).1
  · obtain rfl : n = 0 := by omega
    exact ⟨[], rfl, fun i r hr => by simp at hr, fun ad _ j u hj => by simp at hj⟩

theorem run_append_zero {P : Program} (w : World) (t ty e : TypeId) (i : TypeInfo) (ht : P.underlying t = some (.slice e)) (hi : P.info? e = some i) (A : Option Addr) (n c k : Nat) (hn : n ≤ c) :
    (Builtin.append_ #[t, t] ty #[.slice A n c, .slice none 0 k]).run P w = .ok (.slice A n c) w := by
  rcases A with _ | a <;> simp [Builtin.append_, run_underlying ht, sizeOf, typeInfo, hi, Builtin.lenOf, Builtin.firstCells, hn, storeCells]
theorem wpList_append_zero {P : Program} {w : World} {ops : Array Oper} {rest : List Oper} {o : Oper} {a : Act} {Q : Exit → Act → World → Prop} (hgd : o.guard = none) (s x : Operand) (t : TypeId)
    (ho : o.op = .call { callee := .builtin .append, args := #[s, x], argTypes := #[t, t] })
    (e : TypeId) (i : TypeInfo) (ht : P.underlying t = some (.slice e)) (hi : P.info? e = some i) (A : Option Addr) (n c k : Nat) (hn : n ≤ c) (hs : a.eval s = .slice A n c) (hx : a.eval x = .slice none 0 k)
    (h : wpList P ops Q rest (a.put o.dst (.slice A n c)) w) : wpList P ops Q (o :: rest) a w :=
  wpList_plain hgd fun _ hK => by
    unfold Oper.wp execOp
    simp only [ho, resolve, invoke, builtin, Sem.run_bind, Sem.run_pure, Result.andThen_ok, List.map_toArray, List.map_cons, List.map_nil, hs, hx, run_append_zero w t o.type e i ht hi A n c k hn]
    exact hK _ _ h
/-- s[l:h] -/
theorem run_lh {P : Program} (t e : TypeId) (ht : P.underlying t = some (.slice e)) (hz : ∀ w, (Go.sizeOf e).run P w = .ok 1 w) (A : Option Addr) (n c l h : Nat) (li hi : Int) (el : li = (l : Int)) (eh : hi = (h : Int)) (h1 : l ≤ h) (h2 : h ≤ c) (W : World) :
    (Instr.slice t (.slice A n c) (some (.int .i64 li)) (some (.int .i64 hi)) none).run P W = .ok (.slice (cutA A c l) (h - l) (c - l)) W := by
  have ht' : P.underlying t = some (.slice (P.elem t)) := by simp [Program.elem, ht]
  have he : P.elem t = e := by simp [Program.elem, ht]
  subst el eh
  rw [run_slice_lh W t A n c ht' .i64 .i64 (l : Int) (h : Int) (by omega) (by omega) (by omega), he, hz]
  simp [Result.andThen, sliced, cutA]
theorem flat_take (ls : List (List UInt8)) (k : Nat) (h : k < ls.length) : (ls.take (k + 1)).flatten = (ls.take k).flatten ++ (ls[k]?.getD []) := by
  rw [List.take_succ_eq_append_getElem h, List.flatten_append]; simp [List.getElem?_eq_getElem h]
theorem flat_le : ∀ (ls : List (List UInt8)) (k : Nat), (ls.take k).flatten.length ≤ ls.flatten.length
  | [], k => by simp
  | l :: ls, 0 => by simp
  | l :: ls, k + 1 => by have := flat_le ls k; simp at this ⊢; omega
end Go.Proofs.YtmakpjcgiiljfaaDoor

/-! A REGION THAT DRAWS ITS ORDER, WALKED IN ONE ORDER OF MY CHOICE ('wp_region_plan'). The plan: rows of operations that yield the same value in every world of a class ('pulled': they may be taken first), each row followed by one operation that is then the only one that may come up ('effect'); behind it the class may be made smaller; a last row. Whether the plan fits the region is one closed Bool ('planB'). -/
namespace Go.Proofs.YtmakpjcgiiljfaaDoor
open Go.RowKit
section
variable {P : Program} {ops : Array Oper} {Q : Exit → Act → World → Prop} {md : Region.Mode}

/-- The operations of a row, one behind the other, each of which yields its value in every world of C. -/
def wpSeg (P : Program) (ops : Array Oper) (C : World → Prop) (Q' : Act → Prop) : List Nat → Act → Prop
  | [], a => Q' a
  | i :: r, a => ∃ o v, ops[i]? = some o ∧ YieldsIf P ops C o v a ∧ wpSeg P ops C Q' r (a.put o.dst v)

def segB (md : Region.Mode) (ops : Array Oper) : Array Bool → List Nat → Bool
  | _, [] => true
  | listed, i :: r => (Region.ready md ops listed).contains i && Region.free md ops listed i && segB md ops (listed.setIfInBounds i true) r

def listedBy : Array Bool → List Nat → Array Bool
  | listed, [] => listed
  | listed, i :: r => listedBy (listed.setIfInBounds i true) r

def wpPlan (P : Program) (ops : Array Oper) (Q : Exit → Act → World → Prop) : (World → Prop) → List (List Nat × Nat) → List Nat → Act → World → Prop
  | C, [], q, a, w => wpSeg P ops C (fun a' => Q .normal a' w) q a
  | C, (q1, e) :: r, q, a, w => wpSeg P ops C (fun a1 => wpOp P ops Q e (fun a2 w2 => ∃ C' : World → Prop, C' w2 ∧ (∀ W, C' W → C W) ∧ wpPlan P ops Q C' r q a2 w2) a1 w) q1 a

def planB (md : Region.Mode) (ops : Array Oper) : Array Bool → List (List Nat × Nat) → List Nat → Bool
  | listed, [], q => segB md ops listed q && (Region.ready md ops (listedBy listed q)).isEmpty
  | listed, (q1, e) :: r, q => segB md ops listed q1 && (Region.ready md ops (listedBy listed q1) == [e]) && planB md ops ((listedBy listed q1).setIfInBounds e true) r q

theorem wpAnyH_mono {S S' : World → Prop} (hS : ∀ W, S' W → S W) : ∀ (fuel : Nat) (listed : Array Bool) (a : Act) (w : World), wpAnyH P md ops Q S' fuel listed a w → wpAnyH P md ops Q S fuel listed a w
  | 0, _, _, _, h => h
  | fuel + 1, _, _, _, h => ⟨h.1, fun i hi => wpOp_mono (fun _ _ h' => ⟨hS _ h'.1, wpAnyH_mono hS fuel _ _ _ h'.2⟩) (h.2 i hi)⟩

theorem wpAnyH_seg {C : World → Prop} {Q' : Act → Prop} (hs : Region.noSelect ops = true) (hQ : ∀ c a d v w, Q (.panic c) (Act.put a d v) w → Q (.panic c) a w) {fuel : Nat} {w : World} (hC : C w) :
    ∀ (q : List Nat) (listed : Array Bool) (a : Act), segB md ops listed q = true → wpSeg P ops C Q' q a → (∀ a', Q' a' → wpAnyH P md ops Q C fuel (listedBy listed q) a' w) → wpAnyH P md ops Q C (fuel + q.length) listed a w
  | [], _, _, _, h, hn => hn _ h
  | i :: r, listed, a, hB, h, hn => by
    simp only [segB, Bool.and_eq_true] at hB
    obtain ⟨⟨hr, hf⟩, hB'⟩ := hB
    obtain ⟨o, v, ho, hy, hk⟩ := h
    exact wpAnyH_take (fuel := fuel + r.length) ho hs hf hr (fun c a w => hQ c a o.dst v w) hy hC (wpAnyH_seg hs hQ hC r _ _ hB' hk hn)

theorem wpAnyH_plan (hs : Region.noSelect ops = true) (hQ : ∀ c a d v w, Q (.panic c) (Act.put a d v) w → Q (.panic c) a w) :
    ∀ (plan : List (List Nat × Nat)) (q : List Nat) (C : World → Prop) (listed : Array Bool) (a : Act) (w : World), C w → planB md ops listed plan q = true → wpPlan P ops Q C plan q a w → ∃ fuel, wpAnyH P md ops Q C fuel listed a w ∧ fuel = q.length + (plan.map fun x => x.1.length + 1).sum
  | [], q, C, listed, a, w, hC, hB, h => by
    simp only [planB, Bool.and_eq_true] at hB
    refine ⟨_, wpAnyH_seg (fuel := 0) hs hQ hC q listed a hB.1 h fun a' h' => wpAnyH_done (by simpa using hB.2) h' 0, by simp⟩
  | (q1, e) :: r, q, C, listed, a, w, hC, hB, h => by
    simp only [planB, Bool.and_eq_true, beq_iff_eq] at hB
    obtain ⟨⟨hB1, hB2⟩, hB3⟩ := hB
    refine ⟨_, wpAnyH_seg (fuel := (q.length + (r.map fun x => x.1.length + 1).sum) + 1) hs hQ hC q1 listed a hB1 h fun a' h' => ?_, by simp; omega⟩
    refine wpAnyH_all hB2 (by simp) fun i hi => ?_
    rw [List.mem_singleton.1 hi]
    refine wpOp_mono ?_ h'
    rintro a2 w2 ⟨C', hC', hsub, hp⟩
    obtain ⟨f, hf, rfl⟩ := wpAnyH_plan hs hQ r q C' _ a2 w2 hC' hB3 hp
    exact ⟨hsub _ hC', wpAnyH_mono hsub _ _ _ _ hf⟩

/-- THE LAW. -/
theorem wp_region_plan {id : Nat} {a : Act} {w : World} (C : World → Prop) (plan : List (List Nat × Nat)) (q : List Nat) (hm : P.follows .mixedOrders = true)
    (hB : (Region.noSelect ops && planB .any ops (Array.replicate ops.size false) plan q && (q.length + (plan.map fun x => x.1.length + 1).sum == ops.size)) = true)
    (hQ : ∀ c a d v w, Q (.panic c) (Act.put a d v) w → Q (.panic c) a w) (hC : C w.drew) (h : wpPlan P ops Q C plan q a w.drew) : (Code.region id ops true).wp P Q a w := by
  simp only [Bool.and_eq_true, beq_iff_eq] at hB
  obtain ⟨⟨h1, h2⟩, h3⟩ := hB
  obtain ⟨f, hf, rfl⟩ := wpAnyH_plan (md := .any) h1 hQ plan q C _ a _ hC h2 h
  rw [h3] at hf
  exact wp_region_held hm hf

/-! The steps of a plan. -/
theorem plan_eff {C : World → Prop} {q1 : List Nat} {e : Nat} {r : List (List Nat × Nat)} {q : List Nat} {a : Act} {w : World}
    (h : wpSeg P ops C (fun a1 => wpOp P ops Q e (fun a2 w2 => ∃ C' : World → Prop, C' w2 ∧ (∀ W, C' W → C W) ∧ wpPlan P ops Q C' r q a2 w2) a1 w) q1 a) : wpPlan P ops Q C ((q1, e) :: r) q a w := h
theorem plan_last {C : World → Prop} {q : List Nat} {a : Act} {w : World} (h : wpSeg P ops C (fun a' => Q .normal a' w) q a) : wpPlan P ops Q C [] q a w := h
theorem seg_nil {C : World → Prop} {Q' : Act → Prop} {a : Act} (h : Q' a) : wpSeg P ops C Q' [] a := h
/-- One pulled operation, what follows behind a variable. -/
theorem seg_step {C : World → Prop} {Q' : Act → Prop} {i : Nat} {r : List Nat} {a : Act} {o : Oper} (ho : ops.toList[i]? = some o)
    (h : ∀ K : Act → Prop, (∀ a, wpSeg P ops C Q' r a → K a) → if Region.wanted o (yielded ops a.tmps) then ∃ v, (∀ w, C w → (execOp a.eval o).run P w = .ok (.value v) w) ∧ K (a.put o.dst v) else K (a.put o.dst undef)) : wpSeg P ops C Q' (i :: r) a := by
  have ho : ops[i]? = some o := by rw [← ho, Array.getElem?_toList]
  have h1 := h _ (fun _ h => h)
  by_cases hw : Region.wanted o (yielded ops a.tmps) = true
  · rw [if_pos hw] at h1
    obtain ⟨v, hv, hk⟩ := h1
    exact ⟨o, v, ho, .inl ⟨hw, hv⟩, hk⟩
  · rw [if_neg hw] at h1
    exact ⟨o, undef, ho, .inr ⟨by simpa using hw, rfl⟩, h1⟩
/-- One that reads, its value typed out. -/
theorem seg_read {C : World → Prop} {Q' : Act → Prop} {i : Nat} {r : List Nat} {a : Act} {o : Oper} (v : Value) (ho : ops.toList[i]? = some o) (hw : Region.wanted o (yielded ops a.tmps) = true)
    (hv : ∀ w, C w → (execOp a.eval o).run P w = .ok (.value v) w) (h : wpSeg P ops C Q' r (a.put o.dst v)) : wpSeg P ops C Q' (i :: r) a := ⟨o, v, by rw [← ho, Array.getElem?_toList], .inl ⟨hw, hv⟩, h⟩
/-- One whose guard says no. -/
theorem seg_off {C : World → Prop} {Q' : Act → Prop} {i : Nat} {r : List Nat} {a : Act} {o : Oper} (ho : ops.toList[i]? = some o) (hw : Region.wanted o (yielded ops a.tmps) = false)
    (h : wpSeg P ops C Q' r (a.put o.dst undef)) : wpSeg P ops C Q' (i :: r) a := ⟨o, undef, by rw [← ho, Array.getElem?_toList], .inr ⟨hw, rfl⟩, h⟩
/-- The effect. -/
theorem eff_step {i : Nat} {o : Oper} {K : Act → World → Prop} {a : Act} {w : World} (ho : ops.toList[i]? = some o)
    (h : ∀ K' : Act → World → Prop, (∀ a w, K a w → K' a w) → if Region.wanted o (yielded ops a.tmps) = true then Oper.wp P o a w K' Q else K' (a.put o.dst undef) w) : wpOp P ops Q i K a w :=
  wpOp_step (by rw [← ho, Array.getElem?_toList]) h
end
end Go.Proofs.YtmakpjcgiiljfaaDoor

/-! The law of drawn regions (Grow) where one old row may be written, once: 'Sto q o': of the old blocks only q may have turned, and it is as it was, or it is o. -/
namespace Go.Proofs.YtmakpjcgiiljfaaDoor
open Go.RowKit

structure Sto (q : Nat) (o : Obj) (W W' : World) : Prop where
  turned : Turned (· = q) W W'
  at_ : W'.heap[q]? = W.heap[q]? ∨ W'.heap[q]? = some o
section
variable {q : Nat} {o : Obj} {A B C : World}
theorem Sto.refl (q : Nat) (o : Obj) (W : World) : Sto q o W W := ⟨Turned.refl _ _, .inl rfl⟩
theorem Sto.trans (h : Sto q o A B) (k : Sto q o B C) : Sto q o A C :=
  ⟨h.turned.trans k.turned fun _ _ h => h, by
    rcases k.at_ with h1 | h1
    · rw [h1]; exact h.at_
    · exact .inr h1⟩
theorem Sto.of_below (h : Below A.heap.size A B) (hq : q < A.heap.size) : Sto q o A B := ⟨Turned.of_below h, .inl (h.block q hq)⟩
theorem Sto.keeps (h : Sto q o A B) (hA : A.heap[q]? = some o) : B.heap[q]? = some o := by
  rcases h.at_ with h1 | h1
  · rw [h1, hA]
  · exact h1
theorem Sto.lt (h : Sto q o A B) (hq : q < A.heap.size) : q < B.heap.size := Nat.lt_of_lt_of_le hq h.turned.size
theorem Sto.old {cs os : Array Value} {t : TypeId} (h : Sto q (.cells cs t (0, 0)) A B) (hA : A.heap[q]? = some (.cells os t (0, 0))) : ∃ ds, B.heap[q]? = some (.cells ds t (0, 0)) ∧ (ds = os ∨ ds = cs) := by
  rcases h.at_ with h1 | h1
  · exact ⟨os, h1.trans hA, .inl rfl⟩
  · exact ⟨cs, h1, .inr rfl⟩
theorem turned_setRow {w : World} {g : Nat} (cs : Array Value) : Turned (· = g) w (w.setRow g cs) :=
  ⟨rfl, rfl, rfl, by simp [World.setRow], fun k _ hk => by
    simp only [World.setRow, Array.getElem?_modify]
    rw [if_neg (fun e => hk e.symm)]⟩
theorem Sto.store {W : World} {cs os : Array Value} {t : TypeId} (h : W.heap[q]? = some (.cells os t (0, 0))) : Sto q (.cells cs t (0, 0)) W (W.setRow q cs) :=
  ⟨turned_setRow cs, .inr (setRow_at h)⟩
theorem Sto.of_drew (h : Sto q o A.drew B) : Sto q o A B := ⟨⟨h.turned.os, h.turned.tape, h.turned.output, h.turned.size, h.turned.block⟩, h.at_⟩
end

/-- What a store of a whole row comes to. -/
theorem runs_store {P : Program} {R : Value → World → Prop} {E : Operand → Value} {o : Oper} {W : World} (ty : TypeId) (x y : Operand) (ho : o.op = .store ty x y) (g : Nat) (cells : Array Value) (hx : E x = .pointer (some ⟨g, 0, none⟩)) (hy : E y = .agg cells)
    (t : TypeId) (old : Array Value) (hg : W.heap[g]? = some (.cells old t (0, 0))) (hi : (P.info? ty).map (·.size) = some cells.size) (hold : old.size = cells.size) (h1 : cells.all (·.oneCell') = true) (h : R undef (W.setRow g cells)) : Grow.runsTo P R ((execOp E o).run P W) := by
  unfold execOp
  simp only [ho, hx, hy, Instr.storeAt, Instr.sureAddr, Sem.run_bind, Sem.run_pure, Result.andThen_ok, run_storeVar_row W g t ty old cells hg hi hold h1]
  exact h
/-- What a load of a whole row comes to. -/
theorem runs_load {P : Program} {R : Value → World → Prop} {E : Operand → Value} {o : Oper} {W : World} {t e : TypeId} {n : Nat} (ty : TypeId) (x : Operand) (ho : o.op = .load ty x) (g : Nat) (hx : E x = .pointer (some ⟨g, 0, none⟩)) (cells : Array Value) (f : Nat × Nat) (hg : W.heap[g]? = some (.cells cells t f))
    (hu : P.underlying ty = some (.array n e)) (hi : (P.info? ty).map (·.size) = some cells.size) (h : R (.agg cells) W) : Grow.runsTo P R ((execOp E o).run P W) := by
  unfold execOp
  simp only [ho, hx, Instr.loadAt, Instr.sureAddr, Sem.run_bind, Sem.run_pure, Result.andThen_ok, run_loadVar_row W g t ty cells f _ hg hu rfl hi]
  exact h
end Go.Proofs.YtmakpjcgiiljfaaDoor

/-! Rows of the call's own that have room (append); arrays and structs that are read anywhere; slices with three bounds; returns of four results; what all orders of a region end in. -/
namespace Go.Proofs.YtmakpjcgiiljfaaDoor
open Go.RowKit

theorem own_byt_at {w : World} {B : Nat} {e : TypeId} {A : Option Addr} {n c : Nat} {l : List UInt8} (h : w.ownsRow B e 1 (.slice A n c) n (u8s l)) : Byt w (B ≤ ·) A n c l := by
  obtain ⟨A', c', hv, hY⟩ := own_byt h
  injection hv with h1 h2 h3
  subst h1 h3
  exact hY
theorem own_below {w w' : World} {base : Nat} {e : TypeId} {size : Nat} {v : Value} {n : Nat} {xs : List Value} (h : w.ownsRow base e size v n xs) (hb : Below w.heap.size w w') : w'.ownsRow base e size v n xs :=
  h.kept (row := none) ⟨hb.os, hb.tape, hb.output, hb.size, fun k hk _ => hb.block k hk⟩ (by cases v.ownBlock <;> simp)
theorem own_base {w : World} {base base' : Nat} {e : TypeId} {size : Nat} {v : Value} {n : Nat} {xs : List Value} (h : w.ownsRow base e size v n xs) (hb : base' ≤ base) : w.ownsRow base' e size v n xs := by
  refine ⟨h.1, ?_⟩
  rcases h.2 with hn | ⟨g, cap, cur, h1, h2, rest⟩
  · exact .inl hn
  · exact .inr ⟨g, cap, cur, h1, by omega, rest⟩
theorem below_of_gr {B : Nat} {a w w' : World} (h : Below B a w) (hg : w.grownBy w' (some B)) (hB : B ≤ w.heap.size) : Below B a w' := h.grown hg hB fun k e => by injection e; omega
/-- append of a slice that reads as bytes to a row of the call's own that has room. -/
theorem append_byt {W : World} {B g k cap : Nat} {xs : List Value} (hown : W.ownsRow B 5 1 (.slice (some ⟨g, 0, none⟩) k cap) k xs) {S : Nat → Prop} {A : Option Addr} {n c : Nat} {l : List UInt8} (h : Byt W S A n c l) (hr : k + n ≤ cap) (ty : TypeId) :
    ∃ W', (Builtin.append_ #[22, 22] ty #[.slice (some ⟨g, 0, none⟩) k cap, .slice A n c]).run Tryd.prog W = .ok (.slice (some ⟨g, 0, none⟩) (k + n) cap) W' ∧ W'.ownsRow B 5 1 (.slice (some ⟨g, 0, none⟩) (k + n) cap) (k + n) (xs ++ u8s l) ∧ W.grownBy W' (some g) := by
  obtain ⟨i0, hi, hz0, hz1, hz2⟩ := info_parts u8_info
  rcases A with _ | ad
  · obtain rfl : n = 0 := by
      rcases Nat.eq_zero_or_pos n with h0 | h0
      · exact h0
      · obtain ⟨_, _, hA, _⟩ := h.row h0
        cases hA
    obtain rfl : l = [] := List.eq_nil_of_length_eq_zero h.len
    exact ⟨W, run_append_zero W 22 ty 5 i0 Tryd.underlying22 hi _ k cap c (by omega), by simpa [u8s] using hown, World.grownBy.refl _ _⟩
  · exact run_append_fits W B 22 ty 5 i0 1 Tryd.underlying22 hi hz1 g k cap xs hown ad n c (u8s l) (by rw [u8s_length, h.len, Nat.mul_one]) (byt_news h) (u8s_one l) hr
theorem eff_app {P : Program} {ops : Array Oper} {Q : Exit → Act → World → Prop} {i : Nat} {o : Oper} {K : Act → World → Prop} {a : Act} {w : World} (ho : ops.toList[i]? = some o) (hgd : o.guard = none) (s x : Operand) (t : TypeId)
    (hop : o.op = .call { callee := .builtin .append, args := #[s, x], argTypes := #[t, t] }) {v u v' : Value} {w' : World} (hs : a.eval s = v) (hx : a.eval x = u)
    (hrun : (Builtin.append_ #[t, t] o.type #[v, u]).run P w = .ok v' w') (h : K (a.put o.dst v') w') : wpOp P ops Q i K a w :=
  eff_step ho fun K' hK' => by
    rw [if_pos (by unfold Region.wanted; rw [hgd])]
    unfold Oper.wp execOp
    simp only [hop, resolve, invoke, builtin, Sem.run_bind, Sem.run_pure, Result.andThen_ok, List.map_toArray, List.map_cons, List.map_nil, hs, hx, hrun]
    exact hK' _ _ h
theorem wpList_app {P : Program} {ops : Array Oper} {rest : List Oper} {o : Oper} {a : Act} {Q : Exit → Act → World → Prop} {w w' : World} (hgd : o.guard = none) (s x : Operand) (t : TypeId)
    (hop : o.op = .call { callee := .builtin .append, args := #[s, x], argTypes := #[t, t] }) {v u v' : Value} (hs : a.eval s = v) (hx : a.eval x = u)
    (hrun : (Builtin.append_ #[t, t] o.type #[v, u]).run P w = .ok v' w') (h : wpList P ops Q rest (a.put o.dst v') w') : wpList P ops Q (o :: rest) a w :=
  wpList_plain hgd fun _ hK => by
    unfold Oper.wp execOp
    simp only [hop, resolve, invoke, builtin, Sem.run_bind, Sem.run_pure, Result.andThen_ok, List.map_toArray, List.map_cons, List.map_nil, hs, hx, hrun]
    exact hK _ _ h
theorem exec_load_row {P : Program} {E : Operand → Value} {o : Oper} {W : World} {t e : TypeId} {n : Nat} (ty : TypeId) (x : Operand) (ho : o.op = .load ty x) (g : Nat) (hx : E x = .pointer (some ⟨g, 0, none⟩)) (cells : Array Value) (f : Nat × Nat) (hg : W.heap[g]? = some (.cells cells t f))
    (hu : P.underlying ty = some (.array n e)) (hi : (P.info? ty).map (·.size) = some cells.size) : (execOp E o).run P W = .ok (.value (.agg cells)) W := by
  unfold execOp
  simp only [ho, hx, Instr.loadAt, Instr.sureAddr, Sem.run_bind, Sem.run_pure, Result.andThen_ok, run_loadVar_row W g t ty cells f _ hg hu rfl hi]
/-- s[l:h:m] -/
theorem run_lhm {P : Program} (t e : TypeId) (ht : P.underlying t = some (.slice e)) (hz : ∀ w, (Go.sizeOf e).run P w = .ok 1 w) (A : Option Addr) (n c l h m : Nat) (li hi mi : Int) (el : li = (l : Int)) (eh : hi = (h : Int)) (em : mi = (m : Int)) (h1 : l ≤ h) (h2 : h ≤ m) (h3 : m ≤ c) (W : World) :
    (Instr.slice t (.slice A n c) (some (.int .i64 li)) (some (.int .i64 hi)) (some (.int .i64 mi))).run P W = .ok (.slice (cutA A m l) (h - l) (m - l)) W := by
  have ht' : P.underlying t = some (.slice (P.elem t)) := by simp [Program.elem, ht]
  have he : P.elem t = e := by simp [Program.elem, ht]
  subst el eh em
  rw [run_slice_lhm W t A n c ht' .i64 .i64 .i64 (l : Int) (h : Int) (m : Int) (by omega) (by omega) (by omega) (by omega), he, hz]
  simp [Result.andThen, sliced, cutA]
/-- An array or a struct that is read anywhere. -/
theorem run_loadVar_at {P : Program} (w : World) (ad : Addr) (ty : TypeId) (cs : Array Value) (d : TypeDesc) (hc : ∀ j v, cs[j]? = some v → w.cell? (ad.add j) = some v)
    (hu : P.underlying ty = some d) (hd : (match d with | .struct _ | .array _ _ => true | _ => false) = true) (hi : (P.info? ty).map (·.size) = some cs.size) :
    (loadVar ty ad).run P w = .ok (.agg cs) w := by
  have hl : (loadCells ad cs.toList.length).run P w = .ok cs.toList.toArray w :=
    run_loadCells_list (P := P) w ad cs.toList (fun j v hv => hc j v (by simpa using hv))
  cases hq : P.info? ty with
  | none => simp [hq] at hi
  | some i =>
    have hs : i.size = cs.size := by simpa [hq] using hi
    have hagg : (isAgg ty).run P w = .ok true w := by
      unfold isAgg
      rw [Sem.run_bind, run_underlying hu w]
      cases d <;> simp_all
    simp only [Array.length_toList, Array.toArray_toList] at hl
    simp [loadVar, Sem.run_bind, hagg, sizeOf, typeInfo, hq, hs, hl]
theorem runs_load_at {P : Program} {R : Value → World → Prop} {E : Operand → Value} {o : Oper} {W : World} {e : TypeId} {n : Nat} (ty : TypeId) (x : Operand) (ho : o.op = .load ty x) (ad : Addr) (hx : E x = .pointer (some ad)) (cells : Array Value) (hc : ∀ j v, cells[j]? = some v → W.cell? (ad.add j) = some v)
    (hu : P.underlying ty = some (.array n e)) (hi : (P.info? ty).map (·.size) = some cells.size) (h : R (.agg cells) W) : Grow.runsTo P R ((execOp E o).run P W) := by
  unfold execOp
  simp only [ho, hx, Instr.loadAt, Instr.sureAddr, Sem.run_bind, Sem.run_pure, Result.andThen_ok, run_loadVar_at W ad ty cells _ hc hu rfl hi]
  exact h
/-- What T{..} comes to, its value by a closed fact. -/
theorem runs_build {P : Program} {R : Value → World → Prop} {E : Operand → Value} {o : Oper} {W : World} (t : TypeId) (parts : Array (Nat × Operand)) (ho : o.op = .build t parts) (vs : List (Nat × Value)) (hv : (parts.map fun (i, x) => (i, E x)).toList = vs)
    (cells : Array Value) (hb : P.built t vs = some cells) (h : R (.agg cells) W) : Grow.runsTo P R ((execOp E o).run P W) := by
  have hr : (Instr.build t (parts.map fun (i, x) => (i, E x))).run P W = .ok (.agg cells) W := run_build W t _ cells (by rw [hv]; exact hb)
  unfold execOp
  simp only [ho, Sem.run_bind, hr, Result.andThen_ok, Sem.run_pure]
  exact h
theorem results_tmp4 {fn : Func} {t u v x : Tmp} (h : fn.results = #[.tmp t, .tmp u, .tmp v, .tmp x]) (tmps : Array Value) (P : Program) (w : World) :
    (results fn tmps).run P w = .ok (.tuple #[tmps.getD t undef, tmps.getD u undef, tmps.getD v undef, tmps.getD x undef]) w := by
  simp [results, h]
theorem wp_via {P : Program} {Q : Exit → Act → World → Prop} {c : Code} {a : Act} {w : World} (R : Act → World → Prop) (h : c.wp P (fun e a w => e = .normal ∧ R a w) a w) (k : ∀ a w, R a w → Q .normal a w) : c.wp P Q a w :=
  wp_mono h fun e a w hr => by
    obtain ⟨rfl, hr⟩ := hr
    exact k _ _ hr
theorem setRow_ne (w : World) (g k : Nat) (cs : Array Value) (h : k ≠ g) : (w.setRow g cs).heap[k]? = w.heap[k]? := by
  simp only [World.setRow, Array.getElem?_modify]
  rw [if_neg (fun e => h e.symm)]
/-- A load of a whole row by an operation whose guard says yes. -/
theorem wpList_load_row_on {P : Program} {ops : Array Oper} {rest : List Oper} {o : Oper} {a : Act} {w : World} {Q : Exit → Act → World → Prop} (hw : Region.wanted o (yielded ops a.tmps) = true) (ty : TypeId) (x : Operand) (ho : o.op = .load ty x)
    (g : Nat) (hx : a.eval x = .pointer (some ⟨g, 0, none⟩)) (t : TypeId) (cs : Array Value) (fr : Nat × Nat) (d : TypeDesc) (hg : w.heap[g]? = some (.cells cs t fr))
    (hu : P.underlying ty = some d) (hd : (match d with | .struct _ | .array _ _ => true | _ => false) = true) (hi : (P.info? ty).map (·.size) = some cs.size)
    (h : wpList P ops Q rest (a.put o.dst (.agg cs)) w) : wpList P ops Q (o :: rest) a w := by
  unfold wpList
  rw [if_pos hw]
  exact .inl (wp_load_row ty x ho g hx t cs fr d hg hu hd hi h)
/-- T{..}, its value by a closed fact, by an operation whose guard says yes. -/
theorem wpList_built_on {P : Program} {ops : Array Oper} {rest : List Oper} {o : Oper} {a : Act} {w : World} {Q : Exit → Act → World → Prop} (hw : Region.wanted o (yielded ops a.tmps) = true) (t : TypeId) (parts : Array (Nat × Operand)) (ho : o.op = .build t parts)
    (vs : List (Nat × Value)) (hv : (parts.map fun (i, x) => (i, a.eval x)).toList = vs) (Z : Array Value) (hb : P.built t vs = some Z) (h : wpList P ops Q rest (a.put o.dst (.agg Z)) w) : wpList P ops Q (o :: rest) a w := by
  unfold wpList
  rw [if_pos hw]
  refine .inl (wp_build t parts ho (by rw [hv, hb]; rfl) ?_)
  rw [hv, hb]
  exact h
/-- A struct that is read anywhere. -/
theorem wpList_load_at {P : Program} {ops : Array Oper} {rest : List Oper} {o : Oper} {a : Act} {w : World} {Q : Exit → Act → World → Prop} (hgd : o.guard = none) (ty : TypeId) (x : Operand) (ho : o.op = .load ty x) (ad : Addr) (hx : a.eval x = .pointer (some ad)) (cs : Array Value) (d : TypeDesc)
    (hc : ∀ (j : Nat) (v : Value), cs[j]? = some v → w.cell? (ad.add j) = some v) (hu : P.underlying ty = some d) (hd : (match d with | .struct _ | .array _ _ => true | _ => false) = true) (hi : (P.info? ty).map (·.size) = some cs.size)
    (h : wpList P ops Q rest (a.put o.dst (.agg cs)) w) : wpList P ops Q (o :: rest) a w :=
  wpList_plain hgd fun K hK => by
    unfold Oper.wp execOp
    simp only [ho, hx, Instr.loadAt, Instr.sureAddr, Sem.run_bind, Sem.run_pure, Result.andThen_ok, run_loadVar_at w ad ty cs d hc hu hd hi]
    exact hK _ _ h
end Go.Proofs.YtmakpjcgiiljfaaDoor

/-! A slice of digests (arrays of 32 bytes) that reads as a list of rows of bytes; how one that came in is opened. -/
namespace Go.Proofs.YtmakpjcgiiljfaaDoor
open Go.ChangeShapes Go.WideShapes Go.ChangeAt Go.RowKit Go.Deep

/-- THE SLICE VALUE '.slice A n c' OF DIGESTS READS AS l; its row, if it has any, lies in a block of S. -/
structure Ids (w : World) (S : Nat → Prop) (A : Option Addr) (n c : Nat) (l : List (List UInt8)) : Prop where
  len : l.length = n
  each : ∀ x ∈ l, x.length = 32
  cap : n ≤ c
  max : c ≤ maxLen
  row : 0 < n → ∃ b off, A = some ⟨b, off, none⟩ ∧ S b ∧ b < w.heap.size ∧ ∀ i j, i < n → j < 32 → w.cell? ⟨b, off + (i * 32 + j), none⟩ = some (.int .u8 (((l[i]?.getD [])[j]?.getD 0).toNat : Int))
section
variable {w w' : World} {S T : Nat → Prop} {A : Option Addr} {n c : Nat} {l : List (List UInt8)}
theorem Ids.below (h : Ids w S A n c l) (hb : Below w.heap.size w w') : Ids w' S A n c l :=
  ⟨h.len, h.each, h.cap, h.max, fun h0 => by
    obtain ⟨b, off, hA, hS, hlt, hc⟩ := h.row h0
    exact ⟨b, off, hA, hS, Nat.lt_of_lt_of_le hlt hb.size, fun i j hi hj => (hb.cell (p := ⟨_, _, none⟩) hlt).trans (hc i j hi hj)⟩⟩
theorem Ids.turned (h : Ids w S A n c l) (ht : Turned T w w') (hd : ∀ b, b < w.heap.size → S b → ¬ T b) : Ids w' S A n c l :=
  ⟨h.len, h.each, h.cap, h.max, fun h0 => by
    obtain ⟨b, off, hA, hS, hlt, hc⟩ := h.row h0
    exact ⟨b, off, hA, hS, Nat.lt_of_lt_of_le hlt ht.size, fun i j hi hj => (World.cell?_of_block (w := w) (a := ⟨b, off + (i * 32 + j), none⟩) (ht.block b hlt (hd b hlt hS))).trans (hc i j hi hj)⟩⟩
theorem Ids.mono (h : Ids w S A n c l) (hT : ∀ b, b < w.heap.size → S b → T b) : Ids w T A n c l :=
  ⟨h.len, h.each, h.cap, h.max, fun h0 => by
    obtain ⟨b, off, hA, hS, hlt, hc⟩ := h.row h0
    exact ⟨b, off, hA, hT b hlt hS, hlt, hc⟩⟩
theorem Ids.drew (h : Ids w S A n c l) : Ids w.drew S A n c l := ⟨h.len, h.each, h.cap, h.max, h.row⟩
theorem Ids.drewN (h : Ids w S A n c l) (k : Nat) : Ids (w.drewN k) S A n c l := ⟨h.len, h.each, h.cap, h.max, h.row⟩
theorem Ids.nil (w : World) (S : Nat → Prop) (A : Option Addr) (c : Nat) (hc : c ≤ maxLen) : Ids w S A 0 c [] := ⟨rfl, by simp, Nat.zero_le _, hc, fun h => absurd h (by omega)⟩
/-- One of them, as a row of bytes. -/
theorem Ids.at_ (h : Ids w S A n c l) {i : Nat} (hi : i < n) : ∃ b off, A = some ⟨b, off, none⟩ ∧ b < w.heap.size ∧ (l[i]?.getD []).length = 32 ∧ ∀ j v, (row8 (l[i]?.getD []))[j]? = some v → w.cell? ((⟨b, off + i * 32, none⟩ : Addr).add j) = some v := by
  obtain ⟨b, off, hA, _, hlt, hc⟩ := h.row (by omega)
  have hil : i < l.length := by rw [h.len]; exact hi
  have h32 : (l[i]?.getD []).length = 32 := by
    rw [List.getElem?_eq_getElem hil]
    exact h.each _ (List.getElem_mem hil)
  refine ⟨b, off, hA, hlt, h32, fun j v hj => ?_⟩
  have hjl : j < 32 := by
    have := (Array.getElem?_eq_some_iff.1 hj).1
    rwa [row8_size, h32] at this
  rw [add_plain, Nat.add_assoc, hc i j hi hjl, ← hj, row8, List.getElem?_toArray]
  generalize l[i]?.getD [] = x at *
  simp [u8s, show j < x.length by omega]
end
/-- Digests one behind the other, as cells. -/
def idsC (l : List (List UInt8)) : List Value := u8s l.flatten
theorem flatten_length32 : ∀ {l : List (List UInt8)}, (∀ x ∈ l, x.length = 32) → l.flatten.length = l.length * 32
  | [], _ => rfl
  | a :: l, h => by
    rw [List.flatten_cons, List.length_append, h a (by simp), flatten_length32 (fun x hx => h x (by simp [hx])), List.length_cons]
    omega
theorem flatten_at32 : ∀ {l : List (List UInt8)}, (∀ x ∈ l, x.length = 32) → ∀ i j, i < l.length → j < 32 → l.flatten[i * 32 + j]? = (l[i]?.getD [])[j]?
  | [], _, _, _, h, _ => absurd h (by simp)
  | a :: l, h, i, j, hi, hj => by
    have ha := h a (by simp)
    have hl : ∀ x ∈ l, x.length = 32 := fun x hx => h x (by simp [hx])
    rw [List.flatten_cons]
    cases i with
    | zero => rw [List.getElem?_append_left (by omega)]; simp
    | succ i =>
      rw [List.getElem?_append_right (by omega), show (i + 1) * 32 + j - a.length = i * 32 + j by omega, flatten_at32 hl i j (by simpa using hi) hj]
      simp
/-- A row of the call's own reads as digests. -/
theorem own_ids {w : World} {B : Nat} {e : TypeId} {v : Value} {n : Nat} {l : List (List UInt8)} (h : w.ownsRow B e 32 v n (idsC l)) (hl : ∀ x ∈ l, x.length = 32) : ∃ A c, v = .slice A n c ∧ Ids w (B ≤ ·) A n c l := by
  have hn : l.length = n := by
    have := h.1
    rw [idsC, u8s_length, flatten_length32 hl] at this
    omega
  rcases h.2 with ⟨rfl, h2⟩ | ⟨g, cap, cur, rfl, hb, hg, hnc, hm, _, _⟩
  · have : n = 0 := by
      have := h.1
      rw [h2] at this
      simp at this
      omega
    subst this
    obtain rfl : l = [] := List.eq_nil_of_length_eq_zero hn
    exact ⟨none, 0, rfl, Ids.nil _ _ _ _ (Nat.zero_le _)⟩
  · refine ⟨_, cap, rfl, hn, hl, hnc, hm, fun _ => ⟨g, 0, rfl, hb, (Array.getElem?_eq_some_iff.1 hg).1, fun i j hi hj => ?_⟩⟩
    have hil : i < l.length := by omega
    have hx : (l[i]?.getD []).length = 32 := by
      rw [List.getElem?_eq_getElem hil]
      exact hl _ (List.getElem_mem hil)
    have hf := flatten_at32 hl i j hil hj
    have := h.cells (g := g) rfl (i * 32 + j) (.int .u8 (((l[i]?.getD [])[j]?.getD 0).toNat : Int)) (by
      rw [idsC, u8s, List.getElem?_map, hf]
      generalize l[i]?.getD [] = x at *
      simp [show j < x.length by omega])
    rw [add_plain] at this
    exact this
/-- Digests that came in. -/
theorem ids_in {P : Program} {w : World} {H : Type} {enc : TypeId × Value → H} {base : Nat} {spare : Nat → Bool} {held : Bool} {t e b8 : TypeId} {a : Option Addr} {len cap : Nat} {d : DataW H} {p : List MemPlace}
    (ht : P.underlying t = some (.slice e)) (he : P.underlying e = some (.array 32 b8)) (hb : P.underlying b8 = some (.int .u8)) (hc1 : P.cellsOf b8 = 1) (hce : P.cellsOf e = 32)
    (hs : spare = fun _ => true) (h : DataW.Trod enc P w base spare held t (.slice a len cap) d p) : ∃ l, Ids w (fun _ => True) a len cap l := by
  subst hs
  obtain ⟨fuel, hf⟩ := h
  rcases open_slice ht hf with ⟨hcs, _⟩ | ⟨x, l, c, m, n, D, Pl, hcs, _, hl, hm, hmm, _, hi⟩
  · simp [Value.cells] at hcs
    obtain ⟨rfl, rfl, rfl⟩ := hcs
    exact ⟨[], Ids.nil _ _ _ _ (Nat.zero_le _)⟩
  · simp [Value.cells] at hcs
    obtain ⟨rfl, rfl, rfl⟩ := hcs
    rw [hce] at hi
    simp only [if_true] at hmm
    have one : ∀ i, ∃ q : List UInt8, i < len → q.length = 32 ∧ ∀ j, j < 32 → w.cell? ((x.add (i * 32)).add j) = some (.int .u8 ((q[j]?.getD 0).toNat : Int)) := fun i => by
      by_cases him : i < len
      · obtain ⟨cs', hc, htr⟩ := hi i (by omega)
        obtain ⟨_, hcl, hat⟩ := World.cells?_some hc
        obtain ⟨q, hq, hql⟩ := arr_in (P := P) (w := w) (enc := enc) (base := base) (held := held) (cs := cs'.toArray) he hb hc1 hce ⟨_, by simpa [Value.cells] using htr⟩
        refine ⟨q, fun _ => ⟨hql, fun j hj => ?_⟩⟩
        have hcj := hat j (by omega)
        have he2 : cs' = u8s q := by
          have := congrArg Array.toList hq
          simpa [row8] using this
        rw [hcj]
        subst he2
        simp [u8s, show j < q.length by omega]
      · exact ⟨[], fun h => absurd h him⟩
    obtain ⟨f, hf⟩ := Classical.skolem.1 one
    refine ⟨(List.range len).map f, by simp, fun y hy => ?_, hl, hm, fun h0 => ?_⟩
    · obtain ⟨i, hi, rfl⟩ := List.mem_map.1 hy
      exact (hf i (List.mem_range.1 hi)).1
    · obtain ⟨b, off, spot⟩ := x
      have hc0 := (hf 0 h0).2 0 (by omega)
      have hspot : spot = none := by simpa [Addr.add] using World.cell?_spot hc0
      subst hspot
      have hlt := World.block_lt_of_cell? _ _ hc0
      rw [add_plain, add_plain] at hlt
      refine ⟨b, off, rfl, trivial, hlt, fun i j hil hj => ?_⟩
      have h1 := (hf i hil).2 j hj
      rw [add_plain, add_plain, Nat.add_assoc] at h1
      rw [h1]
      simp [hil]
end Go.Proofs.YtmakpjcgiiljfaaDoor

/-! A digest (32 bytes): its size, its zero value. -/
namespace Go.Proofs.YtmakpjcgiiljfaaDoor
open Go.RowKit

theorem id_info : (Tryd.prog.info? 49).map (·.size) = some 32 := by kernel_rfl
def zerosId : Array Value := (u8s (List.replicate 32 0)).toArray
theorem zero_id : ∀ W, (zeroValue 49).run Tryd.prog W = .ok (.agg zerosId) W := fun W => by unfold zerosId; kernel_rfl
end Go.Proofs.YtmakpjcgiiljfaaDoor

/-! A row of digests of the call's own, filled one by one. -/
namespace Go.Proofs.YtmakpjcgiiljfaaDoor
open Go.RowKit

theorem set_flat : ∀ {l : List (List UInt8)} (_ : ∀ x ∈ l, x.length = 32) (i : Nat) (_ : i < l.length) (d : List UInt8) (_ : d.length = 32), (l.set i d).flatten = l.flatten.take (i * 32) ++ d ++ l.flatten.drop (i * 32 + 32)
  | [], _, _, h, _, _ => absurd h (by simp)
  | a :: l, hl, 0, _, d, hd => by
    have ha := hl a (by simp)
    simp [ha, List.take_append]
  | a :: l, hl, i + 1, h, d, hd => by
    have ha := hl a (by simp)
    have ih := set_flat (l := l) (fun x hx => hl x (by simp [hx])) i (by simpa using h) d hd
    rw [List.set_cons_succ, List.flatten_cons, ih, List.flatten_cons, List.take_append, List.drop_append, ha, List.take_of_length_le (by omega : a.length ≤ (i + 1) * 32), List.drop_of_length_le (by omega : a.length ≤ (i + 1) * 32 + 32), show (i + 1) * 32 - 32 = i * 32 by omega, show (i + 1) * 32 + 32 - 32 = i * 32 + 32 by omega]
    simp
theorem set_len32 {l : List (List UInt8)} (hl : ∀ x ∈ l, x.length = 32) (i : Nat) {d : List UInt8} (hd : d.length = 32) : ∀ x ∈ l.set i d, x.length = 32 := fun x hx => by
  rcases List.mem_or_eq_of_mem_set hx with h | h
  · exact hl x h
  · rw [h, hd]
/-- A block that holds digests. -/
def IdBlk (w : World) (g : Nat) (l : List (List UInt8)) : Prop := w.heap[g]? = some (.cells (row8 l.flatten) 49 (0, 0)) ∧ ∀ x ∈ l, x.length = 32
theorem IdBlk.lt {w : World} {g : Nat} {l : List (List UInt8)} (h : IdBlk w g l) : g < w.heap.size := lt_of_cells h.1
theorem IdBlk.below {w w' : World} {g : Nat} {l : List (List UInt8)} (h : IdBlk w g l) (hb : Below w.heap.size w w') : IdBlk w' g l := ⟨(hb.block _ h.lt).trans h.1, h.2⟩
theorem run_store_id {w : World} {g : Nat} {l : List (List UInt8)} (h : IdBlk w g l) (i : Nat) (hi : i < l.length) (DS : Array Value) (d : List UInt8) (hDS : DS = row8 d) (hd : d.length = 32) (o : Nat) (ho : o = i * 32) :
    (Instr.storeAt 49 (.pointer (some ⟨g, o, none⟩)) (.agg DS)).run Tryd.prog w = .ok () (w.setRow g (row8 (l.set i d).flatten)) ∧ IdBlk (w.setRow g (row8 (l.set i d).flatten)) g (l.set i d) := by
  subst hDS ho
  have hfl := flatten_length32 h.2
  have hst := run_storeCells_at (P := Tryd.prog) g (i * 32) 49 (u8s d) 0 (row8 l.flatten) w h.1 (by rw [row8_size, hfl, u8s_length, hd]; omega) (u8s_one d)
  have e : ((row8 l.flatten).toList.take (i * 32 + 0) ++ u8s d ++ (row8 l.flatten).toList.drop (i * 32 + 0 + (u8s d).length)).toArray = row8 (l.set i d).flatten := by
    rw [set_flat h.2 i hi d hd, u8s_length, hd]
    simp [row8, u8s, List.map_take, List.map_drop]
  rw [e] at hst
  refine ⟨?_, setRow_at h.1, set_len32 h.2 i hd⟩
  have hq := id_info
  cases hi2 : Tryd.prog.info? 49 with
  | none => simp [hi2] at hq
  | some inf =>
    have hsz : inf.size = 32 := by simpa [hi2] using hq
    have hrs : (row8 d).size = 32 := by rw [row8_size, hd]
    have hl2 : (row8 d).toList = u8s d := by simp [row8]
    simp [Instr.storeAt, Instr.sureAddr, Sem.run_bind, storeVar, sizeOf, typeInfo, hi2, hsz, Value.cells, hrs, hl2, hst, Result.andThen]
theorem wpList_store_id {ops : Array Oper} {rest : List Oper} {op : Oper} {a : Act} {w : World} {Q : Exit → Act → World → Prop} (hgd : op.guard = none) (x y : Operand) (ho : op.op = .store 49 x y)
    {g : Nat} {l : List (List UInt8)} (h : IdBlk w g l) (i : Nat) (hi : i < l.length) (DS : Array Value) (d : List UInt8) (hDS : DS = row8 d) (hd : d.length = 32) (o : Nat) (hoo : o = i * 32)
    (hx : a.eval x = .pointer (some ⟨g, o, none⟩)) (hy : a.eval y = .agg DS)
    (hK : ∀ w', IdBlk w' g (l.set i d) → w.grownBy w' (some g) → wpList Tryd.prog ops Q rest (a.put op.dst undef) w') : wpList Tryd.prog ops Q (op :: rest) a w :=
  wpList_plain hgd fun K hK' => by
    obtain ⟨hr, hb⟩ := run_store_id h i hi DS d hDS hd o hoo
    have hg : w.grownBy (w.setRow g (row8 (l.set i d).flatten)) (some g) := ⟨rfl, rfl, rfl, by simp [World.setRow], fun k _ hk => setRow_ne _ _ _ _ (fun e => hk (by rw [e]))⟩
    unfold Oper.wp execOp
    simp only [ho, hx, hy, Sem.run_bind, hr, Result.andThen_ok, Sem.run_pure]
    exact hK' _ _ (hK _ hb hg)
theorem id_info3 : (Tryd.prog.info? 49).map (fun i => (i.zero, i.size, i.bytes)) = some (some (.agg zerosId), 32, 32) := by unfold zerosId; kernel_rfl
theorem zerosId_at (k : Nat) (hk : k < 32) : zerosId[k]! = .int .u8 0 := by
  have h : zerosId[k]? = some (.int .u8 0) := by
    unfold zerosId
    rw [List.getElem?_toArray, u8s, List.map_replicate, List.getElem?_replicate, if_pos hk]
    rfl
  simp [getElem!_def, h]
theorem made_ids (n : Nat) : madeCells (Value.agg zerosId).cells (n * 32) = row8 (List.replicate n (List.replicate 32 0)).flatten := by
  have hz : (Value.agg zerosId).cells = zerosId := rfl
  have hs : zerosId.size = 32 := by unfold zerosId; simp [u8s_length]
  rw [List.flatten_replicate_replicate, hz]
  apply Array.toList_inj.1
  apply List.ext_getElem
  · simp [madeCells, row8, u8s_length]
  · intro i h1 h2
    have : i % 32 < 32 := Nat.mod_lt _ (by decide)
    simp [madeCells, row8, u8s, hs, zerosId_at _ this]
/-- make([]api.Id, n) -/
theorem make_ids (w : World) (n : Nat) (h : n ≤ 1000000) : ∃ w', (Instr.makeSlice 24 (.int .i64 (n : Int)) (.int .i64 (n : Int))).run Tryd.prog w = .ok (.slice (some ⟨w.heap.size, 0, none⟩) n n) w' ∧ IdBlk w' w.heap.size (List.replicate n (List.replicate 32 0)) ∧ Below w.heap.size w w' ∧ w'.heap.size = w.heap.size + 1 := by
  obtain ⟨i0, hi, hz0, hz1, hz2⟩ := info_parts id_info3
  have hmk := run_make (P := Tryd.prog) (t := 24) (e := 49) w i0 (.agg zerosId) Tryd.underlying24 hi hz0 .i64 .i64 (n : Int) (n : Int) (by omega) (by omega) (by rw [hz2]; omega) (by omega)
  refine ⟨_, hmk, ⟨?_, ?_⟩, (Below.refl _ _).alloc (Nat.le_refl _) _, by simp⟩
  · have := heap_alloc_new w (.cells (madeCells (Value.agg zerosId).cells ((n : Int).toNat * i0.size)) 49)
    rw [hz1, Int.toNat_natCast, made_ids] at this
    rw [hz1, Int.toNat_natCast, made_ids]
    exact this
  · intro x hx
    rw [(List.mem_replicate.1 hx).2]
    simp
/-- Its slice reads as them. -/
theorem IdBlk.ids {w : World} {g : Nat} {l : List (List UInt8)} (h : IdBlk w g l) {S : Nat → Prop} (hS : S g) (n : Nat) (hn : l.length = n) (hm : n ≤ 1000000) : Ids w S (some ⟨g, 0, none⟩) n n l :=
  ⟨hn, h.2, Nat.le_refl _, by unfold maxLen; omega, fun _ => ⟨g, 0, rfl, hS, h.lt, fun i j hi hj => by
    have hil : i < l.length := by omega
    have hx : (l[i]?.getD []).length = 32 := by
      rw [List.getElem?_eq_getElem hil]
      exact h.2 _ (List.getElem_mem hil)
    have hf := flatten_at32 h.2 i j hil hj
    rw [cell_of_cells h.1, Nat.zero_add, row8, List.getElem?_toArray, u8s, List.getElem?_map, hf]
    generalize l[i]?.getD [] = x at *
    simp [show j < x.length by omega]⟩⟩
end Go.Proofs.YtmakpjcgiiljfaaDoor

/-! Plain mathematics of the codec's numbers: 'rd i l' reads a number from the bytes l, the first of which is the number's byte i; 'put x' is the number's own bytes. No program is named here. -/
namespace Go.Proofs.YtmakpjcgiiljfaaDoor
namespace Codec

/-- The bytes of a number. -/
def put (x : Nat) : List UInt8 := if h : x < 128 then [UInt8.ofNat x] else UInt8.ofNat (x % 128 + 128) :: put (x / 128)
termination_by x
decreasing_by omega

/-- Value, bytes taken, error. -/
def rd : Nat → List UInt8 → Nat × Nat × Nat
  | _, [] => (0, 0, 10)
  | i, c :: t =>
    if (i = 9 ∧ 1 < c.toNat) ∨ (0 < i ∧ c.toNat = 0) then (0, 0, 11)
    else if c.toNat < 128 then (c.toNat, 1, 0)
    else if (rd (i + 1) t).2.2 = 0 then (c.toNat - 128 + 128 * (rd (i + 1) t).1, (rd (i + 1) t).2.1 + 1, 0) else (0, 0, (rd (i + 1) t).2.2)

/-- What is read in all, when i bytes have given x and the rest reads as r. -/
def comb (i x : Nat) (r : Nat × Nat × Nat) : Nat × Nat × Nat := if r.2.2 = 0 then (x + 128 ^ i * r.1, i + r.2.1, 0) else (0, 0, r.2.2)

theorem put_small {x : Nat} (h : x < 128) : put x = [UInt8.ofNat x] := by rw [put]; simp [h]
theorem put_big {x : Nat} (h : 128 ≤ x) : put x = UInt8.ofNat (x % 128 + 128) :: put (x / 128) := by rw [put]; simp [show ¬ x < 128 by omega]

theorem put_ne (x : Nat) : put x ≠ [] := by rw [put]; split <;> simp

theorem put_length_pos (x : Nat) : 0 < (put x).length := by rw [put]; split <;> simp

theorem put_length_le : ∀ (k x : Nat), 1 ≤ k → x < 128 ^ k → (put x).length ≤ k
  | 0, x, hk, _ => by omega
  | 1, x, _, h => by rw [put_small (by simpa using h)]; simp
  | k + 2, x, _, h => by
    by_cases hx : x < 128
    · rw [put_small hx]; simp
    · rw [put_big (by omega)]
      have hd : x / 128 < 128 ^ (k + 1) := by rw [Nat.div_lt_iff_lt_mul (by omega), ← Nat.pow_succ]; exact h
      have := put_length_le (k + 1) (x / 128) (by omega) hd
      simp; omega

theorem put_length_64 {x : Nat} (h : x < 18446744073709551616) : (put x).length ≤ 10 :=
  put_length_le 10 x (by omega) (Nat.lt_of_lt_of_le h (by decide))

theorem rd_le : ∀ (i : Nat) (l : List UInt8), (rd i l).2.1 ≤ l.length
  | _, [] => by simp [rd]
  | i, c :: t => by
    have := rd_le (i + 1) t
    simp only [rd]
    split
    · simp
    · split
      · simp
      · split
        · simp; omega
        · simp

/-- An error takes nothing, and gives nothing. -/
theorem rd_err : ∀ (i : Nat) (l : List UInt8), (rd i l).2.2 ≠ 0 → (rd i l).1 = 0 ∧ (rd i l).2.1 = 0
  | _, [], _ => by simp [rd]
  | i, c :: t, h => by
    simp only [rd] at h ⊢
    split
    · simp
    · split
      · rename_i h1 h2
        rw [if_neg h1, if_pos h2] at h
        simp at h
      · rename_i h1 h2
        rw [if_neg h1, if_neg h2] at h
        split
        · rename_i h3
          rw [if_pos h3] at h
          simp at h
        · simp

theorem rd_errs : ∀ (i : Nat) (l : List UInt8), (rd i l).2.2 = 0 ∨ (rd i l).2.2 = 10 ∨ (rd i l).2.2 = 11
  | _, [] => by simp [rd]
  | i, c :: t => by
    have := rd_errs (i + 1) t
    simp only [rd]
    split
    · simp
    · split
      · simp
      · split
        · simp
        · exact this

theorem pow_split (i : Nat) (hi : i ≤ 9) : 128 ^ (9 - i) * 128 ^ i = 9223372036854775808 := by
  rw [← Nat.pow_add, show 9 - i + i = 9 by omega]

/-- What was read fits 64 bits: the value, with i bytes ahead of it, is below 2^64. -/
theorem rd_bound : ∀ (i : Nat) (l : List UInt8), i ≤ 9 → (rd i l).1 < 2 * 128 ^ (9 - i)
  | i, [], _ => by simp [rd]; exact Nat.pow_pos (by omega)
  | i, c :: t, hi => by
    have hp : 0 < 128 ^ (9 - i) := Nat.pow_pos (by omega)
    have hc := c.toNat_lt
    simp only [rd]
    split
    · simpa using hp
    · rename_i h1
      by_cases h9 : i = 9
      · subst h9
        have : c.toNat ≤ 1 := by simp at h1; omega
        rw [if_pos (by omega)]
        simp; omega
      · have hq : 128 ^ (9 - i) = 128 * 128 ^ (9 - (i + 1)) := by rw [show 9 - i = (9 - (i + 1)) + 1 by omega, Nat.pow_succ]; omega
        have hq1 : 0 < 128 ^ (9 - (i + 1)) := Nat.pow_pos (by omega)
        split
        · simp; omega
        · split
          · have := rd_bound (i + 1) t (by omega)
            simp; omega
          · simpa using hp

/-- What is put is read, whatever stands behind it. -/
theorem rd_put : ∀ (k i x : Nat) (t : List UInt8), (put x).length = k → i ≤ 9 → x < 2 * 128 ^ (9 - i) → (0 < i → 0 < x) → rd i (put x ++ t) = (x, k, 0)
  | 0, i, x, t, hk, _, _, _ => by have := put_length_pos x; omega
  | k + 1, i, x, t, hk, hi, hx, h0 => by
    by_cases hs : x < 128
    · rw [put_small hs] at hk ⊢
      have e : (UInt8.ofNat x).toNat = x := by simp [Nat.mod_eq_of_lt (show x < 256 by omega)]
      simp at hk
      subst hk
      simp only [List.cons_append, rd, e]
      rw [if_neg, if_pos hs]
      rintro (⟨rfl, h⟩ | ⟨h, h'⟩)
      · simp at hx; omega
      · have := h0 h; omega
    · rw [put_big (by omega)] at hk ⊢
      have e : (UInt8.ofNat (x % 128 + 128)).toNat = x % 128 + 128 := by simp; omega
      have h9 : i ≠ 9 := by rintro rfl; simp at hx; omega
      have hq : 128 ^ (9 - i) = 128 * 128 ^ (9 - (i + 1)) := by rw [show 9 - i = (9 - (i + 1)) + 1 by omega, Nat.pow_succ]; omega
      simp at hk
      have ih := rd_put k (i + 1) (x / 128) t hk (by omega) (by omega) (fun _ => by omega)
      simp only [List.cons_append, rd, e, ih]
      rw [if_neg (by omega), if_neg (by omega)]
      simp; omega

theorem rd_put0 {x : Nat} (h : x < 18446744073709551616) (t : List UInt8) : rd 0 (put x ++ t) = (x, (put x).length, 0) :=
  rd_put _ 0 x t rfl (by omega) (by simpa using h) (by omega)

/-- What is read as a number is what this number is put as. -/
theorem put_rd : ∀ (i : Nat) (l : List UInt8), i ≤ 9 → (rd i l).2.2 = 0 → put (rd i l).1 = l.take (rd i l).2.1 ∧ (0 < i → 0 < (rd i l).1) ∧ 1 ≤ (rd i l).2.1 ∧ (rd i l).2.1 ≤ 10 - i
  | _, [], _, h => by simp [rd] at h
  | i, c :: t, hi, h => by
    have hc := c.toNat_lt
    simp only [rd] at h ⊢
    by_cases h1 : (i = 9 ∧ 1 < c.toNat) ∨ (0 < i ∧ c.toNat = 0)
    · rw [if_pos h1] at h; simp at h
    · rw [if_neg h1] at h ⊢
      by_cases h2 : c.toNat < 128
      · rw [if_pos h2]
        simp only [put_small h2, List.take_succ_cons, List.take_zero]
        refine ⟨by simp, fun _ => by omega, by omega, by omega⟩
      · rw [if_neg h2] at h ⊢
        by_cases h3 : (rd (i + 1) t).2.2 = 0
        · rw [if_pos h3]
          have h9 : i ≠ 9 := by rintro rfl; omega
          obtain ⟨a, b, c1, d⟩ := put_rd (i + 1) t (by omega) h3
          have hb := b (by omega)
          refine ⟨?_, fun _ => by simp; omega, by simp, by simp; omega⟩
          simp only
          rw [put_big (by omega), show (c.toNat - 128 + 128 * (rd (i + 1) t).1) / 128 = (rd (i + 1) t).1 by omega, a,
            show (c.toNat - 128 + 128 * (rd (i + 1) t).1) % 128 + 128 = c.toNat by omega]
          simp
        · rw [if_neg h3] at h; exact absurd h h3

/-- Cut inside, a number's bytes end too early. -/
theorem rd_cut : ∀ (j i x : Nat), j < (put x).length → i ≤ 9 → x < 2 * 128 ^ (9 - i) → (0 < i → 0 < x) → rd i ((put x).take j) = (0, 0, 10)
  | 0, i, x, _, _, _, _ => by simp [rd]
  | j + 1, i, x, hj, hi, hx, h0 => by
    by_cases hs : x < 128
    · rw [put_small hs] at hj; simp at hj
    · rw [put_big (by omega)] at hj ⊢
      have e : (UInt8.ofNat (x % 128 + 128)).toNat = x % 128 + 128 := by simp; omega
      have h9 : i ≠ 9 := by rintro rfl; simp at hx; omega
      have hq : 128 ^ (9 - i) = 128 * 128 ^ (9 - (i + 1)) := by rw [show 9 - i = (9 - (i + 1)) + 1 by omega, Nat.pow_succ]; omega
      simp at hj
      have ih := rd_cut j (i + 1) (x / 128) hj (by omega) (by omega) (fun _ => by omega)
      simp only [List.take_succ_cons, rd, e, ih]
      rw [if_neg (by omega), if_neg (by omega)]
      simp

theorem comb_zero (r : Nat × Nat × Nat) (h : r.2.2 ≠ 0 → r.1 = 0 ∧ r.2.1 = 0) : comb 0 0 r = r := by
  unfold comb
  obtain ⟨a, b, c⟩ := r
  simp only at h ⊢
  split
  · rename_i h0; subst h0; simp
  · rename_i h0; obtain ⟨rfl, rfl⟩ := h h0; rfl

/-- One round: a byte of 128 or more, that may stand there. -/
theorem comb_step {i x : Nat} {c : UInt8} {t : List UInt8} (h1 : ¬ ((i = 9 ∧ 1 < c.toNat) ∨ (0 < i ∧ c.toNat = 0))) (h2 : ¬ c.toNat < 128) :
    comb i x (rd i (c :: t)) = comb (i + 1) (x + (c.toNat - 128) * 128 ^ i) (rd (i + 1) t) := by
  simp only [rd, if_neg h1, if_neg h2]
  unfold comb
  by_cases h3 : (rd (i + 1) t).2.2 = 0
  · rw [if_pos h3, if_pos rfl, if_pos h3]
    have : 128 ^ (i + 1) = 128 * 128 ^ i := by rw [Nat.pow_succ]; omega
    simp only [this, Prod.mk.injEq, and_true]
    refine ⟨?_, by omega⟩
    generalize 128 ^ i = p
    generalize (rd (i + 1) t).1 = v
    rw [Nat.mul_add, Nat.mul_comm p (c.toNat - 128), ← Nat.add_assoc, ← Nat.mul_assoc p, Nat.mul_comm p 128]
  · rw [if_neg h3, if_neg h3, if_neg h3]

end Codec
end Go.Proofs.YtmakpjcgiiljfaaDoor
