/-
  A region that draws its order where, at one place, either of two operations may come up first: the plan is a tree.
-/
import Derived.Test.YtkhbmgmppoepjaaRegion
namespace Go.Proofs.Ytkhbmgmppoepjaa
open Go.RowKit
inductive Tree where
  | last (q : List Nat)
  | one (q : List Nat) (e : Nat) (t : Tree)
  | two (q : List Nat) (e1 : Nat) (t1 : Tree) (e2 : Nat) (t2 : Tree)
namespace Tree
def size : Tree → Nat
  | last q => q.length
  | one q _ t => q.length + (t.size + 1)
  | two q _ t1 _ _ => q.length + (t1.size + 1)
end Tree
section
variable {P : Program} {ops : Array Oper} {Q : Exit → Act → World → Prop} {md : Region.Mode}
def wpTree (P : Program) (ops : Array Oper) (Q : Exit → Act → World → Prop) : (World → Prop) → Tree → Act → World → Prop
  | C, .last q, a, w => wpSeg P ops C (fun a' => Q .normal a' w) q a
  | C, .one q e t, a, w => wpSeg P ops C (fun a1 => wpOp P ops Q e (fun a2 w2 => ∃ C' : World → Prop, C' w2 ∧ (∀ W, C' W → C W) ∧ wpTree P ops Q C' t a2 w2) a1 w) q a
  | C, .two q e1 t1 e2 t2, a, w => wpSeg P ops C (fun a1 => wpOp P ops Q e1 (fun a2 w2 => ∃ C' : World → Prop, C' w2 ∧ (∀ W, C' W → C W) ∧ wpTree P ops Q C' t1 a2 w2) a1 w ∧
      wpOp P ops Q e2 (fun a2 w2 => ∃ C' : World → Prop, C' w2 ∧ (∀ W, C' W → C W) ∧ wpTree P ops Q C' t2 a2 w2) a1 w) q a
def treeB (md : Region.Mode) (ops : Array Oper) : Array Bool → Tree → Bool
  | listed, .last q => segB md ops listed q && (Region.ready md ops (listedBy listed q)).isEmpty
  | listed, .one q e t => segB md ops listed q && (Region.ready md ops (listedBy listed q) == [e]) && treeB md ops ((listedBy listed q).setIfInBounds e true) t
  | listed, .two q e1 t1 e2 t2 => segB md ops listed q && (Region.ready md ops (listedBy listed q) == [e1, e2]) && (treeB md ops ((listedBy listed q).setIfInBounds e1 true) t1 && (treeB md ops ((listedBy listed q).setIfInBounds e2 true) t2 && (t1.size == t2.size)))

theorem wpAnyH_tree (hs : Region.noSelect ops = true) (hQ : ∀ c a d v w, Q (.panic c) (Act.put a d v) w → Q (.panic c) a w) :
    ∀ (t : Tree) (C : World → Prop) (listed : Array Bool) (a : Act) (w : World), C w → treeB md ops listed t = true → wpTree P ops Q C t a w → wpAnyH P md ops Q C t.size listed a w
  | .last q, C, listed, a, w, hC, hB, h => by
    simp only [treeB, Bool.and_eq_true] at hB
    have := wpAnyH_seg (fuel := 0) hs hQ hC q listed a hB.1 h fun a' h' => wpAnyH_done (by simpa using hB.2) h' 0
    simpa [Tree.size] using this
  | .one q e t, C, listed, a, w, hC, hB, h => by
    simp only [treeB, Bool.and_eq_true, beq_iff_eq] at hB
    obtain ⟨⟨hB1, hB2⟩, hB3⟩ := hB
    have := wpAnyH_seg (fuel := t.size + 1) hs hQ hC q listed a hB1 h fun a' h' => by
      refine wpAnyH_all hB2 (by simp) fun i hi => ?_
      rw [List.mem_singleton.1 hi]
      refine wpOp_mono ?_ h'
      rintro a2 w2 ⟨C', hC', hsub, hp⟩
      exact ⟨hsub _ hC', wpAnyH_mono hsub _ _ _ _ (wpAnyH_tree hs hQ t C' _ a2 w2 hC' hB3 hp)⟩
    simpa [Tree.size, Nat.add_comm, Nat.add_left_comm] using this
  | .two q e1 t1 e2 t2, C, listed, a, w, hC, hB, h => by
    simp only [treeB, Bool.and_eq_true, beq_iff_eq] at hB
    obtain ⟨⟨hB1, hB2⟩, hB3, hB4, hB5⟩ := hB
    have := wpAnyH_seg (fuel := t1.size + 1) hs hQ hC q listed a hB1 h fun a' h' => by
      refine wpAnyH_all hB2 (by simp) fun i hi => ?_
      simp only [List.mem_cons, List.not_mem_nil, or_false] at hi
      rcases hi with rfl | rfl
      · refine wpOp_mono ?_ h'.1
        rintro a2 w2 ⟨C', hC', hsub, hp⟩
        exact ⟨hsub _ hC', wpAnyH_mono hsub _ _ _ _ (wpAnyH_tree hs hQ t1 C' _ a2 w2 hC' hB3 hp)⟩
      · refine wpOp_mono ?_ h'.2
        rintro a2 w2 ⟨C', hC', hsub, hp⟩
        rw [hB5]
        exact ⟨hsub _ hC', wpAnyH_mono hsub _ _ _ _ (wpAnyH_tree hs hQ t2 C' _ a2 w2 hC' hB4 hp)⟩
    simpa [Tree.size, Nat.add_comm, Nat.add_left_comm] using this

/-- THE LAW. -/
theorem wp_region_tree {id : Nat} {a : Act} {w : World} (C : World → Prop) (t : Tree) (hm : P.follows .mixedOrders = true)
    (hB : (Region.noSelect ops && treeB .any ops (Array.replicate ops.size false) t && (t.size == ops.size)) = true)
    (hQ : ∀ c a d v w, Q (.panic c) (Act.put a d v) w → Q (.panic c) a w) (hC : C w.drew) (h : wpTree P ops Q C t a w.drew) : (Code.region id ops true).wp P Q a w := by
  simp only [Bool.and_eq_true, beq_iff_eq] at hB
  obtain ⟨⟨h1, h2⟩, h3⟩ := hB
  have hf := wpAnyH_tree (md := .any) h1 hQ t C _ a _ hC h2 h
  rw [h3] at hf
  exact wp_region_held hm hf
theorem tree_last {C : World → Prop} {q : List Nat} {a : Act} {w : World} (h : wpSeg P ops C (fun a' => Q .normal a' w) q a) : wpTree P ops Q C (.last q) a w := h
theorem tree_one {C : World → Prop} {q : List Nat} {e : Nat} {t : Tree} {a : Act} {w : World}
    (h : wpSeg P ops C (fun a1 => wpOp P ops Q e (fun a2 w2 => ∃ C' : World → Prop, C' w2 ∧ (∀ W, C' W → C W) ∧ wpTree P ops Q C' t a2 w2) a1 w) q a) : wpTree P ops Q C (.one q e t) a w := h
theorem tree_two {C : World → Prop} {q : List Nat} {e1 e2 : Nat} {t1 t2 : Tree} {a : Act} {w : World}
    (h : wpSeg P ops C (fun a1 => wpOp P ops Q e1 (fun a2 w2 => ∃ C' : World → Prop, C' w2 ∧ (∀ W, C' W → C W) ∧ wpTree P ops Q C' t1 a2 w2) a1 w ∧
      wpOp P ops Q e2 (fun a2 w2 => ∃ C' : World → Prop, C' w2 ∧ (∀ W, C' W → C W) ∧ wpTree P ops Q C' t2 a2 w2) a1 w) q a) : wpTree P ops Q C (.two q e1 t1 e2 t2) a w := h
end
end Go.Proofs.Ytkhbmgmppoepjaa
