/-
  The code's bag: one message a tick older; what a tick leaves.
-/
import Derived.Test.YtogfblfekedefaaBagDelF
namespace Go.Proofs.Ytogfblfekedefaa
open Go.RowKit

def incX (x : Am) : Am := { x with m := { x.m with a := x.m.a + 1 } }
def ageJ (xs : List Am) (j : Nat) : List Am := (xs.take j).map incX ++ xs.drop j
theorem ageJ_len (xs : List Am) (j : Nat) : (ageJ xs j).length = xs.length := by
  unfold ageJ
  rw [List.length_append, List.length_map, List.length_take, List.length_drop]
  omega
theorem ageJ_at {xs : List Am} {j : Nat} {x : Am} (h : xs[j]? = some x) : (ageJ xs j)[j]? = some x := by
  have hj := (List.getElem?_eq_some_iff.1 h).1
  have hl : ((xs.take j).map incX).length = j := by rw [List.length_map, List.length_take]; omega
  unfold ageJ
  rw [List.getElem?_append_right (by omega), hl, Nat.sub_self, List.getElem?_drop, Nat.add_zero, h]
theorem ageJ_succ {xs : List Am} {j : Nat} {x : Am} (h : xs[j]? = some x) : ageJ xs (j + 1) = (ageJ xs j).set j (incX x) := by
  have hj := (List.getElem?_eq_some_iff.1 h).1
  have hl : ((xs.take j).map incX).length = j := by rw [List.length_map, List.length_take]; omega
  unfold ageJ
  rw [List.set_append_right _ _ (by omega), hl, Nat.sub_self, take_snocX h, List.map_append, List.drop_eq_getElem_cons hj, List.set_cons_zero]
  simp
theorem ageJ_all (xs : List Am) : ageJ xs xs.length = xs.map incX := by
  unfold ageJ
  rw [List.take_length, List.drop_length, List.append_nil]
theorem rosL_age {xs : List Am} {i : Nat} {x : Am} (h : xs[i]? = some x) : (rosL amC xs).set (i * 4 + 3) (.int .i64 ((x.m.a : Int) + 1)) = rosL amC (xs.set i (incX x)) := by
  have hi := (List.getElem?_eq_some_iff.1 h).1
  have hl1 : (rosL amC (xs.take i)).length = i * 4 := by rw [rosL_len amC_len, List.length_take, Nat.min_eq_left (by omega)]
  have hx : xs = xs.take i ++ x :: xs.drop (i + 1) := by
    rw [← (List.getElem?_eq_some_iff.1 h).2, ← List.drop_eq_getElem_cons hi, List.take_append_drop]
  have e1 : rosL amC xs = rosL amC (xs.take i) ++ (amC x ++ rosL amC (xs.drop (i + 1))) := by
    conv => lhs; rw [hx]
    rw [rosL_app, rosL_cons]
  have e2 : rosL amC (xs.set i (incX x)) = rosL amC (xs.take i) ++ (amC (incX x) ++ rosL amC (xs.drop (i + 1))) := by
    rw [List.set_eq_take_append_cons_drop, if_pos hi, rosL_app, rosL_cons]
  rw [e2, e1, List.set_append_right _ _ (by omega), hl1, show i * 4 + 3 - i * 4 = 3 by omega]
  rfl
theorem RowG.age {w : World} {g c : Nat} {xs : List Am} (h : RowG w g c xs) {i : Nat} {x : Am} (hx : xs[i]? = some x) : RowG (w.setCell ⟨g, i * 4 + 3, none⟩ (.int .i64 ((x.m.a : Int) + 1))) g c (xs.set i (incX x)) := by
  obtain ⟨cur, h1, h2, h3, h4, h5⟩ := h
  have hi := (List.getElem?_eq_some_iff.1 hx).1
  refine ⟨_, set_of_cells h1 _ _, by rw [List.length_set]; exact h2, h3, by simp [h4], ?_⟩
  rw [List.length_set, Array.toList_setIfInBounds, List.take_set, h5, rosL_age hx]
theorem apart_iff (xs : List Am) : (xs.Pairwise fun x y => 0 < x.n → 0 < y.n → x.q ≠ y.q) ↔ (xs.map fun x => (x.n, x.q)).Pairwise fun a b => 0 < a.1 → 0 < b.1 → a.2 ≠ b.2 := by
  rw [List.pairwise_map]
theorem Ams.age {w : World} {S : Nat → Prop} {p g c : Nat} {xs : List Am} (h : Ams w S p (.slice (some ⟨g, 0, none⟩) xs.length c) xs) {i : Nat} {x : Am} (hx : xs[i]? = some x) :
    Ams (w.setCell ⟨g, i * 4 + 3, none⟩ (.int .i64 ((x.m.a : Int) + 1))) S p (.slice (some ⟨g, 0, none⟩) xs.length c) (xs.set i (incX x)) ∧ Turned (fun k => k = g) w (w.setCell ⟨g, i * 4 + 3, none⟩ (.int .i64 ((x.m.a : Int) + 1))) := by
  have ht : Turned (fun k => k = g) w (w.setCell ⟨g, i * 4 + 3, none⟩ (.int .i64 ((x.m.a : Int) + 1))) := (Turned.refl (fun k => k = g) w).set rfl _ _
  have hr := (h.rowG.age hx).own
  rw [List.length_set] at hr
  have hlt := lt_of_cells (show w.heap[g]? = some _ from h.rowG.choose_spec.1)
  refine ⟨⟨?_, h.ob, fun y hy => ?_, ?_⟩, ht⟩
  · rw [List.length_set]
    exact hr
  · rcases List.mem_or_eq_of_mem_set hy with hy | rfl
    · exact (h.byt y hy).turned ht fun k _ h1 h2 => h1.2.2.2 (by rw [h2]; rfl)
    · exact (h.byt x (List.mem_of_getElem? hx)).turned ht fun k _ h1 h2 => h1.2.2.2 (by rw [h2]; rfl)
  · have ha := h.apart
    rw [apart_iff] at ha ⊢
    have e : (xs.set i (incX x)).map (fun x => (x.n, x.q)) = xs.map fun x => (x.n, x.q) := by
      rw [List.map_set]
      apply List.ext_getElem?
      intro k
      rw [List.getElem?_set]
      by_cases hk : i = k
      · subst hk
        have hi := (List.getElem?_eq_some_iff.1 hx).1
        rw [if_pos rfl, if_pos (by rw [List.length_map]; exact hi), List.getElem?_map, hx]
        rfl
      · rw [if_neg hk]
    rw [e]
    exact ha
theorem oldX_inc (K : Nat) (x : Am) : oldX K (incX x) = decide (K < x.m.a + 1) := rfl
theorem keepX_map (K : Nat) (xs : List Am) : (keepX K (xs.map incX)).map Am.m = tickB K (xs.map Am.m) := by
  unfold keepX tickB
  induction xs with
  | nil => rfl
  | cons x xs ih =>
    simp only [List.map_cons]
    by_cases h : x.m.a + 1 ≤ K
    · rw [List.filter_cons_of_pos (by rw [oldX_inc, decide_eq_false (by omega)]; rfl), List.filter_cons_of_pos (by simpa using h), List.map_cons, ih]
      rfl
    · rw [List.filter_cons_of_neg (by rw [oldX_inc, decide_eq_true (by omega)]; decide), List.filter_cons_of_neg (by simpa using h), ih]
/-- What stays behind those that went. -/
theorem Ams.keep {w w' : World} {S : Nat → Prop} {p c c' K : Nat} {A : Option Addr} {xs : List Am} (h : Ams w S p (.slice A xs.length c) xs) (hr : w'.ownsRow 0 60 4 (.slice A (keepX K xs).length c') (keepX K xs).length (rosL amC (keepX K xs))) (ht : Turned (fun b => (Value.slice A 0 0).ownBlock = some b) w w') : Ams w' S p (.slice A (keepX K xs).length c') (keepX K xs) := by
  have hob : ∀ n c, (Value.slice A n c).ownBlock = (Value.slice A 0 0).ownBlock := by intro n c; cases A <;> rfl
  refine ⟨hr, fun g hg => h.ob g (by rw [hob] at hg ⊢; exact hg), fun x hx => ?_, h.apart.sublist (List.filter_sublist ..)⟩
  have hm : x ∈ xs := (List.mem_filter.1 hx).1
  refine ((h.byt x hm).turned ht fun k _ h1 h2 => h1.2.2.2 (by rw [hob]; exact h2)).mono fun k _ h1 => ⟨h1.1, h1.2.1, h1.2.2.1, fun h2 => h1.2.2.2 (by rw [hob] at h2 ⊢; exact h2)⟩
end Go.Proofs.Ytogfblfekedefaa
