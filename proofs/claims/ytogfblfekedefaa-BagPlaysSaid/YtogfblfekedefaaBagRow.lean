/-
  The code's bag: the row of messages as a block: parts of it, one element stored, the end cleared.
-/
import Derived.Test.YtogfblfekedefaaBagMem
import Derived.Test.YtogfblfekedefaaEffRow
namespace Go.Proofs.Ytogfblfekedefaa
open Go.RowKit

theorem rosL_cons {α : Type} {f : α → List Value} (x : α) (l : List α) : rosL f (x :: l) = f x ++ rosL f l := by simp [rosL]
/-- THE BLOCK g HOLDS THESE MESSAGES, and has room for c of them. -/
def RowG (w : World) (g c : Nat) (xs : List Am) : Prop := ∃ cur, w.heap[g]? = some (.cells cur 60 (0, 0)) ∧ xs.length ≤ c ∧ c ≤ maxLen ∧ cur.size = c * 4 ∧ cur.toList.take (xs.length * 4) = rosL amC xs
section
variable {w w' : World} {g c : Nat} {xs : List Am}
theorem RowG.own (h : RowG w g c xs) : w.ownsRow 0 60 4 (.slice (some ⟨g, 0, none⟩) xs.length c) xs.length (rosL amC xs) := by
  obtain ⟨cur, h1, h2, h3, h4, h5⟩ := h
  exact ⟨rosL_len amC_len xs, .inr ⟨g, c, cur, rfl, Nat.zero_le _, h1, h2, h3, h4, h5⟩⟩
theorem RowG.of_own (h : w.ownsRow 0 60 4 (.slice (some ⟨g, 0, none⟩) xs.length c) xs.length (rosL amC xs)) : RowG w g c xs := by
  rcases h.2 with ⟨h1, _⟩ | ⟨g', c', cur, h1, _, h2, h3, h4, h5, h6⟩
  · cases h1
  · injection h1 with h1 _ h7
    injection h1 with h1
    injection h1 with h1
    subst h1 h7
    exact ⟨cur, h2, h3, h4, h5, h6⟩
theorem RowG.lt (h : RowG w g c xs) : g < w.heap.size := by
  obtain ⟨_, h, _⟩ := h
  exact lt_of_cells h
theorem RowG.room (h : RowG w g c xs) : xs.length ≤ c ∧ c ≤ maxLen := by
  obtain ⟨_, _, h1, h2, _⟩ := h
  exact ⟨h1, h2⟩
theorem RowG.keep (h : RowG w g c xs) (hb : w'.heap[g]? = w.heap[g]?) : RowG w' g c xs := by
  obtain ⟨cur, h1, h2⟩ := h
  exact ⟨cur, hb.trans h1, h2⟩
theorem RowG.below (h : RowG w g c xs) (hb : Below w.heap.size w w') : RowG w' g c xs := h.keep (hb.block g h.lt)
theorem RowG.turned (h : RowG w g c xs) {T : Nat → Prop} (ht : Turned T w w') (hT : ¬ T g) : RowG w' g c xs := h.keep (ht.block g h.lt hT)
/-- The i-th one's cells. -/
theorem RowG.cell (h : RowG w g c xs) {i : Nat} {x : Am} (hx : xs[i]? = some x) {j : Nat} {u : Value} (hu : (amC x)[j]? = some u) : w.cell? ⟨g, i * 4 + j, none⟩ = some u := by
  have hi := (List.getElem?_eq_some_iff.1 hx).1
  obtain ⟨g', he, _, _, _, _, _, hr⟩ := row_cells h.own (by omega)
  injection he with he
  injection he with he
  subst he
  exact hr _ _ (rosL_at amC_len xs hx hu)
theorem RowG.front (h : RowG w g c xs) (k : Nat) (hk : k ≤ xs.length) : RowG w g c (xs.take k) := by
  obtain ⟨cur, h1, h2, h3, h4, h5⟩ := h
  refine ⟨cur, h1, by rw [List.length_take]; omega, h3, h4, ?_⟩
  rw [List.length_take, Nat.min_eq_left hk, ← rosL_take amC_len xs k hk, ← h5, List.take_take, Nat.min_eq_left (by omega)]
/-- One element is stored. -/
theorem ag_store (h : RowG w g c xs) {i : Nat} (hi : i < xs.length) (x : Am) :
    (Instr.storeAt 60 (.pointer (some ⟨g, i * 4, none⟩)) (.agg (amC x).toArray)).run Try.prog w = .ok () (w.setRow g ((rosL amC (xs.set i x)) ++ (match w.heap[g]? with | some (.cells cur _ _) => cur.toList.drop (xs.length * 4) | _ => [])).toArray) ∧
      RowG (w.setRow g ((rosL amC (xs.set i x)) ++ (match w.heap[g]? with | some (.cells cur _ _) => cur.toList.drop (xs.length * 4) | _ => [])).toArray) g c (xs.set i x) := by
  obtain ⟨cur, h1, h2, h3, h4, h5⟩ := h
  have hs : (amC x).length = 4 := rfl
  have hst := run_storeCells_at (P := Try.prog) g (i * 4) 60 (amC x) 0 cur w h1 (by omega) (amC_one x)
  rw [Nat.add_zero] at hst
  have hcur : cur.toList = rosL amC xs ++ cur.toList.drop (xs.length * 4) := by rw [← h5, List.take_append_drop]
  have hx : xs = xs.take i ++ xs[i] :: xs.drop (i + 1) := by rw [← List.drop_eq_getElem_cons hi, List.take_append_drop]
  have hl1 : (rosL amC (xs.take i)).length = i * 4 := by rw [rosL_len amC_len, List.length_take, Nat.min_eq_left (by omega)]
  have hl2 : (amC xs[i]).length = 4 := rfl
  have hnew : (cur.toList.take (i * 4) ++ amC x ++ cur.toList.drop (i * 4 + (amC x).length)) = rosL amC (xs.set i x) ++ cur.toList.drop (xs.length * 4) := by
    have e1 : rosL amC xs = rosL amC (xs.take i) ++ (amC xs[i] ++ rosL amC (xs.drop (i + 1))) := by
      conv => lhs; rw [hx]
      rw [rosL_app, rosL_cons]
    have e2 : rosL amC (xs.set i x) = rosL amC (xs.take i) ++ (amC x ++ rosL amC (xs.drop (i + 1))) := by
      rw [List.set_eq_take_append_cons_drop, if_pos hi, rosL_app, rosL_cons]
    have e3 : cur.toList = rosL amC (xs.take i) ++ (amC xs[i] ++ (rosL amC (xs.drop (i + 1)) ++ cur.toList.drop (xs.length * 4))) := by
      conv => lhs; rw [hcur, e1]
      simp only [List.append_assoc]
    have e4 : cur.toList.take (i * 4) = rosL amC (xs.take i) := by
      rw [e3, ← hl1, List.take_left]
    have e5 : cur.toList.drop (i * 4 + (amC x).length) = rosL amC (xs.drop (i + 1)) ++ cur.toList.drop (xs.length * 4) := by
      conv => lhs; rw [e3]
      rw [hs, ← hl1, ← hl2, ← List.drop_drop, List.drop_left, List.drop_left]
    rw [e4, e5, e2]
    simp only [List.append_assoc]
  rw [h1]
  simp only
  rw [hnew] at hst
  constructor
  · have hi3 : (Try.prog.info? 60).map (·.size) = some (amC x).length := by
      have h : (Try.prog.info? 60).map (·.size) = some 4 := by kernel_rfl
      exact h
    cases hi2 : Try.prog.info? 60 with
    | none => simp [hi2] at hi3
    | some inf =>
      have hs2 : inf.size = (amC x).length := by simpa [hi2] using hi3
      simp [Instr.storeAt, Instr.sureAddr, Sem.run_bind, storeVar, sizeOf, typeInfo, hi2, hs2, Value.cells, hst, Result.andThen]
  · have hl : (rosL amC (xs.set i x)).length = xs.length * 4 := by rw [rosL_len amC_len, List.length_set]
    refine ⟨_, setRow_at h1, by rw [List.length_set]; exact h2, h3, ?_, ?_⟩
    · simp [hl]; omega
    · rw [List.length_set, ← hl]
      simp
end
end Go.Proofs.Ytogfblfekedefaa
