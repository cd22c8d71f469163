/-
  Messages under way, pure: what putting, taking and ticking leave (P17.1 to P17.3).
-/
import Derived.Test.YtogfblfekedefaaRos
import Derived.Test.YtogfblfekedefaaSt
import Derived.Test.YtogfblfekedefaaStrs
namespace Go.Proofs.Ytogfblfekedefaa
open Go.RowKit

/-- A message: from, to, its bytes, its age. -/
structure Bm where
  f : Int
  t : Int
  b : List UInt8
  a : Nat
/-- As the reference has it. -/
def bmV (m : Bm) : List Value := [.int .i64 m.f, .int .i64 m.t, .string (st m.b), .int .i64 (m.a : Int)]
theorem bmV_len (m : Bm) : (bmV m).length = 4 := rfl
theorem bmV_one (m : Bm) : ∀ u ∈ bmV m, u.oneCell' = true := by
  intro u hu
  simp [bmV] at hu
  rcases hu with rfl | rfl | rfl | rfl <;> rfl
def bmay (N : Nat) (m : Bm) : Prop := 0 ≤ m.f ∧ m.f < (N : Int) ∧ 0 ≤ m.t ∧ m.t < (N : Int)
instance (N : Nat) (m : Bm) : Decidable (bmay N m) := by unfold bmay; exact inferInstance
/-- Put. -/
def putB (N : Nat) (l : List Bm) (m : Bm) : List Bm × Int :=
  if ¬ bmay N m then (l, 1) else if 2097152 < m.b.length then (l, 13) else if 256 ≤ l.length then (l, 31) else (l ++ [{ m with a := 0 }], 0)
/-- Take. -/
def takeB (l : List Bm) (i : Nat) : List Bm := l.take i ++ l.drop (i + 1)
/-- A tick. -/
def tickB (k : Nat) (l : List Bm) : List Bm := (l.map fun m => { m with a := m.a + 1 }).filter fun m => decide (m.a ≤ k)
theorem tickB_take (k : Nat) (l : List Bm) {i : Nat} {m : Bm} (h : l[i]? = some m) : tickB k (l.take (i + 1)) = tickB k (l.take i) ++ if m.a + 1 ≤ k then [{ m with a := m.a + 1 }] else [] := by
  rw [List.take_add_one, h]
  unfold tickB
  rw [List.map_append, List.filter_append]
  congr 1
  simp only [Option.toList, List.map_cons, List.map_nil]
  by_cases h : m.a + 1 ≤ k <;> simp [h]
theorem tickB_len (k : Nat) (l : List Bm) : (tickB k l).length ≤ l.length := by
  unfold tickB
  exact Nat.le_trans (List.length_filter_le _ _) (by simp)
def natV (i : Nat) : List Value := [.int .i64 (i : Int)]
/-- Is the i-th message for that node? -/
def isB (l : List Bm) (t : Int) (i : Nat) : Bool := match l[i]? with | some m => decide (m.t = t) | none => false
/-- The indices of the messages for a node. -/
def forB (l : List Bm) (t : Int) : List Nat := (List.range l.length).filter (isB l t)
/-- How many of the first j are for a node. -/
def cntB (l : List Bm) (t : Int) (j : Nat) : Nat := ((List.range j).filter (isB l t)).length
theorem cntB_succ (l : List Bm) (t : Int) (j : Nat) : cntB l t (j + 1) = cntB l t j + if isB l t j = true then 1 else 0 := by
  unfold cntB
  rw [List.range_succ, List.filter_append, List.length_append]
  by_cases h : isB l t j = true
  · rw [List.filter_cons_of_pos h, if_pos h]; rfl
  · rw [List.filter_cons_of_neg h, if_neg h]; rfl
theorem cntB_all (l : List Bm) (t : Int) : cntB l t l.length = (forB l t).length := rfl
theorem forB_at {l : List Bm} {t : Int} {j : Nat} (hj : j < l.length) (h : isB l t j = true) : (forB l t)[cntB l t j]? = some j := by
  obtain ⟨r, hr⟩ : ∃ r, l.length = j + 1 + r := ⟨l.length - (j + 1), by omega⟩
  have e : List.range l.length = List.range j ++ (j :: (List.range r).map (j + 1 + ·)) := by rw [hr, List.range_add, List.range_succ, List.append_assoc]; rfl
  unfold forB cntB
  rw [e, List.filter_append, List.getElem?_append_right (Nat.le_refl _), Nat.sub_self, List.filter_cons_of_pos h]
  rfl
theorem isB_eq {l : List Bm} {t : Int} {j : Nat} {x : Bm} (h : l[j]? = some x) : isB l t j = decide (x.t = t) := by unfold isB; rw [h]
theorem bm_info : (Try.prog.info? 38).map (·.size) = some 4 := by kernel_rfl
theorem bm_info3 : (Try.prog.info? 38).map (fun i => (i.zero, i.size, i.bytes)) = some (some (.agg #[.int .i64 0, .int .i64 0, .string ⟨#[]⟩, .int .i64 0]), 4, 40) := by kernel_rfl
theorem zero_bm : ∀ W, (zeroValue 38).run Try.prog W = .ok (.agg #[.int .i64 0, .int .i64 0, .string ⟨#[]⟩, .int .i64 0]) W := fun W => by kernel_rfl
section
variable {w : World} {k l : List Bm} {v : Value} {B m c : Nat} {A : Option Addr}
/-- Messages laid behind messages. -/
theorem bm_app (hown : w.ownsRow B 38 4 v k.length (rosL bmV k)) (hB : B ≤ w.heap.size) (hl : l.length = m) (hat : 0 < m → ∃ ad, A = some ad ∧ ∀ j u, (rosL bmV l)[j]? = some u → w.cell? (ad.add j) = some u) (hb : k.length + m ≤ 1000000) (ty : TypeId) :
    ∃ A' c' W', (Builtin.append_ #[28, 28] ty #[v, .slice A m c]).run Try.prog w = .ok (.slice A' (k ++ l).length c') W' ∧ W'.ownsRow B 38 4 (.slice A' (k ++ l).length c') (k ++ l).length (rosL bmV (k ++ l)) ∧ Below B w W' := by
  obtain ⟨i0, hi, hz0, hz1, hz2⟩ := info_parts bm_info3
  exact ros_app Try.underlying28 hi hz0 hz1 hz2 rfl (by decide) (by omega) bmV_len bmV_one hown hB hl hat hb ty
end
/-- One message, as a row of its own. -/
theorem bm_hat (w : World) (m : Bm) : 0 < 1 → ∃ ad, (some ⟨w.heap.size, 0, none⟩ : Option Addr) = some ad ∧ ∀ j u, (rosL bmV [m])[j]? = some u → (w.alloc (.cells #[.int .i64 m.f, .int .i64 m.t, .string (st m.b), .int .i64 (m.a : Int)] 38)).cell? (ad.add j) = some u := fun _ =>
  ⟨_, rfl, fun j u hu => by
    rw [add_plain, Nat.zero_add, cell_of_cells (heap_alloc_new w _), List.getElem?_toArray]
    simpa [rosL, bmV] using hu⟩
theorem bm_lit (w : World) (a b d : Int) (s : ByteArray) : (Instr.buildSlice 28 1 #[(0, .agg #[.int .i64 a, .int .i64 b, .string s, .int .i64 d])]).run Try.prog w = .ok (.slice (some ⟨w.heap.size, 0, none⟩) 1 1) (w.alloc (.cells #[.int .i64 a, .int .i64 b, .string s, .int .i64 d] 38)) := by
  obtain ⟨i0, hi, hz0, hz1, _⟩ := info_parts bm_info3
  refine run_buildSlice w 28 38 1 #[(0, .agg #[.int .i64 a, .int .i64 b, .string s, .int .i64 d])] #[.int .i64 a, .int .i64 b, .string s, .int .i64 d] i0 (.agg #[.int .i64 0, .int .i64 0, .string ⟨#[]⟩, .int .i64 0]) Try.underlying28 hi hz0 (by rw [hz1]; omega) (by rw [hz1]; omega) ?_
  rw [hz1]
  have hm : ((Array.range (1 * 4)).map fun x => (Value.agg #[.int .i64 0, .int .i64 0, .string ⟨#[]⟩, .int .i64 0]).cells[x % (Value.agg #[.int .i64 0, .int .i64 0, .string ⟨#[]⟩, .int .i64 0]).cells.size]!) = #[.int .i64 0, .int .i64 0, .string ⟨#[]⟩, .int .i64 0] := by kernel_rfl
  rw [hm]
  simp [Instr.fill, Value.cells]
theorem bm_sizeOf (w : World) : (Go.sizeOf 38).run Try.prog w = .ok 4 w := by
  obtain ⟨i0, hi, _, hz1, _⟩ := info_parts bm_info3
  simp [Go.sizeOf, typeInfo, hi, hz1, Sem.run_bind]
end Go.Proofs.Ytogfblfekedefaa
