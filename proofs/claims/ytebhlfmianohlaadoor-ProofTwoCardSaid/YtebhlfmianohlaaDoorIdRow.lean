/-
  A row of digests of the call's own, filled one by one.
-/
import Derived.Test.YtebhlfmianohlaaDoorIds
import Derived.Test.YtebhlfmianohlaaDoorRefOf
namespace Go.Proofs.YtebhlfmianohlaaDoor
open Go.RowKit

theorem set_flat : ∀ {l : List (List UInt8)} (_ : ∀ x ∈ l, x.length = 32) (i : Nat) (_ : i < l.length) (d : List UInt8) (_ : d.length = 32), (l.set i d).flatten = l.flatten.take (i * 32) ++ d ++ l.flatten.drop (i * 32 + 32)
  | [], _, _, h, _, _ => absurd h (by simp)
  | a :: l, hl, 0, _, d, hd => by
    have ha := hl a (by simp)
    simp [ha, List.take_append]
  | a :: l, hl, i + 1, h, d, hd => by
    have ha := hl a (by simp)
    have ih := set_flat (l := l) (fun x hx => hl x (by simp [hx])) i (by simpa using h) d hd
    rw [List.set_cons_succ, List.flatten_cons, ih, List.flatten_cons, List.take_append, List.drop_append, ha, List.take_of_length_le (by omega : a.length ≤ (i + 1) * 32), List.drop_of_length_le (by omega : a.length ≤ (i + 1) * 32 + 32), show (i + 1) * 32 - 32 = i * 32 by omega, show (i + 1) * 32 + 32 - 32 = i * 32 + 32 by omega]
    simp
theorem set_len32 {l : List (List UInt8)} (hl : ∀ x ∈ l, x.length = 32) (i : Nat) {d : List UInt8} (hd : d.length = 32) : ∀ x ∈ l.set i d, x.length = 32 := fun x hx => by
  rcases List.mem_or_eq_of_mem_set hx with h | h
  · exact hl x h
  · rw [h, hd]
/-- A block that holds digests. -/
def IdBlk (w : World) (g : Nat) (l : List (List UInt8)) : Prop := w.heap[g]? = some (.cells (row8 l.flatten) 31 (0, 0)) ∧ ∀ x ∈ l, x.length = 32
theorem IdBlk.lt {w : World} {g : Nat} {l : List (List UInt8)} (h : IdBlk w g l) : g < w.heap.size := lt_of_cells h.1
theorem IdBlk.below {w w' : World} {g : Nat} {l : List (List UInt8)} (h : IdBlk w g l) (hb : Below w.heap.size w w') : IdBlk w' g l := ⟨(hb.block _ h.lt).trans h.1, h.2⟩
theorem run_store_id {w : World} {g : Nat} {l : List (List UInt8)} (h : IdBlk w g l) (i : Nat) (hi : i < l.length) (DS : Array Value) (d : List UInt8) (hDS : DS = row8 d) (hd : d.length = 32) (o : Nat) (ho : o = i * 32) :
    (Instr.storeAt 31 (.pointer (some ⟨g, o, none⟩)) (.agg DS)).run Tryd.prog w = .ok () (w.setRow g (row8 (l.set i d).flatten)) ∧ IdBlk (w.setRow g (row8 (l.set i d).flatten)) g (l.set i d) := by
  subst hDS ho
  have hfl := flatten_length32 h.2
  have hst := run_storeCells_at (P := Tryd.prog) g (i * 32) 31 (u8s d) 0 (row8 l.flatten) w h.1 (by rw [row8_size, hfl, u8s_length, hd]; omega) (u8s_one d)
  have e : ((row8 l.flatten).toList.take (i * 32 + 0) ++ u8s d ++ (row8 l.flatten).toList.drop (i * 32 + 0 + (u8s d).length)).toArray = row8 (l.set i d).flatten := by
    rw [set_flat h.2 i hi d hd, u8s_length, hd]
    simp [row8, u8s, List.map_take, List.map_drop]
  rw [e] at hst
  refine ⟨?_, setRow_at h.1, set_len32 h.2 i hd⟩
  have hq := id_info
  cases hi2 : Tryd.prog.info? 31 with
  | none => simp [hi2] at hq
  | some inf =>
    have hsz : inf.size = 32 := by simpa [hi2] using hq
    have hrs : (row8 d).size = 32 := by rw [row8_size, hd]
    have hl2 : (row8 d).toList = u8s d := by simp [row8]
    simp [Instr.storeAt, Instr.sureAddr, Sem.run_bind, storeVar, sizeOf, typeInfo, hi2, hsz, Value.cells, hrs, hl2, hst, Result.andThen]
theorem wpList_store_id {ops : Array Oper} {rest : List Oper} {op : Oper} {a : Act} {w : World} {Q : Exit → Act → World → Prop} (hgd : op.guard = none) (x y : Operand) (ho : op.op = .store 31 x y)
    {g : Nat} {l : List (List UInt8)} (h : IdBlk w g l) (i : Nat) (hi : i < l.length) (DS : Array Value) (d : List UInt8) (hDS : DS = row8 d) (hd : d.length = 32) (o : Nat) (hoo : o = i * 32)
    (hx : a.eval x = .pointer (some ⟨g, o, none⟩)) (hy : a.eval y = .agg DS)
    (hK : ∀ w', IdBlk w' g (l.set i d) → w.grownBy w' (some g) → wpList Tryd.prog ops Q rest (a.put op.dst undef) w') : wpList Tryd.prog ops Q (op :: rest) a w :=
  wpList_plain hgd fun K hK' => by
    obtain ⟨hr, hb⟩ := run_store_id h i hi DS d hDS hd o hoo
    have hg : w.grownBy (w.setRow g (row8 (l.set i d).flatten)) (some g) := ⟨rfl, rfl, rfl, by simp [World.setRow], fun k _ hk => setRow_ne _ _ _ _ (fun e => hk (by rw [e]))⟩
    unfold Oper.wp execOp
    simp only [ho, hx, hy, Sem.run_bind, hr, Result.andThen_ok, Sem.run_pure]
    exact hK' _ _ (hK _ hb hg)
theorem id_info3 : (Tryd.prog.info? 31).map (fun i => (i.zero, i.size, i.bytes)) = some (some (.agg zerosId), 32, 32) := by unfold zerosId; kernel_rfl
theorem zerosId_at (k : Nat) (hk : k < 32) : zerosId[k]! = .int .u8 0 := by
  have h : zerosId[k]? = some (.int .u8 0) := by
    unfold zerosId
    rw [List.getElem?_toArray, u8s, List.map_replicate, List.getElem?_replicate, if_pos hk]
    rfl
  simp [getElem!_def, h]
theorem made_ids (n : Nat) : madeCells (Value.agg zerosId).cells (n * 32) = row8 (List.replicate n (List.replicate 32 0)).flatten := by
  have hz : (Value.agg zerosId).cells = zerosId := rfl
  have hs : zerosId.size = 32 := by unfold zerosId; simp [u8s_length]
  rw [List.flatten_replicate_replicate, hz]
  apply Array.toList_inj.1
  apply List.ext_getElem
  · simp [madeCells, row8, u8s_length]
  · intro i h1 h2
    have : i % 32 < 32 := Nat.mod_lt _ (by decide)
    simp [madeCells, row8, u8s, hs, zerosId_at _ this]
/-- make([]api.Id, n) -/
theorem make_ids (w : World) (n : Nat) (h : n ≤ 1000000) : ∃ w', (Instr.makeSlice 24 (.int .i64 (n : Int)) (.int .i64 (n : Int))).run Tryd.prog w = .ok (.slice (some ⟨w.heap.size, 0, none⟩) n n) w' ∧ IdBlk w' w.heap.size (List.replicate n (List.replicate 32 0)) ∧ Below w.heap.size w w' ∧ w'.heap.size = w.heap.size + 1 := by
  obtain ⟨i0, hi, hz0, hz1, hz2⟩ := info_parts id_info3
  have hmk := run_make (P := Tryd.prog) (t := 24) (e := 31) w i0 (.agg zerosId) Tryd.underlying24 hi hz0 .i64 .i64 (n : Int) (n : Int) (by omega) (by omega) (by rw [hz2]; omega) (by omega)
  refine ⟨_, hmk, ⟨?_, ?_⟩, (Below.refl _ _).alloc (Nat.le_refl _) _, by simp⟩
  · have := heap_alloc_new w (.cells (madeCells (Value.agg zerosId).cells ((n : Int).toNat * i0.size)) 31)
    rw [hz1, Int.toNat_natCast, made_ids] at this
    rw [hz1, Int.toNat_natCast, made_ids]
    exact this
  · intro x hx
    rw [(List.mem_replicate.1 hx).2]
    simp
/-- Its slice reads as them. -/
theorem IdBlk.ids {w : World} {g : Nat} {l : List (List UInt8)} (h : IdBlk w g l) {S : Nat → Prop} (hS : S g) (n : Nat) (hn : l.length = n) (hm : n ≤ 1000000) : Ids w S (some ⟨g, 0, none⟩) n n l :=
  ⟨hn, h.2, Nat.le_refl _, by unfold maxLen; omega, fun _ => ⟨g, 0, rfl, hS, h.lt, fun i j hi hj => by
    have hil : i < l.length := by omega
    have hx : (l[i]?.getD []).length = 32 := by
      rw [List.getElem?_eq_getElem hil]
      exact h.2 _ (List.getElem_mem hil)
    have hf := flatten_at32 h.2 i j hil hj
    rw [cell_of_cells h.1, Nat.zero_add, row8, List.getElem?_toArray, u8s, List.getElem?_map, hf]
    generalize l[i]?.getD [] = x at *
    simp [show j < x.length by omega]⟩⟩
end Go.Proofs.YtebhlfmianohlaaDoor
