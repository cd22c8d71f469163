/-
  Rows of bytes that a call is handed, strings of bytes, equality of digests.
-/
import Derived.Test.YtckgibeiikhaaaaDoorShaOf
import Derived.Test.YtckgibeiikhaaaaDoorArrEq
import Derived.Lib.SlBytesConst
import Derived.Deep.DeepCutAuto
namespace Go.Proofs.YtckgibeiikhaaaaDoor
open Go.RowKit

theorem str_of (l : List UInt8) : strOfNums (l.map fun c => (c.toNat : Int)) = ⟨l.toArray⟩ := by
  unfold strOfNums
  congr 2
  rw [List.map_map]
  conv => rhs; rw [← List.map_id l]
  apply List.map_congr_left
  intro c _
  simp

/-- string(b) -/
theorem byt_string {w : World} {S : Nat → Prop} {A : Option Addr} {n c : Nat} {l : List UInt8} (h : Byt w S A n c l) : (convert 26 9 (.slice A n c)).run Tryd.prog w = .ok (.string ⟨l.toArray⟩) w := by
  have hl := h.len
  by_cases h0 : 0 < n
  · obtain ⟨b, off, rfl, _, _, hc⟩ := h.row h0
    have := run_convert_bytes_arg (P := Tryd.prog) w 26 5 Tryd.underlying26 Tryd.underlying5 b off n c (l.map fun c => (c.toNat : Int)) (by simp [hl]) (fun i hi => by
      rw [hc i hi]
      simp [List.getD, List.getElem?_map, List.getElem?_eq_getElem (show i < l.length by omega)]) 9 Tryd.underlying9
    rw [this, str_of]
  · have : n = 0 := by omega
    subst this
    have : l = [] := List.eq_nil_of_length_eq_zero hl
    subst this
    rcases A with _ | ad
    · rw [run_convert_bytes_nil w 26 5 Tryd.underlying26 Tryd.underlying5 0 c 9 Tryd.underlying9]
      rfl
    · rw [run_convert_bytes_string w 26 9 5 (some ad) 0 c Tryd.underlying26 Tryd.underlying5 Tryd.underlying9, run_bytesToString w ad 0 c [] (by simp [loadCells, loadCellsFrom])]
      rfl

theorem byt_new {w : World} (l : List UInt8) (t : TypeId) (f : Nat × Nat) (hl : l.length ≤ 1000000) : Byt (w.alloc (.cells (u8s l).toArray t f)) (fun _ => True) (some ⟨w.heap.size, 0, none⟩) l.length l.length l :=
  ⟨rfl, Nat.le_refl _, by unfold maxLen; omega, fun _ => ⟨w.heap.size, 0, rfl, trivial, by simp, fun i hi => by
    rw [cell_of_cells (heap_alloc_new w _), Nat.zero_add, List.getElem?_toArray]
    simp [u8s, List.getElem?_map, List.getElem?_eq_getElem hi]⟩⟩

/-- A variadic call's rows. -/
theorem rws_new {w : World} {S : Nat → Prop} (rs : List (Option Addr × Nat × Nat)) (ls : List (List UInt8)) (hl : ls.length = rs.length) (hm : rs.length ≤ 1000)
    (h : ∀ (i : Nat) (r : Option Addr × Nat × Nat), rs[i]? = some r → Byt w S r.1 r.2.1 r.2.2 (ls[i]?.getD [])) : Rws (w.alloc (.cells (rs.map fun r => Value.slice r.1 r.2.1 r.2.2).toArray 26)) (fun _ => True) (some ⟨w.heap.size, 0, none⟩) rs.length rs.length ls := by
  refine ⟨hl, Nat.le_refl _, by unfold maxLen; omega, fun _ => ⟨w.heap.size, 0, rfl, trivial, by simp, fun i hi => ?_⟩⟩
  refine ⟨rs[i].1, rs[i].2.1, rs[i].2.2, ?_, ((h i rs[i] (List.getElem?_eq_getElem hi)).mono fun _ _ _ => trivial).below ((Below.refl _ _).alloc (Nat.le_refl _) _)⟩
  rw [cell_of_cells (heap_alloc_new w _)]
  simp [List.getElem?_eq_getElem hi]
theorem rws_one {w : World} {S : Nat → Prop} {A : Option Addr} {n c : Nat} {l : List UInt8} (h : Byt w S A n c l) :
    Rws (w.alloc (.cells #[.slice A n c] 26)) (fun _ => True) (some ⟨w.heap.size, 0, none⟩) 1 1 [l] :=
  rws_new [(A, n, c)] [l] rfl (by simp) fun i r hr => by
    match i, hr with
    | 0, hr => simp at hr; subst hr; exact h
theorem rws_two {w : World} {S : Nat → Prop} {A B : Option Addr} {n c k d : Nat} {l m : List UInt8} (h : Byt w S A n c l) (h2 : Byt w S B k d m) :
    Rws (w.alloc (.cells #[.slice A n c, .slice B k d] 26)) (fun _ => True) (some ⟨w.heap.size, 0, none⟩) 2 2 [l, m] :=
  rws_new [(A, n, c), (B, k, d)] [l, m] rfl (by simp) fun i r hr => by
    match i, hr with
    | 0, hr => simp at hr; subst hr; exact h
    | 1, hr => simp at hr; subst hr; exact h2

theorem id_eql (l m : List UInt8) (hl : l.length = 32) (hm : m.length = 32) (w : World) : (Op.equalIn 10000 27 (.agg (u8s l).toArray) (.agg (u8s m).toArray)).run Tryd.prog w = .ok (decide (l = m)) w := by
  obtain ⟨i0, hi, hz0, hz1, hz2⟩ := info_parts u8_info
  exact run_equalIn_bytes w Tryd.underlying27 Tryd.underlying5 hi (by kernel_rfl) 9998 l m hl hm
theorem byt_whole {w : World} {g : Nat} {l : List UInt8} {t : TypeId} {f : Nat × Nat} (h : w.heap[g]? = some (.cells (u8s l).toArray t f)) (hl : l.length ≤ 1000000) : Byt w (fun _ => True) (some ⟨g, 0, none⟩) l.length l.length l :=
  ⟨rfl, Nat.le_refl _, by unfold maxLen; omega, fun _ => ⟨g, 0, rfl, trivial, lt_of_cells h, fun i hi => by
    rw [cell_of_cells h, Nat.zero_add, List.getElem?_toArray]
    simp [u8s, List.getElem?_map, List.getElem?_eq_getElem hi]⟩⟩
theorem own_rws {w : World} {S : Nat → Prop} {B : Nat} {e : TypeId} {v : Value} {n : Nat} {rs : List (Option Addr × Nat × Nat)} {ls : List (List UInt8)} (h : w.ownsRow B e 1 v n (rs.map fun r => Value.slice r.1 r.2.1 r.2.2)) (hl : ls.length = rs.length)
    (hb : ∀ (i : Nat) (r : Option Addr × Nat × Nat), rs[i]? = some r → Byt w S r.1 r.2.1 r.2.2 (ls[i]?.getD [])) : ∃ A c, v = .slice A n c ∧ Rws w (fun _ => True) A n c ls := by
  have hn : ls.length = n := by have := h.1; rw [List.length_map] at this; omega
  rcases h.2 with ⟨rfl, rfl⟩ | ⟨g, cap, cur, rfl, _, hg, hnc, hm, _, _⟩
  · exact ⟨none, 0, rfl, hn, Nat.le_refl _, Nat.zero_le _, fun h => absurd h (by omega)⟩
  · refine ⟨_, cap, rfl, hn, hnc, hm, fun _ => ⟨g, 0, rfl, trivial, (Array.getElem?_eq_some_iff.1 hg).1, fun i hi => ?_⟩⟩
    have hir : i < rs.length := by omega
    have := h.cells (g := g) rfl i (.slice rs[i].1 rs[i].2.1 rs[i].2.2) (by simp [List.getElem?_map, List.getElem?_eq_getElem hir])
    rw [add_plain] at this
    exact ⟨_, _, _, this, (hb i rs[i] (List.getElem?_eq_getElem hir)).mono fun _ _ _ => trivial⟩
theorem sl_info : (Tryd.prog.info? 26).map (fun i => (i.zero, i.size, i.bytes)) = some (some (.slice none 0 0), 1, 24) := by kernel_rfl
theorem Rws.turned {w w' : World} {S T : Nat → Prop} {A : Option Addr} {n c : Nat} {ls : List (List UInt8)} (h : Rws w S A n c ls) (ht : Turned T w w') (hd : ∀ b, b < w.heap.size → S b → ¬ T b) : Rws w' S A n c ls :=
  ⟨h.len, h.cap, h.max, fun h0 => by
    obtain ⟨b, off, hA, hS, hlt, hc⟩ := h.row h0
    refine ⟨b, off, hA, hS, Nat.lt_of_lt_of_le hlt ht.size, fun i hi => ?_⟩
    obtain ⟨Ai, ni, ci, h1, h2⟩ := hc i hi
    exact ⟨Ai, ni, ci, (World.cell?_of_block (w := w) (a := ⟨b, off + i, none⟩) (ht.block b hlt (hd b hlt hS))).trans h1, h2.turned ht hd⟩⟩
/-- The rows one by one. -/
theorem Rws.rows {w : World} {S : Nat → Prop} {A : Option Addr} {n c : Nat} {ls : List (List UInt8)} (h : Rws w S A n c ls) : ∃ rs : List (Option Addr × Nat × Nat), rs.length = n ∧ (∀ (i : Nat) (r : Option Addr × Nat × Nat), rs[i]? = some r → Byt w S r.1 r.2.1 r.2.2 (ls[i]?.getD [])) ∧
    ∀ ad, A = some ad → ∀ j u, (rs.map fun r => Value.slice r.1 r.2.1 r.2.2)[j]? = some u → w.cell? (ad.add j) = some u := by
  by_cases h0 : 0 < n
  · obtain ⟨b, off, rfl, hS, hlt, hc⟩ := h.row h0
    have one : ∀ i, ∃ r : Option Addr × Nat × Nat, i < n → w.cell? ⟨b, off + i, none⟩ = some (.slice r.1 r.2.1 r.2.2) ∧ Byt w S r.1 r.2.1 r.2.2 (ls[i]?.getD []) := fun i => by
      by_cases hi : i < n
      · obtain ⟨Ai, ni, ci, h1, h2⟩ := hc i hi
        exact ⟨(Ai, ni, ci), fun _ => ⟨h1, h2⟩⟩
      · exact ⟨(none, 0, 0), fun h => absurd h hi⟩
    obtain ⟨f, hf⟩ := Classical.skolem.1 one
    refine ⟨(List.range n).map f, by simp, fun i r hr => ?_, fun ad had j u hj => ?_⟩
    · have hi : i < n := by have := (List.getElem?_eq_some_iff.1 hr).1; simpa using this
      simp [hi] at hr
      subst hr
      exact (hf i hi).2
    · have hi : j < n := by have := (List.getElem?_eq_some_iff.1 hj).1; simpa using this
      obtain rfl : ad = ⟨b, off, none⟩ := by injection had with h; exact h.symm
      rw [add_plain]
      simp [hi] at hj
      subst hj
      exact (hf j hi).1
  · obtain rfl : n = 0 := by omega
    exact ⟨[], rfl, fun i r hr => by simp at hr, fun ad _ j u hj => by simp at hj⟩

theorem run_append_zero {P : Program} (w : World) (t ty e : TypeId) (i : TypeInfo) (ht : P.underlying t = some (.slice e)) (hi : P.info? e = some i) (A : Option Addr) (n c k : Nat) (hn : n ≤ c) :
    (Builtin.append_ #[t, t] ty #[.slice A n c, .slice none 0 k]).run P w = .ok (.slice A n c) w := by
  rcases A with _ | a <;> simp [Builtin.append_, run_underlying ht, sizeOf, typeInfo, hi, Builtin.lenOf, Builtin.firstCells, hn, storeCells]
theorem wpList_append_zero {P : Program} {w : World} {ops : Array Oper} {rest : List Oper} {o : Oper} {a : Act} {Q : Exit → Act → World → Prop} (hgd : o.guard = none) (s x : Operand) (t : TypeId)
    (ho : o.op = .call { callee := .builtin .append, args := #[s, x], argTypes := #[t, t] })
    (e : TypeId) (i : TypeInfo) (ht : P.underlying t = some (.slice e)) (hi : P.info? e = some i) (A : Option Addr) (n c k : Nat) (hn : n ≤ c) (hs : a.eval s = .slice A n c) (hx : a.eval x = .slice none 0 k)
    (h : wpList P ops Q rest (a.put o.dst (.slice A n c)) w) : wpList P ops Q (o :: rest) a w :=
  wpList_plain hgd fun _ hK => by
    unfold Oper.wp execOp
    simp only [ho, resolve, invoke, builtin, Sem.run_bind, Sem.run_pure, Result.andThen_ok, List.map_toArray, List.map_cons, List.map_nil, hs, hx, run_append_zero w t o.type e i ht hi A n c k hn]
    exact hK _ _ h
end Go.Proofs.YtckgibeiikhaaaaDoor
