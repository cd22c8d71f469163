/-
  Rows of bytes: a slice of slices of bytes that reads as a list of rows.
-/
import Derived.Test.YtogfblfekedefaaCells
import Derived.Test.YtogfblfekedefaaMade
namespace Go.Proofs.Ytogfblfekedefaa
open Go.RowKit

theorem one_of {v : Value} (h : v.oneCell' = true) : ∀ u ∈ [v], u.oneCell' = true := by
  intro u hu
  rw [List.mem_singleton.1 hu]
  exact h
/-- A SLICE OF ROWS OF BYTES READS AS ls; all of it lies in blocks of S. -/
structure Rws (w : World) (S : Nat → Prop) (A : Option Addr) (n c : Nat) (ls : List (List UInt8)) : Prop where
  len : ls.length = n
  cap : n ≤ c
  max : c ≤ maxLen
  row : 0 < n → ∃ b off, A = some ⟨b, off, none⟩ ∧ S b ∧ b < w.heap.size ∧ ∀ i, i < n → ∃ Ai ni ci, w.cell? ⟨b, off + i, none⟩ = some (.slice Ai ni ci) ∧ Byt w S Ai ni ci (ls[i]?.getD [])
section
variable {w w' : World} {S : Nat → Prop} {A : Option Addr} {n c : Nat} {ls : List (List UInt8)}
theorem Rws.below (h : Rws w S A n c ls) (hb : Below w.heap.size w w') : Rws w' S A n c ls :=
  ⟨h.len, h.cap, h.max, fun h0 => by
    obtain ⟨b, off, hA, hS, hlt, hc⟩ := h.row h0
    refine ⟨b, off, hA, hS, Nat.lt_of_lt_of_le hlt hb.size, fun i hi => ?_⟩
    obtain ⟨Ai, ni, ci, h1, h2⟩ := hc i hi
    exact ⟨Ai, ni, ci, (hb.cell (p := ⟨_, _, none⟩) hlt).trans h1, h2.below hb⟩⟩
theorem Rws.mono {T : Nat → Prop} (h : Rws w S A n c ls) (hT : ∀ b, b < w.heap.size → S b → T b) : Rws w T A n c ls :=
  ⟨h.len, h.cap, h.max, fun h0 => by
    obtain ⟨b, off, hA, hS, hlt, hc⟩ := h.row h0
    refine ⟨b, off, hA, hT b hlt hS, hlt, fun i hi => ?_⟩
    obtain ⟨Ai, ni, ci, h1, h2⟩ := hc i hi
    exact ⟨Ai, ni, ci, h1, h2.mono hT⟩⟩
theorem Rws.drewN (h : Rws w S A n c ls) (k : Nat) : Rws (w.drewN k) S A n c ls :=
  ⟨h.len, h.cap, h.max, fun h0 => by
    obtain ⟨b, off, hA, hS, hlt, hc⟩ := h.row h0
    refine ⟨b, off, hA, hS, hlt, fun i hi => ?_⟩
    obtain ⟨Ai, ni, ci, h1, h2⟩ := hc i hi
    exact ⟨Ai, ni, ci, h1, h2.drewN k⟩⟩
end

theorem own_rws {w : World} {S : Nat → Prop} {B : Nat} {e : TypeId} {v : Value} {n : Nat} {rs : List (Option Addr × Nat × Nat)} {ls : List (List UInt8)} (h : w.ownsRow B e 1 v n (rs.map fun r => Value.slice r.1 r.2.1 r.2.2)) (hl : ls.length = rs.length)
    (hb : ∀ (i : Nat) (r : Option Addr × Nat × Nat), rs[i]? = some r → Byt w S r.1 r.2.1 r.2.2 (ls[i]?.getD [])) : ∃ A c, v = .slice A n c ∧ Rws w (fun _ => True) A n c ls := by
  have hn : ls.length = n := by have := h.1; rw [List.length_map] at this; omega
  rcases h.2 with ⟨rfl, rfl⟩ | ⟨g, cap, cur, rfl, _, hg, hnc, hm, _, _⟩
  · exact ⟨none, 0, rfl, hn, Nat.le_refl _, Nat.zero_le _, fun h => absurd h (by omega)⟩
  · refine ⟨_, cap, rfl, hn, hnc, hm, fun _ => ⟨g, 0, rfl, trivial, (Array.getElem?_eq_some_iff.1 hg).1, fun i hi => ?_⟩⟩
    have hir : i < rs.length := by omega
    have := h.cells (g := g) rfl i (.slice rs[i].1 rs[i].2.1 rs[i].2.2) (by simp [List.getElem?_map, List.getElem?_eq_getElem hir])
    rw [add_plain] at this
    exact ⟨_, _, _, this, (hb i rs[i] (List.getElem?_eq_getElem hir)).mono fun _ _ _ => trivial⟩
theorem sl_info : (Try.prog.info? 29).map (fun i => (i.zero, i.size, i.bytes)) = some (some (.slice none 0 0), 1, 24) := by kernel_rfl
theorem Rws.turned {w w' : World} {S T : Nat → Prop} {A : Option Addr} {n c : Nat} {ls : List (List UInt8)} (h : Rws w S A n c ls) (ht : Turned T w w') (hd : ∀ b, b < w.heap.size → S b → ¬ T b) : Rws w' S A n c ls :=
  ⟨h.len, h.cap, h.max, fun h0 => by
    obtain ⟨b, off, hA, hS, hlt, hc⟩ := h.row h0
    refine ⟨b, off, hA, hS, Nat.lt_of_lt_of_le hlt ht.size, fun i hi => ?_⟩
    obtain ⟨Ai, ni, ci, h1, h2⟩ := hc i hi
    exact ⟨Ai, ni, ci, (World.cell?_of_block (w := w) (a := ⟨b, off + i, none⟩) (ht.block b hlt (hd b hlt hS))).trans h1, h2.turned ht hd⟩⟩
/-- The rows one by one. -/
theorem Rws.rows {w : World} {S : Nat → Prop} {A : Option Addr} {n c : Nat} {ls : List (List UInt8)} (h : Rws w S A n c ls) : ∃ rs : List (Option Addr × Nat × Nat), rs.length = n ∧ (∀ (i : Nat) (r : Option Addr × Nat × Nat), rs[i]? = some r → Byt w S r.1 r.2.1 r.2.2 (ls[i]?.getD [])) ∧
    ∀ ad, A = some ad → ∀ j u, (rs.map fun r => Value.slice r.1 r.2.1 r.2.2)[j]? = some u → w.cell? (ad.add j) = some u := by
  by_cases h0 : 0 < n
  · obtain ⟨b, off, rfl, hS, hlt, hc⟩ := h.row h0
    have one : ∀ i, ∃ r : Option Addr × Nat × Nat, i < n → w.cell? ⟨b, off + i, none⟩ = some (.slice r.1 r.2.1 r.2.2) ∧ Byt w S r.1 r.2.1 r.2.2 (ls[i]?.getD []) := fun i => by
      by_cases hi : i < n
      · obtain ⟨Ai, ni, ci, h1, h2⟩ := hc i hi
        exact ⟨(Ai, ni, ci), fun _ => ⟨h1, h2⟩⟩
      · exact ⟨(none, 0, 0), fun h => absurd h hi⟩
    obtain ⟨f, hf⟩ := Classical.skolem.1 one
    refine ⟨(List.range n).map f, by simp, fun i r hr => ?_, fun ad had j u hj => ?_⟩
    · have hi : i < n := by have := (List.getElem?_eq_some_iff.1 hr).1; simpa using this
      simp [hi] at hr
      subst hr
      exact (hf i hi).2
    · have hi : j < n := by have := (List.getElem?_eq_some_iff.1 hj).1; simpa using this
      obtain rfl : ad = ⟨b, off, none⟩ := by injection had with h; exact h.symm
      rw [add_plain]
      simp [hi] at hj
      subst hj
      exact (hf j hi).1
  · obtain rfl : n = 0 := by omega
    exact ⟨[], rfl, fun i r hr => by simp at hr, fun ad _ j u hj => by simp at hj⟩

theorem run_append_zero {P : Program} (w : World) (t ty e : TypeId) (i : TypeInfo) (ht : P.underlying t = some (.slice e)) (hi : P.info? e = some i) (A : Option Addr) (n c k : Nat) (hn : n ≤ c) :
    (Builtin.append_ #[t, t] ty #[.slice A n c, .slice none 0 k]).run P w = .ok (.slice A n c) w := by
  rcases A with _ | a <;> simp [Builtin.append_, run_underlying ht, sizeOf, typeInfo, hi, Builtin.lenOf, Builtin.firstCells, hn, storeCells]
theorem wpList_append_zero {P : Program} {w : World} {ops : Array Oper} {rest : List Oper} {o : Oper} {a : Act} {Q : Exit → Act → World → Prop} (hgd : o.guard = none) (s x : Operand) (t : TypeId)
    (ho : o.op = .call { callee := .builtin .append, args := #[s, x], argTypes := #[t, t] })
    (e : TypeId) (i : TypeInfo) (ht : P.underlying t = some (.slice e)) (hi : P.info? e = some i) (A : Option Addr) (n c k : Nat) (hn : n ≤ c) (hs : a.eval s = .slice A n c) (hx : a.eval x = .slice none 0 k)
    (h : wpList P ops Q rest (a.put o.dst (.slice A n c)) w) : wpList P ops Q (o :: rest) a w :=
  wpList_plain hgd fun _ hK => by
    unfold Oper.wp execOp
    simp only [ho, resolve, invoke, builtin, Sem.run_bind, Sem.run_pure, Result.andThen_ok, List.map_toArray, List.map_cons, List.map_nil, hs, hx, run_append_zero w t o.type e i ht hi A n c k hn]
    exact hK _ _ h
/-- s[l:h] -/
theorem run_lh {P : Program} (t e : TypeId) (ht : P.underlying t = some (.slice e)) (hz : ∀ w, (Go.sizeOf e).run P w = .ok 1 w) (A : Option Addr) (n c l h : Nat) (li hi : Int) (el : li = (l : Int)) (eh : hi = (h : Int)) (h1 : l ≤ h) (h2 : h ≤ c) (W : World) :
    (Instr.slice t (.slice A n c) (some (.int .i64 li)) (some (.int .i64 hi)) none).run P W = .ok (.slice (cutA A c l) (h - l) (c - l)) W := by
  have ht' : P.underlying t = some (.slice (P.elem t)) := by simp [Program.elem, ht]
  have he : P.elem t = e := by simp [Program.elem, ht]
  subst el eh
  rw [run_slice_lh W t A n c ht' .i64 .i64 (l : Int) (h : Int) (by omega) (by omega) (by omega), he, hz]
  simp [Result.andThen, sliced, cutA]
theorem flat_take (ls : List (List UInt8)) (k : Nat) (h : k < ls.length) : (ls.take (k + 1)).flatten = (ls.take k).flatten ++ (ls[k]?.getD []) := by
  rw [List.take_succ_eq_append_getElem h, List.flatten_append]; simp [List.getElem?_eq_getElem h]
theorem flat_le : ∀ (ls : List (List UInt8)) (k : Nat), (ls.take k).flatten.length ≤ ls.flatten.length
  | [], k => by simp
  | l :: ls, 0 => by simp
  | l :: ls, k + 1 => by have := flat_le ls k; simp at this ⊢; omega
end Go.Proofs.Ytogfblfekedefaa
