/-
  Cells, pure: changes, names with bytes in order, the records of them, how they are read again.
-/
import Derived.Test.YtmioifcbkhpdaaaGreatPkPl01
import Derived.Laws.Cover3
import Derived.Test.YtmioifcbkhpdaaaGreatRows
import Derived.Lib.SliceRun
namespace Go.Proofs.YtmioifcbkhpdaaaGreat
set_option maxHeartbeats 16000000
set_option maxRecDepth 100000
open Go.RowKit
theorem made_zero (c : Nat) : (madeCells #[Value.int .u8 0] (c * 1)).toList = u8s (List.replicate c 0) := by
 simp only [madeCells, u8s, Nat.mul_one];apply List.ext_getElem
 ·simp
 ·intro i h1 h2;simp [Nat.mod_one]
theorem make_bytes (w : World) (N : Nat) (h : N ≤ 1000000) : (Instr.makeSlice 54 (.int .i64 (N : Int)) (.int .i64 (N : Int))).run Tryz.prog w = .ok (.slice (some ⟨w.heap.size, 0, none⟩) N N) (w.alloc (.cells (u8s (List.replicate N 0)).toArray 5)) := by
 obtain ⟨i0, hi, hz0, hz1, hz2⟩ := info_parts u8_info;have hmk := run_make (P := Tryz.prog) (t := 54) (e := 5) w i0 (.int .u8 0) Tryz.underlying54 hi hz0 .i64 .i64 (N : Int) (N : Int) (by omega) (by omega) (by rw [hz2]; omega) (by omega);rw [hmk, hz1]
 have hm0 : madeCells (Value.int .u8 0).cells ((N : Int).toNat * 1) = (u8s (List.replicate N 0)).toArray := by
  apply Array.toList_inj.1;rw [Int.toNat_natCast];exact made_zero N
 rw [hm0];simp
theorem one_of {v : Value} (h : v.oneCell' = true) : ∀ u ∈ [v], u.oneCell' = true := by
 intro u hu;rw [List.mem_singleton.1 hu];exact h
structure Rws (w : World) (S : Nat → Prop) (A : Option Addr) (n c : Nat) (ls : List (List UInt8)) : Prop where
 len : ls.length = n
 cap : n ≤ c
 max : c ≤ maxLen
 row : 0 < n → ∃ b off, A = some ⟨b, off, none⟩ ∧ S b ∧ b < w.heap.size ∧ ∀ i, i < n → ∃ Ai ni ci, w.cell? ⟨b, off + i, none⟩ = some (.slice Ai ni ci) ∧ Byt w S Ai ni ci (ls[i]?.getD [])
section
variable {w w' : World} {S : Nat → Prop} {A : Option Addr} {n c : Nat} {ls : List (List UInt8)}
theorem Rws.below (h : Rws w S A n c ls) (hb : Below w.heap.size w w') : Rws w' S A n c ls :=
 ⟨h.len, h.cap, h.max, fun h0 => by
   obtain ⟨b, off, hA, hS, hlt, hc⟩ := h.row h0;refine ⟨b, off, hA, hS, Nat.lt_of_lt_of_le hlt hb.size, fun i hi => ?_⟩;obtain ⟨Ai, ni, ci, h1, h2⟩ := hc i hi;exact ⟨Ai, ni, ci, (hb.cell (p := ⟨_, _, none⟩) hlt).trans h1, h2.below hb⟩⟩
theorem Rws.mono {T : Nat → Prop} (h : Rws w S A n c ls) (hT : ∀ b, b < w.heap.size → S b → T b) : Rws w T A n c ls :=
 ⟨h.len, h.cap, h.max, fun h0 => by
   obtain ⟨b, off, hA, hS, hlt, hc⟩ := h.row h0;refine ⟨b, off, hA, hT b hlt hS, hlt, fun i hi => ?_⟩;obtain ⟨Ai, ni, ci, h1, h2⟩ := hc i hi;exact ⟨Ai, ni, ci, h1, h2.mono hT⟩⟩
end
theorem sl_info : (Tryz.prog.info? 54).map (fun i => (i.zero, i.size, i.bytes)) = some (some (.slice none 0 0), 1, 24) := by kernel_rfl
theorem Rws.turned {w w' : World} {S T : Nat → Prop} {A : Option Addr} {n c : Nat} {ls : List (List UInt8)} (h : Rws w S A n c ls) (ht : Turned T w w') (hd : ∀ b, b < w.heap.size → S b → ¬ T b) : Rws w' S A n c ls :=
 ⟨h.len, h.cap, h.max, fun h0 => by
   obtain ⟨b, off, hA, hS, hlt, hc⟩ := h.row h0;refine ⟨b, off, hA, hS, Nat.lt_of_lt_of_le hlt ht.size, fun i hi => ?_⟩;obtain ⟨Ai, ni, ci, h1, h2⟩ := hc i hi;exact ⟨Ai, ni, ci, (World.cell?_of_block (w := w) (a := ⟨b, off + i, none⟩) (ht.block b hlt (hd b hlt hS))).trans h1, h2.turned ht hd⟩⟩
theorem run_append_zero {P : Program} (w : World) (t ty e : TypeId) (i : TypeInfo) (ht : P.underlying t = some (.slice e)) (hi : P.info? e = some i) (A : Option Addr) (n c k : Nat) (hn : n ≤ c) :
    (Builtin.append_ #[t, t] ty #[.slice A n c, .slice none 0 k]).run P w = .ok (.slice A n c) w := by
 rcases A with _ | a <;> simp [Builtin.append_, run_underlying ht, sizeOf, typeInfo, hi, Builtin.lenOf, Builtin.firstCells, hn, storeCells]
theorem wpList_append_zero {P : Program} {w : World} {ops : Array Oper} {rest : List Oper} {o : Oper} {a : Act} {Q : Exit → Act → World → Prop} (hgd : o.guard = none) (s x : Operand) (t : TypeId)
    (ho : o.op = .call { callee := .builtin .append, args := #[s, x], argTypes := #[t, t] })
    (e : TypeId) (i : TypeInfo) (ht : P.underlying t = some (.slice e)) (hi : P.info? e = some i) (A : Option Addr) (n c k : Nat) (hn : n ≤ c) (hs : a.eval s = .slice A n c) (hx : a.eval x = .slice none 0 k)
    (h : wpList P ops Q rest (a.put o.dst (.slice A n c)) w) : wpList P ops Q (o :: rest) a w :=
 wpList_plain hgd fun _ hK => by
  unfold Oper.wp execOp;simp only [ho, resolve, invoke, builtin, Sem.run_bind, Sem.run_pure, Result.andThen_ok, List.map_toArray, List.map_cons, List.map_nil, hs, hx, run_append_zero w t o.type e i ht hi A n c k hn];exact hK _ _ h
structure Sto (q : Nat) (o : Obj) (W W' : World) : Prop where
 turned : Turned (· = q) W W'
 at_ : W'.heap[q]? = W.heap[q]? ∨ W'.heap[q]? = some o
section
variable {q : Nat} {o : Obj} {A B C : World}
theorem zO {w : World} {g : Nat} (cs : Array Value) : Turned (· = g) w (w.setRow g cs) :=
 ⟨rfl, rfl, rfl, by simp [World.setRow], fun k _ hk => by
   simp only [World.setRow, Array.getElem?_modify];rw [if_neg (fun e => hk e.symm)]⟩
end
theorem ym {P : Program} {R : Value → World → Prop} {E : Operand → Value} {o : Oper} {W : World} {t e : TypeId} {n : Nat} (ty : TypeId) (x : Operand) (ho : o.op = .load ty x) (g : Nat) (hx : E x = .pointer (some ⟨g, 0, none⟩)) (cells : Array Value) (f : Nat × Nat) (hg : W.heap[g]? = some (.cells cells t f))
    (hu : P.underlying ty = some (.array n e)) (hi : (P.info? ty).map (·.size) = some cells.size) (h : R (.agg cells) W) : Grow.runsTo P R ((execOp E o).run P W) := by
 unfold execOp;simp only [ho, hx, Instr.loadAt, Instr.sureAddr, Sem.run_bind, Sem.run_pure, Result.andThen_ok, run_loadVar_row W g t ty cells f _ hg hu rfl hi];exact h
theorem yN {w w' : World} {base : Nat} {e : TypeId} {size : Nat} {v : Value} {n : Nat} {xs : List Value} (h : w.ownsRow base e size v n xs) (hb : Below w.heap.size w w') : w'.ownsRow base e size v n xs :=
 h.kept (row := none) ⟨hb.os, hb.tape, hb.output, hb.size, fun k hk _ => hb.block k hk⟩ (by cases v.ownBlock <;> simp)
theorem own_base {w : World} {base base' : Nat} {e : TypeId} {size : Nat} {v : Value} {n : Nat} {xs : List Value} (h : w.ownsRow base e size v n xs) (hb : base' ≤ base) : w.ownsRow base' e size v n xs := by
 refine ⟨h.1, ?_⟩;rcases h.2 with hn | ⟨g, cap, cur, h1, h2, rest⟩
 ·exact .inl hn
 ·exact .inr ⟨g, cap, cur, h1, by omega, rest⟩
theorem zh {P : Program} {ops : Array Oper} {rest : List Oper} {o : Oper} {a : Act} {Q : Exit → Act → World → Prop} {w w' : World} (hgd : o.guard = none) (s x : Operand) (t : TypeId)
    (hop : o.op = .call { callee := .builtin .append, args := #[s, x], argTypes := #[t, t] }) {v u v' : Value} (hs : a.eval s = v) (hx : a.eval x = u)
    (hrun : (Builtin.append_ #[t, t] o.type #[v, u]).run P w = .ok v' w') (h : wpList P ops Q rest (a.put o.dst v') w') : wpList P ops Q (o :: rest) a w :=
 wpList_plain hgd fun _ hK => by
  unfold Oper.wp execOp;simp only [hop, resolve, invoke, builtin, Sem.run_bind, Sem.run_pure, Result.andThen_ok, List.map_toArray, List.map_cons, List.map_nil, hs, hx, hrun];exact hK _ _ h
theorem run_loadVar_at {P : Program} (w : World) (ad : Addr) (ty : TypeId) (cs : Array Value) (d : TypeDesc) (hc : ∀ j v, cs[j]? = some v → w.cell? (ad.add j) = some v)
    (hu : P.underlying ty = some d) (hd : (match d with | .struct _ | .array _ _ => true | _ => false) = true) (hi : (P.info? ty).map (·.size) = some cs.size) :
    (loadVar ty ad).run P w = .ok (.agg cs) w := by
 have hl : (loadCells ad cs.toList.length).run P w = .ok cs.toList.toArray w :=
  run_loadCells_list (P := P) w ad cs.toList (fun j v hv => hc j v (by simpa using hv))
 cases hq : P.info? ty with
 | none => simp [hq] at hi
 | some i =>
   have hs : i.size = cs.size := by simpa [hq] using hi
   have hagg : (isAgg ty).run P w = .ok true w := by
    unfold isAgg;rw [Sem.run_bind, run_underlying hu w]
    cases d <;> simp_all
   simp only [Array.length_toList, Array.toArray_toList] at hl;simp [loadVar, Sem.run_bind, hagg, sizeOf, typeInfo, hq, hs, hl]
theorem zM (w : World) (g k : Nat) (cs : Array Value) (h : k ≠ g) : (w.setRow g cs).heap[k]? = w.heap[k]? := by
 simp only [World.setRow, Array.getElem?_modify];rw [if_neg (fun e => h e.symm)]
theorem yR {P : Program} {ops : Array Oper} {rest : List Oper} {o : Oper} {a : Act} {w : World} {Q : Exit → Act → World → Prop} (hw : Region.wanted o (yielded ops a.tmps) = true) (ty : TypeId) (x : Operand) (ho : o.op = .load ty x)
    (g : Nat) (hx : a.eval x = .pointer (some ⟨g, 0, none⟩)) (t : TypeId) (cs : Array Value) (fr : Nat × Nat) (d : TypeDesc) (hg : w.heap[g]? = some (.cells cs t fr))
    (hu : P.underlying ty = some d) (hd : (match d with | .struct _ | .array _ _ => true | _ => false) = true) (hi : (P.info? ty).map (·.size) = some cs.size)
    (h : wpList P ops Q rest (a.put o.dst (.agg cs)) w) : wpList P ops Q (o :: rest) a w := by
 unfold wpList;rw [if_pos hw];exact .inl (wp_load_row ty x ho g hx t cs fr d hg hu hd hi h)
theorem wpList_load_at {P : Program} {ops : Array Oper} {rest : List Oper} {o : Oper} {a : Act} {w : World} {Q : Exit → Act → World → Prop} (hgd : o.guard = none) (ty : TypeId) (x : Operand) (ho : o.op = .load ty x) (ad : Addr) (hx : a.eval x = .pointer (some ad)) (cs : Array Value) (d : TypeDesc)
    (hc : ∀ (j : Nat) (v : Value), cs[j]? = some v → w.cell? (ad.add j) = some v) (hu : P.underlying ty = some d) (hd : (match d with | .struct _ | .array _ _ => true | _ => false) = true) (hi : (P.info? ty).map (·.size) = some cs.size)
    (h : wpList P ops Q rest (a.put o.dst (.agg cs)) w) : wpList P ops Q (o :: rest) a w :=
 wpList_plain hgd fun K hK => by
  unfold Oper.wp execOp;simp only [ho, hx, Instr.loadAt, Instr.sureAddr, Sem.run_bind, Sem.run_pure, Result.andThen_ok, run_loadVar_at w ad ty cs d hc hu hd hi];exact hK _ _ h
section
variable {P : Program} {ops : Array Oper} {i : Nat} {o : Oper}
theorem sqr {C : World → Prop} {Q' : Act → Prop} {r : List Nat} {a : Act} {v : Value} (h : wpSeg P ops C Q' r (a.put o.dst v)) (ho : ops.toList[i]? = some o := by rfl) (hw : Region.wanted o (yielded ops a.tmps) = true := by rfl)
    (hv : ∀ w, C w → (execOp a.eval o).run P w = .ok (.value v) w := by intro W hW; go_simp; with_reducible rfl) : wpSeg P ops C Q' (i :: r) a := zE v ho hw hv h
theorem sqpl {Q : Exit → Act → World → Prop} {id : Nat} {a : Act} {w : World} (C : World → Prop) (plan : List (List Nat × Nat)) (q : List Nat) (hC : C w.drew) (h : wpPlan P ops Q C plan q a w.drew) (hm : P.follows .mixedOrders = true := by kernel_rfl)
    (hB : (Region.noSelect ops && planB .any ops (Array.replicate ops.size false) plan q && (q.length + (plan.map fun x => x.1.length + 1).sum == ops.size)) = true := by kernel_rfl)
    (hQ : ∀ c a d v w, Q (.panic c) (Act.put a d v) w → Q (.panic c) a w := by exact fun _ _ d _ _ h => by cases d <;> exact h) : (Code.region id ops true).wp P Q a w := wp_region_plan C plan q hm hB hQ hC h
theorem yO {Q : Exit → Act → World → Prop} {K : Act → World → Prop} {a : Act} {w : World} (x y : Nat) (cells : Array Value) {ty : TypeId} {g : Nat} {old : Array Value} (hg : w.heap[g]? = some (.cells old ty (0, 0))) (hi : (P.info? ty).map (·.size) = some cells.size)
    (hold : old.size = cells.size) (h1 : cells.all (·.oneCell') = true) (h : K (a.put o.dst undef) (w.setRow g cells)) (ho : ops.toList[i]? = some o := by rfl) (hgd : o.guard = none := by rfl) (hop : o.op = .store ty (.tmp x) (.tmp y) := by rfl) (hx : a.eval (.tmp x) = .pointer (some ⟨g, 0, none⟩) := by rfl) (hy : a.eval (.tmp y) = .agg cells := by rfl) : wpOp P ops Q i K a w :=
 eff_store_row ho hgd ty (.tmp x) (.tmp y) hop g cells hx hy ty old hg hi hold h1 h
theorem yU {E : Operand → Value} {W : World} (x : Nat) {g : Nat} {cells : Array Value} {ty : TypeId} (hg : W.heap[g]? = some (.cells cells ty (0, 0))) {d : TypeDesc} (hu : P.underlying ty = some d) (hi : (P.info? ty).map (·.size) = some cells.size)
    (ho : o.op = .load ty (.tmp x) := by rfl) (hx : E (.tmp x) = .pointer (some ⟨g, 0, none⟩) := by rfl) (hd : (match d with | .struct _ | .array _ _ => true | _ => false) = true := by rfl) : (execOp E o).run P W = .ok (.value (.agg cells)) W := exec_load_st ty (.tmp x) ho g hx cells (0, 0) hg d hu hd hi
theorem yA {rest : List Oper} {a : Act} {w : World} {Q : Exit → Act → World → Prop} (x : Nat) {g : Nat} {cs : Array Value} {ty : TypeId} (hg : w.heap[g]? = some (.cells cs ty (0, 0))) {d : TypeDesc} (hu : P.underlying ty = some d) (hi : (P.info? ty).map (·.size) = some cs.size)
    (h : wpList P ops Q rest (a.put o.dst (.agg cs)) w) (hgd : o.guard = none := by rfl) (ho : o.op = .load ty (.tmp x) := by rfl) (hx : a.eval (.tmp x) = .pointer (some ⟨g, 0, none⟩) := by rfl) (hd : (match d with | .struct _ | .array _ _ => true | _ => false) = true := by rfl) : wpList P ops Q (o :: rest) a w :=
 wpList_load_row hgd ty (.tmp x) ho g hx ty cs (0, 0) d hg hu hd hi h
theorem zl {rest : List Oper} {a : Act} {w : World} {Q : Exit → Act → World → Prop} (x y : Nat) (cells : Array Value) {g : Nat} {ty : TypeId} {old : Array Value} (hg : w.heap[g]? = some (.cells old ty (0, 0))) (hi : (P.info? ty).map (·.size) = some cells.size)
    (hold : old.size = cells.size) (h1 : cells.all (·.oneCell') = true) (h : wpList P ops Q rest (a.put o.dst undef) (w.setRow g cells)) (hgd : o.guard = none := by rfl) (ho : o.op = .store ty (.tmp x) (.tmp y) := by rfl) (hx : a.eval (.tmp x) = .pointer (some ⟨g, 0, none⟩) := by rfl) (hy : a.eval (.tmp y) = .agg cells := by rfl) : wpList P ops Q (o :: rest) a w :=
 wpList_store_row hgd ty (.tmp x) (.tmp y) ho g cells hx hy ty old hg hi hold h1 h
theorem sqwa {rest : List Oper} {a : Act} {w : World} {Q : Exit → Act → World → Prop} (x : Nat) {ad : Addr} {cs : Array Value} (hc : ∀ (j : Nat) (v : Value), cs[j]? = some v → w.cell? (ad.add j) = some v) {ty : TypeId} {d : TypeDesc} (hu : P.underlying ty = some d) (hi : (P.info? ty).map (·.size) = some cs.size)
    (h : wpList P ops Q rest (a.put o.dst (.agg cs)) w) (hgd : o.guard = none := by rfl) (ho : o.op = .load ty (.tmp x) := by rfl) (hx : a.eval (.tmp x) = .pointer (some ad) := by rfl) (hd : (match d with | .struct _ | .array _ _ => true | _ => false) = true := by rfl) : wpList P ops Q (o :: rest) a w :=
 wpList_load_at hgd ty (.tmp x) ho ad hx cs d hc hu hd hi h
end
end Go.Proofs.YtmioifcbkhpdaaaGreat
set_option maxHeartbeats 16000000
set_option maxRecDepth 100000
namespace Go.Proofs.YtmioifcbkhpdaaaGreat
namespace Codec
def put (x : Nat) : List UInt8 := if h : x < 128 then [UInt8.ofNat x] else UInt8.ofNat (x % 128 + 128) :: put (x / 128)
termination_by x
decreasing_by omega
def rd : Nat → List UInt8 → Nat × Nat × Nat
 | _, [] => (0, 0, 10)
 | i, c :: t =>
   if (i = 9 ∧ 1 < c.toNat) ∨ (0 < i ∧ c.toNat = 0) then (0, 0, 11)
   else if c.toNat < 128 then (c.toNat, 1, 0)
   else if (rd (i + 1) t).2.2 = 0 then (c.toNat - 128 + 128 * (rd (i + 1) t).1, (rd (i + 1) t).2.1 + 1, 0) else (0, 0, (rd (i + 1) t).2.2)
def comb (i x : Nat) (r : Nat × Nat × Nat) : Nat × Nat × Nat := if r.2.2 = 0 then (x + 128 ^ i * r.1, i + r.2.1, 0) else (0, 0, r.2.2)
theorem put_small {x : Nat} (h : x < 128) : put x = [UInt8.ofNat x] := by rw [put]; simp [h]
theorem put_big {x : Nat} (h : 128 ≤ x) : put x = UInt8.ofNat (x % 128 + 128) :: put (x / 128) := by rw [put]; simp [show ¬ x < 128 by omega]
theorem put_length_pos (x : Nat) : 0 < (put x).length := by rw [put]; split <;> simp
theorem put_length_le : ∀ (k x : Nat), 1 ≤ k → x < 128 ^ k → (put x).length ≤ k
 | 0, x, hk, _ => by omega
 | 1, x, _, h => by rw [put_small (by simpa using h)]; simp
 | k + 2, x, _, h => by
   by_cases hx : x < 128
   ·rw [put_small hx]; simp
   ·rw [put_big (by omega)];(have hd : x / 128 < 128 ^ (k + 1) := by rw [Nat.div_lt_iff_lt_mul (by omega), ← Nat.pow_succ]; exact h);have := put_length_le (k + 1) (x / 128) (by omega) hd;simp; omega
theorem zX {x : Nat} (h : x < 18446744073709551616) : (put x).length ≤ 10 :=
 put_length_le 10 x (by omega) (Nat.lt_of_lt_of_le h (by decide))
theorem rd_le : ∀ (i : Nat) (l : List UInt8), (rd i l).2.1 ≤ l.length
 | _, [] => by simp [rd]
 | i, c :: t => by
   have := rd_le (i + 1) t;simp only [rd]
   split
   ·simp
   ·split
    ·simp
    ·split
     ·simp; omega
     ·simp
theorem rd_err : ∀ (i : Nat) (l : List UInt8), (rd i l).2.2 ≠ 0 → (rd i l).1 = 0 ∧ (rd i l).2.1 = 0
 | _, [], _ => by simp [rd]
 | i, c :: t, h => by
   simp only [rd] at h ⊢
   split
   ·simp
   ·split
    ·rename_i h1 h2
     rw [if_neg h1, if_pos h2] at h;simp at h
    ·rename_i h1 h2
     rw [if_neg h1, if_neg h2] at h
     split
     ·rename_i h3
      rw [if_pos h3] at h;simp at h
     ·simp
theorem rd_bound : ∀ (i : Nat) (l : List UInt8), i ≤ 9 → (rd i l).1 < 2 * 128 ^ (9 - i)
 | i, [], _ => by simp [rd]; exact Nat.pow_pos (by omega)
 | i, c :: t, hi => by
   have hp : 0 < 128 ^ (9 - i) := Nat.pow_pos (by omega);have hc := c.toNat_lt;simp only [rd]
   split
   ·simpa using hp
   ·rename_i h1
    by_cases h9 : i = 9
    ·subst h9;(have : c.toNat ≤ 1 := by simp at h1; omega);rw [if_pos (by omega)];simp; omega
    ·(have hq : 128 ^ (9 - i) = 128 * 128 ^ (9 - (i + 1)) := by rw [show 9 - i = (9 - (i + 1)) + 1 by omega, Nat.pow_succ]; omega);have hq1 : 0 < 128 ^ (9 - (i + 1)) := Nat.pow_pos (by omega)
     split
     ·simp; omega
     ·split
      ·have := rd_bound (i + 1) t (by omega);simp; omega
      ·simpa using hp
theorem put_rd : ∀ (i : Nat) (l : List UInt8), i ≤ 9 → (rd i l).2.2 = 0 → put (rd i l).1 = l.take (rd i l).2.1 ∧ (0 < i → 0 < (rd i l).1) ∧ 1 ≤ (rd i l).2.1 ∧ (rd i l).2.1 ≤ 10 - i
 | _, [], _, h => by simp [rd] at h
 | i, c :: t, hi, h => by
   have hc := c.toNat_lt;simp only [rd] at h ⊢
   by_cases h1 : (i = 9 ∧ 1 < c.toNat) ∨ (0 < i ∧ c.toNat = 0)
   ·rw [if_pos h1] at h; simp at h
   ·rw [if_neg h1] at h ⊢
    by_cases h2 : c.toNat < 128
    ·rw [if_pos h2];simp only [put_small h2, List.take_succ_cons, List.take_zero];refine ⟨by simp, fun _ => by omega, by omega, by omega⟩
    ·rw [if_neg h2] at h ⊢
     by_cases h3 : (rd (i + 1) t).2.2 = 0
     ·rw [if_pos h3];(have h9 : i ≠ 9 := by rintro rfl; omega);obtain ⟨a, b, c1, d⟩ := put_rd (i + 1) t (by omega) h3;have hb := b (by omega);refine ⟨?_, fun _ => by simp; omega, by simp, by simp; omega⟩;simp only
      rw [put_big (by omega), show (c.toNat - 128 + 128 * (rd (i + 1) t).1) / 128 = (rd (i + 1) t).1 by omega, a,
       show (c.toNat - 128 + 128 * (rd (i + 1) t).1) % 128 + 128 = c.toNat by omega]
      simp
     ·rw [if_neg h3] at h; exact absurd h h3
theorem comb_zero (r : Nat × Nat × Nat) (h : r.2.2 ≠ 0 → r.1 = 0 ∧ r.2.1 = 0) : comb 0 0 r = r := by
 unfold comb;obtain ⟨a, b, c⟩ := r;simp only at h ⊢
 split
 ·rename_i h0; subst h0; simp
 ·rename_i h0; obtain ⟨rfl, rfl⟩ := h h0; rfl
theorem comb_step {i x : Nat} {c : UInt8} {t : List UInt8} (h1 : ¬ ((i = 9 ∧ 1 < c.toNat) ∨ (0 < i ∧ c.toNat = 0))) (h2 : ¬ c.toNat < 128) :
    comb i x (rd i (c :: t)) = comb (i + 1) (x + (c.toNat - 128) * 128 ^ i) (rd (i + 1) t) := by
 simp only [rd, if_neg h1, if_neg h2];unfold comb
 by_cases h3 : (rd (i + 1) t).2.2 = 0
 ·rw [if_pos h3, if_pos rfl, if_pos h3];have : 128 ^ (i + 1) = 128 * 128 ^ i := by rw [Nat.pow_succ]; omega
  simp only [this, Prod.mk.injEq, and_true];refine ⟨?_, by omega⟩
  generalize 128 ^ i = p
  generalize (rd (i + 1) t).1 = v
  rw [Nat.mul_add, Nat.mul_comm p (c.toNat - 128), ← Nat.add_assoc, ← Nat.mul_assoc p, Nat.mul_comm p 128]
 ·rw [if_neg h3, if_neg h3, if_neg h3]
end Codec
end Go.Proofs.YtmioifcbkhpdaaaGreat
namespace Go.Proofs.YtmioifcbkhpdaaaGreat
set_option maxHeartbeats 16000000
set_option maxRecDepth 100000
open Go.RowKit Codec
theorem or_shift {X c i : Nat} (hX : X < 128 ^ i) (hc : X + c * 128 ^ i < 18446744073709551616) : bits .or .u64 (X : Int) (IntKind.u64.wrap ((c : Int) * 2 ^ (7 * i))) = ((X + c * 128 ^ i : Nat) : Int) := by
 have e : (128 : Nat) ^ i = 2 ^ (7 * i) := by rw [Nat.pow_mul]
 have hc' : c * 2 ^ (7 * i) < 18446744073709551616 := by rw [← e]; omega
 have hw : IntKind.u64.wrap ((c : Int) * 2 ^ (7 * i)) = ((c * 2 ^ (7 * i) : Nat) : Int) := by
  rw [show ((c : Int) * 2 ^ (7 * i)) = ((c * 2 ^ (7 * i) : Nat) : Int) by simp];exact IntWalk.u64_in _ ⟨by omega, by omega⟩
 rw [hw, bits_or_u64_nat _ _ (by omega) hc', e]
 congr 1
 rw [Nat.or_comm, Nat.mul_comm c, ← Nat.two_pow_add_eq_or_of_lt (by rw [← e]; exact hX)];omega
theorem drop_at {l : List UInt8} {k : Nat} (h : k < l.length) : ∃ c, l.drop k = c :: l.drop (k + 1) ∧ l[k]?.getD 0 = c :=
 ⟨l[k], List.drop_eq_getElem_cons h, by simp [List.getElem?_eq_getElem h]⟩
theorem n_bad {k X : Nat} {c : UInt8} {l t : List UInt8} (H : rd 0 l = comb k X (rd k (c :: t))) (h : (k = 9 ∧ 1 < c.toNat) ∨ (0 < k ∧ c.toNat = 0)) : rd 0 l = (0, 0, 11) := by
 rw [H]; simp [rd, h, comb]
theorem n_end {k X : Nat} {c : UInt8} {l t : List UInt8} (H : rd 0 l = comb k X (rd k (c :: t))) (h : ¬ ((k = 9 ∧ 1 < c.toNat) ∨ (0 < k ∧ c.toNat = 0))) (h2 : c.toNat < 128) : rd 0 l = (X + c.toNat * 128 ^ k, k + 1, 0) := by
 rw [H]; simp only [rd, if_neg h, if_pos h2, comb, if_true, Nat.mul_comm (128 ^ k)]
theorem n_small {k X c : Nat} (hX : X < 128 ^ k) (hk : k ≤ 9) (hc : c < 128) (h9 : k = 9 → c ≤ 1) : X + c * 128 ^ k < 18446744073709551616 := by
 by_cases h : k = 9
 ·subst h; have := h9 rfl; simp at hX ⊢; omega
 ·have h1 : c * 128 ^ k ≤ 127 * 128 ^ k := Nat.mul_le_mul_right _ (by omega);have h2 : 128 ^ (k + 1) ≤ 128 ^ 9 := Nat.pow_le_pow_right (by omega) (by omega);rw [Nat.pow_succ] at h2;simp at h2;omega
theorem n_next {k X c : Nat} (hX : X < 128 ^ k) (hc : c < 128) : X + c * 128 ^ k < 128 ^ (k + 1) := by
 have h1 : c * 128 ^ k ≤ 127 * 128 ^ k := Nat.mul_le_mul_right _ (by omega);rw [Nat.pow_succ];omega
theorem or_step {X k d : Nat} (hX : X < 128 ^ k) (hk : k ≤ 9) (h9 : k = 9 → d % 128 ≤ 1) : bits .or .u64 (X : Int) (IntKind.u64.wrap ((d : Int) % 128 * 2 ^ (7 * k))) = ((X + (d % 128) * 128 ^ k : Nat) : Int) := by
 have := or_shift (c := d % 128) hX (n_small hX hk (by omega) h9);rw [← this];rfl
theorem ret3_of {k1 k2 k3 : IntKind} {a a' b b' c c' : Int} (h1 : a = a') (h2 : b = b') (h3 : c = c') : Ending.returned (.tuple #[.int k1 a, .int k2 b, .int k3 c]) = .returned (.tuple #[.int k1 a', .int k2 b', .int k3 c']) := by rw [h1, h2, h3]
theorem number_any (b off n c : Nat) (l : List UInt8) (w : World) (hl : Hid (l.length = n)) (hn : n ≤ maxLen)
    (hc : ∀ i, i < n → w.cell? ⟨b, off + i, none⟩ = some (.int .u8 ((l[i]?.getD 0).toNat : Int))) :
    Calls Tryz.prog 107 #[.slice (some ⟨b, off, none⟩) n c] w fun e w' => e = .returned (.tuple #[.int .u64 (rd 0 l).1, .int .i64 (rd 0 l).2.1, .int .i64 (rd 0 l).2.2]) ∧ w = w' := by
 unfold maxLen at hn
 go_enter Tryz.func107, Tryz.ntmps107
 go_wp2
 go_step3
 go_wp2
 go_step3
 go_wp2
 go_loop [5, 6, 7, 12] (fun x m e i => ∃ (k : Nat) (X : Nat), k ≤ n ∧ k ≤ 9 ∧ i = .int .i64 k ∧ m = .int .i64 0 ∧ e = .int .i64 10 ∧ x = .int .u64 X ∧ X < 128 ^ k ∧ Hid (rd 0 l = comb k X (rd k (l.drop k)))) (fun _ _ _ i => n - (intOf i).toNat)
 case atStart => exact ⟨0, 0, by omega, by omega, rfl, rfl, rfl, rfl, by simp, by rw [List.drop_zero, comb_zero _ (rd_err 0 l)]; exact rfl⟩
 case round =>
  obtain ⟨k, X, hk, hk9, rfl, rfl, rfl, rfl, hX, HD⟩ := hrel
  by_cases hlt : k < n
  ·obtain ⟨d, hd, hdk⟩ := drop_at (l := l) (k := k) (by rw [hl.out]; exact hlt);have hcell := hc k hlt;rw [hdk] at hcell;have HD' := HD.out;rw [hd] at HD';have H := Lib.hid HD';have hu := d.toNat_lt;have HX := Lib.hid hX;clear hc HD HD' hd hdk hl hX
   go_wp2
   ·(have h9 : (k : Int) = 9 := by assumption);(have h1 : 1 < (d.toNat : Int) := by assumption);rw [n_bad H.out (Or.inl ⟨by omega, by omega⟩)]
    go_ret3
    exact ⟨rfl, rfl⟩
   ·(have h9 : (k : Int) = 9 := by assumption);(have h0 : ((d.toNat : Int) == 0) = true := by assumption);have := WalkArith.int_eq h0;rw [n_bad H.out (Or.inr ⟨by omega, by omega⟩)]
    go_ret3
    exact ⟨rfl, rfl⟩
   ·(have h9 : (k : Int) = 9 := by assumption);(have h1 : (d.toNat : Int) ≤ 1 := by assumption);(have h0 : ((d.toNat : Int) == 0) = false := by assumption);have := WalkArith.int_ne h0;have E := n_end H.out (by omega) (by omega);have E2 := or_step (d := d.toNat) HX.out hk9 (by omega);rw [E]
    go_ret3
    exact ⟨ret3_of (by rw [E2, Nat.mod_eq_of_lt (by omega)]) (by simp; omega) rfl, rfl⟩
   ·(have h9 : ¬ (k : Int) = 9 := by assumption);(have hp : 0 < k := by assumption);(have h0 : ((d.toNat : Int) == 0) = true := by assumption);have := WalkArith.int_eq h0;rw [n_bad H.out (Or.inr ⟨by omega, by omega⟩)]
    go_ret3
    exact ⟨rfl, rfl⟩
   ·(have h9 : ¬ (k : Int) = 9 := by assumption);(have hp : 0 < k := by assumption);(have h0 : ((d.toNat : Int) == 0) = false := by assumption);(have hs : (d.toNat : Int) < 128 := by assumption);have := WalkArith.int_ne h0;have E := n_end H.out (by omega) (by omega);have E2 := or_step (d := d.toNat) HX.out hk9 (by omega);rw [E]
    go_ret3
    exact ⟨ret3_of (by rw [E2, Nat.mod_eq_of_lt (by omega)]) (by simp) rfl, rfl⟩
   ·(have h9 : ¬ (k : Int) = 9 := by assumption);(have hs : 128 ≤ (d.toNat : Int) := by assumption);have E := H.out;rw [comb_step (by omega) (by omega)] at E;have E2 := or_step (d := d.toNat) HX.out hk9 (by omega);have hX2 := n_next (c := d.toNat % 128) HX.out (by omega)
    go_round
    case rel => exact ⟨k + 1, _, by omega, by omega, by go_num, rfl, rfl, by rw [E2], hX2, by rw [show d.toNat % 128 = d.toNat - 128 by omega]; exact E⟩
    case measure => simp [intOf]; omega
   ·(have h9 : ¬ (k : Int) = 9 := by assumption);(have hp : ¬ 0 < k := by assumption);(have hs : (d.toNat : Int) < 128 := by assumption);have E := n_end H.out (by omega) (by omega);have E2 := or_step (d := d.toNat) HX.out hk9 (by omega);rw [E]
    go_ret3
    exact ⟨ret3_of (by rw [E2, Nat.mod_eq_of_lt (by omega)]) (by simp) rfl, rfl⟩
   ·(have h9 : ¬ (k : Int) = 9 := by assumption);(have hs : 128 ≤ (d.toNat : Int) := by assumption);have E := H.out;rw [comb_step (by omega) (by omega)] at E;have E2 := or_step (d := d.toNat) HX.out hk9 (by omega);have hX2 := n_next (c := d.toNat % 128) HX.out (by omega)
    go_round
    case rel => exact ⟨k + 1, _, by omega, by omega, by go_num, rfl, rfl, by rw [E2], hX2, by rw [show d.toNat % 128 = d.toNat - 128 by omega]; exact E⟩
    case measure => simp [intOf]; omega
  ·have E : rd 0 l = (0, 0, 10) := by
     rw [HD.out, List.drop_eq_nil_of_le (by rw [hl.out]; omega)]; rfl
   have HE := Lib.hid E;clear hc HD hl E
   go_wp2
   rw [HE.out]
   go_ret3
   exact ⟨rfl, rfl⟩
theorem number_none (A : Option Addr) (c : Nat) (w : World) :
    Calls Tryz.prog 107 #[.slice A 0 c] w fun e w' => e = .returned (.tuple #[.int .u64 0, .int .i64 0, .int .i64 10]) ∧ w = w' := by
 go_enter Tryz.func107, Tryz.ntmps107
 go_wp2
 go_step3
 go_wp2
 go_step3
 go_wp2
 go_loop [5, 6, 7, 12] (fun x m e i => i = .int .i64 0 ∧ m = .int .i64 0 ∧ e = .int .i64 10 ∧ x = .int .u64 0) (fun _ _ _ _ => 0)
 case atStart => exact ⟨rfl, rfl, rfl, rfl⟩
 case round =>
  obtain ⟨rfl, rfl, rfl, rfl⟩ := hrel
  go_wp2
  go_ret3
  exact ⟨rfl, rfl⟩
theorem number_byt {w : World} {S : Nat → Prop} {n c : Nat} {A : Option Addr} {l : List UInt8} (h : Byt w S A n c l) :
    Calls Tryz.prog 107 #[.slice A n c] w fun e w' => e = .returned (.tuple #[.int .u64 (rd 0 l).1, .int .i64 (rd 0 l).2.1, .int .i64 (rd 0 l).2.2]) ∧ w = w' := by
 by_cases h0 : n = 0
 ·subst h0;have hl : l = [] := List.eq_nil_of_length_eq_zero h.len;subst hl;exact number_none A c w
 ·obtain ⟨b, off, rfl, _, _, hc⟩ := h.row (by omega);exact number_any b off n c l w h.len (by have := h.cap; have := h.max; omega) hc
theorem clone_byt {w : World} {S : Nat → Prop} {n c : Nat} {A : Option Addr} {l : List UInt8} (h : Byt w S A n c l) (hn : n ≤ 140737488355328) :
    Calls Tryz.prog 48 #[.slice A n c] w fun e w' => ∃ A' c', e = .returned (.slice A' n c') ∧ Byt w' (w.heap.size ≤ ·) A' n c' l ∧ Below w.heap.size w w' ∧ (A' = none ↔ A = none) ∧ xO w' A' := by
 obtain ⟨i0, hi, hz0, hz1, hz2⟩ := info_parts u8_info;have hnil := fun (w : World) (a : Option Addr) (n c : Nat) => Lib.run_eql_slice_nil (P := Tryz.prog) w 54 5 a n c 0 0 Tryz.underlying54
 have hmax := h.max;have hcap := h.cap;rcases A with _ | ad
 ·have h0 : n = 0 := by
    rcases Nat.eq_zero_or_pos n with h0 | h0
    ·exact h0
    ·obtain ⟨_, _, hA, _⟩ := h.row h0
     cases hA
  subst h0;have hl : l = [] := List.eq_nil_of_length_eq_zero h.len;subst hl
  go_enter Tryz.func48, Tryz.ntmps48
  go_wp2
  go_ret
  exact ⟨none, 0, rfl, Byt.nil _ _ _ _ (Nat.zero_le _), Below.refl _ _, by simp, xO.none_ _⟩
 ·have hnews := xF (h.alloc (.cells #[] 5));have hlen := zn l;have hll := h.len;have hone := u8s_one l;clear h
  go_enter Tryz.func48, Tryz.ntmps48
  go_wp2_with (at_builtin; refine wpList_append_own _ rfl _ _ 54 rfl w.heap.size 5 i0 (.int .u8 0) 1 1 Tryz.underlying54 hi hz0 hz1 hz2 rfl (by decide) _ 0 [] rfl (World.ownsRow_made w #[] 0 (Nat.le_refl _) (Nat.zero_le _) rfl) ad n c (u8s l) rfl ?qc1 hnews hone ?qc4 ?qc5 ?qc6 ?_)
  case qc1 => omega
  case qc4 => unfold maxLen at *; omega
  case qc5 => omega
  case qc6 => simp
  intro v' w1 hown hgrow hnn
  go_wp2
  go_ret
  obtain ⟨A', c', rfl, hb⟩ := own_byt hown;refine ⟨A', c', rfl, hb, ((Below.refl _ w).alloc (Nat.le_refl _) _).grown hgrow (by simp) (by intro k hk; simp [Value.ownBlock] at hk; omega), ?_, own_free hown⟩
  constructor
  ·rintro rfl;rcases hown.2 with ⟨h1, h2⟩ | ⟨g, cap, cur, h1, _⟩
   ·exact absurd h1 hnn
   ·cases h1
  ·intro h1; cases h1
def Rd (w : World) (S : Nat → Prop) (p : Nat) (l : List UInt8) (e : Int) : Prop := S p ∧ ∃ A n c, w.heap[p]? = some (.cells #[.slice A n c, .int .i64 e] 172 (0, 0)) ∧ Byt w S A n c l
section
variable {w w' : World} {S : Nat → Prop} {p : Nat} {l : List UInt8} {e : Int}
theorem xH {A : Option Addr} {n c : Nat} {t : TypeId} {f : Nat × Nat} (h : w.heap[p]? = some (.cells #[.slice A n c, .int .i64 e] t f)) : ∀ o x, w.cell? ⟨p, o, none⟩ ≠ some (.int .u8 x) := by
 intro o x;rw [zA h];rcases o with _ | _ | o <;> simp
theorem Rd.lt (h : Rd w S p l e) : p < w.heap.size := by
 obtain ⟨_, A, n, c, hh, _⟩ := h;exact zB hh
theorem Rd.below (h : Rd w S p l e) (hb : Below w.heap.size w w') : Rd w' S p l e := by
 obtain ⟨hB, A, n, c, hh, hy⟩ := h;exact ⟨hB, A, n, c, (hb.block p (zB hh)).trans hh, hy.below hb⟩
end
theorem err_rd {w : World} {S : Nat → Prop} {p : Nat} {l : List UInt8} {e : Int} (h : Rd w S p l e) :
    Calls Tryz.prog 106 #[.pointer (some ⟨p, 0, none⟩)] w fun r w' => r = .returned (.int .i64 e) ∧ w = w' := by
 obtain ⟨hB, A, n, c, hh, hy⟩ := h;have h0 := zA hh 1;simp only [List.getElem?_toArray, List.getElem?_cons_succ, List.getElem?_cons_zero] at h0;clear hh hy
 go_enter Tryz.func106, Tryz.ntmps106
 go_wp2
 go_ret
 exact ⟨rfl, rfl⟩
theorem uint_bad {w : World} {S : Nat → Prop} {p : Nat} {l : List UInt8} {e : Int} (h : Rd w S p l e) (he : (e == 0) = false) :
    Calls Tryz.prog 80 #[.pointer (some ⟨p, 0, none⟩)] w fun r w' => r = .returned (.int .u64 0) ∧ w = w' := by
 have he2 : (e != 0) = true := by simpa using he
 go_enter Tryz.func80, Tryz.ntmps80
 go_wp2_with (go_at_call 106; refine (err_rd h).mono ?_; rintro r w' ⟨rfl, rfl⟩)
 go_ret
 exact ⟨rfl, rfl⟩
theorem uint_ok {w : World} {S : Nat → Prop} {p : Nat} {l : List UInt8} (h : Rd w S p l 0) :
    Calls Tryz.prog 80 #[.pointer (some ⟨p, 0, none⟩)] w fun r w' => r = .returned (.int .u64 (rd 0 l).1) ∧ Rd w' S p (l.drop (rd 0 l).2.1) (rd 0 l).2.2 ∧ w.grownBy w' (some p) := by
 have h' := h;obtain ⟨hB, A, n, c, hh, hy⟩ := h;have h0 := zA hh 0;have h1 := zA hh 1;simp only [List.getElem?_toArray, List.getElem?_cons_succ, List.getElem?_cons_zero] at h0 h1;have f0 := zC hh 0;have f1 := zC hh 1;have hk : (rd 0 l).2.1 ≤ n := by have := rd_le 0 l; have := hy.len; omega
 have hcut := run_cut (P := Tryz.prog) 54 5 Tryz.underlying54 u8_size A n c (rd 0 l).2.1 hk;have hnum := number_byt hy
 generalize hr : rd 0 l = r at *
 have HR := Lib.hid hr;clear hr;obtain ⟨x, k, er⟩ := r
 go_enter Tryz.func80, Tryz.ntmps80
 go_wp2_with fail
 refine (err_rd h').mono ?_;rintro _ _ ⟨rfl, rfl⟩
 go_wp2_with fail
 refine hnum.mono ?_;rintro _ _ ⟨rfl, rfl⟩
 go_wp2_with fail
 go_ret
 refine ⟨rfl, ⟨hB, cutA A c k, n - k, c - k, ?_, ?_⟩, gr_set (gr_set (gr_refl _ _) _ _) _ _⟩
 ·have e1 := zG hh 1 (.int .i64 er);have e2 := zG e1 0 (.slice (cutA A c k) (n - k) (c - k))
  simpa using e2
 ·have e1 := zG hh 1 (.int .i64 er);exact ((hy.cut hk).far (xH hh) _).far (xH (by simpa using e1)) _
def tkE (l : List UInt8) (e k : Int) : Int := if e ≠ 0 then e else if k < 0 then 1 else if (l.length : Int) < k then 10 else 0
theorem ctake_bad {w : World} {S : Nat → Prop} {p : Nat} {l : List UInt8} {e k : Int} (h : Rd w S p l e) (hk : tkE l e k ≠ 0) :
    Calls Tryz.prog 109 #[.pointer (some ⟨p, 0, none⟩), .int .i64 k] w fun r w' => r = .returned (.slice none 0 0) ∧ Rd w' S p l (tkE l e k) ∧ w.grownBy w' (some p) := by
 have h' := h;obtain ⟨hB, A, n, c, hh, hy⟩ := h;have h0 := zA hh 0;have h1 := zA hh 1;simp only [List.getElem?_toArray, List.getElem?_cons_succ, List.getElem?_cons_zero] at h0 h1;have f0 := zC hh 0;have f1 := zC hh 1;have hl := hy.len;unfold tkE at hk ⊢
 have fin : ∀ er : Int, Rd (w.setCell ⟨p, 1, none⟩ (.int .i64 er)) S p l er := fun er =>
  ⟨hB, A, n, c, by simpa using zG hh 1 (.int .i64 er), hy.far (xH hh) _⟩
 by_cases he : e = 0
 ·subst he
  by_cases hk0 : k < 0
  ·simp only [ne_eq, not_true, if_false, if_pos hk0] at hk ⊢;clear hh hy hl
   go_enter Tryz.func109, Tryz.ntmps109
   go_wp2_with (go_at_call 106; refine (err_rd h').mono ?_; rintro _ _ ⟨rfl, rfl⟩)
   go_ret
   exact ⟨rfl, fin 1, gr_set (gr_refl _ _) _ _⟩
  ·by_cases hk1 : (l.length : Int) < k
   ·simp only [ne_eq, not_true, if_false, if_neg hk0, if_pos hk1] at hk ⊢;(have hk2 : (n : Int) < k := by omega);clear hh hy hl hk1
    go_enter Tryz.func109, Tryz.ntmps109
    go_wp2_with (go_at_call 106; refine (err_rd h').mono ?_; rintro _ _ ⟨rfl, rfl⟩)
    go_ret
    exact ⟨rfl, fin 10, gr_set (gr_refl _ _) _ _⟩
   ·simp [hk0, hk1] at hk
 ·simp only [ne_eq, he, not_false_iff, if_true] at hk ⊢;have he2 : (e != 0) = true := by simpa using he
  clear hh hy hl he hk
  go_enter Tryz.func109, Tryz.ntmps109
  go_wp2_with (go_at_call 106; refine (err_rd h').mono ?_; rintro _ _ ⟨rfl, rfl⟩)
  go_ret
  exact ⟨rfl, h', gr_refl _ _⟩
theorem take_ok {w : World} {S : Nat → Prop} {p : Nat} {l : List UInt8} {m : Nat} (h : Rd w S p l 0) (hm : m ≤ l.length) :
    Calls Tryz.prog 109 #[.pointer (some ⟨p, 0, none⟩), .int .i64 m] w fun r w' => ∃ A, r = .returned (.slice A m m) ∧ Rd w' S p (l.drop m) 0 ∧ Byt w' S A m m (l.take m) ∧ w.grownBy w' (some p) := by
 have h' := h;obtain ⟨hB, A, n, c, hh, hy⟩ := h;have h0 := zA hh 0;have h1 := zA hh 1;simp only [List.getElem?_toArray, List.getElem?_cons_succ, List.getElem?_cons_zero] at h0 h1;have f0 := zC hh 0;have f1 := zC hh 1;have hl := hy.len;have hk : m ≤ n := by omega
 have hkc : m ≤ c := by have := hy.cap; omega
 have hk2 : ¬ (n : Int) < (m : Int) := by omega
 have hk3 : ¬ (m : Int) < 0 := by omega
 have hcut := run_cut (P := Tryz.prog) 54 5 Tryz.underlying54 u8_size A n c m hk;have hfront := run_front (P := Tryz.prog) 54 5 Tryz.underlying54 u8_size A n c m hkc
 have fin : Rd (w.setCell ⟨p, 0, none⟩ (.slice (cutA A c m) (n - m) (c - m))) S p (l.drop m) 0 ∧ Byt (w.setCell ⟨p, 0, none⟩ (.slice (cutA A c m) (n - m) (c - m))) S A m m (l.take m) :=
  ⟨⟨hB, _, _, _, by simpa using zG hh 0 (.slice (cutA A c m) (n - m) (c - m)), (hy.cut hk).far (xH hh) _⟩, (hy.take hk).far (xH hh) _⟩
 clear hh hy hl
 go_enter Tryz.func109, Tryz.ntmps109
 go_wp2_with (go_at_call 106; refine (err_rd h').mono ?_; rintro _ _ ⟨rfl, rfl⟩)
 go_ret
 exact ⟨A, rfl, fin.1, fin.2, gr_set (gr_refl _ _) _ _⟩
def fxB (l : List UInt8) (e k : Int) : List UInt8 := if tkE l e k = 0 then l.take k.toNat else []
def fxL (l : List UInt8) (e k : Int) : List UInt8 := if tkE l e k = 0 then l.drop k.toNat else l
theorem tkE_zero {l : List UInt8} {e k : Int} (h : tkE l e k = 0) : e = 0 ∧ 0 ≤ k ∧ k.toNat ≤ l.length := by
 unfold tkE at h
 by_cases he : e = 0
 ·subst he
  by_cases h1 : k < 0
  ·simp [h1] at h
  ·by_cases h2 : (l.length : Int) < k
   ·simp [h1, h2] at h
   ·exact ⟨rfl, by omega, by omega⟩
 ·simp [he] at h
def Got (w : World) (S : Nat → Prop) (p : Nat) (b l : List UInt8) (e : Int) (r : Ending) (w' : World) : Prop :=
 ∃ A n c, r = .returned (.slice A n c) ∧ Byt w' (w.heap.size ≤ ·) A n c b ∧ Rd w' S p l e ∧ w.grownBy w' (some p) ∧ xO w' A
theorem fixed_any {w : World} {S : Nat → Prop} {p : Nat} {l : List UInt8} {e k : Int} (h : Rd w S p l e) (hl : l.length ≤ 140737488355328) :
    Calls Tryz.prog 108 #[.pointer (some ⟨p, 0, none⟩), .int .i64 k] w (Got w S p (fxB l e k) (fxL l e k) (tkE l e k)) := by
 unfold fxB fxL
 by_cases hk : tkE l e k = 0
 ·obtain ⟨rfl, h0, h1⟩ := tkE_zero hk;obtain ⟨m, rfl⟩ := Int.eq_ofNat_of_zero_le h0;simp only [Int.toNat_natCast] at h1;rw [if_pos hk, if_pos hk, hk, Int.toNat_natCast];clear hk
  go_enter Tryz.func108, Tryz.ntmps108
  go_wp2_with fail
  refine (take_ok h h1).mono ?_;rintro _ w1 ⟨A, rfl, hR, hY, hb⟩
  go_wp2_with fail
  refine (clone_byt hY (by omega)).mono ?_;rintro _ w2 ⟨A2, c2, rfl, hY2, hb2, _, hF2⟩
  go_wp2_with fail
  go_ret
  exact ⟨A2, m, c2, rfl, hY2.mono (fun _ _ h => Nat.le_trans hb.size h), hR.below hb2, gr_below hb hb2, hF2⟩
 ·rw [if_neg hk, if_neg hk]
  go_enter Tryz.func108, Tryz.ntmps108
  go_wp2_with fail
  refine (ctake_bad h hk).mono ?_;rintro _ w1 ⟨rfl, hR, hb⟩
  go_wp2_with fail
  refine (clone_byt (Byt.nil w1 (fun _ => True) none 0 (Nat.zero_le _)) (by omega)).mono ?_;rintro _ w2 ⟨A2, c2, rfl, hY2, hb2, _, hF2⟩
  go_wp2_with fail
  go_ret
  exact ⟨A2, 0, c2, rfl, hY2.mono (fun _ _ h => Nat.le_trans hb.size h), hR.below hb2, gr_below hb hb2, hF2⟩
def endE (l : List UInt8) (e : Int) : Int := if e ≠ 0 then e else if l = [] then 0 else 12
theorem end_rd {w : World} {S : Nat → Prop} {p : Nat} {l : List UInt8} {e : Int} (h : Rd w S p l e) :
    Calls Tryz.prog 82 #[.pointer (some ⟨p, 0, none⟩)] w fun r w' => r = .returned (.int .i64 (endE l e)) ∧ w = w' := by
 have h' := h;obtain ⟨hB, A, n, c, hh, hy⟩ := h;have h0 := zA hh 0;simp only [List.getElem?_toArray, List.getElem?_cons_zero] at h0;have hl := hy.len;unfold endE
 by_cases he : e = 0
 ·subst he
  by_cases hn : l = []
  ·subst hn;simp at hl;subst hl;clear hh hy
   go_enter Tryz.func82, Tryz.ntmps82
   go_wp2_with (go_at_call 106; refine (err_rd h').mono ?_; rintro _ _ ⟨rfl, rfl⟩)
   go_ret
   exact ⟨rfl, rfl⟩
  ·have hp : 0 < n := by
     rcases Nat.eq_zero_or_pos n with hz | hz
     ·exact absurd (List.eq_nil_of_length_eq_zero (hl.trans hz)) hn
     ·exact hz
   simp only [ne_eq, not_true, if_false, if_neg hn];clear hh hy hl hn
   go_enter Tryz.func82, Tryz.ntmps82
   go_wp2_with (go_at_call 106; refine (err_rd h').mono ?_; rintro _ _ ⟨rfl, rfl⟩)
   go_ret
   exact ⟨rfl, rfl⟩
 ·have he2 : (e != 0) = true := by simpa using he
  simp only [ne_eq, he, not_false_iff, if_true];clear hh hy hl he
  go_enter Tryz.func82, Tryz.ntmps82
  go_wp2_with (go_at_call 106; refine (err_rd h').mono ?_; rintro _ _ ⟨rfl, rfl⟩)
  go_ret
  exact ⟨rfl, rfl⟩
def uiX (l : List UInt8) (e : Int) : Nat := if e = 0 then (rd 0 l).1 else 0
def uiL (l : List UInt8) (e : Int) : List UInt8 := if e = 0 then l.drop (rd 0 l).2.1 else l
def uiE (l : List UInt8) (e : Int) : Int := if e = 0 then (rd 0 l).2.2 else e
theorem uiX_lt (l : List UInt8) (e : Int) : uiX l e < 18446744073709551616 := by
 unfold uiX
 split
 ·have := rd_bound 0 l (by omega); simp at this; omega
 ·omega
theorem yK (l : List UInt8) (e : Int) : (uiL l e).length ≤ l.length := by unfold uiL; split <;> simp
theorem uint_any {w : World} {S : Nat → Prop} {p : Nat} {l : List UInt8} {e : Int} (h : Rd w S p l e) :
    Calls Tryz.prog 80 #[.pointer (some ⟨p, 0, none⟩)] w fun r w' => r = .returned (.int .u64 (uiX l e)) ∧ Rd w' S p (uiL l e) (uiE l e) ∧ w.grownBy w' (some p) := by
 unfold uiX uiL uiE
 by_cases he : e = 0
 ·subst he;simp only [if_true];exact uint_ok h
 ·simp only [he, if_false];exact (uint_bad h (by simpa using he)).mono (by rintro _ _ ⟨rfl, rfl⟩; exact ⟨rfl, h, gr_refl _ _⟩)
def byE (l : List UInt8) (e most : Int) : Int := if uiE l e ≠ 0 then uiE l e else if most < 0 ∨ most < (uiX l e : Int) then 13 else tkE (uiL l e) 0 (uiX l e)
def byL (l : List UInt8) (e most : Int) : List UInt8 := if uiE l e ≠ 0 then uiL l e else if most < 0 ∨ most < (uiX l e : Int) then uiL l e else fxL (uiL l e) 0 (uiX l e)
def byB (l : List UInt8) (e most : Int) : List UInt8 := if uiE l e ≠ 0 then [] else if most < 0 ∨ most < (uiX l e : Int) then [] else fxB (uiL l e) 0 (uiX l e)
theorem Rd.mono {w : World} {S T : Nat → Prop} {p : Nat} {l : List UInt8} {e : Int} (h : Rd w S p l e) (hS : ∀ b, b < w.heap.size → S b → T b) : Rd w T p l e := by
 have hlt := h.lt;obtain ⟨hB, A, n, c, hh, hy⟩ := h;exact ⟨hS _ hlt hB, A, n, c, hh, hy.mono hS⟩
theorem Rd.set_err {w : World} {S : Nat → Prop} {p : Nat} {l : List UInt8} {e : Int} (h : Rd w S p l e) (er : Int) : Rd (w.setCell ⟨p, 1, none⟩ (.int .i64 er)) S p l er := by
 obtain ⟨hB, A, n, c, hh, hy⟩ := h;exact ⟨hB, A, n, c, by simpa using zG hh 1 (.int .i64 er), hy.far (xH hh) _⟩
theorem Rd.free {w : World} {S : Nat → Prop} {p : Nat} {l : List UInt8} {e : Int} (h : Rd w S p l e) : w.frozen? ⟨p, 1, none⟩ = false := by
 obtain ⟨_, A, n, c, hh, _⟩ := h;exact zC hh 1
theorem Rd.cell1 {w : World} {S : Nat → Prop} {p : Nat} {l : List UInt8} {e : Int} (h : Rd w S p l e) : w.cell? ⟨p, 1, none⟩ = some (.int .i64 e) := by
 obtain ⟨_, A, n, c, hh, _⟩ := h;rw [zA hh 1]; rfl
theorem bytes_any {w : World} {S : Nat → Prop} {p : Nat} {l : List UInt8} {e most : Int} (h : Rd w S p l e) (hl : l.length ≤ 140737488355328) (hm : most ≤ 9223372036854775807) :
    Calls Tryz.prog 81 #[.pointer (some ⟨p, 0, none⟩), .int .i64 most] w (Got w S p (byB l e most) (byL l e most) (byE l e most)) := by
 have hx := uiX_lt l e;have hul := yK l e;have hc := uint_any h;unfold byB byL byE
 generalize uiX l e = x at *
 generalize uiL l e = l1 at *
 generalize uiE l e = e1 at *
 by_cases he : e1 = 0
 ·subst he;simp only [ne_eq, not_true, if_false]
  by_cases h0 : most < 0
  ·simp only [h0, true_or, if_true]
   go_enter Tryz.func81, Tryz.ntmps81
   go_wp2_with fail
   refine hc.mono ?_;rintro _ w1 ⟨rfl, hR, hb⟩;have hf := hR.free;have h1 := hR.cell1
   go_wp2_with fail
   refine (err_rd hR).mono ?_;rintro _ _ ⟨rfl, rfl⟩
   go_wp2_with fail
   go_ret
   exact ⟨none, 0, 0, rfl, Byt.nil _ _ _ _ (Nat.zero_le _), hR.set_err 13, gr_set hb _ _, xO.none_ _⟩
  ·by_cases hx2 : most < (x : Int)
   ·simp only [h0, hx2, false_or, if_true]
    go_enter Tryz.func81, Tryz.ntmps81
    go_wp2_with fail
    refine hc.mono ?_;rintro _ w1 ⟨rfl, hR, hb⟩;have hf := hR.free;have h1 := hR.cell1
    go_wp2_with fail
    refine (err_rd hR).mono ?_;rintro _ _ ⟨rfl, rfl⟩
    go_wp2_with fail
    go_ret
    exact ⟨none, 0, 0, rfl, Byt.nil _ _ _ _ (Nat.zero_le _), hR.set_err 13, gr_set hb _ _, xO.none_ _⟩
   ·simp only [h0, hx2, false_or, if_false]
    go_enter Tryz.func81, Tryz.ntmps81
    go_wp2_with fail
    refine hc.mono ?_;rintro _ w1 ⟨rfl, hR, hb⟩
    go_wp2_with fail
    refine (err_rd hR).mono ?_;rintro _ _ ⟨rfl, rfl⟩
    go_wp2_with fail
    refine (fixed_any hR (by omega)).mono ?_;rintro _ w2 ⟨A, n, c, rfl, hY, hR2, hb2, hF2⟩
    go_wp2_with fail
    go_ret
    exact ⟨A, n, c, rfl, hY.mono (fun _ _ h => Nat.le_trans hb.size h), hR2, gr_trans hb hb2, hF2⟩
 ·simp only [ne_eq, he, not_false_iff, if_true];have he2 : (e1 != 0) = true := by simpa using he
  clear he
  go_enter Tryz.func81, Tryz.ntmps81
  go_wp2_with fail
  refine hc.mono ?_;rintro _ w1 ⟨rfl, hR, hb⟩
  go_wp2_with fail
  refine (err_rd hR).mono ?_;rintro _ _ ⟨rfl, rfl⟩
  go_wp2_with fail
  go_ret
  exact ⟨none, 0, 0, rfl, Byt.nil _ _ _ _ (Nat.zero_le _), hR, hb, xO.none_ _⟩
def boE (l : List UInt8) (e : Int) : Int := if tkE l e 1 ≠ 0 then tkE l e 1 else if 1 < (l[0]?.getD 0).toNat then 11 else 0
def boX (l : List UInt8) (e : Int) : Bool := if tkE l e 1 ≠ 0 then false else (l[0]?.getD 0).toNat == 1
theorem bool_any {w : World} {S : Nat → Prop} {p : Nat} {l : List UInt8} {e : Int} (h : Rd w S p l e) :
    Calls Tryz.prog 83 #[.pointer (some ⟨p, 0, none⟩)] w fun r w' => r = .returned (.bool (boX l e)) ∧ Rd w' S p (fxL l e 1) (boE l e) ∧ w.grownBy w' (some p) := by
 have hnil := fun (w : World) (a : Option Addr) (n c : Nat) => Lib.run_eql_slice_nil (P := Tryz.prog) w 54 5 a n c 0 0 Tryz.underlying54
 unfold boX boE fxL
 by_cases hk : tkE l e 1 = 0
 ·obtain ⟨rfl, _, h1⟩ := tkE_zero hk;simp only [hk, ne_eq, not_true, if_false, if_true];have ht := take_ok (m := 1) h (by simpa using h1);clear hk
  generalize hd : (l[0]?.getD 0).toNat = d at *
  have HD := Lib.hid hd;clear hd
  by_cases hd1 : 1 < d
  ·simp only [hd1, if_true];(have hd2 : 1 < (d : Int) := by omega);(have hd3 : (d == 1) = false := by simp; omega);rw [hd3]
   go_enter Tryz.func83, Tryz.ntmps83
   go_wp2_with fail
   refine ht.mono ?_;rintro _ w1 ⟨A, rfl, hR, hY, hb⟩;obtain ⟨bb, off, rfl, _, _, hcell⟩ := hY.row (by omega);have hc0 := hcell 0 (by omega);rw [List.getElem?_take_of_lt (by omega), HD.out, Nat.add_zero] at hc0;have hf := hR.free;have h1 := hR.cell1;clear hcell hY
   go_wp2
   go_ret
   exact ⟨rfl, hR.set_err 11, gr_set hb _ _⟩
  ·simp only [hd1, if_false];have hd2 : (d : Int) ≤ 1 := by omega
   go_enter Tryz.func83, Tryz.ntmps83
   go_wp2_with fail
   refine ht.mono ?_;rintro _ w1 ⟨A, rfl, hR, hY, hb⟩;obtain ⟨bb, off, rfl, _, _, hcell⟩ := hY.row (by omega);have hc0 := hcell 0 (by omega);rw [List.getElem?_take_of_lt (by omega), HD.out, Nat.add_zero] at hc0;clear hcell hY
   go_wp2
   go_ret
   refine ⟨?_, hR, hb⟩;(have : ((d : Int) == 1) = (d == 1) := by rw [Bool.eq_iff_iff]; simp; omega);simp [this]
 ·simp only [hk, ne_eq, not_false_iff, if_true, if_false];have ht := ctake_bad h hk
  go_enter Tryz.func83, Tryz.ntmps83
  go_wp2_with fail
  refine ht.mono ?_;rintro _ w1 ⟨rfl, hR, hb⟩
  go_wp2
  go_ret
  exact ⟨rfl, hR, hb⟩
theorem newReader {w : World} {S : Nat → Prop} {n c : Nat} {A : Option Addr} {l : List UInt8} (h : Byt w S A n c l) (hn : n ≤ 140737488355328) :
    Calls Tryz.prog 79 #[.slice A n c] w fun r w' => ∃ p, r = .returned (.pointer (some ⟨p, 0, none⟩)) ∧ Rd w' (w.heap.size ≤ ·) p l 0 ∧ Below w.heap.size w w' := by
 go_enter Tryz.func79, Tryz.ntmps79
 go_wp2_with fail
 refine (clone_byt h hn).mono ?_;rintro _ w1 ⟨A2, c2, rfl, hY, hb, _⟩
 go_wp2
 go_ret
 exact ⟨w1.heap.size, rfl, ⟨hb.size, A2, n, c2, heap_alloc_new w1 _, hY.alloc _⟩, hb.alloc hb.size _⟩
structure Ch where
 k : List UInt8
 v : List UInt8
 g : Bool
abbrev Tb := List (List UInt8 × List UInt8)
def zq (c : Ch) : Bool := decide (1 ≤ c.k.length) && decide (c.k.length ≤ 64) && decide (c.v.length ≤ if c.g then 0 else 4096)
def Srt (t : Tb) : Prop := t.Pairwise fun a b => a.1 < b.1
def xE (t : Tb) (k : List UInt8) : Option (List UInt8) := (t.find? fun p => p.1 == k).map (·.2)
def doC (t : Tb) (c : Ch) : Tb := (t.filter fun p => decide (p.1 < c.k)) ++ (if c.g then [] else [(c.k, c.v)]) ++ (t.filter fun p => decide (c.k < p.1))
def doL (t : Tb) (l : List Ch) : Tb := l.foldl doC t
theorem bytes_less : ∀ a b : List UInt8, Op.bytesLess a b = decide (a < b)
 | _, [] => by
   rename_i a
   cases a <;> simp [Op.bytesLess]
 | [], b :: y => by simp [Op.bytesLess]
 | a :: x, b :: y => by
   rw [Op.bytesLess, bytes_less x y];simp only [List.cons_lt_cons_iff]
   by_cases h : a < b <;> by_cases h2 : a = b <;> simp [h, h2]
theorem kle_of_not {a b : List UInt8} (h : ¬ a < b) : b ≤ a := List.not_lt.1 h
theorem klt_irr (a : List UInt8) : ¬ a < a := List.lt_irrefl a
theorem klt_tr {a b c : List UInt8} (h : a < b) (h' : b < c) : a < c := List.lt_trans h h'
theorem klt_as {a b : List UInt8} (h : a < b) : ¬ b < a := List.lt_asymm h
theorem klt_tri {a b : List UInt8} (h : ¬ a < b) (h' : ¬ b < a) : a = b := List.le_antisymm (List.not_lt.1 h') (List.not_lt.1 h)
theorem klt_ne {a b : List UInt8} (h : a < b) : a ≠ b := fun e => klt_irr b (e ▸ h)
theorem Srt.nil : Srt [] := List.Pairwise.nil
theorem Srt.chg {t : Tb} (h : Srt t) (c : Ch) : Srt (doC t c) := by
 unfold Srt doC;refine List.pairwise_append.2 ⟨List.pairwise_append.2 ⟨h.filter _, by split <;> simp, ?_⟩, h.filter _, ?_⟩
 ·intro a ha b hb;have h1 : a.1 < c.k := by simpa using (List.mem_filter.1 ha).2
  split at hb
  ·simp at hb
  ·simp only [List.mem_singleton] at hb;rw [hb];exact h1
 ·intro a ha b hb;have h2 : c.k < b.1 := by simpa using (List.mem_filter.1 hb).2
  rcases List.mem_append.1 ha with ha | ha
  ·exact klt_tr (by simpa using (List.mem_filter.1 ha).2) h2
  ·split at ha
   ·simp at ha
   ·simp only [List.mem_singleton] at ha;rw [ha];exact h2
theorem Srt.chs {t : Tb} (h : Srt t) (l : List Ch) : Srt (doL t l) := by
 unfold doL
 induction l generalizing t with
 | nil => exact h
 | cons c l ih => exact ih (h.chg c)
theorem getT_nil (k : List UInt8) : xE [] k = none := rfl
theorem xJ (p : List UInt8 × List UInt8) (t : Tb) (k : List UInt8) : xE (p :: t) k = if p.1 = k then some p.2 else xE t k := by
 unfold xE
 by_cases h : p.1 = k
 ·simp [h]
 ·simp [h]
theorem getT_app (t u : Tb) (k : List UInt8) : xE (t ++ u) k = (xE t k).or (xE u k) := by
 unfold xE;rw [List.find?_append]
 cases t.find? (fun p => p.1 == k) <;> simp
theorem getT_filter_lt (t : Tb) (c k : List UInt8) (h : k < c) : xE (t.filter fun p => decide (p.1 < c)) k = xE t k := by
 induction t with
 | nil => rfl
 | cons p t ih =>
   by_cases hp : p.1 < c
   ·rw [List.filter_cons_of_pos (by simpa using hp), xJ, xJ, ih]
   ·rw [List.filter_cons_of_neg (by simpa using hp), xJ, ih, if_neg (fun e => hp (by rw [e]; exact h))]
theorem getT_filter_gt (t : Tb) (c k : List UInt8) (h : c < k) : xE (t.filter fun p => decide (c < p.1)) k = xE t k := by
 induction t with
 | nil => rfl
 | cons p t ih =>
   by_cases hp : c < p.1
   ·rw [List.filter_cons_of_pos (by simpa using hp), xJ, xJ, ih]
   ·rw [List.filter_cons_of_neg (by simpa using hp), xJ, ih, if_neg (fun e => hp (by rw [e]; exact h))]
theorem getT_none {t : Tb} {k : List UInt8} (h : ∀ p ∈ t, p.1 ≠ k) : xE t k = none := by
 unfold xE;rw [List.find?_eq_none.2 (fun p hp => by simpa using h p hp)];rfl
theorem getT_doC (t : Tb) (c : Ch) (k : List UInt8) : xE (doC t c) k = if k = c.k then (if c.g then none else some c.v) else xE t k := by
 unfold doC;rw [getT_app, getT_app];have hl : ¬ k < c.k → xE (t.filter fun p => decide (p.1 < c.k)) k = none := fun h => getT_none fun p hp e => h (by have := (List.mem_filter.1 hp).2; rw [← e]; simpa using this)
 have hg : ¬ c.k < k → xE (t.filter fun p => decide (c.k < p.1)) k = none := fun h => getT_none fun p hp e => h (by have := (List.mem_filter.1 hp).2; rw [← e]; simpa using this)
 by_cases he : k = c.k
 ·rw [if_pos he, hl (he ▸ klt_irr c.k), hg (he ▸ klt_irr c.k)]
  by_cases hG : c.g = true
  ·simp [hG, getT_nil]
  ·simp [hG, xJ, he]
 ·rw [if_neg he]
  have hm : xE (if c.g = true then [] else [(c.k, c.v)]) k = none := by
   split
   ·rfl
   ·rw [xJ, if_neg (fun e => he e.symm)]; rfl
  rw [hm]
  by_cases hlt : k < c.k
  ·rw [getT_filter_lt _ _ _ hlt, hg (klt_as hlt)];simp
  ·(have hgt : c.k < k := Classical.byContradiction fun h => he (klt_tri hlt h));rw [hl hlt, getT_filter_gt _ _ _ hgt];simp
theorem getT_mem {t : Tb} (h : Srt t) {p : List UInt8 × List UInt8} (hp : p ∈ t) : xE t p.1 = some p.2 := by
 induction t with
 | nil => simp at hp
 | cons q t ih =>
   rw [xJ];obtain ⟨h1, h2⟩ := List.pairwise_cons.1 h;rcases List.mem_cons.1 hp with rfl | hp
   ·rw [if_pos rfl]
   ·rw [if_neg (klt_ne (h1 p hp)), ih h2 hp]
theorem getT_some {t : Tb} {k v : List UInt8} (h : xE t k = some v) : (k, v) ∈ t := by
 unfold xE at h;rcases hf : t.find? (fun p => p.1 == k) with _ | p
 ·rw [hf] at h; simp at h
 ·rw [hf] at h;have h1 := List.mem_of_find?_eq_some hf;have h2 := List.find?_some hf;simp only [beq_iff_eq] at h2;simp only [Option.map_some, Option.some.injEq] at h;rw [← h, ← h2];exact h1
theorem getT_isSome {t : Tb} {k : List UInt8} : (xE t k).isSome = true ↔ k ∈ t.map (·.1) := by
 unfold xE;rw [Option.isSome_map, List.find?_isSome];simp
theorem Srt.keys {t : Tb} (h : Srt t) : (t.map (·.1)).Pairwise (· < ·) := List.pairwise_map.2 h
/-! ### how much they are -/
def wtT : Tb → Nat
 | [] => 0
 | p :: t => p.1.length + p.2.length + 20 + wtT t
def wtC : List Ch → Nat
 | [] => 0
 | c :: l => c.k.length + c.v.length + 21 + wtC l
theorem wtT_app (t u : Tb) : wtT (t ++ u) = wtT t + wtT u := by
 induction t with
 | nil => simp [wtT]
 | cons p t ih => simp only [List.cons_append, wtT, ih]; omega
theorem wtT_len (t : Tb) : 20 * t.length ≤ wtT t := by
 induction t with
 | nil => simp [wtT]
 | cons p t ih => simp only [List.length_cons, wtT]; omega
theorem wtC_len (l : List Ch) : 21 * l.length ≤ wtC l := by
 induction l with
 | nil => simp [wtC]
 | cons p t ih => simp only [List.length_cons, wtC]; omega
theorem wtT_filter (t : Tb) (c : List UInt8) : wtT (t.filter fun p => decide (p.1 < c)) + wtT (t.filter fun p => decide (c < p.1)) ≤ wtT t := by
 induction t with
 | nil => simp [wtT]
 | cons p t ih =>
   by_cases h1 : p.1 < c
   ·rw [List.filter_cons_of_pos (by simpa using h1), List.filter_cons_of_neg (by simpa using klt_as h1)];simp only [wtT];omega
   ·rw [List.filter_cons_of_neg (by simpa using h1)]
    by_cases h2 : c < p.1
    ·rw [List.filter_cons_of_pos (by simpa using h2)];simp only [wtT];omega
    ·rw [List.filter_cons_of_neg (by simpa using h2)];simp only [wtT];omega
theorem wtT_doC (t : Tb) (c : Ch) : wtT (doC t c) ≤ wtT t + (c.k.length + c.v.length + 20) := by
 have h := wtT_filter t c.k;unfold doC;rw [wtT_app, wtT_app]
 split
 ·simp only [wtT]; omega
 ·simp only [wtT]; omega
theorem wtT_doL : ∀ (l : List Ch) (t : Tb), wtT (doL t l) ≤ wtT t + wtC l
 | [], t => by simp [doL, wtC]
 | c :: l, t => by
   have h1 := wtT_doL l (doC t c);have h2 := wtT_doC t c;have e : doL t (c :: l) = doL (doC t c) l := rfl;rw [e];simp only [wtC];omega
theorem doL_snoc (t : Tb) (l : List Ch) (c : Ch) : doL t (l ++ [c]) = doC (doL t l) c := by simp [doL]
/-! ### records -/
def rowB (b : List UInt8) : List UInt8 := put b.length ++ b
def ofT (t : Tb) : List UInt8 := (t.map fun p => rowB p.1 ++ rowB p.2).flatten
def chgB (c : Ch) : List UInt8 := rowB c.k ++ ([if c.g then 1 else 0] ++ if c.g then [] else rowB c.v)
def ofC (l : List Ch) : List UInt8 := (l.map chgB).flatten
def allB (t : Tb) : List UInt8 := put 1 ++ put t.length ++ ofT t
def chsB (l : List Ch) : List UInt8 := put 2 ++ put l.length ++ ofC l
theorem ofT_snoc (t : Tb) (p : List UInt8 × List UInt8) : ofT (t ++ [p]) = ofT t ++ (rowB p.1 ++ rowB p.2) := by simp [ofT]
theorem ofC_snoc (l : List Ch) (c : Ch) : ofC (l ++ [c]) = ofC l ++ chgB c := by simp [ofC]
theorem rowB_len (b : List UInt8) (h : b.length < 18446744073709551616) : (rowB b).length ≤ b.length + 10 := by
 have := zX h;simp only [rowB, List.length_append];omega
theorem ofT_len : ∀ (t : Tb), wtT t < 18446744073709551616 → (ofT t).length ≤ wtT t
 | [], _ => by simp [ofT]
 | p :: t, h => by
   simp only [wtT] at h ⊢;have h1 := ofT_len t (by omega);have h2 := rowB_len p.1 (by omega);have h3 := rowB_len p.2 (by omega);(have e : ofT (p :: t) = (rowB p.1 ++ rowB p.2) ++ ofT t := by simp [ofT]);rw [e, List.length_append, List.length_append];omega
theorem ofC_len : ∀ (l : List Ch), wtC l < 18446744073709551616 → (ofC l).length ≤ wtC l
 | [], _ => by simp [ofC]
 | c :: t, h => by
   simp only [wtC] at h ⊢;have h1 := ofC_len t (by omega);have h2 := rowB_len c.k (by omega);have h3 := rowB_len c.v (by omega);(have e : ofC (c :: t) = chgB c ++ ofC t := by simp [ofC])
   have h4 : (chgB c).length ≤ (rowB c.k).length + 1 + (rowB c.v).length := by
    unfold chgB;simp only [List.length_append, List.length_singleton]
    split
    ·simp
    ·omega
   rw [e, List.length_append];omega
theorem allB_len (t : Tb) (h : wtT t < 1000000000) : (allB t).length ≤ wtT t + 20 := by
 have h1 := ofT_len t (by omega);have h2 := wtT_len t;have h3 := zX (x := 1) (by omega);have h4 := zX (x := t.length) (by omega);simp only [allB, List.length_append];omega
theorem chsB_len (l : List Ch) (h : wtC l < 1000000000) : (chsB l).length ≤ wtC l + 20 := by
 have h1 := ofC_len l (by omega);have h2 := wtC_len l;have h3 := zX (x := 2) (by omega);have h4 := zX (x := l.length) (by omega);simp only [chsB, List.length_append];omega
/-! ### read again -/
def raGo : Nat → Tb → List UInt8 → List UInt8 → Int → Option (Tb × List UInt8 × Int)
 | 0, t, _, l, e => some (t, l, e)
 | n + 1, t, last, l, e =>
   if byB l e 64 ≤ last then none
   else raGo n (t ++ [(byB l e 64, byB (byL l e 64) (byE l e 64) 4096)]) (byB l e 64) (byL (byL l e 64) (byE l e 64) 4096) (byE (byL l e 64) (byE l e 64) 4096)
def raEnd : Option (Tb × List UInt8 × Int) → Option Tb
 | none => none
 | some (t, l, e) => if endE l e = 0 then some t else none
def raM (b : List UInt8) : Option Tb := if uiX b 0 ≠ 1 then none else raEnd (raGo (uiX (uiL b 0) (uiE b 0)) [] [] (uiL (uiL b 0) (uiE b 0)) (uiE (uiL b 0) (uiE b 0)))
def rc1 (l : List UInt8) (e : Int) : Ch × List UInt8 × Int :=
 if boX (byL l e 64) (byE l e 64) = true then (⟨byB l e 64, [], true⟩, fxL (byL l e 64) (byE l e 64) 1, boE (byL l e 64) (byE l e 64))
 else (⟨byB l e 64, byB (fxL (byL l e 64) (byE l e 64) 1) (boE (byL l e 64) (byE l e 64)) 4096, false⟩, byL (fxL (byL l e 64) (byE l e 64) 1) (boE (byL l e 64) (byE l e 64)) 4096, byE (fxL (byL l e 64) (byE l e 64) 1) (boE (byL l e 64) (byE l e 64)) 4096)
theorem rc1_k (l : List UInt8) (e : Int) : (rc1 l e).1.k = byB l e 64 := by
 unfold rc1
 split <;> rfl
def rcGo : Nat → List Ch → List UInt8 → Int → Option (List Ch × List UInt8 × Int)
 | 0, a, l, e => some (a, l, e)
 | n + 1, a, l, e => if zq (rc1 l e).1 = false then none else rcGo n (a ++ [(rc1 l e).1]) (rc1 l e).2.1 (rc1 l e).2.2
def rcEnd : Option (List Ch × List UInt8 × Int) → Option (List Ch)
 | none => none
 | some (a, l, e) => if endE l e = 0 then some a else none
def rcM (b : List UInt8) : Option (List Ch) := if uiX b 0 ≠ 2 then none else rcEnd (rcGo (uiX (uiL b 0) (uiE b 0)) [] (uiL (uiL b 0) (uiE b 0)) (uiE (uiL b 0) (uiE b 0)))
end Go.Proofs.YtmioifcbkhpdaaaGreat
