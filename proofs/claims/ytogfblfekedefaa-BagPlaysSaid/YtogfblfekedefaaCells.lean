/-
  Blocks known whole; rows of bytes and of numbers of 32 bits as cells; strings of bytes. (What the texts on digest and mac had each by themselves.)
-/
import Derived.Test.YtogfblfekedefaaChecked
import Derived.Test.YtogfblfekedefaaWords
import Derived.Test.YtogfblfekedefaaMem
import Derived.BigQuiet
import Derived.Deep.MidRow
import Derived.DeepKeys
import Derived.OpenShut
import Derived.StillTailTactics
import Derived.Deep.DeepCutAuto
import Derived.Lib.SlBytesConst
namespace Go.Proofs.Ytogfblfekedefaa
open Go.RowKit
section
variable {w w' : World} {p : Nat}
theorem lt_of_cells {cs : Array Value} {t : TypeId} {f : Nat × Nat} (h : w.heap[p]? = some (.cells cs t f)) : p < w.heap.size := (Array.getElem?_eq_some_iff.1 h).1
theorem cell_of_cells {cs : Array Value} {t : TypeId} {f : Nat × Nat} (h : w.heap[p]? = some (.cells cs t f)) (i : Nat) : w.cell? ⟨p, i, none⟩ = cs[i]? := cell_of_row w p i cs t f h
theorem free_of_cells {cs : Array Value} {t : TypeId} (h : w.heap[p]? = some (.cells cs t (0, 0))) (i : Nat) : w.frozen? ⟨p, i, none⟩ = false := by simp [World.frozen?, h]
theorem set_of_cells {cs : Array Value} {t : TypeId} {f : Nat × Nat} (h : w.heap[p]? = some (.cells cs t f)) (i : Nat) (u : Value) : (w.setCell ⟨p, i, none⟩ u).heap[p]? = some (.cells (cs.setIfInBounds i u) t f) := by
  simp [World.setCell, Array.getElem?_modify, h]
theorem u32s_cells_set {l : List (BitVec 32)} {t : TypeId} (h : w.heap[p]? = some (.cells (u32s l).toArray t (0, 0))) (i : Nat) (x : BitVec 32) :
    (w.setCell ⟨p, i, none⟩ (.int .u32 (nv x))).heap[p]? = some (.cells (u32s (l.set i x)).toArray t (0, 0)) := by
  rw [set_of_cells h, ← u32s_set]
  simp
theorem u32s_cell {l : List (BitVec 32)} {t : TypeId} (h : w.heap[p]? = some (.cells (u32s l).toArray t (0, 0))) (i : Nat) (hi : i < l.length) :
    w.cell? ⟨p, i, none⟩ = some (.int .u32 (nv (l[i]?.getD 0))) := by
  rw [cell_of_cells h, List.getElem?_toArray, u32s_at l i hi]
end
theorem run_part_int {P : Program} {e : TypeId} {kd : IntKind} (he : P.underlying e = some (.int kd)) (cs : Array Value) (k : Nat) (v : Value) (hv : cs[k]? = some v) (w : World) :
    (part e cs k).run P w = .ok v w := by
  have hag : (isAgg e).run P w = .ok false w := by
    unfold isAgg
    rw [Sem.run_bind, run_underlying he w]
    simp
  simp [part, Sem.run_bind, hag, hv]
/-- An array value's element. -/
theorem run_index_arr {P : Program} {t e : TypeId} {n : Nat} {kd : IntKind} (ht : P.underlying t = some (.array n e)) (he : P.underlying e = some (.int kd)) (hz : ∀ w, (Go.sizeOf e).run P w = .ok 1 w) (cs : Array Value) (k : Nat) (hk : k < n) (v : Value) (hv : cs[k]? = some v) (w : World) :
    (Instr.index t (.agg cs) (.int .i64 (k : Int))).run P w = .ok v w := by
  have h1 : (0 : Int) ≤ (k : Int) ∧ (k : Int) < (n : Int) := by omega
  have ha : (asIntOf (.int .i64 (k : Int))).run P w = .ok (.i64, (k : Int)) w := rfl
  simp [Instr.index, Sem.run_bind, run_underlying ht, ha, hk, hz, run_part_int he cs k v hv]
theorem u8_size : ∀ w, (Go.sizeOf 5).run Try.prog w = .ok 1 w := fun w => by kernel_rfl
theorem u32_size : ∀ w, (Go.sizeOf 72).run Try.prog w = .ok 1 w := fun w => by kernel_rfl
theorem range_below {w w' : World} {p o : Nat} {cs : List Value} (h : w.rangeAt p o cs) (hp : p < w.heap.size) (hb : Below w.heap.size w w') : w'.rangeAt p o cs :=
  fun j v hj => (hb.cell (p := ⟨p, o + j, none⟩) hp).trans (h j v hj)
theorem setRow_at {w : World} {g : Nat} {cs new : Array Value} {t : TypeId} (h : w.heap[g]? = some (.cells cs t (0, 0))) : (w.setRow g new).heap[g]? = some (.cells new t (0, 0)) := by
  simp [World.setRow, Array.getElem?_modify, h]
theorem below_setRow {a w : World} {B : Nat} (h : Below B a w) {g : Nat} (hg : B ≤ g) (cs : Array Value) : Below B a (w.setRow g cs) :=
  ⟨h.os, h.tape, h.output, by simpa [World.setRow] using h.size, fun i hi => by
    rw [← h.block i hi]
    simp only [World.setRow, Array.getElem?_modify]
    rw [if_neg (by omega)]⟩
theorem zeros16 : #[Value.int .u32 0, .int .u32 0, .int .u32 0, .int .u32 0, .int .u32 0, .int .u32 0, .int .u32 0, .int .u32 0, .int .u32 0, .int .u32 0, .int .u32 0, .int .u32 0, .int .u32 0, .int .u32 0, .int .u32 0, .int .u32 0] = (u32s (List.replicate 16 0)).toArray := by rfl
theorem mapD {α : Type} (f : BitVec 32 → α) (l : List (BitVec 32)) (i : Nat) (h : i < l.length) : (l.map f)[i]? = some (f (l[i]?.getD 0)) := by
  simp [List.getElem?_eq_getElem h]
theorem below_drewN {B : Nat} {a w : World} (h : Below B a w) (k : Nat) : Below B a (w.drewN k) := ⟨h.os, h.tape, h.output, h.size, h.block⟩
theorem below_drew {B : Nat} {a w : World} (h : Below B a w) : Below B a w.drew := ⟨h.os, h.tape, h.output, h.size, h.block⟩
theorem u8s_set (l : List UInt8) (i : Nat) (x : UInt8) : (u8s l).set i (.int .u8 (x.toNat : Int)) = u8s (l.set i x) := by simp [u8s, List.map_set]
theorem u8s_cells_set {w : World} {p : Nat} {l : List UInt8} {t : TypeId} (h : w.heap[p]? = some (.cells (u8s l).toArray t (0, 0))) (i : Nat) (x : UInt8) :
    (w.setCell ⟨p, i, none⟩ (.int .u8 (x.toNat : Int))).heap[p]? = some (.cells (u8s (l.set i x)).toArray t (0, 0)) := by
  rw [set_of_cells h, ← u8s_set]
  simp
theorem u8s_cell {w : World} {p : Nat} {l : List UInt8} {t : TypeId} (h : w.heap[p]? = some (.cells (u8s l).toArray t (0, 0))) (i : Nat) (hi : i < l.length) :
    w.cell? ⟨p, i, none⟩ = some (.int .u8 ((l[i]?.getD 0).toNat : Int)) := by
  rw [cell_of_cells h, List.getElem?_toArray]
  simp [u8s, List.getElem?_map, List.getElem?_eq_getElem hi]
theorem told_byte (x : BitVec 32) (e : Nat) : (nv x / 2 ^ e) % 256 = (((UInt8.ofNat (x.toNat / 2 ^ e)).toNat : Nat) : Int) := by
  unfold nv
  have h : ((x.toNat : Int) / 2 ^ e) = ((x.toNat / 2 ^ e : Nat) : Int) := by simp
  rw [h]
  simp
theorem str_of (l : List UInt8) : strOfNums (l.map fun c => (c.toNat : Int)) = ⟨l.toArray⟩ := by
  unfold strOfNums
  congr 2
  rw [List.map_map]
  conv => rhs; rw [← List.map_id l]
  apply List.map_congr_left
  intro c _
  simp
/-- string(b) -/
theorem byt_string {w : World} {S : Nat → Prop} {A : Option Addr} {n c : Nat} {l : List UInt8} (h : Byt w S A n c l) : (convert 29 9 (.slice A n c)).run Try.prog w = .ok (.string ⟨l.toArray⟩) w := by
  have hl := h.len
  by_cases h0 : 0 < n
  · obtain ⟨b, off, rfl, _, _, hc⟩ := h.row h0
    have := run_convert_bytes_arg (P := Try.prog) w 29 5 Try.underlying29 Try.underlying5 b off n c (l.map fun c => (c.toNat : Int)) (by simp [hl]) (fun i hi => by
      rw [hc i hi]
      simp [List.getD, List.getElem?_map, List.getElem?_eq_getElem (show i < l.length by omega)]) 9 Try.underlying9
    rw [this, str_of]
  · have : n = 0 := by omega
    subst this
    have : l = [] := List.eq_nil_of_length_eq_zero hl
    subst this
    rcases A with _ | ad
    · rw [run_convert_bytes_nil w 29 5 Try.underlying29 Try.underlying5 0 c 9 Try.underlying9]
      rfl
    · rw [run_convert_bytes_string w 29 9 5 (some ad) 0 c Try.underlying29 Try.underlying5 Try.underlying9, run_bytesToString w ad 0 c [] (by simp [loadCells, loadCellsFrom])]
      rfl
theorem byt_new {w : World} (l : List UInt8) (t : TypeId) (f : Nat × Nat) (hl : l.length ≤ 1000000) : Byt (w.alloc (.cells (u8s l).toArray t f)) (fun _ => True) (some ⟨w.heap.size, 0, none⟩) l.length l.length l :=
  ⟨rfl, Nat.le_refl _, by unfold maxLen; omega, fun _ => ⟨w.heap.size, 0, rfl, trivial, by simp, fun i hi => by
    rw [cell_of_cells (heap_alloc_new w _), Nat.zero_add, List.getElem?_toArray]
    simp [u8s, List.getElem?_map, List.getElem?_eq_getElem hi]⟩⟩
theorem byt_whole {w : World} {g : Nat} {l : List UInt8} {t : TypeId} {f : Nat × Nat} (h : w.heap[g]? = some (.cells (u8s l).toArray t f)) (hl : l.length ≤ 1000000) : Byt w (fun _ => True) (some ⟨g, 0, none⟩) l.length l.length l :=
  ⟨rfl, Nat.le_refl _, by unfold maxLen; omega, fun _ => ⟨g, 0, rfl, trivial, lt_of_cells h, fun i hi => by
    rw [cell_of_cells h, Nat.zero_add, List.getElem?_toArray]
    simp [u8s, List.getElem?_map, List.getElem?_eq_getElem hi]⟩⟩
theorem xor8 (a b : UInt8) : bits .xor .u8 (a.toNat : Int) (b.toNat : Int) = ((a ^^^ b).toNat : Int) := by
  have h1 := a.toNat_lt
  have h2 := b.toNat_lt
  rw [u8_xor_nat _ _ (by omega) (by omega), UInt8.toNat_xor]
theorem or8 (a b : UInt8) : bits .or .u8 (a.toNat : Int) (b.toNat : Int) = ((a ||| b).toNat : Int) := by
  have h1 := a.toNat_lt
  have h2 := b.toNat_lt
  rw [u8_or_nat _ _ (by omega) (by omega), UInt8.toNat_or]
def row8 (l : List UInt8) : Array Value := (u8s l).toArray
theorem row8_size (l : List UInt8) : (row8 l).size = l.length := by simp [row8, u8s_length]
theorem row8_one (l : List UInt8) : (row8 l).all (·.oneCell') = true := all_oneCell_toArray (u8s_one l)
/-- s[:k] -/
theorem run_to {P : Program} (t e : TypeId) (ht : P.underlying t = some (.slice e)) (hz : ∀ w, (Go.sizeOf e).run P w = .ok 1 w) (A : Option Addr) (n c k : Nat) (hk : k ≤ c) (W : World) :
    (Instr.slice t (.slice A n c) none (some (.int .i64 (k : Int))) none).run P W = .ok (.slice A k c) W := by
  have ht' : P.underlying t = some (.slice (P.elem t)) := by simp [Program.elem, ht]
  have he : P.elem t = e := by simp [Program.elem, ht]
  rw [run_slice_h W t A n c ht' .i64 (k : Int) (by omega) (by omega), he, hz]
  have h0 : ∀ a : Addr, a.add 0 = a := fun a => by simp [Addr.add]
  cases A <;> simp [Result.andThen, sliced, h0]
theorem Byt.to {w : World} {S : Nat → Prop} {A : Option Addr} {n c k : Nat} {l : List UInt8} (h : Byt w S A n c l) (hk : k ≤ n) : Byt w S A k c (l.take k) :=
  ⟨by rw [List.length_take, h.len]; omega, by have := h.cap; omega, h.max, fun h0 => by
    obtain ⟨b, off, rfl, hB, hb, hc⟩ := h.row (by omega)
    refine ⟨b, off, rfl, hB, hb, fun i hi => ?_⟩
    rw [hc i (by omega), List.getElem?_take_of_lt hi]⟩
theorem u8_info : (Try.prog.info? 5).map (fun i => (i.zero, i.size, i.bytes)) = some (some (.int .u8 0), 1, 1) := by kernel_rfl
/-- Bytes as a string. -/
def st (l : List UInt8) : ByteArray := ⟨l.toArray⟩
theorem st_size (l : List UInt8) : (st l).size = l.length := by simp [st, ByteArray.size]
/-- T{..}, its value by a closed fact. -/
theorem wpList_built {P : Program} {ops : Array Oper} {rest : List Oper} {o : Oper} {a : Act} {w : World} {Q : Exit → Act → World → Prop} (hg : o.guard = none) (t : TypeId) (parts : Array (Nat × Operand)) (ho : o.op = .build t parts)
    (vs : List (Nat × Value)) (hv : (parts.map fun (i, x) => (i, a.eval x)).toList = vs) (Z : Array Value) (hb : P.built t vs = some Z) (h : wpList P ops Q rest (a.put o.dst (.agg Z)) w) : wpList P ops Q (o :: rest) a w := by
  refine wpList_build hg t parts ho (by rw [hv, hb]; rfl) ?_
  rw [hv, hb]
  exact h
end Go.Proofs.Ytogfblfekedefaa
