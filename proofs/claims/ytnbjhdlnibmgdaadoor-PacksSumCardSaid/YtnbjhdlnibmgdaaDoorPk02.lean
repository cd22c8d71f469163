/-
  Numbers of 32 bits in walks: a cell '.int .u32 (nv x)' for x : BitVec 32. What the operations make of such. ('nv' stands ahead of simp's own laws on BitVec.toNat.)
  Blocks known whole; rows of bytes and of numbers of 32 bits as cells; strings of bytes. (What the texts on digest and mac had each by themselves.)
  Packs, the memory of the lists: rows of numbers, of which the last one grows.
  A range over a function that is a method's value (bound to its first arguments) and makes memory of its own: what it promises (IterB), and the law for the loop.
  A REGION THAT DRAWS ITS ORDER, WALKED IN ONE ORDER OF MY CHOICE ('wp_region_plan'). The plan: rows of operations that yield the same value in every world of a class ('pulled': they may be taken first), each row followed by one operation that is then the only one that may come up ('effect'); behind it the class may be made smaller; a last row. Whether the plan fits the region is one closed Bool ('planB').
  Steps of a plan that read or store a whole row of cells.
  A region that draws its order where, at one place, either of two operations may come up first: the plan is a tree.
  make([]byte, n), and a block of bytes known whole.
-/
import Derived.WalkKit
import Derived.IntWalk
import Derived.Laws.BitsAllLaws
import Derived.Test.YtnbjhdlnibmgdaaDoorChecked
import Derived.Test.YtnbjhdlnibmgdaaDoorPk01
import Derived.BigQuiet
import Derived.Deep.MidRow
import Derived.DeepKeys
import Derived.OpenShut
import Derived.StillTailTactics
import Derived.Deep.DeepCutAuto
import Derived.Lib.SlBytesConst
import Derived.Maps.AppendAt
import Derived.OrdersHeld
import Derived.RegionTactic
/-! Numbers of 32 bits in walks: a cell '.int .u32 (nv x)' for x : BitVec 32. What the operations make of such. ('nv' stands ahead of simp's own laws on BitVec.toNat.) -/
namespace Go.Proofs.YtnbjhdlnibmgdaaDoor
/-- The number of 32 bits as an integer. -/
def nv (x : BitVec 32) : Int := (x.toNat : Int)
def rotr (x : BitVec 32) (r : Nat) : BitVec 32 := x.rotateRight r
namespace W32
theorem xor_ (x y : BitVec 32) : bits .xor .u32 (nv x) (nv y) = nv (x ^^^ y) := by
  unfold nv
  have h1 := x.isLt
  have h2 := y.isLt
  rw [u32_xor_nat _ _ (by omega) (by omega), BitVec.toNat_xor]
theorem and_ (x y : BitVec 32) : bits .and .u32 (nv x) (nv y) = nv (x &&& y) := by
  unfold nv
  have h1 := x.isLt
  have h2 := y.isLt
  rw [u32_and_nat _ _ (by omega) (by omega), BitVec.toNat_and]
theorem or_ (x y : BitVec 32) : bits .or .u32 (nv x) (nv y) = nv (x ||| y) := by
  unfold nv
  have h1 := x.isLt
  have h2 := y.isLt
  rw [u32_or_nat _ _ (by omega) (by omega), BitVec.toNat_or]
theorem not_ (x : BitVec 32) : bits .xor .u32 4294967295 (nv x) = nv (~~~x) := by
  unfold nv
  have h1 := x.isLt
  have h2 := u32_xor_nat 4294967295 x.toNat (by omega) (by omega)
  rw [show ((4294967295 : Nat) : Int) = 4294967295 from rfl] at h2
  rw [h2]
  have := congrArg BitVec.toNat (BitVec.xor_comm (BitVec.allOnes 32) x)
  rw [BitVec.xor_allOnes, BitVec.toNat_xor] at this
  exact congrArg Nat.cast this
theorem notI (x : BitVec 32) : bits .xor .u32 (if IntKind.u32.signed = true then -1 else IntKind.u32.max) (nv x) = nv (~~~x) := not_ x
theorem add_ (x y : BitVec 32) : (nv x + nv y) % 4294967296 = nv (x + y) := by
  unfold nv
  rw [BitVec.toNat_add]
  have h : (2 : Nat) ^ 32 = 4294967296 := rfl
  rw [h]
  omega
theorem addw (x y : BitVec 32) : IntKind.u32.wrap (nv x + nv y) = nv (x + y) := by
  rw [IntKind.wrap_u32', add_]
theorem mod_ (x : BitVec 32) : nv x % 4294967296 = nv x := by
  unfold nv
  have := x.isLt
  omega
theorem nn (x : BitVec 32) : 0 ≤ nv x := by unfold nv; omega
theorem lt (x : BitVec 32) : nv x < 4294967296 := by
  unfold nv
  have := x.isLt
  omega
theorem shr_ (x : BitVec 32) (k : Nat) : nv x / 2 ^ k = nv (x >>> k) := by
  unfold nv
  rw [BitVec.toNat_ushiftRight, Nat.shiftRight_eq_div_pow]
  simp
theorem of_byte (c : UInt8) : ((c.toNat : Nat) : Int) = nv (BitVec.ofNat 32 c.toNat) := by
  unfold nv
  have := c.toNat_lt
  rw [BitVec.toNat_ofNat, Nat.mod_eq_of_lt (by omega)]
end W32

theorem ret_int {k : IntKind} {a b : Int} (h : a = b) : Ending.returned (.int k a) = .returned (.int k b) := by rw [h]

/-- Numbers of 32 bits as cells. -/
def u32s (l : List (BitVec 32)) : List Value := l.map fun x => .int .u32 (nv x)
theorem u32s_length (l : List (BitVec 32)) : (u32s l).length = l.length := by simp [u32s]
theorem u32s_one (l : List (BitVec 32)) : ∀ u ∈ u32s l, u.oneCell' = true := by
  intro u hu
  obtain ⟨x, _, rfl⟩ := List.mem_map.1 hu
  rfl
theorem u32s_at (l : List (BitVec 32)) (i : Nat) (h : i < l.length) : (u32s l)[i]? = some (.int .u32 (nv (l[i]?.getD 0))) := by
  simp [u32s, List.getElem?_map, List.getElem?_eq_getElem h]
theorem u32s_set (l : List (BitVec 32)) (i : Nat) (x : BitVec 32) : (u32s l).set i (.int .u32 (nv x)) = u32s (l.set i x) := by
  simp [u32s, List.map_set]
end Go.Proofs.YtnbjhdlnibmgdaaDoor

/-! Blocks known whole; rows of bytes and of numbers of 32 bits as cells; strings of bytes. (What the texts on digest and mac had each by themselves.) -/
namespace Go.Proofs.YtnbjhdlnibmgdaaDoor
open Go.RowKit
section
variable {w w' : World} {p : Nat}
theorem lt_of_cells {cs : Array Value} {t : TypeId} {f : Nat × Nat} (h : w.heap[p]? = some (.cells cs t f)) : p < w.heap.size := (Array.getElem?_eq_some_iff.1 h).1
theorem cell_of_cells {cs : Array Value} {t : TypeId} {f : Nat × Nat} (h : w.heap[p]? = some (.cells cs t f)) (i : Nat) : w.cell? ⟨p, i, none⟩ = cs[i]? := cell_of_row w p i cs t f h
theorem free_of_cells {cs : Array Value} {t : TypeId} (h : w.heap[p]? = some (.cells cs t (0, 0))) (i : Nat) : w.frozen? ⟨p, i, none⟩ = false := by simp [World.frozen?, h]
theorem set_of_cells {cs : Array Value} {t : TypeId} {f : Nat × Nat} (h : w.heap[p]? = some (.cells cs t f)) (i : Nat) (u : Value) : (w.setCell ⟨p, i, none⟩ u).heap[p]? = some (.cells (cs.setIfInBounds i u) t f) := by
  simp [World.setCell, Array.getElem?_modify, h]
theorem u32s_cells_set {l : List (BitVec 32)} {t : TypeId} (h : w.heap[p]? = some (.cells (u32s l).toArray t (0, 0))) (i : Nat) (x : BitVec 32) :
    (w.setCell ⟨p, i, none⟩ (.int .u32 (nv x))).heap[p]? = some (.cells (u32s (l.set i x)).toArray t (0, 0)) := by
  rw [set_of_cells h, ← u32s_set]
  simp
theorem u32s_cell {l : List (BitVec 32)} {t : TypeId} (h : w.heap[p]? = some (.cells (u32s l).toArray t (0, 0))) (i : Nat) (hi : i < l.length) :
    w.cell? ⟨p, i, none⟩ = some (.int .u32 (nv (l[i]?.getD 0))) := by
  rw [cell_of_cells h, List.getElem?_toArray, u32s_at l i hi]
end
theorem run_part_int {P : Program} {e : TypeId} {kd : IntKind} (he : P.underlying e = some (.int kd)) (cs : Array Value) (k : Nat) (v : Value) (hv : cs[k]? = some v) (w : World) :
    (part e cs k).run P w = .ok v w := by
  have hag : (isAgg e).run P w = .ok false w := by
    unfold isAgg
    rw [Sem.run_bind, run_underlying he w]
    simp
  simp [part, Sem.run_bind, hag, hv]
/-- An array value's element. -/
theorem run_index_arr {P : Program} {t e : TypeId} {n : Nat} {kd : IntKind} (ht : P.underlying t = some (.array n e)) (he : P.underlying e = some (.int kd)) (hz : ∀ w, (Go.sizeOf e).run P w = .ok 1 w) (cs : Array Value) (k : Nat) (hk : k < n) (v : Value) (hv : cs[k]? = some v) (w : World) :
    (Instr.index t (.agg cs) (.int .i64 (k : Int))).run P w = .ok v w := by
  have h1 : (0 : Int) ≤ (k : Int) ∧ (k : Int) < (n : Int) := by omega
  have ha : (asIntOf (.int .i64 (k : Int))).run P w = .ok (.i64, (k : Int)) w := rfl
  simp [Instr.index, Sem.run_bind, run_underlying ht, ha, hk, hz, run_part_int he cs k v hv]
theorem u8_size : ∀ w, (Go.sizeOf 5).run Tryd.prog w = .ok 1 w := fun w => by kernel_rfl
theorem u32_size : ∀ w, (Go.sizeOf 94).run Tryd.prog w = .ok 1 w := fun w => by kernel_rfl
theorem range_below {w w' : World} {p o : Nat} {cs : List Value} (h : w.rangeAt p o cs) (hp : p < w.heap.size) (hb : Below w.heap.size w w') : w'.rangeAt p o cs :=
  fun j v hj => (hb.cell (p := ⟨p, o + j, none⟩) hp).trans (h j v hj)
theorem setRow_at {w : World} {g : Nat} {cs new : Array Value} {t : TypeId} (h : w.heap[g]? = some (.cells cs t (0, 0))) : (w.setRow g new).heap[g]? = some (.cells new t (0, 0)) := by
  simp [World.setRow, Array.getElem?_modify, h]
theorem below_setRow {a w : World} {B : Nat} (h : Below B a w) {g : Nat} (hg : B ≤ g) (cs : Array Value) : Below B a (w.setRow g cs) :=
  ⟨h.os, h.tape, h.output, by simpa [World.setRow] using h.size, fun i hi => by
    rw [← h.block i hi]
    simp only [World.setRow, Array.getElem?_modify]
    rw [if_neg (by omega)]⟩
theorem zeros16 : #[Value.int .u32 0, .int .u32 0, .int .u32 0, .int .u32 0, .int .u32 0, .int .u32 0, .int .u32 0, .int .u32 0, .int .u32 0, .int .u32 0, .int .u32 0, .int .u32 0, .int .u32 0, .int .u32 0, .int .u32 0, .int .u32 0] = (u32s (List.replicate 16 0)).toArray := by rfl
theorem mapD {α : Type} (f : BitVec 32 → α) (l : List (BitVec 32)) (i : Nat) (h : i < l.length) : (l.map f)[i]? = some (f (l[i]?.getD 0)) := by
  simp [List.getElem?_eq_getElem h]
theorem below_drewN {B : Nat} {a w : World} (h : Below B a w) (k : Nat) : Below B a (w.drewN k) := ⟨h.os, h.tape, h.output, h.size, h.block⟩
theorem below_drew {B : Nat} {a w : World} (h : Below B a w) : Below B a w.drew := ⟨h.os, h.tape, h.output, h.size, h.block⟩
theorem u8s_set (l : List UInt8) (i : Nat) (x : UInt8) : (u8s l).set i (.int .u8 (x.toNat : Int)) = u8s (l.set i x) := by simp [u8s, List.map_set]
theorem u8s_cells_set {w : World} {p : Nat} {l : List UInt8} {t : TypeId} (h : w.heap[p]? = some (.cells (u8s l).toArray t (0, 0))) (i : Nat) (x : UInt8) :
    (w.setCell ⟨p, i, none⟩ (.int .u8 (x.toNat : Int))).heap[p]? = some (.cells (u8s (l.set i x)).toArray t (0, 0)) := by
  rw [set_of_cells h, ← u8s_set]
  simp
theorem u8s_cell {w : World} {p : Nat} {l : List UInt8} {t : TypeId} (h : w.heap[p]? = some (.cells (u8s l).toArray t (0, 0))) (i : Nat) (hi : i < l.length) :
    w.cell? ⟨p, i, none⟩ = some (.int .u8 ((l[i]?.getD 0).toNat : Int)) := by
  rw [cell_of_cells h, List.getElem?_toArray]
  simp [u8s, List.getElem?_map, List.getElem?_eq_getElem hi]
theorem told_byte (x : BitVec 32) (e : Nat) : (nv x / 2 ^ e) % 256 = (((UInt8.ofNat (x.toNat / 2 ^ e)).toNat : Nat) : Int) := by
  unfold nv
  have h : ((x.toNat : Int) / 2 ^ e) = ((x.toNat / 2 ^ e : Nat) : Int) := by simp
  rw [h]
  simp
theorem str_of (l : List UInt8) : strOfNums (l.map fun c => (c.toNat : Int)) = ⟨l.toArray⟩ := by
  unfold strOfNums
  congr 2
  rw [List.map_map]
  conv => rhs; rw [← List.map_id l]
  apply List.map_congr_left
  intro c _
  simp
/-- string(b) -/
theorem byt_string {w : World} {S : Nat → Prop} {A : Option Addr} {n c : Nat} {l : List UInt8} (h : Byt w S A n c l) : (convert 24 9 (.slice A n c)).run Tryd.prog w = .ok (.string ⟨l.toArray⟩) w := by
  have hl := h.len
  by_cases h0 : 0 < n
  · obtain ⟨b, off, rfl, _, _, hc⟩ := h.row h0
    have := run_convert_bytes_arg (P := Tryd.prog) w 24 5 Tryd.underlying24 Tryd.underlying5 b off n c (l.map fun c => (c.toNat : Int)) (by simp [hl]) (fun i hi => by
      rw [hc i hi]
      simp [List.getD, List.getElem?_map, List.getElem?_eq_getElem (show i < l.length by omega)]) 9 Tryd.underlying9
    rw [this, str_of]
  · have : n = 0 := by omega
    subst this
    have : l = [] := List.eq_nil_of_length_eq_zero hl
    subst this
    rcases A with _ | ad
    · rw [run_convert_bytes_nil w 24 5 Tryd.underlying24 Tryd.underlying5 0 c 9 Tryd.underlying9]
      rfl
    · rw [run_convert_bytes_string w 24 9 5 (some ad) 0 c Tryd.underlying24 Tryd.underlying5 Tryd.underlying9, run_bytesToString w ad 0 c [] (by simp [loadCells, loadCellsFrom])]
      rfl
theorem byt_new {w : World} (l : List UInt8) (t : TypeId) (f : Nat × Nat) (hl : l.length ≤ 1000000) : Byt (w.alloc (.cells (u8s l).toArray t f)) (fun _ => True) (some ⟨w.heap.size, 0, none⟩) l.length l.length l :=
  ⟨rfl, Nat.le_refl _, by unfold maxLen; omega, fun _ => ⟨w.heap.size, 0, rfl, trivial, by simp, fun i hi => by
    rw [cell_of_cells (heap_alloc_new w _), Nat.zero_add, List.getElem?_toArray]
    simp [u8s, List.getElem?_map, List.getElem?_eq_getElem hi]⟩⟩
theorem byt_whole {w : World} {g : Nat} {l : List UInt8} {t : TypeId} {f : Nat × Nat} (h : w.heap[g]? = some (.cells (u8s l).toArray t f)) (hl : l.length ≤ 1000000) : Byt w (fun _ => True) (some ⟨g, 0, none⟩) l.length l.length l :=
  ⟨rfl, Nat.le_refl _, by unfold maxLen; omega, fun _ => ⟨g, 0, rfl, trivial, lt_of_cells h, fun i hi => by
    rw [cell_of_cells h, Nat.zero_add, List.getElem?_toArray]
    simp [u8s, List.getElem?_map, List.getElem?_eq_getElem hi]⟩⟩
theorem xor8 (a b : UInt8) : bits .xor .u8 (a.toNat : Int) (b.toNat : Int) = ((a ^^^ b).toNat : Int) := by
  have h1 := a.toNat_lt
  have h2 := b.toNat_lt
  rw [u8_xor_nat _ _ (by omega) (by omega), UInt8.toNat_xor]
theorem or8 (a b : UInt8) : bits .or .u8 (a.toNat : Int) (b.toNat : Int) = ((a ||| b).toNat : Int) := by
  have h1 := a.toNat_lt
  have h2 := b.toNat_lt
  rw [u8_or_nat _ _ (by omega) (by omega), UInt8.toNat_or]
def row8 (l : List UInt8) : Array Value := (u8s l).toArray
theorem row8_size (l : List UInt8) : (row8 l).size = l.length := by simp [row8, u8s_length]
theorem row8_one (l : List UInt8) : (row8 l).all (·.oneCell') = true := all_oneCell_toArray (u8s_one l)
/-- s[:k] -/
theorem run_to {P : Program} (t e : TypeId) (ht : P.underlying t = some (.slice e)) (hz : ∀ w, (Go.sizeOf e).run P w = .ok 1 w) (A : Option Addr) (n c k : Nat) (hk : k ≤ c) (W : World) :
    (Instr.slice t (.slice A n c) none (some (.int .i64 (k : Int))) none).run P W = .ok (.slice A k c) W := by
  have ht' : P.underlying t = some (.slice (P.elem t)) := by simp [Program.elem, ht]
  have he : P.elem t = e := by simp [Program.elem, ht]
  rw [run_slice_h W t A n c ht' .i64 (k : Int) (by omega) (by omega), he, hz]
  have h0 : ∀ a : Addr, a.add 0 = a := fun a => by simp [Addr.add]
  cases A <;> simp [Result.andThen, sliced, h0]
theorem Byt.to {w : World} {S : Nat → Prop} {A : Option Addr} {n c k : Nat} {l : List UInt8} (h : Byt w S A n c l) (hk : k ≤ n) : Byt w S A k c (l.take k) :=
  ⟨by rw [List.length_take, h.len]; omega, by have := h.cap; omega, h.max, fun h0 => by
    obtain ⟨b, off, rfl, hB, hb, hc⟩ := h.row (by omega)
    refine ⟨b, off, rfl, hB, hb, fun i hi => ?_⟩
    rw [hc i (by omega), List.getElem?_take_of_lt hi]⟩
theorem u8_info : (Tryd.prog.info? 5).map (fun i => (i.zero, i.size, i.bytes)) = some (some (.int .u8 0), 1, 1) := by kernel_rfl
/-- Bytes as a string. -/
def st (l : List UInt8) : ByteArray := ⟨l.toArray⟩
theorem st_size (l : List UInt8) : (st l).size = l.length := by simp [st, ByteArray.size]
/-- T{..}, its value by a closed fact. -/
theorem wpList_built {P : Program} {ops : Array Oper} {rest : List Oper} {o : Oper} {a : Act} {w : World} {Q : Exit → Act → World → Prop} (hg : o.guard = none) (t : TypeId) (parts : Array (Nat × Operand)) (ho : o.op = .build t parts)
    (vs : List (Nat × Value)) (hv : (parts.map fun (i, x) => (i, a.eval x)).toList = vs) (Z : Array Value) (hb : P.built t vs = some Z) (h : wpList P ops Q rest (a.put o.dst (.agg Z)) w) : wpList P ops Q (o :: rest) a w := by
  refine wpList_build hg t parts ho (by rw [hv, hb]; rfl) ?_
  rw [hv, hb]
  exact h
end Go.Proofs.YtnbjhdlnibmgdaaDoor

/-! Packs, the memory of the lists: rows of numbers, of which the last one grows. -/
namespace Go.Proofs.YtnbjhdlnibmgdaaDoor
open Go.RowKit

theorem pki_info : (Tryd.prog.info? 3).map (fun i => (i.zero, i.size, i.bytes)) = some (some (.int .i64 0), 1, 8) := by kernel_rfl
theorem pks_info : (Tryd.prog.info? 44).map (fun i => (i.zero, i.size, i.bytes)) = some (some (.slice none 0 0), 1, 24) := by kernel_rfl
theorem pk_keep {w w' : World} {base : Nat} {e : TypeId} {size : Nat} {v : Value} {n : Nat} {xs : List Value} (h : w.ownsRow base e size v n xs) (hb : ∀ q, v.ownBlock = some q → w'.heap[q]? = w.heap[q]?) : w'.ownsRow base e size v n xs := by
  refine ⟨h.1, ?_⟩
  rcases h.2 with hn | ⟨g, cap, cur, h1, h2, h3, rest⟩
  · exact .inl hn
  · exact .inr ⟨g, cap, cur, h1, h2, (hb g (by rw [h1]; rfl)).trans h3, rest⟩
theorem pk_cells {W : World} {base : Nat} {e : TypeId} {size k : Nat} {v : Value} {xs : List Value} (h : W.ownsRow base e size v k xs) : ∀ r, v.ownBlock = some r → base ≤ r ∧ ∃ cs, W.heap[r]? = some (.cells cs e (0, 0)) := by
  intro r hr
  rcases h.2 with ⟨rfl, _⟩ | ⟨g, cap, cur, rfl, hb, hgb, _⟩
  · simp [Value.ownBlock] at hr
  · obtain rfl : g = r := by simpa [Value.ownBlock] using hr
    exact ⟨hb, _, hgb⟩
theorem pk_slice {W : World} {base : Nat} {e : TypeId} {size k : Nat} {v : Value} {xs : List Value} (h : W.ownsRow base e size v k xs) : ∃ A c, v = .slice A k c := by
  rcases h.2 with ⟨rfl, rfl⟩ | ⟨g, cap, cur, rfl, _⟩
  · exact ⟨none, 0, rfl⟩
  · exact ⟨_, cap, rfl⟩
def natI (l : List Nat) : List Int := l.map fun (x : Nat) => (x : Int)
def natV (l : List Nat) : List Value := l.map fun (x : Nat) => .int .i64 (x : Int)
theorem natV_len (l : List Nat) : (natV l).length = l.length := by simp [natV]
/-- THE VALUE v HOLDS THE ROWS vs, which read as ls; all in blocks of their own, from B on. -/
structure PkN (W : World) (B : Nat) (v : Value) (vs : List Value) (ls : List (List Nat)) : Prop where
  len : vs.length = ls.length
  out : W.ownsRow B 44 1 v vs.length vs
  row : ∀ (i : Nat) (u : Value), vs[i]? = some u → W.ownsRow B 3 1 u (ls[i]?.getD []).length (natV (ls[i]?.getD []))
  apart : ∀ (i : Nat) (u : Value) (g : Nat), vs[i]? = some u → u.ownBlock = some g → v.ownBlock ≠ some g
  each : ∀ (i j : Nat) (u u' : Value) (g : Nat), i ≠ j → vs[i]? = some u → vs[j]? = some u' → u.ownBlock = some g → u'.ownBlock ≠ some g
section
variable {W W' : World} {B : Nat} {v : Value} {vs : List Value} {ls : List (List Nat)}
theorem PkN.nil (W : World) (B : Nat) : PkN W B (.slice none 0 0) [] [] := ⟨rfl, World.ownsRow_nil _ _ _ _, fun i u h => by simp at h, fun i u g h => by simp at h, fun i j u u' g _ h => by simp at h⟩
/-- A block of its own. -/
abbrev PkN.Own (v : Value) (vs : List Value) (g : Nat) : Prop := v.ownBlock = some g ∨ ∃ (i : Nat) (u : Value), vs[i]? = some u ∧ u.ownBlock = some g
theorem PkN.own (h : PkN W B v vs ls) {g : Nat} (hg : PkN.Own v vs g) : B ≤ g ∧ ∃ cs t, W.heap[g]? = some (.cells cs t (0, 0)) := by
  rcases hg with hg | ⟨i, u, hu, hg⟩
  · obtain ⟨h1, cs, h2⟩ := pk_cells h.out g hg
    exact ⟨h1, cs, _, h2⟩
  · obtain ⟨h1, cs, h2⟩ := pk_cells (h.row i u hu) g hg
    exact ⟨h1, cs, _, h2⟩
theorem PkN.lt (h : PkN W B v vs ls) {g : Nat} (hg : PkN.Own v vs g) : g < W.heap.size := by
  obtain ⟨_, cs, t, h1⟩ := h.own hg
  exact lt_of_cells h1
theorem PkN.keep (h : PkN W B v vs ls) (hk : ∀ g, PkN.Own v vs g → W'.heap[g]? = W.heap[g]?) : PkN W' B v vs ls :=
  ⟨h.len, pk_keep h.out fun g hg => hk g (.inl hg), fun i u hu => pk_keep (h.row i u hu) fun g hg => hk g (.inr ⟨i, u, hu, hg⟩), h.apart, h.each⟩
/-- One row more, of nothing. -/
theorem PkN.push (h : PkN W B v vs ls) {v' : Value} (hown : W'.ownsRow B 44 1 v' (vs.length + 1) (vs ++ [.slice none 0 0])) (hg : W.grownBy W' v.ownBlock) (hl : v'.ownBlock = v.ownBlock ∨ v'.ownBlock = some W.heap.size) :
    PkN W' B v' (vs ++ [.slice none 0 0]) (ls ++ [[]]) := by
  have at_ : ∀ (i : Nat) (u : Value), (vs ++ [.slice none 0 0])[i]? = some u → (vs[i]? = some u ∧ i < vs.length) ∨ (i = vs.length ∧ u = .slice none 0 0) := fun i u hu => by
    rcases Nat.lt_trichotomy i vs.length with h1 | h1 | h1
    · rw [List.getElem?_append_left h1] at hu
      exact .inl ⟨hu, h1⟩
    · subst h1
      simp at hu
      exact .inr ⟨rfl, hu.symm⟩
    · rw [List.getElem?_eq_none (by simp; omega)] at hu
      cases hu
  refine ⟨by simp [h.len], by simpa using hown, fun i u hu => ?_, fun i u g hu hg' => ?_, fun i j u u' g hij hu hu' hg' => ?_⟩
  · rcases at_ i u hu with ⟨h1, h2⟩ | ⟨rfl, rfl⟩
    · rw [List.getElem?_append_left (by have := h.len; omega)]
      exact pk_keep (h.row i u h1) fun g hg' => hg.block g (h.lt (.inr ⟨i, u, h1, hg'⟩)) fun e => h.apart i u g h1 hg' e.symm
    · rw [h.len]
      simp only [List.getElem?_append_right (Nat.le_refl _), Nat.sub_self, List.getElem?_cons_zero, Option.getD_some, natV, List.map_nil, List.length_nil]
      exact World.ownsRow_nil _ _ _ _
  · rcases at_ i u hu with ⟨h1, h2⟩ | ⟨rfl, rfl⟩
    · have h3 := h.apart i u g h1 hg'
      have h4 := h.lt (.inr ⟨i, u, h1, hg'⟩)
      rcases hl with hl | hl
      · rw [hl]; exact h3
      · rw [hl]
        intro e
        injection e with e
        omega
    · simp [Value.ownBlock] at hg'
  · rcases at_ i u hu with ⟨h1, h2⟩ | ⟨rfl, rfl⟩
    · rcases at_ j u' hu' with ⟨h3, h4⟩ | ⟨rfl, rfl⟩
      · exact h.each i j u u' g hij h1 h3 hg'
      · simp [Value.ownBlock]
    · simp [Value.ownBlock] at hg'
/-- A row has one number more: it was appended to it (W1), and the row's value is stored. -/
theorem PkN.put (h : PkN W B v vs ls) {p : Nat} {u u' : Value} {W1 : World} {g l c : Nat} (hv : v = .slice (some ⟨g, 0, none⟩) l c) (hp : vs[p]? = some u) {x : Nat}
    (hown : W1.ownsRow B 3 1 u' ((ls[p]?.getD []).length + 1) (natV (ls[p]?.getD []) ++ [.int .i64 (x : Int)])) (hg : W.grownBy W1 u.ownBlock) (hl : u'.ownBlock = u.ownBlock ∨ u'.ownBlock = some W.heap.size) :
    PkN (W1.setCell ⟨g, p, none⟩ u') B v (vs.set p u') (ls.set p ((ls[p]?.getD []) ++ [x])) ∧ W1.cell? ⟨g, p, none⟩ = some u ∧ W1.frozen? ⟨g, p, none⟩ = false := by
  have hpl : p < vs.length := (List.getElem?_eq_some_iff.1 hp).1
  have hvg : v.ownBlock = some g := by rw [hv]; rfl
  have hglt := h.lt (.inl hvg)
  have hne : ∀ g', u'.ownBlock = some g' → g' ≠ g := fun g' e1 e2 => by
    rcases hl with hl | hl
    · rw [hl] at e1
      exact h.apart p u g' hp e1 (by rw [e2]; exact hvg)
    · rw [hl] at e1
      injection e1 with e1
      omega
  have hout1 : W1.ownsRow B 44 1 v vs.length vs := pk_keep h.out fun q hq => hg.block q (h.lt (.inl hq)) fun e => h.apart p u q hp e.symm hq
  have hll : l = vs.length := by
    obtain ⟨A', c', e⟩ := pk_slice h.out
    rw [hv] at e
    injection e
  subst hll
  rw [hv] at hout1
  have hst := (hout1.stored p u').1
  have at_ : ∀ (i : Nat) (z : Value), (vs.set p u')[i]? = some z → (i = p ∧ z = u') ∨ (i ≠ p ∧ vs[i]? = some z) := fun i z hz => by
    by_cases hi : i = p
    · subst hi
      rw [List.getElem?_set_self hpl] at hz
      exact .inl ⟨rfl, (Option.some.inj hz).symm⟩
    · rw [List.getElem?_set_ne (fun e => hi e.symm)] at hz
      exact .inr ⟨hi, hz⟩
  refine ⟨⟨by simp [h.len], ?_, fun i z hz => ?_, fun i z g' hz hg' => ?_, fun i j z z' g' hij hz hz' hg' => ?_⟩, ?_, hout1.frozenAt p⟩
  · rw [List.length_set, hv]
    exact hst
  · rcases at_ i z hz with ⟨rfl, rfl⟩ | ⟨h1, h2⟩
    · rw [List.getElem?_set_self (by have := h.len; omega), Option.getD_some, List.length_append, List.length_singleton]
      have e : natV ((ls[i]?.getD []) ++ [x]) = natV (ls[i]?.getD []) ++ [.int .i64 (x : Int)] := by simp [natV]
      rw [e]
      exact pk_keep hown fun q hq => Below.heap_setCell _ _ _ _ (hne q hq)
    · rw [List.getElem?_set_ne (fun e => h1 e.symm)]
      refine pk_keep (h.row i z h2) fun q hq => ?_
      have hq1 : q ≠ g := fun e => h.apart i z q h2 hq (by rw [e]; exact hvg)
      exact (Below.heap_setCell _ _ _ _ hq1).trans (hg.block q (h.lt (.inr ⟨i, z, h2, hq⟩)) fun e => h.each i p z u q h1 h2 hp hq e.symm)
  · rcases at_ i z hz with ⟨rfl, rfl⟩ | ⟨h1, h2⟩
    · rw [hvg]
      intro e
      injection e with e
      exact hne g' hg' e.symm
    · exact h.apart i z g' h2 hg'
  · rcases at_ i z hz with ⟨rfl, rfl⟩ | ⟨h1, h2⟩
    · rcases at_ j z' hz' with ⟨rfl, rfl⟩ | ⟨h3, h4⟩
      · exact absurd rfl hij
      · intro e
        rcases hl with hl | hl
        · rw [hl] at hg'
          exact h.each i j u z' g' hij hp h4 hg' e
        · rw [hl] at hg'
          injection hg' with hg'
          have := h.lt (.inr ⟨j, z', h4, e⟩)
          omega
    · rcases at_ j z' hz' with ⟨rfl, rfl⟩ | ⟨h3, h4⟩
      · intro e
        rcases hl with hl | hl
        · rw [hl] at e
          exact h.each i j z u g' hij h2 hp hg' e
        · rw [hl] at e
          injection e with e
          have := h.lt (.inr ⟨i, z, h2, hg'⟩)
          omega
      · exact h.each i j z z' g' hij h2 h4 hg'
  · rw [hout1.cellAt p (by omega), hp]
end
/-- A SLICE OF ROWS OF NUMBERS READS AS ls. -/
structure Nst (w : World) (S : Nat → Prop) (A : Option Addr) (n c : Nat) (ls : List (List Nat)) : Prop where
  len : ls.length = n
  cap : n ≤ c
  max : c ≤ maxLen
  row : 0 < n → ∃ b off, A = some ⟨b, off, none⟩ ∧ S b ∧ b < w.heap.size ∧ ∀ i, i < n → ∃ Ai ci, w.cell? ⟨b, off + i, none⟩ = some (.slice Ai (ls[i]?.getD []).length ci) ∧ Ints .i64 w S Ai (ls[i]?.getD []).length ci (natI (ls[i]?.getD []))
section
variable {w w' : World} {S : Nat → Prop} {A : Option Addr} {n c : Nat} {ls : List (List Nat)}
theorem Nst.nil (w : World) (S : Nat → Prop) : Nst w S none 0 0 [] := ⟨rfl, Nat.le_refl _, Nat.zero_le _, fun h => absurd h (by omega)⟩
theorem Nst.mono {T : Nat → Prop} (h : Nst w S A n c ls) (hT : ∀ b, b < w.heap.size → S b → T b) : Nst w T A n c ls :=
  ⟨h.len, h.cap, h.max, fun h0 => by
    obtain ⟨b, off, hA, hS, hlt, hc⟩ := h.row h0
    refine ⟨b, off, hA, hT b hlt hS, hlt, fun i hi => ?_⟩
    obtain ⟨Ai, ci, h1, h2⟩ := hc i hi
    exact ⟨Ai, ci, h1, h2.mono hT⟩⟩
theorem Nst.below (h : Nst w S A n c ls) (hb : Below w.heap.size w w') : Nst w' S A n c ls :=
  ⟨h.len, h.cap, h.max, fun h0 => by
    obtain ⟨b, off, hA, hS, hlt, hc⟩ := h.row h0
    refine ⟨b, off, hA, hS, Nat.lt_of_lt_of_le hlt hb.size, fun i hi => ?_⟩
    obtain ⟨Ai, ci, h1, h2⟩ := hc i hi
    exact ⟨Ai, ci, (hb.cell (p := ⟨_, _, none⟩) hlt).trans h1, h2.below hb⟩⟩
end
theorem own_nat {W : World} {B : Nat} {v : Value} {l : List Nat} (h : W.ownsRow B 3 1 v l.length (natV l)) (hl : ∀ x ∈ l, x < 4611686018427387904) : ∃ A c, v = .slice A l.length c ∧ Ints .i64 W (B ≤ ·) A l.length c (natI l) := by
  have hwf : ∀ x ∈ natI l, (Lit.int .i64 x).wf = true := fun x hx => by
    obtain ⟨y, hy, rfl⟩ := List.mem_map.1 hx
    have := hl y hy
    show (decide (IntKind.i64.min ≤ (y : Int)) && decide ((y : Int) ≤ IntKind.i64.max)) = true
    rw [show IntKind.i64.min = -9223372036854775808 by decide, show IntKind.i64.max = 9223372036854775807 by decide]
    simp
    omega
  rcases h.2 with ⟨rfl, e⟩ | ⟨g, cap, cur, rfl, hb, hg, hn, hm, _, _⟩
  · obtain rfl : l = [] := List.eq_nil_of_length_eq_zero e
    exact ⟨none, 0, rfl, Ints.nil _ _ _ _ _ (Nat.zero_le _)⟩
  · refine ⟨_, cap, rfl, by simp [natI], hn, hm, hwf, fun _ => ⟨g, 0, rfl, hb, lt_of_cells hg, fun i hi => ?_⟩⟩
    rw [Nat.zero_add, h.cellAt i (by omega), natV, natI, List.getElem?_map, List.getElem?_map, List.getElem?_eq_getElem hi]
    rfl
theorem PkN.nst {W : World} {B : Nat} {v : Value} {vs : List Value} {ls : List (List Nat)} (h : PkN W B v vs ls) (hl : ∀ r ∈ ls, ∀ x ∈ r, x < 4611686018427387904) : ∃ A c, v = .slice A ls.length c ∧ Nst W (B ≤ ·) A ls.length c ls := by
  have hlen := h.len
  rcases h.out.2 with ⟨rfl, e⟩ | ⟨g, cap, cur, rfl, hb, hg, hn, hm, _, _⟩
  · obtain rfl : ls = [] := List.eq_nil_of_length_eq_zero (by omega)
    exact ⟨none, 0, rfl, Nst.nil _ _⟩
  · refine ⟨_, cap, by rw [hlen], rfl, by omega, hm, fun h0 => ⟨g, 0, rfl, hb, lt_of_cells hg, fun i hi => ?_⟩⟩
    have hiv : i < vs.length := by omega
    have hu := List.getElem?_eq_getElem hiv
    have hr : ls[i]? = some ls[i] := List.getElem?_eq_getElem hi
    obtain ⟨Ai, ci, e1, e2⟩ := own_nat (h.row i _ hu) fun x hx => hl (ls[i]) (List.getElem_mem hi) x (by rw [hr] at hx; exact hx)
    refine ⟨Ai, ci, ?_, e2⟩
    rw [Nat.zero_add, h.out.cellAt i (by omega), hu, ← e1]
end Go.Proofs.YtnbjhdlnibmgdaaDoor

/-! A range over a function that is a method's value (bound to its first arguments) and makes memory of its own: what it promises (IterB), and the law for the loop. -/
namespace Go.Proofs.YtnbjhdlnibmgdaaDoor
open Go.RowKit

/-- THE ITERATOR's PROMISE. X: what is known of what has come; K: blocks that rounds must leave alone. -/
def IterB {α : Type} (P : Program) (g : Nat) (fa lb : Array Value) (encs : α → Array Value) (K : Nat → Prop) (X : (Nat → Prop) → List α → World → Prop) (S : List α → Prop) (w : World) : Prop :=
  (∀ D s W W', X D s W → Turned (fun b => ¬ (D b ∨ K b)) W W' → X D s W') ∧
  ∀ (l : Nat) (J Jx : (Nat → Prop) → List α → World → Prop) (W : World), Below w.heap.size w W → Still W.heap.size J → Still W.heap.size Jx →
    (∀ D pre x W1, Bounds W.heap.size D W1 → J D pre W1 → X D (pre ++ [x]) W1 → YieldAt Fence.wide 1 P l (encs x) W1 fun e W' =>
      (e = .returned (.bool true) ∧ J D (pre ++ [x]) W' ∧ Kept W.heap.size D K W1 W') ∨ (e = .returned (.bool false) ∧ Jx D (pre ++ [x]) W' ∧ Kept W.heap.size D K W1 W')) →
    J (fun _ => False) [] W →
    Calls P g (fa ++ #[.func (.yield l) #[] #[]] ++ lb) W fun e W' => (∃ v, e = .returned v) ∧ ∃ D, Bounds W.heap.size D W' ∧ ((∃ xs, S xs ∧ X D xs W' ∧ J D xs W') ∨ (∃ pre, X D pre W' ∧ Jx D pre W'))

/-- THE LAW. -/
theorem wpIn_rangeFunc_itB {α : Type} {P : Program} {g : Operand} {ps : Array Tmp} {assign body : Code} {Q : Exit → Act → World → Prop} {a : Act} {w : World}
    {gf : Nat} {fa lb : Array Value} (hg : a.eval g = .func (.func gf) fa lb) (eg : ∀ args w, (callFunc gf args).run P w = .ok (.enter gf args) w)
    {encs : α → Array Value} {K : Nat → Prop} {X : (Nat → Prop) → List α → World → Prop} {S : List α → Prop} {w0 : World} (hseq : IterB P gf fa lb encs K X S w0) (hb0 : Below w0.heap.size w0 w) (hK : ∀ b, K b → b < w.heap.size) (hps : ∀ x, (encs x).size = ps.size)
    (I : (Nat → Prop) → List α → World → Prop) (Ix : Code → (Nat → Prop) → List α → World → Prop) (hI : Still w.heap.size I) (hIx : ∀ c, Still w.heap.size (Ix c)) (h0 : I (fun _ => False) [] w)
    (Ax : α → Act → World → Prop) (hAx : ∀ x a', OwnFrom w.heap.size (fun (_ : Unit) W => Ax x a' W))
    (hassign : ∀ (l : Nat) (D : Nat → Prop) (pre : List α) (x : α) (W : World) (C : Act → World → Prop), Bounds (w.heap.size + 2) D W → I D pre W → X D (pre ++ [x]) W → (∀ a' W', Kept w.heap.size D K W W' → I D pre W' → Ax x a' W' → C a' W') →
      assign.wpIn (Fence.wide.inRound l) 1 P (Exit.then C (fun _ _ _ => False)) { tmps := (ps.zip (encs x)).foldl (fun t (p, v) => t.setIfInBounds p v) a.tmps, defers := [] } W)
    (hbody : ∀ (l : Nat) (D : Nat → Prop) (pre : List α) (x : α) (a' : Act) (W : World), w.heap.size ≤ l → w.heap.size + 2 ≤ W.heap.size → Bounds (w.heap.size + 2) D W → I D pre W → X D (pre ++ [x]) W → Ax x a' W → body.wpIn (Fence.wide.inRound l) 1 P (itPost w.heap.size K I Ix D (pre ++ [x]) W) a' W)
    (hdone : ∀ (E : Nat) (D : Nat → Prop) (xs : List α) (W : World), E = w.heap.size → w.heap.size + 2 ≤ W.heap.size → Bounds (w.heap.size + 2) D W → S xs → X D xs W → I D xs W → W.heap[E]? = some (.deferred (some [])) → Q .normal { a with defers := { target := .collected E, args := #[] } :: a.defers } W)
    (hstop : ∀ (E : Nat) (D : Nat → Prop) (c : Code) (pre : List α) (W : World), E = w.heap.size → w.heap.size + 2 ≤ W.heap.size → Bounds (w.heap.size + 2) D W → X D pre W → Ix c D pre W → W.heap[E]? = some (.deferred (some [])) → c.wpIn Fence.wide 3 P Q { a with defers := { target := .collected E, args := #[] } :: a.defers } W) :
    (Code.rangeFunc g ps assign body).wpIn Fence.wide 3 P Q a w := by
  refine wpIn_rangeFunc ?_
  intro fn hfn
  obtain ⟨rec, hrec⟩ : ∃ rec : LoopState → Option Code → Loop, rec = fun st pe => { state := st, pending := pe, fn, tmps := a.tmps, params := ps, assign, body, defers := w.heap.size } := ⟨_, rfl⟩
  obtain ⟨W1, hW1⟩ : ∃ W1, (w.alloc (.deferred (some []))).alloc (.loop (rec .ready none)) = W1 := ⟨_, rfl⟩
  have hs1 : W1.heap.size = w.heap.size + 2 := by rw [← hW1]; simp
  have hL1 : W1.heap[w.heap.size + 1]? = some (.loop (rec .ready none)) := by
    rw [← hW1]
    have := World.alloc_heap_new (w.alloc (.deferred (some []))) (.loop (rec .ready none))
    rwa [World.size_alloc] at this
  have hD1 : W1.heap[w.heap.size]? = some (.deferred (some [])) := by
    rw [← hW1]
    exact (Below.heap_alloc _ _ _ (by simp)).trans (World.alloc_heap_new w _)
  have hb01 : Below w.heap.size w W1 := by
    rw [← hW1]
    exact ((Below.refl _ w).alloc (Nat.le_refl _) _).alloc (by simp) _
  have hI1 : I (fun _ => False) [] W1 := hI _ _ _ _ _ (Bounds.none_ _ _) h0 (Steps.of_below hb01) (fun _ h => .inl h)
  have hb1 : Below w0.heap.size w0 W1 := hb0.trans (hb01.mono hb0.size)
  have hnK : ∀ b, w.heap.size ≤ b → ¬ K b := fun b hb hk => by
    have := hK b hk
    omega
  -- the record's and the deferred block's facts don't mind the iterator's steps
  have hrk : ∀ {D : Nat → Prop} {A C : World} {o : Obj} {b : Nat}, Bounds W1.heap.size D A → Steps W1.heap.size D A C → b < W1.heap.size → A.heap[b]? = some o → C.heap[b]? = some o := fun {D A C o b} hB hS hb ho =>
    (hS.block b (Array.getElem?_eq_some_iff.1 ho).1 (fun hd => by have := (hB b hd).1; omega) (.inl hb)).trans ho
  refine ⟨w.heap.size + 1, [{ target := .collected w.heap.size, args := #[] }], W1, { target := .fn (.func gf) lb, args := fa ++ #[.func (.yield (w.heap.size + 1)) #[] #[]] }, W1, gf,
    fa ++ #[.func (.yield (w.heap.size + 1)) #[] #[]] ++ lb, W1, ?_, ?_, ?_, ?_, fun _ => by omega, callsIn_wide.2 ?_⟩
  · rw [← hW1, hrec]
    exact run_enterLoop_outer _ _ _ _ _
  · simp only [resolve, hg]
    simp [go_sem]
  · intro f' _
    trivial
  · simp [invoke, go_sem, eg]
  · refine (hseq.2 (w.heap.size + 1)
      (fun D pre W => I D pre W ∧ W.heap[w.heap.size + 1]? = some (.loop (rec .ready none)) ∧ W.heap[w.heap.size]? = some (.deferred (some [])))
      (fun D pre W => ∃ c, Ix c D pre W ∧ W.heap[w.heap.size + 1]? = some (.loop (rec .done (some c))) ∧ W.heap[w.heap.size]? = some (.deferred (some [])))
      W1 hb1
      (fun D D' s A C hB hs hS hD => ⟨hI _ _ _ _ _ (fun b hb => ⟨by have := (hB b hb).1; omega, (hB b hb).2⟩) hs.1 (hS.lower (by omega)) hD, hrk hB hS (by omega) hs.2.1, hrk hB hS (by omega) hs.2.2⟩)
      (fun D D' s A C hB hs hS hD => by
        obtain ⟨c, hc, hl, hk⟩ := hs
        exact ⟨c, hIx c _ _ _ _ _ (fun b hb => ⟨by have := (hB b hb).1; omega, (hB b hb).2⟩) hc (hS.lower (by omega)) hD, hrk hB hS (by omega) hl, hrk hB hS (by omega) hk⟩)
      ?_ ⟨hI1, hL1, hD1⟩).mono ?_
    · -- one round
      rintro D pre x W hB ⟨hi, hl, hk⟩ hx
      rw [hs1] at hB
      have hnD : ¬ D (w.heap.size + 1) := fun h => by have := (hB _ h).1; omega
      have hy := run_yield (P := P) (args := encs x) hl (by rw [hrec]; exact hps x)
      rw [hrec] at hy
      refine ⟨fn, _, assign, body, hy, roundIn_of_wpIn hfn (hassign _ D pre x W _ hB hi hx ?_)⟩
      clear hy
      intro a' Wa hka hia hax
      have hla := hka.keeps.same _ _ (by omega) hl rfl
      have hda := hka.keeps.same _ _ (Nat.le_refl _) hk rfl
      have hxa := hseq.1 _ _ _ _ hx hka.turned
      have hBa := hB.grow hka.turned.size
      have hlt : w.heap.size + 1 < Wa.heap.size := (Array.getElem?_eq_some_iff.1 hla).1
      refine ⟨_, run_beginRound hla (by rw [hrec]), ?_⟩
      obtain ⟨Wb, hWb⟩ : ∃ Wb, Wa.putObj (w.heap.size + 1) (.loop { rec .ready none with state := .busy }) = Wb := ⟨_, rfl⟩
      have hkb : Kept W1.heap.size D K Wa Wb := by
        rw [← hWb]
        exact Kept.putObj _ (by omega) hnD (hnK _ (by omega))
      have hsb : Steps w.heap.size D Wa Wb := by
        rw [← hWb]
        exact Steps.putObj _ (by omega) hla rfl
      have hlb : Wb.heap[w.heap.size + 1]? = some (.loop { rec .ready none with state := .busy }) := by
        rw [← hWb]
        exact World.putObj_heap_same hlt
      have hdb : Wb.heap[w.heap.size]? = some (.deferred (some [])) := by
        rw [← hWb]
        exact (World.putObj_heap_other (by omega)).trans hda
      have hBl : Bounds w.heap.size D Wa := fun b hb => ⟨by have := (hBa b hb).1; omega, (hBa b hb).2⟩
      have hib := hI _ _ _ _ _ hBl hia hsb (fun _ h => .inl h)
      have haxb : Ax x a' Wb := by
        rw [← hWb]
        exact (hAx x a').putObj (s := ()) _ hax (by omega) hla rfl
      rw [hWb]
      refine wpIn_mono (hbody _ D pre x a' Wb (by omega) (by have := hkb.turned.size; omega) (hBa.grow hkb.turned.size) hib (hseq.1 _ _ _ _ hxa hkb.turned) haxb) ?_
      have fin : ∀ (jump : Option Code) (W3 : World), Kept w.heap.size D K Wb W3 →
          (Instr.endRound (w.heap.size + 1) jump).run P W3 = .ok (.bool jump.isNone) (W3.putObj (w.heap.size + 1) (.loop (rec (if jump.isNone then .ready else .done) jump))) ∧
          (W3.putObj (w.heap.size + 1) (.loop (rec (if jump.isNone then .ready else .done) jump))).heap[w.heap.size + 1]? = some (.loop (rec (if jump.isNone then .ready else .done) jump)) ∧
          (W3.putObj (w.heap.size + 1) (.loop (rec (if jump.isNone then .ready else .done) jump))).heap[w.heap.size]? = some (.deferred (some [])) ∧
          Kept W1.heap.size D K W (W3.putObj (w.heap.size + 1) (.loop (rec (if jump.isNone then .ready else .done) jump))) ∧
          Steps w.heap.size D W3 (W3.putObj (w.heap.size + 1) (.loop (rec (if jump.isNone then .ready else .done) jump))) ∧ Bounds w.heap.size D W3 := fun jump W3 hk3 => by
        have hl3 := hk3.keeps.same _ _ (by omega) hlb rfl
        have hd3 := hk3.keeps.same _ _ (Nat.le_refl _) hdb rfl
        have hend := run_endRound (P := P) jump hl3
        rw [hrec] at hend
        refine ⟨by rw [hrec]; exact hend, World.putObj_heap_same (Array.getElem?_eq_some_iff.1 hl3).1, (World.putObj_heap_other (by omega)).trans hd3, ?_, Steps.putObj _ (by omega) hl3 rfl, (hBl.grow hkb.turned.size).grow hk3.turned.size⟩
        exact (hka.raise (by omega)).trans (hkb.trans ((hk3.raise (by omega)).trans (Kept.putObj _ (by omega) hnD (hnK _ (by omega)))))
      rintro e a3 W3 hp
      cases e with
      | normal =>
        obtain ⟨hr, hl4, hd4, hk4, hs4, hB4⟩ := fin none W3 hp.1
        exact ⟨_, _, hr, .inl ⟨rfl, ⟨hI _ _ _ _ _ hB4 hp.2 hs4 (fun _ h => .inl h), hl4, hd4⟩, hk4⟩⟩
      | ret =>
        obtain ⟨hr, hl4, hd4, hk4, hs4, hB4⟩ := fin (some .ret) W3 hp.1
        exact ⟨_, _, hr, .inr ⟨rfl, ⟨.ret, hIx _ _ _ _ _ _ hB4 hp.2 hs4 (fun _ h => .inl h), hl4, hd4⟩, hk4⟩⟩
      | exit id =>
        obtain ⟨hr, hl4, hd4, hk4, hs4, hB4⟩ := fin (some (.exit id)) W3 hp.1
        exact ⟨_, _, hr, .inr ⟨rfl, ⟨.exit id, hIx _ _ _ _ _ _ hB4 hp.2 hs4 (fun _ h => .inl h), hl4, hd4⟩, hk4⟩⟩
      | goto t =>
        obtain ⟨hr, hl4, hd4, hk4, hs4, hB4⟩ := fin (some (.goto t)) W3 hp.1
        exact ⟨_, _, hr, .inr ⟨rfl, ⟨.goto t, hIx _ _ _ _ _ _ hB4 hp.2 hs4 (fun _ h => .inl h), hl4, hd4⟩, hk4⟩⟩
      | panic ch => exact hp.elim
      | outgrown => exact hp.elim
    · -- behind the iterator
      rintro e W2 ⟨⟨v, rfl⟩, D, hB, (⟨xs, hS, hx, hi, hl, hk⟩ | ⟨pre, hx, c, hi, hl, hk⟩)⟩
      · have hnD : ¬ D (w.heap.size + 1) := fun h => by have := (hB _ h).1; omega
        rw [hs1] at hB
        have hBl : Bounds w.heap.size D W2 := fun b hb => ⟨by have := (hB b hb).1; omega, (hB b hb).2⟩
        have hend := run_endLoop (P := P) hl (by rw [hrec]; simp)
        rw [hrec] at hend
        refine ⟨none, _, hend, hdone _ D xs _ rfl (by have := (Array.getElem?_eq_some_iff.1 hl).1; simp; omega) (hB.grow (by simp)) hS (hseq.1 _ _ _ _ hx (Kept.putObj (B := W1.heap.size) _ (by omega) hnD (hnK _ (by omega))).turned) (hI _ _ _ _ _ hBl hi (Steps.putObj _ (by omega) hl rfl) (fun _ h => .inl h)) ((World.putObj_heap_other (by omega)).trans hk)⟩
      · have hnD : ¬ D (w.heap.size + 1) := fun h => by have := (hB _ h).1; omega
        rw [hs1] at hB
        have hBl : Bounds w.heap.size D W2 := fun b hb => ⟨by have := (hB b hb).1; omega, (hB b hb).2⟩
        have hend := run_endLoop (P := P) hl (by rw [hrec]; simp)
        rw [hrec] at hend
        refine ⟨some c, _, hend, hstop _ D c pre _ rfl (by have := (Array.getElem?_eq_some_iff.1 hl).1; simp; omega) (hB.grow (by simp)) (hseq.1 _ _ _ _ hx (Kept.putObj (B := W1.heap.size) _ (by omega) hnD (hnK _ (by omega))).turned) (hIx c _ _ _ _ _ hBl hi (Steps.putObj _ (by omega) hl rfl) (fun _ h => .inl h)) ((World.putObj_heap_other (by omega)).trans hk)⟩
end Go.Proofs.YtnbjhdlnibmgdaaDoor

/-! A REGION THAT DRAWS ITS ORDER, WALKED IN ONE ORDER OF MY CHOICE ('wp_region_plan'). The plan: rows of operations that yield the same value in every world of a class ('pulled': they may be taken first), each row followed by one operation that is then the only one that may come up ('effect'); behind it the class may be made smaller; a last row. Whether the plan fits the region is one closed Bool ('planB'). -/
namespace Go.Proofs.YtnbjhdlnibmgdaaDoor
open Go.RowKit
section
variable {P : Program} {ops : Array Oper} {Q : Exit → Act → World → Prop} {md : Region.Mode}

/-- The operations of a row, one behind the other, each of which yields its value in every world of C. -/
def wpSeg (P : Program) (ops : Array Oper) (C : World → Prop) (Q' : Act → Prop) : List Nat → Act → Prop
  | [], a => Q' a
  | i :: r, a => ∃ o v, ops[i]? = some o ∧ YieldsIf P ops C o v a ∧ wpSeg P ops C Q' r (a.put o.dst v)

def segB (md : Region.Mode) (ops : Array Oper) : Array Bool → List Nat → Bool
  | _, [] => true
  | listed, i :: r => (Region.ready md ops listed).contains i && Region.free md ops listed i && segB md ops (listed.setIfInBounds i true) r

def listedBy : Array Bool → List Nat → Array Bool
  | listed, [] => listed
  | listed, i :: r => listedBy (listed.setIfInBounds i true) r

def wpPlan (P : Program) (ops : Array Oper) (Q : Exit → Act → World → Prop) : (World → Prop) → List (List Nat × Nat) → List Nat → Act → World → Prop
  | C, [], q, a, w => wpSeg P ops C (fun a' => Q .normal a' w) q a
  | C, (q1, e) :: r, q, a, w => wpSeg P ops C (fun a1 => wpOp P ops Q e (fun a2 w2 => ∃ C' : World → Prop, C' w2 ∧ (∀ W, C' W → C W) ∧ wpPlan P ops Q C' r q a2 w2) a1 w) q1 a

def planB (md : Region.Mode) (ops : Array Oper) : Array Bool → List (List Nat × Nat) → List Nat → Bool
  | listed, [], q => segB md ops listed q && (Region.ready md ops (listedBy listed q)).isEmpty
  | listed, (q1, e) :: r, q => segB md ops listed q1 && (Region.ready md ops (listedBy listed q1) == [e]) && planB md ops ((listedBy listed q1).setIfInBounds e true) r q

theorem wpAnyH_mono {S S' : World → Prop} (hS : ∀ W, S' W → S W) : ∀ (fuel : Nat) (listed : Array Bool) (a : Act) (w : World), wpAnyH P md ops Q S' fuel listed a w → wpAnyH P md ops Q S fuel listed a w
  | 0, _, _, _, h => h
  | fuel + 1, _, _, _, h => ⟨h.1, fun i hi => wpOp_mono (fun _ _ h' => ⟨hS _ h'.1, wpAnyH_mono hS fuel _ _ _ h'.2⟩) (h.2 i hi)⟩

theorem wpAnyH_seg {C : World → Prop} {Q' : Act → Prop} (hs : Region.noSelect ops = true) (hQ : ∀ c a d v w, Q (.panic c) (Act.put a d v) w → Q (.panic c) a w) {fuel : Nat} {w : World} (hC : C w) :
    ∀ (q : List Nat) (listed : Array Bool) (a : Act), segB md ops listed q = true → wpSeg P ops C Q' q a → (∀ a', Q' a' → wpAnyH P md ops Q C fuel (listedBy listed q) a' w) → wpAnyH P md ops Q C (fuel + q.length) listed a w
  | [], _, _, _, h, hn => hn _ h
  | i :: r, listed, a, hB, h, hn => by
    simp only [segB, Bool.and_eq_true] at hB
    obtain ⟨⟨hr, hf⟩, hB'⟩ := hB
    obtain ⟨o, v, ho, hy, hk⟩ := h
    exact wpAnyH_take (fuel := fuel + r.length) ho hs hf hr (fun c a w => hQ c a o.dst v w) hy hC (wpAnyH_seg hs hQ hC r _ _ hB' hk hn)

theorem wpAnyH_plan (hs : Region.noSelect ops = true) (hQ : ∀ c a d v w, Q (.panic c) (Act.put a d v) w → Q (.panic c) a w) :
    ∀ (plan : List (List Nat × Nat)) (q : List Nat) (C : World → Prop) (listed : Array Bool) (a : Act) (w : World), C w → planB md ops listed plan q = true → wpPlan P ops Q C plan q a w → ∃ fuel, wpAnyH P md ops Q C fuel listed a w ∧ fuel = q.length + (plan.map fun x => x.1.length + 1).sum
  | [], q, C, listed, a, w, hC, hB, h => by
    simp only [planB, Bool.and_eq_true] at hB
    refine ⟨_, wpAnyH_seg (fuel := 0) hs hQ hC q listed a hB.1 h fun a' h' => wpAnyH_done (by simpa using hB.2) h' 0, by simp⟩
  | (q1, e) :: r, q, C, listed, a, w, hC, hB, h => by
    simp only [planB, Bool.and_eq_true, beq_iff_eq] at hB
    obtain ⟨⟨hB1, hB2⟩, hB3⟩ := hB
    refine ⟨_, wpAnyH_seg (fuel := (q.length + (r.map fun x => x.1.length + 1).sum) + 1) hs hQ hC q1 listed a hB1 h fun a' h' => ?_, by simp; omega⟩
    refine wpAnyH_all hB2 (by simp) fun i hi => ?_
    rw [List.mem_singleton.1 hi]
    refine wpOp_mono ?_ h'
    rintro a2 w2 ⟨C', hC', hsub, hp⟩
    obtain ⟨f, hf, rfl⟩ := wpAnyH_plan hs hQ r q C' _ a2 w2 hC' hB3 hp
    exact ⟨hsub _ hC', wpAnyH_mono hsub _ _ _ _ hf⟩

/-- THE LAW. -/
theorem wp_region_plan {id : Nat} {a : Act} {w : World} (C : World → Prop) (plan : List (List Nat × Nat)) (q : List Nat) (hm : P.follows .mixedOrders = true)
    (hB : (Region.noSelect ops && planB .any ops (Array.replicate ops.size false) plan q && (q.length + (plan.map fun x => x.1.length + 1).sum == ops.size)) = true)
    (hQ : ∀ c a d v w, Q (.panic c) (Act.put a d v) w → Q (.panic c) a w) (hC : C w.drew) (h : wpPlan P ops Q C plan q a w.drew) : (Code.region id ops true).wp P Q a w := by
  simp only [Bool.and_eq_true, beq_iff_eq] at hB
  obtain ⟨⟨h1, h2⟩, h3⟩ := hB
  obtain ⟨f, hf, rfl⟩ := wpAnyH_plan (md := .any) h1 hQ plan q C _ a _ hC h2 h
  rw [h3] at hf
  exact wp_region_held hm hf

/-! The steps of a plan. -/
theorem plan_eff {C : World → Prop} {q1 : List Nat} {e : Nat} {r : List (List Nat × Nat)} {q : List Nat} {a : Act} {w : World}
    (h : wpSeg P ops C (fun a1 => wpOp P ops Q e (fun a2 w2 => ∃ C' : World → Prop, C' w2 ∧ (∀ W, C' W → C W) ∧ wpPlan P ops Q C' r q a2 w2) a1 w) q1 a) : wpPlan P ops Q C ((q1, e) :: r) q a w := h
theorem plan_last {C : World → Prop} {q : List Nat} {a : Act} {w : World} (h : wpSeg P ops C (fun a' => Q .normal a' w) q a) : wpPlan P ops Q C [] q a w := h
theorem seg_nil {C : World → Prop} {Q' : Act → Prop} {a : Act} (h : Q' a) : wpSeg P ops C Q' [] a := h
/-- One pulled operation, what follows behind a variable. -/
theorem seg_step {C : World → Prop} {Q' : Act → Prop} {i : Nat} {r : List Nat} {a : Act} {o : Oper} (ho : ops.toList[i]? = some o)
    (h : ∀ K : Act → Prop, (∀ a, wpSeg P ops C Q' r a → K a) → if Region.wanted o (yielded ops a.tmps) then ∃ v, (∀ w, C w → (execOp a.eval o).run P w = .ok (.value v) w) ∧ K (a.put o.dst v) else K (a.put o.dst undef)) : wpSeg P ops C Q' (i :: r) a := by
  have ho : ops[i]? = some o := by rw [← ho, Array.getElem?_toList]
  have h1 := h _ (fun _ h => h)
  by_cases hw : Region.wanted o (yielded ops a.tmps) = true
  · rw [if_pos hw] at h1
    obtain ⟨v, hv, hk⟩ := h1
    exact ⟨o, v, ho, .inl ⟨hw, hv⟩, hk⟩
  · rw [if_neg hw] at h1
    exact ⟨o, undef, ho, .inr ⟨by simpa using hw, rfl⟩, h1⟩
/-- One that reads, its value typed out. -/
theorem seg_read {C : World → Prop} {Q' : Act → Prop} {i : Nat} {r : List Nat} {a : Act} {o : Oper} (v : Value) (ho : ops.toList[i]? = some o) (hw : Region.wanted o (yielded ops a.tmps) = true)
    (hv : ∀ w, C w → (execOp a.eval o).run P w = .ok (.value v) w) (h : wpSeg P ops C Q' r (a.put o.dst v)) : wpSeg P ops C Q' (i :: r) a := ⟨o, v, by rw [← ho, Array.getElem?_toList], .inl ⟨hw, hv⟩, h⟩
/-- One whose guard says no. -/
theorem seg_off {C : World → Prop} {Q' : Act → Prop} {i : Nat} {r : List Nat} {a : Act} {o : Oper} (ho : ops.toList[i]? = some o) (hw : Region.wanted o (yielded ops a.tmps) = false)
    (h : wpSeg P ops C Q' r (a.put o.dst undef)) : wpSeg P ops C Q' (i :: r) a := ⟨o, undef, by rw [← ho, Array.getElem?_toList], .inr ⟨hw, rfl⟩, h⟩
/-- The effect. -/
theorem eff_step {i : Nat} {o : Oper} {K : Act → World → Prop} {a : Act} {w : World} (ho : ops.toList[i]? = some o)
    (h : ∀ K' : Act → World → Prop, (∀ a w, K a w → K' a w) → if Region.wanted o (yielded ops a.tmps) = true then Oper.wp P o a w K' Q else K' (a.put o.dst undef) w) : wpOp P ops Q i K a w :=
  wpOp_step (by rw [← ho, Array.getElem?_toList]) h
end
end Go.Proofs.YtnbjhdlnibmgdaaDoor

/-! Steps of a plan that read or store a whole row of cells. -/
namespace Go.Proofs.YtnbjhdlnibmgdaaDoor
open Go.RowKit

/-- One that reads a whole row. -/
theorem exec_load_st {P : Program} {E : Operand → Value} {o : Oper} {W : World} {t : TypeId} (ty : TypeId) (x : Operand) (ho : o.op = .load ty x) (g : Nat) (hx : E x = .pointer (some ⟨g, 0, none⟩)) (cells : Array Value) (f : Nat × Nat) (hg : W.heap[g]? = some (.cells cells t f)) (d : TypeDesc)
    (hu : P.underlying ty = some d) (hd : (match d with | .struct _ | .array _ _ => true | _ => false) = true) (hi : (P.info? ty).map (·.size) = some cells.size) : (execOp E o).run P W = .ok (.value (.agg cells)) W := by
  unfold execOp
  simp only [ho, hx, Instr.loadAt, Instr.sureAddr, Sem.run_bind, Sem.run_pure, Result.andThen_ok, run_loadVar_row W g t ty cells f d hg hu hd hi]
/-- The effect: a whole row is stored. -/
theorem eff_store_row {P : Program} {ops : Array Oper} {Q : Exit → Act → World → Prop} {i : Nat} {o : Oper} {K : Act → World → Prop} {a : Act} {w : World} (ho : ops.toList[i]? = some o) (hgd : o.guard = none) (ty : TypeId) (x y : Operand) (hop : o.op = .store ty x y)
    (g : Nat) (cells : Array Value) (hx : a.eval x = .pointer (some ⟨g, 0, none⟩)) (hy : a.eval y = .agg cells) (t : TypeId) (old : Array Value) (hg : w.heap[g]? = some (.cells old t (0, 0))) (hi : (P.info? ty).map (·.size) = some cells.size)
    (hold : old.size = cells.size) (h1 : cells.all (·.oneCell') = true) (h : K (a.put o.dst undef) (w.setRow g cells)) : wpOp P ops Q i K a w :=
  eff_step ho fun K' hK' => by
    rw [if_pos (by unfold Region.wanted; rw [hgd])]
    exact wp_store_row ty x y hop g cells hx hy t old hg hi hold h1 (hK' _ _ h)
/-- The effect: a slice of one is made. -/
theorem eff_lit1 {P : Program} {ops : Array Oper} {Q : Exit → Act → World → Prop} {i : Nat} {o : Oper} {K : Act → World → Prop} {a : Act} {w w' : World} (ho : ops.toList[i]? = some o) (hgd : o.guard = none) (t : TypeId) (x : Operand) (hop : o.op = .buildSlice t 1 #[(0, x)]) {u v' : Value} (hx : a.eval x = u)
    (hrun : (Instr.buildSlice t 1 #[(0, u)]).run P w = .ok v' w') (h : K (a.put o.dst v') w') : wpOp P ops Q i K a w :=
  eff_step ho fun K' hK' => by
    rw [if_pos (by unfold Region.wanted; rw [hgd])]
    unfold Oper.wp execOp
    simp only [hop, Sem.run_bind, Sem.run_pure, Result.andThen_ok, List.map_toArray, List.map_cons, List.map_nil, hx, hrun]
    exact hK' _ _ h
end Go.Proofs.YtnbjhdlnibmgdaaDoor

/-! A region that draws its order where, at one place, either of two operations may come up first: the plan is a tree. -/
namespace Go.Proofs.YtnbjhdlnibmgdaaDoor
open Go.RowKit
inductive Tree where
  | last (q : List Nat)
  | one (q : List Nat) (e : Nat) (t : Tree)
  | two (q : List Nat) (e1 : Nat) (t1 : Tree) (e2 : Nat) (t2 : Tree)
namespace Tree
def size : Tree → Nat
  | last q => q.length
  | one q _ t => q.length + (t.size + 1)
  | two q _ t1 _ _ => q.length + (t1.size + 1)
end Tree
section
variable {P : Program} {ops : Array Oper} {Q : Exit → Act → World → Prop} {md : Region.Mode}
def wpTree (P : Program) (ops : Array Oper) (Q : Exit → Act → World → Prop) : (World → Prop) → Tree → Act → World → Prop
  | C, .last q, a, w => wpSeg P ops C (fun a' => Q .normal a' w) q a
  | C, .one q e t, a, w => wpSeg P ops C (fun a1 => wpOp P ops Q e (fun a2 w2 => ∃ C' : World → Prop, C' w2 ∧ (∀ W, C' W → C W) ∧ wpTree P ops Q C' t a2 w2) a1 w) q a
  | C, .two q e1 t1 e2 t2, a, w => wpSeg P ops C (fun a1 => wpOp P ops Q e1 (fun a2 w2 => ∃ C' : World → Prop, C' w2 ∧ (∀ W, C' W → C W) ∧ wpTree P ops Q C' t1 a2 w2) a1 w ∧
      wpOp P ops Q e2 (fun a2 w2 => ∃ C' : World → Prop, C' w2 ∧ (∀ W, C' W → C W) ∧ wpTree P ops Q C' t2 a2 w2) a1 w) q a
def treeB (md : Region.Mode) (ops : Array Oper) : Array Bool → Tree → Bool
  | listed, .last q => segB md ops listed q && (Region.ready md ops (listedBy listed q)).isEmpty
  | listed, .one q e t => segB md ops listed q && (Region.ready md ops (listedBy listed q) == [e]) && treeB md ops ((listedBy listed q).setIfInBounds e true) t
  | listed, .two q e1 t1 e2 t2 => segB md ops listed q && (Region.ready md ops (listedBy listed q) == [e1, e2]) && (treeB md ops ((listedBy listed q).setIfInBounds e1 true) t1 && (treeB md ops ((listedBy listed q).setIfInBounds e2 true) t2 && (t1.size == t2.size)))

theorem wpAnyH_tree (hs : Region.noSelect ops = true) (hQ : ∀ c a d v w, Q (.panic c) (Act.put a d v) w → Q (.panic c) a w) :
    ∀ (t : Tree) (C : World → Prop) (listed : Array Bool) (a : Act) (w : World), C w → treeB md ops listed t = true → wpTree P ops Q C t a w → wpAnyH P md ops Q C t.size listed a w
  | .last q, C, listed, a, w, hC, hB, h => by
    simp only [treeB, Bool.and_eq_true] at hB
    have := wpAnyH_seg (fuel := 0) hs hQ hC q listed a hB.1 h fun a' h' => wpAnyH_done (by simpa using hB.2) h' 0
    simpa [Tree.size] using this
  | .one q e t, C, listed, a, w, hC, hB, h => by
    simp only [treeB, Bool.and_eq_true, beq_iff_eq] at hB
    obtain ⟨⟨hB1, hB2⟩, hB3⟩ := hB
    have := wpAnyH_seg (fuel := t.size + 1) hs hQ hC q listed a hB1 h fun a' h' => by
      refine wpAnyH_all hB2 (by simp) fun i hi => ?_
      rw [List.mem_singleton.1 hi]
      refine wpOp_mono ?_ h'
      rintro a2 w2 ⟨C', hC', hsub, hp⟩
      exact ⟨hsub _ hC', wpAnyH_mono hsub _ _ _ _ (wpAnyH_tree hs hQ t C' _ a2 w2 hC' hB3 hp)⟩
    simpa [Tree.size, Nat.add_comm, Nat.add_left_comm] using this
  | .two q e1 t1 e2 t2, C, listed, a, w, hC, hB, h => by
    simp only [treeB, Bool.and_eq_true, beq_iff_eq] at hB
    obtain ⟨⟨hB1, hB2⟩, hB3, hB4, hB5⟩ := hB
    have := wpAnyH_seg (fuel := t1.size + 1) hs hQ hC q listed a hB1 h fun a' h' => by
      refine wpAnyH_all hB2 (by simp) fun i hi => ?_
      simp only [List.mem_cons, List.not_mem_nil, or_false] at hi
      rcases hi with rfl | rfl
      · refine wpOp_mono ?_ h'.1
        rintro a2 w2 ⟨C', hC', hsub, hp⟩
        exact ⟨hsub _ hC', wpAnyH_mono hsub _ _ _ _ (wpAnyH_tree hs hQ t1 C' _ a2 w2 hC' hB3 hp)⟩
      · refine wpOp_mono ?_ h'.2
        rintro a2 w2 ⟨C', hC', hsub, hp⟩
        rw [hB5]
        exact ⟨hsub _ hC', wpAnyH_mono hsub _ _ _ _ (wpAnyH_tree hs hQ t2 C' _ a2 w2 hC' hB4 hp)⟩
    simpa [Tree.size, Nat.add_comm, Nat.add_left_comm] using this

/-- THE LAW. -/
theorem wp_region_tree {id : Nat} {a : Act} {w : World} (C : World → Prop) (t : Tree) (hm : P.follows .mixedOrders = true)
    (hB : (Region.noSelect ops && treeB .any ops (Array.replicate ops.size false) t && (t.size == ops.size)) = true)
    (hQ : ∀ c a d v w, Q (.panic c) (Act.put a d v) w → Q (.panic c) a w) (hC : C w.drew) (h : wpTree P ops Q C t a w.drew) : (Code.region id ops true).wp P Q a w := by
  simp only [Bool.and_eq_true, beq_iff_eq] at hB
  obtain ⟨⟨h1, h2⟩, h3⟩ := hB
  have hf := wpAnyH_tree (md := .any) h1 hQ t C _ a _ hC h2 h
  rw [h3] at hf
  exact wp_region_held hm hf
theorem tree_last {C : World → Prop} {q : List Nat} {a : Act} {w : World} (h : wpSeg P ops C (fun a' => Q .normal a' w) q a) : wpTree P ops Q C (.last q) a w := h
theorem tree_one {C : World → Prop} {q : List Nat} {e : Nat} {t : Tree} {a : Act} {w : World}
    (h : wpSeg P ops C (fun a1 => wpOp P ops Q e (fun a2 w2 => ∃ C' : World → Prop, C' w2 ∧ (∀ W, C' W → C W) ∧ wpTree P ops Q C' t a2 w2) a1 w) q a) : wpTree P ops Q C (.one q e t) a w := h
theorem tree_two {C : World → Prop} {q : List Nat} {e1 e2 : Nat} {t1 t2 : Tree} {a : Act} {w : World}
    (h : wpSeg P ops C (fun a1 => wpOp P ops Q e1 (fun a2 w2 => ∃ C' : World → Prop, C' w2 ∧ (∀ W, C' W → C W) ∧ wpTree P ops Q C' t1 a2 w2) a1 w ∧
      wpOp P ops Q e2 (fun a2 w2 => ∃ C' : World → Prop, C' w2 ∧ (∀ W, C' W → C W) ∧ wpTree P ops Q C' t2 a2 w2) a1 w) q a) : wpTree P ops Q C (.two q e1 t1 e2 t2) a w := h
end
end Go.Proofs.YtnbjhdlnibmgdaaDoor

/-! make([]byte, n), and a block of bytes known whole. -/
namespace Go.Proofs.YtnbjhdlnibmgdaaDoor
open Go.RowKit

theorem made_zero (c : Nat) : (madeCells #[Value.int .u8 0] (c * 1)).toList = u8s (List.replicate c 0) := by
  simp only [madeCells, u8s, Nat.mul_one]
  apply List.ext_getElem
  · simp
  · intro i h1 h2
    simp [Nat.mod_one]

/-- make([]byte, n) -/
theorem make_bytes (w : World) (N : Nat) (h : N ≤ 1000000) : (Instr.makeSlice 24 (.int .i64 (N : Int)) (.int .i64 (N : Int))).run Tryd.prog w = .ok (.slice (some ⟨w.heap.size, 0, none⟩) N N) (w.alloc (.cells (u8s (List.replicate N 0)).toArray 5)) := by
  obtain ⟨i0, hi, hz0, hz1, hz2⟩ := info_parts u8_info
  have hmk := run_make (P := Tryd.prog) (t := 24) (e := 5) w i0 (.int .u8 0) Tryd.underlying24 hi hz0 .i64 .i64 (N : Int) (N : Int) (by omega) (by omega) (by rw [hz2]; omega) (by omega)
  rw [hmk, hz1]
  have hm0 : madeCells (Value.int .u8 0).cells ((N : Int).toNat * 1) = (u8s (List.replicate N 0)).toArray := by
    apply Array.toList_inj.1
    rw [Int.toNat_natCast]
    exact made_zero N
  rw [hm0]
  simp
end Go.Proofs.YtnbjhdlnibmgdaaDoor
