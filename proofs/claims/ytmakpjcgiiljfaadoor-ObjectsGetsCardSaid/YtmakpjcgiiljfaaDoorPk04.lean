/-
  codec.Reader.Id.
  Objects, pure: what may be, its bytes, and the object of bytes.
  The string of a row of bytes.
  Strings of bytes: read, cut, held against each other.
  strings.Clone: a string's copy.
  Files: the library's strings.Index, Cut at one byte, Compare, HasPrefix; bytes.Equal.
  A range over a function whose iterator makes memory of its own and hands out what lies in it: what the iterator promises (Iter), and the law for the loop.
  A range over a function whose iterator keeps state in cells Z that were there ahead of the loop: what it promises (IterZ), and the law for the loop.
  []byte(s) of any string.
-/
import Derived.Test.YtmakpjcgiiljfaaDoorPk02
import Derived.Test.YtmakpjcgiiljfaaDoorPk01
import Derived.Test.YtmakpjcgiiljfaaDoorPk03
import Derived.Deep.MidRow
import Derived.Lib.Strings
import Derived.Lib.Walk
import Derived.Lib.BufferWrite
import Derived.Lib.UnsafeStr
import Derived.Laws.MakeOwn
import Derived.Lib.Slices
import Derived.Lib.Bytealg
import Derived.RangeFuncNested
import Derived.RangeFuncBound
import Derived.RangeFuncCalls
import Derived.RangeFuncLeaves
import Derived.Laws.IdiomStrings
/-! codec.Reader.Id. -/
namespace Go.Proofs.YtmakpjcgiiljfaaDoor
open Go.RowKit Codec

/-- The cells of the digest that is told. -/
def idL (l : List UInt8) (e : Int) : List UInt8 := if tkE l e 32 = 0 then l.take 32 else List.replicate 32 0
def idC (l : List UInt8) (e : Int) : Array Value := (u8s (idL l e)).toArray
theorem idL_length (l : List UInt8) (e : Int) : (idL l e).length = 32 := by
  unfold idL
  split
  · rename_i h
    obtain ⟨_, _, h1⟩ := tkE_zero h
    rw [List.length_take]
    have : (32 : Int).toNat = 32 := rfl
    omega
  · simp

theorem u8s_allc (l : List UInt8) : (u8s l).toArray.all (·.oneCell') = true := all_oneCell_toArray (u8s_one l)
theorem zeros32 : (u8s (List.replicate 32 0)).toArray = #[.int .u8 0, .int .u8 0, .int .u8 0, .int .u8 0, .int .u8 0, .int .u8 0, .int .u8 0, .int .u8 0, .int .u8 0, .int .u8 0, .int .u8 0, .int .u8 0, .int .u8 0, .int .u8 0, .int .u8 0, .int .u8 0,
    .int .u8 0, .int .u8 0, .int .u8 0, .int .u8 0, .int .u8 0, .int .u8 0, .int .u8 0, .int .u8 0, .int .u8 0, .int .u8 0, .int .u8 0, .int .u8 0, .int .u8 0, .int .u8 0, .int .u8 0, .int .u8 0] := by rfl
theorem gr_setRow {a w : World} {row : Option Nat} (h : a.grownBy w row) {g : Nat} (hg : a.heap.size ≤ g) (cs : Array Value) : a.grownBy (w.setRow g cs) row :=
  ⟨h.os, h.tape, h.output, by simpa [World.setRow] using h.size, fun i hi hne => by
    rw [← h.block i hi hne]
    simp only [World.setRow, Array.getElem?_modify]
    rw [if_neg (by omega)]⟩
theorem gr_of_alloc {w w1 : World} {o : Obj} {row : Option Nat} (h : (w.alloc o).grownBy w1 row) : w.grownBy w1 row := gr_trans (gr_alloc (gr_refl w row) o) h
theorem gr_row (w : World) (g : Nat) (cs : Array Value) : w.grownBy (w.setRow g cs) (some g) :=
  ⟨rfl, rfl, rfl, by simp [World.setRow], fun i hi hne => by
    simp only [World.setRow, Array.getElem?_modify]
    rw [if_neg (fun e => hne (by rw [e]))]⟩

theorem run_storeAt_row {P : Program} (w : World) (g : Nat) (ty : TypeId) (cells : List Value) (old : Array Value) {t : TypeId} (hg : w.heap[g]? = some (.cells old t (0, 0))) (hi : (P.info? ty).map (·.size) = some cells.toArray.size)
    (ho : old.size = cells.toArray.size) (h1 : cells.toArray.all (·.oneCell') = true) :
    (Instr.storeAt ty (.pointer (some ⟨g, 0, none⟩)) (.agg cells.toArray)).run P w = .ok () (w.setRow g cells.toArray) := by
  simp only [Instr.storeAt, Instr.sureAddr, Sem.run_bind, Sem.run_pure, Result.andThen_ok]
  exact run_storeVar_row w g t ty old cells.toArray hg hi ho h1

theorem run_arrayAt {P : Program} (w : World) (t : TypeId) (n : Nat) (e : TypeId) (hu : P.underlying t = some (.array n e)) (A : Option Addr) (len c : Nat) (hn : n ≤ len) :
    (Instr.arrayAt t (.slice A len c)).run P w = .ok (.pointer A) w := by
  simp [Instr.arrayAt, Sem.run_bind, run_underlying hu]
  omega

def Z32 : Array Value := (u8s (List.replicate 32 0)).toArray
theorem build_id : ∀ w, (Instr.build 49 #[]).run Tryd.prog w = .ok (.agg Z32) w := by
  intro w
  unfold Z32
  rw [zeros32]
  kernel_rfl

/-- An operation 'T{}' of a struct or an array, its value by a closed fact. -/
theorem wpList_build0 {P : Program} {ops : Array Oper} {rest : List Oper} {op : Oper} {a : Act} {w : World} {Q : Exit → Act → World → Prop} (hgd : op.guard = none) (t : TypeId) (ho : op.op = .build t #[]) (v : Value)
    (hb : ∀ w, (Instr.build t #[]).run P w = .ok v w) (h : wpList P ops Q rest (a.put op.dst v) w) : wpList P ops Q (op :: rest) a w :=
  wpList_plain hgd fun _ hK => by
    unfold Oper.wp execOp
    simp only [ho, List.map_toArray, List.map_nil, hb, Sem.run_bind, Sem.run_pure, Result.andThen_ok]
    exact hK _ _ h

set_option maxHeartbeats 1000000 in
theorem id_any {w : World} {S : Nat → Prop} {p : Nat} {l : List UInt8} {e : Int} (h : Rd w S p l e) :
    Calls Tryd.prog 48 #[.pointer (some ⟨p, 0, none⟩)] w fun r w' => r = .returned (.agg (idC l e)) ∧ Rd w' S p (fxL l e 32) (tkE l e 32) ∧ w.grownBy w' (some p) := by
  have hnil := fun (w : World) (a : Option Addr) (n c : Nat) => Lib.run_eql_slice_nil (P := Tryd.prog) w 22 5 a n c 0 0 Tryd.underlying22
  have hlt := h.lt
  have h := h.mono (T := fun b => S b ∧ b < w.heap.size) fun b hb hs => ⟨hs, hb⟩
  unfold idC idL fxL
  by_cases hk : tkE l e 32 = 0
  · obtain ⟨rfl, _, h1⟩ := tkE_zero hk
    simp only [hk, if_true]
    clear hk
    go_enter Tryd.func48, Tryd.ntmps48
    go_wp2_with fail
    refine (take_ok (m := 32) (h.below ((Below.refl _ _).alloc (Nat.le_refl _) _)) (by simpa using h1)).mono ?_
    rintro _ w1 ⟨A, rfl, hR, hY, hb⟩
    obtain ⟨bb, off, rfl, _, _, hcell⟩ := hY.row (by omega)
    have hg1 := (hb.block w.heap.size (by simp) (by intro e; injection e; omega)).trans (heap_alloc_new w _)
    have hl32 : (l.take 32).length = 32 := hY.len
    have hrange : w1.rangeAt bb off (u8s (l.take 32)) := fun j v hj => by
      have := byt_news hY j v hj
      rwa [add_plain] at this
    have hi32 : (Tryd.prog.info? 49).map (·.size) = some (u8s (l.take 32)).length := by rw [u8s_length, hl32]; exact id_info
    have hsz : (u8s (l.take 32)).toArray.size = 32 := by simp [u8s_length, hl32]
    have hsa := run_arrayAt (P := Tryd.prog) w1 49 32 5 Tryd.underlying49 (some ⟨bb, off, none⟩) 32 32 (by omega)
    have hi33 : (Tryd.prog.info? 49).map (·.size) = some (u8s (l.take 32)).toArray.size := by rw [hsz]; exact id_info
    have HI := Lib.hid (And.intro hi32 hi33)
    have HR := Lib.hid hrange
    have HS := Lib.hid hsz
    have HY := Lib.hid hY
    clear hrange hcell hl32 hsz hY hi32 hi33
    go_wp2_with (first | (refine wpList_load_mid (by rfl) 49 (.tmp 10) (by rfl) bb off (by rfl) (u8s (l.take 32)) _ HR.out Tryd.underlying49 (by rfl) HI.out.1 ?_) | (refine wpList_store_row (by rfl) 49 (.tmp 2) (.tmp 11) (by rfl) w.heap.size (u8s (l.take 32)).toArray (by rfl) (by rfl) 49 _ hg1 HI.out.2 (by rw [HS.out]; rfl) (u8s_allc _) ?_))
    refine bodyPost_ret (results_cell_row rfl _ _ w.heap.size 49 (u8s (l.take 32)).toArray (0, 0) _ rfl (setRow_at hg1) Tryd.underlying49 rfl HI.out.2) rfl ⟨rfl, ?_, ?_⟩
    · exact (hR.grown (gr_row w1 w.heap.size _) (fun g hg hs => by injection hg with hg; have := hs.2; omega)).mono fun _ _ hs => hs.1
    · exact gr_setRow (gr_of_alloc hb) (Nat.le_refl _) _
  · simp only [hk, if_false]
    go_enter Tryd.func48, Tryd.ntmps48
    go_wp2_with fail
    refine (ctake_bad (h.below ((Below.refl _ _).alloc (Nat.le_refl _) _)) hk).mono ?_
    rintro _ w1 ⟨rfl, hR, hb⟩
    have hg1 := (hb.block w.heap.size (by simp) (by intro e; injection e; omega)).trans (heap_alloc_new w _)
    go_wp2_with (first | (refine wpList_build0 (by rfl) 49 (by rfl) (.agg Z32) build_id ?_) | (refine wpList_store_row (by rfl) 49 (.tmp 2) (.tmp 8) (by rfl) w.heap.size Z32 (by rfl) (by rfl) 49 _ hg1 (by unfold Z32; rw [zeros32]; exact id_info) (by unfold Z32; rw [zeros32]) (u8s_allc _) ?_))
    refine bodyPost_ret (results_cell_row rfl _ _ w.heap.size 49 Z32 (0, 0) _ rfl (setRow_at hg1) Tryd.underlying49 rfl (by unfold Z32; rw [zeros32]; exact id_info)) rfl ⟨rfl, ?_, ?_⟩
    · exact (hR.grown (gr_row w1 w.heap.size _) (fun g hg hs => by injection hg with hg; have := hs.2; omega)).mono fun _ _ hs => hs.1
    · exact gr_setRow (gr_of_alloc hb) (Nat.le_refl _) _
end Go.Proofs.YtmakpjcgiiljfaaDoor

/-! Objects, pure: what may be, its bytes, and the object of bytes. -/
namespace Go.Proofs.YtmakpjcgiiljfaaDoor
open Go.RowKit Codec

/-- An entry: its name, whether it is a directory, its id. -/
abbrev En := List UInt8 × Bool × List UInt8
/-- AN OBJECT. -/
structure Ob where
  k : Nat
  b : List UInt8
  z : Nat
  ids : List (List UInt8)
  es : List En
  lb : List UInt8
def obZ : Ob := ⟨0, [], 0, [], [], []⟩
/-- Ids have 32 bytes, numbers their bits. -/
structure Ob.Wf (x : Ob) : Prop where
  k : x.k < 256
  z : x.z < 18446744073709551616
  ids : ∀ y ∈ x.ids, y.length = 32
  es : ∀ y ∈ x.es, y.2.2.length = 32
theorem obZ_wf : obZ.Wf := ⟨by decide, by decide, (fun _ h => by cases h), (fun _ h => by cases h)⟩
def Ob.none (x : Ob) : Bool := decide (x.b = []) && (decide (x.z = 0) && (decide (x.ids = []) && (decide (x.es = []) && decide (x.lb = []))))
/-- A name. -/
def nmE (l : List UInt8) : Bool := pathOk l && decide (47 ∉ l)
def okE (l : List En) (i : Nat) : Bool := match l[i]? with
  | .none => true
  | some y => nmE y.1 && (match i with
    | 0 => true
    | j + 1 => match l[j]? with
      | .none => true
      | some z => decide (z.1 < y.1))
def riseE (l : List En) : Bool := (List.range l.length).all (okE l)
theorem rise_all {l : List En} {n : Nat} (hn : l.length = n) (h : ∀ i, i < n → okE l i = true) : riseE l = true := by
  unfold riseE
  rw [List.all_eq_true]
  intro i hi
  exact h i (by rw [← hn]; exact List.mem_range.1 hi)
theorem rise_not {l : List En} {i : Nat} (hi : i < l.length) (h : okE l i = false) : riseE l = false := by
  unfold riseE
  rw [List.all_eq_false]
  exact ⟨i, List.mem_range.2 hi, by rw [h]; decide⟩
theorem rise_ok {l : List En} (h : riseE l = true) {i : Nat} (hi : i < l.length) : okE l i = true := by
  unfold riseE at h
  exact List.all_eq_true.1 h i (List.mem_range.2 hi)
theorem okE_nm {l : List En} {i : Nat} {y : En} (hy : l[i]? = some y) (h : okE l i = true) : nmE y.1 = true := by
  unfold okE at h
  rw [hy] at h
  simp only [Bool.and_eq_true] at h
  exact h.1
theorem okE_zero {l : List En} {y : En} (hy : l[0]? = some y) : okE l 0 = nmE y.1 := by
  unfold okE
  rw [hy]
  simp
theorem okE_succ {l : List En} {j : Nat} {y z : En} (hy : l[j + 1]? = some y) (hz : l[j]? = some z) : okE l (j + 1) = (nmE y.1 && decide (z.1 < y.1)) := by
  unfold okE
  rw [hy]
  simp only
  rw [hz]
theorem okE_bad {l : List En} {i : Nat} {y : En} (hy : l[i]? = some y) (h : nmE y.1 = false) : okE l i = false := by
  unfold okE
  rw [hy]
  simp [h]
theorem rise_len {l : List En} (h : riseE l = true) : ∀ y ∈ l, y.1.length ≤ 255 := fun y hy => by
  obtain ⟨i, hi, rfl⟩ := List.getElem_of_mem hy
  have h1 := okE_nm (List.getElem?_eq_getElem hi) (rise_ok h hi)
  unfold nmE at h1
  simp only [Bool.and_eq_true] at h1
  exact pathOk_len h1.1
/-- MAY IT BE? -/
def Ob.piece (x : Ob) : Bool := decide (x.b.length ≤ 32768) && { x with b := [] }.none
def Ob.list (x : Ob) : Bool := decide (x.ids.length ≤ 1000) && (decide (x.z ≤ 1048576) && (decide (x.ids.length = 0) == decide (x.z = 0))) && { x with ids := [], z := 0 }.none
def Ob.dir (x : Ob) : Bool := decide (x.es.length ≤ 500) && riseE x.es && { x with es := [] }.none
def Ob.snap (x : Ob) : Bool := decide (x.ids.length = 1) && decide (x.lb.length ≤ 255) && { x with z := 0, ids := [], lb := [] }.none
def mayO (x : Ob) : Bool := if x.k = 1 then x.piece else if x.k = 2 then x.list else if x.k = 3 then x.dir else if x.k = 4 then x.snap else false
def chkO (x : Ob) : Int := if mayO x = true then 0 else 1
theorem chk_may {x : Ob} (h : chkO x = 0) : mayO x = true := by
  unfold chkO at h
  split at h
  · assumption
  · cases h
theorem none_spec {x : Ob} (h : x.none = true) : x.b = [] ∧ x.z = 0 ∧ x.ids = [] ∧ x.es = [] ∧ x.lb = [] := by
  unfold Ob.none at h
  simpa using h
/-- What may be is one of four. -/
theorem may_cases {x : Ob} (h : mayO x = true) :
    (x.k = 1 ∧ x.b.length ≤ 32768 ∧ x.z = 0 ∧ x.ids = [] ∧ x.es = [] ∧ x.lb = []) ∨
    (x.k = 2 ∧ x.ids.length ≤ 1000 ∧ x.z ≤ 1048576 ∧ (x.ids.length = 0 ↔ x.z = 0) ∧ x.b = [] ∧ x.es = [] ∧ x.lb = []) ∨
    (x.k = 3 ∧ x.es.length ≤ 500 ∧ riseE x.es = true ∧ x.b = [] ∧ x.z = 0 ∧ x.ids = [] ∧ x.lb = []) ∨
    (x.k = 4 ∧ x.ids.length = 1 ∧ x.lb.length ≤ 255 ∧ x.b = [] ∧ x.es = []) := by
  unfold mayO at h
  split at h
  · rename_i hk
    unfold Ob.piece at h
    simp only [Bool.and_eq_true, decide_eq_true_eq] at h
    obtain ⟨_, h2, h3, h4, h5⟩ := none_spec h.2
    exact .inl ⟨hk, h.1, h2, h3, h4, h5⟩
  · split at h
    · rename_i hk
      unfold Ob.list at h
      simp only [Bool.and_eq_true, decide_eq_true_eq, beq_iff_eq, decide_eq_decide] at h
      obtain ⟨h1, _, _, h4, h5⟩ := none_spec h.2
      exact .inr (.inl ⟨hk, h.1.1, h.1.2.1, h.1.2.2, h1, h4, h5⟩)
    · split at h
      · rename_i hk
        unfold Ob.dir at h
        simp only [Bool.and_eq_true, decide_eq_true_eq] at h
        obtain ⟨h1, h2, h3, _, h5⟩ := none_spec h.2
        exact .inr (.inr (.inl ⟨hk, h.1.1, h.1.2, h1, h2, h3, h5⟩))
      · split at h
        · rename_i hk
          unfold Ob.snap at h
          simp only [Bool.and_eq_true, decide_eq_true_eq] at h
          obtain ⟨h1, _, _, h4, _⟩ := none_spec h.2
          exact .inr (.inr (.inr ⟨hk, h.1.1, h.1.2, h1, h4⟩))
        · cases h
theorem may_k {x : Ob} (h : mayO x = true) : 1 ≤ x.k ∧ x.k ≤ 4 := by
  rcases may_cases h with h | h | h | h <;> omega
/-- What it is bounded by. -/
structure Ob.Small (x : Ob) : Prop where
  b : x.b.length ≤ 32768
  ids : x.ids.length ≤ 1000
  es : x.es.length ≤ 500
  nm : ∀ y ∈ x.es, y.1.length ≤ 255
  lb : x.lb.length ≤ 255
theorem may_small {x : Ob} (h : mayO x = true) : x.Small := by
  rcases may_cases h with ⟨_, h1, h2, h3, h4, h5⟩ | ⟨_, h1, h2, h3, h4, h5, h6⟩ | ⟨_, h1, h2, h3, h4, h5, h6⟩ | ⟨_, h1, h2, h3, h4⟩
  · exact ⟨h1, by simp [h3], by simp [h4], by simp [h4], by simp [h5]⟩
  · exact ⟨by simp [h4], h1, by simp [h5], by simp [h5], by simp [h6]⟩
  · exact ⟨by simp [h3], by simp [h5], h1, rise_len h2, by simp [h6]⟩
  · exact ⟨by simp [h3], by omega, by simp [h4], by simp [h4], h2⟩

/-! ### its bytes -/
def yesB (b : Bool) : List UInt8 := if b then [1] else [0]
def enB (y : En) : List UInt8 := put y.1.length ++ y.1 ++ (yesB y.2.1 ++ y.2.2)
def ensB (l : List En) : List UInt8 := (l.map enB).flatten
def putO (x : Ob) : List UInt8 :=
  if x.k = 1 then put 1 ++ (put x.b.length ++ x.b)
  else if x.k = 2 then put 2 ++ put x.z ++ put x.ids.length ++ x.ids.flatten
  else if x.k = 3 then put 3 ++ put x.es.length ++ ensB x.es
  else put x.k ++ put x.z ++ x.ids.flatten ++ (put x.lb.length ++ x.lb)
/-- What Put tells. -/
def poB (x : Ob) : List UInt8 := if chkO x = 0 then putO x else []

/-! ### the object of bytes -/
def igo : Nat → List (List UInt8) → List UInt8 → Int → List (List UInt8) × List UInt8 × Int
  | 0, acc, l, e => (acc, l, e)
  | m + 1, acc, l, e => igo m (acc ++ [idL l e]) (fxL l e 32) (tkE l e 32)
def enN (l : List UInt8) (e : Int) : List UInt8 := byB l e 255
def enL1 (l : List UInt8) (e : Int) : List UInt8 := byL l e 255
def enE1 (l : List UInt8) (e : Int) : Int := byE l e 255
def enD (l : List UInt8) (e : Int) : Bool := boX (enL1 l e) (enE1 l e)
def enL2 (l : List UInt8) (e : Int) : List UInt8 := fxL (enL1 l e) (enE1 l e) 1
def enE2 (l : List UInt8) (e : Int) : Int := boE (enL1 l e) (enE1 l e)
def enI (l : List UInt8) (e : Int) : List UInt8 := idL (enL2 l e) (enE2 l e)
def enL3 (l : List UInt8) (e : Int) : List UInt8 := fxL (enL2 l e) (enE2 l e) 32
def enE3 (l : List UInt8) (e : Int) : Int := tkE (enL2 l e) (enE2 l e) 32
def ego : Nat → List En → List UInt8 → Int → List En × List UInt8 × Int
  | 0, acc, l, e => (acc, l, e)
  | m + 1, acc, l, e => ego m (acc ++ [(enN l e, enD l e, enI l e)]) (enL3 l e) (enE3 l e)
/-- What is read of bytes: the object, an error of reading's own, what is left, the reader's error. -/
def readO (l : List UInt8) : Ob × Int × List UInt8 × Int :=
  if uiE l 0 ≠ 0 then (obZ, uiE l 0, uiL l 0, uiE l 0)
  else if uiX l 0 < 1 ∨ 4 < uiX l 0 then (obZ, 11, uiL l 0, 0)
  else if uiX l 0 = 1 then ({ obZ with k := 1, b := byB (uiL l 0) 0 32768 }, 0, byL (uiL l 0) 0 32768, byE (uiL l 0) 0 32768)
  else if uiX l 0 = 2 then
    (if 1000 < uiX (uiL (uiL l 0) 0) (uiE (uiL l 0) 0) then ({ obZ with k := 2, z := uiX (uiL l 0) 0 }, 11, uiL (uiL (uiL l 0) 0) (uiE (uiL l 0) 0), uiE (uiL (uiL l 0) 0) (uiE (uiL l 0) 0))
     else let r := igo (uiX (uiL (uiL l 0) 0) (uiE (uiL l 0) 0)) [] (uiL (uiL (uiL l 0) 0) (uiE (uiL l 0) 0)) (uiE (uiL (uiL l 0) 0) (uiE (uiL l 0) 0))
      ({ obZ with k := 2, z := uiX (uiL l 0) 0, ids := r.1 }, 0, r.2.1, r.2.2))
  else if uiX l 0 = 3 then
    (if 500 < uiX (uiL l 0) 0 then ({ obZ with k := 3 }, 11, uiL (uiL l 0) 0, uiE (uiL l 0) 0)
     else let r := ego (uiX (uiL l 0) 0) [] (uiL (uiL l 0) 0) (uiE (uiL l 0) 0)
      ({ obZ with k := 3, es := r.1 }, 0, r.2.1, r.2.2))
  else
    let l1 := uiL (uiL l 0) 0
    let e1 := uiE (uiL l 0) 0
    ({ obZ with k := 4, z := uiX (uiL l 0) 0, ids := [idL l1 e1], lb := byB (fxL l1 e1 32) (tkE l1 e1 32) 255 }, 0, byL (fxL l1 e1 32) (tkE l1 e1 32) 255, byE (fxL l1 e1 32) (tkE l1 e1 32) 255)
def endO (r : Ob × Int × List UInt8 × Int) : Ob × Int :=
  if r.2.1 ≠ 0 then (obZ, r.2.1) else if endE r.2.2.1 r.2.2.2 ≠ 0 then (obZ, endE r.2.2.1 r.2.2.2) else if chkO r.1 ≠ 0 then (obZ, 11) else (r.1, 0)
/-- THE OBJECT OF BYTES. -/
def getO (b : List UInt8) : Ob × Int := endO (readO b)
/-- Are two the same? -/
def sameO (a b : Ob) : Bool := decide (a.k = b.k) && decide (a.b = b.b) && decide (a.z = b.z) && decide (a.lb = b.lb) && decide (a.ids = b.ids) && decide (a.es = b.es)
theorem same_iff {a b : Ob} : sameO a b = true ↔ a = b := by
  unfold sameO
  obtain ⟨a1, a2, a3, a4, a5, a6⟩ := a
  obtain ⟨b1, b2, b3, b4, b5, b6⟩ := b
  simp only [Bool.and_eq_true, decide_eq_true_eq, Ob.mk.injEq]
  constructor
  · rintro ⟨⟨⟨⟨⟨h1, h2⟩, h3⟩, h4⟩, h5⟩, h6⟩
    exact ⟨h1, h2, h3, h5, h6, h4⟩
  · rintro ⟨h1, h2, h3, h5, h6, h4⟩
    exact ⟨⟨⟨⟨⟨h1, h2⟩, h3⟩, h4⟩, h5⟩, h6⟩
theorem same_self (a : Ob) : sameO a a = true := same_iff.2 rfl
theorem sameO_comm (a b : Ob) : sameO a b = sameO b a := by
  rw [Bool.eq_iff_iff, same_iff, same_iff]
  exact eq_comm
end Go.Proofs.YtmakpjcgiiljfaaDoor

/-! The string of a row of bytes. -/
namespace Go.Proofs.YtmakpjcgiiljfaaDoor
open Go.RowKit

theorem st_list (l : List UInt8) : (st l).toList = l := by simp [st]
theorem st_app (l m : List UInt8) : st l ++ st m = st (l ++ m) := by
  unfold st
  apply ByteArray.ext
  simp
theorem st_extract (l : List UInt8) (a b : Nat) : (st l).extract a b = st ((l.drop a).take (b - a)) := by
  apply ByteArray.ext
  unfold st
  simp
end Go.Proofs.YtmakpjcgiiljfaaDoor

/-! Strings of bytes: read, cut, held against each other. -/
namespace Go.Proofs.YtmakpjcgiiljfaaDoor
open Go.RowKit

section
variable {P : Program} (t : TypeId) (h : P.underlying t = some .string) (l : List UInt8) (W : World)
include h
theorem sti_at (i : Nat) (hi : i < l.length) : (Instr.index t (.string (st l)) (.int .i64 (i : Int))).run P W = .ok (.int .u8 ((l[i]?.getD 0).toNat : Int)) W := by
  rw [run_index_string W t (st l) .i64 (i : Int) h, dif_pos ⟨by omega, by rw [st_size]; omega⟩]
  congr 4
  rw [List.getElem?_eq_getElem hi, Option.getD_some]
  rfl
theorem st_index (i : Nat) (ii : Int) (e : ii = (i : Int)) (hi : i < l.length) : (Instr.index t (.string (st l)) (.int .i64 ii)).run P W = .ok (.int .u8 ((l[i]?.getD 0).toNat : Int)) W := by
  subst e
  exact sti_at t h l W i hi
theorem st_to (k : Nat) (kk : Int) (e : kk = (k : Int)) (hk : k ≤ l.length) : (Instr.slice t (.string (st l)) none (some (.int .i64 kk)) none).run P W = .ok (.string (st (l.take k))) W := by
  subst e
  rw [run_slice_string_h W t (st l) h .i64 (k : Int) (by omega) (by rw [st_size]; omega), st_extract]
  simp
theorem st_from (k : Nat) (kk : Int) (e : kk = (k : Int)) (hk : k ≤ l.length) : (Instr.slice t (.string (st l)) (some (.int .i64 kk)) none none).run P W = .ok (.string (st (l.drop k))) W := by
  subst e
  rw [run_slice_string_l W t (st l) h .i64 (k : Int) (by omega) (by rw [st_size]; omega), st_extract, st_size, List.take_of_length_le (by simp)]
  simp
theorem st_mid (j k : Nat) (jj kk : Int) (ej : jj = (j : Int)) (e : kk = (k : Int)) (hj : j ≤ k) (hk : k ≤ l.length) : (Instr.slice t (.string (st l)) (some (.int .i64 jj)) (some (.int .i64 kk)) none).run P W = .ok (.string (st ((l.drop j).take (k - j)))) W := by
  subst e ej
  rw [run_slice_string_if, if_pos ⟨by omega, by rw [st_size]; omega⟩, if_pos ⟨by omega, by omega⟩, st_extract]
  · simp
  · exact h
end
theorem st_inj {a b : List UInt8} : st a = st b ↔ a = b := by
  constructor
  · intro h
    have := congrArg ByteArray.toList h
    rwa [st_list, st_list] at this
  · rintro rfl
    rfl
theorem st_beq (a b : List UInt8) : ((st a).toList == (st b).toList) = decide (a = b) := by
  rw [st_list, st_list]
  by_cases h : a = b <;> simp [h]
end Go.Proofs.YtmakpjcgiiljfaaDoor

/-! strings.Clone: a string's copy. -/
namespace Go.Proofs.YtmakpjcgiiljfaaDoor
open Go.RowKit
/-! ### a string's copy -/
end Go.Proofs.YtmakpjcgiiljfaaDoor

/-! Files: the library's strings.Index, Cut at one byte, Compare, HasPrefix; bytes.Equal. -/
namespace Go.Proofs.YtmakpjcgiiljfaaDoor
open Go.RowKit

theorem st_data (l : List UInt8) : (st l).data.toList = l := by simp [st]
set_option maxHeartbeats 1000000 in
set_option maxRecDepth 100000 in
theorem ixbyte_any (s : ByteArray) (c : Int) (w : World) :
    Calls Tryd.prog 67 #[.string s, .int .u8 c] w fun e w' => e = .returned (.int .i64 (Lib.indexByte s.data.toList c.toNat.toUInt8)) ∧ w = w' := by
  go_enter Tryd.func67, Tryd.ntmps67
  go_wp2
  rw [run_callFunc_extern Tryd.func72 (by kernel_rfl) (by kernel_rfl) (by kernel_rfl) (e := Extern.BytealgIndexByte.indexByte) (by kernel_rfl), Lib.run_indexByteString]
  simp only [Result.andThen]
  rw [Oper.upon_value]
  go_wp2
  go_ret
  exact ⟨rfl, rfl⟩
set_option maxHeartbeats 2000000 in
set_option maxRecDepth 100000 in
theorem slindex_one (s : ByteArray) (c : UInt8) (w : World) :
    Calls Tryd.prog 64 #[.string s, .string ⟨#[c]⟩] w fun e w' => e = .returned (.int .i64 (Lib.indexByte s.data.toList c)) ∧ w = w' := by
  go_enter Tryd.func64, Tryd.ntmps64
  go_wp2_with (go_at_call 67; refine (ixbyte_any _ _ _).mono ?_; rintro e w' ⟨rfl, rfl⟩)
  · have h : ([c] == s.toList) = true := by assumption
    go_ret
    refine ⟨?_, rfl⟩
    have e : s.data.toList = [c] := by rw [← Lib.toList_data]; exact (beq_iff_eq.1 h).symm
    rw [e]
    simp [Lib.indexByte]
  · go_ret
    exact ⟨rfl, rfl⟩
set_option maxHeartbeats 1000000 in
theorem sindex_one (s : ByteArray) (c : UInt8) (w : World) :
    Calls Tryd.prog 62 #[.string s, .string ⟨#[c]⟩] w fun e w' => e = .returned (.int .i64 (Lib.indexByte s.data.toList c)) ∧ w = w' := by
  go_enter Tryd.func62, Tryd.ntmps62
  go_wp2_with (go_at_call 64; refine (slindex_one _ _ _).mono ?_; rintro e w' ⟨rfl, rfl⟩)
  go_ret
  exact ⟨rfl, rfl⟩
/-- What strings.Cut says at a slash. -/
def cutV (l : List UInt8) : Value := match spl l with
  | [] => .tuple #[.string (st l), .string (st []), .bool false]
  | [h] => .tuple #[.string (st h), .string (st []), .bool false]
  | h :: _ => .tuple #[.string (st h), .string (st (l.drop (h.length + 1))), .bool true]
end Go.Proofs.YtmakpjcgiiljfaaDoor

/-! A range over a function whose iterator makes memory of its own and hands out what lies in it: what the iterator promises (Iter), and the law for the loop. -/
namespace Go.Proofs.YtmakpjcgiiljfaaDoor
open Go.RowKit

/-- A step that turns blocks of D alone, and such from B on as are no cells. -/
structure Steps (B : Nat) (D : Nat → Prop) (W W' : World) : Prop where
  os : W'.os = W.os
  tape : W'.tape = W.tape
  output : W'.output = W.output
  size : W.heap.size ≤ W'.heap.size
  block : ∀ b, b < W.heap.size → ¬ D b → (b < B ∨ ∃ o : Obj, W.heap[b]? = some o ∧ o.isCells = true) → W'.heap[b]? = W.heap[b]?
theorem Steps.of_turned {B : Nat} {D : Nat → Prop} {W W' : World} (h : Turned D W W') : Steps B D W W' := ⟨h.os, h.tape, h.output, h.size, fun b hb hd _ => h.block b hb hd⟩
theorem Steps.of_below {B : Nat} {D : Nat → Prop} {W W' : World} (h : Below W.heap.size W W') : Steps B D W W' := ⟨h.os, h.tape, h.output, h.size, fun b hb _ _ => h.block b hb⟩
theorem Steps.lower {B B' : Nat} {D : Nat → Prop} {W W' : World} (h : Steps B' D W W') (hB : B ≤ B') : Steps B D W W' :=
  ⟨h.os, h.tape, h.output, h.size, fun b hb hd hc => h.block b hb hd (hc.imp (fun h => by omega) id)⟩
theorem Steps.putObj {B : Nat} {D : Nat → Prop} {W : World} {l : Nat} {o : Obj} (o' : Obj) (hB : B ≤ l) (hl : W.heap[l]? = some o) (ho : o.isCells = false) : Steps B D W (W.putObj l o') :=
  ⟨rfl, rfl, rfl, by simp, fun b _ _ hc => World.putObj_heap_other (by
    rintro rfl
    rcases hc with hc | ⟨o2, h2, h3⟩
    · omega
    · rw [hl] at h2
      cases h2
      rw [ho] at h3
      cases h3)⟩
/-- A cells' block that is none of D's stays. -/
theorem Steps.cells {B : Nat} {D : Nat → Prop} {W W' : World} (h : Steps B D W W') {b : Nat} {cs : Array Value} {t : TypeId} {f : Nat × Nat} (hb : W.heap[b]? = some (.cells cs t f)) (hd : ¬ D b) : W'.heap[b]? = some (.cells cs t f) :=
  (h.block b (Array.getElem?_eq_some_iff.1 hb).1 hd (.inr ⟨_, hb, rfl⟩)).trans hb
theorem Steps.boxed {B : Nat} {D : Nat → Prop} {W W' : World} (h : Steps B D W W') {b : Nat} {v : Value} {t : TypeId} (hb : Boxed W b t v) (hd : ¬ D b) : Boxed W' b t v := h.cells hb hd
def Bounds (B : Nat) (D : Nat → Prop) (W : World) : Prop := ∀ b, D b → B ≤ b ∧ b < W.heap.size
theorem Bounds.none_ (B : Nat) (W : World) : Bounds B (fun _ => False) W := fun _ h => h.elim
theorem Bounds.grow {B : Nat} {D : Nat → Prop} {W W' : World} (h : Bounds B D W) (hs : W.heap.size ≤ W'.heap.size) : Bounds B D W' := fun b hb => ⟨(h b hb).1, Nat.lt_of_lt_of_le (h b hb).2 hs⟩
theorem Bounds.not {B b : Nat} {D : Nat → Prop} {W : World} (h : Bounds B D W) (hb : b < B) : ¬ D b := fun hd => by
  have := (h b hd).1
  omega
theorem Steps.below {B n0 : Nat} {D : Nat → Prop} {w0 W W' : World} (h : Steps B D W W') (hb : Below n0 w0 W) (hB : Bounds B D W) (h0 : n0 ≤ w0.heap.size) (h1 : n0 ≤ B) : Below n0 w0 W' :=
  hb.trans ⟨h.os, h.tape, h.output, h.size, fun k hk => h.block k (by have := hb.size; omega) (hB.not (by omega)) (.inl (by omega))⟩
/-- What does not mind the other's steps. -/
def Still {σ : Type} (B : Nat) (J : (Nat → Prop) → σ → World → Prop) : Prop :=
  ∀ (D D' : Nat → Prop) (s : σ) (W W' : World), Bounds B D W → J D s W → Steps B D W W' → (∀ b, D' b → D b ∨ (W.heap.size ≤ b ∧ b < W'.heap.size)) → J D' s W'
theorem still_false {σ : Type} (B : Nat) : Still B (fun _ (_ : σ) _ => False) := fun _ _ _ _ _ _ h _ _ => h
/-- What a round keeps: the iterator's blocks, those of K, and whatever from B on is no cells. -/
structure Kept (B : Nat) (D K : Nat → Prop) (W W' : World) : Prop where
  turned : Turned (fun b => ¬ (D b ∨ K b)) W W'
  keeps : KeepsFrom B W W'
theorem Kept.refl (B : Nat) (D K : Nat → Prop) (W : World) : Kept B D K W W := ⟨Turned.refl _ _, KeepsFrom.refl _ _⟩
theorem Kept.trans {B : Nat} {D K : Nat → Prop} {X Y Z : World} (h : Kept B D K X Y) (k : Kept B D K Y Z) : Kept B D K X Z := ⟨h.turned.trans k.turned fun _ _ h => h, h.keeps.trans k.keeps⟩
theorem Kept.raise {B B' : Nat} {D K : Nat → Prop} {W W' : World} (h : Kept B D K W W') (hB : B ≤ B') : Kept B' D K W W' := ⟨h.turned, ⟨h.keeps.size, fun k o hk => h.keeps.same k o (by omega)⟩⟩
theorem Kept.of_below {B : Nat} {D K : Nat → Prop} {W W' : World} (h : Below W.heap.size W W') : Kept B D K W W' :=
  ⟨Turned.of_below h, ⟨h.size, fun k _ _ hk _ => (h.block k (Array.getElem?_eq_some_iff.1 hk).1).trans hk⟩⟩
/-- One old block, of cells, which is none of the iterator's. -/
theorem Kept.of_gr {B : Nat} {D K : Nat → Prop} {W W' : World} {row : Option Nat} (h : W.grownBy W' row) (hr : ∀ g, row = some g → ¬ D g ∧ ¬ K g ∧ ∃ cs t f, W.heap[g]? = some (.cells cs t f)) : Kept B D K W W' :=
  ⟨Turned.of_gr h fun g e => by
      have := hr g e
      rintro (h1 | h1)
      · exact this.1 h1
      · exact this.2.1 h1,
   ⟨h.size, fun k o _ hk ho => (h.block k (Array.getElem?_eq_some_iff.1 hk).1 (fun e => by
      obtain ⟨_, _, cs, t, f, hc⟩ := hr k e.symm
      rw [hk] at hc
      cases hc
      cases ho)).trans hk⟩⟩
theorem Kept.of_turned {B q : Nat} {D K : Nat → Prop} {W W' : World} (h : Turned (· = q) W W') {cs : Array Value} {t : TypeId} {f : Nat × Nat} (hc : W.heap[q]? = some (.cells cs t f)) (hd : ¬ D q) (hk : ¬ K q) : Kept B D K W W' :=
  ⟨h.mono fun b _ e => by
      subst e
      exact fun hn => hn.elim hd hk,
   ⟨h.size, fun k o _ hk2 ho => (h.block k (Array.getElem?_eq_some_iff.1 hk2).1 (fun e => by
      rw [e, hc] at hk2
      cases hk2
      cases ho)).trans hk2⟩⟩
theorem Kept.inner {B B' : Nat} {D D' K K' : Nat → Prop} {W W' : World} (h : Kept B D K W W') (hB : B ≤ B') (hD : ∀ b, D' b → D b) (hK : ∀ b, K' b → K b ∨ D b) : Kept B' D' K' W W' :=
  ⟨h.turned.mono fun b _ hn hh => hn (by
      rcases hh with hh | hh
      · exact .inl (hD b hh)
      · exact (hK b hh).symm), (h.raise hB).keeps⟩
theorem Kept.putObj {B : Nat} {D K : Nat → Prop} {W : World} {l : Nat} (o' : Obj) (hB : l < B) (hd : ¬ D l) (hk : ¬ K l) : Kept B D K W (W.putObj l o') :=
  ⟨⟨rfl, rfl, rfl, by simp, fun b _ hb => World.putObj_heap_other (by
      rintro rfl
      exact hb (fun h => h.elim hd hk))⟩,
   ⟨by simp, fun _ _ _ hk _ => (World.putObj_heap_other (by omega)).trans hk⟩⟩
theorem RoundIn.wide {m m' : Nat} {P : Program} {l : Nat} {f : FuncId} {tmps : Array Value} {assign body : Code} {w : World} {R : Ending → World → Prop} (h : RoundIn Fence.wide m P l f tmps assign body w R) : RoundIn Fence.wide m' P l f tmps assign body w R :=
  ⟨h.1, fun c cs _ => h.2 c cs (room_wide _)⟩

theorem RoundIn.wideIn {m m' : Nat} (l' : Nat) {P : Program} {l : Nat} {f : FuncId} {tmps : Array Value} {assign body : Code} {w : World} {R : Ending → World → Prop} (h : RoundIn Fence.wide m P l f tmps assign body w R) : RoundIn (Fence.wide.inRound l') m' P l f tmps assign body w R :=
  (RoundIn.wide h : RoundIn Fence.wide m' P l f tmps assign body w R)

/-- THE ITERATOR's PROMISE. X: what is known of what has come; K: blocks that rounds must leave alone. -/
def Iter {α : Type} (P : Program) (g : Nat) (lb : Array Value) (encs : α → Array Value) (K : Nat → Prop) (X : (Nat → Prop) → List α → World → Prop) (S : List α → Prop) (w : World) : Prop :=
  (∀ D s W W', X D s W → Turned (fun b => ¬ (D b ∨ K b)) W W' → X D s W') ∧
  ∀ (l : Nat) (J Jx : (Nat → Prop) → List α → World → Prop) (W : World), Below w.heap.size w W → Still W.heap.size J → Still W.heap.size Jx →
    (∀ D pre x W1, Bounds W.heap.size D W1 → J D pre W1 → X D (pre ++ [x]) W1 → YieldAt Fence.wide 1 P l (encs x) W1 fun e W' =>
      (e = .returned (.bool true) ∧ J D (pre ++ [x]) W' ∧ Kept W.heap.size D K W1 W') ∨ (e = .returned (.bool false) ∧ Jx D (pre ++ [x]) W' ∧ Kept W.heap.size D K W1 W')) →
    J (fun _ => False) [] W →
    Calls P g (#[.func (.yield l) #[] #[]] ++ lb) W fun e W' => (∃ v, e = .returned v) ∧ ∃ D, Bounds W.heap.size D W' ∧ ((∃ xs, S xs ∧ X D xs W' ∧ J D xs W') ∨ (∃ pre, X D pre W' ∧ Jx D pre W'))

/-- How a round's body may be left. -/
def itPost {α : Type} (B : Nat) (K : Nat → Prop) (I : (Nat → Prop) → List α → World → Prop) (Ix : Code → (Nat → Prop) → List α → World → Prop) (D : Nat → Prop) (xs : List α) (W : World) : Exit → Act → World → Prop
  | .normal, _, W' => Kept B D K W W' ∧ I D xs W'
  | .ret, _, W' => Kept B D K W W' ∧ Ix .ret D xs W'
  | .exit id, _, W' => Kept B D K W W' ∧ Ix (.exit id) D xs W'
  | .goto t, _, W' => Kept B D K W W' ∧ Ix (.goto t) D xs W'
  | .panic _, _, _ => False
  | .outgrown, _, _ => False

/-- THE LAW. -/
theorem wpIn_rangeFunc_it {α : Type} {P : Program} {g : Operand} {ps : Array Tmp} {assign body : Code} {Q : Exit → Act → World → Prop} {a : Act} {w : World}
    {gf : Nat} {lb : Array Value} (hg : a.eval g = .func (.func gf) #[] lb) (eg : ∀ args w, (callFunc gf args).run P w = .ok (.enter gf args) w)
    {encs : α → Array Value} {K : Nat → Prop} {X : (Nat → Prop) → List α → World → Prop} {S : List α → Prop} {w0 : World} (hseq : Iter P gf lb encs K X S w0) (hb0 : Below w0.heap.size w0 w) (hK : ∀ b, K b → b < w.heap.size) (hps : ∀ x, (encs x).size = ps.size)
    (I : (Nat → Prop) → List α → World → Prop) (Ix : Code → (Nat → Prop) → List α → World → Prop) (hI : Still w.heap.size I) (hIx : ∀ c, Still w.heap.size (Ix c)) (h0 : I (fun _ => False) [] w)
    (Ax : α → Act → World → Prop) (hAx : ∀ x a', OwnFrom w.heap.size (fun (_ : Unit) W => Ax x a' W))
    (hassign : ∀ (l : Nat) (D : Nat → Prop) (pre : List α) (x : α) (W : World) (C : Act → World → Prop), Bounds (w.heap.size + 2) D W → I D pre W → X D (pre ++ [x]) W → (∀ a' W', Kept w.heap.size D K W W' → I D pre W' → Ax x a' W' → C a' W') →
      assign.wpIn (Fence.wide.inRound l) 1 P (Exit.then C (fun _ _ _ => False)) { tmps := (ps.zip (encs x)).foldl (fun t (p, v) => t.setIfInBounds p v) a.tmps, defers := [] } W)
    (hbody : ∀ (l : Nat) (D : Nat → Prop) (pre : List α) (x : α) (a' : Act) (W : World), w.heap.size ≤ l → w.heap.size + 2 ≤ W.heap.size → Bounds (w.heap.size + 2) D W → I D pre W → X D (pre ++ [x]) W → Ax x a' W → body.wpIn (Fence.wide.inRound l) 1 P (itPost w.heap.size K I Ix D (pre ++ [x]) W) a' W)
    (hdone : ∀ (E : Nat) (D : Nat → Prop) (xs : List α) (W : World), E = w.heap.size → w.heap.size + 2 ≤ W.heap.size → Bounds (w.heap.size + 2) D W → S xs → X D xs W → I D xs W → W.heap[E]? = some (.deferred (some [])) → Q .normal { a with defers := { target := .collected E, args := #[] } :: a.defers } W)
    (hstop : ∀ (E : Nat) (D : Nat → Prop) (c : Code) (pre : List α) (W : World), E = w.heap.size → w.heap.size + 2 ≤ W.heap.size → Bounds (w.heap.size + 2) D W → X D pre W → Ix c D pre W → W.heap[E]? = some (.deferred (some [])) → c.wpIn Fence.wide 3 P Q { a with defers := { target := .collected E, args := #[] } :: a.defers } W) :
    (Code.rangeFunc g ps assign body).wpIn Fence.wide 3 P Q a w := by
  refine wpIn_rangeFunc ?_
  intro fn hfn
  obtain ⟨rec, hrec⟩ : ∃ rec : LoopState → Option Code → Loop, rec = fun st pe => { state := st, pending := pe, fn, tmps := a.tmps, params := ps, assign, body, defers := w.heap.size } := ⟨_, rfl⟩
  obtain ⟨W1, hW1⟩ : ∃ W1, (w.alloc (.deferred (some []))).alloc (.loop (rec .ready none)) = W1 := ⟨_, rfl⟩
  have hs1 : W1.heap.size = w.heap.size + 2 := by rw [← hW1]; simp
  have hL1 : W1.heap[w.heap.size + 1]? = some (.loop (rec .ready none)) := by
    rw [← hW1]
    have := World.alloc_heap_new (w.alloc (.deferred (some []))) (.loop (rec .ready none))
    rwa [World.size_alloc] at this
  have hD1 : W1.heap[w.heap.size]? = some (.deferred (some [])) := by
    rw [← hW1]
    exact (Below.heap_alloc _ _ _ (by simp)).trans (World.alloc_heap_new w _)
  have hb01 : Below w.heap.size w W1 := by
    rw [← hW1]
    exact ((Below.refl _ w).alloc (Nat.le_refl _) _).alloc (by simp) _
  have hI1 : I (fun _ => False) [] W1 := hI _ _ _ _ _ (Bounds.none_ _ _) h0 (Steps.of_below hb01) (fun _ h => .inl h)
  have hb1 : Below w0.heap.size w0 W1 := hb0.trans (hb01.mono hb0.size)
  have hnK : ∀ b, w.heap.size ≤ b → ¬ K b := fun b hb hk => by
    have := hK b hk
    omega
  -- the record's and the deferred block's facts don't mind the iterator's steps
  have hrk : ∀ {D : Nat → Prop} {A C : World} {o : Obj} {b : Nat}, Bounds W1.heap.size D A → Steps W1.heap.size D A C → b < W1.heap.size → A.heap[b]? = some o → C.heap[b]? = some o := fun {D A C o b} hB hS hb ho =>
    (hS.block b (Array.getElem?_eq_some_iff.1 ho).1 (fun hd => by have := (hB b hd).1; omega) (.inl hb)).trans ho
  refine ⟨w.heap.size + 1, [{ target := .collected w.heap.size, args := #[] }], W1, { target := .fn (.func gf) lb, args := #[.func (.yield (w.heap.size + 1)) #[] #[]] }, W1, gf,
    #[.func (.yield (w.heap.size + 1)) #[] #[]] ++ lb, W1, ?_, ?_, ?_, ?_, fun _ => by omega, callsIn_wide.2 ?_⟩
  · rw [← hW1, hrec]
    exact run_enterLoop_outer _ _ _ _ _
  · simp only [resolve, hg]
    simp [go_sem]
  · intro f' _
    trivial
  · simp [invoke, go_sem, eg]
  · refine (hseq.2 (w.heap.size + 1)
      (fun D pre W => I D pre W ∧ W.heap[w.heap.size + 1]? = some (.loop (rec .ready none)) ∧ W.heap[w.heap.size]? = some (.deferred (some [])))
      (fun D pre W => ∃ c, Ix c D pre W ∧ W.heap[w.heap.size + 1]? = some (.loop (rec .done (some c))) ∧ W.heap[w.heap.size]? = some (.deferred (some [])))
      W1 hb1
      (fun D D' s A C hB hs hS hD => ⟨hI _ _ _ _ _ (fun b hb => ⟨by have := (hB b hb).1; omega, (hB b hb).2⟩) hs.1 (hS.lower (by omega)) hD, hrk hB hS (by omega) hs.2.1, hrk hB hS (by omega) hs.2.2⟩)
      (fun D D' s A C hB hs hS hD => by
        obtain ⟨c, hc, hl, hk⟩ := hs
        exact ⟨c, hIx c _ _ _ _ _ (fun b hb => ⟨by have := (hB b hb).1; omega, (hB b hb).2⟩) hc (hS.lower (by omega)) hD, hrk hB hS (by omega) hl, hrk hB hS (by omega) hk⟩)
      ?_ ⟨hI1, hL1, hD1⟩).mono ?_
    · -- one round
      rintro D pre x W hB ⟨hi, hl, hk⟩ hx
      rw [hs1] at hB
      have hnD : ¬ D (w.heap.size + 1) := fun h => by have := (hB _ h).1; omega
      have hy := run_yield (P := P) (args := encs x) hl (by rw [hrec]; exact hps x)
      rw [hrec] at hy
      refine ⟨fn, _, assign, body, hy, roundIn_of_wpIn hfn (hassign _ D pre x W _ hB hi hx ?_)⟩
      clear hy
      intro a' Wa hka hia hax
      have hla := hka.keeps.same _ _ (by omega) hl rfl
      have hda := hka.keeps.same _ _ (Nat.le_refl _) hk rfl
      have hxa := hseq.1 _ _ _ _ hx hka.turned
      have hBa := hB.grow hka.turned.size
      have hlt : w.heap.size + 1 < Wa.heap.size := (Array.getElem?_eq_some_iff.1 hla).1
      refine ⟨_, run_beginRound hla (by rw [hrec]), ?_⟩
      obtain ⟨Wb, hWb⟩ : ∃ Wb, Wa.putObj (w.heap.size + 1) (.loop { rec .ready none with state := .busy }) = Wb := ⟨_, rfl⟩
      have hkb : Kept W1.heap.size D K Wa Wb := by
        rw [← hWb]
        exact Kept.putObj _ (by omega) hnD (hnK _ (by omega))
      have hsb : Steps w.heap.size D Wa Wb := by
        rw [← hWb]
        exact Steps.putObj _ (by omega) hla rfl
      have hlb : Wb.heap[w.heap.size + 1]? = some (.loop { rec .ready none with state := .busy }) := by
        rw [← hWb]
        exact World.putObj_heap_same hlt
      have hdb : Wb.heap[w.heap.size]? = some (.deferred (some [])) := by
        rw [← hWb]
        exact (World.putObj_heap_other (by omega)).trans hda
      have hBl : Bounds w.heap.size D Wa := fun b hb => ⟨by have := (hBa b hb).1; omega, (hBa b hb).2⟩
      have hib := hI _ _ _ _ _ hBl hia hsb (fun _ h => .inl h)
      have haxb : Ax x a' Wb := by
        rw [← hWb]
        exact (hAx x a').putObj (s := ()) _ hax (by omega) hla rfl
      rw [hWb]
      refine wpIn_mono (hbody _ D pre x a' Wb (by omega) (by have := hkb.turned.size; omega) (hBa.grow hkb.turned.size) hib (hseq.1 _ _ _ _ hxa hkb.turned) haxb) ?_
      have fin : ∀ (jump : Option Code) (W3 : World), Kept w.heap.size D K Wb W3 →
          (Instr.endRound (w.heap.size + 1) jump).run P W3 = .ok (.bool jump.isNone) (W3.putObj (w.heap.size + 1) (.loop (rec (if jump.isNone then .ready else .done) jump))) ∧
          (W3.putObj (w.heap.size + 1) (.loop (rec (if jump.isNone then .ready else .done) jump))).heap[w.heap.size + 1]? = some (.loop (rec (if jump.isNone then .ready else .done) jump)) ∧
          (W3.putObj (w.heap.size + 1) (.loop (rec (if jump.isNone then .ready else .done) jump))).heap[w.heap.size]? = some (.deferred (some [])) ∧
          Kept W1.heap.size D K W (W3.putObj (w.heap.size + 1) (.loop (rec (if jump.isNone then .ready else .done) jump))) ∧
          Steps w.heap.size D W3 (W3.putObj (w.heap.size + 1) (.loop (rec (if jump.isNone then .ready else .done) jump))) ∧ Bounds w.heap.size D W3 := fun jump W3 hk3 => by
        have hl3 := hk3.keeps.same _ _ (by omega) hlb rfl
        have hd3 := hk3.keeps.same _ _ (Nat.le_refl _) hdb rfl
        have hend := run_endRound (P := P) jump hl3
        rw [hrec] at hend
        refine ⟨by rw [hrec]; exact hend, World.putObj_heap_same (Array.getElem?_eq_some_iff.1 hl3).1, (World.putObj_heap_other (by omega)).trans hd3, ?_, Steps.putObj _ (by omega) hl3 rfl, (hBl.grow hkb.turned.size).grow hk3.turned.size⟩
        exact (hka.raise (by omega)).trans (hkb.trans ((hk3.raise (by omega)).trans (Kept.putObj _ (by omega) hnD (hnK _ (by omega)))))
      rintro e a3 W3 hp
      cases e with
      | normal =>
        obtain ⟨hr, hl4, hd4, hk4, hs4, hB4⟩ := fin none W3 hp.1
        exact ⟨_, _, hr, .inl ⟨rfl, ⟨hI _ _ _ _ _ hB4 hp.2 hs4 (fun _ h => .inl h), hl4, hd4⟩, hk4⟩⟩
      | ret =>
        obtain ⟨hr, hl4, hd4, hk4, hs4, hB4⟩ := fin (some .ret) W3 hp.1
        exact ⟨_, _, hr, .inr ⟨rfl, ⟨.ret, hIx _ _ _ _ _ _ hB4 hp.2 hs4 (fun _ h => .inl h), hl4, hd4⟩, hk4⟩⟩
      | exit id =>
        obtain ⟨hr, hl4, hd4, hk4, hs4, hB4⟩ := fin (some (.exit id)) W3 hp.1
        exact ⟨_, _, hr, .inr ⟨rfl, ⟨.exit id, hIx _ _ _ _ _ _ hB4 hp.2 hs4 (fun _ h => .inl h), hl4, hd4⟩, hk4⟩⟩
      | goto t =>
        obtain ⟨hr, hl4, hd4, hk4, hs4, hB4⟩ := fin (some (.goto t)) W3 hp.1
        exact ⟨_, _, hr, .inr ⟨rfl, ⟨.goto t, hIx _ _ _ _ _ _ hB4 hp.2 hs4 (fun _ h => .inl h), hl4, hd4⟩, hk4⟩⟩
      | panic ch => exact hp.elim
      | outgrown => exact hp.elim
    · -- behind the iterator
      rintro e W2 ⟨⟨v, rfl⟩, D, hB, (⟨xs, hS, hx, hi, hl, hk⟩ | ⟨pre, hx, c, hi, hl, hk⟩)⟩
      · have hnD : ¬ D (w.heap.size + 1) := fun h => by have := (hB _ h).1; omega
        rw [hs1] at hB
        have hBl : Bounds w.heap.size D W2 := fun b hb => ⟨by have := (hB b hb).1; omega, (hB b hb).2⟩
        have hend := run_endLoop (P := P) hl (by rw [hrec]; simp)
        rw [hrec] at hend
        refine ⟨none, _, hend, hdone _ D xs _ rfl (by have := (Array.getElem?_eq_some_iff.1 hl).1; simp; omega) (hB.grow (by simp)) hS (hseq.1 _ _ _ _ hx (Kept.putObj (B := W1.heap.size) _ (by omega) hnD (hnK _ (by omega))).turned) (hI _ _ _ _ _ hBl hi (Steps.putObj _ (by omega) hl rfl) (fun _ h => .inl h)) ((World.putObj_heap_other (by omega)).trans hk)⟩
      · have hnD : ¬ D (w.heap.size + 1) := fun h => by have := (hB _ h).1; omega
        rw [hs1] at hB
        have hBl : Bounds w.heap.size D W2 := fun b hb => ⟨by have := (hB b hb).1; omega, (hB b hb).2⟩
        have hend := run_endLoop (P := P) hl (by rw [hrec]; simp)
        rw [hrec] at hend
        refine ⟨some c, _, hend, hstop _ D c pre _ rfl (by have := (Array.getElem?_eq_some_iff.1 hl).1; simp; omega) (hB.grow (by simp)) (hseq.1 _ _ _ _ hx (Kept.putObj (B := W1.heap.size) _ (by omega) hnD (hnK _ (by omega))).turned) (hIx c _ _ _ _ _ hBl hi (Steps.putObj _ (by omega) hl rfl) (fun _ h => .inl h)) ((World.putObj_heap_other (by omega)).trans hk)⟩
end Go.Proofs.YtmakpjcgiiljfaaDoor

/-! A range over a function whose iterator keeps state in cells Z that were there ahead of the loop: what it promises (IterZ), and the law for the loop. -/
namespace Go.Proofs.YtmakpjcgiiljfaaDoor
open Go.RowKit

/-- What does not mind the other's steps. -/
def StillZ (B : Nat) (Z : Nat → Prop) (J : Nat → World → Prop) : Prop := ∀ k W W', J k W → Steps B Z W W' → J k W'
theorem Steps.belowZ {B n0 : Nat} {Z : Nat → Prop} {w0 W W' : World} (h : Steps B Z W W') (hb : Below n0 w0 W) (hZ : ∀ b, Z b → n0 ≤ b) (h0 : n0 ≤ w0.heap.size) (h1 : n0 ≤ B) : Below n0 w0 W' :=
  hb.trans ⟨h.os, h.tape, h.output, h.size, fun k hk => h.block k (by have := hb.size; omega) (fun hz => by have := hZ k hz; omega) (.inl (by omega))⟩
theorem stillZ_false (B : Nat) (Z : Nat → Prop) : StillZ B Z (fun _ _ => False) := fun _ _ _ h _ => h
/-- THE ITERATOR's PROMISE: xs come, one behind the other. -/
def IterZ {α : Type} (P : Program) (g : Nat) (lb : Array Value) (encs : α → Array Value) (Z K : Nat → Prop) (xs : List α) (w : World) : Prop :=
  ∀ (l : Nat) (J Jx : Nat → World → Prop) (W : World), Below w.heap.size w W → StillZ W.heap.size Z J → StillZ W.heap.size Z Jx →
    (∀ k x W1, xs[k]? = some x → J k W1 → YieldAt Fence.wide 1 P l (encs x) W1 fun e W' =>
      (e = .returned (.bool true) ∧ J (k + 1) W' ∧ Kept W.heap.size Z K W1 W') ∨ (e = .returned (.bool false) ∧ Jx k W' ∧ Kept W.heap.size Z K W1 W')) →
    J 0 W →
    Calls P g (#[.func (.yield l) #[] #[]] ++ lb) W fun e W' => (∃ v, e = .returned v) ∧ (J xs.length W' ∨ ∃ k x, xs[k]? = some x ∧ Jx k W')

/-- How a round's body may be left. -/
def itPostZ (B : Nat) (Z K : Nat → Prop) (I : Nat → World → Prop) (Ix : Code → Nat → World → Prop) (k : Nat) (W : World) : Exit → Act → World → Prop
  | .normal, _, W' => Kept B Z K W W' ∧ I (k + 1) W'
  | .ret, _, W' => Kept B Z K W W' ∧ Ix .ret k W'
  | .exit id, _, W' => Kept B Z K W W' ∧ Ix (.exit id) k W'
  | .goto t, _, W' => Kept B Z K W W' ∧ Ix (.goto t) k W'
  | .panic _, _, _ => False
  | .outgrown, _, _ => False

/-- THE LAW. -/
theorem wpIn_rangeFunc_itZ {α : Type} {P : Program} {g : Operand} {ps : Array Tmp} {assign body : Code} {Q : Exit → Act → World → Prop} {a : Act} {w : World}
    {gf : Nat} {lb : Array Value} (hg : a.eval g = .func (.func gf) #[] lb) (eg : ∀ args w, (callFunc gf args).run P w = .ok (.enter gf args) w)
    {encs : α → Array Value} {Z K : Nat → Prop} {xs : List α} {w0 : World} (hseq : IterZ P gf lb encs Z K xs w0) (hb0 : Below w0.heap.size w0 w) (hZ : ∀ b, Z b → b < w.heap.size) (hK : ∀ b, K b → b < w.heap.size) (hps : ∀ x, (encs x).size = ps.size)
    (I : Nat → World → Prop) (Ix : Code → Nat → World → Prop) (hI : StillZ w.heap.size Z I) (hIx : ∀ c, StillZ w.heap.size Z (Ix c)) (h0 : I 0 w)
    (Ax : α → Act → World → Prop) (hAx : ∀ x a', OwnFrom w.heap.size (fun (_ : Unit) W => Ax x a' W))
    (hassign : ∀ (l : Nat) (k : Nat) (x : α) (W : World) (C : Act → World → Prop), xs[k]? = some x → I k W → (∀ a' W', Kept w.heap.size Z K W W' → I k W' → Ax x a' W' → C a' W') →
      assign.wpIn (Fence.wide.inRound l) 1 P (Exit.then C (fun _ _ _ => False)) { tmps := (ps.zip (encs x)).foldl (fun t (p, v) => t.setIfInBounds p v) a.tmps, defers := [] } W)
    (hbody : ∀ (l : Nat) (k : Nat) (x : α) (a' : Act) (W : World), w.heap.size ≤ l → w.heap.size + 2 ≤ W.heap.size → xs[k]? = some x → I k W → Ax x a' W → body.wpIn (Fence.wide.inRound l) 1 P (itPostZ w.heap.size Z K I Ix k W) a' W)
    (hdone : ∀ (E : Nat) (W : World), E = w.heap.size → w.heap.size + 2 ≤ W.heap.size → I xs.length W → W.heap[E]? = some (.deferred (some [])) → Q .normal { a with defers := { target := .collected E, args := #[] } :: a.defers } W)
    (hstop : ∀ (E : Nat) (c : Code) (k : Nat) (x : α) (W : World), E = w.heap.size → w.heap.size + 2 ≤ W.heap.size → xs[k]? = some x → Ix c k W → W.heap[E]? = some (.deferred (some [])) → c.wpIn Fence.wide 3 P Q { a with defers := { target := .collected E, args := #[] } :: a.defers } W) :
    (Code.rangeFunc g ps assign body).wpIn Fence.wide 3 P Q a w := by
  refine wpIn_rangeFunc ?_
  intro fn hfn
  obtain ⟨rec, hrec⟩ : ∃ rec : LoopState → Option Code → Loop, rec = fun st pe => { state := st, pending := pe, fn, tmps := a.tmps, params := ps, assign, body, defers := w.heap.size } := ⟨_, rfl⟩
  obtain ⟨W1, hW1⟩ : ∃ W1, (w.alloc (.deferred (some []))).alloc (.loop (rec .ready none)) = W1 := ⟨_, rfl⟩
  have hs1 : W1.heap.size = w.heap.size + 2 := by rw [← hW1]; simp
  have hL1 : W1.heap[w.heap.size + 1]? = some (.loop (rec .ready none)) := by
    rw [← hW1]
    have := World.alloc_heap_new (w.alloc (.deferred (some []))) (.loop (rec .ready none))
    rwa [World.size_alloc] at this
  have hD1 : W1.heap[w.heap.size]? = some (.deferred (some [])) := by
    rw [← hW1]
    exact (Below.heap_alloc _ _ _ (by simp)).trans (World.alloc_heap_new w _)
  have hb01 : Below w.heap.size w W1 := by
    rw [← hW1]
    exact ((Below.refl _ w).alloc (Nat.le_refl _) _).alloc (by simp) _
  have hI1 : I 0 W1 := hI _ _ _ h0 (Steps.of_below hb01)
  have hb1 : Below w0.heap.size w0 W1 := hb0.trans (hb01.mono hb0.size)
  have hnK : ∀ b, w.heap.size ≤ b → ¬ K b := fun b hb hk => by
    have := hK b hk
    omega
  have hnZ : ∀ b, w.heap.size ≤ b → ¬ Z b := fun b hb hk => by
    have := hZ b hk
    omega
  -- the record's and the deferred block's facts don't mind the iterator's steps
  have hrk : ∀ {A C : World} {o : Obj} {b : Nat}, Steps W1.heap.size Z A C → w.heap.size ≤ b → b < W1.heap.size → A.heap[b]? = some o → C.heap[b]? = some o := fun {A C o b} hS hb1 hb ho =>
    (hS.block b (Array.getElem?_eq_some_iff.1 ho).1 (hnZ b hb1) (.inl hb)).trans ho
  have hnD : ¬ Z (w.heap.size + 1) := hnZ _ (by omega)
  refine ⟨w.heap.size + 1, [{ target := .collected w.heap.size, args := #[] }], W1, { target := .fn (.func gf) lb, args := #[.func (.yield (w.heap.size + 1)) #[] #[]] }, W1, gf,
    #[.func (.yield (w.heap.size + 1)) #[] #[]] ++ lb, W1, ?_, ?_, ?_, ?_, fun _ => by omega, callsIn_wide.2 ?_⟩
  · rw [← hW1, hrec]
    exact run_enterLoop_outer _ _ _ _ _
  · simp only [resolve, hg]
    simp [go_sem]
  · intro f' _
    trivial
  · simp [invoke, go_sem, eg]
  · refine (hseq (w.heap.size + 1)
      (fun k W => I k W ∧ W.heap[w.heap.size + 1]? = some (.loop (rec .ready none)) ∧ W.heap[w.heap.size]? = some (.deferred (some [])))
      (fun k W => ∃ c, Ix c k W ∧ W.heap[w.heap.size + 1]? = some (.loop (rec .done (some c))) ∧ W.heap[w.heap.size]? = some (.deferred (some [])))
      W1 hb1
      (fun k A C hs hS => ⟨hI _ _ _ hs.1 (hS.lower (by omega)), hrk hS (by omega) (by omega) hs.2.1, hrk hS (by omega) (by omega) hs.2.2⟩)
      (fun k A C hs hS => by
        obtain ⟨c, hc, hl, hk⟩ := hs
        exact ⟨c, hIx c _ _ _ hc (hS.lower (by omega)), hrk hS (by omega) (by omega) hl, hrk hS (by omega) (by omega) hk⟩)
      ?_ ⟨hI1, hL1, hD1⟩).mono ?_
    · -- one round
      rintro k x W hx ⟨hi, hl, hk⟩
      have hy := run_yield (P := P) (args := encs x) hl (by rw [hrec]; exact hps x)
      rw [hrec] at hy
      refine ⟨fn, _, assign, body, hy, roundIn_of_wpIn hfn (hassign _ k x W _ hx hi ?_)⟩
      clear hy
      intro a' Wa hka hia hax
      have hla := hka.keeps.same _ _ (by omega) hl rfl
      have hda := hka.keeps.same _ _ (Nat.le_refl _) hk rfl
      have hlt : w.heap.size + 1 < Wa.heap.size := (Array.getElem?_eq_some_iff.1 hla).1
      refine ⟨_, run_beginRound hla (by rw [hrec]), ?_⟩
      obtain ⟨Wb, hWb⟩ : ∃ Wb, Wa.putObj (w.heap.size + 1) (.loop { rec .ready none with state := .busy }) = Wb := ⟨_, rfl⟩
      have hkb : Kept W1.heap.size Z K Wa Wb := by
        rw [← hWb]
        exact Kept.putObj _ (by omega) hnD (hnK _ (by omega))
      have hsb : Steps w.heap.size Z Wa Wb := by
        rw [← hWb]
        exact Steps.putObj _ (by omega) hla rfl
      have hlb : Wb.heap[w.heap.size + 1]? = some (.loop { rec .ready none with state := .busy }) := by
        rw [← hWb]
        exact World.putObj_heap_same hlt
      have hdb : Wb.heap[w.heap.size]? = some (.deferred (some [])) := by
        rw [← hWb]
        exact (World.putObj_heap_other (by omega)).trans hda
      have hib := hI _ _ _ hia hsb
      have haxb : Ax x a' Wb := by
        rw [← hWb]
        exact (hAx x a').putObj (s := ()) _ hax (by omega) hla rfl
      rw [hWb]
      refine wpIn_mono (hbody _ k x a' Wb (by omega) (by have := (Array.getElem?_eq_some_iff.1 hlb).1; omega) hx hib haxb) ?_
      have fin : ∀ (jump : Option Code) (W3 : World), Kept w.heap.size Z K Wb W3 →
          (Instr.endRound (w.heap.size + 1) jump).run P W3 = .ok (.bool jump.isNone) (W3.putObj (w.heap.size + 1) (.loop (rec (if jump.isNone then .ready else .done) jump))) ∧
          (W3.putObj (w.heap.size + 1) (.loop (rec (if jump.isNone then .ready else .done) jump))).heap[w.heap.size + 1]? = some (.loop (rec (if jump.isNone then .ready else .done) jump)) ∧
          (W3.putObj (w.heap.size + 1) (.loop (rec (if jump.isNone then .ready else .done) jump))).heap[w.heap.size]? = some (.deferred (some [])) ∧
          Kept W1.heap.size Z K W (W3.putObj (w.heap.size + 1) (.loop (rec (if jump.isNone then .ready else .done) jump))) ∧
          Steps w.heap.size Z W3 (W3.putObj (w.heap.size + 1) (.loop (rec (if jump.isNone then .ready else .done) jump))) := fun jump W3 hk3 => by
        have hl3 := hk3.keeps.same _ _ (by omega) hlb rfl
        have hd3 := hk3.keeps.same _ _ (Nat.le_refl _) hdb rfl
        have hend := run_endRound (P := P) jump hl3
        rw [hrec] at hend
        refine ⟨by rw [hrec]; exact hend, World.putObj_heap_same (Array.getElem?_eq_some_iff.1 hl3).1, (World.putObj_heap_other (by omega)).trans hd3, ?_, Steps.putObj _ (by omega) hl3 rfl⟩
        exact (hka.raise (by omega)).trans (hkb.trans ((hk3.raise (by omega)).trans (Kept.putObj _ (by omega) hnD (hnK _ (by omega)))))
      rintro e a3 W3 hp
      cases e with
      | normal =>
        obtain ⟨hr, hl4, hd4, hk4, hs4⟩ := fin none W3 hp.1
        exact ⟨_, _, hr, .inl ⟨rfl, ⟨hI _ _ _ hp.2 hs4, hl4, hd4⟩, hk4⟩⟩
      | ret =>
        obtain ⟨hr, hl4, hd4, hk4, hs4⟩ := fin (some .ret) W3 hp.1
        exact ⟨_, _, hr, .inr ⟨rfl, ⟨.ret, hIx _ _ _ _ hp.2 hs4, hl4, hd4⟩, hk4⟩⟩
      | exit id =>
        obtain ⟨hr, hl4, hd4, hk4, hs4⟩ := fin (some (.exit id)) W3 hp.1
        exact ⟨_, _, hr, .inr ⟨rfl, ⟨.exit id, hIx _ _ _ _ hp.2 hs4, hl4, hd4⟩, hk4⟩⟩
      | goto t =>
        obtain ⟨hr, hl4, hd4, hk4, hs4⟩ := fin (some (.goto t)) W3 hp.1
        exact ⟨_, _, hr, .inr ⟨rfl, ⟨.goto t, hIx _ _ _ _ hp.2 hs4, hl4, hd4⟩, hk4⟩⟩
      | panic ch => exact hp.elim
      | outgrown => exact hp.elim
    · -- behind the iterator
      rintro e W2 ⟨⟨v, rfl⟩, (⟨hi, hl, hk⟩ | ⟨k, x, hx, c, hi, hl, hk⟩)⟩
      · have hend := run_endLoop (P := P) hl (by rw [hrec]; simp)
        rw [hrec] at hend
        refine ⟨none, _, hend, hdone _ _ rfl (by have := (Array.getElem?_eq_some_iff.1 hl).1; simp; omega) (hI _ _ _ hi (Steps.putObj _ (by omega) hl rfl)) ((World.putObj_heap_other (by omega)).trans hk)⟩
      · have hend := run_endLoop (P := P) hl (by rw [hrec]; simp)
        rw [hrec] at hend
        refine ⟨some c, _, hend, hstop _ c k x _ rfl (by have := (Array.getElem?_eq_some_iff.1 hl).1; simp; omega) hx (hIx c _ _ _ hi (Steps.putObj _ (by omega) hl rfl)) ((World.putObj_heap_other (by omega)).trans hk)⟩
end Go.Proofs.YtmakpjcgiiljfaaDoor

/-! []byte(s) of any string. -/
namespace Go.Proofs.YtmakpjcgiiljfaaDoor
open Go.RowKit
/-- []byte(s) -/
theorem conv_bytes (l : List UInt8) (hl : l.length ≤ 1000000) (W : World) : ∃ c' W', (convert 9 22 (.string (st l))).run Tryd.prog W = .ok (.slice (some ⟨W.heap.size, 0, none⟩) l.length c') W' ∧ Below W.heap.size W W' ∧ Byt W' (fun b => b = W.heap.size) (some ⟨W.heap.size, 0, none⟩) l.length c' l := by
  have h := run_bytes_of_string (P := Tryd.prog) W 9 22 5 (st l) Tryd.underlying9 Tryd.underlying22 Tryd.underlying5
  rw [st_size] at h
  have hge := grownCap_ge W l.length 0 5
  have hle := grownCap_le_maxLen W l.length 0 5 (by unfold maxLen; omega)
  generalize grownCap W l.length 0 5 = C at *
  refine ⟨C, _, h, (below_drew (Below.refl _ _)).alloc (Nat.le_refl _) _, rfl, hge, hle, fun h0 => ⟨_, 0, rfl, rfl, by simp, fun i hi => ?_⟩⟩
  have hnew : (W.drew.alloc (.cells (bytesRow (st l) C) 5 ((bytesRow (st l) C).size, (bytesRow (st l) C).size + 1))).heap[W.heap.size]? = some _ := heap_alloc_new W.drew _
  rw [cell_of_cells hnew]
  simp [bytesRow, st, Array.getElem?_append, hi]
end Go.Proofs.YtmakpjcgiiljfaaDoor
