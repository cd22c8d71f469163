/-
  Rows of bytes: a slice of slices of bytes that reads as a list of rows.
-/
import Derived.WalkKit
import Derived.IntWalk
import Derived.Laws.BitsAllLaws
import Derived.WalkSpells
import Derived.Lib.Hide
import Derived.Lib.SlBytesRow
import Derived.OpenShut
import Derived.Test.YtmmibldchfmleaaChecked
import Derived.BigQuiet
import Derived.Deep.MidRow
import Derived.DeepKeys
import Derived.StillTailTactics
import Derived.Deep.DeepCutAuto
import Derived.Lib.SlBytesConst
import Derived.Test.YtmmibldchfmleaaRows
import Derived.Lib.SliceRun
import Derived.ProofKit
import Derived.ShutString
import Derived.ChangeOld
namespace Go.Proofs.Ytmmibldchfmleaa
def nv (x : BitVec 32) : Int := (x.toNat : Int)
namespace W32
theorem nn (x : BitVec 32) : 0 ≤ nv x := by unfold nv; omega
theorem lt (x : BitVec 32) : nv x < 4294967296 := by
 unfold nv
 have := x.isLt
 omega
end W32
end Go.Proofs.Ytmmibldchfmleaa

namespace Go.Proofs.Ytmmibldchfmleaa
open Go.RowKit
theorem add_plain (b o i : Nat) : (⟨b, o, none⟩ : Addr).add i = ⟨b, o + i, none⟩ := by unfold Addr.add; split <;> simp_all
structure Byt (w : World) (S : Nat → Prop) (A : Option Addr) (n c : Nat) (l : List UInt8) : Prop where
 len : l.length = n
 cap : n ≤ c
 max : c ≤ maxLen
 row : 0 < n → ∃ b off, A = some ⟨b, off, none⟩ ∧ S b ∧ b < w.heap.size ∧ ∀ i, i < n → w.cell? ⟨b, off + i, none⟩ = some (.int .u8 ((l[i]?.getD 0).toNat : Int))
section
variable {w w' : World} {S : Nat → Prop} {A : Option Addr} {n c : Nat} {l : List UInt8}
theorem Byt.keep (h : Byt w S A n c l) (hs : w.heap.size ≤ w'.heap.size) (hk : ∀ b o, b < w.heap.size → w'.cell? ⟨b, o, none⟩ = w.cell? ⟨b, o, none⟩) : Byt w' S A n c l :=
 ⟨h.len, h.cap, h.max, fun h0 => by
   obtain ⟨b, off, hA, hB, hb, hc⟩ := h.row h0
   exact ⟨b, off, hA, hB, by omega, fun i hi => (hk _ _ hb).trans (hc i hi)⟩⟩
theorem Byt.below (h : Byt w S A n c l) (hb : Below w.heap.size w w') : Byt w' S A n c l := h.keep hb.size fun _ _ hlt => hb.cell (p := ⟨_, _, none⟩) hlt
theorem Byt.alloc (h : Byt w S A n c l) (o : Obj) : Byt (w.alloc o) S A n c l := h.below ((Below.refl _ _).alloc (Nat.le_refl _) o)
theorem Byt.drew (h : Byt w S A n c l) : Byt w.drew S A n c l := ⟨h.len, h.cap, h.max, h.row⟩
theorem Byt.drewN (h : Byt w S A n c l) (k : Nat) : Byt (w.drewN k) S A n c l := ⟨h.len, h.cap, h.max, h.row⟩
theorem Byt.mono {T : Nat → Prop} (h : Byt w S A n c l) (hB : ∀ b, b < w.heap.size → S b → T b) : Byt w T A n c l :=
 ⟨h.len, h.cap, h.max, fun h0 => by
   obtain ⟨b, off, hA, hB', hb, hc⟩ := h.row h0
   exact ⟨b, off, hA, hB b hb hB', hb, hc⟩⟩
theorem Byt.drop (h : Byt w S A n c l) {k : Nat} (hk : k ≤ n) : Byt w S (if c = k then A else A.map (·.add k)) (n - k) (c - k) (l.drop k) :=
 ⟨by rw [List.length_drop, h.len], by have := h.cap; omega, by have := h.max; omega, fun h0 => by
   obtain ⟨b, off, rfl, hB, hb, hc⟩ := h.row (by omega)
   have := h.cap
   rw [if_neg (by omega)]
   refine ⟨b, off + k, by simp [add_plain], hB, hb, fun i hi => ?_⟩
   rw [Nat.add_assoc, hc (k + i) (by omega), List.getElem?_drop]⟩
theorem Byt.take (h : Byt w S A n c l) {k : Nat} (hk : k ≤ n) : Byt w S A k k (l.take k) :=
 ⟨by rw [List.length_take, h.len]; omega, Nat.le_refl _, by have := h.cap; have := h.max; omega, fun h0 => by
   obtain ⟨b, off, rfl, hB, hb, hc⟩ := h.row (by omega)
   refine ⟨b, off, rfl, hB, hb, fun i hi => ?_⟩
   rw [hc i (by omega), List.getElem?_take_of_lt hi]⟩
theorem Byt.nil (w : World) (S : Nat → Prop) (A : Option Addr) (c : Nat) (hc : c ≤ maxLen) : Byt w S A 0 c [] := ⟨rfl, Nat.zero_le _, hc, fun h => absurd h (by omega)⟩
theorem Byt.far (h : Byt w S A n c l) {p j : Nat} (hp : ∀ o x, w.cell? ⟨p, o, none⟩ ≠ some (.int .u8 x)) (u : Value) : Byt (w.setCell ⟨p, j, none⟩ u) S A n c l :=
 ⟨h.len, h.cap, h.max, fun h0 => by
   obtain ⟨b, off, hA, hB, hb, hc⟩ := h.row h0
   have hne : b ≠ p := by rintro rfl; exact hp _ _ (hc 0 h0)
   refine ⟨b, off, hA, hB, by simpa [World.setCell] using hb, fun i hi => (World.cell?_of_block (w := w) (a := ⟨b, off + i, none⟩) (Below.heap_setCell _ _ _ _ hne)).trans (hc i hi)⟩⟩
theorem Byt.grown (h : Byt w S A n c l) {row : Option Nat} (hg : w.grownBy w' row) (hr : ∀ g, row = some g → ¬ S g ∨ ∀ o x, w.cell? ⟨g, o, none⟩ ≠ some (.int .u8 x)) : Byt w' S A n c l :=
 ⟨h.len, h.cap, h.max, fun h0 => by
   obtain ⟨b, off, hA, hB, hb, hc⟩ := h.row h0
   have hne : some b ≠ row := by
    rintro rfl
    rcases hr b rfl with h1 | h1
    ·exact h1 hB
    ·exact h1 _ _ (hc 0 h0)
   exact ⟨b, off, hA, hB, Nat.lt_of_lt_of_le hb hg.size, fun i hi => (World.cell?_of_block (w := w) (a := ⟨b, off + i, none⟩) (hg.block b hb hne)).trans (hc i hi)⟩⟩
end
/-! Only one block of the old ones may have turned. -/
theorem gr_refl (w : World) (row : Option Nat) : w.grownBy w row := ⟨rfl, rfl, rfl, Nat.le_refl _, fun _ _ _ => rfl⟩
theorem gr_trans {a b c : World} {row : Option Nat} (h : a.grownBy b row) (k : b.grownBy c row) : a.grownBy c row :=
 ⟨k.os.trans h.os, k.tape.trans h.tape, k.output.trans h.output, Nat.le_trans h.size k.size, fun i hi hne => (k.block i (Nat.lt_of_lt_of_le hi h.size) hne).trans (h.block i hi hne)⟩
theorem gr_set {a w : World} {p : Nat} (h : a.grownBy w (some p)) (j : Nat) (u : Value) : a.grownBy (w.setCell ⟨p, j, none⟩ u) (some p) :=
 ⟨h.os, h.tape, h.output, by simpa [World.setCell] using h.size, fun i hi hne => (Below.heap_setCell w ⟨p, j, none⟩ u i (fun e => hne (by rw [e]))).trans (h.block i hi hne)⟩
theorem gr_alloc {a w : World} {row : Option Nat} (h : a.grownBy w row) (o : Obj) : a.grownBy (w.alloc o) row :=
 ⟨h.os, h.tape, h.output, Nat.le_trans h.size (by simp), fun i hi hne => (Below.heap_alloc w o i (Nat.lt_of_lt_of_le hi h.size)).trans (h.block i hi hne)⟩
theorem below_gr {a b : World} {B p : Nat} (h : a.grownBy b (some p)) (hB : B ≤ p) (hs : B ≤ a.heap.size) : Below B a b :=
 ⟨h.os, h.tape, h.output, h.size, fun i hi => h.block i (by omega) (fun e => by injection e; omega)⟩
structure Turned (S : Nat → Prop) (w w' : World) : Prop where
 os : w'.os = w.os
 tape : w'.tape = w.tape
 output : w'.output = w.output
 size : w.heap.size ≤ w'.heap.size
 block : ∀ k, k < w.heap.size → ¬ S k → w'.heap[k]? = w.heap[k]?
theorem Turned.refl (S : Nat → Prop) (w : World) : Turned S w w := ⟨rfl, rfl, rfl, Nat.le_refl _, fun _ _ _ => rfl⟩
theorem Turned.of_gr {S : Nat → Prop} {w w' : World} {row : Option Nat} (h : w.grownBy w' row) (hr : ∀ g, row = some g → S g) : Turned S w w' :=
 ⟨h.os, h.tape, h.output, h.size, fun k hk hs => h.block k hk (fun e => hs (hr k e.symm))⟩
theorem Turned.of_below {S : Nat → Prop} {w w' : World} (h : Below w.heap.size w w') : Turned S w w' := ⟨h.os, h.tape, h.output, h.size, fun k hk _ => h.block k hk⟩
theorem Turned.trans {S T : Nat → Prop} {a b c : World} (h : Turned S a b) (k : Turned T b c) (hT : ∀ i, i < a.heap.size → T i → S i) : Turned S a c :=
 ⟨k.os.trans h.os, k.tape.trans h.tape, k.output.trans h.output, Nat.le_trans h.size k.size, fun i hi hs => (k.block i (Nat.lt_of_lt_of_le hi h.size) (fun ht => hs (hT i hi ht))).trans (h.block i hi hs)⟩
theorem Turned.mono {S T : Nat → Prop} {a b : World} (h : Turned S a b) (hT : ∀ i, i < a.heap.size → S i → T i) : Turned T a b :=
 ⟨h.os, h.tape, h.output, h.size, fun i hi hs => h.block i hi (fun ht => hs (hT i hi ht))⟩
theorem Turned.below {a b : World} {B : Nat} (h : Turned (B ≤ ·) a b) (hB : B ≤ a.heap.size) : Below B a b :=
 ⟨h.os, h.tape, h.output, h.size, fun i hi => h.block i (by omega) (by omega)⟩
theorem Turned.set {S : Nat → Prop} {a w : World} (h : Turned S a w) {p : Nat} (hp : S p) (j : Nat) (u : Value) : Turned S a (w.setCell ⟨p, j, none⟩ u) :=
 ⟨h.os, h.tape, h.output, by simpa [World.setCell] using h.size, fun i hi hs => (Below.heap_setCell w ⟨p, j, none⟩ u i (by rintro rfl; exact hs hp)).trans (h.block i hi hs)⟩
theorem Turned.alloc {S : Nat → Prop} {a w : World} (h : Turned S a w) (o : Obj) : Turned S a (w.alloc o) :=
 ⟨h.os, h.tape, h.output, Nat.le_trans h.size (by simp), fun i hi hs => (Below.heap_alloc w o i (Nat.lt_of_lt_of_le hi h.size)).trans (h.block i hi hs)⟩
theorem Turned.drew {S : Nat → Prop} {a w : World} (h : Turned S a w) : Turned S a w.drew := ⟨h.os, h.tape, h.output, h.size, h.block⟩
theorem Turned.drewN {S : Nat → Prop} {a w : World} (h : Turned S a w) (n : Nat) : Turned S a (w.drewN n) := ⟨h.os, h.tape, h.output, h.size, h.block⟩
theorem Byt.turned {w w' : World} {S T : Nat → Prop} {A : Option Addr} {n c : Nat} {l : List UInt8} (h : Byt w S A n c l) (ht : Turned T w w') (hd : ∀ b, b < w.heap.size → S b → ¬ T b) : Byt w' S A n c l :=
 ⟨h.len, h.cap, h.max, fun h0 => by
   obtain ⟨b, off, hA, hB, hb, hc⟩ := h.row h0
   exact ⟨b, off, hA, hB, Nat.lt_of_lt_of_le hb ht.size, fun i hi => (World.cell?_of_block (w := w) (a := ⟨b, off + i, none⟩) (ht.block b hb (hd b hb hB))).trans (hc i hi)⟩⟩
def u8s (l : List UInt8) : List Value := l.map fun c => .int .u8 (c.toNat : Int)
theorem u8s_length (l : List UInt8) : (u8s l).length = l.length := by simp [u8s]
theorem u8s_append (l m : List UInt8) : u8s (l ++ m) = u8s l ++ u8s m := by simp [u8s]
theorem u8s_one (l : List UInt8) : ∀ u ∈ u8s l, u.oneCell' = true := by
 intro u hu
 obtain ⟨x, _, rfl⟩ := List.mem_map.1 hu
 rfl
def FreeRow (w : World) (A : Option Addr) : Prop := ∀ a, A = some a → a.block < w.heap.size ∧ ∀ i, w.frozen? ⟨a.block, i, none⟩ = false
theorem FreeRow.none_ (w : World) : FreeRow w none := fun a h => by cases h
theorem FreeRow.below {w w' : World} {A : Option Addr} (h : FreeRow w A) (hb : Below w.heap.size w w') : FreeRow w' A := fun a ha =>
 ⟨Nat.lt_of_lt_of_le (h a ha).1 hb.size, fun i => (hb.frozen (p := ⟨a.block, i, none⟩) (h a ha).1).trans ((h a ha).2 i)⟩
theorem own_free {w : World} {B : Nat} {e : TypeId} {size : Nat} {A : Option Addr} {n c : Nat} {xs : List Value} (h : w.ownsRow B e size (.slice A n c) n xs) : FreeRow w A := by
 intro a ha
 rcases h.2 with ⟨hv, _⟩ | ⟨g, cap, cur, hv, _, hg, _⟩
 ·injection hv with h1; rw [h1] at ha; cases ha
 ·injection hv with h1
  rw [h1] at ha
  injection ha with ha
  subst ha
  exact ⟨(Array.getElem?_eq_some_iff.1 hg).1, fun i => by simp [World.frozen?, hg]⟩
theorem own_byt {w : World} {B : Nat} {e : TypeId} {v : Value} {n : Nat} {l : List UInt8} (h : w.ownsRow B e 1 v n (u8s l)) : ∃ A c, v = .slice A n c ∧ Byt w (B ≤ ·) A n c l := by
 have hl : l.length = n := by have := h.1; rw [u8s_length] at this; omega
 rcases h.2 with ⟨rfl, rfl⟩ | ⟨g, cap, cur, rfl, hb, hg, hn, hm, _, _⟩
 ·have : l = [] := List.eq_nil_of_length_eq_zero hl
  subst this
  exact ⟨none, 0, rfl, Byt.nil _ _ _ _ (Nat.zero_le _)⟩
 ·refine ⟨_, cap, rfl, hl, hn, hm, fun _ => ⟨g, 0, rfl, hb, (Array.getElem?_eq_some_iff.1 hg).1, fun i hi => ?_⟩⟩
  have := h.cells (g := g) rfl i (.int .u8 ((l[i]?.getD 0).toNat : Int)) (by
   have hil : i < l.length := by omega
   simp [u8s, List.getElem?_map, List.getElem?_eq_getElem hil])
  rw [add_plain] at this
  exact this
theorem byt_news {w : World} {S : Nat → Prop} {n c : Nat} {ad : Addr} {l : List UInt8} (h : Byt w S (some ad) n c l) : ∀ j u, (u8s l)[j]? = some u → w.cell? (ad.add j) = some u := by
 intro j u hj
 have hjl : j < l.length := by
  have := (List.getElem?_eq_some_iff.1 hj).1
  rwa [u8s_length] at this
 obtain ⟨b, off, hA, _, _, hc⟩ := h.row (by have := h.len; omega)
 obtain rfl : ad = ⟨b, off, none⟩ := by injection hA
 rw [add_plain, hc j (by have := h.len; omega)]
 rw [← hj]
 simp [u8s, List.getElem?_map, List.getElem?_eq_getElem hjl]
def cutA (A : Option Addr) (c k : Nat) : Option Addr := if c = k then A else A.map (·.add k)
theorem Byt.cut {w : World} {S : Nat → Prop} {n c k : Nat} {A : Option Addr} {l : List UInt8} (h : Byt w S A n c l) (hk : k ≤ n) : Byt w S (cutA A c k) (n - k) (c - k) (l.drop k) := h.drop hk
theorem run_cut {P : Program} (t e : TypeId) (ht : P.underlying t = some (.slice e)) (hz : ∀ w, (Go.sizeOf e).run P w = .ok 1 w) (A : Option Addr) (n c k : Nat) (hk : k ≤ n) (W : World) :
    (Instr.slice t (.slice A n c) (some (.int .i64 (k : Int))) none none).run P W = .ok (.slice (cutA A c k) (n - k) (c - k)) W := by
 have ht' : P.underlying t = some (.slice (P.elem t)) := by simp [Program.elem, ht]
 have he : P.elem t = e := by simp [Program.elem, ht]
 rw [run_slice_l W t A n c ht' .i64 (k : Int) (by omega) (by omega), he, hz]
 simp [Result.andThen, sliced, cutA]
theorem run_front {P : Program} (t e : TypeId) (ht : P.underlying t = some (.slice e)) (hz : ∀ w, (Go.sizeOf e).run P w = .ok 1 w) (A : Option Addr) (n c k : Nat) (hk : k ≤ c) (W : World) :
    (Instr.slice t (.slice A n c) none (some (.int .i64 (k : Int))) (some (.int .i64 (k : Int)))).run P W = .ok (.slice A k k) W := by
 have ht' : P.underlying t = some (.slice (P.elem t)) := by simp [Program.elem, ht]
 have he : P.elem t = e := by simp [Program.elem, ht]
 rw [run_slice_hm W t A n c ht' .i64 .i64 (k : Int) (k : Int) (by omega) (by omega) (by omega), he, hz]
 have h0 : ∀ a : Addr, a.add 0 = a := fun a => by simp [Addr.add]
 cases A <;> simp [Result.andThen, sliced, h0]
end Go.Proofs.Ytmmibldchfmleaa

namespace Go.Proofs.Ytmmibldchfmleaa
open Go.RowKit
section
variable {w w' : World} {p : Nat}
theorem lt_of_cells {cs : Array Value} {t : TypeId} {f : Nat × Nat} (h : w.heap[p]? = some (.cells cs t f)) : p < w.heap.size := (Array.getElem?_eq_some_iff.1 h).1
theorem cell_of_cells {cs : Array Value} {t : TypeId} {f : Nat × Nat} (h : w.heap[p]? = some (.cells cs t f)) (i : Nat) : w.cell? ⟨p, i, none⟩ = cs[i]? := cell_of_row w p i cs t f h
theorem free_of_cells {cs : Array Value} {t : TypeId} (h : w.heap[p]? = some (.cells cs t (0, 0))) (i : Nat) : w.frozen? ⟨p, i, none⟩ = false := by simp [World.frozen?, h]
theorem set_of_cells {cs : Array Value} {t : TypeId} {f : Nat × Nat} (h : w.heap[p]? = some (.cells cs t f)) (i : Nat) (u : Value) : (w.setCell ⟨p, i, none⟩ u).heap[p]? = some (.cells (cs.setIfInBounds i u) t f) := by
 simp [World.setCell, Array.getElem?_modify, h]
end
theorem u8_size : ∀ w, (Go.sizeOf 5).run Try.prog w = .ok 1 w := fun w => by kernel_rfl
theorem setRow_at {w : World} {g : Nat} {cs new : Array Value} {t : TypeId} (h : w.heap[g]? = some (.cells cs t (0, 0))) : (w.setRow g new).heap[g]? = some (.cells new t (0, 0)) := by
 simp [World.setRow, Array.getElem?_modify, h]
theorem below_setRow {a w : World} {B : Nat} (h : Below B a w) {g : Nat} (hg : B ≤ g) (cs : Array Value) : Below B a (w.setRow g cs) :=
 ⟨h.os, h.tape, h.output, by simpa [World.setRow] using h.size, fun i hi => by
   rw [← h.block i hi]
   simp only [World.setRow, Array.getElem?_modify]
   rw [if_neg (by omega)]⟩
theorem below_drewN {B : Nat} {a w : World} (h : Below B a w) (k : Nat) : Below B a (w.drewN k) := ⟨h.os, h.tape, h.output, h.size, h.block⟩
theorem below_drew {B : Nat} {a w : World} (h : Below B a w) : Below B a w.drew := ⟨h.os, h.tape, h.output, h.size, h.block⟩
theorem u8s_set (l : List UInt8) (i : Nat) (x : UInt8) : (u8s l).set i (.int .u8 (x.toNat : Int)) = u8s (l.set i x) := by simp [u8s, List.map_set]
theorem str_of (l : List UInt8) : strOfNums (l.map fun c => (c.toNat : Int)) = ⟨l.toArray⟩ := by
 unfold strOfNums
 congr 2
 rw [List.map_map]
 conv => rhs; rw [← List.map_id l]
 apply List.map_congr_left
 intro c _
 simp
theorem byt_string {w : World} {S : Nat → Prop} {A : Option Addr} {n c : Nat} {l : List UInt8} (h : Byt w S A n c l) : (convert 49 9 (.slice A n c)).run Try.prog w = .ok (.string ⟨l.toArray⟩) w := by
 have hl := h.len
 by_cases h0 : 0 < n
 ·obtain ⟨b, off, rfl, _, _, hc⟩ := h.row h0
  have := run_convert_bytes_arg (P := Try.prog) w 49 5 Try.underlying49 Try.underlying5 b off n c (l.map fun c => (c.toNat : Int)) (by simp [hl]) (fun i hi => by
   rw [hc i hi]
   simp [List.getD, List.getElem?_map, List.getElem?_eq_getElem (show i < l.length by omega)]) 9 Try.underlying9
  rw [this, str_of]
 ·have : n = 0 := by omega
  subst this
  have : l = [] := List.eq_nil_of_length_eq_zero hl
  subst this
  rcases A with _ | ad
  ·rw [run_convert_bytes_nil w 49 5 Try.underlying49 Try.underlying5 0 c 9 Try.underlying9]
   rfl
  ·rw [run_convert_bytes_string w 49 9 5 (some ad) 0 c Try.underlying49 Try.underlying5 Try.underlying9, run_bytesToString w ad 0 c [] (by simp [loadCells, loadCellsFrom])]
   rfl
theorem byt_whole {w : World} {g : Nat} {l : List UInt8} {t : TypeId} {f : Nat × Nat} (h : w.heap[g]? = some (.cells (u8s l).toArray t f)) (hl : l.length ≤ 1000000) : Byt w (fun _ => True) (some ⟨g, 0, none⟩) l.length l.length l :=
 ⟨rfl, Nat.le_refl _, by unfold maxLen; omega, fun _ => ⟨g, 0, rfl, trivial, lt_of_cells h, fun i hi => by
   rw [cell_of_cells h, Nat.zero_add, List.getElem?_toArray]
   simp [u8s, List.getElem?_map, List.getElem?_eq_getElem hi]⟩⟩
def row8 (l : List UInt8) : Array Value := (u8s l).toArray
theorem row8_size (l : List UInt8) : (row8 l).size = l.length := by simp [row8, u8s_length]
theorem row8_one (l : List UInt8) : (row8 l).all (·.oneCell') = true := all_oneCell_toArray (u8s_one l)
theorem Byt.to {w : World} {S : Nat → Prop} {A : Option Addr} {n c k : Nat} {l : List UInt8} (h : Byt w S A n c l) (hk : k ≤ n) : Byt w S A k c (l.take k) :=
 ⟨by rw [List.length_take, h.len]; omega, by have := h.cap; omega, h.max, fun h0 => by
   obtain ⟨b, off, rfl, hB, hb, hc⟩ := h.row (by omega)
   refine ⟨b, off, rfl, hB, hb, fun i hi => ?_⟩
   rw [hc i (by omega), List.getElem?_take_of_lt hi]⟩
theorem u8_info : (Try.prog.info? 5).map (fun i => (i.zero, i.size, i.bytes)) = some (some (.int .u8 0), 1, 1) := by kernel_rfl
def st (l : List UInt8) : ByteArray := ⟨l.toArray⟩
theorem st_size (l : List UInt8) : (st l).size = l.length := by simp [st, ByteArray.size]
end Go.Proofs.Ytmmibldchfmleaa

namespace Go.Proofs.Ytmmibldchfmleaa
namespace Codec
def put (x : Nat) : List UInt8 := if h : x < 128 then [UInt8.ofNat x] else UInt8.ofNat (x % 128 + 128) :: put (x / 128)
termination_by x
decreasing_by omega
def rd : Nat → List UInt8 → Nat × Nat × Nat
 | _, [] => (0, 0, 10)
 | i, c :: t =>
   if (i = 9 ∧ 1 < c.toNat) ∨ (0 < i ∧ c.toNat = 0) then (0, 0, 11)
   else if c.toNat < 128 then (c.toNat, 1, 0)
   else if (rd (i + 1) t).2.2 = 0 then (c.toNat - 128 + 128 * (rd (i + 1) t).1, (rd (i + 1) t).2.1 + 1, 0) else (0, 0, (rd (i + 1) t).2.2)
def comb (i x : Nat) (r : Nat × Nat × Nat) : Nat × Nat × Nat := if r.2.2 = 0 then (x + 128 ^ i * r.1, i + r.2.1, 0) else (0, 0, r.2.2)
theorem put_small {x : Nat} (h : x < 128) : put x = [UInt8.ofNat x] := by rw [put]; simp [h]
theorem put_big {x : Nat} (h : 128 ≤ x) : put x = UInt8.ofNat (x % 128 + 128) :: put (x / 128) := by rw [put]; simp [show ¬ x < 128 by omega]
theorem put_length_pos (x : Nat) : 0 < (put x).length := by rw [put]; split <;> simp
theorem put_length_le : ∀ (k x : Nat), 1 ≤ k → x < 128 ^ k → (put x).length ≤ k
 | 0, x, hk, _ => by omega
 | 1, x, _, h => by rw [put_small (by simpa using h)]; simp
 | k + 2, x, _, h => by
   by_cases hx : x < 128
   ·rw [put_small hx]; simp
   ·rw [put_big (by omega)]
    have hd : x / 128 < 128 ^ (k + 1) := by rw [Nat.div_lt_iff_lt_mul (by omega), ← Nat.pow_succ]; exact h
    have := put_length_le (k + 1) (x / 128) (by omega) hd
    simp; omega
theorem put_length_64 {x : Nat} (h : x < 18446744073709551616) : (put x).length ≤ 10 :=
 put_length_le 10 x (by omega) (Nat.lt_of_lt_of_le h (by decide))
theorem rd_le : ∀ (i : Nat) (l : List UInt8), (rd i l).2.1 ≤ l.length
 | _, [] => by simp [rd]
 | i, c :: t => by
   have := rd_le (i + 1) t
   simp only [rd]
   split
   ·simp
   ·split
    ·simp
    ·split
     ·simp; omega
     ·simp
theorem rd_err : ∀ (i : Nat) (l : List UInt8), (rd i l).2.2 ≠ 0 → (rd i l).1 = 0 ∧ (rd i l).2.1 = 0
 | _, [], _ => by simp [rd]
 | i, c :: t, h => by
   simp only [rd] at h ⊢
   split
   ·simp
   ·split
    ·rename_i h1 h2
     rw [if_neg h1, if_pos h2] at h
     simp at h
    ·rename_i h1 h2
     rw [if_neg h1, if_neg h2] at h
     split
     ·rename_i h3
      rw [if_pos h3] at h
      simp at h
     ·simp
theorem rd_bound : ∀ (i : Nat) (l : List UInt8), i ≤ 9 → (rd i l).1 < 2 * 128 ^ (9 - i)
 | i, [], _ => by simp [rd]; exact Nat.pow_pos (by omega)
 | i, c :: t, hi => by
   have hp : 0 < 128 ^ (9 - i) := Nat.pow_pos (by omega)
   have hc := c.toNat_lt
   simp only [rd]
   split
   ·simpa using hp
   ·rename_i h1
    by_cases h9 : i = 9
    ·subst h9
     have : c.toNat ≤ 1 := by simp at h1; omega
     rw [if_pos (by omega)]
     simp; omega
    ·have hq : 128 ^ (9 - i) = 128 * 128 ^ (9 - (i + 1)) := by rw [show 9 - i = (9 - (i + 1)) + 1 by omega, Nat.pow_succ]; omega
     have hq1 : 0 < 128 ^ (9 - (i + 1)) := Nat.pow_pos (by omega)
     split
     ·simp; omega
     ·split
      ·have := rd_bound (i + 1) t (by omega)
       simp; omega
      ·simpa using hp
theorem rd_put : ∀ (k i x : Nat) (t : List UInt8), (put x).length = k → i ≤ 9 → x < 2 * 128 ^ (9 - i) → (0 < i → 0 < x) → rd i (put x ++ t) = (x, k, 0)
 | 0, i, x, t, hk, _, _, _ => by have := put_length_pos x; omega
 | k + 1, i, x, t, hk, hi, hx, h0 => by
   by_cases hs : x < 128
   ·rw [put_small hs] at hk ⊢
    have e : (UInt8.ofNat x).toNat = x := by simp [Nat.mod_eq_of_lt (show x < 256 by omega)]
    simp at hk
    subst hk
    simp only [List.cons_append, rd, e]
    rw [if_neg, if_pos hs]
    rintro (⟨rfl, h⟩ | ⟨h, h'⟩)
    ·simp at hx; omega
    ·have := h0 h; omega
   ·rw [put_big (by omega)] at hk ⊢
    have e : (UInt8.ofNat (x % 128 + 128)).toNat = x % 128 + 128 := by simp; omega
    have h9 : i ≠ 9 := by rintro rfl; simp at hx; omega
    have hq : 128 ^ (9 - i) = 128 * 128 ^ (9 - (i + 1)) := by rw [show 9 - i = (9 - (i + 1)) + 1 by omega, Nat.pow_succ]; omega
    simp at hk
    have ih := rd_put k (i + 1) (x / 128) t hk (by omega) (by omega) (fun _ => by omega)
    simp only [List.cons_append, rd, e, ih]
    rw [if_neg (by omega), if_neg (by omega)]
    simp; omega
theorem rd_put0 {x : Nat} (h : x < 18446744073709551616) (t : List UInt8) : rd 0 (put x ++ t) = (x, (put x).length, 0) :=
 rd_put _ 0 x t rfl (by omega) (by simpa using h) (by omega)
theorem put_rd : ∀ (i : Nat) (l : List UInt8), i ≤ 9 → (rd i l).2.2 = 0 → put (rd i l).1 = l.take (rd i l).2.1 ∧ (0 < i → 0 < (rd i l).1) ∧ 1 ≤ (rd i l).2.1 ∧ (rd i l).2.1 ≤ 10 - i
 | _, [], _, h => by simp [rd] at h
 | i, c :: t, hi, h => by
   have hc := c.toNat_lt
   simp only [rd] at h ⊢
   by_cases h1 : (i = 9 ∧ 1 < c.toNat) ∨ (0 < i ∧ c.toNat = 0)
   ·rw [if_pos h1] at h; simp at h
   ·rw [if_neg h1] at h ⊢
    by_cases h2 : c.toNat < 128
    ·rw [if_pos h2]
     simp only [put_small h2, List.take_succ_cons, List.take_zero]
     refine ⟨by simp, fun _ => by omega, by omega, by omega⟩
    ·rw [if_neg h2] at h ⊢
     by_cases h3 : (rd (i + 1) t).2.2 = 0
     ·rw [if_pos h3]
      have h9 : i ≠ 9 := by rintro rfl; omega
      obtain ⟨a, b, c1, d⟩ := put_rd (i + 1) t (by omega) h3
      have hb := b (by omega)
      refine ⟨?_, fun _ => by simp; omega, by simp, by simp; omega⟩
      simp only
      rw [put_big (by omega), show (c.toNat - 128 + 128 * (rd (i + 1) t).1) / 128 = (rd (i + 1) t).1 by omega, a,
       show (c.toNat - 128 + 128 * (rd (i + 1) t).1) % 128 + 128 = c.toNat by omega]
      simp
     ·rw [if_neg h3] at h; exact absurd h h3
theorem comb_zero (r : Nat × Nat × Nat) (h : r.2.2 ≠ 0 → r.1 = 0 ∧ r.2.1 = 0) : comb 0 0 r = r := by
 unfold comb
 obtain ⟨a, b, c⟩ := r
 simp only at h ⊢
 split
 ·rename_i h0; subst h0; simp
 ·rename_i h0; obtain ⟨rfl, rfl⟩ := h h0; rfl
theorem comb_step {i x : Nat} {c : UInt8} {t : List UInt8} (h1 : ¬ ((i = 9 ∧ 1 < c.toNat) ∨ (0 < i ∧ c.toNat = 0))) (h2 : ¬ c.toNat < 128) :
    comb i x (rd i (c :: t)) = comb (i + 1) (x + (c.toNat - 128) * 128 ^ i) (rd (i + 1) t) := by
 simp only [rd, if_neg h1, if_neg h2]
 unfold comb
 by_cases h3 : (rd (i + 1) t).2.2 = 0
 ·rw [if_pos h3, if_pos rfl, if_pos h3]
  have : 128 ^ (i + 1) = 128 * 128 ^ i := by rw [Nat.pow_succ]; omega
  simp only [this, Prod.mk.injEq, and_true]
  refine ⟨?_, by omega⟩
  generalize 128 ^ i = p
  generalize (rd (i + 1) t).1 = v
  rw [Nat.mul_add, Nat.mul_comm p (c.toNat - 128), ← Nat.add_assoc, ← Nat.mul_assoc p, Nat.mul_comm p 128]
 ·rw [if_neg h3, if_neg h3, if_neg h3]
end Codec
end Go.Proofs.Ytmmibldchfmleaa

namespace Go.Proofs.Ytmmibldchfmleaa
open Go.RowKit Codec
theorem or_shift {X c i : Nat} (hX : X < 128 ^ i) (hc : X + c * 128 ^ i < 18446744073709551616) : bits .or .u64 (X : Int) (IntKind.u64.wrap ((c : Int) * 2 ^ (7 * i))) = ((X + c * 128 ^ i : Nat) : Int) := by
 have e : (128 : Nat) ^ i = 2 ^ (7 * i) := by rw [Nat.pow_mul]
 have hc' : c * 2 ^ (7 * i) < 18446744073709551616 := by rw [← e]; omega
 have hw : IntKind.u64.wrap ((c : Int) * 2 ^ (7 * i)) = ((c * 2 ^ (7 * i) : Nat) : Int) := by
  rw [show ((c : Int) * 2 ^ (7 * i)) = ((c * 2 ^ (7 * i) : Nat) : Int) by simp]
  exact IntWalk.u64_in _ ⟨by omega, by omega⟩
 rw [hw, bits_or_u64_nat _ _ (by omega) hc', e]
 congr 1
 rw [Nat.or_comm, Nat.mul_comm c, ← Nat.two_pow_add_eq_or_of_lt (by rw [← e]; exact hX)]
 omega
theorem drop_at {l : List UInt8} {k : Nat} (h : k < l.length) : ∃ c, l.drop k = c :: l.drop (k + 1) ∧ l[k]?.getD 0 = c :=
 ⟨l[k], List.drop_eq_getElem_cons h, by simp [List.getElem?_eq_getElem h]⟩
theorem n_bad {k X : Nat} {c : UInt8} {l t : List UInt8} (H : rd 0 l = comb k X (rd k (c :: t))) (h : (k = 9 ∧ 1 < c.toNat) ∨ (0 < k ∧ c.toNat = 0)) : rd 0 l = (0, 0, 11) := by
 rw [H]; simp [rd, h, comb]
theorem n_end {k X : Nat} {c : UInt8} {l t : List UInt8} (H : rd 0 l = comb k X (rd k (c :: t))) (h : ¬ ((k = 9 ∧ 1 < c.toNat) ∨ (0 < k ∧ c.toNat = 0))) (h2 : c.toNat < 128) : rd 0 l = (X + c.toNat * 128 ^ k, k + 1, 0) := by
 rw [H]; simp only [rd, if_neg h, if_pos h2, comb, if_true, Nat.mul_comm (128 ^ k)]
theorem n_small {k X c : Nat} (hX : X < 128 ^ k) (hk : k ≤ 9) (hc : c < 128) (h9 : k = 9 → c ≤ 1) : X + c * 128 ^ k < 18446744073709551616 := by
 by_cases h : k = 9
 ·subst h; have := h9 rfl; simp at hX ⊢; omega
 ·have h1 : c * 128 ^ k ≤ 127 * 128 ^ k := Nat.mul_le_mul_right _ (by omega)
  have h2 : 128 ^ (k + 1) ≤ 128 ^ 9 := Nat.pow_le_pow_right (by omega) (by omega)
  rw [Nat.pow_succ] at h2
  simp at h2
  omega
theorem n_next {k X c : Nat} (hX : X < 128 ^ k) (hc : c < 128) : X + c * 128 ^ k < 128 ^ (k + 1) := by
 have h1 : c * 128 ^ k ≤ 127 * 128 ^ k := Nat.mul_le_mul_right _ (by omega)
 rw [Nat.pow_succ]
 omega
theorem or_step {X k d : Nat} (hX : X < 128 ^ k) (hk : k ≤ 9) (h9 : k = 9 → d % 128 ≤ 1) : bits .or .u64 (X : Int) (IntKind.u64.wrap ((d : Int) % 128 * 2 ^ (7 * k))) = ((X + (d % 128) * 128 ^ k : Nat) : Int) := by
 have := or_shift (c := d % 128) hX (n_small hX hk (by omega) h9)
 rw [← this]
 rfl
theorem ret3_of {k1 k2 k3 : IntKind} {a a' b b' c c' : Int} (h1 : a = a') (h2 : b = b') (h3 : c = c') : Ending.returned (.tuple #[.int k1 a, .int k2 b, .int k3 c]) = .returned (.tuple #[.int k1 a', .int k2 b', .int k3 c']) := by rw [h1, h2, h3]
set_option maxHeartbeats 1000000 in
set_option maxRecDepth 100000 in
theorem number_any (b off n c : Nat) (l : List UInt8) (w : World) (hl : Hid (l.length = n)) (hn : n ≤ maxLen)
    (hc : ∀ i, i < n → w.cell? ⟨b, off + i, none⟩ = some (.int .u8 ((l[i]?.getD 0).toNat : Int))) :
    Calls Try.prog 43 #[.slice (some ⟨b, off, none⟩) n c] w fun e w' => e = .returned (.tuple #[.int .u64 (rd 0 l).1, .int .i64 (rd 0 l).2.1, .int .i64 (rd 0 l).2.2]) ∧ w = w' := by
 unfold maxLen at hn
 go_enter Try.func43, Try.ntmps43
 go_wp2
 go_step3
 go_wp2
 go_step3
 go_wp2
 go_loop [5, 6, 7, 12] (fun x m e i => ∃ (k : Nat) (X : Nat), k ≤ n ∧ k ≤ 9 ∧ i = .int .i64 k ∧ m = .int .i64 0 ∧ e = .int .i64 10 ∧ x = .int .u64 X ∧ X < 128 ^ k ∧ Hid (rd 0 l = comb k X (rd k (l.drop k)))) (fun _ _ _ i => n - (intOf i).toNat)
 case atStart => exact ⟨0, 0, by omega, by omega, rfl, rfl, rfl, rfl, by simp, by rw [List.drop_zero, comb_zero _ (rd_err 0 l)]; exact rfl⟩
 case round =>
  obtain ⟨k, X, hk, hk9, rfl, rfl, rfl, rfl, hX, HD⟩ := hrel
  by_cases hlt : k < n
  ·obtain ⟨d, hd, hdk⟩ := drop_at (l := l) (k := k) (by rw [hl.out]; exact hlt)
   have hcell := hc k hlt
   rw [hdk] at hcell
   have HD' := HD.out
   rw [hd] at HD'
   have H := Lib.hid HD'
   have hu := d.toNat_lt
   have HX := Lib.hid hX
   clear hc HD HD' hd hdk hl hX
   go_wp2
   ·have h9 : (k : Int) = 9 := by assumption
    have h1 : 1 < (d.toNat : Int) := by assumption
    rw [n_bad H.out (Or.inl ⟨by omega, by omega⟩)]
    go_ret3
    exact ⟨rfl, rfl⟩
   ·have h9 : (k : Int) = 9 := by assumption
    have h0 : ((d.toNat : Int) == 0) = true := by assumption
    have := WalkArith.int_eq h0
    rw [n_bad H.out (Or.inr ⟨by omega, by omega⟩)]
    go_ret3
    exact ⟨rfl, rfl⟩
   ·have h9 : (k : Int) = 9 := by assumption
    have h1 : (d.toNat : Int) ≤ 1 := by assumption
    have h0 : ((d.toNat : Int) == 0) = false := by assumption
    have := WalkArith.int_ne h0
    have E := n_end H.out (by omega) (by omega)
    have E2 := or_step (d := d.toNat) HX.out hk9 (by omega)
    rw [E]
    go_ret3
    exact ⟨ret3_of (by rw [E2, Nat.mod_eq_of_lt (by omega)]) (by simp; omega) rfl, rfl⟩
   ·have h9 : ¬ (k : Int) = 9 := by assumption
    have hp : 0 < k := by assumption
    have h0 : ((d.toNat : Int) == 0) = true := by assumption
    have := WalkArith.int_eq h0
    rw [n_bad H.out (Or.inr ⟨by omega, by omega⟩)]
    go_ret3
    exact ⟨rfl, rfl⟩
   ·have h9 : ¬ (k : Int) = 9 := by assumption
    have hp : 0 < k := by assumption
    have h0 : ((d.toNat : Int) == 0) = false := by assumption
    have hs : (d.toNat : Int) < 128 := by assumption
    have := WalkArith.int_ne h0
    have E := n_end H.out (by omega) (by omega)
    have E2 := or_step (d := d.toNat) HX.out hk9 (by omega)
    rw [E]
    go_ret3
    exact ⟨ret3_of (by rw [E2, Nat.mod_eq_of_lt (by omega)]) (by simp) rfl, rfl⟩
   ·have h9 : ¬ (k : Int) = 9 := by assumption
    have hs : 128 ≤ (d.toNat : Int) := by assumption
    have E := H.out
    rw [comb_step (by omega) (by omega)] at E
    have E2 := or_step (d := d.toNat) HX.out hk9 (by omega)
    have hX2 := n_next (c := d.toNat % 128) HX.out (by omega)
    go_round
    case rel => exact ⟨k + 1, _, by omega, by omega, by go_num, rfl, rfl, by rw [E2], hX2, by rw [show d.toNat % 128 = d.toNat - 128 by omega]; exact E⟩
    case measure => simp [intOf]; omega
   ·have h9 : ¬ (k : Int) = 9 := by assumption
    have hp : ¬ 0 < k := by assumption
    have hs : (d.toNat : Int) < 128 := by assumption
    have E := n_end H.out (by omega) (by omega)
    have E2 := or_step (d := d.toNat) HX.out hk9 (by omega)
    rw [E]
    go_ret3
    exact ⟨ret3_of (by rw [E2, Nat.mod_eq_of_lt (by omega)]) (by simp) rfl, rfl⟩
   ·have h9 : ¬ (k : Int) = 9 := by assumption
    have hs : 128 ≤ (d.toNat : Int) := by assumption
    have E := H.out
    rw [comb_step (by omega) (by omega)] at E
    have E2 := or_step (d := d.toNat) HX.out hk9 (by omega)
    have hX2 := n_next (c := d.toNat % 128) HX.out (by omega)
    go_round
    case rel => exact ⟨k + 1, _, by omega, by omega, by go_num, rfl, rfl, by rw [E2], hX2, by rw [show d.toNat % 128 = d.toNat - 128 by omega]; exact E⟩
    case measure => simp [intOf]; omega
  ·have E : rd 0 l = (0, 0, 10) := by
     rw [HD.out, List.drop_eq_nil_of_le (by rw [hl.out]; omega)]; rfl
   have HE := Lib.hid E
   clear hc HD hl E
   go_wp2
   rw [HE.out]
   go_ret3
   exact ⟨rfl, rfl⟩
set_option maxRecDepth 100000 in
theorem number_none (A : Option Addr) (c : Nat) (w : World) :
    Calls Try.prog 43 #[.slice A 0 c] w fun e w' => e = .returned (.tuple #[.int .u64 0, .int .i64 0, .int .i64 10]) ∧ w = w' := by
 go_enter Try.func43, Try.ntmps43
 go_wp2
 go_step3
 go_wp2
 go_step3
 go_wp2
 go_loop [5, 6, 7, 12] (fun x m e i => i = .int .i64 0 ∧ m = .int .i64 0 ∧ e = .int .i64 10 ∧ x = .int .u64 0) (fun _ _ _ _ => 0)
 case atStart => exact ⟨rfl, rfl, rfl, rfl⟩
 case round =>
  obtain ⟨rfl, rfl, rfl, rfl⟩ := hrel
  go_wp2
  go_ret3
  exact ⟨rfl, rfl⟩
theorem number_byt {w : World} {S : Nat → Prop} {n c : Nat} {A : Option Addr} {l : List UInt8} (h : Byt w S A n c l) :
    Calls Try.prog 43 #[.slice A n c] w fun e w' => e = .returned (.tuple #[.int .u64 (rd 0 l).1, .int .i64 (rd 0 l).2.1, .int .i64 (rd 0 l).2.2]) ∧ w = w' := by
 by_cases h0 : n = 0
 ·subst h0
  have hl : l = [] := List.eq_nil_of_length_eq_zero h.len
  subst hl
  exact number_none A c w
 ·obtain ⟨b, off, rfl, _, _, hc⟩ := h.row (by omega)
  exact number_any b off n c l w h.len (by have := h.cap; have := h.max; omega) hc
end Go.Proofs.Ytmmibldchfmleaa

namespace Go.Proofs.Ytmmibldchfmleaa
open Go.RowKit
theorem clone_byt {w : World} {S : Nat → Prop} {n c : Nat} {A : Option Addr} {l : List UInt8} (h : Byt w S A n c l) (hn : n ≤ 140737488355328) :
    Calls Try.prog 42 #[.slice A n c] w fun e w' => ∃ A' c', e = .returned (.slice A' n c') ∧ Byt w' (w.heap.size ≤ ·) A' n c' l ∧ Below w.heap.size w w' ∧ (A' = none ↔ A = none) ∧ FreeRow w' A' := by
 obtain ⟨i0, hi, hz0, hz1, hz2⟩ := info_parts u8_info
 have hnil := fun (w : World) (a : Option Addr) (n c : Nat) => Lib.run_eql_slice_nil (P := Try.prog) w 49 5 a n c 0 0 Try.underlying49
 have hmax := h.max
 have hcap := h.cap
 rcases A with _ | ad
 ·have h0 : n = 0 := by
    rcases Nat.eq_zero_or_pos n with h0 | h0
    ·exact h0
    ·obtain ⟨_, _, hA, _⟩ := h.row h0
     cases hA
  subst h0
  have hl : l = [] := List.eq_nil_of_length_eq_zero h.len
  subst hl
  go_enter Try.func42, Try.ntmps42
  go_wp2
  go_ret
  exact ⟨none, 0, rfl, Byt.nil _ _ _ _ (Nat.zero_le _), Below.refl _ _, by simp, FreeRow.none_ _⟩
 ·have hnews := byt_news (h.alloc (.cells #[] 5))
  have hlen := u8s_length l
  have hll := h.len
  have hone := u8s_one l
  clear h
  go_enter Try.func42, Try.ntmps42
  go_wp2_with (at_builtin; refine wpList_append_own _ rfl _ _ 49 rfl w.heap.size 5 i0 (.int .u8 0) 1 1 Try.underlying49 hi hz0 hz1 hz2 rfl (by decide) _ 0 [] rfl (World.ownsRow_made w #[] 0 (Nat.le_refl _) (Nat.zero_le _) rfl) ad n c (u8s l) rfl ?qc1 hnews hone ?qc4 ?qc5 ?qc6 ?_)
  case qc1 => omega
  case qc4 => unfold maxLen at *; omega
  case qc5 => omega
  case qc6 => simp
  intro v' w1 hown hgrow hnn
  go_wp2
  go_ret
  obtain ⟨A', c', rfl, hb⟩ := own_byt hown
  refine ⟨A', c', rfl, hb, ((Below.refl _ w).alloc (Nat.le_refl _) _).grown hgrow (by simp) (by intro k hk; simp [Value.ownBlock] at hk; omega), ?_, own_free hown⟩
  constructor
  ·rintro rfl
   rcases hown.2 with ⟨h1, h2⟩ | ⟨g, cap, cur, h1, _⟩
   ·exact absurd h1 hnn
   ·cases h1
  ·intro h1; cases h1
end Go.Proofs.Ytmmibldchfmleaa

namespace Go.Proofs.Ytmmibldchfmleaa
open Go.RowKit Codec
def Rd (w : World) (S : Nat → Prop) (p : Nat) (l : List UInt8) (e : Int) : Prop := S p ∧ ∃ A n c, w.heap[p]? = some (.cells #[.slice A n c, .int .i64 e] 97 (0, 0)) ∧ Byt w S A n c l
section
variable {w w' : World} {S : Nat → Prop} {p : Nat} {l : List UInt8} {e : Int}
theorem nou8_of_cells {A : Option Addr} {n c : Nat} {t : TypeId} {f : Nat × Nat} (h : w.heap[p]? = some (.cells #[.slice A n c, .int .i64 e] t f)) : ∀ o x, w.cell? ⟨p, o, none⟩ ≠ some (.int .u8 x) := by
 intro o x
 rw [cell_of_cells h]
 rcases o with _ | _ | o <;> simp
theorem Rd.lt (h : Rd w S p l e) : p < w.heap.size := by
 obtain ⟨_, A, n, c, hh, _⟩ := h
 exact lt_of_cells hh
theorem Rd.below (h : Rd w S p l e) (hb : Below w.heap.size w w') : Rd w' S p l e := by
 obtain ⟨hB, A, n, c, hh, hy⟩ := h
 exact ⟨hB, A, n, c, (hb.block p (lt_of_cells hh)).trans hh, hy.below hb⟩
end
theorem err_rd {w : World} {S : Nat → Prop} {p : Nat} {l : List UInt8} {e : Int} (h : Rd w S p l e) :
    Calls Try.prog 27 #[.pointer (some ⟨p, 0, none⟩)] w fun r w' => r = .returned (.int .i64 e) ∧ w = w' := by
 obtain ⟨hB, A, n, c, hh, hy⟩ := h
 have h0 := cell_of_cells hh 1
 simp only [List.getElem?_toArray, List.getElem?_cons_succ, List.getElem?_cons_zero] at h0
 clear hh hy
 go_enter Try.func27, Try.ntmps27
 go_wp2
 go_ret
 exact ⟨rfl, rfl⟩
set_option maxHeartbeats 1000000 in
theorem uint_bad {w : World} {S : Nat → Prop} {p : Nat} {l : List UInt8} {e : Int} (h : Rd w S p l e) (he : (e == 0) = false) :
    Calls Try.prog 26 #[.pointer (some ⟨p, 0, none⟩)] w fun r w' => r = .returned (.int .u64 0) ∧ w = w' := by
 have he2 : (e != 0) = true := by simpa using he
 go_enter Try.func26, Try.ntmps26
 go_wp2_with (go_at_call 27; refine (err_rd h).mono ?_; rintro r w' ⟨rfl, rfl⟩)
 go_ret
 exact ⟨rfl, rfl⟩
set_option maxHeartbeats 1000000 in
theorem uint_ok {w : World} {S : Nat → Prop} {p : Nat} {l : List UInt8} (h : Rd w S p l 0) :
    Calls Try.prog 26 #[.pointer (some ⟨p, 0, none⟩)] w fun r w' => r = .returned (.int .u64 (rd 0 l).1) ∧ Rd w' S p (l.drop (rd 0 l).2.1) (rd 0 l).2.2 ∧ w.grownBy w' (some p) := by
 have h' := h
 obtain ⟨hB, A, n, c, hh, hy⟩ := h
 have h0 := cell_of_cells hh 0
 have h1 := cell_of_cells hh 1
 simp only [List.getElem?_toArray, List.getElem?_cons_succ, List.getElem?_cons_zero] at h0 h1
 have f0 := free_of_cells hh 0
 have f1 := free_of_cells hh 1
 have hk : (rd 0 l).2.1 ≤ n := by have := rd_le 0 l; have := hy.len; omega
 have hcut := run_cut (P := Try.prog) 49 5 Try.underlying49 u8_size A n c (rd 0 l).2.1 hk
 have hnum := number_byt hy
 generalize hr : rd 0 l = r at *
 have HR := Lib.hid hr
 clear hr
 obtain ⟨x, k, er⟩ := r
 go_enter Try.func26, Try.ntmps26
 go_wp2_with fail
 refine (err_rd h').mono ?_
 rintro _ _ ⟨rfl, rfl⟩
 go_wp2_with fail
 refine hnum.mono ?_
 rintro _ _ ⟨rfl, rfl⟩
 go_wp2_with fail
 go_ret
 refine ⟨rfl, ⟨hB, cutA A c k, n - k, c - k, ?_, ?_⟩, gr_set (gr_set (gr_refl _ _) _ _) _ _⟩
 ·have e1 := set_of_cells hh 1 (.int .i64 er)
  have e2 := set_of_cells e1 0 (.slice (cutA A c k) (n - k) (c - k))
  simpa using e2
 ·have e1 := set_of_cells hh 1 (.int .i64 er)
  exact ((hy.cut hk).far (nou8_of_cells hh) _).far (nou8_of_cells (by simpa using e1)) _
def tkE (l : List UInt8) (e k : Int) : Int := if e ≠ 0 then e else if k < 0 then 1 else if (l.length : Int) < k then 10 else 0
set_option maxHeartbeats 1000000 in
theorem ctake_bad {w : World} {S : Nat → Prop} {p : Nat} {l : List UInt8} {e k : Int} (h : Rd w S p l e) (hk : tkE l e k ≠ 0) :
    Calls Try.prog 44 #[.pointer (some ⟨p, 0, none⟩), .int .i64 k] w fun r w' => r = .returned (.slice none 0 0) ∧ Rd w' S p l (tkE l e k) ∧ w.grownBy w' (some p) := by
 have h' := h
 obtain ⟨hB, A, n, c, hh, hy⟩ := h
 have h0 := cell_of_cells hh 0
 have h1 := cell_of_cells hh 1
 simp only [List.getElem?_toArray, List.getElem?_cons_succ, List.getElem?_cons_zero] at h0 h1
 have f0 := free_of_cells hh 0
 have f1 := free_of_cells hh 1
 have hl := hy.len
 unfold tkE at hk ⊢
 have fin : ∀ er : Int, Rd (w.setCell ⟨p, 1, none⟩ (.int .i64 er)) S p l er := fun er =>
  ⟨hB, A, n, c, by simpa using set_of_cells hh 1 (.int .i64 er), hy.far (nou8_of_cells hh) _⟩
 by_cases he : e = 0
 ·subst he
  by_cases hk0 : k < 0
  ·simp only [ne_eq, not_true, if_false, if_pos hk0] at hk ⊢
   clear hh hy hl
   go_enter Try.func44, Try.ntmps44
   go_wp2_with (go_at_call 27; refine (err_rd h').mono ?_; rintro _ _ ⟨rfl, rfl⟩)
   go_ret
   exact ⟨rfl, fin 1, gr_set (gr_refl _ _) _ _⟩
  ·by_cases hk1 : (l.length : Int) < k
   ·simp only [ne_eq, not_true, if_false, if_neg hk0, if_pos hk1] at hk ⊢
    have hk2 : (n : Int) < k := by omega
    clear hh hy hl hk1
    go_enter Try.func44, Try.ntmps44
    go_wp2_with (go_at_call 27; refine (err_rd h').mono ?_; rintro _ _ ⟨rfl, rfl⟩)
    go_ret
    exact ⟨rfl, fin 10, gr_set (gr_refl _ _) _ _⟩
   ·simp [hk0, hk1] at hk
 ·simp only [ne_eq, he, not_false_iff, if_true] at hk ⊢
  have he2 : (e != 0) = true := by simpa using he
  clear hh hy hl he hk
  go_enter Try.func44, Try.ntmps44
  go_wp2_with (go_at_call 27; refine (err_rd h').mono ?_; rintro _ _ ⟨rfl, rfl⟩)
  go_ret
  exact ⟨rfl, h', gr_refl _ _⟩
set_option maxHeartbeats 1000000 in
theorem take_ok {w : World} {S : Nat → Prop} {p : Nat} {l : List UInt8} {m : Nat} (h : Rd w S p l 0) (hm : m ≤ l.length) :
    Calls Try.prog 44 #[.pointer (some ⟨p, 0, none⟩), .int .i64 m] w fun r w' => ∃ A, r = .returned (.slice A m m) ∧ Rd w' S p (l.drop m) 0 ∧ Byt w' S A m m (l.take m) ∧ w.grownBy w' (some p) := by
 have h' := h
 obtain ⟨hB, A, n, c, hh, hy⟩ := h
 have h0 := cell_of_cells hh 0
 have h1 := cell_of_cells hh 1
 simp only [List.getElem?_toArray, List.getElem?_cons_succ, List.getElem?_cons_zero] at h0 h1
 have f0 := free_of_cells hh 0
 have f1 := free_of_cells hh 1
 have hl := hy.len
 have hk : m ≤ n := by omega
 have hkc : m ≤ c := by have := hy.cap; omega
 have hk2 : ¬ (n : Int) < (m : Int) := by omega
 have hk3 : ¬ (m : Int) < 0 := by omega
 have hcut := run_cut (P := Try.prog) 49 5 Try.underlying49 u8_size A n c m hk
 have hfront := run_front (P := Try.prog) 49 5 Try.underlying49 u8_size A n c m hkc
 have fin : Rd (w.setCell ⟨p, 0, none⟩ (.slice (cutA A c m) (n - m) (c - m))) S p (l.drop m) 0 ∧ Byt (w.setCell ⟨p, 0, none⟩ (.slice (cutA A c m) (n - m) (c - m))) S A m m (l.take m) :=
  ⟨⟨hB, _, _, _, by simpa using set_of_cells hh 0 (.slice (cutA A c m) (n - m) (c - m)), (hy.cut hk).far (nou8_of_cells hh) _⟩, (hy.take hk).far (nou8_of_cells hh) _⟩
 clear hh hy hl
 go_enter Try.func44, Try.ntmps44
 go_wp2_with (go_at_call 27; refine (err_rd h').mono ?_; rintro _ _ ⟨rfl, rfl⟩)
 go_ret
 exact ⟨A, rfl, fin.1, fin.2, gr_set (gr_refl _ _) _ _⟩
def fxL (l : List UInt8) (e k : Int) : List UInt8 := if tkE l e k = 0 then l.drop k.toNat else l
theorem tkE_zero {l : List UInt8} {e k : Int} (h : tkE l e k = 0) : e = 0 ∧ 0 ≤ k ∧ k.toNat ≤ l.length := by
 unfold tkE at h
 by_cases he : e = 0
 ·subst he
  by_cases h1 : k < 0
  ·simp [h1] at h
  ·by_cases h2 : (l.length : Int) < k
   ·simp [h1, h2] at h
   ·exact ⟨rfl, by omega, by omega⟩
 ·simp [he] at h
def endE (l : List UInt8) (e : Int) : Int := if e ≠ 0 then e else if l = [] then 0 else 12
set_option maxHeartbeats 1000000 in
theorem end_rd {w : World} {S : Nat → Prop} {p : Nat} {l : List UInt8} {e : Int} (h : Rd w S p l e) :
    Calls Try.prog 30 #[.pointer (some ⟨p, 0, none⟩)] w fun r w' => r = .returned (.int .i64 (endE l e)) ∧ w = w' := by
 have h' := h
 obtain ⟨hB, A, n, c, hh, hy⟩ := h
 have h0 := cell_of_cells hh 0
 simp only [List.getElem?_toArray, List.getElem?_cons_zero] at h0
 have hl := hy.len
 unfold endE
 by_cases he : e = 0
 ·subst he
  by_cases hn : l = []
  ·subst hn
   simp at hl
   subst hl
   clear hh hy
   go_enter Try.func30, Try.ntmps30
   go_wp2_with (go_at_call 27; refine (err_rd h').mono ?_; rintro _ _ ⟨rfl, rfl⟩)
   go_ret
   exact ⟨rfl, rfl⟩
  ·have hp : 0 < n := by
     rcases Nat.eq_zero_or_pos n with hz | hz
     ·exact absurd (List.eq_nil_of_length_eq_zero (hl.trans hz)) hn
     ·exact hz
   simp only [ne_eq, not_true, if_false, if_neg hn]
   clear hh hy hl hn
   go_enter Try.func30, Try.ntmps30
   go_wp2_with (go_at_call 27; refine (err_rd h').mono ?_; rintro _ _ ⟨rfl, rfl⟩)
   go_ret
   exact ⟨rfl, rfl⟩
 ·have he2 : (e != 0) = true := by simpa using he
  simp only [ne_eq, he, not_false_iff, if_true]
  clear hh hy hl he
  go_enter Try.func30, Try.ntmps30
  go_wp2_with (go_at_call 27; refine (err_rd h').mono ?_; rintro _ _ ⟨rfl, rfl⟩)
  go_ret
  exact ⟨rfl, rfl⟩
end Go.Proofs.Ytmmibldchfmleaa

namespace Go.Proofs.Ytmmibldchfmleaa
open Go.RowKit Codec
def uiX (l : List UInt8) (e : Int) : Nat := if e = 0 then (rd 0 l).1 else 0
def uiL (l : List UInt8) (e : Int) : List UInt8 := if e = 0 then l.drop (rd 0 l).2.1 else l
def uiE (l : List UInt8) (e : Int) : Int := if e = 0 then (rd 0 l).2.2 else e
theorem uiX_lt (l : List UInt8) (e : Int) : uiX l e < 18446744073709551616 := by
 unfold uiX
 split
 ·have := rd_bound 0 l (by omega); simp at this; omega
 ·omega
theorem uiL_length (l : List UInt8) (e : Int) : (uiL l e).length ≤ l.length := by unfold uiL; split <;> simp
theorem uint_any {w : World} {S : Nat → Prop} {p : Nat} {l : List UInt8} {e : Int} (h : Rd w S p l e) :
    Calls Try.prog 26 #[.pointer (some ⟨p, 0, none⟩)] w fun r w' => r = .returned (.int .u64 (uiX l e)) ∧ Rd w' S p (uiL l e) (uiE l e) ∧ w.grownBy w' (some p) := by
 unfold uiX uiL uiE
 by_cases he : e = 0
 ·subst he
  simp only [if_true]
  exact uint_ok h
 ·simp only [he, if_false]
  exact (uint_bad h (by simpa using he)).mono (by rintro _ _ ⟨rfl, rfl⟩; exact ⟨rfl, h, gr_refl _ _⟩)
theorem Rd.mono {w : World} {S T : Nat → Prop} {p : Nat} {l : List UInt8} {e : Int} (h : Rd w S p l e) (hS : ∀ b, b < w.heap.size → S b → T b) : Rd w T p l e := by
 have hlt := h.lt
 obtain ⟨hB, A, n, c, hh, hy⟩ := h
 exact ⟨hS _ hlt hB, A, n, c, hh, hy.mono hS⟩
theorem Rd.grown {w w' : World} {S : Nat → Prop} {p : Nat} {l : List UInt8} {e : Int} (h : Rd w S p l e) {row : Option Nat} (hg : w.grownBy w' row) (hr : ∀ g, row = some g → ¬ S g) : Rd w' S p l e := by
 have hlt := h.lt
 obtain ⟨hB, A, n, c, hh, hy⟩ := h
 exact ⟨hB, A, n, c, (hg.block p hlt (fun e => hr p e.symm hB)).trans hh, hy.grown hg fun g hgr => .inl (hr g hgr)⟩
theorem Rd.free {w : World} {S : Nat → Prop} {p : Nat} {l : List UInt8} {e : Int} (h : Rd w S p l e) : w.frozen? ⟨p, 1, none⟩ = false := by
 obtain ⟨_, A, n, c, hh, _⟩ := h
 exact free_of_cells hh 1
set_option maxHeartbeats 1000000 in
theorem newReader {w : World} {S : Nat → Prop} {n c : Nat} {A : Option Addr} {l : List UInt8} (h : Byt w S A n c l) (hn : n ≤ 140737488355328) :
    Calls Try.prog 25 #[.slice A n c] w fun r w' => ∃ p, r = .returned (.pointer (some ⟨p, 0, none⟩)) ∧ Rd w' (w.heap.size ≤ ·) p l 0 ∧ Below w.heap.size w w' := by
 go_enter Try.func25, Try.ntmps25
 go_wp2_with fail
 refine (clone_byt h hn).mono ?_
 rintro _ w1 ⟨A2, c2, rfl, hY, hb, _⟩
 go_wp2
 go_ret
 exact ⟨w1.heap.size, rfl, ⟨hb.size, A2, n, c2, heap_alloc_new w1 _, hY.alloc _⟩, hb.alloc hb.size _⟩
end Go.Proofs.Ytmmibldchfmleaa

namespace Go.Proofs.Ytmmibldchfmleaa
open Go.RowKit Codec
structure Ch where
 k : List UInt8
 v : List UInt8
 g : Bool
abbrev Tb := List (List UInt8 × List UInt8)
def Srt (t : Tb) : Prop := t.Pairwise fun a b => a.1 < b.1
def getT (t : Tb) (k : List UInt8) : Option (List UInt8) := (t.find? fun p => p.1 == k).map (·.2)
theorem bytes_less : ∀ a b : List UInt8, Op.bytesLess a b = decide (a < b)
 | _, [] => by
   rename_i a
   cases a <;> simp [Op.bytesLess]
 | [], b :: y => by simp [Op.bytesLess]
 | a :: x, b :: y => by
   rw [Op.bytesLess, bytes_less x y]
   simp only [List.cons_lt_cons_iff]
   by_cases h : a < b <;> by_cases h2 : a = b <;> simp [h, h2]
theorem klt_irr (a : List UInt8) : ¬ a < a := List.lt_irrefl a
theorem klt_tr {a b c : List UInt8} (h : a < b) (h' : b < c) : a < c := List.lt_trans h h'
theorem klt_as {a b : List UInt8} (h : a < b) : ¬ b < a := List.lt_asymm h
theorem klt_tri {a b : List UInt8} (h : ¬ a < b) (h' : ¬ b < a) : a = b := List.le_antisymm (List.not_lt.1 h') (List.not_lt.1 h)
theorem klt_ne {a b : List UInt8} (h : a < b) : a ≠ b := fun e => klt_irr b (e ▸ h)
theorem Srt.nil : Srt [] := List.Pairwise.nil
theorem getT_isSome {t : Tb} {k : List UInt8} : (getT t k).isSome = true ↔ k ∈ t.map (·.1) := by
 unfold getT
 rw [Option.isSome_map, List.find?_isSome]
 simp
theorem Srt.keys {t : Tb} (h : Srt t) : (t.map (·.1)).Pairwise (· < ·) := List.pairwise_map.2 h
/-! ### how much they are -/
/-! ### records -/
/-! ### read again -/
end Go.Proofs.Ytmmibldchfmleaa

namespace Go.Proofs.Ytmmibldchfmleaa
open Go.RowKit Codec
abbrev Tv (V : Type) := List (List UInt8 × V)
section
variable {V : Type} {t u : Tv V} {k k' : List UInt8} {v : V}
def Sv (t : Tv V) : Prop := t.Pairwise fun a b => a.1 < b.1
def getV (t : Tv V) (k : List UInt8) : Option V := (t.find? fun p => p.1 == k).map (·.2)
def putV (t : Tv V) (k : List UInt8) (v : V) : Tv V := (t.filter fun p => decide (p.1 < k)) ++ [(k, v)] ++ (t.filter fun p => decide (k < p.1))
def delV (t : Tv V) (k : List UInt8) : Tv V := t.filter fun p => decide (p.1 ≠ k)
theorem Sv.nil : Sv ([] : Tv V) := List.Pairwise.nil
theorem Sv.filter (h : Sv t) (f : List UInt8 × V → Bool) : Sv (t.filter f) := List.Pairwise.filter f h
theorem Sv.put (h : Sv t) (k : List UInt8) (v : V) : Sv (putV t k v) := by
 unfold Sv putV
 refine List.pairwise_append.2 ⟨List.pairwise_append.2 ⟨List.Pairwise.filter _ h, by simp, ?_⟩, List.Pairwise.filter _ h, ?_⟩
 ·intro a ha b hb
  have h1 : a.1 < k := by simpa using (List.mem_filter.1 ha).2
  simp only [List.mem_singleton] at hb
  rw [hb]
  exact h1
 ·intro a ha b hb
  have h2 : k < b.1 := by simpa using (List.mem_filter.1 hb).2
  rcases List.mem_append.1 ha with ha | ha
  ·exact klt_tr (by simpa using (List.mem_filter.1 ha).2) h2
  ·simp only [List.mem_singleton] at ha
   rw [ha]
   exact h2
theorem getV_nil (k : List UInt8) : getV ([] : Tv V) k = none := rfl
theorem getV_cons (p : List UInt8 × V) (t : Tv V) (k : List UInt8) : getV (p :: t) k = if p.1 = k then some p.2 else getV t k := by
 unfold getV
 by_cases h : p.1 = k
 ·simp [h]
 ·simp [h]
theorem getV_app (t u : Tv V) (k : List UInt8) : getV (t ++ u) k = (getV t k).or (getV u k) := by
 unfold getV
 rw [List.find?_append]
 cases t.find? (fun p => p.1 == k) <;> simp
theorem getV_none (h : ∀ p ∈ t, p.1 ≠ k) : getV t k = none := by
 unfold getV
 rw [List.find?_eq_none.2 (fun p hp => by simpa using h p hp)]
 rfl
theorem getV_filter (t : Tv V) (f : List UInt8 → Bool) (k : List UInt8) : getV (t.filter fun p => f p.1) k = if f k = true then getV t k else none := by
 induction t with
 | nil => simp [getV_nil]
 | cons p t ih =>
   by_cases hp : f p.1 = true
   ·rw [List.filter_cons_of_pos (p := fun q : List UInt8 × V => f q.1) hp, getV_cons, getV_cons, ih]
    by_cases he : p.1 = k
    ·rw [if_pos he, if_pos he, ← he, if_pos hp]
    ·rw [if_neg he, if_neg he]
   ·rw [List.filter_cons_of_neg (p := fun q : List UInt8 × V => f q.1) hp, getV_cons, ih]
    by_cases he : p.1 = k
    ·rw [if_pos he, ← he, if_neg hp, if_neg hp]
    ·rw [if_neg he]
theorem getV_mem (h : Sv t) {p : List UInt8 × V} (hp : p ∈ t) : getV t p.1 = some p.2 := by
 induction t with
 | nil => simp at hp
 | cons q t ih =>
   rw [getV_cons]
   obtain ⟨h1, h2⟩ := List.pairwise_cons.1 h
   rcases List.mem_cons.1 hp with rfl | hp
   ·rw [if_pos rfl]
   ·rw [if_neg (klt_ne (h1 p hp)), ih h2 hp]
theorem getV_some (h : getV t k = some v) : (k, v) ∈ t := by
 unfold getV at h
 rcases hf : t.find? (fun p => p.1 == k) with _ | p
 ·rw [hf] at h; simp at h
 ·rw [hf] at h
  have h1 := List.mem_of_find?_eq_some hf
  have h2 := List.find?_some hf
  simp only [beq_iff_eq] at h2
  simp only [Option.map_some, Option.some.injEq] at h
  rw [← h, ← h2]
  exact h1
theorem getV_isSome : (getV t k).isSome = true ↔ k ∈ t.map (·.1) := by
 unfold getV
 rw [Option.isSome_map, List.find?_isSome]
 simp
theorem getV_iff (h : Sv t) : getV t k = some v ↔ (k, v) ∈ t := ⟨getV_some, fun hp => getV_mem h hp⟩
theorem getV_put (t : Tv V) (k : List UInt8) (v : V) (x : List UInt8) : getV (putV t k v) x = if x = k then some v else getV t x := by
 unfold putV
 rw [getV_app, getV_app, getV_filter t (fun y => decide (y < k)), getV_filter t (fun y => decide (k < y)), getV_cons, getV_nil]
 by_cases he : x = k
 ·subst he
  simp [klt_irr x]
 ·have he' : ¬ k = x := fun e => he e.symm
  rw [if_neg he', if_neg he]
  by_cases hlt : x < k
  ·simp [hlt, klt_as hlt]
  ·have hgt : k < x := Classical.byContradiction fun h => he (klt_tri hlt h)
   simp [hlt, hgt]
theorem getV_del (t : Tv V) (k x : List UInt8) : getV (delV t k) x = if x = k then none else getV t x := by
 unfold delV
 rw [getV_filter t (fun y => decide (y ≠ k))]
 by_cases he : x = k <;> simp [he]
theorem Sv.del (h : Sv t) (k : List UInt8) : Sv (delV t k) := h.filter _
theorem Sv.keys (h : Sv t) : (t.map (·.1)).Pairwise (· < ·) := List.pairwise_map.2 h
theorem Sv.nodup (h : Sv t) : (t.map (·.1)).Nodup := h.keys.imp fun h => klt_ne h
theorem len_splitV (h : Sv t) (k : List UInt8) : (t.filter fun p => decide (p.1 < k)).length + (t.filter fun p => decide (k < p.1)).length + (if (getV t k).isSome = true then 1 else 0) = t.length := by
 induction t with
 | nil => simp [getV_nil]
 | cons p t ih =>
   obtain ⟨h1, h2⟩ := List.pairwise_cons.1 h
   have h3 := ih h2
   rw [getV_cons]
   by_cases hl : p.1 < k
   ·rw [List.filter_cons_of_pos (by simpa using hl), List.filter_cons_of_neg (by simpa using klt_as hl), if_neg (klt_ne hl), List.length_cons, List.length_cons]
    omega
   ·rw [List.filter_cons_of_neg (by simpa using hl)]
    by_cases he : p.1 = k
    ·have hn : getV t k = none := getV_none fun q hq => (klt_ne (he ▸ h1 q hq)).symm
     rw [hn] at h3
     rw [List.filter_cons_of_neg (by simp [he]), if_pos he, List.length_cons]
     simp at h3 ⊢
     omega
    ·have hg : k < p.1 := Classical.byContradiction fun h => he (klt_tri hl h)
     rw [List.filter_cons_of_pos (by simpa using hg), if_neg he, List.length_cons, List.length_cons]
     omega
theorem len_put (h : Sv t) (k : List UInt8) (v : V) : (putV t k v).length + (if (getV t k).isSome = true then 1 else 0) = t.length + 1 := by
 have h1 := len_splitV h k
 unfold putV
 rw [List.length_append, List.length_append]
 simp
 omega
theorem len_del (h : Sv t) (k : List UInt8) : (delV t k).length + (if (getV t k).isSome = true then 1 else 0) = t.length := by
 induction t with
 | nil => simp [getV_nil, delV]
 | cons p t ih =>
   obtain ⟨h1, h2⟩ := List.pairwise_cons.1 h
   have h3 := ih h2
   unfold delV at h3 ⊢
   rw [getV_cons]
   by_cases he : p.1 = k
   ·have hn : getV t k = none := getV_none fun q hq => (klt_ne (he ▸ h1 q hq)).symm
    rw [hn] at h3
    rw [List.filter_cons_of_neg (by simp [he]), if_pos he, List.length_cons]
    simp at h3 ⊢
    exact h3
   ·rw [List.filter_cons_of_pos (by simpa using he), if_neg he, List.length_cons, List.length_cons]
    omega
theorem tv_ext : ∀ {t u : Tv V}, Sv t → Sv u → (∀ k, getV t k = getV u k) → t = u := by
 intro t u ht hu h
 have hm : ∀ p, p ∈ t ↔ p ∈ u := fun p => by
  rw [← Prod.eta p, ← getV_iff ht, ← getV_iff hu, h]
 have hn : ∀ {x : Tv V}, Sv x → x.Nodup := fun {x} hx => List.Pairwise.imp (R := fun a b : List UInt8 × V => a.1 < b.1) (fun {a b} h (e : a = b) => klt_irr b.1 (by rw [e] at h; exact h)) hx
 have hp : t.Perm u := (List.perm_ext_iff_of_nodup (hn ht) (hn hu)).2 hm
 exact hp.eq_of_pairwise (le := fun a b : List UInt8 × V => a.1 < b.1) (fun _ _ _ _ h1 h2 => absurd h2 (klt_as h1)) ht hu
theorem keys_perm_eq (h : Sv t) {ks : List (List UInt8)} (hp : ks.Perm (t.map (·.1))) (hs : ks.Pairwise fun a b => ¬ b < a) : ks = t.map (·.1) :=
 hp.eq_of_pairwise (le := fun a b => ¬ b < a) (fun _ _ _ _ h1 h2 => klt_tri h2 h1) hs (h.keys.imp fun h => klt_as h)
end
end Go.Proofs.Ytmmibldchfmleaa

namespace Go.Proofs.Ytmmibldchfmleaa
open Go.ChangeShapes Go.WideShapes Go.ChangeAt Go.RowKit
theorem own_knob : ownKnob Try.prog.godebug = none := by kernel_rfl
theorem laid_out : laidOutB Try.prog = true := by kernel_rfl
theorem trod_lt {w : World} {H : Type} {enc : TypeId × Value → H} {base : Nat} {spare : Nat → Bool} {held : Bool} {t : TypeId} {v : Value} {d : DataW H} {p : List MemPlace}
    (h : DataW.Trod enc Try.prog w base spare held t v d p) : ∀ x ∈ p, x.block < w.heap.size := by
 obtain ⟨m, hm⟩ := h
 exact DataW.trod_lt m _ _ _ hm
end Go.Proofs.Ytmmibldchfmleaa

namespace Go.Proofs.Ytmmibldchfmleaa
open Go.RowKit
theorem one_of {v : Value} (h : v.oneCell' = true) : ∀ u ∈ [v], u.oneCell' = true := by
 intro u hu
 rw [List.mem_singleton.1 hu]
 exact h
structure Rws (w : World) (S : Nat → Prop) (A : Option Addr) (n c : Nat) (ls : List (List UInt8)) : Prop where
 len : ls.length = n
 cap : n ≤ c
 max : c ≤ maxLen
 row : 0 < n → ∃ b off, A = some ⟨b, off, none⟩ ∧ S b ∧ b < w.heap.size ∧ ∀ i, i < n → ∃ Ai ni ci, w.cell? ⟨b, off + i, none⟩ = some (.slice Ai ni ci) ∧ Byt w S Ai ni ci (ls[i]?.getD [])
section
variable {w w' : World} {S : Nat → Prop} {A : Option Addr} {n c : Nat} {ls : List (List UInt8)}
theorem Rws.below (h : Rws w S A n c ls) (hb : Below w.heap.size w w') : Rws w' S A n c ls :=
 ⟨h.len, h.cap, h.max, fun h0 => by
   obtain ⟨b, off, hA, hS, hlt, hc⟩ := h.row h0
   refine ⟨b, off, hA, hS, Nat.lt_of_lt_of_le hlt hb.size, fun i hi => ?_⟩
   obtain ⟨Ai, ni, ci, h1, h2⟩ := hc i hi
   exact ⟨Ai, ni, ci, (hb.cell (p := ⟨_, _, none⟩) hlt).trans h1, h2.below hb⟩⟩
theorem Rws.mono {T : Nat → Prop} (h : Rws w S A n c ls) (hT : ∀ b, b < w.heap.size → S b → T b) : Rws w T A n c ls :=
 ⟨h.len, h.cap, h.max, fun h0 => by
   obtain ⟨b, off, hA, hS, hlt, hc⟩ := h.row h0
   refine ⟨b, off, hA, hT b hlt hS, hlt, fun i hi => ?_⟩
   obtain ⟨Ai, ni, ci, h1, h2⟩ := hc i hi
   exact ⟨Ai, ni, ci, h1, h2.mono hT⟩⟩
theorem Rws.drewN (h : Rws w S A n c ls) (k : Nat) : Rws (w.drewN k) S A n c ls :=
 ⟨h.len, h.cap, h.max, fun h0 => by
   obtain ⟨b, off, hA, hS, hlt, hc⟩ := h.row h0
   refine ⟨b, off, hA, hS, hlt, fun i hi => ?_⟩
   obtain ⟨Ai, ni, ci, h1, h2⟩ := hc i hi
   exact ⟨Ai, ni, ci, h1, h2.drewN k⟩⟩
end
theorem Rws.turned {w w' : World} {S T : Nat → Prop} {A : Option Addr} {n c : Nat} {ls : List (List UInt8)} (h : Rws w S A n c ls) (ht : Turned T w w') (hd : ∀ b, b < w.heap.size → S b → ¬ T b) : Rws w' S A n c ls :=
 ⟨h.len, h.cap, h.max, fun h0 => by
   obtain ⟨b, off, hA, hS, hlt, hc⟩ := h.row h0
   refine ⟨b, off, hA, hS, Nat.lt_of_lt_of_le hlt ht.size, fun i hi => ?_⟩
   obtain ⟨Ai, ni, ci, h1, h2⟩ := hc i hi
   exact ⟨Ai, ni, ci, (World.cell?_of_block (w := w) (a := ⟨b, off + i, none⟩) (ht.block b hlt (hd b hlt hS))).trans h1, h2.turned ht hd⟩⟩
theorem run_append_zero {P : Program} (w : World) (t ty e : TypeId) (i : TypeInfo) (ht : P.underlying t = some (.slice e)) (hi : P.info? e = some i) (A : Option Addr) (n c k : Nat) (hn : n ≤ c) :
    (Builtin.append_ #[t, t] ty #[.slice A n c, .slice none 0 k]).run P w = .ok (.slice A n c) w := by
 rcases A with _ | a <;> simp [Builtin.append_, run_underlying ht, sizeOf, typeInfo, hi, Builtin.lenOf, Builtin.firstCells, hn, storeCells]
theorem wpList_append_zero {P : Program} {w : World} {ops : Array Oper} {rest : List Oper} {o : Oper} {a : Act} {Q : Exit → Act → World → Prop} (hgd : o.guard = none) (s x : Operand) (t : TypeId)
    (ho : o.op = .call { callee := .builtin .append, args := #[s, x], argTypes := #[t, t] })
    (e : TypeId) (i : TypeInfo) (ht : P.underlying t = some (.slice e)) (hi : P.info? e = some i) (A : Option Addr) (n c k : Nat) (hn : n ≤ c) (hs : a.eval s = .slice A n c) (hx : a.eval x = .slice none 0 k)
    (h : wpList P ops Q rest (a.put o.dst (.slice A n c)) w) : wpList P ops Q (o :: rest) a w :=
 wpList_plain hgd fun _ hK => by
  unfold Oper.wp execOp
  simp only [ho, resolve, invoke, builtin, Sem.run_bind, Sem.run_pure, Result.andThen_ok, List.map_toArray, List.map_cons, List.map_nil, hs, hx, run_append_zero w t o.type e i ht hi A n c k hn]
  exact hK _ _ h
end Go.Proofs.Ytmmibldchfmleaa
