/-
  Words for memory that all my texts use: a []byte that reads as a list of bytes ('Byt').
-/
import Derived.WalkKit
import Derived.WalkSpells
import Derived.Lib.Hide
import Derived.Lib.SlBytesRow
import Derived.OpenShut
namespace Go.Proofs.Ytogfblfekedefaa
open Go.RowKit

theorem add_plain (b o i : Nat) : (⟨b, o, none⟩ : Addr).add i = ⟨b, o + i, none⟩ := by unfold Addr.add; split <;> simp_all

/-- The byte i of l as a number. -/
theorem u8_lt (l : List UInt8) (k : Nat) : (l[k]?.getD 0).toNat < 256 := (l[k]?.getD 0).toNat_lt

/-- THE SLICE VALUE '.slice A n c' OF BYTES READS AS l; its row, if it has bytes, lies in a block of S. -/
structure Byt (w : World) (S : Nat → Prop) (A : Option Addr) (n c : Nat) (l : List UInt8) : Prop where
  len : l.length = n
  cap : n ≤ c
  max : c ≤ maxLen
  row : 0 < n → ∃ b off, A = some ⟨b, off, none⟩ ∧ S b ∧ b < w.heap.size ∧ ∀ i, i < n → w.cell? ⟨b, off + i, none⟩ = some (.int .u8 ((l[i]?.getD 0).toNat : Int))

section
variable {w w' : World} {S : Nat → Prop} {A : Option Addr} {n c : Nat} {l : List UInt8}

theorem Byt.keep (h : Byt w S A n c l) (hs : w.heap.size ≤ w'.heap.size) (hk : ∀ b o, b < w.heap.size → w'.cell? ⟨b, o, none⟩ = w.cell? ⟨b, o, none⟩) : Byt w' S A n c l :=
  ⟨h.len, h.cap, h.max, fun h0 => by
    obtain ⟨b, off, hA, hB, hb, hc⟩ := h.row h0
    exact ⟨b, off, hA, hB, by omega, fun i hi => (hk _ _ hb).trans (hc i hi)⟩⟩
theorem Byt.below (h : Byt w S A n c l) (hb : Below w.heap.size w w') : Byt w' S A n c l := h.keep hb.size fun _ _ hlt => hb.cell (p := ⟨_, _, none⟩) hlt
theorem Byt.alloc (h : Byt w S A n c l) (o : Obj) : Byt (w.alloc o) S A n c l := h.below ((Below.refl _ _).alloc (Nat.le_refl _) o)
theorem Byt.drew (h : Byt w S A n c l) : Byt w.drew S A n c l := ⟨h.len, h.cap, h.max, h.row⟩
theorem Byt.drewN (h : Byt w S A n c l) (k : Nat) : Byt (w.drewN k) S A n c l := ⟨h.len, h.cap, h.max, h.row⟩
theorem Byt.mono {T : Nat → Prop} (h : Byt w S A n c l) (hB : ∀ b, b < w.heap.size → S b → T b) : Byt w T A n c l :=
  ⟨h.len, h.cap, h.max, fun h0 => by
    obtain ⟨b, off, hA, hB', hb, hc⟩ := h.row h0
    exact ⟨b, off, hA, hB b hb hB', hb, hc⟩⟩
/-- s[k:] -/
theorem Byt.drop (h : Byt w S A n c l) {k : Nat} (hk : k ≤ n) : Byt w S (if c = k then A else A.map (·.add k)) (n - k) (c - k) (l.drop k) :=
  ⟨by rw [List.length_drop, h.len], by have := h.cap; omega, by have := h.max; omega, fun h0 => by
    obtain ⟨b, off, rfl, hB, hb, hc⟩ := h.row (by omega)
    have := h.cap
    rw [if_neg (by omega)]
    refine ⟨b, off + k, by simp [add_plain], hB, hb, fun i hi => ?_⟩
    rw [Nat.add_assoc, hc (k + i) (by omega), List.getElem?_drop]⟩
/-- s[:k:k] -/
theorem Byt.take (h : Byt w S A n c l) {k : Nat} (hk : k ≤ n) : Byt w S A k k (l.take k) :=
  ⟨by rw [List.length_take, h.len]; omega, Nat.le_refl _, by have := h.cap; have := h.max; omega, fun h0 => by
    obtain ⟨b, off, rfl, hB, hb, hc⟩ := h.row (by omega)
    refine ⟨b, off, rfl, hB, hb, fun i hi => ?_⟩
    rw [hc i (by omega), List.getElem?_take_of_lt hi]⟩
theorem Byt.nil (w : World) (S : Nat → Prop) (A : Option Addr) (c : Nat) (hc : c ≤ maxLen) : Byt w S A 0 c [] := ⟨rfl, Nat.zero_le _, hc, fun h => absurd h (by omega)⟩
theorem Byt.far (h : Byt w S A n c l) {p j : Nat} (hp : ∀ o x, w.cell? ⟨p, o, none⟩ ≠ some (.int .u8 x)) (u : Value) : Byt (w.setCell ⟨p, j, none⟩ u) S A n c l :=
  ⟨h.len, h.cap, h.max, fun h0 => by
    obtain ⟨b, off, hA, hB, hb, hc⟩ := h.row h0
    have hne : b ≠ p := by rintro rfl; exact hp _ _ (hc 0 h0)
    refine ⟨b, off, hA, hB, by simpa [World.setCell] using hb, fun i hi => (World.cell?_of_block (w := w) (a := ⟨b, off + i, none⟩) (Below.heap_setCell _ _ _ _ hne)).trans (hc i hi)⟩⟩
/-- Of a world that is the same in each block but those of which p holds. -/
theorem Byt.grown (h : Byt w S A n c l) {row : Option Nat} (hg : w.grownBy w' row) (hr : ∀ g, row = some g → ¬ S g ∨ ∀ o x, w.cell? ⟨g, o, none⟩ ≠ some (.int .u8 x)) : Byt w' S A n c l :=
  ⟨h.len, h.cap, h.max, fun h0 => by
    obtain ⟨b, off, hA, hB, hb, hc⟩ := h.row h0
    have hne : some b ≠ row := by
      rintro rfl
      rcases hr b rfl with h1 | h1
      · exact h1 hB
      · exact h1 _ _ (hc 0 h0)
    exact ⟨b, off, hA, hB, Nat.lt_of_lt_of_le hb hg.size, fun i hi => (World.cell?_of_block (w := w) (a := ⟨b, off + i, none⟩) (hg.block b hb hne)).trans (hc i hi)⟩⟩
end

/-! Only one block of the old ones may have turned. -/
theorem gr_refl (w : World) (row : Option Nat) : w.grownBy w row := ⟨rfl, rfl, rfl, Nat.le_refl _, fun _ _ _ => rfl⟩
theorem gr_trans {a b c : World} {row : Option Nat} (h : a.grownBy b row) (k : b.grownBy c row) : a.grownBy c row :=
  ⟨k.os.trans h.os, k.tape.trans h.tape, k.output.trans h.output, Nat.le_trans h.size k.size, fun i hi hne => (k.block i (Nat.lt_of_lt_of_le hi h.size) hne).trans (h.block i hi hne)⟩
theorem gr_set {a w : World} {p : Nat} (h : a.grownBy w (some p)) (j : Nat) (u : Value) : a.grownBy (w.setCell ⟨p, j, none⟩ u) (some p) :=
  ⟨h.os, h.tape, h.output, by simpa [World.setCell] using h.size, fun i hi hne => (Below.heap_setCell w ⟨p, j, none⟩ u i (fun e => hne (by rw [e]))).trans (h.block i hi hne)⟩
theorem gr_alloc {a w : World} {row : Option Nat} (h : a.grownBy w row) (o : Obj) : a.grownBy (w.alloc o) row :=
  ⟨h.os, h.tape, h.output, Nat.le_trans h.size (by simp), fun i hi hne => (Below.heap_alloc w o i (Nat.lt_of_lt_of_le hi h.size)).trans (h.block i hi hne)⟩
theorem gr_below {a b c : World} {row : Option Nat} (h : a.grownBy b row) (k : Below b.heap.size b c) : a.grownBy c row :=
  ⟨k.os.trans h.os, k.tape.trans h.tape, k.output.trans h.output, Nat.le_trans h.size k.size, fun i hi hne => (k.block i (Nat.lt_of_lt_of_le hi h.size)).trans (h.block i hi hne)⟩
theorem below_gr {a b : World} {B p : Nat} (h : a.grownBy b (some p)) (hB : B ≤ p) (hs : B ≤ a.heap.size) : Below B a b :=
  ⟨h.os, h.tape, h.output, h.size, fun i hi => h.block i (by omega) (fun e => by injection e; omega)⟩

/-- Of the old blocks only such as S holds may have turned. -/
structure Turned (S : Nat → Prop) (w w' : World) : Prop where
  os : w'.os = w.os
  tape : w'.tape = w.tape
  output : w'.output = w.output
  size : w.heap.size ≤ w'.heap.size
  block : ∀ k, k < w.heap.size → ¬ S k → w'.heap[k]? = w.heap[k]?

theorem Turned.refl (S : Nat → Prop) (w : World) : Turned S w w := ⟨rfl, rfl, rfl, Nat.le_refl _, fun _ _ _ => rfl⟩
theorem Turned.of_gr {S : Nat → Prop} {w w' : World} {row : Option Nat} (h : w.grownBy w' row) (hr : ∀ g, row = some g → S g) : Turned S w w' :=
  ⟨h.os, h.tape, h.output, h.size, fun k hk hs => h.block k hk (fun e => hs (hr k e.symm))⟩
theorem Turned.of_below {S : Nat → Prop} {w w' : World} (h : Below w.heap.size w w') : Turned S w w' := ⟨h.os, h.tape, h.output, h.size, fun k hk _ => h.block k hk⟩
theorem Turned.trans {S T : Nat → Prop} {a b c : World} (h : Turned S a b) (k : Turned T b c) (hT : ∀ i, i < a.heap.size → T i → S i) : Turned S a c :=
  ⟨k.os.trans h.os, k.tape.trans h.tape, k.output.trans h.output, Nat.le_trans h.size k.size, fun i hi hs => (k.block i (Nat.lt_of_lt_of_le hi h.size) (fun ht => hs (hT i hi ht))).trans (h.block i hi hs)⟩
theorem Turned.mono {S T : Nat → Prop} {a b : World} (h : Turned S a b) (hT : ∀ i, i < a.heap.size → S i → T i) : Turned T a b :=
  ⟨h.os, h.tape, h.output, h.size, fun i hi hs => h.block i hi (fun ht => hs (hT i hi ht))⟩
theorem Turned.below {a b : World} {B : Nat} (h : Turned (B ≤ ·) a b) (hB : B ≤ a.heap.size) : Below B a b :=
  ⟨h.os, h.tape, h.output, h.size, fun i hi => h.block i (by omega) (by omega)⟩
theorem Turned.set {S : Nat → Prop} {a w : World} (h : Turned S a w) {p : Nat} (hp : S p) (j : Nat) (u : Value) : Turned S a (w.setCell ⟨p, j, none⟩ u) :=
  ⟨h.os, h.tape, h.output, by simpa [World.setCell] using h.size, fun i hi hs => (Below.heap_setCell w ⟨p, j, none⟩ u i (by rintro rfl; exact hs hp)).trans (h.block i hi hs)⟩
theorem Turned.alloc {S : Nat → Prop} {a w : World} (h : Turned S a w) (o : Obj) : Turned S a (w.alloc o) :=
  ⟨h.os, h.tape, h.output, Nat.le_trans h.size (by simp), fun i hi hs => (Below.heap_alloc w o i (Nat.lt_of_lt_of_le hi h.size)).trans (h.block i hi hs)⟩
theorem Turned.drew {S : Nat → Prop} {a w : World} (h : Turned S a w) : Turned S a w.drew := ⟨h.os, h.tape, h.output, h.size, h.block⟩
theorem Turned.drewN {S : Nat → Prop} {a w : World} (h : Turned S a w) (n : Nat) : Turned S a (w.drewN n) := ⟨h.os, h.tape, h.output, h.size, h.block⟩
theorem Byt.turned {w w' : World} {S T : Nat → Prop} {A : Option Addr} {n c : Nat} {l : List UInt8} (h : Byt w S A n c l) (ht : Turned T w w') (hd : ∀ b, b < w.heap.size → S b → ¬ T b) : Byt w' S A n c l :=
  ⟨h.len, h.cap, h.max, fun h0 => by
    obtain ⟨b, off, hA, hB, hb, hc⟩ := h.row h0
    exact ⟨b, off, hA, hB, Nat.lt_of_lt_of_le hb ht.size, fun i hi => (World.cell?_of_block (w := w) (a := ⟨b, off + i, none⟩) (ht.block b hb (hd b hb hB))).trans (hc i hi)⟩⟩

/-- Bytes as cells. -/
def u8s (l : List UInt8) : List Value := l.map fun c => .int .u8 (c.toNat : Int)
theorem u8s_length (l : List UInt8) : (u8s l).length = l.length := by simp [u8s]
theorem u8s_append (l m : List UInt8) : u8s (l ++ m) = u8s l ++ u8s m := by simp [u8s]
theorem u8s_one (l : List UInt8) : ∀ u ∈ u8s l, u.oneCell' = true := by
  intro u hu
  obtain ⟨x, _, rfl⟩ := List.mem_map.1 hu
  rfl

/-- The row that the slice lies in may be written. -/
def FreeRow (w : World) (A : Option Addr) : Prop := ∀ a, A = some a → a.block < w.heap.size ∧ ∀ i, w.frozen? ⟨a.block, i, none⟩ = false
theorem FreeRow.none_ (w : World) : FreeRow w none := fun a h => by cases h
theorem FreeRow.below {w w' : World} {A : Option Addr} (h : FreeRow w A) (hb : Below w.heap.size w w') : FreeRow w' A := fun a ha =>
  ⟨Nat.lt_of_lt_of_le (h a ha).1 hb.size, fun i => (hb.frozen (p := ⟨a.block, i, none⟩) (h a ha).1).trans ((h a ha).2 i)⟩
theorem own_free {w : World} {B : Nat} {e : TypeId} {size : Nat} {A : Option Addr} {n c : Nat} {xs : List Value} (h : w.ownsRow B e size (.slice A n c) n xs) : FreeRow w A := by
  intro a ha
  rcases h.2 with ⟨hv, _⟩ | ⟨g, cap, cur, hv, _, hg, _⟩
  · injection hv with h1; rw [h1] at ha; cases ha
  · injection hv with h1
    rw [h1] at ha
    injection ha with ha
    subst ha
    exact ⟨(Array.getElem?_eq_some_iff.1 hg).1, fun i => by simp [World.frozen?, hg]⟩

/-- A row of the call's own reads as bytes. -/
theorem own_byt {w : World} {B : Nat} {e : TypeId} {v : Value} {n : Nat} {l : List UInt8} (h : w.ownsRow B e 1 v n (u8s l)) : ∃ A c, v = .slice A n c ∧ Byt w (B ≤ ·) A n c l := by
  have hl : l.length = n := by have := h.1; rw [u8s_length] at this; omega
  rcases h.2 with ⟨rfl, rfl⟩ | ⟨g, cap, cur, rfl, hb, hg, hn, hm, _, _⟩
  · have : l = [] := List.eq_nil_of_length_eq_zero hl
    subst this
    exact ⟨none, 0, rfl, Byt.nil _ _ _ _ (Nat.zero_le _)⟩
  · refine ⟨_, cap, rfl, hl, hn, hm, fun _ => ⟨g, 0, rfl, hb, (Array.getElem?_eq_some_iff.1 hg).1, fun i hi => ?_⟩⟩
    have := h.cells (g := g) rfl i (.int .u8 ((l[i]?.getD 0).toNat : Int)) (by
      have hil : i < l.length := by omega
      simp [u8s, List.getElem?_map, List.getElem?_eq_getElem hil])
    rw [add_plain] at this
    exact this

/-- The cells of a slice that reads as l, as append's law asks for them. -/
theorem byt_news {w : World} {S : Nat → Prop} {n c : Nat} {ad : Addr} {l : List UInt8} (h : Byt w S (some ad) n c l) : ∀ j u, (u8s l)[j]? = some u → w.cell? (ad.add j) = some u := by
  intro j u hj
  have hjl : j < l.length := by
    have := (List.getElem?_eq_some_iff.1 hj).1
    rwa [u8s_length] at this
  obtain ⟨b, off, hA, _, _, hc⟩ := h.row (by have := h.len; omega)
  obtain rfl : ad = ⟨b, off, none⟩ := by injection hA
  rw [add_plain, hc j (by have := h.len; omega)]
  rw [← hj]
  simp [u8s, List.getElem?_map, List.getElem?_eq_getElem hjl]

/-- s[k:], as the model has it. -/
def cutA (A : Option Addr) (c k : Nat) : Option Addr := if c = k then A else A.map (·.add k)
theorem Byt.cut {w : World} {S : Nat → Prop} {n c k : Nat} {A : Option Addr} {l : List UInt8} (h : Byt w S A n c l) (hk : k ≤ n) : Byt w S (cutA A c k) (n - k) (c - k) (l.drop k) := h.drop hk

theorem run_cut {P : Program} (t e : TypeId) (ht : P.underlying t = some (.slice e)) (hz : ∀ w, (Go.sizeOf e).run P w = .ok 1 w) (A : Option Addr) (n c k : Nat) (hk : k ≤ n) (W : World) :
    (Instr.slice t (.slice A n c) (some (.int .i64 (k : Int))) none none).run P W = .ok (.slice (cutA A c k) (n - k) (c - k)) W := by
  have ht' : P.underlying t = some (.slice (P.elem t)) := by simp [Program.elem, ht]
  have he : P.elem t = e := by simp [Program.elem, ht]
  rw [run_slice_l W t A n c ht' .i64 (k : Int) (by omega) (by omega), he, hz]
  simp [Result.andThen, sliced, cutA]

theorem run_front {P : Program} (t e : TypeId) (ht : P.underlying t = some (.slice e)) (hz : ∀ w, (Go.sizeOf e).run P w = .ok 1 w) (A : Option Addr) (n c k : Nat) (hk : k ≤ c) (W : World) :
    (Instr.slice t (.slice A n c) none (some (.int .i64 (k : Int))) (some (.int .i64 (k : Int)))).run P W = .ok (.slice A k k) W := by
  have ht' : P.underlying t = some (.slice (P.elem t)) := by simp [Program.elem, ht]
  have he : P.elem t = e := by simp [Program.elem, ht]
  rw [run_slice_hm W t A n c ht' .i64 .i64 (k : Int) (k : Int) (by omega) (by omega) (by omega), he, hz]
  have h0 : ∀ a : Addr, a.add 0 = a := fun a => by simp [Addr.add]
  cases A <;> simp [Result.andThen, sliced, h0]

end Go.Proofs.Ytogfblfekedefaa
