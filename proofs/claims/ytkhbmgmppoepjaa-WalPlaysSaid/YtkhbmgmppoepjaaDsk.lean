/-
  A disk of a call's own, and what it makes behind it; the model's steps.
-/
import Derived.Test.YtkhbmgmppoepjaaBlkDisk
namespace Go.Proofs.Ytkhbmgmppoepjaa
open Go.RowKit

/-- IN A CALL THAT BEGAN AT w0: a disk of its own, in blocks below m. -/
structure Dsk (w0 : World) (m : Nat) (W : World) (g : Nat) (d : DM) : Prop where
  dk : Dk W (fun x => w0.heap.size ≤ x ∧ x < m) g d
  bel : Below w0.heap.size w0 W
  top : m ≤ W.heap.size
section
variable {w0 W W' : World} {m g : Nat} {d d' : DM}
theorem Dsk.below (h : Dsk w0 m W g d) (hb : Below W.heap.size W W') : Dsk w0 m W' g d := ⟨h.dk.below hb, h.bel.trans (hb.mono h.bel.size), Nat.le_trans h.top hb.size⟩
theorem Dsk.turn (h : Dsk w0 m W g d) (hd : Dk W' (fun x => w0.heap.size ≤ x ∧ x < m) g d') (ht : Turned (fun x => w0.heap.size ≤ x ∧ x < m) W W') : Dsk w0 m W' g d' :=
  ⟨hd, h.bel.trans ((ht.mono fun _ _ h => h.1).below h.bel.size), Nat.le_trans h.top ht.size⟩
/-- What stands behind m stays where the disk turned. -/
theorem Dsk.write (h : Dsk w0 m W g d) {A : Option Addr} {n c : Nat} {b : List UInt8} (hy : Byt W (m ≤ ·) A n c b) (i : Int) :
    Calls Try.prog 18 #[.pointer (some ⟨g, 0, none⟩), .int .i64 i, .slice A n c] W fun e w' => e = .returned (.int .i64 (writeM d i b).2) ∧ Dsk w0 m w' g (writeM d i b).1 ∧ Turned (· < m) W w' := by
  refine (bwrite_any h.dk hy (fun x _ h1 h2 => by omega) i).mono ?_
  rintro _ w' ⟨rfl, h2, h3⟩
  exact ⟨rfl, h.turn h2 h3, h3.mono fun _ _ h => h.2⟩
theorem Dsk.stop (h : Dsk w0 m W g d) (after torn : Int) (ha : -9223372036854775808 ≤ after ∧ after ≤ 9223372036854775807) :
    Calls Try.prog 16 #[.pointer (some ⟨g, 0, none⟩), .int .i64 after, .int .i64 torn] W fun e w' => e = .returned (.tuple #[]) ∧ Dsk w0 m w' g (stopM d after torn) ∧ Turned (· < m) W w' := by
  refine (bstop_any h.dk after torn ha).mono ?_
  rintro _ w' ⟨rfl, h2, h3⟩
  exact ⟨rfl, h.turn h2 h3, h3.mono fun _ _ h => h.2⟩
theorem Dsk.restart (h : Dsk w0 m W g d) :
    Calls Try.prog 22 #[.pointer (some ⟨g, 0, none⟩)] W fun e w' => e = .returned (.tuple #[]) ∧ Dsk w0 m w' g (restartM d) ∧ Turned (· < m) W w' := by
  refine (brestart_any h.dk).mono ?_
  rintro _ w' ⟨rfl, h2, h3⟩
  exact ⟨rfl, h.turn h2 h3, h3.mono fun _ _ h => h.2⟩
theorem Dsk.read (h : Dsk w0 m W g d) (i : Int) :
    Calls Try.prog 49 #[.pointer (some ⟨g, 0, none⟩), .int .i64 i] W fun e w' => ∃ A n c, e = .returned (.tuple #[.slice A n c, .int .i64 (readM d i).2]) ∧ Byt w' (W.heap.size ≤ ·) A n c (readM d i).1 ∧ Dsk w0 m w' g d ∧ Below W.heap.size W w' ∧ FreeRow w' A := by
  refine (bread_any h.dk i).mono ?_
  rintro _ w' ⟨A, n, c, rfl, h2, h3, h4⟩
  exact ⟨A, n, c, rfl, h2, h.below h3, h3, h4⟩
theorem Dsk.le (h : Dsk w0 m W g d) : w0.heap.size ≤ m := by
  obtain ⟨q, cap, h1, _⟩ := h.dk
  omega
theorem Dsk.setAt (h : Dsk w0 m W g d) {p : Nat} (hp : m ≤ p) (o : Nat) (v : Value) : Dsk w0 m (W.setCell ⟨p, o, none⟩ v) g d :=
  ⟨h.dk.turned (T := fun x => m ≤ x) ((Turned.refl (fun x => m ≤ x) W).set hp o v) fun _ _ h1 h2 => by omega, h.bel.setCell (Nat.le_trans h.le hp) v, by have := h.top; simpa [World.setCell] using this⟩
theorem Dsk.drew (h : Dsk w0 m W g d) : Dsk w0 m W.drew g d := ⟨h.dk.drew, h.bel.drew, h.top⟩
/-- A step that leaves the disk as it is, and all that stands behind it. -/
structure GDk (w0 : World) (m g : Nat) (d : DM) (W W' : World) : Prop where
  trn : Turned (· < m) W W'
  dsk : Dsk w0 m W g d → Dsk w0 m W' g d
theorem GDk.refl (w0 : World) (m g : Nat) (d : DM) (W : World) : GDk w0 m g d W W := ⟨Turned.refl _ _, id⟩
theorem GDk.trans {W'' : World} (h : GDk w0 m g d W W') (k : GDk w0 m g d W' W'') : GDk w0 m g d W W'' := ⟨h.trn.trans k.trn fun _ _ h => h, fun x => k.dsk (h.dsk x)⟩
theorem GDk.of_below (h : Below W.heap.size W W') : GDk w0 m g d W W' := ⟨Turned.of_below h, fun x => x.below h⟩
theorem GDk.byt (h : GDk w0 m g d W W') {A : Option Addr} {n c : Nat} {b : List UInt8} (hy : Byt W (m ≤ ·) A n c b) : Byt W' (m ≤ ·) A n c b := hy.turned h.trn fun _ _ h1 h2 => by omega
/-- A disk that is new. -/
theorem Dsk.new {wa : World} (hb : Below w0.heap.size w0 wa) (k : Nat) (h1 : 1 ≤ k) (h2 : k ≤ 65536) :
    Calls Try.prog 10 #[.int .i64 (k : Int)] wa fun e w' => ∃ g, e = .returned (.tuple #[.pointer (some ⟨g, 0, none⟩), .int .i64 0]) ∧ Dsk w0 w'.heap.size w' g (newM k).1 := by
  refine (bnew_ok k h1 h2 wa).mono ?_
  rintro _ w' ⟨g, rfl, h3, h4⟩
  exact ⟨g, rfl, h3.mono fun x hx h => ⟨by have := hb.size; omega, hx⟩, hb.trans (h4.mono hb.size), Nat.le_refl _⟩
end
theorem byt_filled' {w' : World} {q m n : Nat} {l : List UInt8} (h : w'.heap[q]? = some (.cells (u8s l).toArray 5 (0, 0))) (hl : l.length = n) (hn : n ≤ 1000000) (hm : m ≤ q) : Byt w' (m ≤ ·) (some ⟨q, 0, none⟩) n n l := by
  subst hl
  have h1 := byt_whole h hn
  refine ⟨h1.len, h1.cap, h1.max, fun h0 => ?_⟩
  obtain ⟨b, off, e, _, h3, h4⟩ := h1.row h0
  injection e with e
  injection e with e1 e2
  subst e1 e2
  exact ⟨q, 0, rfl, hm, h3, h4⟩
theorem FreeRow.turned {w w' : World} {A : Option Addr} (h : FreeRow w A) {T : Nat → Prop} (ht : Turned T w w') (hd : ∀ a, A = some a → ¬ T a.block) : FreeRow w' A := fun a ha => by
  obtain ⟨h1, h2⟩ := h a ha
  refine ⟨Nat.lt_of_lt_of_le h1 ht.size, fun i => ?_⟩
  rw [← h2 i]
  simp only [World.frozen?, ht.block _ h1 (hd a ha)]

/-! The model's steps. -/
theorem writeM_down {d : DM} (h : d.down = true) (i : Int) (b : List UInt8) : writeM d i b = (d, 30) := by rw [writeM, if_pos h]
theorem writeM_stop {d : DM} (h : d.down = false) {i : Nat} (hi : i < d.l.length) {b : List UInt8} (hb : b.length = 128) (hl : d.left = 0) :
    writeM d (i : Int) b = ({ d with l := d.l.set i (b.take d.torn.toNat ++ (d.l[i]?.getD []).drop d.torn.toNat), down := true }, 30) := by
  unfold writeM
  rw [if_neg (by simp [h]), if_neg (by omega), if_neg (by omega), if_pos hl]
  rfl
theorem writeM_go {d : DM} (h : d.down = false) {i : Nat} (hi : i < d.l.length) {b : List UInt8} (hb : b.length = 128) (hl : d.left ≠ 0) :
    writeM d (i : Int) b = ({ d with l := d.l.set i b, left := if 0 < d.left then d.left - 1 else d.left }, 0) := by
  unfold writeM
  rw [if_neg (by simp [h]), if_neg (by omega), if_neg (by omega), if_neg hl]
  rfl
theorem readM_down {d : DM} (h : d.down = true) (i : Int) : readM d i = ([], 30) := by rw [readM, if_pos h]
theorem readM_at {d : DM} (h : d.down = false) {i : Nat} (hi : i < d.l.length) : readM d (i : Int) = (d.l[i]?.getD [], 0) := by
  unfold readM
  rw [if_neg (by simp [h]), if_neg (by omega)]
  rfl
theorem newM_at (k : Nat) (h1 : 1 ≤ k) (h2 : k ≤ 65536) : (newM k).1 = ⟨List.replicate k zero128, -1, 0, false⟩ := by
  rw [newM, if_neg (by omega)]
  rfl
end Go.Proofs.Ytkhbmgmppoepjaa
