/-
  A disk of a call's own, and what it makes behind it; the model's steps.
-/
import Derived.Test.YtogfblfekedefaaBlkDisk
namespace Go.Proofs.Ytogfblfekedefaa
open Go.RowKit

section
variable {w0 W W' : World} {m g : Nat} {d d' : DM}
end
theorem byt_filled' {w' : World} {q m n : Nat} {l : List UInt8} (h : w'.heap[q]? = some (.cells (u8s l).toArray 5 (0, 0))) (hl : l.length = n) (hn : n ≤ 1000000) (hm : m ≤ q) : Byt w' (m ≤ ·) (some ⟨q, 0, none⟩) n n l := by
  subst hl
  have h1 := byt_whole h hn
  refine ⟨h1.len, h1.cap, h1.max, fun h0 => ?_⟩
  obtain ⟨b, off, e, _, h3, h4⟩ := h1.row h0
  injection e with e
  injection e with e1 e2
  subst e1 e2
  exact ⟨q, 0, rfl, hm, h3, h4⟩
theorem FreeRow.turned {w w' : World} {A : Option Addr} (h : FreeRow w A) {T : Nat → Prop} (ht : Turned T w w') (hd : ∀ a, A = some a → ¬ T a.block) : FreeRow w' A := fun a ha => by
  obtain ⟨h1, h2⟩ := h a ha
  refine ⟨Nat.lt_of_lt_of_le h1 ht.size, fun i => ?_⟩
  rw [← h2 i]
  simp only [World.frozen?, ht.block _ h1 (hd a ha)]

/-! The model's steps. -/
theorem writeM_down {d : DM} (h : d.down = true) (i : Int) (b : List UInt8) : writeM d i b = (d, 30) := by rw [writeM, if_pos h]
theorem writeM_stop {d : DM} (h : d.down = false) {i : Nat} (hi : i < d.l.length) {b : List UInt8} (hb : b.length = 128) (hl : d.left = 0) :
    writeM d (i : Int) b = ({ d with l := d.l.set i (b.take d.torn.toNat ++ (d.l[i]?.getD []).drop d.torn.toNat), down := true }, 30) := by
  unfold writeM
  rw [if_neg (by simp [h]), if_neg (by omega), if_neg (by omega), if_pos hl]
  rfl
theorem writeM_go {d : DM} (h : d.down = false) {i : Nat} (hi : i < d.l.length) {b : List UInt8} (hb : b.length = 128) (hl : d.left ≠ 0) :
    writeM d (i : Int) b = ({ d with l := d.l.set i b, left := if 0 < d.left then d.left - 1 else d.left }, 0) := by
  unfold writeM
  rw [if_neg (by simp [h]), if_neg (by omega), if_neg (by omega), if_neg hl]
  rfl
theorem readM_down {d : DM} (h : d.down = true) (i : Int) : readM d i = ([], 30) := by rw [readM, if_pos h]
theorem readM_at {d : DM} (h : d.down = false) {i : Nat} (hi : i < d.l.length) : readM d (i : Int) = (d.l[i]?.getD [], 0) := by
  unfold readM
  rw [if_neg (by simp [h]), if_neg (by omega)]
  rfl
theorem newM_at (k : Nat) (h1 : 1 ≤ k) (h2 : k ≤ 65536) : (newM k).1 = ⟨List.replicate k zero128, -1, 0, false⟩ := by
  rw [newM, if_neg (by omega)]
  rfl
end Go.Proofs.Ytogfblfekedefaa
