/-
  The things that are done with a disk, as they come in; the law's state.
-/
import Derived.Test.YthndpfkgljkpcaaBlkDsk
import Derived.Test.YthndpfkgljkpcaaBlkLike
namespace Go.Proofs.Ythndpfkgljkpcaa
open Go.RowKit

structure BAct where
  kd : Int
  i : Int
  sd : Nat
  ln : Nat
  nn : Int
  tn : Int
def actV (a : BAct) : Array Value := #[.int .i64 a.kd, .int .i64 a.i, .int .u8 (a.sd : Int), .int .u8 (a.ln : Int), .int .i64 a.nn, .int .i64 a.tn]
structure BActs (w : World) (A : Option Addr) (n c : Nat) (l : List BAct) : Prop where
  len : l.length = n
  cap : n ≤ c
  max : c ≤ maxLen
  row : 0 < n → ∃ b off, A = some ⟨b, off, none⟩ ∧ b < w.heap.size ∧ ∀ (i : Nat) (a : BAct), l[i]? = some a → ∀ (j : Nat) (v : Value), (actV a)[j]? = some v → w.cell? ⟨b, off + i * 6 + j, none⟩ = some v
  bnd : ∀ a ∈ l, a.sd < 256 ∧ a.ln < 256 ∧ -9223372036854775808 ≤ a.nn ∧ a.nn ≤ 9223372036854775807
theorem BActs.below {w w' : World} {A : Option Addr} {n c : Nat} {l : List BAct} (h : BActs w A n c l) (hb : Below w.heap.size w w') : BActs w' A n c l :=
  ⟨h.len, h.cap, h.max, fun h0 => by
    obtain ⟨b, off, hA, hlt, hc⟩ := h.row h0
    exact ⟨b, off, hA, Nat.lt_of_lt_of_le hlt hb.size, fun i a ha j v hv => (hb.cell (p := ⟨_, _, none⟩) hlt).trans (hc i a ha j v hv)⟩, h.bnd⟩
theorem act_info : (Try.prog.info? 34).map (·.size) = some 6 := by kernel_rfl
theorem zero_act : ∀ W, (zeroValue 34).run Try.prog W = .ok (.agg #[.int .i64 0, .int .i64 0, .int .u8 0, .int .u8 0, .int .i64 0, .int .i64 0]) W := fun W => by kernel_rfl
theorem act_one (a : BAct) : (actV a).all (·.oneCell') = true := by simp [actV, Value.oneCell']

/-- The code's disk is dC, the reference's is dR, in the box pw. -/
structure Pl (w0 : World) (m : Nat) (W : World) (g pw : Nat) (dC dR : DM) : Prop where
  dsk : Dsk w0 m W g dC
  box : ∃ A n c, W.heap[pw]? = some (.cells (dmV dR A n c) 30 (0, 0)) ∧ Strs W (fun x => m ≤ x ∧ x ≠ pw) A n c dR.l
  hpw : m ≤ pw
section
variable {w0 W W' : World} {m g pw : Nat} {dC dC' dR dR' : DM}
theorem Pl.below (h : Pl w0 m W g pw dC dR) (hb : Below W.heap.size W W') : Pl w0 m W' g pw dC dR := by
  obtain ⟨A, n, c, h1, h2⟩ := h.box
  exact ⟨h.dsk.below hb, ⟨A, n, c, (hb.block _ (lt_of_cells h1)).trans h1, h2.below hb⟩, h.hpw⟩
theorem Pl.code (h : Pl w0 m W g pw dC dR) (hd : Dsk w0 m W' g dC') (ht : Turned (· < m) W W') : Pl w0 m W' g pw dC' dR := by
  obtain ⟨A, n, c, h1, h2⟩ := h.box
  exact ⟨hd, ⟨A, n, c, (ht.block _ (lt_of_cells h1) (by have := h.hpw; omega)).trans h1, h2.turned ht fun b _ h3 h4 => by omega⟩, h.hpw⟩
theorem Dsk.setRow {d : DM} (h : Dsk w0 m W g d) {p : Nat} (hp : m ≤ p) (cs : Array Value) : Dsk w0 m (W.setRow p cs) g d :=
  ⟨h.dk.turned (turned_setRow (w := W) (g := p) cs) fun _ _ h1 h2 => by omega, below_setRow h.bel (Nat.le_trans h.le hp) cs, by have := h.top; simpa [World.setRow] using this⟩
theorem Pl.store (h : Pl w0 m W g pw dC dR) {A : Option Addr} {n c : Nat} (hs : Strs W (fun x => m ≤ x ∧ x ≠ pw) A n c dR'.l) : Pl w0 m (W.setRow pw (dmV dR' A n c)) g pw dC dR' := by
  obtain ⟨A1, n1, c1, h1, _⟩ := h.box
  exact ⟨h.dsk.setRow h.hpw _, ⟨A, n, c, setRow_at h1, hs.turned (turned_setRow (w := W) (g := pw) _) fun b _ h3 h4 => h3.2 h4⟩, h.hpw⟩
end
end Go.Proofs.Ythndpfkgljkpcaa
