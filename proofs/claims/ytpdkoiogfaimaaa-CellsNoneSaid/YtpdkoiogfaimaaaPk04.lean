/-
  Words for slices of numbers: one that reads as a list ('Ints'); what a call owns is kept where other blocks turn.
  A disk as the document has it, by values; the reference's Read, Stop, Restart.
  The reference's Write.
  The reference's New; bytes out of a seed.
-/
import Derived.Test.YtpdkoiogfaimaaaPk01
import Derived.Test.YtpdkoiogfaimaaaPk03
import Derived.Test.YtpdkoiogfaimaaaPk02
/-! Words for slices of numbers: one that reads as a list ('Ints'); what a call owns is kept where other blocks turn. -/
namespace Go.Proofs.Ytpdkoiogfaimaaa
open Go.RowKit

/-- THE SLICE VALUE '.slice A n c' OF NUMBERS OF KIND kd READS AS l; its row, if it has any, lies in a block of S. -/
structure Ints (kd : IntKind) (w : World) (S : Nat → Prop) (A : Option Addr) (n c : Nat) (l : List Int) : Prop where
  len : l.length = n
  cap : n ≤ c
  max : c ≤ maxLen
  wf : ∀ x ∈ l, (Lit.int kd x).wf = true
  row : 0 < n → ∃ b off, A = some ⟨b, off, none⟩ ∧ S b ∧ b < w.heap.size ∧ ∀ i, i < n → w.cell? ⟨b, off + i, none⟩ = some (.int kd (l[i]?.getD 0))

section
variable {kd : IntKind} {w w' : World} {S : Nat → Prop} {A : Option Addr} {n c : Nat} {l : List Int}
theorem Ints.below (h : Ints kd w S A n c l) (hb : Below w.heap.size w w') : Ints kd w' S A n c l :=
  ⟨h.len, h.cap, h.max, h.wf, fun h0 => by
    obtain ⟨b, off, hA, hB, hlt, hc⟩ := h.row h0
    exact ⟨b, off, hA, hB, Nat.lt_of_lt_of_le hlt hb.size, fun i hi => (hb.cell (p := ⟨b, off + i, none⟩) hlt).trans (hc i hi)⟩⟩
theorem Ints.mono {T : Nat → Prop} (h : Ints kd w S A n c l) (hB : ∀ b, b < w.heap.size → S b → T b) : Ints kd w T A n c l :=
  ⟨h.len, h.cap, h.max, h.wf, fun h0 => by
    obtain ⟨b, off, hA, hB', hlt, hc⟩ := h.row h0
    exact ⟨b, off, hA, hB b hlt hB', hlt, hc⟩⟩
theorem Ints.turned {T : Nat → Prop} (h : Ints kd w S A n c l) (ht : Turned T w w') (hd : ∀ b, b < w.heap.size → S b → ¬ T b) : Ints kd w' S A n c l :=
  ⟨h.len, h.cap, h.max, h.wf, fun h0 => by
    obtain ⟨b, off, hA, hB, hlt, hc⟩ := h.row h0
    exact ⟨b, off, hA, hB, Nat.lt_of_lt_of_le hlt ht.size, fun i hi => (World.cell?_of_block (w := w) (a := ⟨b, off + i, none⟩) (ht.block b hlt (hd b hlt hB))).trans (hc i hi)⟩⟩
theorem Ints.nil (kd : IntKind) (w : World) (S : Nat → Prop) (A : Option Addr) (c : Nat) (hc : c ≤ maxLen) : Ints kd w S A 0 c [] := ⟨rfl, Nat.zero_le _, hc, by simp, fun h => absurd h (by omega)⟩
end

/-- A row of numbers that came in. -/
theorem ints_of_row {kd : IntKind} {w : World} {x : Addr} {len cap : Nat} {zs : List Int} (hl : len ≤ cap) (hm : cap ≤ maxLen) (hz : zs.length = cap) (hcell : ∀ i, i < zs.length → w.cell? (x.add i) = some (.int kd (zs.getD i 0)))
    (hwz : ∀ n ∈ zs, (Lit.int kd n).wf = true) : Ints kd w (fun _ => True) (some x) len cap (zs.take len) := by
  refine ⟨by simp; omega, hl, hm, fun y hy => hwz y (List.mem_of_mem_take hy), fun h0 => ?_⟩
  obtain ⟨b, off, spot⟩ := x
  have hc0 := hcell 0 (by omega)
  have hspot : spot = none := by simpa [Addr.add] using World.cell?_spot hc0
  subst hspot
  have hlt := World.block_lt_of_cell? _ _ hc0
  rw [add_plain] at hlt
  refine ⟨b, off, rfl, trivial, hlt, fun i hi => ?_⟩
  have hc := hcell i (by omega)
  rw [add_plain] at hc
  rw [hc]
  simp [List.getD, List.getElem?_take_of_lt hi]

/-- What the call owns is kept where other blocks turn. -/
theorem own_turned {w w' : World} {T : Nat → Prop} {base : Nat} {e : TypeId} {size : Nat} {v : Value} {n : Nat} {xs : List Value} (h : w.ownsRow base e size v n xs) (ht : Turned T w w') (hd : ∀ g, v.ownBlock = some g → ¬ T g) : w'.ownsRow base e size v n xs := by
  obtain ⟨h1, h2⟩ := h
  refine ⟨h1, ?_⟩
  rcases h2 with h2 | ⟨g, cap, cur, rfl, hg, hhg, r⟩
  · exact .inl h2
  · exact .inr ⟨g, cap, cur, rfl, hg, (ht.block g (Array.getElem?_eq_some_iff.1 hhg).1 (hd g rfl)).trans hhg, r⟩

/-- Numbers as cells. -/
def nums (kd : IntKind) (l : List Int) : List Value := l.map (.int kd)
theorem nums_append (kd : IntKind) (l m : List Int) : nums kd (l ++ m) = nums kd l ++ nums kd m := by simp [nums]
theorem nums_length (kd : IntKind) (l : List Int) : (nums kd l).length = l.length := by simp [nums]

/-- A row of the call's own, its elements. -/
theorem own_row {w : World} {B : Nat} {e : TypeId} {v : Value} {n : Nat} {kd : IntKind} {l : List Int} (h : w.ownsRow B e 1 v n (nums kd l)) (h0 : 0 < n) : ∃ g c, v = .slice (some ⟨g, 0, none⟩) n c ∧ ∀ i, i < n → w.cell? ⟨g, i, none⟩ = some (.int kd (l[i]?.getD 0)) := by
  have hl : l.length = n := by have := h.1; rw [nums_length] at this; omega
  rcases h.2 with ⟨rfl, rfl⟩ | ⟨g, cap, cur, rfl, hb, hg, hn, hm, _, _⟩
  · omega
  · refine ⟨g, cap, rfl, fun i hi => ?_⟩
    have := h.cells (g := g) rfl i (.int kd (l[i]?.getD 0)) (by
      have hil : i < l.length := by omega
      simp [nums, List.getElem?_map, List.getElem?_eq_getElem hil])
    rw [add_plain] at this
    simpa using this
theorem own_slice {w : World} {B : Nat} {e : TypeId} {size : Nat} {v : Value} {n : Nat} {xs : List Value} (h : w.ownsRow B e size v n xs) : ∃ A c, v = .slice A n c := by
  rcases h.2 with ⟨rfl, rfl⟩ | ⟨g, cap, cur, rfl, _⟩
  · exact ⟨none, 0, rfl⟩
  · exact ⟨_, cap, rfl⟩
end Go.Proofs.Ytpdkoiogfaimaaa

/-! A disk as the document has it, by values; the reference's Read, Stop, Restart. -/
namespace Go.Proofs.Ytpdkoiogfaimaaa
open Go.RowKit

/-- A disk. -/
structure DM where
  l : List (List UInt8)
  left : Int
  torn : Int
  down : Bool
/-- Its value in the reference. -/
def dmV (d : DM) (A : Option Addr) (n c : Nat) : Array Value := #[.slice A n c, .int .i64 d.left, .int .i64 d.torn, .bool d.down]
def readM (d : DM) (i : Int) : List UInt8 × Int := if d.down = true then ([], 30) else if i < 0 ∨ (d.l.length : Int) ≤ i then ([], 14) else (d.l[i.toNat]?.getD [], 0)
def writeM (d : DM) (i : Int) (b : List UInt8) : DM × Int :=
  if d.down = true then (d, 30) else if i < 0 ∨ (d.l.length : Int) ≤ i then (d, 14) else if b.length ≠ 128 then (d, 1)
  else if d.left = 0 then ({ d with l := d.l.set i.toNat (b.take d.torn.toNat ++ (d.l[i.toNat]?.getD []).drop d.torn.toNat), down := true }, 30)
  else ({ d with l := d.l.set i.toNat b, left := if 0 < d.left then d.left - 1 else d.left }, 0)
def stopM (d : DM) (after torn : Int) : DM := { d with left := if after < 0 then -1 else after, torn := if torn < 0 then 0 else if 128 < torn then 128 else torn }
def restartM (d : DM) : DM := { d with left := -1, down := false }


theorem below_two (w : World) (o p : Obj) : Below w.heap.size w ((w.alloc o).alloc p) := ((Below.refl _ _).alloc (Nat.le_refl _) _).alloc (by simp) _
end Go.Proofs.Ytpdkoiogfaimaaa

/-! The reference's Write. -/
namespace Go.Proofs.Ytpdkoiogfaimaaa
open Go.RowKit


theorem dm_one (A : Option Addr) (n c : Nat) (x y : Int) (z : Bool) : (#[Value.slice A n c, .int .i64 x, .int .i64 y, .bool z] : Array Value).all (·.oneCell') = true := by simp [Value.oneCell']


structure DM.Ok (d : DM) : Prop where
  each : ∀ x ∈ d.l, x.length = 128
  torn : 0 ≤ d.torn ∧ d.torn ≤ 128
  left : -9223372036854775808 ≤ d.left ∧ d.left ≤ 9223372036854775807
theorem readM_no {d : DM} {i : Int} {b : List UInt8} (h : (readM d i).2 ≠ 0 ∨ b.length ≠ 128) : writeM d i b = (d, if (readM d i).2 = 0 then 1 else (readM d i).2) := by
  unfold readM at h ⊢
  unfold writeM
  by_cases h1 : d.down = true
  · rw [if_pos h1, if_pos h1]; rfl
  · rw [if_neg h1] at h
    rw [if_neg h1, if_neg h1]
    by_cases h2 : i < 0 ∨ (d.l.length : Int) ≤ i
    · rw [if_pos h2, if_pos h2]; rfl
    · rw [if_neg h2] at h
      rw [if_neg h2, if_neg h2]
      have h3 : b.length ≠ 128 := h.resolve_left (fun h => h rfl)
      rw [if_pos h3]; rfl
theorem readM_yes {d : DM} {i : Int} (h : (readM d i).2 = 0) : d.down = false ∧ 0 ≤ i ∧ i < (d.l.length : Int) := by
  unfold readM at h
  by_cases h1 : d.down = true
  · rw [if_pos h1] at h; exact absurd h (by decide)
  · rw [if_neg h1] at h
    by_cases h2 : i < 0 ∨ (d.l.length : Int) ≤ i
    · rw [if_pos h2] at h; exact absurd h (by decide)
    · exact ⟨by simpa using h1, by omega, by omega⟩
theorem writeM_ok {d : DM} (ok : d.Ok) (i : Int) (b : List UInt8) : (writeM d i b).1.Ok := by
  by_cases hs : (readM d i).2 ≠ 0 ∨ b.length ≠ 128
  · rw [readM_no hs]; exact ok
  · have hr : (readM d i).2 = 0 := Classical.byContradiction fun h => hs (.inl h)
    have hl : b.length = 128 := Classical.byContradiction fun h => hs (.inr h)
    obtain ⟨hd, h0, h1⟩ := readM_yes hr
    unfold writeM
    rw [if_neg (by simp [hd]), if_neg (by omega), if_neg (by omega)]
    have hx : (d.l[i.toNat]?.getD []).length = 128 := by
      have hil : i.toNat < d.l.length := by omega
      rw [List.getElem?_eq_getElem hil]
      exact ok.each _ (List.getElem_mem hil)
    have ht := ok.torn
    split
    · refine ⟨fun x hx2 => ?_, ok.torn, ok.left⟩
      rcases List.mem_or_eq_of_mem_set hx2 with h | rfl
      · exact ok.each x h
      · rw [List.length_append, List.length_take, List.length_drop, hx, hl]
        omega
    · refine ⟨fun x hx2 => ?_, ok.torn, ?_⟩
      · rcases List.mem_or_eq_of_mem_set hx2 with h | rfl
        · exact ok.each x h
        · exact hl
      · have := ok.left
        simp only
        split <;> omega
theorem stopM_ok {d : DM} (ok : d.Ok) {after torn : Int} (h : -9223372036854775808 ≤ after ∧ after ≤ 9223372036854775807) : (stopM d after torn).Ok := by
  refine ⟨ok.each, ?_, ?_⟩
  · unfold stopM
    simp only
    split
    · omega
    · split <;> omega
  · unfold stopM
    simp only
    split <;> omega
theorem restartM_ok {d : DM} (ok : d.Ok) : (restartM d).Ok := ⟨ok.each, ok.torn, by unfold restartM; simp only; omega⟩
end Go.Proofs.Ytpdkoiogfaimaaa

/-! The reference's New; bytes out of a seed. -/
namespace Go.Proofs.Ytpdkoiogfaimaaa
open Go.RowKit

def zero128 : List UInt8 := List.replicate 128 0
def newM (k : Int) : DM × Int := if k < 1 ∨ 65536 < k then (⟨[], 0, 0, false⟩, 1) else (⟨List.replicate k.toNat zero128, -1, 0, false⟩, 0)
def RNw (w1 : World) (k : Nat) (v i : Value) (wr : World) : Prop := ∃ j : Nat, j ≤ k ∧ i = .int .i64 (j : Int) ∧ wr.ownsRow w1.heap.size 9 1 v j (strs (List.replicate j zero128)) ∧ Below w1.heap.size w1 wr
theorem st_zero128 : (⟨(List.replicate 128 (0 : UInt8)).toArray⟩ : ByteArray) = st zero128 := rfl

theorem newM_ok (k : Int) : (newM k).1.Ok := by
  unfold newM
  split
  · exact ⟨fun x hx => absurd hx (by simp), by simp, by simp⟩
  · exact ⟨fun x hx => by rw [List.eq_of_mem_replicate hx]; rfl, by simp, by simp⟩
end Go.Proofs.Ytpdkoiogfaimaaa
