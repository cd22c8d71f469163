/-
  Words for slices of numbers: one that reads as a list ('Ints'); what a call owns is kept where other blocks turn.
-/
import Derived.Test.YtogfblfekedefaaMem
namespace Go.Proofs.Ytogfblfekedefaa
open Go.RowKit

/-- THE SLICE VALUE '.slice A n c' OF NUMBERS OF KIND kd READS AS l; its row, if it has any, lies in a block of S. -/
structure Ints (kd : IntKind) (w : World) (S : Nat → Prop) (A : Option Addr) (n c : Nat) (l : List Int) : Prop where
  len : l.length = n
  cap : n ≤ c
  max : c ≤ maxLen
  wf : ∀ x ∈ l, (Lit.int kd x).wf = true
  row : 0 < n → ∃ b off, A = some ⟨b, off, none⟩ ∧ S b ∧ b < w.heap.size ∧ ∀ i, i < n → w.cell? ⟨b, off + i, none⟩ = some (.int kd (l[i]?.getD 0))

section
variable {kd : IntKind} {w w' : World} {S : Nat → Prop} {A : Option Addr} {n c : Nat} {l : List Int}
theorem Ints.below (h : Ints kd w S A n c l) (hb : Below w.heap.size w w') : Ints kd w' S A n c l :=
  ⟨h.len, h.cap, h.max, h.wf, fun h0 => by
    obtain ⟨b, off, hA, hB, hlt, hc⟩ := h.row h0
    exact ⟨b, off, hA, hB, Nat.lt_of_lt_of_le hlt hb.size, fun i hi => (hb.cell (p := ⟨b, off + i, none⟩) hlt).trans (hc i hi)⟩⟩
theorem Ints.mono {T : Nat → Prop} (h : Ints kd w S A n c l) (hB : ∀ b, b < w.heap.size → S b → T b) : Ints kd w T A n c l :=
  ⟨h.len, h.cap, h.max, h.wf, fun h0 => by
    obtain ⟨b, off, hA, hB', hlt, hc⟩ := h.row h0
    exact ⟨b, off, hA, hB b hlt hB', hlt, hc⟩⟩
theorem Ints.turned {T : Nat → Prop} (h : Ints kd w S A n c l) (ht : Turned T w w') (hd : ∀ b, b < w.heap.size → S b → ¬ T b) : Ints kd w' S A n c l :=
  ⟨h.len, h.cap, h.max, h.wf, fun h0 => by
    obtain ⟨b, off, hA, hB, hlt, hc⟩ := h.row h0
    exact ⟨b, off, hA, hB, Nat.lt_of_lt_of_le hlt ht.size, fun i hi => (World.cell?_of_block (w := w) (a := ⟨b, off + i, none⟩) (ht.block b hlt (hd b hlt hB))).trans (hc i hi)⟩⟩
theorem Ints.nil (kd : IntKind) (w : World) (S : Nat → Prop) (A : Option Addr) (c : Nat) (hc : c ≤ maxLen) : Ints kd w S A 0 c [] := ⟨rfl, Nat.zero_le _, hc, by simp, fun h => absurd h (by omega)⟩
end

/-- A row of numbers that came in. -/
theorem ints_of_row {kd : IntKind} {w : World} {x : Addr} {len cap : Nat} {zs : List Int} (hl : len ≤ cap) (hm : cap ≤ maxLen) (hz : zs.length = cap) (hcell : ∀ i, i < zs.length → w.cell? (x.add i) = some (.int kd (zs.getD i 0)))
    (hwz : ∀ n ∈ zs, (Lit.int kd n).wf = true) : Ints kd w (fun _ => True) (some x) len cap (zs.take len) := by
  refine ⟨by simp; omega, hl, hm, fun y hy => hwz y (List.mem_of_mem_take hy), fun h0 => ?_⟩
  obtain ⟨b, off, spot⟩ := x
  have hc0 := hcell 0 (by omega)
  have hspot : spot = none := by simpa [Addr.add] using World.cell?_spot hc0
  subst hspot
  have hlt := World.block_lt_of_cell? _ _ hc0
  rw [add_plain] at hlt
  refine ⟨b, off, rfl, trivial, hlt, fun i hi => ?_⟩
  have hc := hcell i (by omega)
  rw [add_plain] at hc
  rw [hc]
  simp [List.getD, List.getElem?_take_of_lt hi]

/-- What the call owns is kept where other blocks turn. -/
theorem own_turned {w w' : World} {T : Nat → Prop} {base : Nat} {e : TypeId} {size : Nat} {v : Value} {n : Nat} {xs : List Value} (h : w.ownsRow base e size v n xs) (ht : Turned T w w') (hd : ∀ g, v.ownBlock = some g → ¬ T g) : w'.ownsRow base e size v n xs := by
  obtain ⟨h1, h2⟩ := h
  refine ⟨h1, ?_⟩
  rcases h2 with h2 | ⟨g, cap, cur, rfl, hg, hhg, r⟩
  · exact .inl h2
  · exact .inr ⟨g, cap, cur, rfl, hg, (ht.block g (Array.getElem?_eq_some_iff.1 hhg).1 (hd g rfl)).trans hhg, r⟩

/-- Numbers as cells. -/
def nums (kd : IntKind) (l : List Int) : List Value := l.map (.int kd)
theorem nums_append (kd : IntKind) (l m : List Int) : nums kd (l ++ m) = nums kd l ++ nums kd m := by simp [nums]
theorem nums_length (kd : IntKind) (l : List Int) : (nums kd l).length = l.length := by simp [nums]

/-- A row of the call's own, its elements. -/
theorem own_row {w : World} {B : Nat} {e : TypeId} {v : Value} {n : Nat} {kd : IntKind} {l : List Int} (h : w.ownsRow B e 1 v n (nums kd l)) (h0 : 0 < n) : ∃ g c, v = .slice (some ⟨g, 0, none⟩) n c ∧ ∀ i, i < n → w.cell? ⟨g, i, none⟩ = some (.int kd (l[i]?.getD 0)) := by
  have hl : l.length = n := by have := h.1; rw [nums_length] at this; omega
  rcases h.2 with ⟨rfl, rfl⟩ | ⟨g, cap, cur, rfl, hb, hg, hn, hm, _, _⟩
  · omega
  · refine ⟨g, cap, rfl, fun i hi => ?_⟩
    have := h.cells (g := g) rfl i (.int kd (l[i]?.getD 0)) (by
      have hil : i < l.length := by omega
      simp [nums, List.getElem?_map, List.getElem?_eq_getElem hil])
    rw [add_plain] at this
    simpa using this
theorem own_slice {w : World} {B : Nat} {e : TypeId} {size : Nat} {v : Value} {n : Nat} {xs : List Value} (h : w.ownsRow B e size v n xs) : ∃ A c, v = .slice A n c := by
  rcases h.2 with ⟨rfl, rfl⟩ | ⟨g, cap, cur, rfl, _⟩
  · exact ⟨none, 0, rfl⟩
  · exact ⟨_, cap, rfl⟩
end Go.Proofs.Ytogfblfekedefaa
