/-
  A slice of strings that reads as a list of rows of bytes.
-/
import Derived.Test.YtogfblfekedefaaStr
import Derived.Test.YtogfblfekedefaaRws
import Derived.Deep.AppendLies
namespace Go.Proofs.Ytogfblfekedefaa
open Go.RowKit

/-- THE SLICE VALUE '.slice A n c' OF STRINGS READS AS l; its row, if it has any, lies in a block of S. -/
structure Strs (w : World) (S : Nat → Prop) (A : Option Addr) (n c : Nat) (l : List (List UInt8)) : Prop where
  len : l.length = n
  cap : n ≤ c
  max : c ≤ maxLen
  row : 0 < n → ∃ b off, A = some ⟨b, off, none⟩ ∧ S b ∧ b < w.heap.size ∧ ∀ i, i < n → w.cell? ⟨b, off + i, none⟩ = some (.string (st (l[i]?.getD [])))
section
variable {w w' : World} {S T : Nat → Prop} {A : Option Addr} {n c : Nat} {l : List (List UInt8)}
theorem Strs.below (h : Strs w S A n c l) (hb : Below w.heap.size w w') : Strs w' S A n c l :=
  ⟨h.len, h.cap, h.max, fun h0 => by
    obtain ⟨b, off, hA, hS, hlt, hc⟩ := h.row h0
    exact ⟨b, off, hA, hS, Nat.lt_of_lt_of_le hlt hb.size, fun i hi => (hb.cell (p := ⟨_, _, none⟩) hlt).trans (hc i hi)⟩⟩
theorem Strs.turned (h : Strs w S A n c l) (ht : Turned T w w') (hd : ∀ b, b < w.heap.size → S b → ¬ T b) : Strs w' S A n c l :=
  ⟨h.len, h.cap, h.max, fun h0 => by
    obtain ⟨b, off, hA, hS, hlt, hc⟩ := h.row h0
    exact ⟨b, off, hA, hS, Nat.lt_of_lt_of_le hlt ht.size, fun i hi => (World.cell?_of_block (w := w) (a := ⟨b, off + i, none⟩) (ht.block b hlt (hd b hlt hS))).trans (hc i hi)⟩⟩
theorem Strs.mono (h : Strs w S A n c l) (hT : ∀ b, b < w.heap.size → S b → T b) : Strs w T A n c l :=
  ⟨h.len, h.cap, h.max, fun h0 => by
    obtain ⟨b, off, hA, hS, hlt, hc⟩ := h.row h0
    exact ⟨b, off, hA, hT b hlt hS, hlt, hc⟩⟩
theorem Strs.drew (h : Strs w S A n c l) : Strs w.drew S A n c l := ⟨h.len, h.cap, h.max, h.row⟩
theorem Strs.drewN (h : Strs w S A n c l) (k : Nat) : Strs (w.drewN k) S A n c l := ⟨h.len, h.cap, h.max, h.row⟩
theorem Strs.nil (w : World) (S : Nat → Prop) (A : Option Addr) (c : Nat) (hc : c ≤ maxLen) : Strs w S A 0 c [] := ⟨rfl, Nat.zero_le _, hc, fun h => absurd h (by omega)⟩
end
def strs (l : List (List UInt8)) : List Value := l.map fun x => .string (st x)
theorem strs_length (l : List (List UInt8)) : (strs l).length = l.length := by simp [strs]
/-- A row of the call's own. -/
theorem own_strs {w : World} {B : Nat} {e : TypeId} {v : Value} {n : Nat} {l : List (List UInt8)} (h : w.ownsRow B e 1 v n (strs l)) : ∃ A c, v = .slice A n c ∧ Strs w (B ≤ ·) A n c l := by
  have hl : l.length = n := by have := h.1; rw [strs_length] at this; omega
  rcases h.2 with ⟨rfl, h2⟩ | ⟨g, cap, cur, rfl, hb, hg, hnc, hm, _, _⟩
  · subst h2
    obtain rfl : l = [] := List.eq_nil_of_length_eq_zero hl
    exact ⟨none, 0, rfl, Strs.nil _ _ _ _ (Nat.zero_le _)⟩
  · refine ⟨_, cap, rfl, hl, hnc, hm, fun _ => ⟨g, 0, rfl, hb, (Array.getElem?_eq_some_iff.1 hg).1, fun i hi => ?_⟩⟩
    have hil : i < l.length := by omega
    have := h.cells (g := g) rfl i (.string (st (l[i]?.getD []))) (by simp [strs, List.getElem?_map, List.getElem?_eq_getElem hil])
    rw [add_plain] at this
    simpa using this
theorem strs_one (l : List (List UInt8)) : ∀ u ∈ strs l, u.oneCell' = true := by
  intro u hu
  obtain ⟨x, _, rfl⟩ := List.mem_map.1 hu
  rfl
/-- What stands in the row that is read, for an append. -/
theorem Strs.news {w : World} {S : Nat → Prop} {b off n c : Nat} {l : List (List UInt8)} (h : Strs w S (some ⟨b, off, none⟩) n c l) (h0 : 0 < n) : ∀ j u, (strs l)[j]? = some u → w.cell? ((⟨b, off, none⟩ : Addr).add j) = some u := by
  intro j u hj
  obtain ⟨b', off', hA, _, _, hc⟩ := h.row h0
  injection hA with hA
  injection hA with e1 e2
  subst e1 e2
  have hjl : j < l.length := by have := (List.getElem?_eq_some_iff.1 hj).1; rwa [strs_length] at this
  rw [add_plain, hc j (by rw [← h.len]; exact hjl), ← hj, strs, List.getElem?_map, List.getElem?_eq_getElem hjl]
  rfl
theorem str_info2 : (Try.prog.info? 9).map (fun i => (i.zero, i.size, i.bytes)) = some (some (.string ByteArray.empty), 1, 16) := by kernel_rfl
theorem strs_set (l : List (List UInt8)) (i : Nat) (x : List UInt8) : (strs l).set i (.string (st x)) = strs (l.set i x) := by simp [strs, List.map_set]
end Go.Proofs.Ytogfblfekedefaa
