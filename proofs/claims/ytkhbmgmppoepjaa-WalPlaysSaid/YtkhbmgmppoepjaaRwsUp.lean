/-
  A slice of slices of bytes that a call makes row by row, by append.
-/
import Derived.Test.YtkhbmgmppoepjaaRws
import Derived.Test.YtkhbmgmppoepjaaOwn
namespace Go.Proofs.Ytkhbmgmppoepjaa
open Go.RowKit

def rowV (r : Option Addr × Nat × Nat) : Value := .slice r.1 r.2.1 r.2.2
/-- THE VALUE v, A ROW OF THE CALL'S OWN (blocks from B on), HOLDS THE SLICES rs, which read as ls and lie in other blocks of its own. -/
structure RwsUp (w : World) (B : Nat) (v : Value) (k : Nat) (rs : List (Option Addr × Nat × Nat)) (ls : List (List UInt8)) : Prop where
  rl : rs.length = k
  ll : ls.length = k
  own : w.ownsRow B 41 1 v k (rs.map rowV)
  byt : ∀ (i : Nat) (r : Option Addr × Nat × Nat), rs[i]? = some r → Byt w (fun b => B ≤ b ∧ v.ownBlock ≠ some b) r.1 r.2.1 r.2.2 (ls[i]?.getD [])
section
variable {w w' : World} {B : Nat} {v : Value} {k : Nat} {rs : List (Option Addr × Nat × Nat)} {ls : List (List UInt8)}
theorem RwsUp.nil (w : World) (B : Nat) : RwsUp w B (.slice none 0 0) 0 [] [] := ⟨rfl, rfl, World.ownsRow_nil _ _ _ _, fun i r hr => by simp at hr⟩
theorem RwsUp.below (h : RwsUp w B v k rs ls) (hb : Below w.heap.size w w') : RwsUp w' B v k rs ls := by
  refine ⟨h.rl, h.ll, h.own.kept (row := none) ⟨hb.os, hb.tape, hb.output, hb.size, fun i hi _ => hb.block i hi⟩ ?_, fun i r hr => (h.byt i r hr).below hb⟩
  cases hv : v.ownBlock with
  | none => exact .inl rfl
  | some g => exact .inr (by simp)
/-- One row more. -/
theorem RwsUp.push (h : RwsUp w B v k rs ls) {v' : Value} {S : Nat → Prop} {A : Option Addr} {n c : Nat} {l : List UInt8} (hy : Byt w S A n c l) (hS : ∀ b, b < w.heap.size → S b → B ≤ b ∧ v.ownBlock ≠ some b)
    (hown : w'.ownsRow B 41 1 v' (k + 1) (rs.map rowV ++ [.slice A n c])) (hg : w.grownBy w' v.ownBlock) (hl : v'.ownBlock = v.ownBlock ∨ v'.ownBlock = some w.heap.size) : RwsUp w' B v' (k + 1) (rs ++ [(A, n, c)]) (ls ++ [l]) := by
  have h1 := h.rl
  have h2 := h.ll
  have keep : ∀ {A : Option Addr} {n c : Nat} {l : List UInt8}, Byt w (fun b => B ≤ b ∧ v.ownBlock ≠ some b) A n c l → Byt w' (fun b => B ≤ b ∧ v'.ownBlock ≠ some b) A n c l := fun {A n c l} hx => by
    have hx1 : Byt w (fun b => B ≤ b ∧ v.ownBlock ≠ some b ∧ b < w.heap.size) A n c l := hx.mono fun b hb h => ⟨h.1, h.2, hb⟩
    refine (hx1.grown hg (fun g hg => .inl fun hh => hh.2.1 hg)).mono fun b _ hb => ⟨hb.1, ?_⟩
    rcases hl with hl | hl
    · rw [hl]; exact hb.2.1
    · rw [hl]
      intro e
      injection e with e
      have := hb.2.2
      omega
  refine ⟨by simp [h1], by simp [h2], ?_, fun i r hr => ?_⟩
  · rw [List.map_append]
    exact hown
  · rcases Nat.lt_or_ge i rs.length with hi | hi
    · rw [List.getElem?_append_left hi] at hr
      rw [List.getElem?_append_left (by omega)]
      exact keep (h.byt i r hr)
    · have hi2 : i = rs.length := by
        have := (List.getElem?_eq_some_iff.1 hr).1
        simp at this
        omega
      subst hi2
      rw [List.getElem?_append_right (Nat.le_refl _), Nat.sub_self] at hr
      injection hr with hr
      subst hr
      rw [List.getElem?_append_right (by omega), show rs.length - ls.length = 0 by omega]
      exact keep (hy.mono hS)
theorem RwsUp.rws (h : RwsUp w B v k rs ls) : ∃ A c, v = .slice A k c ∧ Rws w (B ≤ ·) A k c ls := by
  have h1 := h.rl
  rcases h.own.2 with ⟨rfl, rfl⟩ | ⟨g, cap, cur, rfl, hB, hg, hnc, hm, _, _⟩
  · exact ⟨none, 0, rfl, h.ll, Nat.le_refl _, Nat.zero_le _, fun h => absurd h (by omega)⟩
  · refine ⟨_, cap, rfl, h.ll, hnc, hm, fun _ => ⟨g, 0, rfl, hB, (Array.getElem?_eq_some_iff.1 hg).1, fun i hi => ?_⟩⟩
    have hir : i < rs.length := by omega
    have := h.own.cells (g := g) rfl i (rowV rs[i]) (by simp [List.getElem?_map, List.getElem?_eq_getElem hir])
    rw [add_plain] at this
    exact ⟨_, _, _, this, (h.byt i rs[i] (List.getElem?_eq_getElem hir)).mono fun _ _ h => h.1⟩
end
end Go.Proofs.Ytkhbmgmppoepjaa
