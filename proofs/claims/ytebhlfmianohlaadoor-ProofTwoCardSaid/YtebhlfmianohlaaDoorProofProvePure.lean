/-
  proof.Prove, in lists: the digests beside the way up, out of all rows.
-/
import Derived.Test.YtebhlfmianohlaaDoorProofIter
namespace Go.Proofs.YtebhlfmianohlaaDoor
open Go.RowKit

def rowAt (R : List (List (List UInt8))) (p : Nat × Nat) : List UInt8 := (R[p.1]?.getD [])[p.2]?.getD []
theorem bes_ge : ∀ (m h a : Nat), ∀ p, p ∈ bes m h a → h ≤ p.1 := by
  intro m
  induction m using Nat.strongRecOn with
  | _ m ih =>
    intro h a p hp
    by_cases hm : 1 < m
    · rw [bes_more hm] at hp
      rcases List.mem_append.1 hp with h1 | h1
      · split at h1
        · rw [List.mem_singleton] at h1
          rw [h1]
          exact Nat.le_refl _
        · cases h1
      · have := ih ((m + 1) / 2) (by omega) (h + 1) (a / 2) p h1
        omega
    · rw [bes_one hm] at hp
      cases hp
theorem rowsOf_succ {l : List (List UInt8)} (h : 1 < l.length) (k : Nat) : (rowsOf l)[k + 1]? = (rowsOf (aboveL l))[k]? := by rw [rowsOf_more h, List.getElem?_cons_succ]
theorem bes_at : ∀ (l : List (List UInt8)) (h a : Nat) (p : Nat × Nat), p ∈ bes l.length h a → p.1 - h < (rowsOf l).length ∧ p.2 < ((rowsOf l)[p.1 - h]?.getD []).length := by
  refine rows_rec (fun l hl h a p hp => ?_) (fun l hl ih h a p hp => ?_)
  · rw [bes_one hl] at hp
    cases hp
  · rw [bes_more hl] at hp
    rcases List.mem_append.1 hp with h1 | h1
    · split at h1
      · rw [List.mem_singleton] at h1
        rw [h1, rowsOf_more hl]
        simpa
      · cases h1
    · have hge := bes_ge _ _ _ p h1
      rw [← aboveL_length] at h1
      have := ih (h + 1) (a / 2) p h1
      obtain ⟨k, hk⟩ : ∃ k, p.1 - h = k + 1 := ⟨p.1 - h - 1, by omega⟩
      rw [hk, rowsOf_succ hl, rowsOf_more hl, List.length_cons]
      rw [show p.1 - (h + 1) = k by omega] at this
      exact ⟨by omega, this.2⟩
theorem way_map : ∀ (l : List (List UInt8)) (h a : Nat), a < l.length → wayL l a = (bes l.length h a).map fun p => rowAt (rowsOf l) (p.1 - h, p.2) := by
  refine rows_rec (fun l hl h a ha => ?_) (fun l hl ih h a ha => ?_)
  · rw [bes_one hl, wayL_one hl]
    rfl
  · rw [bes_more hl, wayL_more hl, List.map_append, ih (h + 1) (a / 2) (by rw [aboveL_length]; omega), aboveL_length]
    congr 1
    · unfold nx
      by_cases h1 : a % 2 = 1
      · rw [if_pos h1, if_pos h1]
        rw [if_pos (by omega)]
        simp [rowAt, rowsOf_more hl]
      · rw [if_neg h1, if_neg h1]
        split
        · simp [rowAt, rowsOf_more hl]
        · rfl
    · refine List.map_congr_left fun p hp => ?_
      have hge := bes_ge _ _ _ p hp
      obtain ⟨k, hk⟩ : ∃ k, p.1 - h = k + 1 := ⟨p.1 - h - 1, by omega⟩
      rw [rowAt, rowAt, hk, rowsOf_succ hl, show p.1 - (h + 1) = k by omega]

/-- What Prove answers. -/
def proveLeaf (b : List UInt8) (i : Int) : List UInt8 := if 0 ≤ i ∧ i < ((splitL b).length : Int) then (splitL b)[i.toNat]?.getD [] else []
def proveWay (b : List UInt8) (i : Int) : List (List UInt8) := if 0 ≤ i ∧ i < ((splitL b).length : Int) then wayL (digs b) i.toNat else []
def proveErr (b : List UInt8) (i : Int) : Int := if 0 ≤ i ∧ i < ((splitL b).length : Int) then 0 else 14
theorem rowsOf_32 : ∀ (l : List (List UInt8)), (∀ x ∈ l, x.length = 32) → ∀ r, r ∈ rowsOf l → ∀ x ∈ r, x.length = 32 := by
  refine rows_rec (fun l hl h r hr => ?_) (fun l hl ih h r hr => ?_)
  · rw [rowsOf_one hl, List.mem_singleton] at hr
    rw [hr]
    exact h
  · rw [rowsOf_more hl] at hr
    rcases List.mem_cons.1 hr with h1 | h1
    · rw [h1]
      exact h
    · exact ih (aboveL_32 h) r h1
theorem digs_32 (b : List UInt8) : ∀ x ∈ digs b, x.length = 32 := fun x hx => by
  obtain ⟨l, _, rfl⟩ := List.mem_map.1 hx
  exact leafD_length l
theorem way_32 (b : List UInt8) {i : Nat} : ∀ x ∈ (bes (digs b).length 0 i).map (rowAt (rowsOf (digs b))), x.length = 32 := fun x hx => by
  obtain ⟨p, hp, rfl⟩ := List.mem_map.1 hx
  obtain ⟨h1, h2⟩ := bes_at _ _ _ p hp
  rw [Nat.sub_zero] at h1 h2
  refine get32 (fun y hy => ?_) h2
  rw [List.getElem?_eq_getElem h1] at hy
  exact rowsOf_32 _ (digs_32 b) _ (List.getElem_mem h1) y hy
theorem way_map0 (b : List UInt8) {i : Nat} (hi : i < (digs b).length) : wayL (digs b) i = (bes (digs b).length 0 i).map (rowAt (rowsOf (digs b))) := way_map (digs b) 0 i hi
end Go.Proofs.YtebhlfmianohlaaDoor
