/-
  proof.climb, in lists: what each digest on the way up is of.
-/
import Derived.Test.YtebhlfmianohlaaDoorProofIter
namespace Go.Proofs.YtebhlfmianohlaaDoor
open Go.RowKit

/-- What the digest above two is of: what stands beside at an even place stands on the left. -/
def pairR (at_ : Nat) (y x : List UInt8) : List UInt8 := 1 :: (if at_ % 2 = 0 then y ++ x else x ++ y)
def upR : List (Nat × Nat) → List (List UInt8) → List UInt8 → List (List UInt8)
  | p :: ps, y :: ys, x => pairR p.2 y x :: upR ps ys (shaL (pairR p.2 y x))
  | _, _, _ => []
def upX : List (Nat × Nat) → List (List UInt8) → List UInt8 → List UInt8
  | p :: ps, y :: ys, x => upX ps ys (shaL (pairR p.2 y x))
  | _, _, x => x
theorem upR_length : ∀ (ps : List (Nat × Nat)) (ys : List (List UInt8)) (x : List UInt8), ps.length = ys.length → (upR ps ys x).length = ps.length
  | [], ys, x, h => by simp [upR]
  | p :: ps, [], x, h => by simp at h
  | p :: ps, y :: ys, x, h => by
    rw [upR, List.length_cons, upR_length ps ys _ (by simpa using h), List.length_cons]
theorem upR_app : ∀ (ps qs : List (Nat × Nat)) (ys zs : List (List UInt8)) (x : List UInt8), ps.length = ys.length → upR (ps ++ qs) (ys ++ zs) x = upR ps ys x ++ upR qs zs (upX ps ys x)
  | [], qs, ys, zs, x, h => by
    obtain rfl : ys = [] := List.eq_nil_of_length_eq_zero h.symm
    simp [upR, upX]
  | p :: ps, qs, [], zs, x, h => by simp at h
  | p :: ps, qs, y :: ys, zs, x, h => by
    rw [List.cons_append, List.cons_append, upR, upR, upX, upR_app ps qs ys zs _ (by simpa using h)]
    rfl
theorem upX_app : ∀ (ps qs : List (Nat × Nat)) (ys zs : List (List UInt8)) (x : List UInt8), ps.length = ys.length → upX (ps ++ qs) (ys ++ zs) x = upX qs zs (upX ps ys x)
  | [], qs, ys, zs, x, h => by
    obtain rfl : ys = [] := List.eq_nil_of_length_eq_zero h.symm
    simp [upX]
  | p :: ps, qs, [], zs, x, h => by simp at h
  | p :: ps, qs, y :: ys, zs, x, h => by
    rw [List.cons_append, List.cons_append, upX, upX, upX_app ps qs ys zs _ (by simpa using h)]
theorem upX_length : ∀ (ps : List (Nat × Nat)) (ys : List (List UInt8)) (x : List UInt8), x.length = 32 → (upX ps ys x).length = 32
  | [], _, x, h => by simpa [upX] using h
  | _ :: _, [], x, h => by simpa [upX] using h
  | p :: ps, y :: ys, x, _ => by
    rw [upX]
    exact upX_length ps ys _ (shaL_length _)
theorem pair_node (i : Nat) (y x : List UInt8) : shaL (pairR (nx i) y x) = if i % 2 = 1 then nodeD y x else nodeD x y := by
  by_cases h : i % 2 = 1
  · rw [if_pos h, pairR, nx, if_pos h, if_pos (by omega)]
    rfl
  · rw [if_neg h, pairR, nx, if_neg h, if_neg (by omega)]
    rfl
theorem nx_lt {m i : Nat} (hi : i < m) : nx i < m ↔ (i % 2 = 1 ∨ i + 1 < m) := by
  unfold nx
  split <;> omega
/-- A way of just so many digests comes to what is told; others come to nothing. -/
theorem climb_up_eq : ∀ (m : Nat) (h i : Nat) (x : List UInt8) (way : List (List UInt8)), i < m → climb m i x way = if way.length = (bes m h i).length then some (upX (bes m h i) way x) else none := by
  intro m
  induction m using Nat.strongRecOn with
  | _ m ih =>
    intro h i x way hi
    by_cases hm : 1 < m
    · by_cases hn : nx i < m
      · have hp := (nx_lt hi).1 hn
        rw [bes_more hm, if_pos hn, List.singleton_append]
        rcases way with _ | ⟨y, way⟩
        · rw [climb_none hm hp]
          simp
        · rw [climb_two hm hp, ih ((m + 1) / 2) (by omega) (h + 1) (i / 2) _ _ (by omega), upX, pair_node]
          simp
      · have hp : ¬ (i % 2 = 1 ∨ i + 1 < m) := fun hp => hn ((nx_lt hi).2 hp)
        rw [bes_more hm, if_neg hn, List.nil_append, climb_up hm hp]
        exact ih ((m + 1) / 2) (by omega) (h + 1) (i / 2) _ _ (by omega)
    · rw [climb_one hm, bes_one hm]
      rcases way with _ | ⟨y, way⟩
      · simp [upX]
      · simp
def topX (n i : Nat) (leaf : List UInt8) (way : List (List UInt8)) : List UInt8 := upX (bes n 0 i) way (shaL (0 :: leaf))
/-- All that digests on the way up are of. -/
def climbRows (n i : Nat) (leaf : List UInt8) (way : List (List UInt8)) : List (List UInt8) :=
  (0 :: leaf) :: (upR (bes n 0 i) way (shaL (0 :: leaf)) ++ [2 :: (le8 n 8 ++ topX n i leaf way)])
theorem climbRows_length {n i : Nat} {leaf : List UInt8} {way : List (List UInt8)} (h : (bes n 0 i).length = way.length) : (climbRows n i leaf way).length = way.length + 2 := by
  rw [climbRows, List.length_cons, List.length_append, upR_length _ _ _ h, h]
  rfl
theorem climbRows_last {n i : Nat} {leaf : List UInt8} {way : List (List UInt8)} (h : (bes n 0 i).length = way.length) : (climbRows n i leaf way)[way.length + 1]?.getD [] = 2 :: (le8 n 8 ++ topX n i leaf way) := by
  rw [climbRows, List.getElem?_cons_succ, List.getElem?_append_right (by rw [upR_length _ _ _ h]; omega), upR_length _ _ _ h, h]
  simp
theorem climbRows_mid {n i : Nat} {leaf : List UInt8} {way : List (List UInt8)} {pre r : List (Nat × Nat)} {x : Nat × Nat} {ys zs : List (List UInt8)} {y : List UInt8} (hb : bes n 0 i = pre ++ x :: r) (hw : way = ys ++ y :: zs) (hl : pre.length = ys.length) :
    (climbRows n i leaf way)[pre.length + 1]?.getD [] = pairR x.2 y (upX pre ys (shaL (0 :: leaf))) := by
  have h1 : (upR pre ys (shaL (0 :: leaf))).length = pre.length := upR_length _ _ _ hl
  rw [climbRows, List.getElem?_cons_succ, hb, hw, upR_app _ _ _ _ _ hl, upR, List.append_assoc, List.getElem?_append_right (by omega), h1, Nat.sub_self]
  rfl
end Go.Proofs.YtebhlfmianohlaaDoor
