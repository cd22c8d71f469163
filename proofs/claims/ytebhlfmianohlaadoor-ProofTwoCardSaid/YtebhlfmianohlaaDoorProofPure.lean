/-
  proof, in lists: leaves, rows of digests, ways up.
-/
import Derived.Test.YtebhlfmianohlaaDoorLe8
import Derived.Test.YtebhlfmianohlaaDoorShaOf
namespace Go.Proofs.YtebhlfmianohlaaDoor
open Go.RowKit

/-- The leaves of bytes. -/
def splitL (b : List UInt8) : List (List UInt8) := if 64 < b.length then b.take 64 :: splitL (b.drop 64) else [b]
termination_by b.length
decreasing_by rw [List.length_drop]; omega
theorem splitL_long {b : List UInt8} (h : 64 < b.length) : splitL b = b.take 64 :: splitL (b.drop 64) := by rw [splitL, if_pos h]
theorem splitL_short {b : List UInt8} (h : ¬ 64 < b.length) : splitL b = [b] := by rw [splitL, if_neg h]
theorem splitL_rec {C : List UInt8 → Prop} (h1 : ∀ b, ¬ 64 < b.length → C b) (h2 : ∀ b, 64 < b.length → C (b.drop 64) → C b) (b : List UInt8) : C b := by
  induction hn : b.length using Nat.strongRecOn generalizing b with
  | _ n ih =>
    by_cases h : 64 < b.length
    · exact h2 b h (ih _ (by rw [List.length_drop]; omega) _ rfl)
    · exact h1 b h
theorem splitL_pos (b : List UInt8) : 0 < (splitL b).length := by
  by_cases h : 64 < b.length
  · rw [splitL_long h]; simp
  · rw [splitL_short h]; simp
/-- Leaves one behind the other are the bytes. -/
theorem splitL_join (b : List UInt8) : (splitL b).flatten = b := by
  refine splitL_rec (C := fun b => (splitL b).flatten = b) (fun b h => ?_) (fun b h ih => ?_) b
  · rw [splitL_short h]; simp
  · rw [splitL_long h, List.flatten_cons, ih, List.take_append_drop]
theorem splitL_le (b : List UInt8) : ∀ l ∈ splitL b, l.length ≤ 64 := by
  refine splitL_rec (C := fun b => ∀ l ∈ splitL b, l.length ≤ 64) (fun b h => ?_) (fun b h ih => ?_) b
  · rw [splitL_short h]
    intro l hl
    rw [List.mem_singleton.1 hl]
    omega
  · rw [splitL_long h]
    intro l hl
    rcases List.mem_cons.1 hl with rfl | h2
    · rw [List.length_take]; omega
    · exact ih l h2
theorem splitL_at (b : List UInt8) : ∀ i, i < (splitL b).length → (splitL b)[i]?.getD [] = (b.drop (64 * i)).take 64 := by
  refine splitL_rec (C := fun b => ∀ i, i < (splitL b).length → (splitL b)[i]?.getD [] = (b.drop (64 * i)).take 64) (fun b h => ?_) (fun b h ih => ?_) b
  · rw [splitL_short h]
    intro i hi
    obtain rfl : i = 0 := by simpa using hi
    simp [List.take_of_length_le (show b.length ≤ 64 by omega)]
  · rw [splitL_long h]
    intro i hi
    cases i with
    | zero => simp
    | succ i =>
      have := ih i (by simpa using hi)
      rw [List.getElem?_cons_succ, this, List.drop_drop, show 64 + 64 * i = 64 * (i + 1) by omega]
/-- How many leaves there are. -/
theorem splitL_count (b : List UInt8) : (splitL b).length = if b.length = 0 then 1 else (b.length + 63) / 64 := by
  refine splitL_rec (C := fun b => (splitL b).length = if b.length = 0 then 1 else (b.length + 63) / 64) (fun b h => ?_) (fun b h ih => ?_) b
  · rw [splitL_short h]
    split
    · rfl
    · simp only [List.length_cons, List.length_nil]; omega
  · rw [splitL_long h, List.length_cons, ih, List.length_drop, if_neg (by omega), if_neg (by omega)]
    omega

def leafD (l : List UInt8) : List UInt8 := shaL (0 :: l)
def nodeD (a b : List UInt8) : List UInt8 := shaL (1 :: (a ++ b))
def crownD (n : Nat) (a : List UInt8) : List UInt8 := shaL (2 :: (le8 n 8 ++ a))
/-- The row above one. -/
def aboveL : List (List UInt8) → List (List UInt8)
  | a :: b :: r => nodeD a b :: aboveL r
  | [a] => [a]
  | [] => []
theorem aboveL_length : ∀ l : List (List UInt8), (aboveL l).length = (l.length + 1) / 2
  | a :: b :: r => by rw [aboveL, List.length_cons, aboveL_length r]; simp only [List.length_cons]; omega
  | [a] => by simp [aboveL]
  | [] => by simp [aboveL]
theorem aboveL_at : ∀ (l : List (List UInt8)) (i : Nat), i < l.length → (aboveL l)[i / 2]?.getD [] = if i % 2 = 1 then nodeD (l[i - 1]?.getD []) (l[i]?.getD []) else if i + 1 < l.length then nodeD (l[i]?.getD []) (l[i + 1]?.getD []) else l[i]?.getD []
  | a :: b :: r, 0, _ => by simp [aboveL]
  | a :: b :: r, 1, _ => by simp [aboveL]
  | a :: b :: r, i + 2, h => by
    have ih := aboveL_at r i (by simpa using h)
    rw [aboveL, show (i + 2) / 2 = i / 2 + 1 by omega, List.getElem?_cons_succ, ih, show (i + 2) % 2 = i % 2 by omega]
    simp only [List.getElem?_cons_succ, List.length_cons]
    by_cases h1 : i % 2 = 1
    · rw [if_pos h1, if_pos h1, show i + 2 - 1 = (i - 1) + 2 by omega, List.getElem?_cons_succ, List.getElem?_cons_succ]
    · rw [if_neg h1, if_neg h1]
      by_cases h2 : i + 1 < r.length
      · rw [if_pos h2, if_pos (by omega)]
      · rw [if_neg h2, if_neg (by omega)]
  | [a], 0, _ => by simp [aboveL]
  | [a], i + 1, h => by simp at h
  | [], i, h => by simp at h
/-- What stands above all. -/
def topL (l : List (List UInt8)) : List UInt8 := if 1 < l.length then topL (aboveL l) else l[0]?.getD []
termination_by l.length
decreasing_by rw [aboveL_length]; omega
/-- The digests beside the way up from place i. -/
def wayL (l : List (List UInt8)) (i : Nat) : List (List UInt8) :=
  if 1 < l.length then (if i % 2 = 1 then [l[i - 1]?.getD []] else if i + 1 < l.length then [l[i + 1]?.getD []] else []) ++ wayL (aboveL l) (i / 2) else []
termination_by l.length
decreasing_by rw [aboveL_length]; omega
theorem topL_more {l : List (List UInt8)} (h : 1 < l.length) : topL l = topL (aboveL l) := by rw [topL, if_pos h]
theorem topL_one {l : List (List UInt8)} (h : ¬ 1 < l.length) : topL l = l[0]?.getD [] := by rw [topL, if_neg h]
theorem wayL_more {l : List (List UInt8)} (h : 1 < l.length) (i : Nat) : wayL l i = (if i % 2 = 1 then [l[i - 1]?.getD []] else if i + 1 < l.length then [l[i + 1]?.getD []] else []) ++ wayL (aboveL l) (i / 2) := by rw [wayL, if_pos h]
theorem wayL_one {l : List (List UInt8)} (h : ¬ 1 < l.length) (i : Nat) : wayL l i = [] := by rw [wayL, if_neg h]
/-- What a leaf's digest comes to, up a way of m places, from place i; none: the way is too long, or too short. -/
def climb (m i : Nat) (x : List UInt8) (way : List (List UInt8)) : Option (List UInt8) :=
  if 1 < m then
    if i % 2 = 1 ∨ i + 1 < m then
      match way with
      | [] => none
      | y :: r => climb ((m + 1) / 2) (i / 2) (if i % 2 = 1 then nodeD y x else nodeD x y) r
    else climb ((m + 1) / 2) (i / 2) x way
  else if way = [] then some x else none
termination_by m
theorem climb_one {m : Nat} (h : ¬ 1 < m) (i : Nat) (x : List UInt8) (way : List (List UInt8)) : climb m i x way = if way = [] then some x else none := by
  conv => lhs; unfold climb
  rw [if_neg h]
theorem climb_up {m i : Nat} (h : 1 < m) (h2 : ¬ (i % 2 = 1 ∨ i + 1 < m)) (x : List UInt8) (way : List (List UInt8)) : climb m i x way = climb ((m + 1) / 2) (i / 2) x way := by
  conv => lhs; unfold climb
  rw [if_pos h, if_neg h2]
theorem climb_none {m i : Nat} (h : 1 < m) (h2 : i % 2 = 1 ∨ i + 1 < m) (x : List UInt8) : climb m i x [] = none := by
  unfold climb
  rw [if_pos h, if_pos h2]
theorem climb_two {m i : Nat} (h : 1 < m) (h2 : i % 2 = 1 ∨ i + 1 < m) (x y : List UInt8) (r : List (List UInt8)) : climb m i x (y :: r) = climb ((m + 1) / 2) (i / 2) (if i % 2 = 1 then nodeD y x else nodeD x y) r := by
  conv => lhs; unfold climb
  rw [if_pos h, if_pos h2]
theorem rows_rec {C : List (List UInt8) → Prop} (h1 : ∀ l, ¬ 1 < l.length → C l) (h2 : ∀ l, 1 < l.length → C (aboveL l) → C l) (l : List (List UInt8)) : C l := by
  induction hn : l.length using Nat.strongRecOn generalizing l with
  | _ n ih =>
    by_cases h : 1 < l.length
    · exact h2 l h (ih _ (by rw [aboveL_length]; omega) _ rfl)
    · exact h1 l h
/-- What is proved is checked. -/
theorem climb_way (l : List (List UInt8)) : ∀ i, i < l.length → climb l.length i (l[i]?.getD []) (wayL l i) = some (topL l) := by
  refine rows_rec (C := fun l => ∀ i, i < l.length → climb l.length i (l[i]?.getD []) (wayL l i) = some (topL l)) (fun l h i hi => ?_) (fun l h ih i hi => ?_) l
  · obtain rfl : i = 0 := by omega
    rw [wayL_one h, climb_one h, if_pos rfl, topL_one h]
  · have hu := ih (i / 2) (by rw [aboveL_length]; omega)
    rw [aboveL_length, aboveL_at l i hi] at hu
    rw [wayL_more h, topL_more h]
    by_cases h1 : i % 2 = 1
    · rw [if_pos h1] at hu
      rw [if_pos h1, List.singleton_append, climb_two h (.inl h1), if_pos h1]
      exact hu
    · rw [if_neg h1] at hu
      rw [if_neg h1]
      by_cases h2 : i + 1 < l.length
      · rw [if_pos h2] at hu
        rw [if_pos h2, List.singleton_append, climb_two h (.inr h2), if_neg h1]
        exact hu
      · rw [if_neg h2] at hu
        rw [if_neg h2, List.nil_append, climb_up h (by rintro (h3 | h3); exact h1 h3; exact h2 h3)]
        exact hu
/-- How often rows are put together. -/
def depth (m : Nat) : Nat := if 1 < m then depth ((m + 1) / 2) + 1 else 0
termination_by m
theorem depth_more {m : Nat} (h : 1 < m) : depth m = depth ((m + 1) / 2) + 1 := by rw [depth, if_pos h]
theorem depth_one {m : Nat} (h : ¬ 1 < m) : depth m = 0 := by rw [depth, if_neg h]
theorem wayL_short (l : List (List UInt8)) : ∀ i, (wayL l i).length ≤ depth l.length := by
  refine rows_rec (C := fun l => ∀ i, (wayL l i).length ≤ depth l.length) (fun l h i => ?_) (fun l h ih i => ?_) l
  · rw [wayL_one h]; exact Nat.zero_le _
  · rw [wayL_more h, depth_more h, List.length_append]
    have := ih (i / 2)
    rw [aboveL_length] at this
    split
    · simp only [List.length_singleton]; omega
    · split
      · simp only [List.length_singleton]; omega
      · simp only [List.length_nil]; omega
theorem leafD_length (l : List UInt8) : (leafD l).length = 32 := shaL_length _
theorem nodeD_length (a b : List UInt8) : (nodeD a b).length = 32 := shaL_length _
theorem crownD_length (n : Nat) (a : List UInt8) : (crownD n a).length = 32 := shaL_length _

/-! Root, Prove and Check. -/
def digs (b : List UInt8) : List (List UInt8) := (splitL b).map leafD
theorem digs_length (b : List UInt8) : (digs b).length = (splitL b).length := by simp [digs]
theorem digs_at {b : List UInt8} {i : Nat} (h : i < (splitL b).length) : (digs b)[i]?.getD [] = leafD ((splitL b)[i]?.getD []) := by
  simp [digs, h]
def rootL (b : List UInt8) : List UInt8 := crownD (splitL b).length (topL (digs b))
/-- What Check answers. -/
def checkL (root : List UInt8) (n i : Int) (leaf : List UInt8) (way : List (List UInt8)) : Int :=
  if n < 1 ∨ i < 0 ∨ n ≤ i then 14 else if 64 < leaf.length then 21 else
    match climb n.toNat i.toNat (leafD leaf) way with
    | some x => if crownD n.toNat x = root then 0 else 21
    | none => 21
theorem check_proved (b : List UInt8) (i : Nat) (h : i < (splitL b).length) : checkL (rootL b) ((splitL b).length : Int) (i : Int) ((splitL b)[i]?.getD []) (wayL (digs b) i) = 0 := by
  have hp := splitL_pos b
  have hle : ((splitL b)[i]?.getD []).length ≤ 64 := by
    rw [List.getElem?_eq_getElem h]
    exact splitL_le b _ (List.getElem_mem h)
  have hc := climb_way (digs b) i (by rw [digs_length]; exact h)
  rw [digs_length, digs_at h] at hc
  rw [checkL, if_neg (by omega), if_neg (by omega), Int.toNat_natCast, Int.toNat_natCast, hc]
  simp only [rootL, if_true]

/-! Two leaves at one place that are both proved. -/
theorem append_unlike {a b c d : List UInt8} (hl : a.length = b.length) (h : a ≠ b ∨ c ≠ d) : a ++ c ≠ b ++ d := by
  intro e
  have h1 := List.append_inj e hl
  rcases h with h | h
  · exact h h1.1
  · exact h h1.2
/-- A collision, as what is unlike comes to the same. -/
def Clash : Prop := ∃ p q : List UInt8, p ≠ q ∧ shaL p = shaL q
/-- Two rows at one place that are unlike, and come to the same top: two rows of bytes of one digest. -/
theorem climb_clash : ∀ (m i : Nat) (p q : List UInt8) (x y : List (List UInt8)) (t : List UInt8), (∀ a ∈ x, a.length = 32) → (∀ a ∈ y, a.length = 32) → p ≠ q → climb m i (shaL p) x = some t → climb m i (shaL q) y = some t → Clash := by
  intro m
  induction m using Nat.strongRecOn with
  | _ m ih =>
    intro i p q x y t hx hy hne h1 h2
    by_cases hs : shaL p = shaL q
    · exact ⟨p, q, hne, hs⟩
    by_cases hm : 1 < m
    · by_cases hp : i % 2 = 1 ∨ i + 1 < m
      · rcases x with _ | ⟨a, x⟩
        · rw [climb_none hm hp] at h1; cases h1
        rcases y with _ | ⟨b, y⟩
        · rw [climb_none hm hp] at h2; cases h2
        rw [climb_two hm hp] at h1 h2
        have ha := hx a (by simp)
        have hb := hy b (by simp)
        have hx' : ∀ a ∈ x, a.length = 32 := fun a h => hx a (by simp [h])
        have hy' : ∀ a ∈ y, a.length = 32 := fun a h => hy a (by simp [h])
        by_cases ho : i % 2 = 1
        · rw [if_pos ho] at h1 h2
          exact ih _ (by omega) _ (1 :: (a ++ shaL p)) (1 :: (b ++ shaL q)) x y t hx' hy' (by
            intro e
            exact append_unlike (by omega) (.inr hs) (List.cons.inj e).2) h1 h2
        · rw [if_neg ho] at h1 h2
          exact ih _ (by omega) _ (1 :: (shaL p ++ a)) (1 :: (shaL q ++ b)) x y t hx' hy' (by
            intro e
            exact append_unlike (by rw [shaL_length, shaL_length]) (.inl hs) (List.cons.inj e).2) h1 h2
      · rw [climb_up hm hp] at h1 h2
        exact ih _ (by omega) _ p q x y t hx hy hne h1 h2
    · rw [climb_one hm] at h1 h2
      split at h1
      · split at h2
        · injection h1 with h1
          injection h2 with h2
          exact absurd (h1.trans h2.symm) hs
        · cases h2
      · cases h1
end Go.Proofs.YtebhlfmianohlaaDoor
