/-
  Two ways that come to one root out of unlike leaves: somewhere what two digests are of is unlike, and the digests are the same.
-/
import Derived.Test.YtebhlfmianohlaaDoorProofCheck
import Derived.Test.YtebhlfmianohlaaDoorShaPair
namespace Go.Proofs.YtebhlfmianohlaaDoor
open Go.RowKit

theorem twoB_true {l m : List UInt8} : twoB l m = true ↔ l ≠ m ∧ shaL l = shaL m := by
  unfold twoB
  simp
/-- The rows of a way, from the row p on. -/
def wayRows (n : Nat) (ps : List (Nat × Nat)) (ys : List (List UInt8)) (p : List UInt8) : List (List UInt8) := p :: (upR ps ys (shaL p) ++ [2 :: (le8 n 8 ++ upX ps ys (shaL p))])
theorem climbRows_eq (n i : Nat) (leaf : List UInt8) (way : List (List UInt8)) : climbRows n i leaf way = wayRows n (bes n 0 i) way (0 :: leaf) := rfl
theorem wayRows_nil (n : Nat) (ys : List (List UInt8)) (p : List UInt8) : (wayRows n [] ys p)[1]?.getD [] = 2 :: (le8 n 8 ++ shaL p) := by
  rw [wayRows, List.getElem?_cons_succ, upR, upX]
  · rfl
  · intro _ _ _ _ h
    cases h
  · intro _ _ _ _ h
    cases h
theorem wayRows_zero (n : Nat) (ps : List (Nat × Nat)) (ys : List (List UInt8)) (p : List UInt8) : (wayRows n ps ys p)[0]?.getD [] = p := by
  rw [wayRows, List.getElem?_cons_zero, Option.getD_some]
theorem wayRows_succ (n : Nat) (s : Nat × Nat) (ps : List (Nat × Nat)) (a : List UInt8) (ys : List (List UInt8)) (p : List UInt8) (k : Nat) : (wayRows n (s :: ps) (a :: ys) p)[k + 1]?.getD [] = (wayRows n ps ys (pairR s.2 a (shaL p)))[k]?.getD [] := by
  rw [wayRows, List.getElem?_cons_succ, upR, upX, List.cons_append, ← wayRows]
theorem crown_sha (n : Nat) (a : List UInt8) : crownD n a = shaL (2 :: (le8 n 8 ++ a)) := by rw [crownD]
theorem way_clash (n : Nat) : ∀ (ps : List (Nat × Nat)) (x y : List (List UInt8)) (p q : List UInt8), ps.length = x.length → ps.length = y.length → (∀ a ∈ x, a.length = 32) → (∀ a ∈ y, a.length = 32) → p ≠ q → crownD n (upX ps x (shaL p)) = crownD n (upX ps y (shaL q)) →
    ∃ k, k < ps.length + 2 ∧ twoB ((wayRows n ps x p)[k]?.getD []) ((wayRows n ps y q)[k]?.getD []) = true := by
  intro ps
  induction ps with
  | nil =>
    intro x y p q hx hy _ _ hne he
    by_cases hs : shaL p = shaL q
    · refine ⟨0, by simp, ?_⟩
      rw [wayRows_zero, wayRows_zero]
      exact twoB_true.2 ⟨hne, hs⟩
    · refine ⟨1, by simp, ?_⟩
      rw [wayRows_nil, wayRows_nil]
      obtain rfl : x = [] := List.eq_nil_of_length_eq_zero hx.symm
      obtain rfl : y = [] := List.eq_nil_of_length_eq_zero hy.symm
      rw [upX, upX, crown_sha, crown_sha] at he
      · refine twoB_true.2 ⟨fun e => hs ?_, he⟩
        exact List.append_cancel_left (List.cons.inj e).2
      · intro _ _ _ _ h
        cases h
      · intro _ _ _ _ h
        cases h
  | cons s ps ih =>
    intro x y p q hx hy h32 h32' hne he
    by_cases hs : shaL p = shaL q
    · refine ⟨0, by simp, ?_⟩
      rw [wayRows_zero, wayRows_zero]
      exact twoB_true.2 ⟨hne, hs⟩
    rcases x with _ | ⟨a, x⟩
    · simp at hx
    rcases y with _ | ⟨b, y⟩
    · simp at hy
    have ha : a.length = b.length := by rw [h32 a (by simp), h32' b (by simp)]
    have hl : (shaL p).length = (shaL q).length := by rw [shaL_length, shaL_length]
    have hne2 : pairR s.2 a (shaL p) ≠ pairR s.2 b (shaL q) := by
      intro e
      unfold pairR at e
      have e2 := (List.cons.inj e).2
      split at e2
      · exact append_unlike ha (.inr hs) e2
      · exact append_unlike hl (.inl hs) e2
    rw [upX, upX] at he
    obtain ⟨k, hk, ht⟩ := ih x y _ _ (by simpa using hx) (by simpa using hy) (fun c hc => h32 c (by simp [hc])) (fun c hc => h32' c (by simp [hc])) hne2 he
    refine ⟨k + 1, by simp; omega, ?_⟩
    rw [wayRows_succ, wayRows_succ]
    exact ht
theorem check_length {root leaf : List UInt8} {way : List (List UInt8)} {n i : Nat} (hi : i < n) (h : checkL root (n : Int) (i : Int) leaf way = 0) : way.length = (bes n 0 i).length ∧ leaf.length ≤ 64 ∧ crownD n (topX n i leaf way) = root := by
  rw [checkL_in hi] at h
  split at h
  · rename_i h1
    split at h
    · rename_i h2
      exact ⟨h1.1, h1.2, h2⟩
    · exact absurd h (by decide)
  · exact absurd h (by decide)
theorem check_range {root leaf : List UInt8} {way : List (List UInt8)} {n i : Int} (h : checkL root n i leaf way = 0) : 0 ≤ i ∧ i < n := by
  by_cases hr : 0 ≤ i ∧ i < n
  · exact hr
  · rw [checkL_range hr] at h
    exact absurd h (by decide)
theorem two_clash {root a b : List UInt8} {x y : List (List UInt8)} {n i : Nat} (hi : i < n) (hx : ∀ l ∈ x, l.length = 32) (hy : ∀ l ∈ y, l.length = 32) (hab : a ≠ b) (h1 : checkL root (n : Int) (i : Int) a x = 0) (h2 : checkL root (n : Int) (i : Int) b y = 0) :
    ∃ k, k < (climbRows n i a x).length ∧ twoB ((climbRows n i a x)[k]?.getD []) ((climbRows n i b y)[k]?.getD []) = true := by
  obtain ⟨e1, _, r1⟩ := check_length hi h1
  obtain ⟨e2, _, r2⟩ := check_length hi h2
  obtain ⟨k, hk, ht⟩ := way_clash n (bes n 0 i) x y (0 :: a) (0 :: b) e1.symm e2.symm hx hy (fun e => hab (List.cons.inj e).2) (by
    show crownD n (topX n i a x) = crownD n (topX n i b y)
    rw [r1, r2])
  exact ⟨k, by rw [climbRows_length e1.symm]; omega, ht⟩
end Go.Proofs.YtebhlfmianohlaaDoor
