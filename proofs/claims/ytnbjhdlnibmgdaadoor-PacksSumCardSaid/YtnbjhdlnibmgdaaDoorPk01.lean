/-
  Plain mathematics of the codec's numbers: 'rd i l' reads a number from the bytes l, the first of which is the number's byte i; 'put x' is the number's own bytes. No program is named here.
  Packs, the pure part: what a blob takes, and which blobs come into each pack.
  Words for memory that all my texts use: a []byte that reads as a list of bytes ('Byt').
  Words for slices of numbers: one that reads as a list ('Ints'); what a call owns is kept where other blocks turn.
  A range over a function whose iterator makes memory of its own and hands out what lies in it: what the iterator promises (Iter), and the law for the loop.
-/
import Derived.WalkKit
import Derived.WalkSpells
import Derived.Lib.Hide
import Derived.Lib.SlBytesRow
import Derived.OpenShut
import Derived.RangeFuncNested
import Derived.RangeFuncBound
import Derived.RangeFuncCalls
import Derived.RangeFuncLeaves
/-! Plain mathematics of the codec's numbers: 'rd i l' reads a number from the bytes l, the first of which is the number's byte i; 'put x' is the number's own bytes. No program is named here. -/
namespace Go.Proofs.YtnbjhdlnibmgdaaDoor
namespace Codec

/-- The bytes of a number. -/
def put (x : Nat) : List UInt8 := if h : x < 128 then [UInt8.ofNat x] else UInt8.ofNat (x % 128 + 128) :: put (x / 128)
termination_by x
decreasing_by omega

/-- Value, bytes taken, error. -/
def rd : Nat → List UInt8 → Nat × Nat × Nat
  | _, [] => (0, 0, 10)
  | i, c :: t =>
    if (i = 9 ∧ 1 < c.toNat) ∨ (0 < i ∧ c.toNat = 0) then (0, 0, 11)
    else if c.toNat < 128 then (c.toNat, 1, 0)
    else if (rd (i + 1) t).2.2 = 0 then (c.toNat - 128 + 128 * (rd (i + 1) t).1, (rd (i + 1) t).2.1 + 1, 0) else (0, 0, (rd (i + 1) t).2.2)

/-- What is read in all, when i bytes have given x and the rest reads as r. -/
def comb (i x : Nat) (r : Nat × Nat × Nat) : Nat × Nat × Nat := if r.2.2 = 0 then (x + 128 ^ i * r.1, i + r.2.1, 0) else (0, 0, r.2.2)

theorem put_small {x : Nat} (h : x < 128) : put x = [UInt8.ofNat x] := by rw [put]; simp [h]
theorem put_big {x : Nat} (h : 128 ≤ x) : put x = UInt8.ofNat (x % 128 + 128) :: put (x / 128) := by rw [put]; simp [show ¬ x < 128 by omega]

theorem put_ne (x : Nat) : put x ≠ [] := by rw [put]; split <;> simp

theorem put_length_pos (x : Nat) : 0 < (put x).length := by rw [put]; split <;> simp

theorem put_length_le : ∀ (k x : Nat), 1 ≤ k → x < 128 ^ k → (put x).length ≤ k
  | 0, x, hk, _ => by omega
  | 1, x, _, h => by rw [put_small (by simpa using h)]; simp
  | k + 2, x, _, h => by
    by_cases hx : x < 128
    · rw [put_small hx]; simp
    · rw [put_big (by omega)]
      have hd : x / 128 < 128 ^ (k + 1) := by rw [Nat.div_lt_iff_lt_mul (by omega), ← Nat.pow_succ]; exact h
      have := put_length_le (k + 1) (x / 128) (by omega) hd
      simp; omega

theorem put_length_64 {x : Nat} (h : x < 18446744073709551616) : (put x).length ≤ 10 :=
  put_length_le 10 x (by omega) (Nat.lt_of_lt_of_le h (by decide))

theorem rd_le : ∀ (i : Nat) (l : List UInt8), (rd i l).2.1 ≤ l.length
  | _, [] => by simp [rd]
  | i, c :: t => by
    have := rd_le (i + 1) t
    simp only [rd]
    split
    · simp
    · split
      · simp
      · split
        · simp; omega
        · simp

/-- An error takes nothing, and gives nothing. -/
theorem rd_err : ∀ (i : Nat) (l : List UInt8), (rd i l).2.2 ≠ 0 → (rd i l).1 = 0 ∧ (rd i l).2.1 = 0
  | _, [], _ => by simp [rd]
  | i, c :: t, h => by
    simp only [rd] at h ⊢
    split
    · simp
    · split
      · rename_i h1 h2
        rw [if_neg h1, if_pos h2] at h
        simp at h
      · rename_i h1 h2
        rw [if_neg h1, if_neg h2] at h
        split
        · rename_i h3
          rw [if_pos h3] at h
          simp at h
        · simp

theorem rd_errs : ∀ (i : Nat) (l : List UInt8), (rd i l).2.2 = 0 ∨ (rd i l).2.2 = 10 ∨ (rd i l).2.2 = 11
  | _, [] => by simp [rd]
  | i, c :: t => by
    have := rd_errs (i + 1) t
    simp only [rd]
    split
    · simp
    · split
      · simp
      · split
        · simp
        · exact this

theorem pow_split (i : Nat) (hi : i ≤ 9) : 128 ^ (9 - i) * 128 ^ i = 9223372036854775808 := by
  rw [← Nat.pow_add, show 9 - i + i = 9 by omega]

/-- What was read fits 64 bits: the value, with i bytes ahead of it, is below 2^64. -/
theorem rd_bound : ∀ (i : Nat) (l : List UInt8), i ≤ 9 → (rd i l).1 < 2 * 128 ^ (9 - i)
  | i, [], _ => by simp [rd]; exact Nat.pow_pos (by omega)
  | i, c :: t, hi => by
    have hp : 0 < 128 ^ (9 - i) := Nat.pow_pos (by omega)
    have hc := c.toNat_lt
    simp only [rd]
    split
    · simpa using hp
    · rename_i h1
      by_cases h9 : i = 9
      · subst h9
        have : c.toNat ≤ 1 := by simp at h1; omega
        rw [if_pos (by omega)]
        simp; omega
      · have hq : 128 ^ (9 - i) = 128 * 128 ^ (9 - (i + 1)) := by rw [show 9 - i = (9 - (i + 1)) + 1 by omega, Nat.pow_succ]; omega
        have hq1 : 0 < 128 ^ (9 - (i + 1)) := Nat.pow_pos (by omega)
        split
        · simp; omega
        · split
          · have := rd_bound (i + 1) t (by omega)
            simp; omega
          · simpa using hp

/-- What is put is read, whatever stands behind it. -/
theorem rd_put : ∀ (k i x : Nat) (t : List UInt8), (put x).length = k → i ≤ 9 → x < 2 * 128 ^ (9 - i) → (0 < i → 0 < x) → rd i (put x ++ t) = (x, k, 0)
  | 0, i, x, t, hk, _, _, _ => by have := put_length_pos x; omega
  | k + 1, i, x, t, hk, hi, hx, h0 => by
    by_cases hs : x < 128
    · rw [put_small hs] at hk ⊢
      have e : (UInt8.ofNat x).toNat = x := by simp [Nat.mod_eq_of_lt (show x < 256 by omega)]
      simp at hk
      subst hk
      simp only [List.cons_append, rd, e]
      rw [if_neg, if_pos hs]
      rintro (⟨rfl, h⟩ | ⟨h, h'⟩)
      · simp at hx; omega
      · have := h0 h; omega
    · rw [put_big (by omega)] at hk ⊢
      have e : (UInt8.ofNat (x % 128 + 128)).toNat = x % 128 + 128 := by simp; omega
      have h9 : i ≠ 9 := by rintro rfl; simp at hx; omega
      have hq : 128 ^ (9 - i) = 128 * 128 ^ (9 - (i + 1)) := by rw [show 9 - i = (9 - (i + 1)) + 1 by omega, Nat.pow_succ]; omega
      simp at hk
      have ih := rd_put k (i + 1) (x / 128) t hk (by omega) (by omega) (fun _ => by omega)
      simp only [List.cons_append, rd, e, ih]
      rw [if_neg (by omega), if_neg (by omega)]
      simp; omega

theorem rd_put0 {x : Nat} (h : x < 18446744073709551616) (t : List UInt8) : rd 0 (put x ++ t) = (x, (put x).length, 0) :=
  rd_put _ 0 x t rfl (by omega) (by simpa using h) (by omega)

/-- What is read as a number is what this number is put as. -/
theorem put_rd : ∀ (i : Nat) (l : List UInt8), i ≤ 9 → (rd i l).2.2 = 0 → put (rd i l).1 = l.take (rd i l).2.1 ∧ (0 < i → 0 < (rd i l).1) ∧ 1 ≤ (rd i l).2.1 ∧ (rd i l).2.1 ≤ 10 - i
  | _, [], _, h => by simp [rd] at h
  | i, c :: t, hi, h => by
    have hc := c.toNat_lt
    simp only [rd] at h ⊢
    by_cases h1 : (i = 9 ∧ 1 < c.toNat) ∨ (0 < i ∧ c.toNat = 0)
    · rw [if_pos h1] at h; simp at h
    · rw [if_neg h1] at h ⊢
      by_cases h2 : c.toNat < 128
      · rw [if_pos h2]
        simp only [put_small h2, List.take_succ_cons, List.take_zero]
        refine ⟨by simp, fun _ => by omega, by omega, by omega⟩
      · rw [if_neg h2] at h ⊢
        by_cases h3 : (rd (i + 1) t).2.2 = 0
        · rw [if_pos h3]
          have h9 : i ≠ 9 := by rintro rfl; omega
          obtain ⟨a, b, c1, d⟩ := put_rd (i + 1) t (by omega) h3
          have hb := b (by omega)
          refine ⟨?_, fun _ => by simp; omega, by simp, by simp; omega⟩
          simp only
          rw [put_big (by omega), show (c.toNat - 128 + 128 * (rd (i + 1) t).1) / 128 = (rd (i + 1) t).1 by omega, a,
            show (c.toNat - 128 + 128 * (rd (i + 1) t).1) % 128 + 128 = c.toNat by omega]
          simp
        · rw [if_neg h3] at h; exact absurd h h3

/-- Cut inside, a number's bytes end too early. -/
theorem rd_cut : ∀ (j i x : Nat), j < (put x).length → i ≤ 9 → x < 2 * 128 ^ (9 - i) → (0 < i → 0 < x) → rd i ((put x).take j) = (0, 0, 10)
  | 0, i, x, _, _, _, _ => by simp [rd]
  | j + 1, i, x, hj, hi, hx, h0 => by
    by_cases hs : x < 128
    · rw [put_small hs] at hj; simp at hj
    · rw [put_big (by omega)] at hj ⊢
      have e : (UInt8.ofNat (x % 128 + 128)).toNat = x % 128 + 128 := by simp; omega
      have h9 : i ≠ 9 := by rintro rfl; simp at hx; omega
      have hq : 128 ^ (9 - i) = 128 * 128 ^ (9 - (i + 1)) := by rw [show 9 - i = (9 - (i + 1)) + 1 by omega, Nat.pow_succ]; omega
      simp at hj
      have ih := rd_cut j (i + 1) (x / 128) hj (by omega) (by omega) (fun _ => by omega)
      simp only [List.take_succ_cons, rd, e, ih]
      rw [if_neg (by omega), if_neg (by omega)]
      simp

theorem comb_zero (r : Nat × Nat × Nat) (h : r.2.2 ≠ 0 → r.1 = 0 ∧ r.2.1 = 0) : comb 0 0 r = r := by
  unfold comb
  obtain ⟨a, b, c⟩ := r
  simp only at h ⊢
  split
  · rename_i h0; subst h0; simp
  · rename_i h0; obtain ⟨rfl, rfl⟩ := h h0; rfl

/-- One round: a byte of 128 or more, that may stand there. -/
theorem comb_step {i x : Nat} {c : UInt8} {t : List UInt8} (h1 : ¬ ((i = 9 ∧ 1 < c.toNat) ∨ (0 < i ∧ c.toNat = 0))) (h2 : ¬ c.toNat < 128) :
    comb i x (rd i (c :: t)) = comb (i + 1) (x + (c.toNat - 128) * 128 ^ i) (rd (i + 1) t) := by
  simp only [rd, if_neg h1, if_neg h2]
  unfold comb
  by_cases h3 : (rd (i + 1) t).2.2 = 0
  · rw [if_pos h3, if_pos rfl, if_pos h3]
    have : 128 ^ (i + 1) = 128 * 128 ^ i := by rw [Nat.pow_succ]; omega
    simp only [this, Prod.mk.injEq, and_true]
    refine ⟨?_, by omega⟩
    generalize 128 ^ i = p
    generalize (rd (i + 1) t).1 = v
    rw [Nat.mul_add, Nat.mul_comm p (c.toNat - 128), ← Nat.add_assoc, ← Nat.mul_assoc p, Nat.mul_comm p 128]
  · rw [if_neg h3, if_neg h3, if_neg h3]

end Codec
end Go.Proofs.YtnbjhdlnibmgdaaDoor

/-! Packs, the pure part: what a blob takes, and which blobs come into each pack. -/
namespace Go.Proofs.YtnbjhdlnibmgdaaDoor
open Codec

/-- How many bytes a number takes. -/
def lnN (x : Nat) : Nat := (put x).length
/-- What a blob of s bytes takes. -/
def pkE (s : Nat) : Nat := lnN s + s
/-- May a blob have so many bytes? -/
def pkMay (s : Int) : Bool := decide (41 ≤ s) && decide (s ≤ 65577)
/-- Does a pack hold k blobs of y bytes, with the numbers ahead of each? -/
def pkHolds (most k y : Nat) : Bool := decide (k ≤ 1024) && decide (lnN k + y ≤ most)
def pkAlone (most s : Nat) : Bool := pkHolds most 1 (pkE s)
theorem lnN_pos (x : Nat) : 0 < lnN x := put_length_pos x
theorem lnN_le {x : Nat} (h : x < 18446744073709551616) : lnN x ≤ 10 := put_length_64 h
theorem lnN_3 {x : Nat} (h : x < 2097152) : lnN x ≤ 3 := put_length_le 3 x (by omega) (by simpa using h)
/-- Blobs in the pack at hand, their bytes, the pack's number. -/
structure PkS where
  k : Nat
  y : Nat
  p : Nat
def pkStep (most : Nat) (st : PkS) (s : Nat) : PkS :=
  if pkHolds most (st.k + 1) (st.y + pkE s) then ⟨st.k + 1, st.y + pkE s, st.p⟩ else ⟨1, pkE s, st.p + 1⟩
def pkSt (most : Nat) (l : List Nat) : PkS := l.foldl (pkStep most) ⟨0, 0, 0⟩
theorem pkSt_snoc (most : Nat) (l : List Nat) (s : Nat) : pkSt most (l ++ [s]) = pkStep most (pkSt most l) s := by simp [pkSt, List.foldl_append]
theorem take_snoc {α : Type} {l : List α} {j : Nat} {s : α} (h : l[j]? = some s) : l.take (j + 1) = l.take j ++ [s] := by
  obtain ⟨hj, rfl⟩ := List.getElem?_eq_some_iff.1 h
  rw [List.take_succ_eq_append_getElem hj]
theorem pkSt_at {most : Nat} {l : List Nat} {j s : Nat} (h : l[j]? = some s) : pkSt most (l.take (j + 1)) = pkStep most (pkSt most (l.take j)) s := by rw [take_snoc h, pkSt_snoc]
/-- Which pack each blob comes into. -/
def pkSeq (most : Nat) (l : List Nat) : List (Nat × Nat) := (List.range l.length).map fun j => ((pkSt most (l.take (j + 1))).p, j)
theorem pkSeq_len (most : Nat) (l : List Nat) : (pkSeq most l).length = l.length := by simp [pkSeq]
theorem pkSeq_at {most : Nat} {l : List Nat} {j : Nat} (h : j < l.length) : (pkSeq most l)[j]? = some ((pkSt most (l.take (j + 1))).p, j) := by simp [pkSeq, h]
theorem pkSeq_take {most : Nat} {l : List Nat} {j : Nat} (h : j < l.length) : (pkSeq most l).take (j + 1) = (pkSeq most l).take j ++ [((pkSt most (l.take (j + 1))).p, j)] := take_snoc (pkSeq_at h)
/-- The lists, as they are told. -/
def pkPut (ls : List (List Nat)) (x : Nat × Nat) : List (List Nat) := if x.1 = ls.length then ls ++ [[x.2]] else ls.set x.1 ((ls[x.1]?.getD []) ++ [x.2])
def pkGrp (pre : List (Nat × Nat)) : List (List Nat) := pre.foldl pkPut []
theorem pkGrp_snoc (pre : List (Nat × Nat)) (x : Nat × Nat) : pkGrp (pre ++ [x]) = pkPut (pkGrp pre) x := by simp [pkGrp, List.foldl_append]
def fillM (most : Nat) (l : List Nat) : List (List Nat) := pkGrp (pkSeq most l)
def pkL (most : Nat) (l : List Nat) (j : Nat) : List (List Nat) := pkGrp ((pkSeq most l).take j)
theorem pkL_zero (most : Nat) (l : List Nat) : pkL most l 0 = [] := by simp [pkL, pkGrp]
theorem pkL_all (most : Nat) (l : List Nat) : pkL most l l.length = fillM most l := by
  unfold pkL fillM
  rw [List.take_of_length_le (by rw [pkSeq_len]; exact Nat.le_refl _)]
theorem pkL_at {most : Nat} {l : List Nat} {j : Nat} (h : j < l.length) : pkL most l (j + 1) = pkPut (pkL most l j) ((pkSt most (l.take (j + 1))).p, j) := by
  unfold pkL
  rw [pkSeq_take h, pkGrp_snoc]
theorem pkPut_last (ls : List (List Nat)) (c : List Nat) (i : Nat) : pkPut (ls ++ [c]) (ls.length, i) = ls ++ [c ++ [i]] := by
  unfold pkPut
  rw [if_neg (by simp)]
  simp
theorem pkPut_new (ls : List (List Nat)) (i : Nat) : pkPut ls (ls.length, i) = ls ++ [[i]] := by
  unfold pkPut
  rw [if_pos rfl]
/-- Behind some of the blobs: the packs that are full, and the one at hand. -/
theorem pk_inv {most : Nat} {l : List Nat} (ha : ∀ s ∈ l, pkAlone most s = true) : ∀ j, j < l.length → ∃ done cur, pkL most l (j + 1) = done ++ [cur] ∧ done.length = (pkSt most (l.take (j + 1))).p
  | 0, h => by
    have h0 : l[0]? = some l[0] := List.getElem?_eq_getElem h
    have e : (pkSt most (l.take (0 + 1))).p = 0 := by
      rw [pkSt_at h0]
      have h1 := ha l[0] (List.getElem_mem h)
      unfold pkAlone at h1
      simp [pkSt, pkStep, h1]
    refine ⟨[], [0], ?_, by rw [e]; rfl⟩
    rw [pkL_at h, pkL_zero, e]
    rfl
  | j + 1, h => by
    obtain ⟨done, cur, h1, h2⟩ := pk_inv ha j (by omega)
    have hs : l[j + 1]? = some l[j + 1] := List.getElem?_eq_getElem h
    rw [pkL_at h, h1, pkSt_at hs]
    unfold pkStep
    split
    · refine ⟨done, cur ++ [j + 1], ?_, h2⟩
      rw [← h2]
      exact pkPut_last _ _ _
    · refine ⟨done ++ [cur], [j + 1], ?_, by simp [h2]⟩
      have : (pkSt most (l.take (j + 1))).p + 1 = (done ++ [cur]).length := by simp [h2]
      simp only [this]
      exact pkPut_new _ _
/-- What the next blob does: into the last pack, or into a new one. -/
theorem pk_next {most : Nat} {l : List Nat} (ha : ∀ s ∈ l, pkAlone most s = true) {j : Nat} (h : j < l.length) :
    ((pkSt most (l.take (j + 1))).p = (pkL most l j).length ∧ pkL most l (j + 1) = pkL most l j ++ [[j]]) ∨ ∃ done cur, pkL most l j = done ++ [cur] ∧ (pkSt most (l.take (j + 1))).p = done.length ∧ pkL most l (j + 1) = done ++ [cur ++ [j]] := by
  rw [pkL_at h]
  cases j with
  | zero =>
    obtain ⟨done, cur, h1, h2⟩ := pk_inv ha 0 h
    left
    have h0 : l[0]? = some l[0] := List.getElem?_eq_getElem h
    have e : (pkSt most (l.take (0 + 1))).p = 0 := by
      rw [pkSt_at h0]
      have h1 := ha l[0] (List.getElem_mem h)
      unfold pkAlone at h1
      simp [pkSt, pkStep, h1]
    rw [pkL_zero, e]
    exact ⟨rfl, rfl⟩
  | succ j =>
    obtain ⟨done, cur, h1, h2⟩ := pk_inv ha j (by omega)
    have hs : l[j + 1]? = some l[j + 1] := List.getElem?_eq_getElem h
    rw [h1, pkSt_at hs]
    unfold pkStep
    split
    · right
      refine ⟨done, cur, rfl, h2.symm, ?_⟩
      rw [← h2]
      exact pkPut_last _ _ _
    · left
      have : (pkSt most (l.take (j + 1))).p + 1 = (done ++ [cur]).length := by simp [h2]
      simp only [this]
      exact ⟨trivial, pkPut_new _ _⟩
theorem snoc_ind {α : Type} {p : List α → Prop} (h0 : p []) (h1 : ∀ l s, p l → p (l ++ [s])) : ∀ (n : Nat) (l : List α), l.length = n → p l
  | 0, l, h => by rw [List.eq_nil_of_length_eq_zero h]; exact h0
  | n + 1, l, h => by
    have hne : l ≠ [] := by intro e; rw [e] at h; cases h
    rw [← List.dropLast_concat_getLast hne]
    exact h1 _ _ (snoc_ind h0 h1 n _ (by rw [List.length_dropLast, h]; rfl))
/-- The bytes of the pack at hand are bounded. -/
theorem pkSt_k (most : Nat) (l : List Nat) : (pkSt most l).k ≤ 1024 := by
  refine snoc_ind (p := fun l => (pkSt most l).k ≤ 1024) (by simp [pkSt]) (fun l s ih => ?_) l.length l rfl
  rw [pkSt_snoc]
  unfold pkStep
  split
  · rename_i h
    unfold pkHolds at h
    simp at h
    show (pkSt most l).k + 1 ≤ 1024
    omega
  · simp
theorem pkSt_y (most : Nat) (l : List Nat) : (∀ s ∈ l, s ≤ 65577) → (pkSt most l).y ≤ most + 65580 := by
  refine snoc_ind (p := fun l => (∀ s ∈ l, s ≤ 65577) → (pkSt most l).y ≤ most + 65580) (by simp [pkSt]) (fun l s ih => ?_) l.length l rfl
  intro hl
  rw [pkSt_snoc]
  unfold pkStep
  split
  · rename_i h
    unfold pkHolds at h
    simp at h
    simp
    omega
  · have h1 := hl s (by simp)
    have h2 := lnN_3 (x := s) (by omega)
    simp only [pkE]
    omega
theorem pkSt_p (most : Nat) (l : List Nat) : (pkSt most l).p ≤ l.length := by
  refine snoc_ind (p := fun l => (pkSt most l).p ≤ l.length) (by simp [pkSt]) (fun l s ih => ?_) l.length l rfl
  rw [pkSt_snoc]
  unfold pkStep
  split
  · simp; omega
  · simp; omega
/-- The first error, or none. -/
def fillE (sizes : List Int) (most : Int) : Int :=
  if most < 1 ∨ 1048576 < most then 1 else if sizes.all pkMay = false then 1 else if sizes.all (fun s => pkAlone most.toNat s.toNat) = false then 13 else 0
def pkFillL (sizes : List Int) (most : Int) : List (List Nat) := if fillE sizes most = 0 then fillM most.toNat (sizes.map Int.toNat) else []
/-- A pack's bytes. -/
def pkB (l : List (List UInt8)) : List UInt8 := put l.length ++ (l.map fun b => put b.length ++ b).flatten
def pkSum (l : List (List UInt8)) : Nat := (l.map fun b => pkE b.length).sum
theorem pkB_len (l : List (List UInt8)) : (pkB l).length = lnN l.length + pkSum l := by
  unfold pkB pkSum
  rw [List.length_append]
  congr 1
  induction l with
  | nil => rfl
  | cons b l ih =>
    simp only [List.map_cons, List.flatten_cons, List.length_append, List.sum_cons, ih, pkE, lnN]
def putPE (l : List (List UInt8)) : Int :=
  if l.length < 1 ∨ 1024 < l.length then 1 else if l.all (fun b => pkMay b.length) = false then 1 else if 1048576 < lnN l.length + pkSum l then 13 else 0
def putPB (l : List (List UInt8)) : List UInt8 := if putPE l = 0 then pkB l else []
end Go.Proofs.YtnbjhdlnibmgdaaDoor

/-! Words for memory that all my texts use: a []byte that reads as a list of bytes ('Byt'). -/
namespace Go.Proofs.YtnbjhdlnibmgdaaDoor
open Go.RowKit

theorem add_plain (b o i : Nat) : (⟨b, o, none⟩ : Addr).add i = ⟨b, o + i, none⟩ := by unfold Addr.add; split <;> simp_all

/-- The byte i of l as a number. -/
theorem u8_lt (l : List UInt8) (k : Nat) : (l[k]?.getD 0).toNat < 256 := (l[k]?.getD 0).toNat_lt

/-- THE SLICE VALUE '.slice A n c' OF BYTES READS AS l; its row, if it has bytes, lies in a block of S. -/
structure Byt (w : World) (S : Nat → Prop) (A : Option Addr) (n c : Nat) (l : List UInt8) : Prop where
  len : l.length = n
  cap : n ≤ c
  max : c ≤ maxLen
  row : 0 < n → ∃ b off, A = some ⟨b, off, none⟩ ∧ S b ∧ b < w.heap.size ∧ ∀ i, i < n → w.cell? ⟨b, off + i, none⟩ = some (.int .u8 ((l[i]?.getD 0).toNat : Int))

section
variable {w w' : World} {S : Nat → Prop} {A : Option Addr} {n c : Nat} {l : List UInt8}

theorem Byt.keep (h : Byt w S A n c l) (hs : w.heap.size ≤ w'.heap.size) (hk : ∀ b o, b < w.heap.size → w'.cell? ⟨b, o, none⟩ = w.cell? ⟨b, o, none⟩) : Byt w' S A n c l :=
  ⟨h.len, h.cap, h.max, fun h0 => by
    obtain ⟨b, off, hA, hB, hb, hc⟩ := h.row h0
    exact ⟨b, off, hA, hB, by omega, fun i hi => (hk _ _ hb).trans (hc i hi)⟩⟩
theorem Byt.below (h : Byt w S A n c l) (hb : Below w.heap.size w w') : Byt w' S A n c l := h.keep hb.size fun _ _ hlt => hb.cell (p := ⟨_, _, none⟩) hlt
theorem Byt.alloc (h : Byt w S A n c l) (o : Obj) : Byt (w.alloc o) S A n c l := h.below ((Below.refl _ _).alloc (Nat.le_refl _) o)
theorem Byt.drew (h : Byt w S A n c l) : Byt w.drew S A n c l := ⟨h.len, h.cap, h.max, h.row⟩
theorem Byt.drewN (h : Byt w S A n c l) (k : Nat) : Byt (w.drewN k) S A n c l := ⟨h.len, h.cap, h.max, h.row⟩
theorem Byt.mono {T : Nat → Prop} (h : Byt w S A n c l) (hB : ∀ b, b < w.heap.size → S b → T b) : Byt w T A n c l :=
  ⟨h.len, h.cap, h.max, fun h0 => by
    obtain ⟨b, off, hA, hB', hb, hc⟩ := h.row h0
    exact ⟨b, off, hA, hB b hb hB', hb, hc⟩⟩
/-- s[k:] -/
theorem Byt.drop (h : Byt w S A n c l) {k : Nat} (hk : k ≤ n) : Byt w S (if c = k then A else A.map (·.add k)) (n - k) (c - k) (l.drop k) :=
  ⟨by rw [List.length_drop, h.len], by have := h.cap; omega, by have := h.max; omega, fun h0 => by
    obtain ⟨b, off, rfl, hB, hb, hc⟩ := h.row (by omega)
    have := h.cap
    rw [if_neg (by omega)]
    refine ⟨b, off + k, by simp [add_plain], hB, hb, fun i hi => ?_⟩
    rw [Nat.add_assoc, hc (k + i) (by omega), List.getElem?_drop]⟩
/-- s[:k:k] -/
theorem Byt.take (h : Byt w S A n c l) {k : Nat} (hk : k ≤ n) : Byt w S A k k (l.take k) :=
  ⟨by rw [List.length_take, h.len]; omega, Nat.le_refl _, by have := h.cap; have := h.max; omega, fun h0 => by
    obtain ⟨b, off, rfl, hB, hb, hc⟩ := h.row (by omega)
    refine ⟨b, off, rfl, hB, hb, fun i hi => ?_⟩
    rw [hc i (by omega), List.getElem?_take_of_lt hi]⟩
theorem Byt.nil (w : World) (S : Nat → Prop) (A : Option Addr) (c : Nat) (hc : c ≤ maxLen) : Byt w S A 0 c [] := ⟨rfl, Nat.zero_le _, hc, fun h => absurd h (by omega)⟩
theorem Byt.far (h : Byt w S A n c l) {p j : Nat} (hp : ∀ o x, w.cell? ⟨p, o, none⟩ ≠ some (.int .u8 x)) (u : Value) : Byt (w.setCell ⟨p, j, none⟩ u) S A n c l :=
  ⟨h.len, h.cap, h.max, fun h0 => by
    obtain ⟨b, off, hA, hB, hb, hc⟩ := h.row h0
    have hne : b ≠ p := by rintro rfl; exact hp _ _ (hc 0 h0)
    refine ⟨b, off, hA, hB, by simpa [World.setCell] using hb, fun i hi => (World.cell?_of_block (w := w) (a := ⟨b, off + i, none⟩) (Below.heap_setCell _ _ _ _ hne)).trans (hc i hi)⟩⟩
/-- Of a world that is the same in each block but those of which p holds. -/
theorem Byt.grown (h : Byt w S A n c l) {row : Option Nat} (hg : w.grownBy w' row) (hr : ∀ g, row = some g → ¬ S g ∨ ∀ o x, w.cell? ⟨g, o, none⟩ ≠ some (.int .u8 x)) : Byt w' S A n c l :=
  ⟨h.len, h.cap, h.max, fun h0 => by
    obtain ⟨b, off, hA, hB, hb, hc⟩ := h.row h0
    have hne : some b ≠ row := by
      rintro rfl
      rcases hr b rfl with h1 | h1
      · exact h1 hB
      · exact h1 _ _ (hc 0 h0)
    exact ⟨b, off, hA, hB, Nat.lt_of_lt_of_le hb hg.size, fun i hi => (World.cell?_of_block (w := w) (a := ⟨b, off + i, none⟩) (hg.block b hb hne)).trans (hc i hi)⟩⟩
end

/-! Only one block of the old ones may have turned. -/
theorem gr_refl (w : World) (row : Option Nat) : w.grownBy w row := ⟨rfl, rfl, rfl, Nat.le_refl _, fun _ _ _ => rfl⟩
theorem gr_trans {a b c : World} {row : Option Nat} (h : a.grownBy b row) (k : b.grownBy c row) : a.grownBy c row :=
  ⟨k.os.trans h.os, k.tape.trans h.tape, k.output.trans h.output, Nat.le_trans h.size k.size, fun i hi hne => (k.block i (Nat.lt_of_lt_of_le hi h.size) hne).trans (h.block i hi hne)⟩
theorem gr_set {a w : World} {p : Nat} (h : a.grownBy w (some p)) (j : Nat) (u : Value) : a.grownBy (w.setCell ⟨p, j, none⟩ u) (some p) :=
  ⟨h.os, h.tape, h.output, by simpa [World.setCell] using h.size, fun i hi hne => (Below.heap_setCell w ⟨p, j, none⟩ u i (fun e => hne (by rw [e]))).trans (h.block i hi hne)⟩
theorem gr_alloc {a w : World} {row : Option Nat} (h : a.grownBy w row) (o : Obj) : a.grownBy (w.alloc o) row :=
  ⟨h.os, h.tape, h.output, Nat.le_trans h.size (by simp), fun i hi hne => (Below.heap_alloc w o i (Nat.lt_of_lt_of_le hi h.size)).trans (h.block i hi hne)⟩
theorem gr_below {a b c : World} {row : Option Nat} (h : a.grownBy b row) (k : Below b.heap.size b c) : a.grownBy c row :=
  ⟨k.os.trans h.os, k.tape.trans h.tape, k.output.trans h.output, Nat.le_trans h.size k.size, fun i hi hne => (k.block i (Nat.lt_of_lt_of_le hi h.size)).trans (h.block i hi hne)⟩
theorem below_gr {a b : World} {B p : Nat} (h : a.grownBy b (some p)) (hB : B ≤ p) (hs : B ≤ a.heap.size) : Below B a b :=
  ⟨h.os, h.tape, h.output, h.size, fun i hi => h.block i (by omega) (fun e => by injection e; omega)⟩

/-- Of the old blocks only such as S holds may have turned. -/
structure Turned (S : Nat → Prop) (w w' : World) : Prop where
  os : w'.os = w.os
  tape : w'.tape = w.tape
  output : w'.output = w.output
  size : w.heap.size ≤ w'.heap.size
  block : ∀ k, k < w.heap.size → ¬ S k → w'.heap[k]? = w.heap[k]?

theorem Turned.refl (S : Nat → Prop) (w : World) : Turned S w w := ⟨rfl, rfl, rfl, Nat.le_refl _, fun _ _ _ => rfl⟩
theorem Turned.of_gr {S : Nat → Prop} {w w' : World} {row : Option Nat} (h : w.grownBy w' row) (hr : ∀ g, row = some g → S g) : Turned S w w' :=
  ⟨h.os, h.tape, h.output, h.size, fun k hk hs => h.block k hk (fun e => hs (hr k e.symm))⟩
theorem Turned.of_below {S : Nat → Prop} {w w' : World} (h : Below w.heap.size w w') : Turned S w w' := ⟨h.os, h.tape, h.output, h.size, fun k hk _ => h.block k hk⟩
theorem Turned.trans {S T : Nat → Prop} {a b c : World} (h : Turned S a b) (k : Turned T b c) (hT : ∀ i, i < a.heap.size → T i → S i) : Turned S a c :=
  ⟨k.os.trans h.os, k.tape.trans h.tape, k.output.trans h.output, Nat.le_trans h.size k.size, fun i hi hs => (k.block i (Nat.lt_of_lt_of_le hi h.size) (fun ht => hs (hT i hi ht))).trans (h.block i hi hs)⟩
theorem Turned.mono {S T : Nat → Prop} {a b : World} (h : Turned S a b) (hT : ∀ i, i < a.heap.size → S i → T i) : Turned T a b :=
  ⟨h.os, h.tape, h.output, h.size, fun i hi hs => h.block i hi (fun ht => hs (hT i hi ht))⟩
theorem Turned.below {a b : World} {B : Nat} (h : Turned (B ≤ ·) a b) (hB : B ≤ a.heap.size) : Below B a b :=
  ⟨h.os, h.tape, h.output, h.size, fun i hi => h.block i (by omega) (by omega)⟩
theorem Turned.set {S : Nat → Prop} {a w : World} (h : Turned S a w) {p : Nat} (hp : S p) (j : Nat) (u : Value) : Turned S a (w.setCell ⟨p, j, none⟩ u) :=
  ⟨h.os, h.tape, h.output, by simpa [World.setCell] using h.size, fun i hi hs => (Below.heap_setCell w ⟨p, j, none⟩ u i (by rintro rfl; exact hs hp)).trans (h.block i hi hs)⟩
theorem Turned.alloc {S : Nat → Prop} {a w : World} (h : Turned S a w) (o : Obj) : Turned S a (w.alloc o) :=
  ⟨h.os, h.tape, h.output, Nat.le_trans h.size (by simp), fun i hi hs => (Below.heap_alloc w o i (Nat.lt_of_lt_of_le hi h.size)).trans (h.block i hi hs)⟩
theorem Turned.drew {S : Nat → Prop} {a w : World} (h : Turned S a w) : Turned S a w.drew := ⟨h.os, h.tape, h.output, h.size, h.block⟩
theorem Turned.drewN {S : Nat → Prop} {a w : World} (h : Turned S a w) (n : Nat) : Turned S a (w.drewN n) := ⟨h.os, h.tape, h.output, h.size, h.block⟩
theorem Byt.turned {w w' : World} {S T : Nat → Prop} {A : Option Addr} {n c : Nat} {l : List UInt8} (h : Byt w S A n c l) (ht : Turned T w w') (hd : ∀ b, b < w.heap.size → S b → ¬ T b) : Byt w' S A n c l :=
  ⟨h.len, h.cap, h.max, fun h0 => by
    obtain ⟨b, off, hA, hB, hb, hc⟩ := h.row h0
    exact ⟨b, off, hA, hB, Nat.lt_of_lt_of_le hb ht.size, fun i hi => (World.cell?_of_block (w := w) (a := ⟨b, off + i, none⟩) (ht.block b hb (hd b hb hB))).trans (hc i hi)⟩⟩

/-- Bytes as cells. -/
def u8s (l : List UInt8) : List Value := l.map fun c => .int .u8 (c.toNat : Int)
theorem u8s_length (l : List UInt8) : (u8s l).length = l.length := by simp [u8s]
theorem u8s_append (l m : List UInt8) : u8s (l ++ m) = u8s l ++ u8s m := by simp [u8s]
theorem u8s_one (l : List UInt8) : ∀ u ∈ u8s l, u.oneCell' = true := by
  intro u hu
  obtain ⟨x, _, rfl⟩ := List.mem_map.1 hu
  rfl

/-- The row that the slice lies in may be written. -/
def FreeRow (w : World) (A : Option Addr) : Prop := ∀ a, A = some a → a.block < w.heap.size ∧ ∀ i, w.frozen? ⟨a.block, i, none⟩ = false
theorem FreeRow.none_ (w : World) : FreeRow w none := fun a h => by cases h
theorem FreeRow.below {w w' : World} {A : Option Addr} (h : FreeRow w A) (hb : Below w.heap.size w w') : FreeRow w' A := fun a ha =>
  ⟨Nat.lt_of_lt_of_le (h a ha).1 hb.size, fun i => (hb.frozen (p := ⟨a.block, i, none⟩) (h a ha).1).trans ((h a ha).2 i)⟩
theorem own_free {w : World} {B : Nat} {e : TypeId} {size : Nat} {A : Option Addr} {n c : Nat} {xs : List Value} (h : w.ownsRow B e size (.slice A n c) n xs) : FreeRow w A := by
  intro a ha
  rcases h.2 with ⟨hv, _⟩ | ⟨g, cap, cur, hv, _, hg, _⟩
  · injection hv with h1; rw [h1] at ha; cases ha
  · injection hv with h1
    rw [h1] at ha
    injection ha with ha
    subst ha
    exact ⟨(Array.getElem?_eq_some_iff.1 hg).1, fun i => by simp [World.frozen?, hg]⟩

/-- A row of the call's own reads as bytes. -/
theorem own_byt {w : World} {B : Nat} {e : TypeId} {v : Value} {n : Nat} {l : List UInt8} (h : w.ownsRow B e 1 v n (u8s l)) : ∃ A c, v = .slice A n c ∧ Byt w (B ≤ ·) A n c l := by
  have hl : l.length = n := by have := h.1; rw [u8s_length] at this; omega
  rcases h.2 with ⟨rfl, rfl⟩ | ⟨g, cap, cur, rfl, hb, hg, hn, hm, _, _⟩
  · have : l = [] := List.eq_nil_of_length_eq_zero hl
    subst this
    exact ⟨none, 0, rfl, Byt.nil _ _ _ _ (Nat.zero_le _)⟩
  · refine ⟨_, cap, rfl, hl, hn, hm, fun _ => ⟨g, 0, rfl, hb, (Array.getElem?_eq_some_iff.1 hg).1, fun i hi => ?_⟩⟩
    have := h.cells (g := g) rfl i (.int .u8 ((l[i]?.getD 0).toNat : Int)) (by
      have hil : i < l.length := by omega
      simp [u8s, List.getElem?_map, List.getElem?_eq_getElem hil])
    rw [add_plain] at this
    exact this

/-- The cells of a slice that reads as l, as append's law asks for them. -/
theorem byt_news {w : World} {S : Nat → Prop} {n c : Nat} {ad : Addr} {l : List UInt8} (h : Byt w S (some ad) n c l) : ∀ j u, (u8s l)[j]? = some u → w.cell? (ad.add j) = some u := by
  intro j u hj
  have hjl : j < l.length := by
    have := (List.getElem?_eq_some_iff.1 hj).1
    rwa [u8s_length] at this
  obtain ⟨b, off, hA, _, _, hc⟩ := h.row (by have := h.len; omega)
  obtain rfl : ad = ⟨b, off, none⟩ := by injection hA
  rw [add_plain, hc j (by have := h.len; omega)]
  rw [← hj]
  simp [u8s, List.getElem?_map, List.getElem?_eq_getElem hjl]

/-- s[k:], as the model has it. -/
def cutA (A : Option Addr) (c k : Nat) : Option Addr := if c = k then A else A.map (·.add k)
theorem Byt.cut {w : World} {S : Nat → Prop} {n c k : Nat} {A : Option Addr} {l : List UInt8} (h : Byt w S A n c l) (hk : k ≤ n) : Byt w S (cutA A c k) (n - k) (c - k) (l.drop k) := h.drop hk

theorem run_cut {P : Program} (t e : TypeId) (ht : P.underlying t = some (.slice e)) (hz : ∀ w, (Go.sizeOf e).run P w = .ok 1 w) (A : Option Addr) (n c k : Nat) (hk : k ≤ n) (W : World) :
    (Instr.slice t (.slice A n c) (some (.int .i64 (k : Int))) none none).run P W = .ok (.slice (cutA A c k) (n - k) (c - k)) W := by
  have ht' : P.underlying t = some (.slice (P.elem t)) := by simp [Program.elem, ht]
  have he : P.elem t = e := by simp [Program.elem, ht]
  rw [run_slice_l W t A n c ht' .i64 (k : Int) (by omega) (by omega), he, hz]
  simp [Result.andThen, sliced, cutA]

theorem run_front {P : Program} (t e : TypeId) (ht : P.underlying t = some (.slice e)) (hz : ∀ w, (Go.sizeOf e).run P w = .ok 1 w) (A : Option Addr) (n c k : Nat) (hk : k ≤ c) (W : World) :
    (Instr.slice t (.slice A n c) none (some (.int .i64 (k : Int))) (some (.int .i64 (k : Int)))).run P W = .ok (.slice A k k) W := by
  have ht' : P.underlying t = some (.slice (P.elem t)) := by simp [Program.elem, ht]
  have he : P.elem t = e := by simp [Program.elem, ht]
  rw [run_slice_hm W t A n c ht' .i64 .i64 (k : Int) (k : Int) (by omega) (by omega) (by omega), he, hz]
  have h0 : ∀ a : Addr, a.add 0 = a := fun a => by simp [Addr.add]
  cases A <;> simp [Result.andThen, sliced, h0]

end Go.Proofs.YtnbjhdlnibmgdaaDoor

/-! Words for slices of numbers: one that reads as a list ('Ints'); what a call owns is kept where other blocks turn. -/
namespace Go.Proofs.YtnbjhdlnibmgdaaDoor
open Go.RowKit

/-- THE SLICE VALUE '.slice A n c' OF NUMBERS OF KIND kd READS AS l; its row, if it has any, lies in a block of S. -/
structure Ints (kd : IntKind) (w : World) (S : Nat → Prop) (A : Option Addr) (n c : Nat) (l : List Int) : Prop where
  len : l.length = n
  cap : n ≤ c
  max : c ≤ maxLen
  wf : ∀ x ∈ l, (Lit.int kd x).wf = true
  row : 0 < n → ∃ b off, A = some ⟨b, off, none⟩ ∧ S b ∧ b < w.heap.size ∧ ∀ i, i < n → w.cell? ⟨b, off + i, none⟩ = some (.int kd (l[i]?.getD 0))

section
variable {kd : IntKind} {w w' : World} {S : Nat → Prop} {A : Option Addr} {n c : Nat} {l : List Int}
theorem Ints.below (h : Ints kd w S A n c l) (hb : Below w.heap.size w w') : Ints kd w' S A n c l :=
  ⟨h.len, h.cap, h.max, h.wf, fun h0 => by
    obtain ⟨b, off, hA, hB, hlt, hc⟩ := h.row h0
    exact ⟨b, off, hA, hB, Nat.lt_of_lt_of_le hlt hb.size, fun i hi => (hb.cell (p := ⟨b, off + i, none⟩) hlt).trans (hc i hi)⟩⟩
theorem Ints.mono {T : Nat → Prop} (h : Ints kd w S A n c l) (hB : ∀ b, b < w.heap.size → S b → T b) : Ints kd w T A n c l :=
  ⟨h.len, h.cap, h.max, h.wf, fun h0 => by
    obtain ⟨b, off, hA, hB', hlt, hc⟩ := h.row h0
    exact ⟨b, off, hA, hB b hlt hB', hlt, hc⟩⟩
theorem Ints.turned {T : Nat → Prop} (h : Ints kd w S A n c l) (ht : Turned T w w') (hd : ∀ b, b < w.heap.size → S b → ¬ T b) : Ints kd w' S A n c l :=
  ⟨h.len, h.cap, h.max, h.wf, fun h0 => by
    obtain ⟨b, off, hA, hB, hlt, hc⟩ := h.row h0
    exact ⟨b, off, hA, hB, Nat.lt_of_lt_of_le hlt ht.size, fun i hi => (World.cell?_of_block (w := w) (a := ⟨b, off + i, none⟩) (ht.block b hlt (hd b hlt hB))).trans (hc i hi)⟩⟩
theorem Ints.nil (kd : IntKind) (w : World) (S : Nat → Prop) (A : Option Addr) (c : Nat) (hc : c ≤ maxLen) : Ints kd w S A 0 c [] := ⟨rfl, Nat.zero_le _, hc, by simp, fun h => absurd h (by omega)⟩
end

/-- A row of numbers that came in. -/
theorem ints_of_row {kd : IntKind} {w : World} {x : Addr} {len cap : Nat} {zs : List Int} (hl : len ≤ cap) (hm : cap ≤ maxLen) (hz : zs.length = cap) (hcell : ∀ i, i < zs.length → w.cell? (x.add i) = some (.int kd (zs.getD i 0)))
    (hwz : ∀ n ∈ zs, (Lit.int kd n).wf = true) : Ints kd w (fun _ => True) (some x) len cap (zs.take len) := by
  refine ⟨by simp; omega, hl, hm, fun y hy => hwz y (List.mem_of_mem_take hy), fun h0 => ?_⟩
  obtain ⟨b, off, spot⟩ := x
  have hc0 := hcell 0 (by omega)
  have hspot : spot = none := by simpa [Addr.add] using World.cell?_spot hc0
  subst hspot
  have hlt := World.block_lt_of_cell? _ _ hc0
  rw [add_plain] at hlt
  refine ⟨b, off, rfl, trivial, hlt, fun i hi => ?_⟩
  have hc := hcell i (by omega)
  rw [add_plain] at hc
  rw [hc]
  simp [List.getD, List.getElem?_take_of_lt hi]

/-- What the call owns is kept where other blocks turn. -/
theorem own_turned {w w' : World} {T : Nat → Prop} {base : Nat} {e : TypeId} {size : Nat} {v : Value} {n : Nat} {xs : List Value} (h : w.ownsRow base e size v n xs) (ht : Turned T w w') (hd : ∀ g, v.ownBlock = some g → ¬ T g) : w'.ownsRow base e size v n xs := by
  obtain ⟨h1, h2⟩ := h
  refine ⟨h1, ?_⟩
  rcases h2 with h2 | ⟨g, cap, cur, rfl, hg, hhg, r⟩
  · exact .inl h2
  · exact .inr ⟨g, cap, cur, rfl, hg, (ht.block g (Array.getElem?_eq_some_iff.1 hhg).1 (hd g rfl)).trans hhg, r⟩

/-- Numbers as cells. -/
def nums (kd : IntKind) (l : List Int) : List Value := l.map (.int kd)
theorem nums_append (kd : IntKind) (l m : List Int) : nums kd (l ++ m) = nums kd l ++ nums kd m := by simp [nums]
theorem nums_length (kd : IntKind) (l : List Int) : (nums kd l).length = l.length := by simp [nums]

/-- A row of the call's own, its elements. -/
theorem own_row {w : World} {B : Nat} {e : TypeId} {v : Value} {n : Nat} {kd : IntKind} {l : List Int} (h : w.ownsRow B e 1 v n (nums kd l)) (h0 : 0 < n) : ∃ g c, v = .slice (some ⟨g, 0, none⟩) n c ∧ ∀ i, i < n → w.cell? ⟨g, i, none⟩ = some (.int kd (l[i]?.getD 0)) := by
  have hl : l.length = n := by have := h.1; rw [nums_length] at this; omega
  rcases h.2 with ⟨rfl, rfl⟩ | ⟨g, cap, cur, rfl, hb, hg, hn, hm, _, _⟩
  · omega
  · refine ⟨g, cap, rfl, fun i hi => ?_⟩
    have := h.cells (g := g) rfl i (.int kd (l[i]?.getD 0)) (by
      have hil : i < l.length := by omega
      simp [nums, List.getElem?_map, List.getElem?_eq_getElem hil])
    rw [add_plain] at this
    simpa using this
theorem own_slice {w : World} {B : Nat} {e : TypeId} {size : Nat} {v : Value} {n : Nat} {xs : List Value} (h : w.ownsRow B e size v n xs) : ∃ A c, v = .slice A n c := by
  rcases h.2 with ⟨rfl, rfl⟩ | ⟨g, cap, cur, rfl, _⟩
  · exact ⟨none, 0, rfl⟩
  · exact ⟨_, cap, rfl⟩
end Go.Proofs.YtnbjhdlnibmgdaaDoor

/-! A range over a function whose iterator makes memory of its own and hands out what lies in it: what the iterator promises (Iter), and the law for the loop. -/
namespace Go.Proofs.YtnbjhdlnibmgdaaDoor
open Go.RowKit

/-- A step that turns blocks of D alone, and such from B on as are no cells. -/
structure Steps (B : Nat) (D : Nat → Prop) (W W' : World) : Prop where
  os : W'.os = W.os
  tape : W'.tape = W.tape
  output : W'.output = W.output
  size : W.heap.size ≤ W'.heap.size
  block : ∀ b, b < W.heap.size → ¬ D b → (b < B ∨ ∃ o : Obj, W.heap[b]? = some o ∧ o.isCells = true) → W'.heap[b]? = W.heap[b]?
theorem Steps.of_turned {B : Nat} {D : Nat → Prop} {W W' : World} (h : Turned D W W') : Steps B D W W' := ⟨h.os, h.tape, h.output, h.size, fun b hb hd _ => h.block b hb hd⟩
theorem Steps.of_below {B : Nat} {D : Nat → Prop} {W W' : World} (h : Below W.heap.size W W') : Steps B D W W' := ⟨h.os, h.tape, h.output, h.size, fun b hb _ _ => h.block b hb⟩
theorem Steps.lower {B B' : Nat} {D : Nat → Prop} {W W' : World} (h : Steps B' D W W') (hB : B ≤ B') : Steps B D W W' :=
  ⟨h.os, h.tape, h.output, h.size, fun b hb hd hc => h.block b hb hd (hc.imp (fun h => by omega) id)⟩
theorem Steps.putObj {B : Nat} {D : Nat → Prop} {W : World} {l : Nat} {o : Obj} (o' : Obj) (hB : B ≤ l) (hl : W.heap[l]? = some o) (ho : o.isCells = false) : Steps B D W (W.putObj l o') :=
  ⟨rfl, rfl, rfl, by simp, fun b _ _ hc => World.putObj_heap_other (by
    rintro rfl
    rcases hc with hc | ⟨o2, h2, h3⟩
    · omega
    · rw [hl] at h2
      cases h2
      rw [ho] at h3
      cases h3)⟩
/-- A cells' block that is none of D's stays. -/
theorem Steps.cells {B : Nat} {D : Nat → Prop} {W W' : World} (h : Steps B D W W') {b : Nat} {cs : Array Value} {t : TypeId} {f : Nat × Nat} (hb : W.heap[b]? = some (.cells cs t f)) (hd : ¬ D b) : W'.heap[b]? = some (.cells cs t f) :=
  (h.block b (Array.getElem?_eq_some_iff.1 hb).1 hd (.inr ⟨_, hb, rfl⟩)).trans hb
theorem Steps.boxed {B : Nat} {D : Nat → Prop} {W W' : World} (h : Steps B D W W') {b : Nat} {v : Value} {t : TypeId} (hb : Boxed W b t v) (hd : ¬ D b) : Boxed W' b t v := h.cells hb hd
def Bounds (B : Nat) (D : Nat → Prop) (W : World) : Prop := ∀ b, D b → B ≤ b ∧ b < W.heap.size
theorem Bounds.none_ (B : Nat) (W : World) : Bounds B (fun _ => False) W := fun _ h => h.elim
theorem Bounds.grow {B : Nat} {D : Nat → Prop} {W W' : World} (h : Bounds B D W) (hs : W.heap.size ≤ W'.heap.size) : Bounds B D W' := fun b hb => ⟨(h b hb).1, Nat.lt_of_lt_of_le (h b hb).2 hs⟩
theorem Bounds.not {B b : Nat} {D : Nat → Prop} {W : World} (h : Bounds B D W) (hb : b < B) : ¬ D b := fun hd => by
  have := (h b hd).1
  omega
theorem Steps.below {B n0 : Nat} {D : Nat → Prop} {w0 W W' : World} (h : Steps B D W W') (hb : Below n0 w0 W) (hB : Bounds B D W) (h0 : n0 ≤ w0.heap.size) (h1 : n0 ≤ B) : Below n0 w0 W' :=
  hb.trans ⟨h.os, h.tape, h.output, h.size, fun k hk => h.block k (by have := hb.size; omega) (hB.not (by omega)) (.inl (by omega))⟩
/-- What does not mind the other's steps. -/
def Still {σ : Type} (B : Nat) (J : (Nat → Prop) → σ → World → Prop) : Prop :=
  ∀ (D D' : Nat → Prop) (s : σ) (W W' : World), Bounds B D W → J D s W → Steps B D W W' → (∀ b, D' b → D b ∨ (W.heap.size ≤ b ∧ b < W'.heap.size)) → J D' s W'
theorem still_false {σ : Type} (B : Nat) : Still B (fun _ (_ : σ) _ => False) := fun _ _ _ _ _ _ h _ _ => h
/-- What a round keeps: the iterator's blocks, those of K, and whatever from B on is no cells. -/
structure Kept (B : Nat) (D K : Nat → Prop) (W W' : World) : Prop where
  turned : Turned (fun b => ¬ (D b ∨ K b)) W W'
  keeps : KeepsFrom B W W'
theorem Kept.refl (B : Nat) (D K : Nat → Prop) (W : World) : Kept B D K W W := ⟨Turned.refl _ _, KeepsFrom.refl _ _⟩
theorem Kept.trans {B : Nat} {D K : Nat → Prop} {X Y Z : World} (h : Kept B D K X Y) (k : Kept B D K Y Z) : Kept B D K X Z := ⟨h.turned.trans k.turned fun _ _ h => h, h.keeps.trans k.keeps⟩
theorem Kept.raise {B B' : Nat} {D K : Nat → Prop} {W W' : World} (h : Kept B D K W W') (hB : B ≤ B') : Kept B' D K W W' := ⟨h.turned, ⟨h.keeps.size, fun k o hk => h.keeps.same k o (by omega)⟩⟩
theorem Kept.of_below {B : Nat} {D K : Nat → Prop} {W W' : World} (h : Below W.heap.size W W') : Kept B D K W W' :=
  ⟨Turned.of_below h, ⟨h.size, fun k _ _ hk _ => (h.block k (Array.getElem?_eq_some_iff.1 hk).1).trans hk⟩⟩
/-- One old block, of cells, which is none of the iterator's. -/
theorem Kept.of_gr {B : Nat} {D K : Nat → Prop} {W W' : World} {row : Option Nat} (h : W.grownBy W' row) (hr : ∀ g, row = some g → ¬ D g ∧ ¬ K g ∧ ∃ cs t f, W.heap[g]? = some (.cells cs t f)) : Kept B D K W W' :=
  ⟨Turned.of_gr h fun g e => by
      have := hr g e
      rintro (h1 | h1)
      · exact this.1 h1
      · exact this.2.1 h1,
   ⟨h.size, fun k o _ hk ho => (h.block k (Array.getElem?_eq_some_iff.1 hk).1 (fun e => by
      obtain ⟨_, _, cs, t, f, hc⟩ := hr k e.symm
      rw [hk] at hc
      cases hc
      cases ho)).trans hk⟩⟩
theorem Kept.of_turned {B q : Nat} {D K : Nat → Prop} {W W' : World} (h : Turned (· = q) W W') {cs : Array Value} {t : TypeId} {f : Nat × Nat} (hc : W.heap[q]? = some (.cells cs t f)) (hd : ¬ D q) (hk : ¬ K q) : Kept B D K W W' :=
  ⟨h.mono fun b _ e => by
      subst e
      exact fun hn => hn.elim hd hk,
   ⟨h.size, fun k o _ hk2 ho => (h.block k (Array.getElem?_eq_some_iff.1 hk2).1 (fun e => by
      rw [e, hc] at hk2
      cases hk2
      cases ho)).trans hk2⟩⟩
theorem Kept.inner {B B' : Nat} {D D' K K' : Nat → Prop} {W W' : World} (h : Kept B D K W W') (hB : B ≤ B') (hD : ∀ b, D' b → D b) (hK : ∀ b, K' b → K b ∨ D b) : Kept B' D' K' W W' :=
  ⟨h.turned.mono fun b _ hn hh => hn (by
      rcases hh with hh | hh
      · exact .inl (hD b hh)
      · exact (hK b hh).symm), (h.raise hB).keeps⟩
theorem Kept.putObj {B : Nat} {D K : Nat → Prop} {W : World} {l : Nat} (o' : Obj) (hB : l < B) (hd : ¬ D l) (hk : ¬ K l) : Kept B D K W (W.putObj l o') :=
  ⟨⟨rfl, rfl, rfl, by simp, fun b _ hb => World.putObj_heap_other (by
      rintro rfl
      exact hb (fun h => h.elim hd hk))⟩,
   ⟨by simp, fun _ _ _ hk _ => (World.putObj_heap_other (by omega)).trans hk⟩⟩
theorem RoundIn.wide {m m' : Nat} {P : Program} {l : Nat} {f : FuncId} {tmps : Array Value} {assign body : Code} {w : World} {R : Ending → World → Prop} (h : RoundIn Fence.wide m P l f tmps assign body w R) : RoundIn Fence.wide m' P l f tmps assign body w R :=
  ⟨h.1, fun c cs _ => h.2 c cs (room_wide _)⟩

theorem RoundIn.wideIn {m m' : Nat} (l' : Nat) {P : Program} {l : Nat} {f : FuncId} {tmps : Array Value} {assign body : Code} {w : World} {R : Ending → World → Prop} (h : RoundIn Fence.wide m P l f tmps assign body w R) : RoundIn (Fence.wide.inRound l') m' P l f tmps assign body w R :=
  (RoundIn.wide h : RoundIn Fence.wide m' P l f tmps assign body w R)

/-- THE ITERATOR's PROMISE. X: what is known of what has come; K: blocks that rounds must leave alone. -/
def Iter {α : Type} (P : Program) (g : Nat) (lb : Array Value) (encs : α → Array Value) (K : Nat → Prop) (X : (Nat → Prop) → List α → World → Prop) (S : List α → Prop) (w : World) : Prop :=
  (∀ D s W W', X D s W → Turned (fun b => ¬ (D b ∨ K b)) W W' → X D s W') ∧
  ∀ (l : Nat) (J Jx : (Nat → Prop) → List α → World → Prop) (W : World), Below w.heap.size w W → Still W.heap.size J → Still W.heap.size Jx →
    (∀ D pre x W1, Bounds W.heap.size D W1 → J D pre W1 → X D (pre ++ [x]) W1 → YieldAt Fence.wide 1 P l (encs x) W1 fun e W' =>
      (e = .returned (.bool true) ∧ J D (pre ++ [x]) W' ∧ Kept W.heap.size D K W1 W') ∨ (e = .returned (.bool false) ∧ Jx D (pre ++ [x]) W' ∧ Kept W.heap.size D K W1 W')) →
    J (fun _ => False) [] W →
    Calls P g (#[.func (.yield l) #[] #[]] ++ lb) W fun e W' => (∃ v, e = .returned v) ∧ ∃ D, Bounds W.heap.size D W' ∧ ((∃ xs, S xs ∧ X D xs W' ∧ J D xs W') ∨ (∃ pre, X D pre W' ∧ Jx D pre W'))

/-- How a round's body may be left. -/
def itPost {α : Type} (B : Nat) (K : Nat → Prop) (I : (Nat → Prop) → List α → World → Prop) (Ix : Code → (Nat → Prop) → List α → World → Prop) (D : Nat → Prop) (xs : List α) (W : World) : Exit → Act → World → Prop
  | .normal, _, W' => Kept B D K W W' ∧ I D xs W'
  | .ret, _, W' => Kept B D K W W' ∧ Ix .ret D xs W'
  | .exit id, _, W' => Kept B D K W W' ∧ Ix (.exit id) D xs W'
  | .goto t, _, W' => Kept B D K W W' ∧ Ix (.goto t) D xs W'
  | .panic _, _, _ => False
  | .outgrown, _, _ => False

/-- THE LAW. -/
theorem wpIn_rangeFunc_it {α : Type} {P : Program} {g : Operand} {ps : Array Tmp} {assign body : Code} {Q : Exit → Act → World → Prop} {a : Act} {w : World}
    {gf : Nat} {lb : Array Value} (hg : a.eval g = .func (.func gf) #[] lb) (eg : ∀ args w, (callFunc gf args).run P w = .ok (.enter gf args) w)
    {encs : α → Array Value} {K : Nat → Prop} {X : (Nat → Prop) → List α → World → Prop} {S : List α → Prop} {w0 : World} (hseq : Iter P gf lb encs K X S w0) (hb0 : Below w0.heap.size w0 w) (hK : ∀ b, K b → b < w.heap.size) (hps : ∀ x, (encs x).size = ps.size)
    (I : (Nat → Prop) → List α → World → Prop) (Ix : Code → (Nat → Prop) → List α → World → Prop) (hI : Still w.heap.size I) (hIx : ∀ c, Still w.heap.size (Ix c)) (h0 : I (fun _ => False) [] w)
    (Ax : α → Act → World → Prop) (hAx : ∀ x a', OwnFrom w.heap.size (fun (_ : Unit) W => Ax x a' W))
    (hassign : ∀ (l : Nat) (D : Nat → Prop) (pre : List α) (x : α) (W : World) (C : Act → World → Prop), Bounds (w.heap.size + 2) D W → I D pre W → X D (pre ++ [x]) W → (∀ a' W', Kept w.heap.size D K W W' → I D pre W' → Ax x a' W' → C a' W') →
      assign.wpIn (Fence.wide.inRound l) 1 P (Exit.then C (fun _ _ _ => False)) { tmps := (ps.zip (encs x)).foldl (fun t (p, v) => t.setIfInBounds p v) a.tmps, defers := [] } W)
    (hbody : ∀ (l : Nat) (D : Nat → Prop) (pre : List α) (x : α) (a' : Act) (W : World), w.heap.size ≤ l → w.heap.size + 2 ≤ W.heap.size → Bounds (w.heap.size + 2) D W → I D pre W → X D (pre ++ [x]) W → Ax x a' W → body.wpIn (Fence.wide.inRound l) 1 P (itPost w.heap.size K I Ix D (pre ++ [x]) W) a' W)
    (hdone : ∀ (E : Nat) (D : Nat → Prop) (xs : List α) (W : World), E = w.heap.size → w.heap.size + 2 ≤ W.heap.size → Bounds (w.heap.size + 2) D W → S xs → X D xs W → I D xs W → W.heap[E]? = some (.deferred (some [])) → Q .normal { a with defers := { target := .collected E, args := #[] } :: a.defers } W)
    (hstop : ∀ (E : Nat) (D : Nat → Prop) (c : Code) (pre : List α) (W : World), E = w.heap.size → w.heap.size + 2 ≤ W.heap.size → Bounds (w.heap.size + 2) D W → X D pre W → Ix c D pre W → W.heap[E]? = some (.deferred (some [])) → c.wpIn Fence.wide 3 P Q { a with defers := { target := .collected E, args := #[] } :: a.defers } W) :
    (Code.rangeFunc g ps assign body).wpIn Fence.wide 3 P Q a w := by
  refine wpIn_rangeFunc ?_
  intro fn hfn
  obtain ⟨rec, hrec⟩ : ∃ rec : LoopState → Option Code → Loop, rec = fun st pe => { state := st, pending := pe, fn, tmps := a.tmps, params := ps, assign, body, defers := w.heap.size } := ⟨_, rfl⟩
  obtain ⟨W1, hW1⟩ : ∃ W1, (w.alloc (.deferred (some []))).alloc (.loop (rec .ready none)) = W1 := ⟨_, rfl⟩
  have hs1 : W1.heap.size = w.heap.size + 2 := by rw [← hW1]; simp
  have hL1 : W1.heap[w.heap.size + 1]? = some (.loop (rec .ready none)) := by
    rw [← hW1]
    have := World.alloc_heap_new (w.alloc (.deferred (some []))) (.loop (rec .ready none))
    rwa [World.size_alloc] at this
  have hD1 : W1.heap[w.heap.size]? = some (.deferred (some [])) := by
    rw [← hW1]
    exact (Below.heap_alloc _ _ _ (by simp)).trans (World.alloc_heap_new w _)
  have hb01 : Below w.heap.size w W1 := by
    rw [← hW1]
    exact ((Below.refl _ w).alloc (Nat.le_refl _) _).alloc (by simp) _
  have hI1 : I (fun _ => False) [] W1 := hI _ _ _ _ _ (Bounds.none_ _ _) h0 (Steps.of_below hb01) (fun _ h => .inl h)
  have hb1 : Below w0.heap.size w0 W1 := hb0.trans (hb01.mono hb0.size)
  have hnK : ∀ b, w.heap.size ≤ b → ¬ K b := fun b hb hk => by
    have := hK b hk
    omega
  -- the record's and the deferred block's facts don't mind the iterator's steps
  have hrk : ∀ {D : Nat → Prop} {A C : World} {o : Obj} {b : Nat}, Bounds W1.heap.size D A → Steps W1.heap.size D A C → b < W1.heap.size → A.heap[b]? = some o → C.heap[b]? = some o := fun {D A C o b} hB hS hb ho =>
    (hS.block b (Array.getElem?_eq_some_iff.1 ho).1 (fun hd => by have := (hB b hd).1; omega) (.inl hb)).trans ho
  refine ⟨w.heap.size + 1, [{ target := .collected w.heap.size, args := #[] }], W1, { target := .fn (.func gf) lb, args := #[.func (.yield (w.heap.size + 1)) #[] #[]] }, W1, gf,
    #[.func (.yield (w.heap.size + 1)) #[] #[]] ++ lb, W1, ?_, ?_, ?_, ?_, fun _ => by omega, callsIn_wide.2 ?_⟩
  · rw [← hW1, hrec]
    exact run_enterLoop_outer _ _ _ _ _
  · simp only [resolve, hg]
    simp [go_sem]
  · intro f' _
    trivial
  · simp [invoke, go_sem, eg]
  · refine (hseq.2 (w.heap.size + 1)
      (fun D pre W => I D pre W ∧ W.heap[w.heap.size + 1]? = some (.loop (rec .ready none)) ∧ W.heap[w.heap.size]? = some (.deferred (some [])))
      (fun D pre W => ∃ c, Ix c D pre W ∧ W.heap[w.heap.size + 1]? = some (.loop (rec .done (some c))) ∧ W.heap[w.heap.size]? = some (.deferred (some [])))
      W1 hb1
      (fun D D' s A C hB hs hS hD => ⟨hI _ _ _ _ _ (fun b hb => ⟨by have := (hB b hb).1; omega, (hB b hb).2⟩) hs.1 (hS.lower (by omega)) hD, hrk hB hS (by omega) hs.2.1, hrk hB hS (by omega) hs.2.2⟩)
      (fun D D' s A C hB hs hS hD => by
        obtain ⟨c, hc, hl, hk⟩ := hs
        exact ⟨c, hIx c _ _ _ _ _ (fun b hb => ⟨by have := (hB b hb).1; omega, (hB b hb).2⟩) hc (hS.lower (by omega)) hD, hrk hB hS (by omega) hl, hrk hB hS (by omega) hk⟩)
      ?_ ⟨hI1, hL1, hD1⟩).mono ?_
    · -- one round
      rintro D pre x W hB ⟨hi, hl, hk⟩ hx
      rw [hs1] at hB
      have hnD : ¬ D (w.heap.size + 1) := fun h => by have := (hB _ h).1; omega
      have hy := run_yield (P := P) (args := encs x) hl (by rw [hrec]; exact hps x)
      rw [hrec] at hy
      refine ⟨fn, _, assign, body, hy, roundIn_of_wpIn hfn (hassign _ D pre x W _ hB hi hx ?_)⟩
      clear hy
      intro a' Wa hka hia hax
      have hla := hka.keeps.same _ _ (by omega) hl rfl
      have hda := hka.keeps.same _ _ (Nat.le_refl _) hk rfl
      have hxa := hseq.1 _ _ _ _ hx hka.turned
      have hBa := hB.grow hka.turned.size
      have hlt : w.heap.size + 1 < Wa.heap.size := (Array.getElem?_eq_some_iff.1 hla).1
      refine ⟨_, run_beginRound hla (by rw [hrec]), ?_⟩
      obtain ⟨Wb, hWb⟩ : ∃ Wb, Wa.putObj (w.heap.size + 1) (.loop { rec .ready none with state := .busy }) = Wb := ⟨_, rfl⟩
      have hkb : Kept W1.heap.size D K Wa Wb := by
        rw [← hWb]
        exact Kept.putObj _ (by omega) hnD (hnK _ (by omega))
      have hsb : Steps w.heap.size D Wa Wb := by
        rw [← hWb]
        exact Steps.putObj _ (by omega) hla rfl
      have hlb : Wb.heap[w.heap.size + 1]? = some (.loop { rec .ready none with state := .busy }) := by
        rw [← hWb]
        exact World.putObj_heap_same hlt
      have hdb : Wb.heap[w.heap.size]? = some (.deferred (some [])) := by
        rw [← hWb]
        exact (World.putObj_heap_other (by omega)).trans hda
      have hBl : Bounds w.heap.size D Wa := fun b hb => ⟨by have := (hBa b hb).1; omega, (hBa b hb).2⟩
      have hib := hI _ _ _ _ _ hBl hia hsb (fun _ h => .inl h)
      have haxb : Ax x a' Wb := by
        rw [← hWb]
        exact (hAx x a').putObj (s := ()) _ hax (by omega) hla rfl
      rw [hWb]
      refine wpIn_mono (hbody _ D pre x a' Wb (by omega) (by have := hkb.turned.size; omega) (hBa.grow hkb.turned.size) hib (hseq.1 _ _ _ _ hxa hkb.turned) haxb) ?_
      have fin : ∀ (jump : Option Code) (W3 : World), Kept w.heap.size D K Wb W3 →
          (Instr.endRound (w.heap.size + 1) jump).run P W3 = .ok (.bool jump.isNone) (W3.putObj (w.heap.size + 1) (.loop (rec (if jump.isNone then .ready else .done) jump))) ∧
          (W3.putObj (w.heap.size + 1) (.loop (rec (if jump.isNone then .ready else .done) jump))).heap[w.heap.size + 1]? = some (.loop (rec (if jump.isNone then .ready else .done) jump)) ∧
          (W3.putObj (w.heap.size + 1) (.loop (rec (if jump.isNone then .ready else .done) jump))).heap[w.heap.size]? = some (.deferred (some [])) ∧
          Kept W1.heap.size D K W (W3.putObj (w.heap.size + 1) (.loop (rec (if jump.isNone then .ready else .done) jump))) ∧
          Steps w.heap.size D W3 (W3.putObj (w.heap.size + 1) (.loop (rec (if jump.isNone then .ready else .done) jump))) ∧ Bounds w.heap.size D W3 := fun jump W3 hk3 => by
        have hl3 := hk3.keeps.same _ _ (by omega) hlb rfl
        have hd3 := hk3.keeps.same _ _ (Nat.le_refl _) hdb rfl
        have hend := run_endRound (P := P) jump hl3
        rw [hrec] at hend
        refine ⟨by rw [hrec]; exact hend, World.putObj_heap_same (Array.getElem?_eq_some_iff.1 hl3).1, (World.putObj_heap_other (by omega)).trans hd3, ?_, Steps.putObj _ (by omega) hl3 rfl, (hBl.grow hkb.turned.size).grow hk3.turned.size⟩
        exact (hka.raise (by omega)).trans (hkb.trans ((hk3.raise (by omega)).trans (Kept.putObj _ (by omega) hnD (hnK _ (by omega)))))
      rintro e a3 W3 hp
      cases e with
      | normal =>
        obtain ⟨hr, hl4, hd4, hk4, hs4, hB4⟩ := fin none W3 hp.1
        exact ⟨_, _, hr, .inl ⟨rfl, ⟨hI _ _ _ _ _ hB4 hp.2 hs4 (fun _ h => .inl h), hl4, hd4⟩, hk4⟩⟩
      | ret =>
        obtain ⟨hr, hl4, hd4, hk4, hs4, hB4⟩ := fin (some .ret) W3 hp.1
        exact ⟨_, _, hr, .inr ⟨rfl, ⟨.ret, hIx _ _ _ _ _ _ hB4 hp.2 hs4 (fun _ h => .inl h), hl4, hd4⟩, hk4⟩⟩
      | exit id =>
        obtain ⟨hr, hl4, hd4, hk4, hs4, hB4⟩ := fin (some (.exit id)) W3 hp.1
        exact ⟨_, _, hr, .inr ⟨rfl, ⟨.exit id, hIx _ _ _ _ _ _ hB4 hp.2 hs4 (fun _ h => .inl h), hl4, hd4⟩, hk4⟩⟩
      | goto t =>
        obtain ⟨hr, hl4, hd4, hk4, hs4, hB4⟩ := fin (some (.goto t)) W3 hp.1
        exact ⟨_, _, hr, .inr ⟨rfl, ⟨.goto t, hIx _ _ _ _ _ _ hB4 hp.2 hs4 (fun _ h => .inl h), hl4, hd4⟩, hk4⟩⟩
      | panic ch => exact hp.elim
      | outgrown => exact hp.elim
    · -- behind the iterator
      rintro e W2 ⟨⟨v, rfl⟩, D, hB, (⟨xs, hS, hx, hi, hl, hk⟩ | ⟨pre, hx, c, hi, hl, hk⟩)⟩
      · have hnD : ¬ D (w.heap.size + 1) := fun h => by have := (hB _ h).1; omega
        rw [hs1] at hB
        have hBl : Bounds w.heap.size D W2 := fun b hb => ⟨by have := (hB b hb).1; omega, (hB b hb).2⟩
        have hend := run_endLoop (P := P) hl (by rw [hrec]; simp)
        rw [hrec] at hend
        refine ⟨none, _, hend, hdone _ D xs _ rfl (by have := (Array.getElem?_eq_some_iff.1 hl).1; simp; omega) (hB.grow (by simp)) hS (hseq.1 _ _ _ _ hx (Kept.putObj (B := W1.heap.size) _ (by omega) hnD (hnK _ (by omega))).turned) (hI _ _ _ _ _ hBl hi (Steps.putObj _ (by omega) hl rfl) (fun _ h => .inl h)) ((World.putObj_heap_other (by omega)).trans hk)⟩
      · have hnD : ¬ D (w.heap.size + 1) := fun h => by have := (hB _ h).1; omega
        rw [hs1] at hB
        have hBl : Bounds w.heap.size D W2 := fun b hb => ⟨by have := (hB b hb).1; omega, (hB b hb).2⟩
        have hend := run_endLoop (P := P) hl (by rw [hrec]; simp)
        rw [hrec] at hend
        refine ⟨some c, _, hend, hstop _ D c pre _ rfl (by have := (Array.getElem?_eq_some_iff.1 hl).1; simp; omega) (hB.grow (by simp)) (hseq.1 _ _ _ _ hx (Kept.putObj (B := W1.heap.size) _ (by omega) hnD (hnK _ (by omega))).turned) (hIx c _ _ _ _ _ hBl hi (Steps.putObj _ (by omega) hl rfl) (fun _ h => .inl h)) ((World.putObj_heap_other (by omega)).trans hk)⟩
end Go.Proofs.YtnbjhdlnibmgdaaDoor
