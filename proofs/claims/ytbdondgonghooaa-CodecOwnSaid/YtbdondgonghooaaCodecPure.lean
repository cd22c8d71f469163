/-
  Plain mathematics of the codec's numbers: 'rd i l' reads a number from the bytes l, the first of which is the number's byte i; 'put x' is the number's own bytes. No program is named here.
-/
namespace Go.Proofs.Ytbdondgonghooaa
namespace Codec

/-- The bytes of a number. -/
def put (x : Nat) : List UInt8 := if h : x < 128 then [UInt8.ofNat x] else UInt8.ofNat (x % 128 + 128) :: put (x / 128)
termination_by x
decreasing_by omega

/-- Value, bytes taken, error. -/
def rd : Nat → List UInt8 → Nat × Nat × Nat
  | _, [] => (0, 0, 10)
  | i, c :: t =>
    if (i = 9 ∧ 1 < c.toNat) ∨ (0 < i ∧ c.toNat = 0) then (0, 0, 11)
    else if c.toNat < 128 then (c.toNat, 1, 0)
    else if (rd (i + 1) t).2.2 = 0 then (c.toNat - 128 + 128 * (rd (i + 1) t).1, (rd (i + 1) t).2.1 + 1, 0) else (0, 0, (rd (i + 1) t).2.2)

/-- What is read in all, when i bytes have given x and the rest reads as r. -/
def comb (i x : Nat) (r : Nat × Nat × Nat) : Nat × Nat × Nat := if r.2.2 = 0 then (x + 128 ^ i * r.1, i + r.2.1, 0) else (0, 0, r.2.2)

theorem put_small {x : Nat} (h : x < 128) : put x = [UInt8.ofNat x] := by rw [put]; simp [h]
theorem put_big {x : Nat} (h : 128 ≤ x) : put x = UInt8.ofNat (x % 128 + 128) :: put (x / 128) := by rw [put]; simp [show ¬ x < 128 by omega]

theorem put_ne (x : Nat) : put x ≠ [] := by rw [put]; split <;> simp

theorem put_length_pos (x : Nat) : 0 < (put x).length := by rw [put]; split <;> simp

theorem put_length_le : ∀ (k x : Nat), 1 ≤ k → x < 128 ^ k → (put x).length ≤ k
  | 0, x, hk, _ => by omega
  | 1, x, _, h => by rw [put_small (by simpa using h)]; simp
  | k + 2, x, _, h => by
    by_cases hx : x < 128
    · rw [put_small hx]; simp
    · rw [put_big (by omega)]
      have hd : x / 128 < 128 ^ (k + 1) := by rw [Nat.div_lt_iff_lt_mul (by omega), ← Nat.pow_succ]; exact h
      have := put_length_le (k + 1) (x / 128) (by omega) hd
      simp; omega

theorem put_length_64 {x : Nat} (h : x < 18446744073709551616) : (put x).length ≤ 10 :=
  put_length_le 10 x (by omega) (Nat.lt_of_lt_of_le h (by decide))

theorem rd_le : ∀ (i : Nat) (l : List UInt8), (rd i l).2.1 ≤ l.length
  | _, [] => by simp [rd]
  | i, c :: t => by
    have := rd_le (i + 1) t
    simp only [rd]
    split
    · simp
    · split
      · simp
      · split
        · simp; omega
        · simp

/-- An error takes nothing, and gives nothing. -/
theorem rd_err : ∀ (i : Nat) (l : List UInt8), (rd i l).2.2 ≠ 0 → (rd i l).1 = 0 ∧ (rd i l).2.1 = 0
  | _, [], _ => by simp [rd]
  | i, c :: t, h => by
    simp only [rd] at h ⊢
    split
    · simp
    · split
      · rename_i h1 h2
        rw [if_neg h1, if_pos h2] at h
        simp at h
      · rename_i h1 h2
        rw [if_neg h1, if_neg h2] at h
        split
        · rename_i h3
          rw [if_pos h3] at h
          simp at h
        · simp

theorem rd_errs : ∀ (i : Nat) (l : List UInt8), (rd i l).2.2 = 0 ∨ (rd i l).2.2 = 10 ∨ (rd i l).2.2 = 11
  | _, [] => by simp [rd]
  | i, c :: t => by
    have := rd_errs (i + 1) t
    simp only [rd]
    split
    · simp
    · split
      · simp
      · split
        · simp
        · exact this

theorem pow_split (i : Nat) (hi : i ≤ 9) : 128 ^ (9 - i) * 128 ^ i = 9223372036854775808 := by
  rw [← Nat.pow_add, show 9 - i + i = 9 by omega]

/-- What was read fits 64 bits: the value, with i bytes ahead of it, is below 2^64. -/
theorem rd_bound : ∀ (i : Nat) (l : List UInt8), i ≤ 9 → (rd i l).1 < 2 * 128 ^ (9 - i)
  | i, [], _ => by simp [rd]; exact Nat.pow_pos (by omega)
  | i, c :: t, hi => by
    have hp : 0 < 128 ^ (9 - i) := Nat.pow_pos (by omega)
    have hc := c.toNat_lt
    simp only [rd]
    split
    · simpa using hp
    · rename_i h1
      by_cases h9 : i = 9
      · subst h9
        have : c.toNat ≤ 1 := by simp at h1; omega
        rw [if_pos (by omega)]
        simp; omega
      · have hq : 128 ^ (9 - i) = 128 * 128 ^ (9 - (i + 1)) := by rw [show 9 - i = (9 - (i + 1)) + 1 by omega, Nat.pow_succ]; omega
        have hq1 : 0 < 128 ^ (9 - (i + 1)) := Nat.pow_pos (by omega)
        split
        · simp; omega
        · split
          · have := rd_bound (i + 1) t (by omega)
            simp; omega
          · simpa using hp

/-- What is put is read, whatever stands behind it. -/
theorem rd_put : ∀ (k i x : Nat) (t : List UInt8), (put x).length = k → i ≤ 9 → x < 2 * 128 ^ (9 - i) → (0 < i → 0 < x) → rd i (put x ++ t) = (x, k, 0)
  | 0, i, x, t, hk, _, _, _ => by have := put_length_pos x; omega
  | k + 1, i, x, t, hk, hi, hx, h0 => by
    by_cases hs : x < 128
    · rw [put_small hs] at hk ⊢
      have e : (UInt8.ofNat x).toNat = x := by simp [Nat.mod_eq_of_lt (show x < 256 by omega)]
      simp at hk
      subst hk
      simp only [List.cons_append, rd, e]
      rw [if_neg, if_pos hs]
      rintro (⟨rfl, h⟩ | ⟨h, h'⟩)
      · simp at hx; omega
      · have := h0 h; omega
    · rw [put_big (by omega)] at hk ⊢
      have e : (UInt8.ofNat (x % 128 + 128)).toNat = x % 128 + 128 := by simp; omega
      have h9 : i ≠ 9 := by rintro rfl; simp at hx; omega
      have hq : 128 ^ (9 - i) = 128 * 128 ^ (9 - (i + 1)) := by rw [show 9 - i = (9 - (i + 1)) + 1 by omega, Nat.pow_succ]; omega
      simp at hk
      have ih := rd_put k (i + 1) (x / 128) t hk (by omega) (by omega) (fun _ => by omega)
      simp only [List.cons_append, rd, e, ih]
      rw [if_neg (by omega), if_neg (by omega)]
      simp; omega

theorem rd_put0 {x : Nat} (h : x < 18446744073709551616) (t : List UInt8) : rd 0 (put x ++ t) = (x, (put x).length, 0) :=
  rd_put _ 0 x t rfl (by omega) (by simpa using h) (by omega)

/-- What is read as a number is what this number is put as. -/
theorem put_rd : ∀ (i : Nat) (l : List UInt8), i ≤ 9 → (rd i l).2.2 = 0 → put (rd i l).1 = l.take (rd i l).2.1 ∧ (0 < i → 0 < (rd i l).1) ∧ 1 ≤ (rd i l).2.1 ∧ (rd i l).2.1 ≤ 10 - i
  | _, [], _, h => by simp [rd] at h
  | i, c :: t, hi, h => by
    have hc := c.toNat_lt
    simp only [rd] at h ⊢
    by_cases h1 : (i = 9 ∧ 1 < c.toNat) ∨ (0 < i ∧ c.toNat = 0)
    · rw [if_pos h1] at h; simp at h
    · rw [if_neg h1] at h ⊢
      by_cases h2 : c.toNat < 128
      · rw [if_pos h2]
        simp only [put_small h2, List.take_succ_cons, List.take_zero]
        refine ⟨by simp, fun _ => by omega, by omega, by omega⟩
      · rw [if_neg h2] at h ⊢
        by_cases h3 : (rd (i + 1) t).2.2 = 0
        · rw [if_pos h3]
          have h9 : i ≠ 9 := by rintro rfl; omega
          obtain ⟨a, b, c1, d⟩ := put_rd (i + 1) t (by omega) h3
          have hb := b (by omega)
          refine ⟨?_, fun _ => by simp; omega, by simp, by simp; omega⟩
          simp only
          rw [put_big (by omega), show (c.toNat - 128 + 128 * (rd (i + 1) t).1) / 128 = (rd (i + 1) t).1 by omega, a,
            show (c.toNat - 128 + 128 * (rd (i + 1) t).1) % 128 + 128 = c.toNat by omega]
          simp
        · rw [if_neg h3] at h; exact absurd h h3

/-- Cut inside, a number's bytes end too early. -/
theorem rd_cut : ∀ (j i x : Nat), j < (put x).length → i ≤ 9 → x < 2 * 128 ^ (9 - i) → (0 < i → 0 < x) → rd i ((put x).take j) = (0, 0, 10)
  | 0, i, x, _, _, _, _ => by simp [rd]
  | j + 1, i, x, hj, hi, hx, h0 => by
    by_cases hs : x < 128
    · rw [put_small hs] at hj; simp at hj
    · rw [put_big (by omega)] at hj ⊢
      have e : (UInt8.ofNat (x % 128 + 128)).toNat = x % 128 + 128 := by simp; omega
      have h9 : i ≠ 9 := by rintro rfl; simp at hx; omega
      have hq : 128 ^ (9 - i) = 128 * 128 ^ (9 - (i + 1)) := by rw [show 9 - i = (9 - (i + 1)) + 1 by omega, Nat.pow_succ]; omega
      simp at hj
      have ih := rd_cut j (i + 1) (x / 128) hj (by omega) (by omega) (fun _ => by omega)
      simp only [List.take_succ_cons, rd, e, ih]
      rw [if_neg (by omega), if_neg (by omega)]
      simp

theorem comb_zero (r : Nat × Nat × Nat) (h : r.2.2 ≠ 0 → r.1 = 0 ∧ r.2.1 = 0) : comb 0 0 r = r := by
  unfold comb
  obtain ⟨a, b, c⟩ := r
  simp only at h ⊢
  split
  · rename_i h0; subst h0; simp
  · rename_i h0; obtain ⟨rfl, rfl⟩ := h h0; rfl

/-- One round: a byte of 128 or more, that may stand there. -/
theorem comb_step {i x : Nat} {c : UInt8} {t : List UInt8} (h1 : ¬ ((i = 9 ∧ 1 < c.toNat) ∨ (0 < i ∧ c.toNat = 0))) (h2 : ¬ c.toNat < 128) :
    comb i x (rd i (c :: t)) = comb (i + 1) (x + (c.toNat - 128) * 128 ^ i) (rd (i + 1) t) := by
  simp only [rd, if_neg h1, if_neg h2]
  unfold comb
  by_cases h3 : (rd (i + 1) t).2.2 = 0
  · rw [if_pos h3, if_pos rfl, if_pos h3]
    have : 128 ^ (i + 1) = 128 * 128 ^ i := by rw [Nat.pow_succ]; omega
    simp only [this, Prod.mk.injEq, and_true]
    refine ⟨?_, by omega⟩
    generalize 128 ^ i = p
    generalize (rd (i + 1) t).1 = v
    rw [Nat.mul_add, Nat.mul_comm p (c.toNat - 128), ← Nat.add_assoc, ← Nat.mul_assoc p, Nat.mul_comm p 128]
  · rw [if_neg h3, if_neg h3, if_neg h3]

end Codec
end Go.Proofs.Ytbdondgonghooaa
