/-
  Plain mathematics: what the reference reckons is what digest does.
-/
import Derived.Test.YtckgibeiikhaaaaDoorRefSha
import Derived.Test.YtckgibeiikhaaaaDoorShaOf
import Derived.KernelRfl
namespace Go.Proofs.YtckgibeiikhaaaaDoor

theorem out_told (H : List (BitVec 32)) (h : H.length = 8) : outR H 8 = toldA H 32 := by
  match H, h with
  | [a, b, c, d, e, f, g, i], _ => rfl

/-! The first sixteen words -/
def w4 (b : List UInt8) (j : Nat) : BitVec 32 := ((((0 : BitVec 32) <<< (8 : Nat) ||| byW b (4 * j)) <<< (8 : Nat) ||| byW b (4 * j + 1)) <<< (8 : Nat) ||| byW b (4 * j + 2)) <<< (8 : Nat) ||| byW b (4 * j + 3)
theorem wacc_all (b : List UInt8) : wacc b 64 = [w4 b 0, w4 b 1, w4 b 2, w4 b 3, w4 b 4, w4 b 5, w4 b 6, w4 b 7, w4 b 8, w4 b 9, w4 b 10, w4 b 11, w4 b 12, w4 b 13, w4 b 14, w4 b 15] := by kernel_rfl
theorem byW_lt (b : List UInt8) (i : Nat) : (byW b i).toNat < 256 := by
  unfold byW
  have := (b[i]?.getD 0).toNat_lt
  rw [BitVec.toNat_ofNat, Nat.mod_eq_of_lt (by omega)]
  exact this
theorem sh_or (x c : BitVec 32) (hc : c.toNat < 256) : x <<< (8 : Nat) ||| c = x * 256#32 + c := by
  apply BitVec.eq_of_toNat_eq
  have e1 : x.toNat <<< 8 % 2 ^ 32 = (x.toNat % 16777216) <<< 8 := by
    rw [Nat.shiftLeft_eq, Nat.shiftLeft_eq]
    omega
  have e2 := Nat.shiftLeft_add_eq_or_of_lt (i := 8) (b := c.toNat) (by omega) (x.toNat % 16777216)
  rw [BitVec.toNat_or, BitVec.toNat_shiftLeft, e1, ← e2, BitVec.toNat_add, BitVec.toNat_mul, Nat.shiftLeft_eq]
  have h : (256#32).toNat = 256 := rfl
  rw [h]
  omega
theorem w4_bew (b : List UInt8) (j : Nat) : w4 b j = bew b j := by
  unfold w4 bew
  have h0 := byW_lt b (4 * j)
  have h1 := byW_lt b (4 * j + 1)
  have h2 := byW_lt b (4 * j + 2)
  have h3 := byW_lt b (4 * j + 3)
  rw [sh_or _ _ h0, sh_or _ _ h1, sh_or _ _ h2, sh_or _ _ h3]
  generalize byW b (4 * j) = c0 at *
  generalize byW b (4 * j + 1) = c1 at *
  generalize byW b (4 * j + 2) = c2 at *
  generalize byW b (4 * j + 3) = c3 at *
  have e2 : 256#32 * 256#32 = 65536#32 := by decide
  have e3 : 65536#32 * 256#32 = 16777216#32 := by decide
  have e4 : (0 : BitVec 32) = 0#32 := rfl
  simp only [BitVec.add_mul, BitVec.mul_assoc, e2, e3]
  rw [e4, BitVec.zero_mul, BitVec.zero_add]
theorem wacc_at (b : List UInt8) (j : Nat) (h : j < 16) : (wacc b 64)[j]?.getD 0 = bew b j := by
  rw [wacc_all, ← w4_bew]
  match j, h with
  | 0, _ | 1, _ | 2, _ | 3, _ | 4, _ | 5, _ | 6, _ | 7, _ | 8, _ | 9, _ | 10, _ | 11, _ | 12, _ | 13, _ | 14, _ | 15, _ => rfl
  | n + 16, h => exact absurd h (by omega)

/-! The sixty-four words -/
def swS (b : List UInt8) (i : Nat) : BitVec 32 := (sw b 64)[i]?.getD 0
theorem sw_keep (b : List UInt8) : ∀ (n i : Nat), i < n → n ≤ 64 → (sw b n)[i]?.getD 0 = (sw b (i + 1))[i]?.getD 0
  | 0, i, h, _ => by omega
  | n + 1, i, h, hn => by
    rcases Nat.lt_succ_iff_lt_or_eq.1 h with h1 | rfl
    · rw [← sw_keep b n i h1 (by omega), sw, List.getElem?_set_ne (by omega)]
    · rfl
theorem swS_at (b : List UInt8) (n i : Nat) (h : i < n) (hn : n ≤ 64) : (sw b n)[i]?.getD 0 = swS b i := by
  rw [sw_keep b n i h hn, swS, sw_keep b 64 i (by omega) (by omega)]
theorem sw_at (b : List UInt8) (k : Nat) (h : k < 64) : (sw b (k + 1))[k]?.getD 0 = if k < 16 then bew b k else swk (sw b k) k := by
  have hl := sw_length b k
  rw [sw]
  generalize (if k < 16 then bew b k else swk (sw b k) k) = x
  generalize sw b k = L at *
  rw [List.getElem?_set_self (by omega)]
  rfl
theorem swS_new (b : List UInt8) (k : Nat) (h : k < 64) : swS b k = if k < 16 then bew b k else swk (sw b k) k := by
  rw [← swS_at b (k + 1) k (by omega) (by omega), sw_at b k h]
theorem swS_hi (b : List UInt8) (k : Nat) (h : k < 64) (h16 : 16 ≤ k) : swS b k = swS b (k - 16) + (lowB (swS b (k - 15)) + swS b (k - 7) + highB (swS b (k - 2))) := by
  rw [swS_new b k h, if_neg (by omega), swk, swS_at b k _ (by omega) (by omega), swS_at b k _ (by omega) (by omega), swS_at b k _ (by omega) (by omega), swS_at b k _ (by omega) (by omega)]
  simp only [BitVec.add_assoc]

theorem ring_inv (L W : List (BitVec 32)) (S : Nat → BitVec 32) (hL : L.length = 16) (h0 : ∀ m, m < 16 → L[m]?.getD 0 = S m) (hW : ∀ k, k < 64 → W[k]?.getD 0 = S k)
    (hS : ∀ k, 16 ≤ k → k < 64 → S k = S (k - 16) + (lowB (S (k - 15)) + S (k - 7) + highB (S (k - 2)))) (r : R8) : ∀ k, k ≤ 64 →
    (∀ m, m < max k 16 → max k 16 ≤ m + 16 → ((rounds r L k).2)[m % 16]?.getD 0 = S m) ∧ (rounds r L k).1 = roundsR r W k := by
  intro k
  induction k with
  | zero =>
    intro _
    refine ⟨fun m h1 h2 => ?_, rfl⟩
    have hm : m < 16 := by omega
    rw [show m % 16 = m by omega]
    exact h0 m hm
  | succ k ih =>
    intro hk
    obtain ⟨ih1, ih2⟩ := ih (by omega)
    have hl : (rounds r L k).2.length = 16 := by rw [rounds_length, hL]
    have key : (ring (rounds r L k).2 k)[k % 16]?.getD 0 = S k ∧ ∀ m, m < max (k + 1) 16 → max (k + 1) 16 ≤ m + 16 → (ring (rounds r L k).2 k)[m % 16]?.getD 0 = S m := by
      by_cases h16 : k < 16
      · have e : ring (rounds r L k).2 k = (rounds r L k).2 := by unfold ring; rw [if_pos h16]
        rw [e]
        exact ⟨ih1 k (by omega) (by omega), fun m h1 h2 => ih1 m (by omega) (by omega)⟩
      · have e : ring (rounds r L k).2 k = (rounds r L k).2.set (k % 16) (S k) := by
          unfold ring
          rw [if_neg h16, hS k (by omega) (by omega), ← ih1 (k - 16) (by omega) (by omega), ← ih1 (k - 15) (by omega) (by omega), ← ih1 (k - 7) (by omega) (by omega), ← ih1 (k - 2) (by omega) (by omega),
            show (k - 16) % 16 = k % 16 by omega, show (k - 15) % 16 = (k + 1) % 16 by omega, show (k - 7) % 16 = (k + 9) % 16 by omega, show (k - 2) % 16 = (k + 14) % 16 by omega]
        rw [e]
        have hself : ((rounds r L k).2.set (k % 16) (S k))[k % 16]?.getD 0 = S k := by
          rw [List.getElem?_set_self (by omega)]; rfl
        refine ⟨hself, fun m h1 h2 => ?_⟩
        by_cases hm : m = k
        · subst hm; exact hself
        · rw [List.getElem?_set_ne (by omega)]
          exact ih1 m (by omega) (by omega)
    refine ⟨key.2, ?_⟩
    have e1 : (rounds r L (k + 1)).1 = (rounds r L k).1.next (kTab[k]?.getD 0) ((ring (rounds r L k).2 k)[k % 16]?.getD 0) := rfl
    have e2 : roundsR r W (k + 1) = (roundsR r W k).next (kTab[k]?.getD 0) (W[k]?.getD 0) := rfl
    rw [e1, e2, key.1, ih2, hW k (by omega)]

theorem mix_eq (h : List (BitVec 32)) (b : List UInt8) : mixR h b = mixB h b := by
  have h1 : ∀ m, m < 16 → (wacc b 64)[m]?.getD 0 = swS b m := fun m hm => by rw [wacc_at b m hm, swS_new b m (by omega), if_pos hm]
  have h2 : ∀ k, k < 64 → (sw b 64)[k]?.getD 0 = swS b k := fun k _ => rfl
  have h3 := fun k h16 hk => swS_hi b k hk h16
  have h4 := wacc_length b 64
  unfold mixR mixB
  generalize wacc b 64 = L at *
  generalize sw b 64 = W at *
  rw [(ring_inv L W (swS b) h4 h1 h2 h3 (R8.of h) 64 (by omega)).2]

theorem hashR_eq (M : List UInt8) : ∀ (j : Nat), hashR M j = hashN M j
  | 0 => rfl
  | j + 1 => by rw [hashR, hashN, hashR_eq M j, mix_eq]
end Go.Proofs.YtckgibeiikhaaaaDoor
