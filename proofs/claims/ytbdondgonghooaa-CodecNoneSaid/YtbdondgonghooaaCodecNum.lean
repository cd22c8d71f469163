/-
  codec.number over the bytes of a slice: the walk.
-/
import Derived.Test.YtbdondgonghooaaRows
import Derived.Test.YtbdondgonghooaaMem
import Derived.Test.YtbdondgonghooaaCodecPure
namespace Go.Proofs.Ytbdondgonghooaa
open Go.RowKit Codec

theorem or_shift {X c i : Nat} (hX : X < 128 ^ i) (hc : X + c * 128 ^ i < 18446744073709551616) : bits .or .u64 (X : Int) (IntKind.u64.wrap ((c : Int) * 2 ^ (7 * i))) = ((X + c * 128 ^ i : Nat) : Int) := by
  have e : (128 : Nat) ^ i = 2 ^ (7 * i) := by rw [Nat.pow_mul]
  have hc' : c * 2 ^ (7 * i) < 18446744073709551616 := by rw [← e]; omega
  have hw : IntKind.u64.wrap ((c : Int) * 2 ^ (7 * i)) = ((c * 2 ^ (7 * i) : Nat) : Int) := by
    rw [show ((c : Int) * 2 ^ (7 * i)) = ((c * 2 ^ (7 * i) : Nat) : Int) by simp]
    exact IntWalk.u64_in _ ⟨by omega, by omega⟩
  rw [hw, bits_or_u64_nat _ _ (by omega) hc', e]
  congr 1
  rw [Nat.or_comm, Nat.mul_comm c, ← Nat.two_pow_add_eq_or_of_lt (by rw [← e]; exact hX)]
  omega

theorem drop_at {l : List UInt8} {k : Nat} (h : k < l.length) : ∃ c, l.drop k = c :: l.drop (k + 1) ∧ l[k]?.getD 0 = c :=
  ⟨l[k], List.drop_eq_getElem_cons h, by simp [List.getElem?_eq_getElem h]⟩

theorem n_bad {k X : Nat} {c : UInt8} {l t : List UInt8} (H : rd 0 l = comb k X (rd k (c :: t))) (h : (k = 9 ∧ 1 < c.toNat) ∨ (0 < k ∧ c.toNat = 0)) : rd 0 l = (0, 0, 11) := by
  rw [H]; simp [rd, h, comb]
theorem n_end {k X : Nat} {c : UInt8} {l t : List UInt8} (H : rd 0 l = comb k X (rd k (c :: t))) (h : ¬ ((k = 9 ∧ 1 < c.toNat) ∨ (0 < k ∧ c.toNat = 0))) (h2 : c.toNat < 128) : rd 0 l = (X + c.toNat * 128 ^ k, k + 1, 0) := by
  rw [H]; simp only [rd, if_neg h, if_pos h2, comb, if_true, Nat.mul_comm (128 ^ k)]
theorem n_small {k X c : Nat} (hX : X < 128 ^ k) (hk : k ≤ 9) (hc : c < 128) (h9 : k = 9 → c ≤ 1) : X + c * 128 ^ k < 18446744073709551616 := by
  by_cases h : k = 9
  · subst h; have := h9 rfl; simp at hX ⊢; omega
  · have h1 : c * 128 ^ k ≤ 127 * 128 ^ k := Nat.mul_le_mul_right _ (by omega)
    have h2 : 128 ^ (k + 1) ≤ 128 ^ 9 := Nat.pow_le_pow_right (by omega) (by omega)
    rw [Nat.pow_succ] at h2
    simp at h2
    omega
theorem n_next {k X c : Nat} (hX : X < 128 ^ k) (hc : c < 128) : X + c * 128 ^ k < 128 ^ (k + 1) := by
  have h1 : c * 128 ^ k ≤ 127 * 128 ^ k := Nat.mul_le_mul_right _ (by omega)
  rw [Nat.pow_succ]
  omega

theorem or_step {X k d : Nat} (hX : X < 128 ^ k) (hk : k ≤ 9) (h9 : k = 9 → d % 128 ≤ 1) : bits .or .u64 (X : Int) (IntKind.u64.wrap ((d : Int) % 128 * 2 ^ (7 * k))) = ((X + (d % 128) * 128 ^ k : Nat) : Int) := by
  have := or_shift (c := d % 128) hX (n_small hX hk (by omega) h9)
  rw [← this]
  rfl
theorem ret3_of {k1 k2 k3 : IntKind} {a a' b b' c c' : Int} (h1 : a = a') (h2 : b = b') (h3 : c = c') : Ending.returned (.tuple #[.int k1 a, .int k2 b, .int k3 c]) = .returned (.tuple #[.int k1 a', .int k2 b', .int k3 c']) := by rw [h1, h2, h3]

set_option maxHeartbeats 1000000 in
set_option maxRecDepth 100000 in
theorem number_any (b off n c : Nat) (l : List UInt8) (w : World) (hl : Hid (l.length = n)) (hn : n ≤ maxLen)
    (hc : ∀ i, i < n → w.cell? ⟨b, off + i, none⟩ = some (.int .u8 ((l[i]?.getD 0).toNat : Int))) :
    Calls Try.prog 33 #[.slice (some ⟨b, off, none⟩) n c] w fun e w' => e = .returned (.tuple #[.int .u64 (rd 0 l).1, .int .i64 (rd 0 l).2.1, .int .i64 (rd 0 l).2.2]) ∧ w = w' := by
  unfold maxLen at hn
  go_enter Try.func33, Try.ntmps33
  go_wp2
  go_step3
  go_wp2
  go_step3
  go_wp2
  go_loop [5, 6, 7, 12] (fun x m e i => ∃ (k : Nat) (X : Nat), k ≤ n ∧ k ≤ 9 ∧ i = .int .i64 k ∧ m = .int .i64 0 ∧ e = .int .i64 10 ∧ x = .int .u64 X ∧ X < 128 ^ k ∧ Hid (rd 0 l = comb k X (rd k (l.drop k)))) (fun _ _ _ i => n - (intOf i).toNat)
  case atStart => exact ⟨0, 0, by omega, by omega, rfl, rfl, rfl, rfl, by simp, by rw [List.drop_zero, comb_zero _ (rd_err 0 l)]; exact rfl⟩
  case round =>
    obtain ⟨k, X, hk, hk9, rfl, rfl, rfl, rfl, hX, HD⟩ := hrel
    by_cases hlt : k < n
    · obtain ⟨d, hd, hdk⟩ := drop_at (l := l) (k := k) (by rw [hl.out]; exact hlt)
      have hcell := hc k hlt
      rw [hdk] at hcell
      have HD' := HD.out
      rw [hd] at HD'
      have H := Lib.hid HD'
      have hu := d.toNat_lt
      have HX := Lib.hid hX
      clear hc HD HD' hd hdk hl hX
      go_wp2
      · have h9 : (k : Int) = 9 := by assumption
        have h1 : 1 < (d.toNat : Int) := by assumption
        rw [n_bad H.out (Or.inl ⟨by omega, by omega⟩)]
        go_ret3
        exact ⟨rfl, rfl⟩
      · have h9 : (k : Int) = 9 := by assumption
        have h0 : ((d.toNat : Int) == 0) = true := by assumption
        have := WalkArith.int_eq h0
        rw [n_bad H.out (Or.inr ⟨by omega, by omega⟩)]
        go_ret3
        exact ⟨rfl, rfl⟩
      · have h9 : (k : Int) = 9 := by assumption
        have h1 : (d.toNat : Int) ≤ 1 := by assumption
        have h0 : ((d.toNat : Int) == 0) = false := by assumption
        have := WalkArith.int_ne h0
        have E := n_end H.out (by omega) (by omega)
        have E2 := or_step (d := d.toNat) HX.out hk9 (by omega)
        rw [E]
        go_ret3
        exact ⟨ret3_of (by rw [E2, Nat.mod_eq_of_lt (by omega)]) (by simp; omega) rfl, rfl⟩
      · have h9 : ¬ (k : Int) = 9 := by assumption
        have hp : 0 < k := by assumption
        have h0 : ((d.toNat : Int) == 0) = true := by assumption
        have := WalkArith.int_eq h0
        rw [n_bad H.out (Or.inr ⟨by omega, by omega⟩)]
        go_ret3
        exact ⟨rfl, rfl⟩
      · have h9 : ¬ (k : Int) = 9 := by assumption
        have hp : 0 < k := by assumption
        have h0 : ((d.toNat : Int) == 0) = false := by assumption
        have hs : (d.toNat : Int) < 128 := by assumption
        have := WalkArith.int_ne h0
        have E := n_end H.out (by omega) (by omega)
        have E2 := or_step (d := d.toNat) HX.out hk9 (by omega)
        rw [E]
        go_ret3
        exact ⟨ret3_of (by rw [E2, Nat.mod_eq_of_lt (by omega)]) (by simp) rfl, rfl⟩
      · have h9 : ¬ (k : Int) = 9 := by assumption
        have hs : 128 ≤ (d.toNat : Int) := by assumption
        have E := H.out
        rw [comb_step (by omega) (by omega)] at E
        have E2 := or_step (d := d.toNat) HX.out hk9 (by omega)
        have hX2 := n_next (c := d.toNat % 128) HX.out (by omega)
        go_round
        case rel => exact ⟨k + 1, _, by omega, by omega, by go_num, rfl, rfl, by rw [E2], hX2, by rw [show d.toNat % 128 = d.toNat - 128 by omega]; exact E⟩
        case measure => simp [intOf]; omega
      · have h9 : ¬ (k : Int) = 9 := by assumption
        have hp : ¬ 0 < k := by assumption
        have hs : (d.toNat : Int) < 128 := by assumption
        have E := n_end H.out (by omega) (by omega)
        have E2 := or_step (d := d.toNat) HX.out hk9 (by omega)
        rw [E]
        go_ret3
        exact ⟨ret3_of (by rw [E2, Nat.mod_eq_of_lt (by omega)]) (by simp) rfl, rfl⟩
      · have h9 : ¬ (k : Int) = 9 := by assumption
        have hs : 128 ≤ (d.toNat : Int) := by assumption
        have E := H.out
        rw [comb_step (by omega) (by omega)] at E
        have E2 := or_step (d := d.toNat) HX.out hk9 (by omega)
        have hX2 := n_next (c := d.toNat % 128) HX.out (by omega)
        go_round
        case rel => exact ⟨k + 1, _, by omega, by omega, by go_num, rfl, rfl, by rw [E2], hX2, by rw [show d.toNat % 128 = d.toNat - 128 by omega]; exact E⟩
        case measure => simp [intOf]; omega
    · have E : rd 0 l = (0, 0, 10) := by
        rw [HD.out, List.drop_eq_nil_of_le (by rw [hl.out]; omega)]; rfl
      have HE := Lib.hid E
      clear hc HD hl E
      go_wp2
      rw [HE.out]
      go_ret3
      exact ⟨rfl, rfl⟩

set_option maxRecDepth 100000 in
/-- A slice without bytes. -/
theorem number_none (A : Option Addr) (c : Nat) (w : World) :
    Calls Try.prog 33 #[.slice A 0 c] w fun e w' => e = .returned (.tuple #[.int .u64 0, .int .i64 0, .int .i64 10]) ∧ w = w' := by
  go_enter Try.func33, Try.ntmps33
  go_wp2
  go_step3
  go_wp2
  go_step3
  go_wp2
  go_loop [5, 6, 7, 12] (fun x m e i => i = .int .i64 0 ∧ m = .int .i64 0 ∧ e = .int .i64 10 ∧ x = .int .u64 0) (fun _ _ _ _ => 0)
  case atStart => exact ⟨rfl, rfl, rfl, rfl⟩
  case round =>
    obtain ⟨rfl, rfl, rfl, rfl⟩ := hrel
    go_wp2
    go_ret3
    exact ⟨rfl, rfl⟩

/-- A slice that reads as l. -/
theorem number_byt {w : World} {S : Nat → Prop} {n c : Nat} {A : Option Addr} {l : List UInt8} (h : Byt w S A n c l) :
    Calls Try.prog 33 #[.slice A n c] w fun e w' => e = .returned (.tuple #[.int .u64 (rd 0 l).1, .int .i64 (rd 0 l).2.1, .int .i64 (rd 0 l).2.2]) ∧ w = w' := by
  by_cases h0 : n = 0
  · subst h0
    have hl : l = [] := List.eq_nil_of_length_eq_zero h.len
    subst hl
    exact number_none A c w
  · obtain ⟨b, off, rfl, _, _, hc⟩ := h.row (by omega)
    exact number_any b off n c l w h.len (by have := h.cap; have := h.max; omega) hc
end Go.Proofs.Ytbdondgonghooaa
