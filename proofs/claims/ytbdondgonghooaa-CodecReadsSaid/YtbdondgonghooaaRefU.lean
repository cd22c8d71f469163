/-
  The document's reading of a number, by value.
-/
import Derived.Test.YtbdondgonghooaaRefR
namespace Go.Proofs.Ytbdondgonghooaa
open Go.RowKit Codec

theorem strB_head (d : UInt8) (t : List UInt8) (h : 0 < (strB (d :: t)).size) : (strB (d :: t))[0] = d := rfl
theorem pow_small {k : Nat} (hk : k ≤ 9) : 128 ^ k ≤ 9223372036854775808 := by
  have h := Nat.pow_le_pow_right (show 0 < 128 by omega) hk
  simpa using h
theorem u64_in {z : Int} (h0 : 0 ≤ z) (h1 : z < 18446744073709551616) : IntKind.u64.wrap z = z := by unfold IntKind.wrap; simp [IntKind.signed, IntKind.bits]; omega
theorem wrap_mul {k X d : Nat} (hX : X < 128 ^ k) (hk : k ≤ 9) (h9 : k = 9 → d % 128 ≤ 1) : IntKind.u64.wrap ((X : Int) + IntKind.u64.wrap (128 ^ k * ((d : Int) % 128))) = ((X + d % 128 * 128 ^ k : Nat) : Int) := by
  have hs := n_small (c := d % 128) hX hk (by omega) h9
  have e : (128 : Int) ^ k * ((d : Int) % 128) = ((d % 128 * 128 ^ k : Nat) : Int) := by
    rw [Nat.mul_comm]; push_cast; rfl
  rw [e, u64_in (Int.natCast_nonneg _) (by omega), u64_in (by omega) (by omega)]
  push_cast; rfl
theorem wrap_pow {k : Nat} (hk : k < 9) : IntKind.u64.wrap ((128 : Int) ^ k * 128) = ((128 ^ (k + 1) : Nat) : Int) := by
  have h := pow_small (k := k + 1) (by omega)
  have e : (128 : Int) ^ k * 128 = ((128 ^ (k + 1) : Nat) : Int) := by rw [Nat.pow_succ]; push_cast; rfl
  rw [e, u64_in (Int.natCast_nonneg _) (by omega)]

set_option maxHeartbeats 2000000 in
set_option maxRecDepth 100000 in
theorem ref_uint0 (l : List UInt8) (w : World) : Calls Try.prog 12 #[RV l 0] w fun r w' => ∃ m : List UInt8, r = .returned (.tuple #[RV m (rd 0 l).2.2, .int .u64 (rd 0 l).1]) ∧ ((rd 0 l).2.2 = 0 → m = l.drop (rd 0 l).2.1) ∧ Below w.heap.size w w' := by
  have b2 := below2 w
  unfold RV
  go_enter Try.func12, Try.ntmps12
  go_wp2_with fail
  go_loopw [4, 5, 6, 7] (fun x m i c wr => ∃ (k X : Nat), k ≤ 9 ∧ i = .int .i64 k ∧ m = .int .u64 ((128 ^ k : Nat) : Int) ∧ x = .int .u64 X ∧ X < 128 ^ k ∧ Hid (rd 0 l = comb k X (rd k (l.drop k))) ∧
    wr = (w.alloc (.cells #[.string (strB (l.drop k)), .int .i64 0] 29)).alloc (.cells #[.string ByteArray.empty, .int .i64 0] 29)) (fun _ _ i _ _ => 10 - (intOf i).toNat)
  case atStart => exact ⟨0, 0, by omega, rfl, rfl, rfl, by simp, by rw [List.drop_zero, comb_zero _ (rd_err 0 l)]; exact rfl, rfl⟩
  case round =>
    obtain ⟨k, X, hk9, rfl, rfl, rfl, hX, HD, rfl⟩ := hrel
    generalize hR : l.drop k = R at *
    cases R with
    | nil =>
      have hE : (strB []).toList.isEmpty = true := strB_empty []
      have E : rd 0 l = (0, 0, 10) := by rw [HD.out]; rfl
      clear HD
      have HE := Lib.hid E
      clear E
      go_wp2_with fail
      refine bodyPost_ret (v := .tuple #[.agg #[.string (strB []), .int .i64 10], .int .u64 0]) (by simp [results, Try.results12, go_sem]) rfl ⟨[], ?_, ?_, b2 _ _⟩
      · rw [HE.out]; rfl
      · rw [HE.out]; intro h; cases h
    | cons d t =>
      have hE : (strB (d :: t)).toList.isEmpty = false := strB_empty (d :: t)
      have hsz : (strB (d :: t)).size = t.length + 1 := by rw [strB_size]; rfl
      have hd0 := strB_head d t
      have EX := Lib.hid (strB_from (d :: t) 1)
      have ht : l.drop (k + 1) = t := by rw [← List.drop_drop, hR]; rfl
      have HT := Lib.hid ht
      have HX := Lib.hid hX
      have hu := d.toNat_lt
      clear hR ht hX
      rw [hsz] at EX
      go_wp2_with fail
      · have h9 : (k : Int) = 9 := by assumption
        have h1 : 1 < (d.toNat : Int) ∨ ((d.toNat : Int) == 0) = true := by assumption
        simp only [beq_iff_eq] at h1
        have E := n_bad HD.out (by omega)
        rw [EX.out]
        refine bodyPost_ret (v := .tuple #[.agg #[.string (strB t), .int .i64 11], .int .u64 0]) (by simp [results, Try.results12, go_sem]) rfl ⟨t, ?_, ?_, b2 _ _⟩
        · rw [E]; rfl
        · rw [E]; intro h; cases h
      · have h9 : (k : Int) = 9 := by assumption
        have h1 : (d.toNat : Int) ≤ 1 ∧ ((d.toNat : Int) == 0) = false := by assumption
        have := WalkArith.int_ne h1.2
        have E := n_end HD.out (by omega) (by omega)
        have W := wrap_mul (d := d.toNat) HX.out hk9 (by omega)
        rw [EX.out, W]
        refine bodyPost_ret (v := .tuple #[.agg #[.string (strB t), .int .i64 0], .int .u64 ((X + d.toNat % 128 * 128 ^ k : Nat) : Int)]) (by simp [results, Try.results12, go_sem]) rfl ⟨t, ?_, ?_, b2 _ _⟩
        · rw [E, Nat.mod_eq_of_lt (by omega)]; rfl
        · rw [E]; intro _; exact HT.out.symm
      · have h9 : (k : Int) = 9 := by assumption
        have h1 : 1 < (d.toNat : Int) := by assumption
        have E := n_bad HD.out (by omega)
        rw [EX.out]
        refine bodyPost_ret (v := .tuple #[.agg #[.string (strB t), .int .i64 11], .int .u64 0]) (by simp [results, Try.results12, go_sem]) rfl ⟨t, ?_, ?_, b2 _ _⟩
        · rw [E]; rfl
        · rw [E]; intro h; cases h
      · have hp : 0 < k := by assumption
        have h0 : ((d.toNat : Int) == 0) = true := by assumption
        have := WalkArith.int_eq h0
        have E := n_bad HD.out (by omega)
        rw [EX.out]
        refine bodyPost_ret (v := .tuple #[.agg #[.string (strB t), .int .i64 11], .int .u64 0]) (by simp [results, Try.results12, go_sem]) rfl ⟨t, ?_, ?_, b2 _ _⟩
        · rw [E]; rfl
        · rw [E]; intro h; cases h
      · have h9 : ¬ (k : Int) = 9 := by assumption
        have h0 : ((d.toNat : Int) == 0) = false := by assumption
        have hs : (d.toNat : Int) < 128 := by assumption
        have := WalkArith.int_ne h0
        have E := n_end HD.out (by omega) (by omega)
        have W := wrap_mul (d := d.toNat) HX.out hk9 (by omega)
        rw [EX.out, W]
        refine bodyPost_ret (v := .tuple #[.agg #[.string (strB t), .int .i64 0], .int .u64 ((X + d.toNat % 128 * 128 ^ k : Nat) : Int)]) (by simp [results, Try.results12, go_sem]) rfl ⟨t, ?_, ?_, b2 _ _⟩
        · rw [E, Nat.mod_eq_of_lt (by omega)]; rfl
        · rw [E]; intro _; exact HT.out.symm
      · have h9 : ¬ (k : Int) = 9 := by assumption
        have hs : 128 ≤ (d.toNat : Int) := by assumption
        have E := HD.out
        rw [comb_step (by omega) (by omega)] at E
        have W := wrap_mul (d := d.toNat) HX.out hk9 (by omega)
        have W2 := wrap_pow (k := k) (by omega)
        have hX2 := n_next (c := d.toNat % 128) HX.out (by omega)
        go_roundw
        case rel => exact ⟨k + 1, _, by omega, by go_num, by rw [W2], by rw [W], hX2, by rw [HT.out, show d.toNat % 128 = d.toNat - 128 by omega]; exact E, by rw [EX.out, HT.out]; rfl⟩
        case measure => simp [intOf]; omega
      · have h9 : ¬ (k : Int) = 9 := by assumption
        have hp : ¬ 0 < k := by assumption
        have hs : (d.toNat : Int) < 128 := by assumption
        have E := n_end HD.out (by omega) (by omega)
        have W := wrap_mul (d := d.toNat) HX.out hk9 (by omega)
        rw [EX.out, W]
        refine bodyPost_ret (v := .tuple #[.agg #[.string (strB t), .int .i64 0], .int .u64 ((X + d.toNat % 128 * 128 ^ k : Nat) : Int)]) (by simp [results, Try.results12, go_sem]) rfl ⟨t, ?_, ?_, b2 _ _⟩
        · rw [E, Nat.mod_eq_of_lt (by omega)]; rfl
        · rw [E]; intro _; exact HT.out.symm
      · have h9 : ¬ (k : Int) = 9 := by assumption
        have hs : 128 ≤ (d.toNat : Int) := by assumption
        have E := HD.out
        rw [comb_step (by omega) (by omega)] at E
        have W := wrap_mul (d := d.toNat) HX.out hk9 (by omega)
        have W2 := wrap_pow (k := k) (by omega)
        have hX2 := n_next (c := d.toNat % 128) HX.out (by omega)
        go_roundw
        case rel => exact ⟨k + 1, _, by omega, by go_num, by rw [W2], by rw [W], hX2, by rw [HT.out, show d.toNat % 128 = d.toNat - 128 by omega]; exact E, by rw [EX.out, HT.out]; rfl⟩
        case measure => simp [intOf]; omega

/-- The post of a reading by value: a reader with error e, that has l left where e is none; the value v. -/
def RGot (w : World) (e : Int) (l : List UInt8) (v : Value) (r : Ending) (w' : World) : Prop := ∃ m : List UInt8, r = .returned (.tuple #[RV m e, v]) ∧ (e = 0 → m = l) ∧ Below w.heap.size w w'

set_option maxHeartbeats 1000000 in
theorem ref_uint (l : List UInt8) (e : Int) (w : World) : Calls Try.prog 12 #[RV l e] w (RGot w (uiE l e) (uiL l e) (.int .u64 (uiX l e))) := by
  by_cases he : e = 0
  · subst he
    refine (ref_uint0 l w).mono ?_
    rintro _ w1 ⟨m, rfl, h1, h2⟩
    unfold uiE uiX uiL
    rw [if_pos rfl, if_pos rfl, if_pos rfl]
    exact ⟨m, rfl, fun h => h1 (by omega), h2⟩
  · have e1 : uiE l e = e := by unfold uiE; rw [if_neg he]
    have e2 : uiX l e = 0 := by unfold uiX; rw [if_neg he]
    rw [e1, e2]
    have b2 := below2 w
    have HE := Lib.hid he
    have he' : (e != 0) = true := by simpa using he
    unfold RV
    clear he e1 e2
    go_enter Try.func12, Try.ntmps12
    go_wp2_with fail
    refine bodyPost_ret (v := .tuple #[.agg #[.string (strB l), .int .i64 e], .int .u64 0]) (by simp [results, Try.results12, go_sem]) rfl ⟨l, rfl, fun h => absurd h HE.out, b2 _ _⟩
end Go.Proofs.Ytbdondgonghooaa
