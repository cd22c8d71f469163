/-
  The reference: Check, rare.
-/
import Derived.Test.YtcmdiclbbcdceaaCutPure
import Derived.Test.YtcmdiclbbcdceaaOwn
import Derived.Test.YtcmdiclbbcdceaaInts
import Derived.Test.YtcmdiclbbcdceaaStr
namespace Go.Proofs.Ytcmdiclbbcdceaa
open Go.RowKit

/-- What is told of a config. -/
def cutErr (le mo bi : Int) : Int := if le < 1 ∨ mo < le ∨ 65536 < mo ∨ bi < 1 ∨ 24 < bi then 1 else 0
theorem cutErr_ok {le mo bi : Int} (h : cutErr le mo bi = 0) : ∃ c : Cfg, c.Ok ∧ le = (c.least : Int) ∧ mo = (c.most : Int) ∧ bi = (c.bits : Int) := by
  unfold cutErr at h
  split at h
  · cases h
  · rename_i hn
    exact ⟨⟨le.toNat, mo.toNat, bi.toNat⟩, ⟨by show 1 ≤ le.toNat; omega, by show le.toNat ≤ mo.toNat; omega, by show mo.toNat ≤ 65536; omega, by show 1 ≤ bi.toNat; omega, by show bi.toNat ≤ 24; omega⟩, by show le = (le.toNat : Int); omega, by show mo = (mo.toNat : Int); omega, by show bi = (bi.toNat : Int); omega⟩
theorem cutErr_two (le mo bi : Int) : cutErr le mo bi = 0 ∨ cutErr le mo bi = 1 := by
  unfold cutErr
  split
  · exact .inr rfl
  · exact .inl rfl

set_option maxHeartbeats 1000000 in
theorem rcutcheck_any (le mo bi : Int) (w : World) :
    Calls Try.prog 15 #[.agg #[.int .i64 le, .int .i64 mo, .int .i64 bi]] w fun e w' => e = .returned (.int .i64 (cutErr le mo bi)) ∧ Below w.heap.size w w' := by
  have hb : Below w.heap.size w (w.alloc (.cells #[.int .i64 le, .int .i64 mo, .int .i64 bi] 34)) := (Below.refl _ _).alloc (Nat.le_refl _) _
  have HB := Lib.hid hb
  clear hb
  by_cases h1 : le < 1
  · have HR : Hid (cutErr le mo bi = 1) := Lib.hid (by unfold cutErr; rw [if_pos (.inl h1)])
    go_enter Try.func15, Try.ntmps15
    go_wp2
    go_ret
    exact ⟨by rw [HR.out]; rfl, HB.out⟩
  · by_cases h2 : mo < le
    · have HR : Hid (cutErr le mo bi = 1) := Lib.hid (by unfold cutErr; rw [if_pos (.inr (.inl h2))])
      go_enter Try.func15, Try.ntmps15
      go_wp2
      go_ret
      exact ⟨by rw [HR.out]; rfl, HB.out⟩
    · by_cases h3 : 65536 < mo
      · have HR : Hid (cutErr le mo bi = 1) := Lib.hid (by unfold cutErr; rw [if_pos (.inr (.inr (.inl h3)))])
        go_enter Try.func15, Try.ntmps15
        go_wp2
        go_ret
        exact ⟨by rw [HR.out]; rfl, HB.out⟩
      · by_cases h4 : bi < 1
        · have HR : Hid (cutErr le mo bi = 1) := Lib.hid (by unfold cutErr; rw [if_pos (.inr (.inr (.inr (.inl h4))))])
          go_enter Try.func15, Try.ntmps15
          go_wp2
          go_ret
          exact ⟨by rw [HR.out]; rfl, HB.out⟩
        · by_cases h5 : 24 < bi
          · have HR : Hid (cutErr le mo bi = 1) := Lib.hid (by unfold cutErr; rw [if_pos (.inr (.inr (.inr (.inr h5))))])
            go_enter Try.func15, Try.ntmps15
            go_wp2
            go_ret
            exact ⟨by rw [HR.out]; rfl, HB.out⟩
          · have HR : Hid (cutErr le mo bi = 0) := Lib.hid (by unfold cutErr; rw [if_neg (by omega)])
            go_enter Try.func15, Try.ntmps15
            go_wp2
            go_ret
            exact ⟨by rw [HR.out]; rfl, HB.out⟩

theorem div_pow_zero (s k : Nat) : s / 2 ^ k = 0 ↔ s < 2 ^ k := by
  rw [Nat.div_eq_zero_iff]
  have : 0 < 2 ^ k := Nat.two_pow_pos k
  omega
def RRa (s k : Nat) (w : World) (x i : Value) (wr : World) : Prop := ∃ j : Nat, j ≤ k ∧ i = .int .i64 (j : Int) ∧ x = .int .u64 ((s / 2 ^ j : Nat) : Int) ∧ wr = w
set_option maxHeartbeats 1000000 in
theorem rare_any (s bits : Nat) (hs : s < 18446744073709551616) (hb : bits ≤ 64) (w : World) :
    Calls Try.prog 16 #[.int .u64 (s : Int), .int .i64 (bits : Int)] w fun e w' => e = .returned (.bool (rareC bits s)) ∧ w = w' := by
  have HS := Lib.hid (fun (_ : Unit) => hs)
  have hsub := IntWalk.i64_in (64 - (bits : Int)) (by omega)
  obtain ⟨k, hk⟩ : ∃ k : Nat, (64 : Int) - (bits : Int) = (k : Int) := ⟨64 - bits, by omega⟩
  have HK : Hid (k = 64 - bits ∧ k ≤ 64) := Lib.hid ⟨by omega, by omega⟩
  rw [hk] at hsub
  clear hs hb
  go_enter Try.func16, Try.ntmps16
  go_wp2_with fail
  go_loopw [0, 5] (fun x i wr => RRa s k w x i wr) (fun _ i _ => k - (intOf i).toNat)
  case atStart => exact ⟨0, Nat.zero_le _, rfl, by simp, rfl⟩
  case round =>
    obtain ⟨j, hj, rfl, rfl, rfl⟩ := hrel
    obtain ⟨D, hD⟩ : ∃ D, D = s / 2 ^ j := ⟨_, rfl⟩
    rw [← hD]
    have HD : Hid (∀ _ : Unit, D = s / 2 ^ j) := Lib.hid fun _ => hD
    have hadd := IntWalk.i64_in ((j : Int) + 1) (by have := HK.out.2; omega)
    clear hD
    by_cases hlt : j < k
    · have hlt' : (j : Int) < (k : Int) := by omega
      go_wp2_with fail
      go_roundw
      case rel =>
        refine ⟨j + 1, by omega, by simp, ?_, rfl⟩
        rw [Nat.pow_succ, ← Nat.div_div_eq_div_mul, ← HD.out ()]
        have h1 := HS.out ()
        have h2 := HD.out ()
        have h3 : D ≤ s := by rw [h2]; exact Nat.div_le_self _ _
        rw [IntWalk.u64_in _ (by omega)]
        simp
      case measure => simp only [intOf]; omega
    · have hlt' : ¬ (j : Int) < (k : Int) := by omega
      have HE : Hid (((D : Int) == 0) = rareC bits s) := Lib.hid (by
        obtain rfl : j = k := by omega
        unfold rareC
        rw [← HK.out.1, show ((D : Int) == 0) = decide (D = 0) by by_cases h : D = 0 <;> simp [h]]
        exact decide_eq_decide.2 (by rw [HD.out ()]; exact div_pow_zero s j))
      go_wp2_with fail
      go_ret
      exact ⟨by rw [← HE.out]; rfl, rfl⟩
end Go.Proofs.Ytcmdiclbbcdceaa
