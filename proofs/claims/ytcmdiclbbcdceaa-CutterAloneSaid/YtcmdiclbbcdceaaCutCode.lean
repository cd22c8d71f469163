/-
  The code: Check, weight, rare, first.
-/
import Derived.Test.YtcmdiclbbcdceaaCutLists
import Derived.Test.YtcmdiclbbcdceaaRws
import Derived.Test.YtcmdiclbbcdceaaMade
import Derived.Test.YtcmdiclbbcdceaaGrow
namespace Go.Proofs.Ytcmdiclbbcdceaa
open Go.RowKit

set_option maxHeartbeats 1000000 in
theorem cutcheck_any (le mo bi : Int) (w : World) :
    Calls Try.prog 12 #[.agg #[.int .i64 le, .int .i64 mo, .int .i64 bi]] w fun e w' => e = .returned (.int .i64 (cutErr le mo bi)) ∧ Below w.heap.size w w' := by
  have hb : Below w.heap.size w (w.alloc (.cells #[.int .i64 le, .int .i64 mo, .int .i64 bi] 24)) := (Below.refl _ _).alloc (Nat.le_refl _) _
  have HB := Lib.hid hb
  clear hb
  by_cases h1 : 1 ≤ le
  · by_cases h2 : le ≤ mo
    · by_cases h3 : mo ≤ 65536
      · by_cases h4 : bi < 1
        · have HR : Hid (cutErr le mo bi = 1) := Lib.hid (by unfold cutErr; rw [if_pos (.inr (.inr (.inr (.inl h4))))])
          go_enter Try.func12, Try.ntmps12
          go_wp2
          go_ret
          exact ⟨by rw [HR.out]; rfl, HB.out⟩
        · by_cases h5 : 24 < bi
          · have HR : Hid (cutErr le mo bi = 1) := Lib.hid (by unfold cutErr; rw [if_pos (.inr (.inr (.inr (.inr h5))))])
            go_enter Try.func12, Try.ntmps12
            go_wp2
            go_ret
            exact ⟨by rw [HR.out]; rfl, HB.out⟩
          · have HR : Hid (cutErr le mo bi = 0) := Lib.hid (by unfold cutErr; rw [if_neg (by omega)])
            go_enter Try.func12, Try.ntmps12
            go_wp2
            go_ret
            exact ⟨by rw [HR.out]; rfl, HB.out⟩
      · have HR : Hid (cutErr le mo bi = 1) := Lib.hid (by unfold cutErr; rw [if_pos (by omega)])
        go_enter Try.func12, Try.ntmps12
        go_wp2
        go_ret
        exact ⟨by rw [HR.out]; rfl, HB.out⟩
    · have HR : Hid (cutErr le mo bi = 1) := Lib.hid (by unfold cutErr; rw [if_pos (by omega)])
      go_enter Try.func12, Try.ntmps12
      go_wp2
      go_ret
      exact ⟨by rw [HR.out]; rfl, HB.out⟩
  · have HR : Hid (cutErr le mo bi = 1) := Lib.hid (by unfold cutErr; rw [if_pos (by omega)])
    go_enter Try.func12, Try.ntmps12
    go_wp2
    go_ret
    exact ⟨by rw [HR.out]; rfl, HB.out⟩

theorem weight_any (x : UInt8) (w : World) :
    Calls Try.prog 17 #[.int .u8 (x.toNat : Int)] w fun e w' => e = .returned (.int .u64 (IntKind.u64.wrap (11400714819323198485 * IntKind.u64.wrap (IntKind.u64.wrap (x.toNat : Int) + 1)))) ∧ w = w' := by
  generalize x.toNat = y
  go_enter Try.func17, Try.ntmps17
  go_wp2
  go_ret
  exact ⟨rfl, rfl⟩

theorem nat_zero (x : Nat) : ((x : Int) == 0) = decide (x = 0) := by by_cases h : x = 0 <;> simp [h]
theorem crare_any (s bits : Nat) (h0 : 1 ≤ bits) (hb : bits ≤ 64) (w : World) :
    Calls Try.prog 18 #[.int .u64 (s : Int), .int .i64 (bits : Int)] w fun e w' => e = .returned (.bool (rareC bits s)) ∧ w = w' := by
  have hsub := IntWalk.i64_in (64 - (bits : Int)) (by omega)
  go_enter Try.func18, Try.ntmps18
  have HE : Hid (((s : Int) / 2 ^ (64 - bits) == 0) = rareC bits s) := Lib.hid (by
    unfold rareC
    rw [show ((s : Int) / 2 ^ (64 - bits)) = ((s / 2 ^ (64 - bits) : Nat) : Int) by simp, nat_zero]
    exact decide_eq_decide.2 (div_pow_zero s _))
  go_wp2_with fail
  go_ret
  exact ⟨by rw [← HE.out]; rfl, rfl⟩

theorem scanC_go {c : Cfg} {b : List UInt8} {n : Nat} (h : n < b.length) (h1 : n + 1 ≠ c.most) (h2 : (decide (c.least ≤ n + 1) && rareC c.bits (sumC (b.take (n + 1)))) = false) : scanC c b n = scanC c b (n + 1) := by
  by_cases h3 : n + 1 = b.length
  · rw [scanC_stop h (by unfold stopC; rw [show (n + 1 == b.length) = true by simpa using h3]; simp), scanC_end (by omega)]
  · exact scanC_next h (by unfold stopC; rw [show (n + 1 == b.length) = false by simpa using h3, show (n + 1 == c.most) = false by simpa using h1, h2]; rfl)
theorem scanC_hit {c : Cfg} {b : List UInt8} {n : Nat} (h : n < b.length) (h2 : n + 1 = c.most ∨ (decide (c.least ≤ n + 1) && rareC c.bits (sumC (b.take (n + 1)))) = true) : scanC c b n = n + 1 := by
  refine scanC_stop h ?_
  unfold stopC
  rcases h2 with h2 | h2
  · rw [show (n + 1 == c.most) = true by simpa using h2]; simp
  · rw [h2]; simp
def RFi (c : Cfg) (b : List UInt8) (w1 : World) (n s : Value) (wr : World) : Prop :=
  ∃ (n' s' : Nat), n' ≤ b.length ∧ s' = sumC (b.take n') ∧ pieceC c b = scanC c b n' ∧ n = .int .i64 (n' : Int) ∧ s = .int .u64 (s' : Int) ∧ wr = w1
set_option maxHeartbeats 2000000 in
theorem first_any {w : World} {S : Nat → Prop} {A : Option Addr} {N C : Nat} {b : List UInt8} (h : Byt w S A N C b) (hn : N ≤ 1000000) (c : Cfg) (hc : c.Ok) :
    Calls Try.prog 13 #[.slice A N C, .agg #[.int .i64 (c.least : Int), .int .i64 (c.most : Int), .int .i64 (c.bits : Int)]] w fun e w' => e = .returned (.int .i64 (pieceC c b : Int)) ∧ Below w.heap.size w w' := by
  have hbel : Below w.heap.size w (w.alloc (.cells #[.int .i64 (c.least : Int), .int .i64 (c.most : Int), .int .i64 (c.bits : Int)] 24)) := (Below.refl _ _).alloc (Nat.le_refl _) _
  have hnew := heap_alloc_new w (.cells #[.int .i64 (c.least : Int), .int .i64 (c.most : Int), .int .i64 (c.bits : Int)] 24)
  have H := Lib.hid (And.intro (h.below hbel) (And.intro hbel (And.intro (fun (_ : Unit) => h.len) hc)))
  have hc0 : (w.alloc (.cells #[.int .i64 (c.least : Int), .int .i64 (c.most : Int), .int .i64 (c.bits : Int)] 24)).cell? ⟨w.heap.size, 0, none⟩ = some (.int .i64 (c.least : Int)) := cell_of_cells hnew 0
  have hc1 : (w.alloc (.cells #[.int .i64 (c.least : Int), .int .i64 (c.most : Int), .int .i64 (c.bits : Int)] 24)).cell? ⟨w.heap.size, 1, none⟩ = some (.int .i64 (c.most : Int)) := cell_of_cells hnew 1
  have hc2 : (w.alloc (.cells #[.int .i64 (c.least : Int), .int .i64 (c.most : Int), .int .i64 (c.bits : Int)] 24)).cell? ⟨w.heap.size, 2, none⟩ = some (.int .i64 (c.bits : Int)) := cell_of_cells hnew 2
  have HN := Lib.hid hn
  clear h hc hbel hnew hn
  go_enter Try.func13, Try.ntmps13
  go_wp2_with fail
  generalize w.alloc (.cells #[.int .i64 (c.least : Int), .int .i64 (c.most : Int), .int .i64 (c.bits : Int)] 24) = w1 at *
  go_wp2_with fail
  go_step3
  go_wp2_with fail
  go_step3
  go_wp2_with fail
  go_loopw [5, 6] (fun n s wr => RFi c b w1 n s wr) (fun n _ _ => b.length - (intOf n).toNat)
  case atStart => exact ⟨0, 0, Nat.zero_le _, by simp [sumC], rfl, rfl, rfl, rfl⟩
  case round =>
    obtain ⟨n', s', hle, hs', hp, rfl, rfl, rfl⟩ := hrel
    have hlen := H.out.2.2.1 ()
    have HP := Lib.hid (And.intro (fun (_ : Unit) => hs') hp)
    clear hs' hp
    by_cases hlt : n' < N
    · have hlt' : (n' : Int) < (N : Int) := by omega
      have hbl : n' < b.length := by omega
      obtain ⟨g, off, hA, _, _, hcel⟩ := H.out.1.row (by omega)
      subst hA
      have hcell := hcel n' hlt
      rw [List.getElem?_eq_getElem hbl, Option.getD_some] at hcell
      have hwe := weight_any b[n']
      generalize hXX : IntKind.u64.wrap (IntKind.u64.wrap (2 * (s' : Int)) + IntKind.u64.wrap (11400714819323198485 * IntKind.u64.wrap (IntKind.u64.wrap (b[n'].toNat : Int) + 1))) = XX
      obtain ⟨S1, hS1⟩ : ∃ S1, S1 = sumS s' (b[n']?.getD 0) := ⟨_, rfl⟩
      have hXS : XX = (S1 : Int) := by
        rw [hS1, ← hXX]
        exact sum_word s' b n' hbl
      subst hXS
      have hn1 := IntWalk.i64_in ((n' : Int) + 1) (by have := HN.out; omega)
      have HS1 : Hid (∀ _ : Unit, S1 = sumC (b.take (n' + 1))) := Lib.hid fun _ => by
        rw [hS1, List.take_succ_eq_append_getElem hbl, sumC_snoc, ← HP.out.1 (), List.getElem?_eq_getElem hbl, Option.getD_some]
      generalize IntKind.u64.wrap (11400714819323198485 * IntKind.u64.wrap (IntKind.u64.wrap (b[n'].toNat : Int) + 1)) = Y2 at hwe hXX
      generalize (b[n'].toNat : Int) = Y5 at hwe hcell
      generalize hY1 : IntKind.u64.wrap (2 * (s' : Int)) = Y1 at hXX
      have hra := crare_any S1 c.bits H.out.2.2.2.bits (by have := H.out.2.2.2.few; omega) wr
      obtain ⟨R, hR⟩ : ∃ R, R = rareC c.bits S1 := ⟨_, rfl⟩
      rw [← hR] at hra
      have HRR : Hid (∀ _ : Unit, R = rareC c.bits S1) := Lib.hid fun _ => hR
      have HLT := Lib.hid (And.intro hlt hbl)
      clear hR hS1 hlen hle hcel hlt hbl
      by_cases h1 : n' + 1 = c.most
      · have h1' : ((n' : Int) + 1 == (c.most : Int)) = true := by simp; omega
        have HE : Hid (n' + 1 = pieceC c b) := Lib.hid (by rw [HP.out.2, scanC_hit HLT.out.2 (.inl h1)])
        clear h1
        go_wp2_with (first
          | (go_at_call 17; refine (hwe _).mono ?_; clear hwe; rintro _ _ ⟨rfl, rfl⟩)
          | (go_at_call 18; refine hra.mono ?_; clear hra; rintro _ _ ⟨rfl, rfl⟩))
        rw [Exit.noGoto_ret]
        go_ret
        exact ⟨by rw [← HE.out]; rfl, H.out.2.1⟩
      · have h1' : ((n' : Int) + 1 == (c.most : Int)) = false := by simp; omega
        by_cases h3 : c.least ≤ n' + 1
        · have h3' : (c.least : Int) ≤ (n' : Int) + 1 := by omega
          have HT : Hid ((decide (c.least ≤ n' + 1) && rareC c.bits (sumC (b.take (n' + 1)))) = R) := Lib.hid (by rw [← HS1.out (), ← HRR.out ()]; simp [h3])
          have HM := Lib.hid h1
          clear h1 h3
          cases R
          · go_wp2_with (first
          | (go_at_call 17; refine (hwe _).mono ?_; clear hwe; rintro _ _ ⟨rfl, rfl⟩)
          | (go_at_call 18; refine hra.mono ?_; clear hra; rintro _ _ ⟨rfl, rfl⟩))
            go_roundw
            case rel => exact ⟨n' + 1, S1, HLT.out.2, HS1.out (), by rw [HP.out.2, scanC_go HLT.out.2 HM.out HT.out], by simp, rfl, rfl⟩
            case measure => simp only [intOf]; have := HLT.out; omega
          · have HE : Hid (n' + 1 = pieceC c b) := Lib.hid (by rw [HP.out.2, scanC_hit HLT.out.2 (.inr HT.out)])
            go_wp2_with (first
          | (go_at_call 17; refine (hwe _).mono ?_; clear hwe; rintro _ _ ⟨rfl, rfl⟩)
          | (go_at_call 18; refine hra.mono ?_; clear hra; rintro _ _ ⟨rfl, rfl⟩))
            rw [Exit.noGoto_ret]
            go_ret
            exact ⟨by rw [← HE.out]; rfl, H.out.2.1⟩
        · have h3' : ¬ (c.least : Int) ≤ (n' : Int) + 1 := by omega
          have HT : Hid (pieceC c b = scanC c b (n' + 1)) := Lib.hid (by rw [HP.out.2, scanC_go HLT.out.2 h1 (by simp [h3])])
          clear h1 h3
          go_wp2_with (first
          | (go_at_call 17; refine (hwe _).mono ?_; clear hwe; rintro _ _ ⟨rfl, rfl⟩)
          | (go_at_call 18; refine hra.mono ?_; clear hra; rintro _ _ ⟨rfl, rfl⟩))
          go_roundw
          case rel => exact ⟨n' + 1, S1, HLT.out.2, HS1.out (), HT.out, by simp, rfl, rfl⟩
          case measure => simp only [intOf]; have := HLT.out; omega
    · have hlt' : ¬ (n' : Int) < (N : Int) := by omega
      have HE : Hid (n' = pieceC c b) := Lib.hid (by rw [HP.out.2, scanC_end (by omega)])
      clear hlen hle hlt
      go_wp2_with fail
      go_ret
      exact ⟨by rw [← HE.out]; rfl, H.out.2.1⟩
end Go.Proofs.Ytcmdiclbbcdceaa
