/-
  The statement BagAges: its walk.
-/
import Derived.Test.YtogfblfekedefaaBagAwake
namespace Go.Proofs.Ytogfblfekedefaa
open Go.RowKit

def ba0 (j : Nat) : Bm := ⟨0, 0, [], j⟩
/-- What is in the bag behind j ticks. -/
def baL (M j : Nat) : List Bm := if j ≤ M then [ba0 j] else []
theorem ba_tick (M j : Nat) : tickB M (baL M j) = baL M (j + 1) := by
  unfold baL tickB ba0
  by_cases h : j + 1 ≤ M
  · rw [if_pos (by omega), if_pos h]
    simp [h]
  · rw [if_neg h]
    split
    · simp; omega
    · rfl
def RBa (w : World) (p M N : Nat) (i : Value) (wr : World) : Prop := ∃ j : Nat, j ≤ N ∧ i = .int .i64 (j : Int) ∧ Bgs wr (w.heap.size ≤ ·) p 1 (baL M j) ∧ Below w.heap.size w wr
theorem mg_built : Try.prog.built 31 [] = some (mgV 0 0 none 0 0) := by kernel_rfl
set_option maxHeartbeats 8000000 in
set_option maxRecDepth 100000 in
theorem walk_bages {w : World} (x y : Nat) : Calls Try.prog 5 #[.int .u8 (x : Int), .int .u8 (y : Int)] w fun e w' => e = .returned (.bool true) ∧ Below w.heap.size w w' := by
  have haw := bagawake_true w
  obtain ⟨N, hN⟩ : ∃ N, N = x % 60 := ⟨_, rfl⟩
  obtain ⟨M, hM⟩ : ∃ M, M = y % 40 := ⟨_, rfl⟩
  have hx : (x : Int) % 60 = (N : Int) := by omega
  have hy : (y : Int) % 40 = (M : Int) := by omega
  have HN := Lib.hid (show N < 60 ∧ M < 40 by omega)
  have hwN : IntKind.i64.wrap (N : Int) = (N : Int) := IntWalk.i64_in _ (by omega)
  have hwM : IntKind.i64.wrap (M : Int) = (M : Int) := IntWalk.i64_in _ (by omega)
  clear hN hM
  go_enter Try.func5, Try.ntmps5
  go_upto_region 4 with (go_at_call 7; refine haw.mono ?_; clear haw; rintro _ w1 ⟨rfl, hb1⟩)
  have hnew := bgnew_ok w1 1 (by omega) (by omega)
  have HB1 := Lib.hid hb1
  clear hb1
  go_upto_region 5 with (go_at_call 8; refine hnew.mono ?_; clear hnew; rintro _ w2 ⟨p, rfl, hg2, hb2⟩)
  have hput := bgput_any hg2 (A := none) (n := 0) (c := 0) (U := fun _ => False) (b := []) (Byt.nil _ _ _ _ (Nat.zero_le _)) (fun _ _ h => h.elim) 0 0 (by omega)
  rw [show putB 1 [] ⟨0, 0, [], 0⟩ = ([ba0 0], 0) from rfl] at hput
  have HB2 := Lib.hid (And.intro (HB1.out.trans (hb2.mono HB1.out.size)) HB1.out.size)
  clear hg2 hb2
  obtain ⟨Z0, hZ0⟩ : ∃ Z0, Z0 = mgV 0 0 none 0 0 := ⟨_, rfl⟩
  have HZ0 := Lib.hid hZ0
  clear hZ0
  go_upto_region 6 with (first
    | (refine wpList_built (by rfl) 31 #[] (by rfl) [] (by simp) (mgV 0 0 none 0 0) mg_built ?_)
    | (go_at_call 9; refine hput.mono ?_; clear hput; rintro _ w3 ⟨rfl, hg3, ht3⟩))
  have H3 : Hid (RBa w p M N (.int .i64 0) w3) := Lib.hid ⟨0, Nat.zero_le _, rfl, by unfold baL; rw [if_pos (Nat.zero_le _)]; exact hg3.mono fun k _ h => by have h1 := HB2.out.2; have h2 := HB2.out.1.size; rcases h with h | h <;> omega, HB2.out.1.trans ((ht3.mono (T := fun k => w.heap.size ≤ k) fun k _ h => Nat.le_trans HB2.out.2 h).below HB2.out.1.size)⟩
  clear hg3 ht3 HB1 HB2 HZ0
  go_wp2_with fail
  go_loopw [9] (fun i wr => RBa w p M N i wr) (fun i _ => N - (intOf i).toNat)
  case atStart => exact H3.out
  case round =>
    obtain ⟨j, hj, rfl, hg, hbel⟩ := hrel
    clear H3
    by_cases hlt : j < N
    · have hlt' : (j : Int) < (N : Int) := by omega
      have hadd := IntWalk.i64_in ((j : Int) + 1) (by have := HN.out; omega)
      have htc := bgtick_any hg (by unfold baL; split <;> simp [ba0]; have := HN.out; omega) (M : Int)
      rw [show ((M : Int)).toNat = M from rfl, ba_tick] at htc
      have HJ := Lib.hid (And.intro hbel hlt)
      clear hg hbel hlt hj
      have hle : (((baL M j).length : Int) - ((baL M (j + 1)).length : Int)) = if j = M then 1 else 0 := by
        unfold baL
        by_cases h1 : j = M
        · rw [if_pos h1, if_pos (by omega), if_neg (by omega)]; rfl
        · rw [if_neg h1]
          by_cases h2 : j ≤ M
          · rw [if_pos h2, if_pos (by omega)]; rfl
          · rw [if_neg h2, if_neg (by omega)]; rfl
      rw [hle] at htc
      clear hle
      by_cases hjm : j = M
      · rw [if_pos hjm] at htc
        have hjm' : ((j : Int) == (M : Int)) = true := by rw [beq_iff_eq]; omega
        have HJM := Lib.hid hjm
        clear hjm
        go_wp2_with (go_at_call 14; refine htc.mono ?_; clear htc; rintro _ w4 ⟨rfl, hg4, ht4⟩; have H4 := Lib.hid (And.intro hg4 ht4); clear hg4 ht4)
        go_roundw
        case rel => exact ⟨j + 1, by have := HJ.out.2; omega, by simp, H4.out.1.mono fun k _ h => by have := HJ.out.1.size; rcases h with h | h <;> omega, HJ.out.1.trans (H4.out.2.below HJ.out.1.size)⟩
        case measure => simp only [intOf]; have := HJ.out.2; omega
      · rw [if_neg hjm] at htc
        have hjm' : ((j : Int) == (M : Int)) = false := beq_eq_false_iff_ne.2 (by omega)
        have HJM := Lib.hid hjm
        clear hjm
        go_wp2_with (go_at_call 14; refine htc.mono ?_; clear htc; rintro _ w4 ⟨rfl, hg4, ht4⟩; have H4 := Lib.hid (And.intro hg4 ht4); clear hg4 ht4)
        go_roundw
        case rel => exact ⟨j + 1, by have := HJ.out.2; omega, by simp, H4.out.1.mono fun k _ h => by have := HJ.out.1.size; rcases h with h | h <;> omega, HJ.out.1.trans (H4.out.2.below HJ.out.1.size)⟩
        case measure => simp only [intOf]; have := HJ.out.2; omega
    · have hlt' : ¬ (j : Int) < (N : Int) := by omega
      obtain rfl : j = N := by omega
      have hln := bglen_any hg
      have HB := Lib.hid hbel
      by_cases hjm : j ≤ M
      · have hl1 : (baL M j).length = 1 := by unfold baL; rw [if_pos hjm]; rfl
        rw [hl1] at hln
        have hc : ¬ (M : Int) < (j : Int) := by omega
        have hcn : decide (M < j) = false := decide_eq_false (by omega)
        clear hl1 hg hbel hjm hlt hj
        go_wp2_with (go_at_call 16; refine hln.mono ?_; clear hln; rintro _ wl ⟨rfl, hbl⟩; have HBL := Lib.hid (HB.out.trans (hbl.mono HB.out.size)); clear hbl)
        go_ret
        exact ⟨rfl, HBL.out⟩
      · have hl1 : (baL M j).length = 0 := by unfold baL; rw [if_neg hjm]; rfl
        rw [hl1] at hln
        have hc : (M : Int) < (j : Int) := by omega
        have hcn : decide (M < j) = true := decide_eq_true (by omega)
        clear hl1 hg hbel hjm hlt hj
        go_wp2_with (go_at_call 16; refine hln.mono ?_; clear hln; rintro _ wl ⟨rfl, hbl⟩; have HBL := Lib.hid (HB.out.trans (hbl.mono HB.out.size)); clear hbl)
        go_ret
        exact ⟨rfl, HBL.out⟩
theorem law_bages {x y : Int} (hx : (Lit.int .u8 x).wf = true) (hy : (Lit.int .u8 y).wf = true) {w : World} : Calls Try.prog 5 #[.int .u8 x, .int .u8 y] w fun e w' => e = .returned (.bool true) ∧ Below w.heap.size w w' := by
  have bx := bounds_u8 hx
  have bY := bounds_u8 hy
  obtain ⟨x, rfl⟩ := Int.eq_ofNat_of_zero_le bx.1
  obtain ⟨y, rfl⟩ := Int.eq_ofNat_of_zero_le bY.1
  exact walk_bages x y
end Go.Proofs.Ytogfblfekedefaa
