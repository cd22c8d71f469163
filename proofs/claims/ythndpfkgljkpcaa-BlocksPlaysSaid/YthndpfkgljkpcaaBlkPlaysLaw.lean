/-
  The statement BlocksPlays: its walk, for every number of blocks.
-/
import Derived.Test.YthndpfkgljkpcaaBlkPlays
namespace Go.Proofs.Ythndpfkgljkpcaa
open Go.RowKit

set_option maxHeartbeats 4000000 in
set_option maxRecDepth 100000 in
theorem plays_many {w : World} {A : Option Addr} {ns cs : Nat} (n : Int) (h1 : 50 < n) (h2 : n ≤ 65536) :
    Calls Try.prog 3 #[.int .i64 n, .slice A ns cs] w fun e w' => e = .returned (.bool true) ∧ Below w.heap.size w w' := by
  have haw := bawake_true w
  go_enter Try.func3, Try.ntmps3
  go_wp2_with (go_at_call 7; refine haw.mono ?_; clear haw; rintro _ w1 ⟨rfl, hb1⟩)
  go_ret
  exact ⟨rfl, hb1⟩
set_option maxHeartbeats 4000000 in
set_option maxRecDepth 100000 in
theorem plays_none {w : World} {A : Option Addr} {ns cs : Nat} (n : Int) (h : n < 1 ∨ 65536 < n) :
    Calls Try.prog 3 #[.int .i64 n, .slice A ns cs] w fun e w' => e = .returned (.bool true) ∧ Below w.heap.size w w' := by
  have haw := bawake_true w
  have hnew := fun w1 : World => bnew_no n h w1
  have hm2 : newM n = (⟨[], 0, 0, false⟩, 1) := by rw [newM, if_pos h]
  have hrn := fun w2 : World => rbnew_any n w2
  rw [hm2] at hrn
  have HZ := Lib.hid zero_dm
  have hzd := zero_dm
  by_cases h50 : 50 < n
  · have hk : ¬ n ≤ 65536 := by omega
    clear h hm2
    go_enter Try.func3, Try.ntmps3
    go_wp2_with (first
      | (go_at_call 7; refine haw.mono ?_; clear haw; rintro _ w1 ⟨rfl, hb1⟩; have H1 := Lib.hid hb1; clear hb1)
      | (go_at_call 8; refine (hnew _).mono ?_; clear hnew; rintro _ w2 ⟨rfl, hb2⟩; have H2 := Lib.hid (H1.out.trans (hb2.mono H1.out.size)); clear hb2)
      | (go_at_call 9; refine (hrn _).mono ?_; clear hrn; rintro _ w3 ⟨A', n', c', rfl, _, hb3⟩; obtain ⟨VV, hVV⟩ : ∃ VV, VV = dmV (⟨[], 0, 0, false⟩ : DM) A' n' c' := ⟨_, rfl⟩; rw [← hVV]; have H3 := Lib.hid (And.intro (H2.out.trans (hb3.mono H2.out.size)) hVV); clear hb3 hVV)
      | (refine wpList_store_row (by rfl) 30 (.tmp 8) (.tmp 38) (by rfl) w3.heap.size VV (by rfl) (by rfl) 30 _ (heap_alloc_new w3 _) (by rw [H3.out.2]; exact dm_info) (by rw [H3.out.2]; rfl) (by rw [H3.out.2]; exact dm_one _ _ _ _ _ _) ?_))
    have H4 := Lib.hid (below_setRow (H3.out.1.alloc H3.out.1.size (.cells #[.slice none 0 0, .int .i64 0, .int .i64 0, .bool false] 30)) H3.out.1.size VV)
    generalize (w3.alloc (.cells #[.slice none 0 0, .int .i64 0, .int .i64 0, .bool false] 30)).setRow w3.heap.size VV = w4 at *
    clear HZ
    go_loopw [10] (fun i wr => i = .int .i64 0 ∧ wr = w4) (fun _ _ => 0)
    case atStart => exact ⟨rfl, rfl⟩
    case round =>
      obtain ⟨rfl, rfl⟩ := hrel
      by_cases hns : 0 < ns
      · have hns' : (0 : Int) < (ns : Int) := by omega
        clear hns
        go_wp2_with fail
        go_ret
        exact ⟨rfl, H4.out⟩
      · have hns' : ¬ (0 : Int) < (ns : Int) := by omega
        clear hns
        go_wp2_with fail
        go_ret
        exact ⟨rfl, H4.out⟩
  · have hk : ¬ 50 < n := h50
    clear h hm2 h50
    go_enter Try.func3, Try.ntmps3
    go_wp2_with (first
      | (go_at_call 7; refine haw.mono ?_; clear haw; rintro _ w1 ⟨rfl, hb1⟩; have H1 := Lib.hid hb1; clear hb1)
      | (go_at_call 8; refine (hnew _).mono ?_; clear hnew; rintro _ w2 ⟨rfl, hb2⟩; have H2 := Lib.hid (H1.out.trans (hb2.mono H1.out.size)); clear hb2)
      | (go_at_call 9; refine (hrn _).mono ?_; clear hrn; rintro _ w3 ⟨A', n', c', rfl, _, hb3⟩; obtain ⟨VV, hVV⟩ : ∃ VV, VV = dmV (⟨[], 0, 0, false⟩ : DM) A' n' c' := ⟨_, rfl⟩; rw [← hVV]; have H3 := Lib.hid (And.intro (H2.out.trans (hb3.mono H2.out.size)) hVV); clear hb3 hVV)
      | (refine wpList_store_row (by rfl) 30 (.tmp 8) (.tmp 38) (by rfl) w3.heap.size VV (by rfl) (by rfl) 30 _ (heap_alloc_new w3 _) (by rw [H3.out.2]; exact dm_info) (by rw [H3.out.2]; rfl) (by rw [H3.out.2]; exact dm_one _ _ _ _ _ _) ?_))
    have H4 := Lib.hid (below_setRow (H3.out.1.alloc H3.out.1.size (.cells #[.slice none 0 0, .int .i64 0, .int .i64 0, .bool false] 30)) H3.out.1.size VV)
    generalize (w3.alloc (.cells #[.slice none 0 0, .int .i64 0, .int .i64 0, .bool false] 30)).setRow w3.heap.size VV = w4 at *
    clear HZ
    go_loopw [10] (fun i wr => i = .int .i64 0 ∧ wr = w4) (fun _ _ => 0)
    case atStart => exact ⟨rfl, rfl⟩
    case round =>
      obtain ⟨rfl, rfl⟩ := hrel
      by_cases hns : 0 < ns
      · have hns' : (0 : Int) < (ns : Int) := by omega
        clear hns
        go_wp2_with fail
        go_ret
        exact ⟨rfl, H4.out⟩
      · have hns' : ¬ (0 : Int) < (ns : Int) := by omega
        clear hns
        go_wp2_with fail
        go_ret
        exact ⟨rfl, H4.out⟩
theorem walk_bplays {w : World} {A : Option Addr} {ns cs : Nat} {l : List BAct} (hacts : BActs w A ns cs l) (n : Int) :
    Calls Try.prog 3 #[.int .i64 n, .slice A ns cs] w fun e w' => e = .returned (.bool true) ∧ Below w.heap.size w w' := by
  by_cases h1 : 50 < n ∧ n ≤ 65536
  · exact plays_many n h1.1 h1.2
  · by_cases h2 : n < 1 ∨ 65536 < n
    · exact plays_none n h2
    · obtain ⟨k, rfl⟩ := Int.eq_ofNat_of_zero_le (show 0 ≤ n by omega)
      exact plays_run hacts k (by omega) (by omega)
end Go.Proofs.Ythndpfkgljkpcaa
