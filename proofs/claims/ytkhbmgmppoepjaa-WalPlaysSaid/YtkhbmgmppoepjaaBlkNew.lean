/-
  The reference's New; bytes out of a seed.
-/
import Derived.Test.YtkhbmgmppoepjaaBlkWrite
import Derived.Test.YtkhbmgmppoepjaaMade
namespace Go.Proofs.Ytkhbmgmppoepjaa
open Go.RowKit

def zero128 : List UInt8 := List.replicate 128 0
def newM (k : Int) : DM × Int := if k < 1 ∨ 65536 < k then (⟨[], 0, 0, false⟩, 1) else (⟨List.replicate k.toNat zero128, -1, 0, false⟩, 0)
def RNw (w1 : World) (k : Nat) (v i : Value) (wr : World) : Prop := ∃ j : Nat, j ≤ k ∧ i = .int .i64 (j : Int) ∧ wr.ownsRow w1.heap.size 9 1 v j (strs (List.replicate j zero128)) ∧ Below w1.heap.size w1 wr
theorem st_zero128 : (⟨(List.replicate 128 (0 : UInt8)).toArray⟩ : ByteArray) = st zero128 := rfl

set_option maxHeartbeats 4000000 in
theorem rbnew_ok (k : Nat) (h1 : 1 ≤ k) (h2 : k ≤ 65536) (w : World) :
    Calls Try.prog 11 #[.int .i64 (k : Int)] w fun e w' => ∃ A' c', e = .returned (.tuple #[.agg #[.slice A' k c', .int .i64 (-1), .int .i64 0, .bool false], .int .i64 0]) ∧ Strs w' (w.heap.size ≤ ·) A' k c' (List.replicate k zero128) ∧ Below w.heap.size w w' := by
  have hz := zero_dm
  obtain ⟨i0, hi, hz0, hz1, hz2⟩ := info_parts str_info2
  have HI := Lib.hid (And.intro hi (And.intro hz0 (And.intro hz1 hz2)))
  have h3 : ¬ (k : Int) < 1 := by omega
  have h4 : ¬ (65536 : Int) < (k : Int) := by omega
  obtain ⟨w1, hw1⟩ : ∃ w1, w.alloc (.cells #[.slice none 0 0, .int .i64 0, .int .i64 0, .bool false] 31) = w1 := ⟨_, rfl⟩
  have H1 : Hid (Below w.heap.size w w1 ∧ w1.heap[w.heap.size]? = some (.cells #[.slice none 0 0, .int .i64 0, .int .i64 0, .bool false] 31 (0, 0)) ∧ 1 ≤ k ∧ k ≤ 65536) := Lib.hid ⟨by rw [← hw1]; exact (Below.refl _ _).alloc (Nat.le_refl _) _, by rw [← hw1]; exact heap_alloc_new w _, h1, h2⟩
  clear hi hz0 hz1 hz2 h1 h2
  go_enter Try.func11, Try.ntmps11
  go_wp2_with fail
  try rw [hw1]
  clear hw1
  go_loopw [4, 5] (fun v i wr => RNw w1 k v i wr) (fun _ i _ => k - (intOf i).toNat)
  case atStart => exact ⟨0, Nat.zero_le _, rfl, World.ownsRow_nil _ _ _ _, Below.refl _ _⟩
  case round =>
    obtain ⟨j, hj, rfl, hown, hbr⟩ := hrel
    have HR := Lib.hid (And.intro hj (And.intro hown hbr))
    by_cases hlt : j < k
    · have hlt' : (j : Int) < (k : Int) := by omega
      have hmk : (Instr.makeSlice 41 (.int .i64 128) (.int .i64 128)).run Try.prog wr = _ := make_bytes wr 128 (by omega)
      have hcv := byt_string (byt_new (w := wr) (List.replicate 128 0) 5 (0, 0) (by simp))
      have hbm : Below wr.heap.size wr (wr.alloc (.cells (u8s (List.replicate 128 0)).toArray 5)) := (Below.refl _ _).alloc (Nat.le_refl _) _
      simp only [List.length_replicate] at hcv
      have hcv2 : (convert 41 9 (.slice (some ⟨wr.heap.size, 0, none⟩) 128 128)).run Try.prog (wr.alloc (.cells (u8s (List.replicate 128 0)).toArray 5)) = .ok (.string (st zero128)) (wr.alloc (.cells (u8s (List.replicate 128 0)).toArray 5)) := hcv
      have HM := Lib.hid hbm
      have hadd := IntWalk.i64_in ((j : Int) + 1) (by have := H1.out.2.2.2; omega)
      clear hj hown hbr hcv hbm
      generalize wr.alloc (.cells (u8s (List.replicate 128 0)).toArray 5) = wm at *
      have HO := Lib.hid (own_below HR.out.2.1 HM.out)
      have HBM := Lib.hid (HR.out.2.2.trans (HM.out.mono HR.out.2.2.size))
      go_wp2_with (at_builtin; refine wpList_append_own_at _ rfl _ _ 29 rfl w1.heap.size 9 i0 (.string ByteArray.empty) 1 16 Try.underlying29 HI.out.1 HI.out.2.1 HI.out.2.2.1 HI.out.2.2.2 rfl (by decide) _ j (strs (List.replicate j zero128)) rfl (HO.out.alloc _) ⟨wm.heap.size, 0, none⟩ 1 1 [.string (st zero128)] rfl rfl (cell_one_new _ _ _) (one_of rfl) (by have := H1.out.2.2.2; unfold maxLen; omega) (by have := H1.out.2.2.2; omega) (by have := HBM.out.size; simp; omega) ?_)
      intro v' w2 hown2 hgrow _ _
      have hlt2 := HO.out.lt
      have hsz := HBM.out.size
      have HB2 : Hid (Below w1.heap.size w1 w2) := Lib.hid ((HBM.out.alloc hsz _).grown hgrow (by simp; omega) (fun b hb => (hlt2 b hb).1))
      have HO2 : Hid (w2.ownsRow w1.heap.size 9 1 v' (j + 1) (strs (List.replicate (j + 1) zero128))) := Lib.hid (by
        rw [List.replicate_succ', strs, List.map_append]
        exact hown2)
      clear hown2 hgrow hlt2 hsz
      go_wp2_with fail
      go_roundw
      case rel => unfold RNw; exact ⟨j + 1, by omega, by simp, HO2.out, HB2.out⟩
      case measure => simp only [intOf]; omega
    · have hlt' : ¬ (j : Int) < (k : Int) := by omega
      obtain rfl : j = k := by omega
      obtain ⟨A', c', rfl, hs⟩ := own_strs hown
      have hx := (hbr.block _ (lt_of_cells H1.out.2.1)).trans H1.out.2.1
      have HF := Lib.hid (And.intro hs (And.intro hx (H1.out.1.trans (hbr.mono H1.out.1.size))))
      clear hj hown hbr hs hx
      go_wp2_with (refine wpList_store_row (by rfl) 31 (.tmp 2) (.tmp 24) (by rfl) w.heap.size #[.slice A' j c', .int .i64 (-1), .int .i64 0, .bool false] (by rfl) (by rfl) 31 _ HF.out.2.1 dm_info rfl (dm_one _ _ _ _ _ _) ?_)
      (try simp only [Exit.inBlock, Exit.then])
      refine bodyPost_ret (dm_result2 (p := 2) (u := 3) rfl _ _ w.heap.size (.slice A' j c') (.int .i64 (-1)) (.int .i64 0) (.bool false) rfl (setRow_at HF.out.2.1)) rfl ?_
      refine ⟨_, _, rfl, ?_, below_setRow HF.out.2.2 (Nat.le_refl _) _⟩
      exact (HF.out.1.turned (turned_setRow _) (fun q _ h1 h2 => by have := lt_of_cells H1.out.2.1; omega)).mono fun q _ h1 => by have := H1.out.1.size; omega
set_option maxHeartbeats 1000000 in
theorem rbnew_no (k : Int) (h : k < 1 ∨ 65536 < k) (w : World) :
    Calls Try.prog 11 #[.int .i64 k] w fun e w' => e = .returned (.tuple #[.agg #[.slice none 0 0, .int .i64 0, .int .i64 0, .bool false], .int .i64 1]) ∧ Below w.heap.size w w' := by
  have hz := zero_dm
  have hg := heap_alloc_new w (.cells #[.slice none 0 0, .int .i64 0, .int .i64 0, .bool false] 31)
  have HG := Lib.hid (And.intro hg ((Below.refl w.heap.size w).alloc (Nat.le_refl _) (.cells #[.slice none 0 0, .int .i64 0, .int .i64 0, .bool false] 31)))
  clear hg
  by_cases h1 : k < 1
  · clear h
    go_enter Try.func11, Try.ntmps11
    go_wp2_with (refine wpList_store_row (by rfl) 31 (.tmp 2) (.tmp 12) (by rfl) w.heap.size #[.slice none 0 0, .int .i64 0, .int .i64 0, .bool false] (by rfl) (by rfl) 31 _ HG.out.1 dm_info rfl (dm_one _ _ _ _ _ _) ?_)
    (try simp only [Exit.inBlock, Exit.then])
    refine bodyPost_ret (dm_result2 (p := 2) (u := 3) rfl _ _ w.heap.size (.slice none 0 0) (.int .i64 0) (.int .i64 0) (.bool false) rfl (setRow_at HG.out.1)) rfl ?_
    exact ⟨rfl, below_setRow HG.out.2 (Nat.le_refl _) _⟩
  · have h2 : 65536 < k := h.resolve_left h1
    clear h
    go_enter Try.func11, Try.ntmps11
    go_wp2_with (refine wpList_store_row (by rfl) 31 (.tmp 2) (.tmp 12) (by rfl) w.heap.size #[.slice none 0 0, .int .i64 0, .int .i64 0, .bool false] (by rfl) (by rfl) 31 _ HG.out.1 dm_info rfl (dm_one _ _ _ _ _ _) ?_)
    (try simp only [Exit.inBlock, Exit.then])
    refine bodyPost_ret (dm_result2 (p := 2) (u := 3) rfl _ _ w.heap.size (.slice none 0 0) (.int .i64 0) (.int .i64 0) (.bool false) rfl (setRow_at HG.out.1)) rfl ?_
    exact ⟨rfl, below_setRow HG.out.2 (Nat.le_refl _) _⟩
theorem rbnew_any (k : Int) (w : World) :
    Calls Try.prog 11 #[.int .i64 k] w fun e w' => ∃ A' n' c', e = .returned (.tuple #[.agg (dmV (newM k).1 A' n' c'), .int .i64 (newM k).2]) ∧ Strs w' (w.heap.size ≤ ·) A' n' c' (newM k).1.l ∧ Below w.heap.size w w' := by
  by_cases h : k < 1 ∨ 65536 < k
  · have e : newM k = (⟨[], 0, 0, false⟩, 1) := by rw [newM, if_pos h]
    rw [e]
    refine (rbnew_no k h w).mono ?_
    rintro _ w' ⟨rfl, hb⟩
    exact ⟨none, 0, 0, rfl, Strs.nil _ _ _ _ (Nat.zero_le _), hb⟩
  · obtain ⟨j, rfl⟩ := Int.eq_ofNat_of_zero_le (show 0 ≤ k by omega)
    have e : newM (j : Int) = (⟨List.replicate j zero128, -1, 0, false⟩, 0) := by rw [newM, if_neg h]; rfl
    rw [e]
    refine (rbnew_ok j (by omega) (by omega) w).mono ?_
    rintro _ w' ⟨A', c', rfl, h1, h2⟩
    exact ⟨A', j, c', rfl, h1, h2⟩
theorem newM_ok (k : Int) : (newM k).1.Ok := by
  unfold newM
  split
  · exact ⟨fun x hx => absurd hx (by simp), by simp, by simp⟩
  · exact ⟨fun x hx => by rw [List.eq_of_mem_replicate hx]; rfl, by simp, by simp⟩
end Go.Proofs.Ytkhbmgmppoepjaa
