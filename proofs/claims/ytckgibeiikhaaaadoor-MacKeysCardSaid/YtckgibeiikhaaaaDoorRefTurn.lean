/-
  The reference: turn, numbers.
-/
import Derived.Test.YtckgibeiikhaaaaDoorRefSha
import Derived.Test.YtckgibeiikhaaaaDoorShaMix
import Derived.Test.YtckgibeiikhaaaaDoorShaOf
namespace Go.Proofs.YtckgibeiikhaaaaDoor
open Go.RowKit

set_option maxHeartbeats 1000000 in
theorem rturn_any (x : BitVec 32) (r : Int) (h0 : 0 ≤ r) (h : r < 31) (w : World) :
    Calls Tryd.prog 23 #[.int .u32 (nv x), .int .i64 r] w fun e w' => e = .returned (.int .u32 (nv (rotr x r.toNat))) ∧ w = w' := by
  go_enter Tryd.func23, Tryd.ntmps23
  go_wp2_with fail
  go_loop [0, 5] (fun v i => ∃ k : Nat, (k : Int) ≤ r ∧ i = .int .i64 k ∧ v = .int .u32 (nv (rotr x k))) (fun _ i => (r - intOf i).toNat)
  case atStart => exact ⟨0, by omega, rfl, by rw [rotr_zero]⟩
  case round =>
    obtain ⟨k, hk, rfl, rfl⟩ := hrel
    by_cases hlt : (k : Int) < r
    · have HN := Lib.hid (nv_half x k (by omega))
      have n1 := W32.nn (rotr x k)
      have hm := W32.mod_ (rotr x (k + 1))
      generalize hy : rotr x k = y at *
      go_wp2
      go_round
      case rel =>
        refine ⟨k + 1, by omega, by go_num, ?_⟩
        have h1 := HN.out
        have h2 := W32.lt y
        have h3 := W32.lt (rotr x (k + 1))
        have h4 : (nv y).tdiv 2 = nv y / 2 := Int.tdiv_eq_ediv_of_nonneg n1
        rw [h4, Int.emod_eq_of_lt (show 0 ≤ nv y / 2 by omega) (show nv y / 2 < 4294967296 by omega), h1, hm]
      case measure => simp [intOf]; omega
    · have hkr : (k : Int) = r := by omega
      have HK : Hid (k = r.toNat) := Lib.hid (by omega)
      clear hk
      go_wp2
      go_ret
      exact ⟨by rw [← HK.out]; rfl, rfl⟩

def kVals : List (Nat × Value) := [(0, .int .u32 1116352408), (1, .int .u32 1899447441), (2, .int .u32 3049323471), (3, .int .u32 3921009573), (4, .int .u32 961987163), (5, .int .u32 1508970993), (6, .int .u32 2453635748), (7, .int .u32 2870763221), (8, .int .u32 3624381080), (9, .int .u32 310598401), (10, .int .u32 607225278), (11, .int .u32 1426881987), (12, .int .u32 1925078388), (13, .int .u32 2162078206), (14, .int .u32 2614888103), (15, .int .u32 3248222580), (16, .int .u32 3835390401), (17, .int .u32 4022224774), (18, .int .u32 264347078), (19, .int .u32 604807628), (20, .int .u32 770255983), (21, .int .u32 1249150122), (22, .int .u32 1555081692), (23, .int .u32 1996064986), (24, .int .u32 2554220882), (25, .int .u32 2821834349), (26, .int .u32 2952996808), (27, .int .u32 3210313671), (28, .int .u32 3336571891), (29, .int .u32 3584528711), (30, .int .u32 113926993), (31, .int .u32 338241895), (32, .int .u32 666307205), (33, .int .u32 773529912), (34, .int .u32 1294757372), (35, .int .u32 1396182291), (36, .int .u32 1695183700), (37, .int .u32 1986661051), (38, .int .u32 2177026350), (39, .int .u32 2456956037), (40, .int .u32 2730485921), (41, .int .u32 2820302411), (42, .int .u32 3259730800), (43, .int .u32 3345764771), (44, .int .u32 3516065817), (45, .int .u32 3600352804), (46, .int .u32 4094571909), (47, .int .u32 275423344), (48, .int .u32 430227734), (49, .int .u32 506948616), (50, .int .u32 659060556), (51, .int .u32 883997877), (52, .int .u32 958139571), (53, .int .u32 1322822218), (54, .int .u32 1537002063), (55, .int .u32 1747873779), (56, .int .u32 1955562222), (57, .int .u32 2024104815), (58, .int .u32 2227730452), (59, .int .u32 2361852424), (60, .int .u32 2428436474), (61, .int .u32 2756734187), (62, .int .u32 3204031479), (63, .int .u32 3329325298)]
theorem build_tab : (Tryd.prog.built 51 kVals) = some (u32s kTab).toArray := by unfold kVals; kernel_rfl
def zeros64 : Array Value := (u32s (List.replicate 64 0)).toArray
theorem tab_info : (Tryd.prog.info? 51).map (·.size) = some 64 := by kernel_rfl
theorem zero_tab : ∀ W, (zeroValue 51).run Tryd.prog W = .ok (.agg zeros64) W := fun W => by unfold zeros64; kernel_rfl

set_option maxHeartbeats 1000000 in
set_option maxRecDepth 100000 in
theorem numbers_any (w : World) :
    Calls Tryd.prog 21 #[] w fun e w' => e = .returned (.agg (u32s kTab).toArray) ∧ Below w.heap.size w w' := by
  have hz := zero_tab
  go_enter Tryd.func21, Tryd.ntmps21
  have HG := Lib.hid (heap_alloc_new w (.cells zeros64 51))
  have HK := Lib.hid (And.intro (show (u32s kTab).toArray.size = 64 by rfl) (all_oneCell_toArray (u32s_one kTab)))
  obtain ⟨RS, hRS⟩ : ∃ RS, RS = (u32s kTab).toArray := ⟨_, rfl⟩
  have hb := build_tab
  rw [← hRS] at HK hb
  have HB := Lib.hid (And.intro hb hRS)
  clear hb hRS
  go_wp2_with (first | (refine wpList_built (by rfl) 51 _ (by rfl) kVals (by unfold kVals; simp [Act.eval]) RS HB.out.1 ?_) | (refine wpList_store_row (by rfl) 51 (.tmp 0) (.tmp 1) (by rfl) w.heap.size RS (by rfl) (by rfl) 51 _ HG.out (by rw [HK.out.1]; exact tab_info) (by rw [HK.out.1]; rfl) HK.out.2 ?_))
  refine bodyPost_ret (results_cell_row rfl _ _ w.heap.size 51 RS (0, 0) _ rfl (setRow_at HG.out) Tryd.underlying51 rfl (by rw [HK.out.1]; exact tab_info)) rfl ⟨by rw [HB.out.2], below_setRow ((Below.refl _ _).alloc (Nat.le_refl _) _) (Nat.le_refl _) _⟩
end Go.Proofs.YtckgibeiikhaaaaDoor
