/-
  digest.sum.told: the bytes of the numbers.
-/
import Derived.Test.YtckgibeiikhaaaaDoorShaMix
namespace Go.Proofs.YtckgibeiikhaaaaDoor
open Go.RowKit

/-- The byte k of the numbers, the highest one of each first. -/
def toldAt (H : List (BitVec 32)) (k : Nat) : UInt8 := UInt8.ofNat ((H[k / 4]?.getD 0).toNat / 2 ^ (8 * (3 - k % 4)))
def toldA (H : List (BitVec 32)) : Nat → List UInt8
  | 0 => List.replicate 32 0
  | k + 1 => (toldA H k).set k (toldAt H k)
theorem toldA_length (H : List (BitVec 32)) : ∀ k, (toldA H k).length = 32
  | 0 => by simp [toldA]
  | k + 1 => by simp [toldA, toldA_length H k]
theorem u8s_set (l : List UInt8) (i : Nat) (x : UInt8) : (u8s l).set i (.int .u8 (x.toNat : Int)) = u8s (l.set i x) := by simp [u8s, List.map_set]
theorem u8s_cells_set {w : World} {p : Nat} {l : List UInt8} {t : TypeId} (h : w.heap[p]? = some (.cells (u8s l).toArray t (0, 0))) (i : Nat) (x : UInt8) :
    (w.setCell ⟨p, i, none⟩ (.int .u8 (x.toNat : Int))).heap[p]? = some (.cells (u8s (l.set i x)).toArray t (0, 0)) := by
  rw [set_of_cells h, ← u8s_set]
  simp
theorem u8s_cell {w : World} {p : Nat} {l : List UInt8} {t : TypeId} (h : w.heap[p]? = some (.cells (u8s l).toArray t (0, 0))) (i : Nat) (hi : i < l.length) :
    w.cell? ⟨p, i, none⟩ = some (.int .u8 ((l[i]?.getD 0).toNat : Int)) := by
  rw [cell_of_cells h, List.getElem?_toArray]
  simp [u8s, List.getElem?_map, List.getElem?_eq_getElem hi]
theorem zeros32 : #[Value.int .u8 0, .int .u8 0, .int .u8 0, .int .u8 0, .int .u8 0, .int .u8 0, .int .u8 0, .int .u8 0, .int .u8 0, .int .u8 0, .int .u8 0, .int .u8 0, .int .u8 0, .int .u8 0, .int .u8 0, .int .u8 0,
    .int .u8 0, .int .u8 0, .int .u8 0, .int .u8 0, .int .u8 0, .int .u8 0, .int .u8 0, .int .u8 0, .int .u8 0, .int .u8 0, .int .u8 0, .int .u8 0, .int .u8 0, .int .u8 0, .int .u8 0, .int .u8 0] = (u8s (List.replicate 32 0)).toArray := by rfl
theorem id_info : (Tryd.prog.info? 27).map (·.size) = some 32 := by kernel_rfl

theorem told_byte (x : BitVec 32) (e : Nat) : (nv x / 2 ^ e) % 256 = (((UInt8.ofNat (x.toNat / 2 ^ e)).toNat : Nat) : Int) := by
  unfold nv
  have h : ((x.toNat : Int) / 2 ^ e) = ((x.toNat / 2 ^ e : Nat) : Int) := by simp
  rw [h]
  simp

set_option maxHeartbeats 2000000 in
set_option maxRecDepth 100000 in
theorem told_any {w : World} {p : Nat} {H : List (BitVec 32)} {b : List UInt8} {hv al : Nat} (hs : Sum w p H b hv al) :
    Calls Tryd.prog 26 #[.pointer (some ⟨p, 0, none⟩)] w fun e w' => e = .returned (.agg (u8s (toldA H 32)).toArray) ∧ Below w.heap.size w w' := by
  have HS := Lib.hid hs
  clear hs
  go_enter Tryd.func26, Tryd.ntmps26
  go_wp2_with fail
  go_loopw [4, 5] (fun _ i wr => ∃ k : Nat, k ≤ 32 ∧ i = .int .i64 k ∧ Below w.heap.size w wr ∧ wr.heap[w.heap.size]? = some (.cells (u8s (List.replicate 32 0)).toArray 27 (0, 0)) ∧ wr.heap[w.heap.size + 1]? = some (.cells (u8s (toldA H k)).toArray 27 (0, 0)))
    (fun _ i _ => 32 - (intOf i).toNat)
  case atStart => exact ⟨0, Nat.zero_le _, rfl, ((Below.refl _ _).alloc (Nat.le_refl _) _).alloc (by simp) _, by rw [zeros32]; exact (Below.heap_alloc _ _ _ (by simp)).trans (heap_alloc_new w _), by rw [zeros32]; have := heap_alloc_new (w.alloc (.cells (u8s (List.replicate 32 0)).toArray 27)) (.cells (u8s (List.replicate 32 0)).toArray 27); simpa [toldA] using this⟩
  case round =>
    obtain ⟨k, hk, rfl, hbr, h1, h2⟩ := hrel
    by_cases hlt : k < 32
    · have hw := (HS.out.below hbr).word (k / 4) (by omega)
      have hcell := u8s_cell h2 k (by rw [toldA_length]; omega)
      have hfree := free_of_cells h2 k
      have hE := Lib.hid (show toldA H (k + 1) = (toldA H k).set k (UInt8.ofNat ((H[k / 4]?.getD 0).toNat / 2 ^ (8 * (3 - k % 4)))) from rfl)
      generalize H[k / 4]?.getD 0 = x at *
      have HTE := Lib.hid (told_byte x (8 * (3 - k % 4)))
      have H1 := Lib.hid h1
      have H2 := Lib.hid h2
      have hm : k % 4 < 4 := by omega
      generalize (toldA H k)[k]?.getD 0 = y at *
      clear h1 h2
      go_wp2
      go_roundw
      case rel =>
        rw [HTE.out]
        refine ⟨k + 1, by omega, by go_num, hbr.setCell (by simp) _, (Below.heap_setCell _ _ _ _ (by simp)).trans H1.out, ?_⟩
        rw [u8s_cells_set H2.out k, hE.out]
      case measure => simp [intOf]; omega
    · obtain rfl : k = 32 := by omega
      have H1 := Lib.hid h1
      have hl := toldA_length H 32
      generalize hWs : toldA H 32 = Ws at *
      have hi16 : (Tryd.prog.info? 27).map (·.size) = some (u8s Ws).toArray.size := by rw [show (u8s Ws).toArray.size = 32 by simp [u8s_length, hl]]; exact id_info
      have HS := Lib.hid (show (u8s (List.replicate 32 0)).toArray.size = (u8s Ws).toArray.size by simp [u8s_length, hl])
      obtain ⟨RS, hRS⟩ : ∃ RS, RS = (u8s Ws).toArray := ⟨_, rfl⟩
      have hall : RS.all (·.oneCell') = true := by rw [hRS]; exact all_oneCell_toArray (u8s_one Ws)
      rw [← hRS] at hi16 HS h2
      have HA := Lib.hid (And.intro hi16 hall)
      have H2 := Lib.hid h2
      have HR := Lib.hid (And.intro hRS hWs)
      clear h1 h2 hi16 hall hWs hRS hl
      go_wp2_with (first | (refine wpList_load_row (by rfl) 27 (.tmp 3) (by rfl) (w.heap.size + 1) (by rfl) 27 RS (0, 0) _ H2.out Tryd.underlying27 (by rfl) HA.out.1 ?_) | (refine wpList_store_row (by rfl) 27 (.tmp 2) (.tmp 24) (by rfl) w.heap.size RS (by rfl) (by rfl) 27 _ H1.out HA.out.1 HS.out HA.out.2 ?_))
      refine bodyPost_ret (results_cell_row rfl _ _ w.heap.size 27 RS (0, 0) _ rfl (setRow_at H1.out) Tryd.underlying27 rfl HA.out.1) rfl ⟨by rw [HR.out.1, ← HR.out.2], below_setRow hbr (Nat.le_refl _) _⟩
end Go.Proofs.YtckgibeiikhaaaaDoor
