/-
  digest.sum.words: the sixteen words of the block.
-/
import Derived.Test.YtckgibeiikhaaaaDoorShaRot
import Derived.Deep.MidRow
import Derived.DeepKeys
import Derived.OpenShut
namespace Go.Proofs.YtckgibeiikhaaaaDoor
open Go.RowKit

/-! Blocks known whole. -/
section
variable {w w' : World} {p : Nat}
theorem lt_of_cells {cs : Array Value} {t : TypeId} {f : Nat × Nat} (h : w.heap[p]? = some (.cells cs t f)) : p < w.heap.size := (Array.getElem?_eq_some_iff.1 h).1
theorem cell_of_cells {cs : Array Value} {t : TypeId} {f : Nat × Nat} (h : w.heap[p]? = some (.cells cs t f)) (i : Nat) : w.cell? ⟨p, i, none⟩ = cs[i]? := cell_of_row w p i cs t f h
theorem free_of_cells {cs : Array Value} {t : TypeId} (h : w.heap[p]? = some (.cells cs t (0, 0))) (i : Nat) : w.frozen? ⟨p, i, none⟩ = false := by simp [World.frozen?, h]
theorem set_of_cells {cs : Array Value} {t : TypeId} {f : Nat × Nat} (h : w.heap[p]? = some (.cells cs t f)) (i : Nat) (u : Value) : (w.setCell ⟨p, i, none⟩ u).heap[p]? = some (.cells (cs.setIfInBounds i u) t f) := by
  simp [World.setCell, Array.getElem?_modify, h]
theorem u32s_cells_set {l : List (BitVec 32)} {t : TypeId} (h : w.heap[p]? = some (.cells (u32s l).toArray t (0, 0))) (i : Nat) (x : BitVec 32) :
    (w.setCell ⟨p, i, none⟩ (.int .u32 (nv x))).heap[p]? = some (.cells (u32s (l.set i x)).toArray t (0, 0)) := by
  rw [set_of_cells h, ← u32s_set]
  simp
theorem u32s_cell {l : List (BitVec 32)} {t : TypeId} (h : w.heap[p]? = some (.cells (u32s l).toArray t (0, 0))) (i : Nat) (hi : i < l.length) :
    w.cell? ⟨p, i, none⟩ = some (.int .u32 (nv (l[i]?.getD 0))) := by
  rw [cell_of_cells h, List.getElem?_toArray, u32s_at l i hi]
end

theorem run_part_int {P : Program} {e : TypeId} {kd : IntKind} (he : P.underlying e = some (.int kd)) (cs : Array Value) (k : Nat) (v : Value) (hv : cs[k]? = some v) (w : World) :
    (part e cs k).run P w = .ok v w := by
  have hag : (isAgg e).run P w = .ok false w := by
    unfold isAgg
    rw [Sem.run_bind, run_underlying he w]
    simp
  simp [part, Sem.run_bind, hag, hv]
/-- An array value's element. -/
theorem run_index_arr {P : Program} {t e : TypeId} {n : Nat} {kd : IntKind} (ht : P.underlying t = some (.array n e)) (he : P.underlying e = some (.int kd)) (hz : ∀ w, (Go.sizeOf e).run P w = .ok 1 w) (cs : Array Value) (k : Nat) (hk : k < n) (v : Value) (hv : cs[k]? = some v) (w : World) :
    (Instr.index t (.agg cs) (.int .i64 (k : Int))).run P w = .ok v w := by
  have h1 : (0 : Int) ≤ (k : Int) ∧ (k : Int) < (n : Int) := by omega
  have ha : (asIntOf (.int .i64 (k : Int))).run P w = .ok (.i64, (k : Int)) w := rfl
  simp [Instr.index, Sem.run_bind, run_underlying ht, ha, hk, hz, run_part_int he cs k v hv]

theorem u8_size : ∀ w, (Go.sizeOf 5).run Tryd.prog w = .ok 1 w := fun w => by kernel_rfl
theorem u32_size : ∀ w, (Go.sizeOf 49).run Tryd.prog w = .ok 1 w := fun w => by kernel_rfl

theorem shl8 (x : BitVec 32) : nv x * 256 % 4294967296 = nv (x <<< (8 : Nat)) := by
  unfold nv
  rw [BitVec.toNat_shiftLeft, Nat.shiftLeft_eq]
  have h : (2 : Nat) ^ 32 = 4294967296 := rfl
  rw [h]
  simp

theorem range_below {w w' : World} {p o : Nat} {cs : List Value} (h : w.rangeAt p o cs) (hp : p < w.heap.size) (hb : Below w.heap.size w w') : w'.rangeAt p o cs :=
  fun j v hj => (hb.cell (p := ⟨p, o + j, none⟩) hp).trans (h j v hj)
theorem setRow_at {w : World} {g : Nat} {cs new : Array Value} {t : TypeId} (h : w.heap[g]? = some (.cells cs t (0, 0))) : (w.setRow g new).heap[g]? = some (.cells new t (0, 0)) := by
  simp [World.setRow, Array.getElem?_modify, h]
theorem below_setRow {a w : World} {B : Nat} (h : Below B a w) {g : Nat} (hg : B ≤ g) (cs : Array Value) : Below B a (w.setRow g cs) :=
  ⟨h.os, h.tape, h.output, by simpa [World.setRow] using h.size, fun i hi => by
    rw [← h.block i hi]
    simp only [World.setRow, Array.getElem?_modify]
    rw [if_neg (by omega)]⟩
theorem zeros16 : #[Value.int .u32 0, .int .u32 0, .int .u32 0, .int .u32 0, .int .u32 0, .int .u32 0, .int .u32 0, .int .u32 0, .int .u32 0, .int .u32 0, .int .u32 0, .int .u32 0, .int .u32 0, .int .u32 0, .int .u32 0, .int .u32 0] = (u32s (List.replicate 16 0)).toArray := by rfl

set_option maxHeartbeats 2000000 in
set_option maxRecDepth 100000 in
theorem words_any {w : World} {p : Nat} {b : List UInt8} (hb : b.length = 64) (hc : w.rangeAt p 8 (u8s b)) (hp : p < w.heap.size) :
    Calls Tryd.prog 28 #[.pointer (some ⟨p, 0, none⟩)] w fun e w' => e = .returned (.agg (u32s (wacc b 64)).toArray) ∧ Below w.heap.size w w' := by
  have hi1 : (Tryd.prog.info? 46).map (·.size) = some (u8s b).length := by rw [u8s_length, hb]; kernel_rfl
  have hi2 : (Tryd.prog.info? 61).map (·.size) = some 16 := by kernel_rfl
  have HI := Lib.hid (And.intro hi1 hi2)
  have HC := Lib.hid (fun w' => range_below (w' := w') hc hp)
  have HB := Lib.hid hb
  obtain ⟨CS, hCS⟩ : ∃ CS, CS = (u8s b).toArray := ⟨_, rfl⟩
  have HCS := Lib.hid hCS
  clear hi1 hi2 hc hb hCS
  go_enter Tryd.func28, Tryd.ntmps28
  go_wp2_with (refine wpList_load_mid (by rfl) 46 (.tmp 8) (by rfl) p 8 (by rfl) (u8s b) _ (HC.out _ (((Below.refl _ _).alloc (Nat.le_refl _) _).alloc (by simp) _)) Tryd.underlying46 (by rfl) HI.out.1 ?_; rw [← HCS.out])
  go_loopw [4, 5, 10] (fun _ _ i wr => ∃ k : Nat, k ≤ 64 ∧ i = .int .i64 k ∧ Below w.heap.size w wr ∧ wr.heap[w.heap.size]? = some (.cells (u32s (List.replicate 16 0)).toArray 61 (0, 0)) ∧ wr.heap[w.heap.size + 1]? = some (.cells (u32s (wacc b k)).toArray 61 (0, 0)))
    (fun _ _ i _ => 64 - (intOf i).toNat)
  case atStart => exact ⟨0, Nat.zero_le _, rfl, ((Below.refl _ _).alloc (Nat.le_refl _) _).alloc (by simp) _, by rw [zeros16]; exact (Below.heap_alloc _ _ _ (by simp)).trans (heap_alloc_new w _), by rw [zeros16]; have := heap_alloc_new (w.alloc (.cells (u32s (List.replicate 16 0)).toArray 61)) (.cells (u32s (List.replicate 16 0)).toArray 61); simpa [wacc] using this⟩
  case round =>
    obtain ⟨k, hk, rfl, hbr, h1, h2⟩ := hrel
    by_cases hlt : k < 64
    · obtain ⟨x, hx⟩ : ∃ x, (wacc b k)[k / 4]?.getD 0 = x := ⟨_, rfl⟩
      obtain ⟨c, hcv⟩ : ∃ c, BitVec.ofNat 32 (b[k]?.getD 0).toNat = c := ⟨_, rfl⟩
      have hcell := u32s_cell h2 (k / 4) (by rw [wacc_length]; omega)
      rw [hx] at hcell
      have hfree := free_of_cells h2 (k / 4)
      have hcs : CS[k]? = some (.int .u8 (nv c)) := by
        rw [HCS.out, ← hcv, ← W32.of_byte]
        simp [u8s, List.getElem?_map, List.getElem?_eq_getElem (show k < b.length by rw [HB.out]; exact hlt)]
      have hix := run_index_arr (P := Tryd.prog) Tryd.underlying46 Tryd.underlying5 u8_size CS k hlt _ hcs
      have hs8 := shl8 x
      have hor := W32.or_ (x <<< (8 : Nat)) c
      have n1 := W32.nn x
      have n3 := W32.nn c
      have n4 := W32.mod_ c
      have HX := Lib.hid (And.intro hx hcv)
      have H1 := Lib.hid h1
      have H2 := Lib.hid h2
      clear hx hcv h1 h2 hcs
      go_wp2
      go_roundw
      case rel =>
        refine ⟨k + 1, by omega, by go_num, hbr.setCell (by simp) _, (Below.heap_setCell _ _ _ _ (by simp)).trans H1.out, ?_⟩
        have := u32s_cells_set H2.out (k / 4) (x <<< (8 : Nat) ||| c)
        rw [this, wacc, HX.out.1, HX.out.2]
      case measure => simp [intOf]; omega
    · obtain rfl : k = 64 := by omega
      have H1 := Lib.hid h1
      have hl := wacc_length b 64
      generalize hWs : wacc b 64 = Ws at *
      have hi16 : (Tryd.prog.info? 61).map (·.size) = some (u32s Ws).toArray.size := by rw [show (u32s Ws).toArray.size = 16 by simp [u32s_length, hl]]; kernel_rfl
      have HS := Lib.hid (show (u32s (List.replicate 16 0)).toArray.size = (u32s Ws).toArray.size by simp [u32s_length, hl])
      obtain ⟨RS, hRS⟩ : ∃ RS, RS = (u32s Ws).toArray := ⟨_, rfl⟩
      have hall : RS.all (·.oneCell') = true := by rw [hRS]; exact all_oneCell_toArray (u32s_one Ws)
      rw [← hRS] at hi16 HS h2
      have HA := Lib.hid (And.intro hi16 hall)
      have H2 := Lib.hid h2
      have HR := Lib.hid (And.intro hRS hWs)
      clear h1 h2 hi16 hall hWs hRS hl
      go_wp2_with (first | (refine wpList_load_row (by rfl) 61 (.tmp 3) (by rfl) (w.heap.size + 1) (by rfl) 61 RS (0, 0) _ H2.out Tryd.underlying61 (by rfl) HA.out.1 ?_) | (refine wpList_store_row (by rfl) 61 (.tmp 2) (.tmp 26) (by rfl) w.heap.size RS (by rfl) (by rfl) 61 _ H1.out HA.out.1 HS.out HA.out.2 ?_))
      refine bodyPost_ret (results_cell_row rfl _ _ w.heap.size 61 RS (0, 0) _ rfl (setRow_at H1.out) Tryd.underlying61 rfl HA.out.1) rfl ⟨by rw [HR.out.1, ← HR.out.2], below_setRow hbr (Nat.le_refl _) _⟩
end Go.Proofs.YtckgibeiikhaaaaDoor
