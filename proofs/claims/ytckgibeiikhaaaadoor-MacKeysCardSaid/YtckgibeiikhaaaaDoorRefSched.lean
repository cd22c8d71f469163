/-
  The reference: schedule.
-/
import Derived.Test.YtckgibeiikhaaaaDoorRefTurn
namespace Go.Proofs.YtckgibeiikhaaaaDoor
open Go.RowKit

theorem rturn_still (x : BitVec 32) (r : Int) (h0 : 0 ≤ r) (h : r < 31) (w : World) : Calls Tryd.prog 23 #[.int .u32 (nv x), .int .i64 r] w fun e w' => e = .returned (.int .u32 (nv (rotr x r.toNat))) ∧ w' = w :=
  (rturn_any x r h0 h w).mono fun _ _ ⟨h1, h2⟩ => ⟨h1, h2.symm⟩
theorem str_at (l : List UInt8) (i : Nat) (h : i < l.length) (j : Nat) (hj : j = i) (h2 : j < (⟨l.toArray⟩ : ByteArray).size) : (⟨l.toArray⟩ : ByteArray)[j]'h2 = l[i]?.getD 0 := by
  subst hj
  rw [List.getElem?_eq_getElem h]
  rfl

theorem four (x0 x1 x2 x3 : BitVec 32) : (nv x0 * 16777216 + nv x1 * 65536 + nv x2 * 256 + nv x3) % 4294967296 = nv (x0 * 16777216#32 + x1 * 65536#32 + x2 * 256#32 + x3) := by
  have h0 := mulw x0 16777216 (by omega)
  have h1 := mulw x1 65536 (by omega)
  have h2 := mulw x2 256 (by omega)
  rw [← W32.add_, ← W32.add_, ← W32.add_, ← h0, ← h1, ← h2]
  omega
theorem quo_w (x : BitVec 32) (k : Nat) : IntKind.u32.wrap ((nv x).tdiv (2 ^ k)) = nv (x >>> k) := by
  rw [Int.tdiv_eq_ediv_of_nonneg (W32.nn x), W32.shr_, IntKind.wrap_u32', W32.mod_]
theorem quo_m (x : BitVec 32) (k : Nat) : (nv x).tdiv (2 ^ k) % 4294967296 = nv (x >>> k) := by
  rw [Int.tdiv_eq_ediv_of_nonneg (W32.nn x), W32.shr_, W32.mod_]

set_option maxHeartbeats 4000000 in
set_option maxRecDepth 100000 in
theorem sched_any (l : List UInt8) (hl : l.length = 64) (w : World) :
    Calls Tryd.prog 22 #[.string ⟨l.toArray⟩] w fun e w' => e = .returned (.agg (u32s (sw l 64)).toArray) ∧ Below w.heap.size w w' := by
  have hz := zero_tab
  have HL := Lib.hid hl
  have hsz : (⟨l.toArray⟩ : ByteArray).size = 64 := by simp [ByteArray.size, hl]
  have hat : ∀ i, i < 64 → ∀ (j : Nat), j = i → ∀ (h : j < (⟨l.toArray⟩ : ByteArray).size), (⟨l.toArray⟩ : ByteArray)[j]'h = l[i]?.getD 0 := fun i hi j hj h => str_at l i (by omega) j hj h
  obtain ⟨s, hs⟩ : ∃ s : ByteArray, s = ⟨l.toArray⟩ := ⟨_, rfl⟩
  rw [← hs] at hsz hat ⊢
  have HA := Lib.hid (And.intro hat hs)
  clear hat hs hl
  go_enter Tryd.func22, Tryd.ntmps22
  go_wp2_with fail
  go_loopw [4, 5, 6] (fun i _ _ wr => ∃ k : Nat, k ≤ 64 ∧ i = .int .i64 k ∧ Below w.heap.size w wr ∧ wr.heap[w.heap.size]? = some (.cells zeros64 51 (0, 0)) ∧ wr.heap[w.heap.size + 1]? = some (.cells (u32s (sw l k)).toArray 51 (0, 0)))
    (fun i _ _ _ => 64 - (intOf i).toNat)
  case atStart => exact ⟨0, Nat.zero_le _, rfl, ((Below.refl _ _).alloc (Nat.le_refl _) _).alloc (by simp) _, (Below.heap_alloc _ _ _ (by simp)).trans (heap_alloc_new w _), by have := heap_alloc_new (w.alloc (.cells zeros64 51)) (.cells zeros64 51); simpa [sw, zeros64] using this⟩
  case round =>
    obtain ⟨k, hk, rfl, hbr, h1, h2⟩ := hrel
    have H1 := Lib.hid h1
    have H2 := Lib.hid h2
    have hswl := sw_length l k
    by_cases hlt : k < 64
    · by_cases h16 : k < 16
      · have HE : Hid (sw l (k + 1) = (sw l k).set k (bew l k)) := Lib.hid (by rw [sw, if_pos h16])
        have hw0 := IntWalk.i64_in (4 * (k : Int)) (by omega)
        have hw1 := IntWalk.i64_in (4 * (k : Int) + 1) (by omega)
        have hw2 := IntWalk.i64_in (4 * (k : Int) + 2) (by omega)
        have hw3 := IntWalk.i64_in (4 * (k : Int) + 3) (by omega)
        have HB : Hid (bew l k = byW l (4 * k) * 16777216#32 + byW l (4 * k + 1) * 65536#32 + byW l (4 * k + 2) * 256#32 + byW l (4 * k + 3)) := Lib.hid rfl
        have g0 := HA.out.1 (4 * k) (by omega) (4 * (k : Int)).toNat (by omega)
        have p0 : 0 ≤ 4 * (k : Int) := by omega
        have q0 : 4 * (k : Int) < 64 := by omega
        have g1 := HA.out.1 (4 * k + 1) (by omega) (4 * (k : Int) + 1).toNat (by omega)
        have p1 : 0 ≤ 4 * (k : Int) + 1 := by omega
        have q1 : 4 * (k : Int) + 1 < 64 := by omega
        have g2 := HA.out.1 (4 * k + 2) (by omega) (4 * (k : Int) + 2).toNat (by omega)
        have p2 : 0 ≤ 4 * (k : Int) + 2 := by omega
        have q2 : 4 * (k : Int) + 2 < 64 := by omega
        have g3 := HA.out.1 (4 * k + 3) (by omega) (4 * (k : Int) + 3).toNat (by omega)
        have p3 : 0 ≤ 4 * (k : Int) + 3 := by omega
        have q3 : 4 * (k : Int) + 3 < 64 := by omega
        have b0 := W32.of_byte (l[4 * k]?.getD 0)
        have b1 := W32.of_byte (l[4 * k + 1]?.getD 0)
        have b2 := W32.of_byte (l[4 * k + 2]?.getD 0)
        have b3 := W32.of_byte (l[4 * k + 3]?.getD 0)
        unfold byW at HB
        generalize l[4 * k]?.getD 0 = y0 at *
        generalize l[4 * k + 1]?.getD 0 = y1 at *
        generalize l[4 * k + 2]?.getD 0 = y2 at *
        generalize l[4 * k + 3]?.getD 0 = y3 at *
        generalize BitVec.ofNat 32 y0.toNat = x0 at *
        generalize BitVec.ofNat 32 y1.toNat = x1 at *
        generalize BitVec.ofNat 32 y2.toNat = x2 at *
        generalize BitVec.ofNat 32 y3.toNat = x3 at *
        have hq : (k : Int) < 64 := by omega
        clear h1 h2
        go_wp2_with fail
        refine wp_region_still_tail 31 (by kernel_rfl) (by kernel_rfl) ?_
        simp only [List.take_succ_cons, List.take_zero, List.drop_succ_cons, List.drop_zero]
        show wpStill _ _ wr.drew (fun a' => wpList _ _ _ _ a' wr.drew) _ _
        have hcell := u32s_cell H2.out k (by omega)
        have hfree := free_of_cells H2.out k
        have hcell : wr.drew.cell? ⟨w.heap.size + 1, k, none⟩ = _ := hcell
        have hfree : wr.drew.frozen? ⟨w.heap.size + 1, k, none⟩ = _ := hfree
        have m0 := W32.mod_
        iterate 31 still_step
        refine wpStill_nil ?_
        go_wp2_with fail
        go_roundw
        case rel =>
          have h1 := u32s_cells_set H2.out k (x0 * 16777216#32 + x1 * 65536#32 + x2 * 256#32 + x3)
          rw [← HB.out, ← HE.out] at h1
          rw [four, ← HB.out]
          exact ⟨k + 1, by omega, by go_num, below_drew (hbr.setCell (by simp) _), (Below.heap_setCell _ _ _ _ (by simp)).trans H1.out, h1⟩
        case measure => simp [intOf]; omega
      · have HE : Hid (sw l (k + 1) = (sw l k).set k (swk (sw l k) k)) := Lib.hid (by rw [sw, if_neg h16])
        have HB : Hid (swk (sw l k) k = ((sw l k)[k - 16]?.getD 0) + lowB ((sw l k)[k - 15]?.getD 0) + ((sw l k)[k - 7]?.getD 0) + highB ((sw l k)[k - 2]?.getD 0)) := Lib.hid rfl
        have c15 := u32s_cell H2.out (k - 15) (by omega)
        have c2 := u32s_cell H2.out (k - 2) (by omega)
        have c16 := u32s_cell H2.out (k - 16) (by omega)
        have c7 := u32s_cell H2.out (k - 7) (by omega)
        have c0 := u32s_cell H2.out k (by omega)
        have f0 := free_of_cells H2.out k
        generalize (sw l k)[k - 15]?.getD 0 = x15 at *
        generalize (sw l k)[k - 2]?.getD 0 = x2 at *
        generalize (sw l k)[k - 16]?.getD 0 = x16 at *
        generalize (sw l k)[k - 7]?.getD 0 = x7 at *
        generalize (sw l k)[k]?.getD 0 = xk at *
        have hw2 := IntWalk.i64_in ((k : Int) - 2) (by omega)
        have hw7 := IntWalk.i64_in ((k : Int) - 7) (by omega)
        have hw15 := IntWalk.i64_in ((k : Int) - 15) (by omega)
        have hw16 := IntWalk.i64_in ((k : Int) - 16) (by omega)
        have p7 : 0 ≤ (k : Int) - 7 := by omega
        have q7 : (k : Int) - 7 < 64 := by omega
        have p16 : 0 ≤ (k : Int) - 16 := by omega
        have q16 : (k : Int) - 16 < 64 := by omega
        have e7 : ((k : Int) - 7).toNat = k - 7 := by omega
        have e16 : ((k : Int) - 16).toNat = k - 16 := by omega
        have hq : (k : Int) < 64 := by omega
        clear h1 h2
        go_wp2_with fail
        refine wp_region_still_tail 29 (by kernel_rfl) (by kernel_rfl) ?_
        simp only [List.take_succ_cons, List.take_zero, List.drop_succ_cons, List.drop_zero]
        show wpStill _ _ wr.drew (fun a' => wpList _ _ _ _ a' wr.drew) _ _
        have c16 : wr.drew.cell? ⟨w.heap.size + 1, k - 16, none⟩ = _ := c16
        have c7 : wr.drew.cell? ⟨w.heap.size + 1, k - 7, none⟩ = _ := c7
        have c0 : wr.drew.cell? ⟨w.heap.size + 1, k, none⟩ = _ := c0
        have f0 : wr.drew.frozen? ⟨w.heap.size + 1, k, none⟩ = _ := f0
        have l7 : 7 ≤ (k : Int) := by omega
        have l16 : 16 ≤ (k : Int) := by omega
        have haw := W32.addw
        have hxor := W32.xor_
        have t3 := fun x => quo_w x 3
        have t10 := fun x => quo_w x 10
        simp only [show ((2 : Int) ^ 3) = 8 from rfl, show ((2 : Int) ^ 10) = 1024 from rfl] at t3 t10
        iterate 6 still_step
        iterate 2 (refine wpStill_step (fun K hK => ?_); go_simp; refine ⟨_, rturn_still _ _ (by omega) (by omega) _, hK _ ?_⟩; clear hK K; try still_step)
        iterate 10 still_step
        iterate 2 (refine wpStill_step (fun K hK => ?_); go_simp; refine ⟨_, rturn_still _ _ (by omega) (by omega) _, hK _ ?_⟩; clear hK K; try still_step)
        iterate 5 still_step
        refine wpStill_nil ?_
        have HV : Hid (nv (x16 + (rotr x15 7 ^^^ rotr x15 18 ^^^ x15 >>> 3) + x7 + (rotr x2 17 ^^^ rotr x2 19 ^^^ x2 >>> 10)) = nv (swk (sw l k) k)) := Lib.hid (by rw [HB.out]; rfl)
        go_wp2_with fail
        go_roundw
        case rel =>
          have h1 := u32s_cells_set H2.out k (swk (sw l k) k)
          rw [← HE.out, ← HV.out] at h1
          exact ⟨k + 1, by omega, by go_num, below_drew (hbr.setCell (by simp) _), (Below.heap_setCell _ _ _ _ (by simp)).trans H1.out, h1⟩
        case measure => simp [intOf]; omega
    · obtain rfl : k = 64 := by omega
      generalize hWs : sw l 64 = Ws at *
      have hi16 : (Tryd.prog.info? 51).map (·.size) = some (u32s Ws).toArray.size := by rw [show (u32s Ws).toArray.size = 64 by simp [u32s_length, hswl]]; exact tab_info
      have HS := Lib.hid (show zeros64.size = (u32s Ws).toArray.size by simp [u32s_length, hswl]; rfl)
      obtain ⟨RS, hRS⟩ : ∃ RS, RS = (u32s Ws).toArray := ⟨_, rfl⟩
      have hall : RS.all (·.oneCell') = true := by rw [hRS]; exact all_oneCell_toArray (u32s_one Ws)
      rw [← hRS] at hi16 HS H2
      have HZ := Lib.hid (And.intro hi16 hall)
      have HR := Lib.hid (And.intro hRS hWs)
      clear h1 h2 hi16 hall hWs hRS hswl
      go_wp2_with (first | (refine wpList_load_row (by rfl) 51 (.tmp 3) (by rfl) (w.heap.size + 1) (by rfl) 51 RS (0, 0) _ H2.out Tryd.underlying51 (by rfl) HZ.out.1 ?_) | (refine wpList_store_row (by rfl) 51 (.tmp 2) (.tmp 81) (by rfl) w.heap.size RS (by rfl) (by rfl) 51 _ H1.out HZ.out.1 HS.out HZ.out.2 ?_))
      refine bodyPost_ret (results_cell_row rfl _ _ w.heap.size 51 RS (0, 0) _ rfl (setRow_at H1.out) Tryd.underlying51 rfl HZ.out.1) rfl ⟨by rw [HR.out.1, ← HR.out.2], below_setRow hbr (Nat.le_refl _) _⟩
end Go.Proofs.YtckgibeiikhaaaaDoor
