/-
  The laws' example: a record that is added, and there again.
-/
import Derived.Test.YtkhbmgmppoepjaaWalLgd
import Derived.Test.YtkhbmgmppoepjaaMade
import Derived.Test.YtkhbmgmppoepjaaCel
namespace Go.Proofs.Ytkhbmgmppoepjaa
open Go.RowKit

def ax0 : DM := (newM ((8 : Nat) : Int)).1
def axM0 : LM := beginM (openM (blocksOf ax0.l ((2 : Nat) : Int) ((4 : Nat) : Int)) ((2 : Nat) : Int) ((4 : Nat) : Int)) ((2 : Nat) : Int) ((4 : Nat) : Int) 5
def axA : List UInt8 := [97, 98, 99]
def axZ : List UInt8 := List.replicate 111 0
def ax1 : DM := (addM ax0 axM0 axA).1
def axM1 : LM := (addM ax0 axM0 axA).2.1
def ax2 : DM := (addM ax1 axM1 axZ).1
def axM2 : LM := (addM ax1 axM1 axZ).2.1
def axM3 : LM := openM (blocksOf ax2.l ((2 : Nat) : Int) ((4 : Nat) : Int)) ((2 : Nat) : Int) ((4 : Nat) : Int)
theorem ax0_ok : ax0.l.length = 8 ∧ ax0.down = false := by decide +kernel
theorem ax2_ok : ax2.l.length = 8 ∧ ax2.down = false := by decide +kernel
theorem ax_one : (addM ax0 axM0 axA).2.2 = 0 := by decide +kernel
theorem ax_two : (addM ax1 axM1 axZ).2.2 = 0 := by decide +kernel
theorem axM0_ok : axM0.Ok := ⟨by decide +kernel, by decide +kernel, by decide +kernel, by decide +kernel, by decide +kernel, by decide +kernel⟩
theorem axM1_ok : axM1.Ok := addM_lok axM0_ok
theorem axM3_ok : axM3.Ok := ⟨by decide +kernel, by decide +kernel, by decide +kernel, by decide +kernel, by decide +kernel, by decide +kernel⟩
theorem ax_recs : axM3.l.length = 2 ∧ axM3.l[0]?.getD [] = axA ∧ (axM3.l[1]?.getD []).length = 111 := by decide +kernel
theorem ax_nums : axM3.next = 8 ∧ axM3.first = 5 ∧ axM3.n - (axM3.have_ : Int) = 1 ∧ blocksN 111 = 2 := by decide +kernel

set_option maxHeartbeats 4000000 in
set_option maxRecDepth 100000 in
theorem wawake_true (w : World) : Calls Try.prog 9 #[] w fun e w' => e = .returned (.bool true) ∧ Below w.heap.size w w' := by
  have hnew := Dsk.new (Below.refl w.heap.size w) 8 (by omega) (by omega)
  have hmk : ∀ w : World, (Instr.makeSlice 41 (.int .i64 111) (.int .i64 111)).run Try.prog w = .ok (.slice (some ⟨w.heap.size, 0, none⟩) 111 111) (w.alloc (.cells (u8s axZ).toArray 5)) := fun w => make_bytes w 111 (by omega)
  go_enter Try.func9, Try.ntmps9
  go_upto_region 2 with (go_at_call 10; refine hnew.mono ?_; clear hnew; rintro _ w1 ⟨g, rfl, hd1⟩)
  have hd1 : Dsk w w1.heap.size w1 g ax0 := hd1
  obtain ⟨m, hm⟩ : ∃ m, m = w1.heap.size := ⟨_, rfl⟩
  rw [← hm] at hd1
  have HM := Lib.hid (show m ≤ w1.heap.size by omega)
  have hbg := hd1.begin 2 4 5 (by rw [ax0_ok.1]; omega) (by omega) ax0_ok.2 (by rw [ax0_ok.1]; omega) (by omega)
  clear hd1 hm
  go_upto_region 5 with (go_at_call 20; refine hbg.mono ?_; clear hbg; rintro _ w2 ⟨p, rfl, hl2, hd2, hb2⟩)
  have hl2 : Lg w2 (w1.heap.size ≤ ·) p g axM0 := hl2
  have H2 := Lib.hid (And.intro (hl2.mono (T := fun k => m ≤ k ∧ k < w2.heap.size) fun k hk h => ⟨by have := HM.out; omega, hk⟩) hd2)
  clear hl2 hd2 hb2
  obtain ⟨w3, hcv, hce⟩ := conv_mark (P := Try.prog) (B := w2.heap.size) (w2.alloc (.cells #[.int .u8 97, .int .u8 98, .int .u8 99] 5)) 41 5 Try.underlying41 Try.underlying5 w2.heap.size 3 3 (Nat.le_refl _)
  have hb3 : Below w2.heap.size w2 w3 := ⟨hce.os, hce.tape, hce.output, by have := hce.size; simp at this; omega, fun k hk => (hce.block k (by simp; omega) hk).trans (heap_alloc_old _ _ hk)⟩
  have hy3 : Byt w3 (w2.heap.size ≤ ·) (some ⟨w2.heap.size, 0, none⟩) 3 3 axA := (byt_filled' (w' := w2.alloc (.cells #[.int .u8 97, .int .u8 98, .int .u8 99] 5)) (l := axA) (n := 3) (heap_alloc_new w2 _) rfl (by omega) (Nat.le_refl _)).cel hce
  have hadd := (H2.out.2.below hb3).add (H2.out.1.below hb3) (fun k h => h.1) axM0_ok hy3 (fun k hk => ⟨fun h => by omega, .inr (by have := H2.out.2.top; omega)⟩) (by omega)
  rw [ax_one] at hadd
  have HS3 := Lib.hid hb3.size
  clear hb3 hce hy3
  go_upto_region 6 with (go_at_call 14; refine hadd.mono ?_; clear hadd; rintro _ w4 ⟨rfl, hd4, hl4, _⟩)
  have hd4 : Dsk w m w4 g ax1 := hd4
  have hl4 : Lg w4 _ p g axM1 := hl4
  have H4 := Lib.hid (And.intro (hl4.mono (T := fun k => m ≤ k ∧ k < w4.heap.size) fun k hk h => by have := H2.out.2.top; have := HS3.out; rcases h with h | h <;> exact ⟨by omega, hk⟩) hd4)
  clear hl4 hd4 hcv H2
  have hb5 : Below w4.heap.size w4 (w4.alloc (.cells (u8s axZ).toArray 5)) := (Below.refl _ _).alloc (Nat.le_refl _) _
  have hy5 : Byt (w4.alloc (.cells (u8s axZ).toArray 5)) (w4.heap.size ≤ ·) (some ⟨w4.heap.size, 0, none⟩) 111 111 axZ := byt_filled' (heap_alloc_new w4 _) (by simp [axZ]) (by omega) (Nat.le_refl _)
  have hadd := (H4.out.2.below hb5).add (H4.out.1.below hb5) (fun k h => h.1) axM1_ok hy5 (fun k hk => ⟨fun h => by omega, .inr (by have := H4.out.2.top; omega)⟩) (by omega)
  rw [ax_two] at hadd
  clear hb5 hy5
  go_upto_region 7 with (go_at_call 14; refine hadd.mono ?_; clear hadd; rintro _ w6 ⟨rfl, hd6, _, _⟩)
  have hd6 : Dsk w m w6 g ax2 := hd6
  clear hmk H4
  have hop := hd6.open 2 4 (by rw [ax2_ok.1]; omega) (by omega) ax2_ok.2 (by rw [ax2_ok.1]; omega)
  clear hd6
  go_upto_region 8 with (go_at_call 12; refine hop.mono ?_; clear hop; rintro _ w7 ⟨p7, rfl, hl7, hd7, _⟩)
  have hl7 : Lg w7 _ p7 g axM3 := hl7
  have hrc := wrecords_any hl7 axM3_ok
  have H7 := Lib.hid (And.intro hl7 hd7)
  clear hl7 hd7
  go_upto_region 9 with (go_at_call 26; refine hrc.mono ?_; clear hrc; rintro _ w8 ⟨A8, n8, c8, rfl, hr8, hb8⟩)
  have hl8 := H7.out.1.below hb8
  have HB8 := Lib.hid (H7.out.2.below hb8).bel
  obtain rfl : n8 = 2 := by rw [← hr8.len]; exact ax_recs.1
  obtain ⟨q, o, rfl, _, hq, hc⟩ := hr8.row (by omega)
  obtain ⟨A0, n0, c0, hc0, hy0⟩ := hc 0 (by omega)
  obtain ⟨A1, n1, c1, hc1, hy1⟩ := hc 1 (by omega)
  rw [ax_recs.2.1] at hy0
  have hcv0 := byt_string hy0
  obtain rfl : n1 = 111 := by rw [← hy1.len]; exact ax_recs.2.2
  have hnx := wnext_any hl8
  have hfs := wfirst_any hl8
  have hfr := wfree_any hl8 axM3_ok
  have hbk := wblocks_any 111 (by omega) w8.drew
  rw [ax_nums.1] at hnx
  rw [ax_nums.2.1] at hfs
  rw [ax_nums.2.2.1] at hfr
  rw [ax_nums.2.2.2] at hbk
  have hc0 : w8.cell? ⟨q, o, none⟩ = some (.slice A0 n0 c0) := hc0
  clear hl8 hr8 hb8 hq hc hy0 hy1 H7
  go_wp2_with (first
    | (go_at_call 27; refine hnx.mono ?_; clear hnx; rintro _ _ ⟨rfl, rfl⟩)
    | (go_at_call 28; refine hfs.mono ?_; clear hfs; rintro _ _ ⟨rfl, rfl⟩)
    | (go_at_call 29; refine hfr.mono ?_; clear hfr; rintro _ _ ⟨rfl, rfl⟩)
    | (go_at_call 33; refine hbk.mono ?_; clear hbk; rintro _ _ ⟨rfl, rfl⟩))
  go_ret
  exact ⟨rfl, HB8.out.drew⟩
end Go.Proofs.Ytkhbmgmppoepjaa
