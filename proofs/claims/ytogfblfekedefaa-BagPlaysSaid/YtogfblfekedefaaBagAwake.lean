/-
  The laws' example: a message that is put, copied, taken, and one that goes.
-/
import Derived.Test.YtogfblfekedefaaBagCode
import Derived.Test.YtogfblfekedefaaCel
import Derived.Test.YtogfblfekedefaaDsk
namespace Go.Proofs.Ytogfblfekedefaa
open Go.RowKit

def bw0 : Bm := ⟨0, 1, [120], 0⟩
theorem bw_a : putB 2 [] bw0 = ([bw0], 0) := rfl
theorem bw_b : putB 2 [bw0] bw0 = ([bw0, bw0], 0) := rfl
theorem bw_c : takeB [bw0, bw0] 0 = [bw0] := rfl
theorem bw_d : forB [bw0] 1 = [0] := rfl
theorem bw_e : tickB (0 : Int).toNat [bw0] = [] := rfl
set_option maxHeartbeats 8000000 in
set_option maxRecDepth 100000 in
theorem bagawake_true (w : World) : Calls Try.prog 7 #[] w fun e w' => e = .returned (.bool true) ∧ Below w.heap.size w w' := by
  have hnew := bgnew_ok w 2 (by omega) (by omega)
  go_enter Try.func7, Try.ntmps7
  go_upto_region 2 with (go_at_call 8; refine hnew.mono ?_; clear hnew; rintro _ w1 ⟨p, rfl, hg1, hb1⟩)
  have H1 := Lib.hid (And.intro (hg1.mono (T := fun k => w.heap.size ≤ k ∧ k < w1.heap.size) fun k hk h => ⟨h, hk⟩) hb1)
  clear hg1 hb1
  go_upto_region 4 with fail
  obtain ⟨w3, hcv, hce⟩ := conv_mark (P := Try.prog) (B := w1.heap.size) (w1.alloc (.cells #[.int .u8 120] 5)) 29 5 Try.underlying29 Try.underlying5 w1.heap.size 1 1 (Nat.le_refl _)
  have hb3 : Below w1.heap.size w1 w3 := ⟨hce.os, hce.tape, hce.output, by have := hce.size; simp at this; omega, fun k hk => (hce.block k (by simp; omega) hk).trans (Below.heap_alloc _ _ _ hk)⟩
  have hy3 : Byt w3 (w1.heap.size ≤ ·) (some ⟨w1.heap.size, 0, none⟩) 1 1 [120] := (byt_filled' (w' := w1.alloc (.cells #[.int .u8 120] 5)) (l := [120]) (n := 1) (heap_alloc_new w1 _) rfl (by omega) (Nat.le_refl _)).cel hce
  have hput := bgput_any (H1.out.1.below hb3) hy3 (fun k _ h h2 => by have := h2.2; omega) 0 1 (by omega)
  rw [show putB 2 [] ⟨0, 1, [120], 0⟩ = ([bw0], 0) from rfl] at hput
  have HB3 := Lib.hid (H1.out.2.trans (hb3.mono H1.out.2.size))
  clear hb3 hy3 hce
  go_upto_region 5 with (go_at_call 9; refine hput.mono ?_; clear hput; rintro _ w4 ⟨rfl, hg4, ht4⟩)
  clear hcv
  have hcp := bgcopy_ok hg4 (i := 0) (x := bw0) rfl
  rw [bw_b] at hcp
  have HB4 := Lib.hid (HB3.out.trans ((ht4.mono (T := fun k => w.heap.size ≤ k) fun k _ h => h.1).below HB3.out.size))
  clear hg4 ht4
  go_upto_region 6 with (go_at_call 13; refine hcp.mono ?_; clear hcp; rintro _ w5 ⟨rfl, hg5, ht5⟩)
  have htk := bgtake_ok hg5 (i := 0) (x := bw0) rfl
  rw [bw_c] at htk
  have hz := zero_mg
  obtain ⟨Z0, hZ0⟩ : ∃ Z0, Z0 = mgV 0 0 none 0 0 := ⟨_, rfl⟩
  rw [← hZ0] at hz
  have HZ0 := Lib.hid hZ0
  clear hZ0
  have HB5 := Lib.hid (HB4.out.trans ((ht5.mono (T := fun k => w.heap.size ≤ k) fun k _ h => by rcases h with h | h; exact h.1; exact Nat.le_trans HB3.out.size h).below HB4.out.size))
  have HS := Lib.hid (And.intro HB3.out.size (And.intro HB4.out.size HB5.out.size))
  clear hg5 ht5
  go_upto_region 7 with (first
    | (go_at_call 11; refine htk.mono ?_; clear htk; rintro _ w6 ⟨A6, n6, c6, Q, rfl, hy6, hg6, ht6⟩
       obtain ⟨XV, hXV⟩ : ∃ XV, XV = mgV 0 1 A6 n6 c6 := ⟨_, rfl⟩
       rw [show (#[.int .i64 bw0.f, .int .i64 bw0.t, .slice A6 n6 c6] : Array Value) = XV from hXV.symm]
       have H6 := Lib.hid (And.intro hy6 (And.intro hg6 (And.intro ht6 hXV)))
       clear hy6 hg6 ht6 hXV)
    | (refine wpList_store_row (by rfl) 31 (.tmp 5) (.tmp 29) (by rfl) w6.heap.size XV (by rfl) (by rfl) 31 Z0 (heap_alloc_new w6 _) (by rw [H6.out.2.2.2]; exact mg_info _ _ _ _ _) (by rw [H6.out.2.2.2, HZ0.out]; rfl) (by rw [H6.out.2.2.2]; exact mg_one _ _ _ _ _) ?_))
  have hsz6 := H6.out.2.2.1.size
  have hal : Below w6.heap.size w6 ((w6.alloc (.cells Z0 31)).setRow w6.heap.size XV) := below_setRow ((Below.refl _ _).alloc (Nat.le_refl _) _) (Nat.le_refl _) _
  have hq7 : ((w6.alloc (.cells Z0 31)).setRow w6.heap.size XV).heap[w6.heap.size]? = some (.cells XV 31 (0, 0)) := setRow_at (heap_alloc_new w6 _)
  have hg7 := (H6.out.2.1.mono (T := fun k => w.heap.size ≤ k ∧ k < w6.heap.size ∧ ¬ Q k) fun k hk h => ⟨by have h1 := HS.out.1; have h2 := HS.out.2.1; have h3 := HS.out.2.2; rcases h.1 with ((h | h) | h) | h <;> omega, hk, h.2⟩).below hal
  have hy7 := (H6.out.1.mono (T := fun k => Q k ∧ k < w6.heap.size) fun k hk h => ⟨h, hk⟩).below hal
  have hb7 := HB5.out.trans (((H6.out.2.2.1.mono (T := fun k => w.heap.size ≤ k) fun k _ h => by have h1 := HS.out.1; have h2 := HS.out.2.1; rcases h with (h | h) | h <;> omega).below HS.out.2.2).trans (hal.mono (Nat.le_trans HS.out.2.2 hsz6)))
  have H7 := Lib.hid (And.intro hg7 (And.intro hy7 (And.intro hq7 (And.intro hb7 (show w.heap.size ≤ w6.heap.size from Nat.le_trans HS.out.2.2 hsz6)))))
  have HXV := Lib.hid H6.out.2.2.2
  clear hal hq7 hg7 hy7 hb7 hz HZ0 H6 hsz6 HS HB5 HB4 HB3 H1
  generalize (w6.alloc (.cells Z0 31)).setRow w6.heap.size XV = w7 at *
  have hfo := bgfor_any H7.out.1 1
  rw [bw_d] at hfo
  go_upto_region 8 with (go_at_call 17; refine hfo.mono ?_; clear hfo; rintro _ w8 ⟨A8, c8, rfl, hr8, hb8⟩)
  have htc := bgtick_any (H7.out.1.below hb8) (by decide) 0
  rw [bw_e] at htc
  have H8 := Lib.hid (And.intro hb8 hr8)
  clear hb8 hr8
  go_upto_region 9 with (go_at_call 14; refine htc.mono ?_; clear htc; rintro _ w9 ⟨rfl, hg9, ht9⟩)
  have hln := bglen_any hg9
  have hsz8 := H8.out.1.size
  have hq9 : w9.heap[w6.heap.size]? = some (.cells XV 31 (0, 0)) := (ht9.block _ (Nat.lt_of_lt_of_le (lt_of_cells H7.out.2.2.1) hsz8) (fun h => by have := h.2.1; omega)).trans ((H8.out.1.block _ (lt_of_cells H7.out.2.2.1)).trans H7.out.2.2.1)
  have hy9 := (H7.out.2.1.below H8.out.1).turned ht9 fun k _ h1 h2 => h2.2.2 h1.1
  have hc2 : w9.cell? ⟨w6.heap.size, 2, none⟩ = some (.slice A6 n6 c6) := by rw [cell_of_cells hq9, HXV.out]; rfl
  have hc1 : w9.cell? ⟨w6.heap.size, 1, none⟩ = some (.int .i64 1) := by rw [cell_of_cells hq9, HXV.out]; rfl
  have hcs := byt_string hy9
  rw [show (⟨bw0.b.toArray⟩ : ByteArray) = ⟨#[120]⟩ from rfl] at hcs
  have HB9 := Lib.hid ((H7.out.2.2.2.1.trans (H8.out.1.mono H7.out.2.2.2.1.size)).trans ((ht9.mono (T := fun k => w.heap.size ≤ k) fun k _ h => h.1).below (Nat.le_trans H7.out.2.2.2.1.size hsz8)))
  clear hg9 ht9 hq9 hy9 H8 H7 HXV
  go_wp2_with (go_at_call 16; refine hln.mono ?_; clear hln; rintro _ wl ⟨rfl, hbl⟩; have HBL := Lib.hid (HB9.out.trans (hbl.mono HB9.out.size)); clear hbl)
  go_ret
  exact ⟨rfl, HBL.out⟩
end Go.Proofs.Ytogfblfekedefaa
