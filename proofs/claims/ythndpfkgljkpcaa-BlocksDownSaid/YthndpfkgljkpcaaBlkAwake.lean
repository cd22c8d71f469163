/-
  A disk and a row of bytes beside it; the law's example.
-/
import Derived.Test.YthndpfkgljkpcaaBlkDisk
namespace Go.Proofs.Ythndpfkgljkpcaa
open Go.RowKit

/-- In a call that began at w0: the disk g, and the row q beside it. -/
structure Bes (w0 W : World) (g : Nat) (d : DM) (q : Nat) (l : List UInt8) : Prop where
  dk : Dk W (fun x => w0.heap.size ≤ x ∧ x ≠ q) g d
  row : W.heap[q]? = some (.cells (u8s l).toArray 5 (0, 0))
  bel : Below w0.heap.size w0 W
  at_ : w0.heap.size ≤ q
section
variable {w0 W W' : World} {g q : Nat} {d d' : DM} {l : List UInt8}
theorem Bes.set (h : Bes w0 W g d q l) (i : Nat) (x : UInt8) : Bes w0 (W.setCell ⟨q, i, none⟩ (.int .u8 (x.toNat : Int))) g d q (l.set i x) :=
  ⟨h.dk.turned (T := fun x => x = q) ((Turned.refl (fun x => x = q) W).set (show q = q from rfl) i _) fun _ _ h1 h2 => h1.2 h2, u8s_cells_set h.row i x, h.bel.setCell h.at_ _, h.at_⟩
theorem Bes.turn (h : Bes w0 W g d q l) (hd : Dk W' (fun x => w0.heap.size ≤ x ∧ x ≠ q) g d') (ht : Turned (fun x => w0.heap.size ≤ x ∧ x ≠ q) W W') : Bes w0 W' g d' q l :=
  ⟨hd, (ht.block _ (lt_of_cells h.row) fun h => h.2 rfl).trans h.row, h.bel.trans ((ht.mono fun _ _ h => h.1).below h.bel.size), h.at_⟩
theorem Bes.below (h : Bes w0 W g d q l) (hb : Below W.heap.size W W') : Bes w0 W' g d q l :=
  ⟨h.dk.below hb, (hb.block _ (lt_of_cells h.row)).trans h.row, h.bel.trans (hb.mono h.bel.size), h.at_⟩
theorem Bes.byt (h : Bes w0 W g d q l) (hl : l.length ≤ 1000000) : Byt W (fun x => x = q) (some ⟨q, 0, none⟩) l.length l.length l := by
  have h1 := byt_whole h.row hl
  refine ⟨h1.len, h1.cap, h1.max, fun h0 => ?_⟩
  obtain ⟨b, off, e, _, h3, h4⟩ := h1.row h0
  injection e with e
  injection e with e1 e2
  subst e1 e2
  exact ⟨q, 0, rfl, rfl, h3, h4⟩
theorem Bes.write (h : Bes w0 W g d q l) (hl : l.length ≤ 1000000) (i : Int) :
    Calls Try.prog 11 #[.pointer (some ⟨g, 0, none⟩), .int .i64 i, .slice (some ⟨q, 0, none⟩) l.length l.length] W fun e w' => e = .returned (.int .i64 (writeM d i l).2) ∧ Bes w0 w' g (writeM d i l).1 q l := by
  refine (bwrite_any h.dk (h.byt hl) (fun x _ h1 h2 => h2.2 h1) i).mono ?_
  rintro _ w' ⟨rfl, h2, h3⟩
  exact ⟨rfl, h.turn h2 h3⟩
theorem Bes.stop (h : Bes w0 W g d q l) (after torn : Int) (ha : -9223372036854775808 ≤ after ∧ after ≤ 9223372036854775807) :
    Calls Try.prog 13 #[.pointer (some ⟨g, 0, none⟩), .int .i64 after, .int .i64 torn] W fun e w' => e = .returned (.tuple #[]) ∧ Bes w0 w' g (stopM d after torn) q l := by
  refine (bstop_any h.dk after torn ha).mono ?_
  rintro _ w' ⟨rfl, h2, h3⟩
  exact ⟨rfl, h.turn h2 h3⟩
theorem Bes.restart (h : Bes w0 W g d q l) :
    Calls Try.prog 17 #[.pointer (some ⟨g, 0, none⟩)] W fun e w' => e = .returned (.tuple #[]) ∧ Bes w0 w' g (restartM d) q l := by
  refine (brestart_any h.dk).mono ?_
  rintro _ w' ⟨rfl, h2, h3⟩
  exact ⟨rfl, h.turn h2 h3⟩
end

def aw0 : DM := (newM 2).1
def awA : List UInt8 := List.replicate 128 0
def awB : List UInt8 := awA.set 0 7
def awC : List UInt8 := (awB.set 0 8).set 1 9
def aw1 : DM := (writeM aw0 1 awB).1
def aw2 : DM := stopM aw1 0 1
def aw3 : DM := (writeM aw2 1 awC).1
def aw4 : DM := restartM aw3
theorem awB_len : awB.length = 128 := by decide +kernel
theorem awC_len : awC.length = 128 := by decide +kernel
theorem aw_one : (writeM aw0 1 awB).2 = 0 := by decide +kernel
theorem aw_two : (writeM aw2 1 awC).2 = 30 := by decide +kernel
theorem aw_down : aw3.down = true := by decide +kernel
theorem aw_read : (readM aw4 1).2 = 0 ∧ (readM aw4 1).1.length = 128 ∧ (readM aw4 1).1[0]?.getD 0 = 8 ∧ (readM aw4 1).1[1]?.getD 0 = 0 := by decide +kernel
theorem aw_len : aw4.l.length = 2 := by decide +kernel

set_option maxHeartbeats 4000000 in
theorem bawake_true (w : World) : Calls Try.prog 7 #[] w fun e w' => e = .returned (.bool true) ∧ Below w.heap.size w w' := by
  have hnew := bnew_ok 2 (by omega) (by omega) w
  have hmk : ∀ w : World, (Instr.makeSlice 35 (.int .i64 128) (.int .i64 128)).run Try.prog w = .ok (.slice (some ⟨w.heap.size, 0, none⟩) 128 128) (w.alloc (.cells (u8s awA).toArray 5)) := fun w => make_bytes w 128 (by omega)
  go_enter Try.func7, Try.ntmps7
  go_upto_region 4 with (go_at_call 8; refine hnew.mono ?_; clear hnew; rintro _ w1 ⟨g, rfl, hd1, hb1⟩)
  go_upto_region 5 with fail
  have h2 : Bes w (w1.alloc (.cells (u8s awA).toArray 5)) g aw0 w1.heap.size awA := ⟨(hd1.mono fun x hx h => ⟨h, by omega⟩).below ((Below.refl _ _).alloc (Nat.le_refl _) _), heap_alloc_new w1 _, hb1.trans ((Below.refl _ _).alloc hb1.size _), hb1.size⟩
  clear hd1 hb1 hmk
  generalize w1.alloc (.cells (u8s awA).toArray 5) = w2 at *
  generalize w1.heap.size = q at *
  have H2 := Lib.hid h2
  have hc := u8s_cell h2.row 0 (by decide +kernel)
  have hf := free_of_cells h2.row 0
  clear h2
  go_upto_region 6 with fail
  have h3 : Bes w (w2.setCell ⟨q, 0, none⟩ (.int .u8 7)) g aw0 q awB := H2.out.set 0 7
  clear hc hf
  generalize w2.setCell ⟨q, 0, none⟩ (.int .u8 7) = w3 at *
  have hw := h3.write (by decide +kernel) 1
  rw [awB_len, aw_one] at hw
  clear h3 H2
  go_upto_region 7 with (go_at_call 11; refine hw.mono ?_; clear hw; rintro _ w4 ⟨rfl, h4⟩)
  have hs := h4.stop 0 1 (by decide)
  clear h4
  go_upto_region 8 with (go_at_call 13; refine hs.mono ?_; clear hs; rintro _ w5 ⟨rfl, h5⟩)
  have H5 := Lib.hid h5
  have hc := u8s_cell h5.row 0 (by decide +kernel)
  have hf := free_of_cells h5.row 0
  clear h5
  go_upto_region 9 with fail
  have h6 : Bes w (w5.setCell ⟨q, 0, none⟩ (.int .u8 8)) g aw2 q (awB.set 0 8) := H5.out.set 0 8
  clear hc hf H5
  generalize w5.setCell ⟨q, 0, none⟩ (.int .u8 8) = w6 at *
  have H6 := Lib.hid h6
  have hc := u8s_cell h6.row 1 (by decide +kernel)
  have hf := free_of_cells h6.row 1
  clear h6
  go_upto_region 10 with fail
  have h7 : Bes w (w6.setCell ⟨q, 1, none⟩ (.int .u8 9)) g aw2 q awC := H6.out.set 1 9
  clear hc hf H6
  generalize w6.setCell ⟨q, 1, none⟩ (.int .u8 9) = w7 at *
  have hw := h7.write (by decide +kernel) 1
  rw [awC_len, aw_two] at hw
  clear h7
  go_upto_region 11 with (go_at_call 11; refine hw.mono ?_; clear hw; rintro _ w8 ⟨rfl, h8⟩)
  have h8' : Bes w w8 g aw3 q awC := h8
  have hdn := bdown_any h8'.dk
  rw [aw_down] at hdn
  have H8 := Lib.hid h8'
  clear h8 h8'
  go_upto_region 12 with (go_at_call 21; refine hdn.mono ?_; clear hdn; rintro _ _ ⟨rfl, rfl⟩)
  have hr := H8.out.restart
  clear H8
  go_upto_region 13 with (go_at_call 17; refine hr.mono ?_; clear hr; rintro _ w9 ⟨rfl, h9⟩)
  have h9' : Bes w w9 g aw4 q awC := h9
  have hrd := bread_any h9'.dk 1
  rw [aw_read.1] at hrd
  have H9 := Lib.hid h9'
  clear h9 h9'
  go_upto_region 14 with (go_at_call 15; refine hrd.mono ?_; clear hrd; rintro _ w10 ⟨A, n, c, rfl, hy, hb, _⟩)
  obtain rfl : n = 128 := by rw [← hy.len]; exact aw_read.2.1
  obtain ⟨p, o, rfl, _, _, hcl⟩ := hy.row (by omega)
  have hc0 := hcl 0 (by omega)
  have hc1 := hcl 1 (by omega)
  rw [aw_read.2.2.1] at hc0
  rw [aw_read.2.2.2] at hc1
  have hc0 : w10.cell? ⟨p, o, none⟩ = some (.int .u8 8) := hc0
  have hc1 : w10.cell? ⟨p, o + 1, none⟩ = some (.int .u8 0) := hc1
  have hln := blen_any (H9.out.below hb).dk
  rw [aw_len] at hln
  have HF := Lib.hid (H9.out.below hb).bel
  clear hy hcl hb H9
  go_wp2_with (go_at_call 20; refine hln.mono ?_; clear hln; rintro _ _ ⟨rfl, rfl⟩)
  go_ret
  exact ⟨rfl, HF.out⟩
end Go.Proofs.Ythndpfkgljkpcaa
