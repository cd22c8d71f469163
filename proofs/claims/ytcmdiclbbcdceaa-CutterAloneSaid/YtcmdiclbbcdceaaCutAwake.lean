/-
  The document's example for the cutter.
-/
import Derived.Test.YtcmdiclbbcdceaaCutPiecesCode
import Derived.Test.YtcmdiclbbcdceaaOwn
import Derived.Test.YtcmdiclbbcdceaaCel
namespace Go.Proofs.Ytcmdiclbbcdceaa
open Go.RowKit

theorem two_ok : cutErr 2 2 5 = 0 := by decide
theorem two_cfg : (Cfg.mk 2 2 5).Ok := ⟨by decide, by decide, by decide, by decide, by decide⟩
theorem two_ends (b : List UInt8) (h : b.length = 5) : endV 2 2 5 b = [2, 4, 5] ∧ pieV 2 2 5 b = [b.take 2, (b.drop 2).take 2, b.drop 4] := by
  have e : cfgOf 2 2 5 = ⟨2, 2, 5⟩ := rfl
  rw [endV_ok two_ok, pieV_ok two_ok, e]
  have p0 : pieceC ⟨2, 2, 5⟩ b = 2 := by rw [pieceC_alone two_cfg rfl (by omega)]; exact if_pos (by show 2 < b.length; omega)
  have l1 : (b.drop 2).length = 3 := by rw [List.length_drop]; omega
  have p1 : pieceC ⟨2, 2, 5⟩ (b.drop 2) = 2 := by rw [pieceC_alone two_cfg rfl (by omega)]; exact if_pos (by show 2 < (b.drop 2).length; omega)
  have l2 : (b.drop 4).length = 1 := by rw [List.length_drop]; omega
  have p2 : pieceC ⟨2, 2, 5⟩ (b.drop 4) = 1 := by
    rw [pieceC_alone two_cfg rfl (by omega), if_neg (by show ¬ 2 < (b.drop 4).length; omega), l2]
  have l3 : ¬ 0 < (b.drop 5).length := by rw [List.length_drop]; omega
  have d4 : (b.drop 2).drop 2 = b.drop 4 := by rw [List.drop_drop]
  have d5 : (b.drop 4).drop 1 = b.drop 5 := by rw [List.drop_drop]
  constructor
  · rw [endsC_cons _ (by omega), p0, endsC_cons _ (by omega), p1, d4, endsC_cons _ (by omega), p2, d5, endsC_nil _ l3]
    rfl
  · rw [piecesC_cons _ (by omega), p0, piecesC_cons _ (by omega), p1, d4, piecesC_cons _ (by omega), p2, d5, piecesC_nil _ l3, List.take_of_length_le (i := 1) (by omega)]
theorem abcde : (List.drop 4 [97, 98, 99, 100, 101] : List UInt8) = [101] := rfl

set_option maxHeartbeats 4000000 in
theorem cawake_true (w : World) : Calls Try.prog 8 #[] w fun e w' => e = .returned (.bool true) ∧ Below w.heap.size w w' := by
  have hmk : (Instr.makeSlice 22 (.int .i64 5) (.int .i64 5)).run Try.prog w = _ := make_bytes w 5 (by omega)
  have hab := fun (w' : World) => byt_new (w := w') [97, 98, 99, 100, 101] 5 (0, 0) (by simp)
  have hb1 : Below w.heap.size w (w.alloc (.cells (u8s (List.replicate 5 0)).toArray 5)) := (Below.refl _ _).alloc (Nat.le_refl _) _
  have he := cutends_any (byt_new (w := w) (List.replicate 5 0) 5 (0, 0) (by simp)) (by simp) 2 2 5
  have hz := (two_ends (List.replicate 5 0) (by simp)).1
  rw [hz, two_ok] at he
  simp only [List.length_replicate] at he
  clear hz
  go_enter Try.func8, Try.ntmps8
  go_wp2_with (go_at_call 9; refine he.mono ?_; clear he; rintro _ w1 ⟨A1, n1, c1, rfl, hi1, hb2⟩; obtain ⟨w2, hcv, hce⟩ := conv_mark (P := Try.prog) (B := w1.heap.size) (w1.alloc (.cells #[.int .u8 97, .int .u8 98, .int .u8 99, .int .u8 100, .int .u8 101] 5)) 22 5 Try.underlying22 Try.underlying5 w1.heap.size 5 5 (Nat.le_refl _); have H1 := Lib.hid (And.intro hi1 (And.intro (hb1.trans (hb2.mono hb1.size)) hce)); clear hi1 hb1 hb2 hce)
  have hb12 : Below w1.heap.size w1 w2 := by
    have h2 := H1.out.2.2
    exact ⟨h2.os, h2.tape, h2.output, Nat.le_trans (by simp) h2.size, fun k hk => (h2.block k (by simp; omega) hk).trans (Below.heap_alloc _ _ _ hk)⟩
  have hbyt : Byt w2 (fun _ => True) (some ⟨w1.heap.size, 0, none⟩) 5 5 [97, 98, 99, 100, 101] := (show Byt (w1.alloc (.cells #[.int .u8 97, .int .u8 98, .int .u8 99, .int .u8 100, .int .u8 101] 5)) (fun _ => True) (some ⟨w1.heap.size, 0, none⟩) 5 5 [97, 98, 99, 100, 101] from hab w1).cel H1.out.2.2
  refine (cutpieces_any hbyt (by omega) 2 2 5).mono ?_
  rintro _ w3 ⟨A2, n2, c2, rfl, hr, hb3⟩
  have hz := (two_ends [97, 98, 99, 100, 101] rfl).2
  rw [hz] at hr
  rw [two_ok]
  have hb13 := hb12.trans (hb3.mono hb12.size)
  have hi3 := H1.out.1.below hb13
  obtain rfl : n1 = 3 := hi3.len.symm
  obtain rfl : n2 = 3 := hr.len.symm
  obtain ⟨q, o, rfl, _, _, hc⟩ := hi3.row (by omega)
  have hc0 : w3.cell? ⟨q, o, none⟩ = some (.int .i64 2) := hc 0 (by omega)
  have hc1 : w3.cell? ⟨q, o + 1, none⟩ = some (.int .i64 4) := hc 1 (by omega)
  have hc2 : w3.cell? ⟨q, o + 2, none⟩ = some (.int .i64 5) := hc 2 (by omega)
  obtain ⟨g, p, rfl, _, _, hp⟩ := hr.row (by omega)
  obtain ⟨A5, n5, c5, hp2, hby⟩ := hp 2 (by omega)
  have hs := byt_string (show Byt w3 (fun x => w2.heap.size ≤ x) A5 n5 c5 [101] from hby)
  have hck := cutcheck_any 0 0 0 w3
  have hk : cutErr 0 0 0 = 1 := by decide
  rw [hk] at hck
  have HB3 := Lib.hid (H1.out.2.1.trans (hb13.mono H1.out.2.1.size))
  clear hcv hab hmk hbyt hb12 hb13 hr hb3 hi3 hz hc hp hby hk
  go_wp2_with (go_at_call 12; refine hck.mono ?_; clear hck; rintro _ w4 ⟨rfl, hb4⟩)
  go_ret
  exact ⟨rfl, HB3.out.trans (hb4.mono HB3.out.size)⟩
end Go.Proofs.Ytcmdiclbbcdceaa
