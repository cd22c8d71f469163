/-
  The statement WalNone: its walk.
-/
import Derived.Test.YtkhbmgmppoepjaaWalAwake
namespace Go.Proofs.Ytkhbmgmppoepjaa
open Go.RowKit

def xn0 : DM := (newM ((10 : Nat) : Int)).1
theorem xn0_ok : xn0.l.length = 10 ∧ xn0.down = false := by decide +kernel
set_option maxHeartbeats 4000000 in
set_option maxRecDepth 100000 in
theorem wnone_yes (f n least : Nat) (hf : f ≤ 10) (h1 : 1 ≤ n) (h2 : n ≤ 10 - f) (hls : least < 18446744073709551616) (w : World) :
    Calls Try.prog 6 #[.int .i64 (f : Int), .int .i64 (n : Int), .int .u64 (least : Int)] w fun e w' => e = .returned (.bool true) ∧ Below w.heap.size w w' := by
  have haw := wawake_true w
  have hsub : IntKind.i64.wrap (10 - (f : Int)) = 10 - (f : Int) := IntWalk.i64_in _ (by omega)
  have q1 : (0 : Int) ≤ (f : Int) := by omega
  have q2 : (f : Int) ≤ 10 := by omega
  have q3 : (1 : Int) ≤ (n : Int) := by omega
  have q4 : (n : Int) ≤ 10 - (f : Int) := by omega
  have HL := Lib.hid hls
  clear hls
  go_enter Try.func6, Try.ntmps6
  go_upto_region 5 with (go_at_call 9; refine haw.mono ?_; clear haw; rintro _ w1 ⟨rfl, hb1⟩)
  have hnew := Dsk.new hb1 10 (by omega) (by omega)
  clear hb1
  go_upto_region 6 with (go_at_call 10; refine hnew.mono ?_; clear hnew; rintro _ w2 ⟨g, rfl, hd2⟩)
  have hd2 : Dsk w w2.heap.size w2 g xn0 := hd2
  have hbn := wbegin_nil 0 1 1 w2
  go_upto_region 7 with (go_at_call 20; refine hbn.mono ?_; clear hbn; rintro _ w3 ⟨rfl, hb3⟩)
  have hbg := (hd2.below hb3).begin f n least (by rw [xn0_ok.1]; omega) h1 xn0_ok.2 (by rw [xn0_ok.1]; omega) HL.out
  clear hd2 hb3
  go_upto_region 8 with (go_at_call 20; refine hbg.mono ?_; clear hbg; rintro _ w4 ⟨p, rfl, _, hd4, _⟩)
  have H4 := Lib.hid hd4.bel
  clear hd4
  go_wp2_with (first
    | (go_at_call 14; refine (wadd_nil none 0 0 (by omega) w4).mono ?_; rintro _ _ ⟨rfl, rfl⟩)
    | (go_at_call 26; refine (wrecords_nil w4).mono ?_; rintro _ w5 ⟨⟨A5, c5, rfl⟩, hb5⟩; have H5 := Lib.hid (H4.out.trans (hb5.mono H4.out.size)); clear hb5)
    | (go_at_call 27; refine (wnext_nil _).mono ?_; rintro _ _ ⟨rfl, rfl⟩)
    | (go_at_call 28; refine (wfirst_nil _).mono ?_; rintro _ _ ⟨rfl, rfl⟩)
    | (go_at_call 29; refine (wfree_nil _).mono ?_; rintro _ _ ⟨rfl, rfl⟩))
  go_ret
  exact ⟨rfl, H5.out⟩
set_option maxHeartbeats 4000000 in
set_option maxRecDepth 100000 in
theorem wnone_no (from_ n : Int) (least : Nat) (hf : -9223372036854775808 ≤ from_ ∧ from_ ≤ 9223372036854775807) (hn : -9223372036854775808 ≤ n ∧ n ≤ 9223372036854775807) (hls : least < 18446744073709551616) (hno : from_ < 0 ∨ n < 1 ∨ 10 < from_ ∨ 10 - from_ < n) (w : World) :
    Calls Try.prog 6 #[.int .i64 from_, .int .i64 n, .int .u64 (least : Int)] w fun e w' => e = .returned (.bool true) ∧ Below w.heap.size w w' := by
  have haw := wawake_true w
  have HL := Lib.hid (And.intro hls (And.intro hf (And.intro hn hno)))
  clear hls hf hn hno
  go_enter Try.func6, Try.ntmps6
  go_upto_region 5 with (go_at_call 9; refine haw.mono ?_; clear haw; rintro _ w1 ⟨rfl, hb1⟩)
  have hnew := Dsk.new hb1 10 (by omega) (by omega)
  clear hb1
  go_upto_region 6 with (go_at_call 10; refine hnew.mono ?_; clear hnew; rintro _ w2 ⟨g, rfl, hd2⟩)
  have hd2 : Dsk w w2.heap.size w2 g xn0 := hd2
  have hbn := wbegin_nil 0 1 1 w2
  go_upto_region 7 with (go_at_call 20; refine hbn.mono ?_; clear hbn; rintro _ w3 ⟨rfl, hb3⟩)
  have hbg := wbegin_any (hd2.below hb3).dk from_ n HL.out.2.1 HL.out.2.2.1 least HL.out.1
  have hE : openErr xn0.l.length xn0.down from_ n = 1 := by
    rw [openErr, xn0_ok.1, if_pos]
    have := HL.out.2.2.2
    omega
  rw [hE] at hbg
  have HB3 := Lib.hid (hd2.below hb3).bel
  clear hd2 hb3 hE
  go_upto_region 8 with (go_at_call 20; refine hbg.mono ?_; clear hbg; rintro _ w4 ⟨h4, hb4⟩; rw [if_neg (by decide)] at h4; subst h4)
  have H4 := Lib.hid (HB3.out.trans (hb4.mono HB3.out.size))
  clear hb4 HB3
  by_cases q1 : from_ < 0
  · have q1' : ¬ (0 : Int) ≤ from_ := by omega
    clear q1
    go_wp2_with (first
      | (go_at_call 14; refine (wadd_nil none 0 0 (by omega) w4).mono ?_; rintro _ _ ⟨rfl, rfl⟩)
      | (go_at_call 26; refine (wrecords_nil w4).mono ?_; rintro _ w5 ⟨⟨A5, c5, rfl⟩, hb5⟩; have H5 := Lib.hid (H4.out.trans (hb5.mono H4.out.size)); clear hb5)
      | (go_at_call 27; refine (wnext_nil _).mono ?_; rintro _ _ ⟨rfl, rfl⟩)
      | (go_at_call 28; refine (wfirst_nil _).mono ?_; rintro _ _ ⟨rfl, rfl⟩)
      | (go_at_call 29; refine (wfree_nil _).mono ?_; rintro _ _ ⟨rfl, rfl⟩))
    go_ret
    exact ⟨rfl, H5.out⟩
  · have q1' : (0 : Int) ≤ from_ := by omega
    by_cases q2 : 10 < from_
    · have q2' : ¬ from_ ≤ 10 := by omega
      clear q1 q2
      go_wp2_with (first
        | (go_at_call 14; refine (wadd_nil none 0 0 (by omega) w4).mono ?_; rintro _ _ ⟨rfl, rfl⟩)
        | (go_at_call 26; refine (wrecords_nil w4).mono ?_; rintro _ w5 ⟨⟨A5, c5, rfl⟩, hb5⟩; have H5 := Lib.hid (H4.out.trans (hb5.mono H4.out.size)); clear hb5)
        | (go_at_call 27; refine (wnext_nil _).mono ?_; rintro _ _ ⟨rfl, rfl⟩)
        | (go_at_call 28; refine (wfirst_nil _).mono ?_; rintro _ _ ⟨rfl, rfl⟩)
        | (go_at_call 29; refine (wfree_nil _).mono ?_; rintro _ _ ⟨rfl, rfl⟩))
      go_ret
      exact ⟨rfl, H5.out⟩
    · have q2' : from_ ≤ 10 := by omega
      by_cases q3 : n < 1
      · have q3' : ¬ (1 : Int) ≤ n := by omega
        clear q1 q2 q3
        go_wp2_with (first
          | (go_at_call 14; refine (wadd_nil none 0 0 (by omega) w4).mono ?_; rintro _ _ ⟨rfl, rfl⟩)
          | (go_at_call 26; refine (wrecords_nil w4).mono ?_; rintro _ w5 ⟨⟨A5, c5, rfl⟩, hb5⟩; have H5 := Lib.hid (H4.out.trans (hb5.mono H4.out.size)); clear hb5)
          | (go_at_call 27; refine (wnext_nil _).mono ?_; rintro _ _ ⟨rfl, rfl⟩)
          | (go_at_call 28; refine (wfirst_nil _).mono ?_; rintro _ _ ⟨rfl, rfl⟩)
          | (go_at_call 29; refine (wfree_nil _).mono ?_; rintro _ _ ⟨rfl, rfl⟩))
        go_ret
        exact ⟨rfl, H5.out⟩
      · have q3' : (1 : Int) ≤ n := by omega
        have hsub : IntKind.i64.wrap (10 - from_) = 10 - from_ := IntWalk.i64_in _ (by omega)
        have q4 : ¬ n ≤ 10 - from_ := by have := HL.out.2.2.2; omega
        clear q1 q2 q3
        go_wp2_with (first
          | (go_at_call 14; refine (wadd_nil none 0 0 (by omega) w4).mono ?_; rintro _ _ ⟨rfl, rfl⟩)
          | (go_at_call 26; refine (wrecords_nil w4).mono ?_; rintro _ w5 ⟨⟨A5, c5, rfl⟩, hb5⟩; have H5 := Lib.hid (H4.out.trans (hb5.mono H4.out.size)); clear hb5)
          | (go_at_call 27; refine (wnext_nil _).mono ?_; rintro _ _ ⟨rfl, rfl⟩)
          | (go_at_call 28; refine (wfirst_nil _).mono ?_; rintro _ _ ⟨rfl, rfl⟩)
          | (go_at_call 29; refine (wfree_nil _).mono ?_; rintro _ _ ⟨rfl, rfl⟩))
        go_ret
        exact ⟨rfl, H5.out⟩
theorem walk_wnone (from_ n : Int) (least : Nat) (hf : -9223372036854775808 ≤ from_ ∧ from_ ≤ 9223372036854775807) (hn : -9223372036854775808 ≤ n ∧ n ≤ 9223372036854775807) (hls : least < 18446744073709551616) (w : World) :
    Calls Try.prog 6 #[.int .i64 from_, .int .i64 n, .int .u64 (least : Int)] w fun e w' => e = .returned (.bool true) ∧ Below w.heap.size w w' := by
  by_cases h : from_ < 0 ∨ n < 1 ∨ 10 < from_ ∨ 10 - from_ < n
  · exact wnone_no from_ n least hf hn hls h w
  · obtain ⟨f, rfl⟩ := Int.eq_ofNat_of_zero_le (show 0 ≤ from_ by omega)
    obtain ⟨k, rfl⟩ := Int.eq_ofNat_of_zero_le (show 0 ≤ n by omega)
    exact wnone_yes f k least (by omega) (by omega) (by omega) hls w
theorem law_wnone {x y z : Int} (hx : (Lit.int .i64 x).wf = true) (hy : (Lit.int .i64 y).wf = true) (hz : (Lit.int .u64 z).wf = true) {w : World} :
    Calls Try.prog 6 #[.int .i64 x, .int .i64 y, .int .u64 z] w fun e w' => e = .returned (.bool true) ∧ Below w.heap.size w w' := by
  have bx := bounds_i64 hx
  have by_ := bounds_i64 hy
  have bz := bounds_u64 hz
  obtain ⟨z, rfl⟩ := Int.eq_ofNat_of_zero_le bz.1
  exact walk_wnone x y z (by omega) (by omega) (by omega) w
end Go.Proofs.Ytkhbmgmppoepjaa
