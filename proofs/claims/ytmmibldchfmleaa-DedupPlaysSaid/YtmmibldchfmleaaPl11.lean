/-
  Dedup, the laws': id.
-/
import Derived.Test.YtmmibldchfmleaaPl09
import Derived.Test.YtmmibldchfmleaaPl10
import Derived.Test.YtmmibldchfmleaaPl08
import Derived.Test.YtmmibldchfmleaaPl07
import Derived.Test.YtmmibldchfmleaaPl02
import Derived.Test.YtmmibldchfmleaaPl06
import Derived.Test.YtmmibldchfmleaaPl05
namespace Go.Proofs.Ytmmibldchfmleaa
open Go.RowKit Go.Maps Codec
set_option maxHeartbeats 16000000 in
set_option maxRecDepth 100000 in
theorem dlike_any {w : World} {p b : Nat} {S : Nat → Prop} {A : Option Addr} {n c : Nat} {t : Tv Pl} (hi : Ix w p b t) (he : Es w S A n c t) (hok : OkT t) (hn : n ≤ 100000) :
    Calls Try.prog 17 #[.pointer (some ⟨p, 0, none⟩), .slice A n c] w fun e w' => e = .returned (.bool true) ∧ Below w.heap.size w w' := by
 obtain ⟨N, hN⟩ : ∃ N, N = t.length := ⟨_, rfl⟩
 obtain rfl : n = N := by rw [hN]; exact he.len.symm
 obtain ⟨M, hM⟩ : ∃ M, M = (packT t).length := ⟨_, rfl⟩
 have hMn : M ≤ n := by rw [hM, hN]; exact packT_len t
 have hids := ixids_any hi (by omega)
 rw [← hN] at hids
 have HI := Lib.hid (And.intro hi (And.intro he (And.intro hok (And.intro hn (And.intro hN (And.intro hM hMn))))))
 obtain ⟨P0, hP0⟩ : ∃ P0, P0 = plC zPl := ⟨_, rfl⟩
 have hzp : ∀ W, (zeroValue 37).run Try.prog W = .ok (.agg P0) W := fun W => by rw [hP0]; exact zero_pl W
 have HP0 : Hid (P0.size = 33) := Lib.hid (by rw [hP0, plC_size zPl_len])
 clear hP0 hi he hok hn hN hM hMn
 go_enter Try.func17, Try.ntmps17
 go_upto_region 4 with (first
  | (go_at_call 22; refine hids.mono ?_; clear hids; rintro _ w1 ⟨A1, c1, rfl, hid1, hb1⟩
     have hpk := ixpacks_any (HI.out.1.below hb1) (by have := HI.out.2.2.2.1; have := HI.out.2.2.2.2.1; omega)
     rw [← HI.out.2.2.2.2.2.1] at hpk
     have H1 := Lib.hid (And.intro hid1 hb1)
     clear hid1 hb1)
  | (go_at_call 21; refine hpk.mono ?_; clear hpk; rintro _ w2 ⟨A2, c2, A3, c3, rfl, hid2, hin2, hb2⟩
     have hb12 := H1.out.2.trans (hb2.mono H1.out.2.size)
     have hrp := drpacks_any (HI.out.2.1.below hb12) HI.out.2.2.2.1
     rw [← HI.out.2.2.2.2.2.1] at hrp
     have H2 := Lib.hid (And.intro (H1.out.1.below hb2) (And.intro hid2 (And.intro hin2 hb12)))
     clear hid2 hin2 hb2 hb12 H1)
  | (go_at_call 23; refine hrp.mono ?_; clear hrp; rintro _ w3 ⟨A4, c4, A5, c5, rfl, hid3, hin3, hb3⟩))
 have H3 : Hid (Ids w3 (fun _ => True) A1 n c1 (t.map (·.1)) ∧ Ids w3 (fun _ => True) A2 M c2 ((packT t).map (·.1)) ∧ Ints .i64 w3 (fun _ => True) A3 M c3 (cntI (packT t)) ∧ Ids w3 (fun _ => True) A4 M c4 ((packT t).map (·.1)) ∧ Ints .i64 w3 (fun _ => True) A5 M c5 (cntI (packT t)) ∧ Below w.heap.size w w3) :=
  Lib.hid ⟨(H2.out.1.below hb3).mono fun _ _ _ => trivial, (H2.out.2.1.below hb3).mono fun _ _ _ => trivial, (H2.out.2.2.1.below hb3).mono fun _ _ _ => trivial, hid3.mono fun _ _ _ => trivial, hin3.mono fun _ _ _ => trivial, H2.out.2.2.2.trans (hb3.mono H2.out.2.2.2.size)⟩
 clear hid3 hin3 hb3 H2
 obtain ⟨BS, hBS⟩ : ∃ BS, BS = ixB t := ⟨_, rfl⟩
 have HP : Hid (∀ W, Below w3.drew.heap.size w3.drew W → (Calls Try.prog 19 #[.pointer (some ⟨p, 0, none⟩)] W fun e w' => ∃ A c, e = .returned (.slice A BS.length c) ∧ Byt w' (fun _ => True) A BS.length c BS ∧ Below W.heap.size W w') ∧
     (Calls Try.prog 24 #[.slice A n c] W fun e w' => e = .returned (.string (st BS)) ∧ Below W.heap.size W w')) := Lib.hid fun W hW => by
  have hbw : Below w.heap.size w W := (below_drew H3.out.2.2.2.2.2).trans (hW.mono (below_drew H3.out.2.2.2.2.2).size)
  rw [hBS]
  exact ⟨(ixput_any (HI.out.1.below hbw) (by have := HI.out.2.2.2.1; have := HI.out.2.2.2.2.1; omega) HI.out.2.2.1).mono (by rintro _ w' ⟨A, c, rfl, h1, h2⟩; exact ⟨A, c, rfl, h1.mono (fun _ _ _ => trivial), h2⟩), drput_any (HI.out.2.1.below hbw) HI.out.2.2.1 HI.out.2.2.2.1⟩
 clear hBS
 refine wp_region_grow (fun W W' => Below W.heap.size W W') (Grow.nth [fun v _ => v = .slice A1 n c1, fun v _ => v = .int .i64 (n : Int), fun v _ => v = .slice A n c, fun v _ => v = .int .i64 (n : Int), fun v _ => v = .bool false, fun v _ => v = .bool false, fun v _ => v = .slice A2 M c2, fun v _ => v = .int .i64 (M : Int), fun v _ => v = .slice A4 M c4, fun v _ => v = .int .i64 (M : Int), fun v _ => v = .bool false, fun v _ => v = .bool false, fun v _ => v = .bool false, fun v _ => v = .slice A3 M c3, fun v _ => v = .int .i64 (M : Int), fun v _ => v = .slice A5 M c5, fun v _ => v = .int .i64 (M : Int), fun v _ => v = .bool false, fun v _ => v = .bool false, fun v _ => v = .bool false, fun v _ => v = .slice A2 M c2, fun v _ => v = .int .i64 (M : Int), fun v _ => v = .slice A3 M c3, fun v _ => v = .int .i64 (M : Int), fun v _ => v = .bool false, fun v _ => v = .bool false, fun v _ => v = .bool false, fun v _ => v = .pointer (some ⟨p, 0, none⟩), fun v W => ∃ A c, v = .slice A BS.length c ∧ Byt W (fun _ => True) A BS.length c BS, fun v _ => v = .string (st BS), fun v _ => v = .slice A n c, fun v _ => v = .string (st BS), fun v _ => v = .bool false, fun v _ => v = .bool false]) 136 (by kernel_rfl) (by kernel_rfl) (by rfl) (fun W => Below.refl _ W) (fun _ _ _ h1 h2 => h1.trans (h2.mono h1.size)) (Grow.mono_nth ?gmono) ?gsteps ?gfin
 case gmono => exact ⟨fun _ _ _ h _ => h, fun _ _ _ h _ => h, fun _ _ _ h _ => h, fun _ _ _ h _ => h, fun _ _ _ h _ => h, fun _ _ _ h _ => h, fun _ _ _ h _ => h, fun _ _ _ h _ => h, fun _ _ _ h _ => h, fun _ _ _ h _ => h, fun _ _ _ h _ => h, fun _ _ _ h _ => h, fun _ _ _ h _ => h, fun _ _ _ h _ => h, fun _ _ _ h _ => h, fun _ _ _ h _ => h, fun _ _ _ h _ => h, fun _ _ _ h _ => h, fun _ _ _ h _ => h, fun _ _ _ h _ => h, fun _ _ _ h _ => h, fun _ _ _ h _ => h, fun _ _ _ h _ => h, fun _ _ _ h _ => h, fun _ _ _ h _ => h, fun _ _ _ h _ => h, fun _ _ _ h _ => h, fun _ _ _ h _ => h, fun _ _ _ ⟨A, c, h1, h2⟩ hg => ⟨A, c, h1, h2.below hg⟩, fun _ _ _ h _ => h, fun _ _ _ h _ => h, fun _ _ _ h _ => h, fun _ _ _ h _ => h, fun _ _ _ h _ => h, trivial⟩
 case gsteps =>
  show Grow.allBelow _ 34
  refine And.intro ?_ ?s33
  refine And.intro ?_ ?s32
  refine And.intro ?_ ?s31
  refine And.intro ?_ ?s30
  refine And.intro ?_ ?s29
  refine And.intro ?_ ?s28
  refine And.intro ?_ ?s27
  refine And.intro ?_ ?s26
  refine And.intro ?_ ?s25
  refine And.intro ?_ ?s24
  refine And.intro ?_ ?s23
  refine And.intro ?_ ?s22
  refine And.intro ?_ ?s21
  refine And.intro ?_ ?s20
  refine And.intro ?_ ?s19
  refine And.intro ?_ ?s18
  refine And.intro ?_ ?s17
  refine And.intro ?_ ?s16
  refine And.intro ?_ ?s15
  refine And.intro ?_ ?s14
  refine And.intro ?_ ?s13
  refine And.intro ?_ ?s12
  refine And.intro ?_ ?s11
  refine And.intro ?_ ?s10
  refine And.intro ?_ ?s9
  refine And.intro ?_ ?s8
  refine And.intro ?_ ?s7
  refine And.intro ?_ ?s6
  refine And.intro ?_ ?s5
  refine And.intro ?_ ?s4
  refine And.intro ?_ ?s3
  refine And.intro ?_ ?s2
  refine And.intro ?_ ?s1
  refine And.intro ?_ ?s0
  exact trivial
  case s0 =>
   refine Grow.step_in (by rfl) (by rfl) ?_
   intro E W ec eg ef hG hd hu R HR
   have e5 : E (.tmp 5) = .slice A1 n c1 := hu 5 (by kernel_rfl)
   clear hd hu
   go_simp
   exact HR.out _ _ (Below.refl _ _) rfl
  case s1 =>
   refine Grow.step_in (by rfl) (by rfl) ?_
   intro E W ec eg ef hG hd hu R HR
   have e26 : E (.tmp 26) = .slice A1 n c1 := hd 0 26 (by kernel_rfl)
   clear hd hu
   go_simp
   exact HR.out _ _ (Below.refl _ _) rfl
  case s2 =>
   refine Grow.step_in (by rfl) (by rfl) ?_
   intro E W ec eg ef hG hd hu R HR
   have e1 : E (.tmp 1) = .slice A n c := hu 1 (by kernel_rfl)
   clear hd hu
   go_simp
   exact HR.out _ _ (Below.refl _ _) rfl
  case s3 =>
   refine Grow.step_in (by rfl) (by rfl) ?_
   intro E W ec eg ef hG hd hu R HR
   have e28 : E (.tmp 28) = .slice A n c := hd 2 28 (by kernel_rfl)
   clear hd hu
   go_simp
   exact HR.out _ _ (Below.refl _ _) rfl
  case s4 =>
   refine Grow.step_in (by rfl) (by rfl) ?_
   intro E W ec eg ef hG hd hu R HR
   have e27 : E (.tmp 27) = .int .i64 (n : Int) := hd 1 27 (by kernel_rfl)
   have e29 : E (.tmp 29) = .int .i64 (n : Int) := hd 3 29 (by kernel_rfl)
   clear hd hu
   go_simp
   exact HR.out _ _ (Below.refl _ _) rfl
  case s5 =>
   refine Grow.step_in (by rfl) (by rfl) ?_
   intro E W ec eg ef hG hd hu R HR
   have e30 : E (.tmp 30) = .bool false := hd 4 30 (by kernel_rfl)
   clear hd hu
   go_simp
   exact HR.out _ _ (Below.refl _ _) rfl
  case s6 =>
   refine Grow.step_on (g := 5) (b := false) (d := 31) (by rfl) (by rfl) (by rfl) (by kernel_rfl) (fun v W h => h) ?_
   intro E W ec eg ef hG hd hu R HR
   have e6 : E (.tmp 6) = .slice A2 M c2 := hu 6 (by kernel_rfl)
   clear hd hu
   go_simp
   exact HR.out _ _ (Below.refl _ _) rfl
  case s7 =>
   refine Grow.step_on (g := 5) (b := false) (d := 31) (by rfl) (by rfl) (by rfl) (by kernel_rfl) (fun v W h => h) ?_
   intro E W ec eg ef hG hd hu R HR
   have e32 : E (.tmp 32) = .slice A2 M c2 := hd 6 32 (by kernel_rfl)
   clear hd hu
   go_simp
   exact HR.out _ _ (Below.refl _ _) rfl
  case s8 =>
   refine Grow.step_on (g := 5) (b := false) (d := 31) (by rfl) (by rfl) (by rfl) (by kernel_rfl) (fun v W h => h) ?_
   intro E W ec eg ef hG hd hu R HR
   have e8 : E (.tmp 8) = .slice A4 M c4 := hu 8 (by kernel_rfl)
   clear hd hu
   go_simp
   exact HR.out _ _ (Below.refl _ _) rfl
  case s9 =>
   refine Grow.step_on (g := 5) (b := false) (d := 31) (by rfl) (by rfl) (by rfl) (by kernel_rfl) (fun v W h => h) ?_
   intro E W ec eg ef hG hd hu R HR
   have e34 : E (.tmp 34) = .slice A4 M c4 := hd 8 34 (by kernel_rfl)
   clear hd hu
   go_simp
   exact HR.out _ _ (Below.refl _ _) rfl
  case s10 =>
   refine Grow.step_on (g := 5) (b := false) (d := 31) (by rfl) (by rfl) (by rfl) (by kernel_rfl) (fun v W h => h) ?_
   intro E W ec eg ef hG hd hu R HR
   have e33 : E (.tmp 33) = .int .i64 (M : Int) := hd 7 33 (by kernel_rfl)
   have e35 : E (.tmp 35) = .int .i64 (M : Int) := hd 9 35 (by kernel_rfl)
   clear hd hu
   go_simp
   exact HR.out _ _ (Below.refl _ _) rfl
  case s11 =>
   refine Grow.step_in (by rfl) (by rfl) ?_
   intro E W ec eg ef hG hd hu R HR
   have e31 : E (.tmp 31) = .bool false := hd 5 31 (by kernel_rfl)
   have e36 : E (.tmp 36) = .bool false := hd 10 36 (by kernel_rfl)
   clear hd hu
   go_simp
   exact HR.out _ _ (Below.refl _ _) rfl
  case s12 =>
   refine Grow.step_in (by rfl) (by rfl) ?_
   intro E W ec eg ef hG hd hu R HR
   have e37 : E (.tmp 37) = .bool false := hd 11 37 (by kernel_rfl)
   clear hd hu
   go_simp
   exact HR.out _ _ (Below.refl _ _) rfl
  case s13 =>
   refine Grow.step_on (g := 12) (b := false) (d := 38) (by rfl) (by rfl) (by rfl) (by kernel_rfl) (fun v W h => h) ?_
   intro E W ec eg ef hG hd hu R HR
   have e7 : E (.tmp 7) = .slice A3 M c3 := hu 7 (by kernel_rfl)
   clear hd hu
   go_simp
   exact HR.out _ _ (Below.refl _ _) rfl
  case s14 =>
   refine Grow.step_on (g := 12) (b := false) (d := 38) (by rfl) (by rfl) (by rfl) (by kernel_rfl) (fun v W h => h) ?_
   intro E W ec eg ef hG hd hu R HR
   have e39 : E (.tmp 39) = .slice A3 M c3 := hd 13 39 (by kernel_rfl)
   clear hd hu
   go_simp
   exact HR.out _ _ (Below.refl _ _) rfl
  case s15 =>
   refine Grow.step_on (g := 12) (b := false) (d := 38) (by rfl) (by rfl) (by rfl) (by kernel_rfl) (fun v W h => h) ?_
   intro E W ec eg ef hG hd hu R HR
   have e9 : E (.tmp 9) = .slice A5 M c5 := hu 9 (by kernel_rfl)
   clear hd hu
   go_simp
   exact HR.out _ _ (Below.refl _ _) rfl
  case s16 =>
   refine Grow.step_on (g := 12) (b := false) (d := 38) (by rfl) (by rfl) (by rfl) (by kernel_rfl) (fun v W h => h) ?_
   intro E W ec eg ef hG hd hu R HR
   have e41 : E (.tmp 41) = .slice A5 M c5 := hd 15 41 (by kernel_rfl)
   clear hd hu
   go_simp
   exact HR.out _ _ (Below.refl _ _) rfl
  case s17 =>
   refine Grow.step_on (g := 12) (b := false) (d := 38) (by rfl) (by rfl) (by rfl) (by kernel_rfl) (fun v W h => h) ?_
   intro E W ec eg ef hG hd hu R HR
   have e40 : E (.tmp 40) = .int .i64 (M : Int) := hd 14 40 (by kernel_rfl)
   have e42 : E (.tmp 42) = .int .i64 (M : Int) := hd 16 42 (by kernel_rfl)
   clear hd hu
   go_simp
   exact HR.out _ _ (Below.refl _ _) rfl
  case s18 =>
   refine Grow.step_in (by rfl) (by rfl) ?_
   intro E W ec eg ef hG hd hu R HR
   have e38 : E (.tmp 38) = .bool false := hd 12 38 (by kernel_rfl)
   have e43 : E (.tmp 43) = .bool false := hd 17 43 (by kernel_rfl)
   clear hd hu
   go_simp
   exact HR.out _ _ (Below.refl _ _) rfl
  case s19 =>
   refine Grow.step_in (by rfl) (by rfl) ?_
   intro E W ec eg ef hG hd hu R HR
   have e44 : E (.tmp 44) = .bool false := hd 18 44 (by kernel_rfl)
   clear hd hu
   go_simp
   exact HR.out _ _ (Below.refl _ _) rfl
  case s20 =>
   refine Grow.step_on (g := 19) (b := false) (d := 45) (by rfl) (by rfl) (by rfl) (by kernel_rfl) (fun v W h => h) ?_
   intro E W ec eg ef hG hd hu R HR
   have e6 : E (.tmp 6) = .slice A2 M c2 := hu 6 (by kernel_rfl)
   clear hd hu
   go_simp
   exact HR.out _ _ (Below.refl _ _) rfl
  case s21 =>
   refine Grow.step_on (g := 19) (b := false) (d := 45) (by rfl) (by rfl) (by rfl) (by kernel_rfl) (fun v W h => h) ?_
   intro E W ec eg ef hG hd hu R HR
   have e46 : E (.tmp 46) = .slice A2 M c2 := hd 20 46 (by kernel_rfl)
   clear hd hu
   go_simp
   exact HR.out _ _ (Below.refl _ _) rfl
  case s22 =>
   refine Grow.step_on (g := 19) (b := false) (d := 45) (by rfl) (by rfl) (by rfl) (by kernel_rfl) (fun v W h => h) ?_
   intro E W ec eg ef hG hd hu R HR
   have e7 : E (.tmp 7) = .slice A3 M c3 := hu 7 (by kernel_rfl)
   clear hd hu
   go_simp
   exact HR.out _ _ (Below.refl _ _) rfl
  case s23 =>
   refine Grow.step_on (g := 19) (b := false) (d := 45) (by rfl) (by rfl) (by rfl) (by kernel_rfl) (fun v W h => h) ?_
   intro E W ec eg ef hG hd hu R HR
   have e48 : E (.tmp 48) = .slice A3 M c3 := hd 22 48 (by kernel_rfl)
   clear hd hu
   go_simp
   exact HR.out _ _ (Below.refl _ _) rfl
  case s24 =>
   refine Grow.step_on (g := 19) (b := false) (d := 45) (by rfl) (by rfl) (by rfl) (by kernel_rfl) (fun v W h => h) ?_
   intro E W ec eg ef hG hd hu R HR
   have e47 : E (.tmp 47) = .int .i64 (M : Int) := hd 21 47 (by kernel_rfl)
   have e49 : E (.tmp 49) = .int .i64 (M : Int) := hd 23 49 (by kernel_rfl)
   clear hd hu
   go_simp
   exact HR.out _ _ (Below.refl _ _) rfl
  case s25 =>
   refine Grow.step_in (by rfl) (by rfl) ?_
   intro E W ec eg ef hG hd hu R HR
   have e45 : E (.tmp 45) = .bool false := hd 19 45 (by kernel_rfl)
   have e50 : E (.tmp 50) = .bool false := hd 24 50 (by kernel_rfl)
   clear hd hu
   go_simp
   exact HR.out _ _ (Below.refl _ _) rfl
  case s26 =>
   refine Grow.step_in (by rfl) (by rfl) ?_
   intro E W ec eg ef hG hd hu R HR
   have e51 : E (.tmp 51) = .bool false := hd 25 51 (by kernel_rfl)
   clear hd hu
   go_simp
   exact HR.out _ _ (Below.refl _ _) rfl
  case s27 =>
   refine Grow.step_on (g := 26) (b := false) (d := 52) (by rfl) (by rfl) (by rfl) (by kernel_rfl) (fun v W h => h) ?_
   intro E W ec eg ef hG hd hu R HR
   have e0 : E (.tmp 0) = .pointer (some ⟨p, 0, none⟩) := hu 0 (by kernel_rfl)
   clear hd hu
   go_simp
   exact HR.out _ _ (Below.refl _ _) rfl
  case s28 =>
   refine Grow.step_on (g := 26) (b := false) (d := 52) (by rfl) (by rfl) (by rfl) (by kernel_rfl) (fun v W h => h) ?_
   intro E W ec eg ef hG hd hu R HR
   have e53 : E (.tmp 53) = .pointer (some ⟨p, 0, none⟩) := hd 27 53 (by kernel_rfl)
   clear hd hu
   have hpu := (HP.out W hG).1
   go_simp
   refine hpu.mono ?_
   rintro _ w' ⟨A, c, rfl, h, hb⟩
   exact ⟨_, rfl, HR.out _ _ hb ⟨A, c, rfl, h⟩⟩
  case s29 =>
   refine Grow.step_on (g := 26) (b := false) (d := 52) (by rfl) (by rfl) (by rfl) (by kernel_rfl) (fun v W h => h) ?_
   intro E W ec eg ef hG hd hu R HR
   have h54 := hd 28 54 (by kernel_rfl)
   clear hd hu
   obtain ⟨A, c, eA, hA⟩ := h54
   have hcv := byt_string hA
   rw [← eA] at hcv
   clear eA
   go_simp
   exact HR.out _ _ (Below.refl _ _) rfl
  case s30 =>
   refine Grow.step_on (g := 26) (b := false) (d := 52) (by rfl) (by rfl) (by rfl) (by kernel_rfl) (fun v W h => h) ?_
   intro E W ec eg ef hG hd hu R HR
   have e1 : E (.tmp 1) = .slice A n c := hu 1 (by kernel_rfl)
   clear hd hu
   go_simp
   exact HR.out _ _ (Below.refl _ _) rfl
  case s31 =>
   refine Grow.step_on (g := 26) (b := false) (d := 52) (by rfl) (by rfl) (by rfl) (by kernel_rfl) (fun v W h => h) ?_
   intro E W ec eg ef hG hd hu R HR
   have e56 : E (.tmp 56) = .slice A n c := hd 30 56 (by kernel_rfl)
   clear hd hu
   have hcl := (HP.out W hG).2
   go_simp
   refine hcl.mono ?_
   rintro _ w' ⟨rfl, hb⟩
   exact ⟨_, rfl, HR.out _ _ hb rfl⟩
  case s32 =>
   refine Grow.step_on (g := 26) (b := false) (d := 52) (by rfl) (by rfl) (by rfl) (by kernel_rfl) (fun v W h => h) ?_
   intro E W ec eg ef hG hd hu R HR
   have e55 : E (.tmp 55) = .string (st BS) := hd 29 55 (by kernel_rfl)
   have e57 : E (.tmp 57) = .string (st BS) := hd 31 57 (by kernel_rfl)
   clear hd hu
   go_simp
   exact HR.out _ _ (Below.refl _ _) rfl
  case s33 =>
   refine Grow.step_in (by rfl) (by rfl) ?_
   intro E W ec eg ef hG hd hu R HR
   have e52 : E (.tmp 52) = .bool false := hd 26 52 (by kernel_rfl)
   have e58 : E (.tmp 58) = .bool false := hd 32 58 (by kernel_rfl)
   clear hd hu
   go_simp
   exact HR.out _ _ (Below.refl _ _) rfl
 case gfin =>
  intro W hG
  refine Grow.fin_dst (by rfl) ?_
  rintro _ rfl
  refine Grow.fin_dst (by rfl) ?_
  rintro _ rfl
  refine Grow.fin_dst (by rfl) ?_
  rintro _ rfl
  refine Grow.fin_dst (by rfl) ?_
  rintro _ rfl
  refine Grow.fin_dst (by rfl) ?_
  rintro _ rfl
  refine Grow.fin_dst (by rfl) ?_
  rintro _ rfl
  refine Grow.fin_dst (by rfl) ?_
  rintro _ rfl
  refine Grow.fin_dst (by rfl) ?_
  rintro _ rfl
  refine Grow.fin_dst (by rfl) ?_
  rintro _ rfl
  refine Grow.fin_dst (by rfl) ?_
  rintro _ rfl
  refine Grow.fin_dst (by rfl) ?_
  rintro _ rfl
  refine Grow.fin_dst (by rfl) ?_
  rintro _ rfl
  refine Grow.fin_dst (by rfl) ?_
  rintro _ rfl
  refine Grow.fin_dst (by rfl) ?_
  rintro _ rfl
  refine Grow.fin_dst (by rfl) ?_
  rintro _ rfl
  refine Grow.fin_dst (by rfl) ?_
  rintro _ rfl
  refine Grow.fin_dst (by rfl) ?_
  rintro _ rfl
  refine Grow.fin_dst (by rfl) ?_
  rintro _ rfl
  refine Grow.fin_dst (by rfl) ?_
  rintro _ rfl
  refine Grow.fin_dst (by rfl) ?_
  rintro _ rfl
  refine Grow.fin_dst (by rfl) ?_
  rintro _ rfl
  refine Grow.fin_dst (by rfl) ?_
  rintro _ rfl
  refine Grow.fin_dst (by rfl) ?_
  rintro _ rfl
  refine Grow.fin_dst (by rfl) ?_
  rintro _ rfl
  refine Grow.fin_dst (by rfl) ?_
  rintro _ rfl
  refine Grow.fin_dst (by rfl) ?_
  rintro _ rfl
  refine Grow.fin_dst (by rfl) ?_
  rintro _ rfl
  refine Grow.fin_dst (by rfl) ?_
  rintro _ rfl
  refine Grow.fin_dst (by rfl) ?_
  rintro _ ⟨_, _, rfl, _⟩
  refine Grow.fin_dst (by rfl) ?_
  rintro _ rfl
  refine Grow.fin_dst (by rfl) ?_
  rintro _ rfl
  refine Grow.fin_dst (by rfl) ?_
  rintro _ rfl
  refine Grow.fin_dst (by rfl) ?_
  rintro _ rfl
  refine Grow.fin_dst (by rfl) ?_
  rintro _ rfl
  simp only [Act.put, List.setIfInBounds_toArray, List.set_cons_zero, List.set_cons_succ]
  refine Grow.fin_end ?_
  have H4 : Hid (Ids W (fun _ => True) A1 n c1 (t.map (·.1)) ∧ Ids W (fun _ => True) A2 M c2 ((packT t).map (·.1)) ∧ Ints .i64 W (fun _ => True) A3 M c3 (cntI (packT t)) ∧ Ids W (fun _ => True) A4 M c4 ((packT t).map (·.1)) ∧ Ints .i64 W (fun _ => True) A5 M c5 (cntI (packT t)) ∧ Ix W p b t ∧ Es W S A n c t ∧ Below w.heap.size w W) := Lib.hid (by
   have hbw : Below w.heap.size w W := (below_drew H3.out.2.2.2.2.2).trans (hG.mono (below_drew H3.out.2.2.2.2.2).size)
   have hb3 : Below w3.heap.size w3 W := (below_drew (Below.refl _ _)).trans hG
   exact ⟨H3.out.1.below hb3, H3.out.2.1.below hb3, H3.out.2.2.1.below hb3, H3.out.2.2.2.1.below hb3, H3.out.2.2.2.2.1.below hb3, HI.out.1.below hbw, HI.out.2.1.below hbw, hbw⟩)
  clear hG HP H3
  generalize W = w4 at H4 ⊢
  go_upto_region 7 with fail
  go_loopw [10] (fun iv wr => ∃ j : Nat, j ≤ n ∧ iv = .int .i64 (j : Int) ∧ Below w4.heap.size w4 wr) (fun iv _ => n - (intOf iv).toNat)
  case atStart => exact ⟨0, Nat.zero_le _, rfl, Below.refl _ _⟩
  case round =>
   obtain ⟨j, hj, rfl, hbw⟩ := hrel
   by_cases hlt : j < n
   ·have hlt' : (j : Int) < (n : Int) := by omega
    obtain ⟨b1, off1, hA1, hbl1, h32, hc1⟩ := H4.out.1.at_ hlt
    obtain ⟨b2, off2, e, hA2, hbl2, hte, he1, he2, hc2, hc3, hc4⟩ := H4.out.2.2.2.2.2.2.1.at_ hlt
    subst hA1 hA2
    have hkk : ((t.map (·.1))[j]?.getD []) = e.1 := by rw [List.getElem?_map, hte]; rfl
    rw [hkk] at hc1
    have hsv := H4.out.2.2.2.2.2.1.map.srt
    have hgv : getV t e.1 = some e.2 := getV_mem hsv (List.mem_of_getElem? hte)
    have hfn := ixfind_any (H4.out.2.2.2.2.2.1.below hbw) he1
    rw [hgv] at hfn
    obtain ⟨KS, hKS⟩ : ∃ KS, KS = row8 e.1 := ⟨_, rfl⟩
    obtain ⟨QS, hQS⟩ : ∃ QS, QS = row8 e.2.1 := ⟨_, rfl⟩
    obtain ⟨PS, hPS⟩ : ∃ PS, PS = plC e.2 := ⟨_, rfl⟩
    obtain ⟨X, hX⟩ : ∃ X, X = e.2.2 := ⟨_, rfl⟩
    rw [show encP ((some e.2).getD zPl) = .agg PS by rw [hPS]; rfl, ← hKS] at hfn
    rw [show (some e.2).isSome = true from rfl] at hfn
    have HC : Hid (∀ W : World, Below w4.heap.size w4 W → (∀ u v, KS[u]? = some v → W.cell? ((⟨b1, off1 + j * 32, none⟩ : Addr).add u) = some v) ∧ (∀ u v, KS[u]? = some v → W.cell? ((⟨b2, off2 + j * 65, none⟩ : Addr).add u) = some v) ∧ (∀ u v, QS[u]? = some v → W.cell? ((⟨b2, off2 + j * 65 + 32, none⟩ : Addr).add u) = some v) ∧ W.cell? ⟨b2, off2 + j * 65 + 64, none⟩ = some (.int .i64 X)) := Lib.hid fun W hW => by
     rw [hKS, hQS, hX]
     refine ⟨fun u v hu => ?_, fun u v hu => ?_, fun u v hu => ?_, (hW.cell (p := ⟨b2, _, none⟩) hbl2).trans hc4⟩
     ·have h := hc1 u v hu
      rw [add_plain] at h ⊢
      exact (hW.cell (p := ⟨b1, _, none⟩) hbl1).trans h
     ·have h := hc2 u v hu
      rw [add_plain] at h ⊢
      exact (hW.cell (p := ⟨b2, _, none⟩) hbl2).trans h
     ·have h := hc3 u v hu
      rw [add_plain] at h ⊢
      exact (hW.cell (p := ⟨b2, _, none⟩) hbl2).trans h
    have HB : Hid (KS.size = 32 ∧ QS.size = 32 ∧ PS.size = 33 ∧ PS.all (·.oneCell') = true ∧ (∀ u v, QS[u]? = some v → PS[u]? = some v) ∧ PS[32]? = some (.int .i64 X)) := Lib.hid ⟨by rw [hKS, row8_size, he1], by rw [hQS, row8_size, he2], by rw [hPS, plC_size he2], by rw [hPS]; exact plC_one _, fun u v hu => by
     rw [hPS, plC_pack he2 u (by have := (Array.getElem?_eq_some_iff.1 hu).1; rw [hQS, row8_size, he2] at this; exact this), ← hQS]
     exact hu, by rw [hPS, hX]; exact plC_n he2⟩
    have HQE : Hid ((∀ W, (Op.equalIn 10000 31 (.agg KS) (.agg KS)).run Try.prog W = .ok true W) ∧ (∀ W, (Op.equalIn 10000 31 (.agg QS) (.agg QS)).run Try.prog W = .ok true W)) := Lib.hid ⟨fun W => by rw [hKS, dd_ideq _ _ he1 he1]; simp, fun W => by rw [hQS, dd_ideq _ _ he2 he2]; simp⟩
    have hjj := IntWalk.i64_in ((j : Int) + 1) (by have := HI.out.2.2.2.1; omega)
    have HJ := Lib.hid hlt
    have HBW := Lib.hid hbw
    clear hKS hQS hPS hX hgv hsv hkk hte he1 he2 hc1 hc2 hc3 hc4 hbl1 hbl2 h32 hlt hj hbw
    go_wp2_with (first
     | (refine wpList_load_at (by rfl) 31 (.tmp 71) (by rfl) ⟨b2, off2 + j * 65, none⟩ (by rfl) KS _ (HC.out _ HBW.out).2.1 Try.underlying31 (by rfl) (by rw [HB.out.1]; exact id_info) ?_)
     | (go_at_call 15; refine hfn.mono ?_; clear hfn; rintro _ w5 ⟨rfl, hb5⟩; have H5 := Lib.hid (HBW.out.trans (hb5.mono HBW.out.size)); clear hb5)
     | (refine wpList_store_row (by rfl) 37 (.tmp 11) (.tmp 74) (by rfl) w5.heap.size PS (by rfl) (by rfl) 37 P0 (heap_alloc_new _ _) (by rw [HB.out.2.2.1]; exact pl_info) (by rw [HB.out.2.2.1, HP0.out]) HB.out.2.2.2.1 ?_
        have hbS : Below w4.heap.size w4 ((w5.alloc (.cells P0 37)).setRow w5.heap.size PS) := below_setRow (H5.out.alloc H5.out.size _) H5.out.size _
        have H6 := Lib.hid (And.intro hbS (setRow_at (new := PS) (heap_alloc_new w5 (.cells P0 37))))
        clear hbS H5
        generalize (w5.alloc (.cells P0 37)).setRow w5.heap.size PS = w6 at H6 ⊢
        generalize w5.heap.size = qa at H6 ⊢))
    have hC : (fun W : World => ((∀ u v, KS[u]? = some v → W.cell? ((⟨b1, off1 + j * 32, none⟩ : Addr).add u) = some v) ∧ (∀ u v, KS[u]? = some v → W.cell? ((⟨b2, off2 + j * 65, none⟩ : Addr).add u) = some v)) ∧ ((∀ u v, QS[u]? = some v → W.cell? ((⟨qa, 0, none⟩ : Addr).add u) = some v) ∧ (∀ u v, QS[u]? = some v → W.cell? ((⟨b2, off2 + j * 65 + 32, none⟩ : Addr).add u) = some v)) ∧ W.cell? ⟨qa, 32, none⟩ = some (.int .i64 X) ∧ W.cell? ⟨b2, off2 + j * 65 + 64, none⟩ = some (.int .i64 X)) w6.drew := by
     have h := HC.out w6.drew (below_drew H6.out.1)
     refine ⟨⟨h.1, h.2.1⟩, ⟨fun u v hu => ?_, h.2.2.1⟩, ?_, h.2.2.2⟩
     ·rw [add_plain, Nat.zero_add]
      exact (cell_of_cells H6.out.2 u).trans (HB.out.2.2.2.2.1 u v hu)
     ·exact (cell_of_cells H6.out.2 32).trans HB.out.2.2.2.2.2
    go_wp2
    refine wp_region_plan (fun W : World => ((∀ u v, KS[u]? = some v → W.cell? ((⟨b1, off1 + j * 32, none⟩ : Addr).add u) = some v) ∧ (∀ u v, KS[u]? = some v → W.cell? ((⟨b2, off2 + j * 65, none⟩ : Addr).add u) = some v)) ∧ ((∀ u v, QS[u]? = some v → W.cell? ((⟨qa, 0, none⟩ : Addr).add u) = some v) ∧ (∀ u v, QS[u]? = some v → W.cell? ((⟨b2, off2 + j * 65 + 32, none⟩ : Addr).add u) = some v)) ∧ W.cell? ⟨qa, 32, none⟩ = some (.int .i64 X) ∧ W.cell? ⟨b2, off2 + j * 65 + 64, none⟩ = some (.int .i64 X)) [] [0, 1, 2, 3, 4, 5, 6, 7, 8, 9, 10, 11, 12, 13, 14, 15, 16, 17, 18, 19, 20, 21, 22, 23, 24, 25, 26, 27, 28, 29, 30, 31, 32, 33] (by kernel_rfl) (by kernel_rfl) (fun _ _ d _ _ h => by cases d <;> exact h) hC ?_
    refine plan_last ?_
    refine seg_read ?v1 (by rfl) (by rfl) ?h1 ?_
    case h1 => intro W hW; go_simp; with_reducible rfl
    try simp only [Act.put, List.setIfInBounds_toArray, List.set_cons_zero, List.set_cons_succ]
    refine seg_read ?v2 (by rfl) (by rfl) ?h2 ?_
    case h2 => intro W hW; go_simp; with_reducible rfl
    try simp only [Act.put, List.setIfInBounds_toArray, List.set_cons_zero, List.set_cons_succ]
    refine seg_read ?v3 (by rfl) (by rfl) ?h3 ?_
    case h3 => intro W hW; go_simp; with_reducible rfl
    try simp only [Act.put, List.setIfInBounds_toArray, List.set_cons_zero, List.set_cons_succ]
    refine seg_read (.agg KS) (by rfl) (by rfl) (fun W hW => exec_load_ad 31 (.tmp 78) (by rfl) ⟨b1, off1 + j * 32, none⟩ (by rfl) KS hW.1.1 Try.underlying31 (by rfl) (by rw [HB.out.1]; exact id_info)) ?_
    try simp only [Act.put, List.setIfInBounds_toArray, List.set_cons_zero, List.set_cons_succ]
    refine seg_read ?v4 (by rfl) (by rfl) ?h4 ?_
    case h4 => intro W hW; go_simp; with_reducible rfl
    try simp only [Act.put, List.setIfInBounds_toArray, List.set_cons_zero, List.set_cons_succ]
    refine seg_read ?v5 (by rfl) (by rfl) ?h5 ?_
    case h5 => intro W hW; go_simp; with_reducible rfl
    try simp only [Act.put, List.setIfInBounds_toArray, List.set_cons_zero, List.set_cons_succ]
    refine seg_read ?v6 (by rfl) (by rfl) ?h6 ?_
    case h6 => intro W hW; go_simp; with_reducible rfl
    try simp only [Act.put, List.setIfInBounds_toArray, List.set_cons_zero, List.set_cons_succ]
    refine seg_read ?v7 (by rfl) (by rfl) ?h7 ?_
    case h7 => intro W hW; go_simp; with_reducible rfl
    try simp only [Act.put, List.setIfInBounds_toArray, List.set_cons_zero, List.set_cons_succ]
    refine seg_read (.agg KS) (by rfl) (by rfl) (fun W hW => exec_load_ad 31 (.tmp 83) (by rfl) ⟨b2, off2 + j * 65, none⟩ (by rfl) KS hW.1.2 Try.underlying31 (by rfl) (by rw [HB.out.1]; exact id_info)) ?_
    try simp only [Act.put, List.setIfInBounds_toArray, List.set_cons_zero, List.set_cons_succ]
    refine seg_read ?v8 (by rfl) (by rfl) ?h8 ?_
    case h8 => intro W hW; have hqw := HQE.out.1 W; go_simp; with_reducible rfl
    try simp only [Act.put, List.setIfInBounds_toArray, List.set_cons_zero, List.set_cons_succ]
    refine seg_read ?v9 (by rfl) (by rfl) ?h9 ?_
    case h9 => intro W hW; go_simp; with_reducible rfl
    try simp only [Act.put, List.setIfInBounds_toArray, List.set_cons_zero, List.set_cons_succ]
    refine seg_read ?v10 (by rfl) (by rfl) ?h10 ?_
    case h10 => intro W hW; go_simp; with_reducible rfl
    try simp only [Act.put, List.setIfInBounds_toArray, List.set_cons_zero, List.set_cons_succ]
    refine seg_read ?v11 (by rfl) (by rfl) ?h11 ?_
    case h11 => intro W hW; go_simp; with_reducible rfl
    try simp only [Act.put, List.setIfInBounds_toArray, List.set_cons_zero, List.set_cons_succ]
    refine seg_read ?v12 (by rfl) (by rfl) ?h12 ?_
    case h12 => intro W hW; go_simp; with_reducible rfl
    try simp only [Act.put, List.setIfInBounds_toArray, List.set_cons_zero, List.set_cons_succ]
    refine seg_read ?v13 (by rfl) (by rfl) ?h13 ?_
    case h13 => intro W hW; go_simp; with_reducible rfl
    try simp only [Act.put, List.setIfInBounds_toArray, List.set_cons_zero, List.set_cons_succ]
    refine seg_read ?v14 (by rfl) (by rfl) ?h14 ?_
    case h14 => intro W hW; go_simp; with_reducible rfl
    try simp only [Act.put, List.setIfInBounds_toArray, List.set_cons_zero, List.set_cons_succ]
    refine seg_read (.agg QS) (by rfl) (by rfl) (fun W hW => exec_load_ad 31 (.tmp 91) (by rfl) ⟨qa, 0, none⟩ (by rfl) QS hW.2.1.1 Try.underlying31 (by rfl) (by rw [HB.out.2.1]; exact id_info)) ?_
    try simp only [Act.put, List.setIfInBounds_toArray, List.set_cons_zero, List.set_cons_succ]
    refine seg_read ?v15 (by rfl) (by rfl) ?h15 ?_
    case h15 => intro W hW; go_simp; with_reducible rfl
    try simp only [Act.put, List.setIfInBounds_toArray, List.set_cons_zero, List.set_cons_succ]
    refine seg_read ?v16 (by rfl) (by rfl) ?h16 ?_
    case h16 => intro W hW; go_simp; with_reducible rfl
    try simp only [Act.put, List.setIfInBounds_toArray, List.set_cons_zero, List.set_cons_succ]
    refine seg_read ?v17 (by rfl) (by rfl) ?h17 ?_
    case h17 => intro W hW; go_simp; with_reducible rfl
    try simp only [Act.put, List.setIfInBounds_toArray, List.set_cons_zero, List.set_cons_succ]
    refine seg_read ?v18 (by rfl) (by rfl) ?h18 ?_
    case h18 => intro W hW; go_simp; with_reducible rfl
    try simp only [Act.put, List.setIfInBounds_toArray, List.set_cons_zero, List.set_cons_succ]
    refine seg_read (.agg QS) (by rfl) (by rfl) (fun W hW => exec_load_ad 31 (.tmp 96) (by rfl) ⟨b2, off2 + j * 65 + 32, none⟩ (by rfl) QS hW.2.1.2 Try.underlying31 (by rfl) (by rw [HB.out.2.1]; exact id_info)) ?_
    try simp only [Act.put, List.setIfInBounds_toArray, List.set_cons_zero, List.set_cons_succ]
    refine seg_read ?v19 (by rfl) (by rfl) ?h19 ?_
    case h19 => intro W hW; have hqw := HQE.out.2 W; go_simp; with_reducible rfl
    try simp only [Act.put, List.setIfInBounds_toArray, List.set_cons_zero, List.set_cons_succ]
    refine seg_read ?v20 (by rfl) (by rfl) ?h20 ?_
    case h20 => intro W hW; go_simp; with_reducible rfl
    try simp only [Act.put, List.setIfInBounds_toArray, List.set_cons_zero, List.set_cons_succ]
    refine seg_read ?v21 (by rfl) (by rfl) ?h21 ?_
    case h21 => intro W hW; go_simp; with_reducible rfl
    try simp only [Act.put, List.setIfInBounds_toArray, List.set_cons_zero, List.set_cons_succ]
    refine seg_read ?v22 (by rfl) (by rfl) ?h22 ?_
    case h22 => intro W hW; go_simp; with_reducible rfl
    try simp only [Act.put, List.setIfInBounds_toArray, List.set_cons_zero, List.set_cons_succ]
    refine seg_read ?v23 (by rfl) (by rfl) ?h23 ?_
    case h23 => intro W hW; have hx := hW.2.2.1; go_simp; with_reducible rfl
    try simp only [Act.put, List.setIfInBounds_toArray, List.set_cons_zero, List.set_cons_succ]
    refine seg_read ?v24 (by rfl) (by rfl) ?h24 ?_
    case h24 => intro W hW; go_simp; with_reducible rfl
    try simp only [Act.put, List.setIfInBounds_toArray, List.set_cons_zero, List.set_cons_succ]
    refine seg_read ?v25 (by rfl) (by rfl) ?h25 ?_
    case h25 => intro W hW; go_simp; with_reducible rfl
    try simp only [Act.put, List.setIfInBounds_toArray, List.set_cons_zero, List.set_cons_succ]
    refine seg_read ?v26 (by rfl) (by rfl) ?h26 ?_
    case h26 => intro W hW; go_simp; with_reducible rfl
    try simp only [Act.put, List.setIfInBounds_toArray, List.set_cons_zero, List.set_cons_succ]
    refine seg_read ?v27 (by rfl) (by rfl) ?h27 ?_
    case h27 => intro W hW; go_simp; with_reducible rfl
    try simp only [Act.put, List.setIfInBounds_toArray, List.set_cons_zero, List.set_cons_succ]
    refine seg_read ?v28 (by rfl) (by rfl) ?h28 ?_
    case h28 => intro W hW; have hx := hW.2.2.2; go_simp; with_reducible rfl
    try simp only [Act.put, List.setIfInBounds_toArray, List.set_cons_zero, List.set_cons_succ]
    refine seg_read ?v29 (by rfl) (by rfl) ?h29 ?_
    case h29 => intro W hW; go_simp; with_reducible rfl
    try simp only [Act.put, List.setIfInBounds_toArray, List.set_cons_zero, List.set_cons_succ]
    refine seg_read ?v30 (by rfl) (by rfl) ?h30 ?_
    case h30 => intro W hW; go_simp; with_reducible rfl
    try simp only [Act.put, List.setIfInBounds_toArray, List.set_cons_zero, List.set_cons_succ]
    refine seg_nil ?_
    go_wp2
    exact ⟨⟨j + 1, HJ.out, by simp, below_drew H6.out.1⟩, by have := HJ.out; simp only [intOf]; omega⟩
   ·obtain rfl : j = n := by omega
    have hlt' : ¬ (j : Int) < (j : Int) := by omega
    have HBW := Lib.hid hbw
    clear hlt hj hbw hzp
    go_upto_region 13 with fail
    go_loopw [13] (fun iv wr => ∃ k : Nat, k ≤ M ∧ iv = .int .i64 (k : Int) ∧ Below w4.heap.size w4 wr) (fun iv _ => M - (intOf iv).toNat)
    case atStart => exact ⟨0, Nat.zero_le _, rfl, HBW.out⟩
    case round =>
     obtain ⟨k, hk, rfl, hbw⟩ := hrel
     by_cases hkt : k < M
     ·have hkt' : (k : Int) < (M : Int) := by omega
      obtain ⟨j', hj'⟩ : ∃ j', j' = k := ⟨_, rfl⟩
      obtain ⟨b1, off1, hA1, hbl1, h32, hc1⟩ := H4.out.2.1.at_ hkt
      obtain ⟨b2, off2, hA2, hbl2, _, hc2⟩ := H4.out.2.2.2.1.at_ hkt
      obtain ⟨b3, off3, hA3, _, hbl3, hc3⟩ := H4.out.2.2.1.row (by omega)
      obtain ⟨b4, off4, hA4, _, hbl4, hc4⟩ := H4.out.2.2.2.2.1.row (by omega)
      subst hA1 hA2 hA3 hA4
      obtain ⟨KL, hKL⟩ : ∃ KL, KL = ((packT t).map (·.1))[k]?.getD [] := ⟨_, rfl⟩
      rw [← hKL] at h32 hc1 hc2
      obtain ⟨KS, hKS⟩ : ∃ KS, KS = row8 KL := ⟨_, rfl⟩
      obtain ⟨X, hX⟩ : ∃ X, X = (cntI (packT t))[k]?.getD 0 := ⟨_, rfl⟩
      have HB : Hid (KS.size = 32) := Lib.hid (by rw [hKS, row8_size, h32])
      have HQE : Hid (∀ W, (Op.equalIn 10000 31 (.agg KS) (.agg KS)).run Try.prog W = .ok true W) := Lib.hid fun W => by rw [hKS, dd_ideq _ _ h32 h32]; simp
      have hC : (fun W : World => ((∀ u v, KS[u]? = some v → W.cell? ((⟨b1, off1 + k * 32, none⟩ : Addr).add u) = some v) ∧ (∀ u v, KS[u]? = some v → W.cell? ((⟨b2, off2 + k * 32, none⟩ : Addr).add u) = some v)) ∧ W.cell? ⟨b3, off3 + k, none⟩ = some (.int .i64 X) ∧ W.cell? ⟨b4, off4 + k, none⟩ = some (.int .i64 X)) wr.drew := by
       have hW := below_drew hbw
       rw [hKS, hX]
       refine ⟨⟨fun u v hu => ?_, fun u v hu => ?_⟩, (hW.cell (p := ⟨b3, _, none⟩) hbl3).trans (hc3 k hkt), (hW.cell (p := ⟨b4, _, none⟩) hbl4).trans (hc4 k hkt)⟩
       ·have h := hc1 u v hu
        rw [add_plain] at h ⊢
        exact (hW.cell (p := ⟨b1, _, none⟩) hbl1).trans h
       ·have h := hc2 u v hu
        rw [add_plain] at h ⊢
        exact (hW.cell (p := ⟨b2, _, none⟩) hbl2).trans h
      have hjj := IntWalk.i64_in ((k : Int) + 1) (by have := HI.out.2.2.2.1; have := HI.out.2.2.2.2.2.2; omega)
      have HJ := Lib.hid hkt
      have HBW := Lib.hid hbw
      clear hKS hX hKL h32 hc1 hc2 hc3 hc4 hbl1 hbl2 hbl3 hbl4 hkt hk hbw hj'
      go_wp2
      refine wp_region_plan (fun W : World => ((∀ u v, KS[u]? = some v → W.cell? ((⟨b1, off1 + k * 32, none⟩ : Addr).add u) = some v) ∧ (∀ u v, KS[u]? = some v → W.cell? ((⟨b2, off2 + k * 32, none⟩ : Addr).add u) = some v)) ∧ W.cell? ⟨b3, off3 + k, none⟩ = some (.int .i64 X) ∧ W.cell? ⟨b4, off4 + k, none⟩ = some (.int .i64 X)) [] [0, 1, 2, 3, 4, 5, 6, 7, 8, 9, 10, 11, 12, 13, 14, 15, 16, 17, 18, 19] (by kernel_rfl) (by kernel_rfl) (fun _ _ d _ _ h => by cases d <;> exact h) hC ?_
      refine plan_last ?_
      refine seg_read ?v31 (by rfl) (by rfl) ?h31 ?_
      case h31 => intro W hW; go_simp; with_reducible rfl
      try simp only [Act.put, List.setIfInBounds_toArray, List.set_cons_zero, List.set_cons_succ]
      refine seg_read ?v32 (by rfl) (by rfl) ?h32 ?_
      case h32 => intro W hW; go_simp; with_reducible rfl
      try simp only [Act.put, List.setIfInBounds_toArray, List.set_cons_zero, List.set_cons_succ]
      refine seg_read ?v33 (by rfl) (by rfl) ?h33 ?_
      case h33 => intro W hW; go_simp; with_reducible rfl
      try simp only [Act.put, List.setIfInBounds_toArray, List.set_cons_zero, List.set_cons_succ]
      refine seg_read (.agg KS) (by rfl) (by rfl) (fun W hW => exec_load_ad 31 (.tmp 118) (by rfl) ⟨b1, off1 + k * 32, none⟩ (by rfl) KS hW.1.1 Try.underlying31 (by rfl) (by rw [HB.out]; exact id_info)) ?_
      try simp only [Act.put, List.setIfInBounds_toArray, List.set_cons_zero, List.set_cons_succ]
      refine seg_read ?v34 (by rfl) (by rfl) ?h34 ?_
      case h34 => intro W hW; go_simp; with_reducible rfl
      try simp only [Act.put, List.setIfInBounds_toArray, List.set_cons_zero, List.set_cons_succ]
      refine seg_read ?v35 (by rfl) (by rfl) ?h35 ?_
      case h35 => intro W hW; go_simp; with_reducible rfl
      try simp only [Act.put, List.setIfInBounds_toArray, List.set_cons_zero, List.set_cons_succ]
      refine seg_read ?v36 (by rfl) (by rfl) ?h36 ?_
      case h36 => intro W hW; go_simp; with_reducible rfl
      try simp only [Act.put, List.setIfInBounds_toArray, List.set_cons_zero, List.set_cons_succ]
      refine seg_read (.agg KS) (by rfl) (by rfl) (fun W hW => exec_load_ad 31 (.tmp 122) (by rfl) ⟨b2, off2 + k * 32, none⟩ (by rfl) KS hW.1.2 Try.underlying31 (by rfl) (by rw [HB.out]; exact id_info)) ?_
      try simp only [Act.put, List.setIfInBounds_toArray, List.set_cons_zero, List.set_cons_succ]
      refine seg_read ?v37 (by rfl) (by rfl) ?h37 ?_
      case h37 => intro W hW; have hqw := HQE.out W; go_simp; with_reducible rfl
      try simp only [Act.put, List.setIfInBounds_toArray, List.set_cons_zero, List.set_cons_succ]
      refine seg_read ?v38 (by rfl) (by rfl) ?h38 ?_
      case h38 => intro W hW; go_simp; with_reducible rfl
      try simp only [Act.put, List.setIfInBounds_toArray, List.set_cons_zero, List.set_cons_succ]
      refine seg_read ?v39 (by rfl) (by rfl) ?h39 ?_
      case h39 => intro W hW; go_simp; with_reducible rfl
      try simp only [Act.put, List.setIfInBounds_toArray, List.set_cons_zero, List.set_cons_succ]
      refine seg_read ?v40 (by rfl) (by rfl) ?h40 ?_
      case h40 => intro W hW; go_simp; with_reducible rfl
      try simp only [Act.put, List.setIfInBounds_toArray, List.set_cons_zero, List.set_cons_succ]
      refine seg_read ?v41 (by rfl) (by rfl) ?h41 ?_
      case h41 => intro W hW; go_simp; with_reducible rfl
      try simp only [Act.put, List.setIfInBounds_toArray, List.set_cons_zero, List.set_cons_succ]
      refine seg_read ?v42 (by rfl) (by rfl) ?h42 ?_
      case h42 => intro W hW; have hx := hW.2.1; go_simp; with_reducible rfl
      try simp only [Act.put, List.setIfInBounds_toArray, List.set_cons_zero, List.set_cons_succ]
      refine seg_read ?v43 (by rfl) (by rfl) ?h43 ?_
      case h43 => intro W hW; go_simp; with_reducible rfl
      try simp only [Act.put, List.setIfInBounds_toArray, List.set_cons_zero, List.set_cons_succ]
      refine seg_read ?v44 (by rfl) (by rfl) ?h44 ?_
      case h44 => intro W hW; go_simp; with_reducible rfl
      try simp only [Act.put, List.setIfInBounds_toArray, List.set_cons_zero, List.set_cons_succ]
      refine seg_read ?v45 (by rfl) (by rfl) ?h45 ?_
      case h45 => intro W hW; go_simp; with_reducible rfl
      try simp only [Act.put, List.setIfInBounds_toArray, List.set_cons_zero, List.set_cons_succ]
      refine seg_read ?v46 (by rfl) (by rfl) ?h46 ?_
      case h46 => intro W hW; have hx := hW.2.2; go_simp; with_reducible rfl
      try simp only [Act.put, List.setIfInBounds_toArray, List.set_cons_zero, List.set_cons_succ]
      refine seg_read ?v47 (by rfl) (by rfl) ?h47 ?_
      case h47 => intro W hW; go_simp; with_reducible rfl
      try simp only [Act.put, List.setIfInBounds_toArray, List.set_cons_zero, List.set_cons_succ]
      refine seg_read ?v48 (by rfl) (by rfl) ?h48 ?_
      case h48 => intro W hW; go_simp; with_reducible rfl
      try simp only [Act.put, List.setIfInBounds_toArray, List.set_cons_zero, List.set_cons_succ]
      refine seg_nil ?_
      go_wp2
      exact ⟨⟨k + 1, HJ.out, by simp, below_drew HBW.out⟩, by have := HJ.out; simp only [intOf]; omega⟩
     ·obtain rfl : k = M := by omega
      have hkt' : ¬ (k : Int) < (k : Int) := by omega
      have HBW := Lib.hid hbw
      clear hkt hk hbw
      go_wp2
      go_ret
      exact ⟨rfl, H4.out.2.2.2.2.2.2.2.trans (HBW.out.mono H4.out.2.2.2.2.2.2.2.size)⟩
end Go.Proofs.Ytmmibldchfmleaa

namespace Go.Proofs.Ytmmibldchfmleaa
open Go.RowKit Go.Maps
theorem pl_built0 : Try.prog.built 37 [] = some (plC zPl) := by unfold plC zPl u8s; kernel_rfl
end Go.Proofs.Ytmmibldchfmleaa

namespace Go.Proofs.Ytmmibldchfmleaa
open Go.RowKit Go.Maps Codec
def k1D : List UInt8 := 1 :: List.replicate 31 0
def k2D : List UInt8 := 2 :: List.replicate 31 0
def tA : Tv Pl := [(k1D, (k2D, 3))]
theorem aw_add1 : addB [] k1D (k2D, 3) = true ∧ addT [] k1D (k2D, 3) = tA := ⟨by decide +kernel, rfl⟩
theorem aw_add2 : addB tA k1D zPl = false ∧ addT tA k1D zPl = tA := by
 have h : addB tA k1D zPl = false := by decide +kernel
 exact ⟨h, by unfold addT; rw [h]; rfl⟩
theorem aw_find : getV tA k1D = some (k2D, 3) := by decide +kernel
theorem aw_ok : Sv tA ∧ OkT tA := ⟨List.pairwise_singleton _ _, fun e he => by
 simp only [tA, List.mem_singleton] at he
 subst he
 exact ⟨rfl, rfl, by decide⟩⟩
theorem aw_packs : packT tA = [(k2D, 1)] := by decide +kernel
theorem aw_drop : dropT tA k2D = [] := by decide +kernel
theorem build_1D : Try.prog.built 31 [(0, .int .u8 1)] = some (row8 k1D) := by unfold k1D row8; kernel_rfl
theorem build_2D : Try.prog.built 31 [(0, .int .u8 2)] = some (row8 k2D) := by unfold k2D row8; kernel_rfl
theorem below_turn {m : Nat} {a b c : World} {S : Nat → Prop} (h : Below m a b) (hm : m ≤ a.heap.size) (ht : Turned S b c) (hS : ∀ k, S k → m ≤ k) : Below m a c :=
 ⟨ht.os.trans h.os, ht.tape.trans h.tape, ht.output.trans h.output, Nat.le_trans h.size ht.size, fun i hi => (ht.block i (Nat.lt_of_lt_of_le hi (Nat.le_trans hm h.size)) fun hs => by have := hS i hs; omega).trans (h.block i hi)⟩
theorem ddload_at_on {P : Program} {ops : Array Oper} {rest : List Oper} {o : Oper} {a : Act} {w : World} {Q : Exit → Act → World → Prop} (hw : Region.wanted o (yielded ops a.tmps) = true) (ty : TypeId) (x : Operand) (ho : o.op = .load ty x) (ad : Addr) (hx : a.eval x = .pointer (some ad)) (cs : Array Value) (d : TypeDesc)
    (hc : ∀ (j : Nat) (v : Value), cs[j]? = some v → w.cell? (ad.add j) = some v) (hu : P.underlying ty = some d) (hd : (match d with | .struct _ | .array _ _ => true | _ => false) = true) (hi : (P.info? ty).map (·.size) = some cs.size)
    (h : wpList P ops Q rest (a.put o.dst (.agg cs)) w) : wpList P ops Q (o :: rest) a w := by
 unfold wpList
 rw [if_pos hw]
 refine .inl ?_
 unfold Oper.wp execOp
 simp only [ho, hx, Instr.loadAt, Instr.sureAddr, Sem.run_bind, Sem.run_pure, Result.andThen_ok, run_loadVar_at w ad ty cs d hc hu hd hi]
 exact h
theorem two_parts {x0 x1 : Operand} (a : Act) (u0 u1 : Value) (n m : Nat) (h0 : a.eval x0 = u0) (h1 : a.eval x1 = u1) : ((#[(n, x0), (m, x1)] : Array (Nat × Operand)).map fun (i, x) => (i, a.eval x)).toList = [(n, u0), (m, u1)] := by simp [h0, h1]
set_option maxHeartbeats 8000000 in
set_option maxRecDepth 100000 in
theorem dawake_true (w : World) : Calls Try.prog 8 #[] w fun e w' => e = .returned (.bool true) ∧ Below w.heap.size w w' := by
 obtain ⟨ZS, hZS⟩ : ∃ ZS, ZS = plC zPl := ⟨_, rfl⟩
 have hzp : ∀ W, (zeroValue 37).run Try.prog W = .ok (.agg ZS) W := fun W => by rw [hZS]; exact zero_pl W
 obtain ⟨K1, hK1⟩ : ∃ K1, K1 = row8 k1D := ⟨_, rfl⟩
 obtain ⟨K2, hK2⟩ : ∃ K2, K2 = row8 k2D := ⟨_, rfl⟩
 obtain ⟨P3, hP3⟩ : ∃ P3, P3 = plC (k2D, 3) := ⟨_, rfl⟩
 have HB : Hid (Try.prog.built 31 [(0, .int .u8 1)] = some K1 ∧ Try.prog.built 31 [(0, .int .u8 2)] = some K2 ∧ Try.prog.built 37 [(0, .agg K2), (1, .int .i64 3)] = some P3 ∧ Try.prog.built 37 [] = some ZS) := Lib.hid
  ⟨by rw [hK1]; exact build_1D, by rw [hK2]; exact build_2D, by rw [hK2, hP3]; exact build_pl rfl 3, by rw [hZS]; exact pl_built0⟩
 have HS : Hid (ZS.size = 33 ∧ K1.size = 32 ∧ K2.size = 32 ∧ P3.size = 33 ∧ P3.all (·.oneCell') = true) := Lib.hid ⟨by rw [hZS]; rfl, by rw [hK1]; rfl, by rw [hK2]; rfl, by rw [hP3]; rfl, by rw [hP3]; exact plC_one _⟩
 have HE := Lib.hid (And.intro hZS (And.intro hK1 (And.intro hK2 hP3)))
 clear hZS hK1 hK2 hP3
 have hnw := ixnew_any w
 go_enter Try.func8, Try.ntmps8
 go_upto_region 2 with (go_at_call 9; refine hnw.mono ?_; clear hnw; rintro _ w1 ⟨p, b, rfl, hi1, hlp, hlb, hb1⟩)
 have ha1 := ixadd_any hi1 (by simp) (k := k1D) rfl (v := (k2D, 3)) rfl
 rw [aw_add1.1, aw_add1.2, ← HE.out.2.1, show encP (k2D, 3) = .agg P3 by rw [HE.out.2.2.2]; rfl] at ha1
 have H1 := Lib.hid (And.intro hlp (And.intro hlb hb1))
 clear hi1 hlp hlb hb1
 go_upto_region 4 with (first
  | (go_at_call 13; refine ha1.mono ?_; clear ha1; rintro _ w2 ⟨rfl, hi2, ht2⟩
     have ha2 := ixadd_any hi2 (by simp [tA]) (k := k1D) rfl (v := zPl) zPl_len
     rw [aw_add2.1, aw_add2.2, ← HE.out.2.1, show encP zPl = .agg ZS by rw [HE.out.1]; rfl] at ha2
     have H2 := Lib.hid ht2
     clear hi2 ht2)
  | (go_at_call 13; refine ha2.mono ?_; clear ha2; rintro _ w3 ⟨rfl, hi3, ht3⟩; have H3 := Lib.hid (And.intro hi3 ht3); clear hi3 ht3)
  | (refine wpList_built_on (by rfl) 31 #[(0, .const (.int .u8 1))] (by rfl) [(0, .int .u8 1)] (by simp [Act.eval]) K1 HB.out.1 ?_)
  | (refine wpList_built_on (by rfl) 31 #[(0, .const (.int .u8 2))] (by rfl) [(0, .int .u8 2)] (by simp [Act.eval]) K2 HB.out.2.1 ?_)
  | (refine wpList_built_on (by rfl) 37 #[(0, .tmp 11), (1, .const (.int .i64 3))] (by rfl) [(0, .agg K2), (1, .int .i64 3)] (two_parts _ _ _ _ _ rfl rfl) P3 HB.out.2.2.1 ?_)
  | (refine wpList_built_on (by rfl) 37 #[] (by rfl) [] (by simp) ZS HB.out.2.2.2 ?_))
 have hf := ixfind_any H3.out.1 (k := k1D) rfl
 rw [aw_find, ← HE.out.2.1, show encP ((some (k2D, (3 : Int))).getD zPl) = .agg P3 by rw [HE.out.2.2.2]; rfl] at hf
 go_upto_region 5 with (first
  | (go_at_call 15; refine hf.mono ?_; clear hf; rintro _ w4 ⟨rfl, hb4⟩)
  | (refine wpList_built_on (by rfl) 31 #[(0, .const (.int .u8 1))] (by rfl) [(0, .int .u8 1)] (by simp [Act.eval]) K1 HB.out.1 ?_)
  | (refine wpList_store_row (by rfl) 37 (.tmp 2) (.tmp 25) (by rfl) w4.heap.size P3 (by rfl) (by rfl) 37 ZS (heap_alloc_new _ _) (by rw [HS.out.2.2.2.1]; exact pl_info) (by rw [HS.out.1, HS.out.2.2.2.1]) HS.out.2.2.2.2 ?_))
 have H4 : Hid (Ix ((w4.alloc (.cells ZS 37)).setRow w4.heap.size P3) p b tA ∧ ((w4.alloc (.cells ZS 37)).setRow w4.heap.size P3).heap[w4.heap.size]? = some (.cells P3 37 (0, 0)) ∧ Turned (· = b) w3 ((w4.alloc (.cells ZS 37)).setRow w4.heap.size P3)) := by
  have hbS : Below w3.heap.size w3 ((w4.alloc (.cells ZS 37)).setRow w4.heap.size P3) := below_setRow (hb4.alloc hb4.size _) hb4.size _
  exact Lib.hid ⟨H3.out.1.below hbS, setRow_at (heap_alloc_new _ _), Turned.of_below (S := (· = b)) hbS⟩
 clear hb4
 generalize (w4.alloc (.cells ZS 37)).setRow w4.heap.size P3 = w5 at H4 ⊢
 obtain ⟨g, hg⟩ : ∃ g, g = w4.heap.size := ⟨_, rfl⟩
 rw [← hg] at H4 ⊢
 clear hg
 have hpu := ixput_any H4.out.1 (by simp [tA]) aw_ok.2
 go_upto_region 6 with (first
  | (go_at_call 19; refine hpu.mono ?_; clear hpu; rintro _ w6 ⟨A, c, rfl, hby, hb6⟩
     have hge := ixget_any hby (by decide +kernel)
     have H6 := Lib.hid hb6
     clear hby hb6)
  | (go_at_call 18; refine hge.mono ?_; clear hge; intro _ w7 hG
     rw [GePost, dd_get_put aw_ok.1 aw_ok.2 (by simp [tA])] at hG
     obtain ⟨q, b2, rfl, -, hi7, hlq, hl2, hb7⟩ : ∃ q b2, _ = Ending.returned (.tuple #[.pointer (some ⟨q, 0, none⟩), .int .i64 0]) ∧ True ∧ Ix w7 q b2 tA ∧ _ ≤ q ∧ _ ≤ b2 ∧ Below _ _ w7 := by
      rcases hG with ⟨q, b2, h1, h2, h3⟩ | ⟨h1, h2, h3⟩
      ·exact ⟨q, b2, h1, trivial, h3⟩
      ·exact absurd rfl h2
     have H7 := Lib.hid (And.intro hlq (And.intro hl2 hb7))
     have hpk := ixpacks_any hi7 (by simp [tA])
     rw [aw_packs] at hpk
     clear hG hi7 hlq hl2 hb7))
 have H8 : Hid (Ix w7 p b tA ∧ w7.heap[g]? = some (.cells P3 37 (0, 0)) ∧ Turned (· = b) w3 w7) := by
  have hb7 := H6.out.trans (H7.out.2.2.mono H6.out.size)
  exact Lib.hid ⟨H4.out.1.below hb7, (hb7.block _ (lt_of_cells H4.out.2.1)).trans H4.out.2.1, H4.out.2.2.trans (Turned.of_below (S := (· = b)) hb7) fun _ _ h => h⟩
 clear H4 H6 H7
 go_upto_region 7 with (go_at_call 21; refine hpk.mono ?_; clear hpk; rintro _ w8 ⟨A8, c8, A9, c9, rfl, hid8, hin8, hb8⟩)
 simp only [List.length_cons, List.length_nil, Nat.zero_add] at hid8 hin8 ⊢
 obtain ⟨b8, off8, rfl, -, -, hc8⟩ := hid8.at_ (i := 0) (by decide)
 obtain ⟨b9, off9, rfl, -, -, hc9⟩ := hin8.row (by decide)
 have hr8 : Hid (∀ j u, K2[j]? = some u → w8.cell? ((⟨b8, off8 + 0, none⟩ : Addr).add j) = some u) := Lib.hid (by rw [HE.out.2.2.1]; exact hc8)
 have hc90 : w8.cell? ⟨b9, off9, none⟩ = some (.int .i64 1) := hc9 0 (by decide)
 have hg32 : w8.cell? ⟨g, 32, none⟩ = some (.int .i64 3) := by
  rw [cell_of_cells ((hb8.block _ (lt_of_cells H8.out.2.1)).trans H8.out.2.1), HE.out.2.2.2]
  rfl
 have hqe : (Op.equalIn 10000 31 (.agg K2) (.agg K2)).run Try.prog w8 = .ok true w8 := by rw [HE.out.2.2.1]; exact dd_ideq k2D k2D rfl rfl w8
 have hi8 := H8.out.1.below hb8
 have hdr := ixdrop_any hi8 (by simp [tA]) (pk := k2D) rfl
 rw [aw_drop, ← HE.out.2.2.1] at hdr
 have H9 : Hid (Below w.heap.size w w1) := Lib.hid H1.out.2.2
 have H10 : Hid (w.heap.size ≤ b ∧ Turned (· = b) w1 w8) := Lib.hid ⟨H1.out.2.1, (H2.out.trans H3.out.2 fun _ _ h => h).trans (H8.out.2.2.trans (Turned.of_below (S := (· = b)) hb8) fun _ _ h => h) fun _ _ h => h⟩
 clear hid8 hin8 hb8 hc8 hc9 hi8 H1 H2 H3 H8
 go_wp2_with (first
  | (go_at_call 10; refine hdr.mono ?_; clear hdr; rintro _ w10 ⟨rfl, hi10, ht10⟩
     have hids := ixids_any hi10 (by simp)
     have H11 := Lib.hid ht10
     clear hi10 ht10)
  | (go_at_call 22; refine hids.mono ?_; clear hids; rintro _ w11 ⟨A11, c11, rfl, -, hb11⟩; have H12 := Lib.hid hb11; clear hb11)
  | (refine ddload_at_on (by rfl) 31 (.tmp 55) (by rfl) ⟨b8, off8 + 0, none⟩ (by rfl) K2 _ hr8.out Try.underlying31 (by rfl) (by rw [HS.out.2.2.1]; exact id_info) ?_)
  | (refine wpList_built_on (by rfl) 31 #[(0, .const (.int .u8 2))] (by rfl) [(0, .int .u8 2)] (by simp [Act.eval]) K2 HB.out.2.1 ?_))
 go_ret
 have h1 : Below w.heap.size w w8 := below_turn H9.out (Nat.le_refl _) H10.out.2 fun k hk => by rw [hk]; exact H10.out.1
 have h2 : Below w.heap.size w w10 := below_turn h1 (Nat.le_refl _) H11.out fun k hk => by rw [hk]; exact H10.out.1
 exact ⟨rfl, h2.trans (H12.out.mono h2.size)⟩
end Go.Proofs.Ytmmibldchfmleaa

namespace Go.Proofs.Ytmmibldchfmleaa
open Go.RowKit Go.Maps Codec
theorem dd_and3 (z : Nat) (h : z < 256) : bits BinOp.and IntKind.u8 (z : Int) 3 = ((z % 4 : Nat) : Int) := by
 have h : ∀ z : Fin 256, bits BinOp.and IntKind.u8 ((z.val : Nat) : Int) 3 = ((z.val % 4 : Nat) : Int) := by decide +kernel
 exact h ⟨z, by assumption⟩
def lidF (x : Nat) : List UInt8 := (List.replicate 32 0).set (x % 4) (UInt8.ofNat (x / 4 % 8))
theorem lidF_len (x : Nat) : (lidF x).length = 32 := by simp [lidF]
set_option maxHeartbeats 4000000 in
set_option maxRecDepth 100000 in
theorem lid_any (w : World) {x : Nat} (hx : x < 256) :
    Calls Try.prog 11 #[.int .u8 (x : Int)] w fun e w' => e = .returned (.agg (row8 (lidF x))) ∧ Below w.heap.size w w' := by
 have hzi := zero_id
 have ha := dd_and3 x hx
 go_enter Try.func11, Try.ntmps11
 have hz32 : zerosId.size = 32 := rfl
 obtain ⟨ZS, hZS⟩ : ∃ ZS, ZS = zerosId.setIfInBounds (x % 4) (.int .u8 ((x : Int) / 4 % 8)) := ⟨_, rfl⟩
 have hrow : ZS = row8 (lidF x) := by
  have h1 : ((x : Int) / 4 % 8) = ((UInt8.ofNat (x / 4 % 8)).toNat : Int) := by simp; omega
  have h2 : zerosId = row8 (List.replicate 32 0) := by unfold zerosId; kernel_rfl
  rw [hZS, h1, h2]
  unfold row8 lidF
  apply Array.toList_inj.1
  simp only [Array.toList_setIfInBounds]
  exact u8s_set _ _ _
 have HZ : Hid (ZS = row8 (lidF x) ∧ ZS.size = 32 ∧ ZS.all (·.oneCell') = true) := Lib.hid ⟨hrow, by rw [hrow, row8_size, lidF_len], by rw [hrow]; exact row8_one _⟩
 clear hrow
 have h1 : Hid (((w.alloc (.cells zerosId 31)).alloc (.cells zerosId 31)).heap[w.heap.size + 1]? = some (.cells zerosId 31 (0, 0)) ∧ ((w.alloc (.cells zerosId 31)).alloc (.cells zerosId 31)).heap[w.heap.size]? = some (.cells zerosId 31 (0, 0)) ∧ Below w.heap.size w ((w.alloc (.cells zerosId 31)).alloc (.cells zerosId 31))) :=
  Lib.hid ⟨two_rows.2.1, two_rows.1, two_rows.2.2⟩
 go_upto_region 2 with fail
 generalize (w.alloc (.cells zerosId 31)).alloc (.cells zerosId 31) = w1 at h1 ⊢
 have hcl : w1.cell? ⟨w.heap.size + 1, x % 4, none⟩ = some (.int .u8 0) := by
  have h2 : zerosId[x % 4]? = some (.int .u8 0) := by
   have h3 : x % 4 < zerosId.size := by rw [hz32]; omega
   have h4 := zerosId_at (x % 4) (by omega)
   rw [Array.getElem?_eq_getElem h3]
   simpa [h3] using h4
  rw [cell_of_cells h1.out.1, h2]
 have hfz := free_of_cells h1.out.1 (x % 4)
 have H2 : Hid ((w1.setCell ⟨w.heap.size + 1, x % 4, none⟩ (.int .u8 ((x : Int) / 4 % 8))).heap[w.heap.size + 1]? = some (.cells ZS 31 (0, 0)) ∧ (w1.setCell ⟨w.heap.size + 1, x % 4, none⟩ (.int .u8 ((x : Int) / 4 % 8))).heap[w.heap.size]? = some (.cells zerosId 31 (0, 0)) ∧ Below w.heap.size w (w1.setCell ⟨w.heap.size + 1, x % 4, none⟩ (.int .u8 ((x : Int) / 4 % 8)))) :=
  Lib.hid ⟨by rw [hZS]; exact set_of_cells h1.out.1 _ _, (Below.heap_setCell _ _ _ _ (by show w.heap.size ≠ w.heap.size + 1; omega)).trans h1.out.2.1, h1.out.2.2.setCell (p := ⟨w.heap.size + 1, _, none⟩) (by show w.heap.size ≤ w.heap.size + 1; omega) _⟩
 clear hZS
 go_upto_region 3 with fail
 generalize w1.setCell ⟨w.heap.size + 1, x % 4, none⟩ (.int .u8 ((x : Int) / 4 % 8)) = w2 at H2 ⊢
 go_wp2_with (first
  | (refine wpList_load_row (by rfl) 31 (.tmp 3) (by rfl) (w.heap.size + 1) (by rfl) 31 ZS (0, 0) _ H2.out.1 Try.underlying31 (by rfl) (by rw [HZ.out.2.1]; exact id_info) ?_)
  | (refine wpList_store_row (by rfl) 31 (.tmp 2) (.tmp 11) (by rfl) w.heap.size ZS (by rfl) (by rfl) 31 zerosId H2.out.2.1 (by rw [HZ.out.2.1]; exact id_info) (by rw [HZ.out.2.1]; rfl) HZ.out.2.2 ?_))
 exact bodyPost_ret (results_cell_row rfl _ _ w.heap.size 31 ZS (0, 0) _ rfl (setRow_at H2.out.2.1) Try.underlying31 rfl (by rw [HZ.out.2.1]; exact id_info)) rfl ⟨by rw [HZ.out.1], below_setRow H2.out.2.2 (Nat.le_refl _) _⟩
end Go.Proofs.Ytmmibldchfmleaa
