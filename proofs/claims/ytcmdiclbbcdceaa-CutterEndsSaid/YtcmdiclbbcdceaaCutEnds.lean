/-
  The statement CutterEnds: its walk.
-/
import Derived.Test.YtcmdiclbbcdceaaCutAwake
import Derived.Test.YtcmdiclbbcdceaaGrow
namespace Go.Proofs.Ytcmdiclbbcdceaa
open Go.RowKit

def CEn (w5 : World) (E : List Nat) (f i : Value) (wr : World) : Prop := ∃ i' : Nat, i' ≤ E.length ∧ i = .int .i64 (i' : Int) ∧ f = .int .i64 ((fromC E i' : Nat) : Int) ∧ Below w5.heap.size w5 wr

set_option maxHeartbeats 4000000 in
theorem walk_cends {w : World} {S : Nat → Prop} {A : Option Addr} {n c : Nat} {b : List UInt8} (h : Byt w S A n c b) (le mo bi : Int) :
    Calls Try.prog 3 #[.slice A n c, .agg #[.int .i64 le, .int .i64 mo, .int .i64 bi]] w fun e w' => e = .returned (.bool true) ∧ Below w.heap.size w w' := by
  have hb0 : Below w.heap.size w (w.alloc (.cells #[.int .i64 le, .int .i64 mo, .int .i64 bi] 24)) := (Below.refl _ _).alloc (Nat.le_refl _) _
  have hx0 := heap_alloc_new w (.cells #[.int .i64 le, .int .i64 mo, .int .i64 bi] 24)
  have haw := cawake_true (w.alloc (.cells #[.int .i64 le, .int .i64 mo, .int .i64 bi] 24))
  have H0 := Lib.hid (And.intro hb0 (And.intro hx0 h))
  have hln := h.len
  clear hb0 hx0 h
  by_cases h1 : n ≤ 2000
  · have h1' : ¬ (2000 : Int) < (n : Int) := by omega
    obtain ⟨V, hV⟩ : ∃ V, V = cutErr le mo bi := ⟨_, rfl⟩
    have HV := Lib.hid hV
    have HN := Lib.hid (And.intro h1 hln)
    clear hV h1 hln
    go_enter Try.func3, Try.ntmps3
    go_wp2_with (first
      | (go_at_call 8; refine haw.mono ?_; clear haw; rintro _ w1 ⟨rfl, hb1⟩; have H1 := Lib.hid (And.intro (H0.out.1.trans (hb1.mono H0.out.1.size)) ((hb1.block _ (lt_of_cells H0.out.2.1)).trans H0.out.2.1)); have hc0 : w1.cell? ⟨w.heap.size, 0, none⟩ = some (.int .i64 le) := cell_of_cells H1.out.2 0; have hc1 : w1.cell? ⟨w.heap.size, 1, none⟩ = some (.int .i64 mo) := cell_of_cells H1.out.2 1; have hc2 : w1.cell? ⟨w.heap.size, 2, none⟩ = some (.int .i64 bi) := cell_of_cells H1.out.2 2; have he := cutends_any (H0.out.2.2.below H1.out.1) (by have := HN.out.1; omega) le mo bi; rw [← HV.out, endV_N] at he; clear hb1)
      | (go_at_call 9; refine he.mono ?_; clear he hc0 hc1 hc2; rintro _ w2 ⟨A1, n1, c1, rfl, hi1, hb2⟩; have H2 := Lib.hid (And.intro (H1.out.1.trans (hb2.mono H1.out.1.size)) ((hb2.block _ (lt_of_cells H1.out.2)).trans H1.out.2)); have HI1 := Lib.hid hi1; have hc0 : w2.cell? ⟨w.heap.size, 0, none⟩ = some (.int .i64 le) := cell_of_cells H2.out.2 0; have hc1 : w2.cell? ⟨w.heap.size, 1, none⟩ = some (.int .i64 mo) := cell_of_cells H2.out.2 1; have hc2 : w2.cell? ⟨w.heap.size, 2, none⟩ = some (.int .i64 bi) := cell_of_cells H2.out.2 2; have hp := cutpieces_any (H0.out.2.2.below H2.out.1) (by have := HN.out.1; omega) le mo bi; rw [← HV.out] at hp; clear hb2 hi1)
      | (go_at_call 10; refine hp.mono ?_; clear hp hc0 hc1 hc2; rintro _ w3 ⟨A2, n2, c2, rfl, hi2, hb3⟩; have H3 := Lib.hid (And.intro (H2.out.1.trans (hb3.mono H2.out.1.size)) ((hb3.block _ (lt_of_cells H2.out.2)).trans H2.out.2)); have HI2 := Lib.hid (And.intro hi2 (HI1.out.below hb3)); have hc0 : w3.cell? ⟨w.heap.size, 0, none⟩ = some (.int .i64 le) := cell_of_cells H3.out.2 0; have hc1 : w3.cell? ⟨w.heap.size, 1, none⟩ = some (.int .i64 mo) := cell_of_cells H3.out.2 1; have hc2 : w3.cell? ⟨w.heap.size, 2, none⟩ = some (.int .i64 bi) := cell_of_cells H3.out.2 2; have hs := byt_string (H0.out.2.2.below H3.out.1); have hr := rends_any le mo bi b (by have h1 := HN.out.1; have h2 := HN.out.2; omega) w3; rw [← HV.out, endV_N] at hr; clear hb3 hi2)
      | (go_at_call 11; refine hr.mono ?_; clear hr hc0 hc1 hc2 hs; rintro _ w4 ⟨A3, n3, c3, rfl, hi3, hb4⟩; have H4 := Lib.hid (And.intro (H3.out.1.trans (hb4.mono H3.out.1.size)) ((hb4.block _ (lt_of_cells H3.out.2)).trans H3.out.2)); obtain ⟨N, hN⟩ : ∃ N, N = (endN le mo bi b).length := ⟨_, rfl⟩; obtain rfl : N = n1 := (by rw [← HI1.out.len, endI_length]; exact hN); obtain rfl : N = n2 := (by rw [← HI2.out.1.len, pieV_count]; exact hN); obtain rfl : N = n3 := (by rw [← hi3.len, endI_length]; exact hN); have HI4 := Lib.hid (And.intro (HI2.out.1.below hb4) (And.intro (HI2.out.2.below hb4) (And.intro hi3 hN))); have hc0 : w4.cell? ⟨w.heap.size, 0, none⟩ = some (.int .i64 le) := cell_of_cells H4.out.2 0; have hc1 : w4.cell? ⟨w.heap.size, 1, none⟩ = some (.int .i64 mo) := cell_of_cells H4.out.2 1; have hc2 : w4.cell? ⟨w.heap.size, 2, none⟩ = some (.int .i64 bi) := cell_of_cells H4.out.2 2; have hck := cutcheck_any le mo bi w4; rw [← HV.out] at hck; clear hb4 hi3 hN)
      | (go_at_call 12; refine hck.mono ?_; clear hck hc0 hc1 hc2; rintro _ w5 ⟨rfl, hb5⟩; have H5 := Lib.hid (And.intro (H4.out.1.trans (hb5.mono H4.out.1.size)) (And.intro (HI4.out.1.below hb5) (And.intro (HI4.out.2.1.below hb5) (And.intro (HI4.out.2.2.1.below hb5) HI4.out.2.2.2)))); clear hb5))
    clear H1 H2 H3 H4 HI1 HI2 HI4
    go_loopw [12, 13] (fun f i wr => CEn w5 (endN le mo bi b) f i wr) (fun _ i _ => N - (intOf i).toNat)
    case atStart => exact ⟨0, Nat.zero_le _, rfl, rfl, Below.refl _ _⟩
    case round =>
      obtain ⟨i', hi', rfl, rfl, hbr⟩ := hrel
      have HR := Lib.hid (And.intro hi' hbr)
      by_cases hlt : i' < N
      · have hlt' : (i' : Int) < (N : Int) := by omega
        have hwb := H5.out.1.trans (hbr.mono H5.out.1.size)
        have hB := H0.out.2.2.below hwb
        obtain ⟨hat1, hat2, hat3⟩ := pieV_at le mo bi b i' (by rw [← H5.out.2.2.2.2]; exact hlt)
        obtain ⟨q1, o1, rfl, _, hlq, hl⟩ := (H5.out.2.2.1.below hbr).row (by omega)
        obtain ⟨q3, o3, rfl, _, hmq, hm⟩ := (H5.out.2.2.2.1.below hbr).row (by omega)
        obtain ⟨q2, o2, rfl, _, hpq, hp⟩ := (H5.out.2.1.below hbr).row (by omega)
        have hl := hl i' hlt
        have hm := hm i' hlt
        obtain ⟨A5, n5, c5, hp, hpb⟩ := hp i' hlt
        have hx2 := H5.out.2.2.2.2
        rw [endI_at _ _ (by omega)] at hl hm
        rw [hat3] at hpb
        obtain ⟨f, hf⟩ : ∃ f, f = fromC (endN le mo bi b) i' := ⟨_, rfl⟩
        obtain ⟨e', he⟩ : ∃ e', e' = (endN le mo bi b)[i']?.getD 0 := ⟨_, rfl⟩
        rw [← hf, ← he] at hat1 hpb
        rw [← he] at hat2 hl hm
        rw [← hf]
        have hbn := hB.len
        have hcp := hB.cap
        have hcut : Byt wr S (cutA A c f) (e' - f) (c - f) ((b.drop f).take (e' - f)) := (hB.cut (by omega)).to (by omega)
        have HSL := Lib.hid (fun W => run_lh (P := Try.prog) 22 5 Try.underlying22 u8_size A n c f e' (f : Int) (e' : Int) rfl rfl (by omega) (by omega) W)
        have HC : Hid (∀ W, Below wr.drew.heap.size wr.drew W → W.cell? ⟨q1, o1 + i', none⟩ = some (.int .i64 (e' : Int)) ∧ W.cell? ⟨q3, o3 + i', none⟩ = some (.int .i64 (e' : Int)) ∧ W.cell? ⟨q2, o2 + i', none⟩ = some (.slice A5 n5 c5) ∧ (convert 22 9 (.slice A5 n5 c5)).run Try.prog W = .ok (.string (st ((b.drop f).take (e' - f)))) W ∧ (convert 22 9 (.slice (cutA A c f) (e' - f) (c - f))).run Try.prog W = .ok (.string (st ((b.drop f).take (e' - f)))) W) := Lib.hid fun W hW => by
          have hW2 : Below wr.heap.size wr W := Grow.below_of_drew hW
          exact ⟨(hW2.cell (p := ⟨_, _, none⟩) hlq).trans hl, (hW2.cell (p := ⟨_, _, none⟩) hmq).trans hm, (hW2.cell (p := ⟨_, _, none⟩) hpq).trans hp, byt_string (hpb.below hW2), byt_string (hcut.below hW2)⟩
        have HE : Hid (fromC (endN le mo bi b) (i' + 1) = e') := Lib.hid (by rw [fromC_succ, he])
        have HNN := Lib.hid hx2
        have hadd := IntWalk.i64_in ((i' : Int) + 1) (by have h1 := endN_short le mo bi b; have h2 := HN.out.1; omega)
        clear hwb hB hat1 hat2 hat3 hpb hcut hf he hbn hx2 hi' hbr hcp hl hm hp hlq hmq hpq
        generalize (b.drop f).take (e' - f) = PC at HC
        go_wp2_with fail
        refine wp_region_grow (fun W W' => Below W.heap.size W W') (Grow.nth [fun v _ => v = .slice (some ⟨q1, o1, none⟩) N c1, fun v _ => v = .int .i64 (i' : Int), fun v _ => v = .pointer (some ⟨q1, o1 + i', none⟩), fun v _ => v = .int .i64 (e' : Int), fun v _ => v = .slice (some ⟨q3, o3, none⟩) N c3, fun v _ => v = .int .i64 (i' : Int), fun v _ => v = .pointer (some ⟨q3, o3 + i', none⟩), fun v _ => v = .int .i64 (e' : Int), fun v _ => v = .bool false, fun v _ => v = .bool false, fun v _ => v = .slice (some ⟨q2, o2, none⟩) N c2, fun v _ => v = .int .i64 (i' : Int), fun v _ => v = .pointer (some ⟨q2, o2 + i', none⟩), fun v _ => v = .slice A5 n5 c5, fun v _ => v = .string (st PC), fun v _ => v = .slice A n c, fun v _ => v = .int .i64 (f : Int), fun v _ => v = .slice (some ⟨q3, o3, none⟩) N c3, fun v _ => v = .int .i64 (i' : Int), fun v _ => v = .pointer (some ⟨q3, o3 + i', none⟩), fun v _ => v = .int .i64 (e' : Int), fun v _ => v = .slice (cutA A c f) (e' - f) (c - f), fun v _ => v = .string (st PC), fun v _ => v = .bool false, fun v _ => v = .bool false]) 108 (by kernel_rfl) (by kernel_rfl) (by rfl) (fun W => Below.refl _ W) (fun _ _ _ h1 h2 => h1.trans (h2.mono h1.size)) (Grow.mono_nth ?gmono) ?gsteps ?gfin
        case gmono => exact ⟨fun _ _ _ h _ => h, fun _ _ _ h _ => h, fun _ _ _ h _ => h, fun _ _ _ h _ => h, fun _ _ _ h _ => h, fun _ _ _ h _ => h, fun _ _ _ h _ => h, fun _ _ _ h _ => h, fun _ _ _ h _ => h, fun _ _ _ h _ => h, fun _ _ _ h _ => h, fun _ _ _ h _ => h, fun _ _ _ h _ => h, fun _ _ _ h _ => h, fun _ _ _ h _ => h, fun _ _ _ h _ => h, fun _ _ _ h _ => h, fun _ _ _ h _ => h, fun _ _ _ h _ => h, fun _ _ _ h _ => h, fun _ _ _ h _ => h, fun _ _ _ h _ => h, fun _ _ _ h _ => h, fun _ _ _ h _ => h, fun _ _ _ h _ => h, trivial⟩
        case gsteps =>
          show Grow.allBelow _ 25
          refine And.intro ?_ ?s24
          refine And.intro ?_ ?s23
          refine And.intro ?_ ?s22
          refine And.intro ?_ ?s21
          refine And.intro ?_ ?s20
          refine And.intro ?_ ?s19
          refine And.intro ?_ ?s18
          refine And.intro ?_ ?s17
          refine And.intro ?_ ?s16
          refine And.intro ?_ ?s15
          refine And.intro ?_ ?s14
          refine And.intro ?_ ?s13
          refine And.intro ?_ ?s12
          refine And.intro ?_ ?s11
          refine And.intro ?_ ?s10
          refine And.intro ?_ ?s9
          refine And.intro ?_ ?s8
          refine And.intro ?_ ?s7
          refine And.intro ?_ ?s6
          refine And.intro ?_ ?s5
          refine And.intro ?_ ?s4
          refine And.intro ?_ ?s3
          refine And.intro ?_ ?s2
          refine And.intro ?_ ?s1
          refine And.intro ?_ ?s0
          exact trivial
          case s0 =>
            refine Grow.step_in (by rfl) (by rfl) ?_
            intro E W ec eg ef hG hd hu R HR
            have e6 : E (.tmp 6) = .slice (some ⟨q1, o1, none⟩) N c1 := hu 6 (by kernel_rfl)
            clear hd hu
            go_simp
            exact HR.out _ _ (Below.refl _ _) rfl
          case s1 =>
            refine Grow.step_in (by rfl) (by rfl) ?_
            intro E W ec eg ef hG hd hu R HR
            have e13 : E (.tmp 13) = .int .i64 (i' : Int) := hu 13 (by kernel_rfl)
            clear hd hu
            go_simp
            exact HR.out _ _ (Below.refl _ _) rfl
          case s2 =>
            refine Grow.step_in (by rfl) (by rfl) ?_
            intro E W ec eg ef hG hd hu R HR
            have e79 : E (.tmp 79) = .slice (some ⟨q1, o1, none⟩) N c1 := hd 0 79 (by kernel_rfl)
            have e80 : E (.tmp 80) = .int .i64 (i' : Int) := hd 1 80 (by kernel_rfl)
            clear hd hu
            go_simp
            first | exact HR.out _ _ (Below.refl _ _) rfl | (rw [if_pos ⟨by omega, by omega⟩]; exact HR.out _ _ (Below.refl _ _) rfl) | (rw [if_pos (by omega)]; exact HR.out _ _ (Below.refl _ _) rfl)
          case s3 =>
            refine Grow.step_in (by rfl) (by rfl) ?_
            intro E W ec eg ef hG hd hu R HR
            have e81 : E (.tmp 81) = .pointer (some ⟨q1, o1 + i', none⟩) := hd 2 81 (by kernel_rfl)
            clear hd hu
            obtain ⟨k1, k2, k3, k4, k5⟩ := HC.out W hG
            go_simp
            exact HR.out _ _ (Below.refl _ _) rfl
          case s4 =>
            refine Grow.step_in (by rfl) (by rfl) ?_
            intro E W ec eg ef hG hd hu R HR
            have e10 : E (.tmp 10) = .slice (some ⟨q3, o3, none⟩) N c3 := hu 10 (by kernel_rfl)
            clear hd hu
            go_simp
            exact HR.out _ _ (Below.refl _ _) rfl
          case s5 =>
            refine Grow.step_in (by rfl) (by rfl) ?_
            intro E W ec eg ef hG hd hu R HR
            have e13 : E (.tmp 13) = .int .i64 (i' : Int) := hu 13 (by kernel_rfl)
            clear hd hu
            go_simp
            exact HR.out _ _ (Below.refl _ _) rfl
          case s6 =>
            refine Grow.step_in (by rfl) (by rfl) ?_
            intro E W ec eg ef hG hd hu R HR
            have e83 : E (.tmp 83) = .slice (some ⟨q3, o3, none⟩) N c3 := hd 4 83 (by kernel_rfl)
            have e84 : E (.tmp 84) = .int .i64 (i' : Int) := hd 5 84 (by kernel_rfl)
            clear hd hu
            go_simp
            first | exact HR.out _ _ (Below.refl _ _) rfl | (rw [if_pos ⟨by omega, by omega⟩]; exact HR.out _ _ (Below.refl _ _) rfl) | (rw [if_pos (by omega)]; exact HR.out _ _ (Below.refl _ _) rfl)
          case s7 =>
            refine Grow.step_in (by rfl) (by rfl) ?_
            intro E W ec eg ef hG hd hu R HR
            have e85 : E (.tmp 85) = .pointer (some ⟨q3, o3 + i', none⟩) := hd 6 85 (by kernel_rfl)
            clear hd hu
            obtain ⟨k1, k2, k3, k4, k5⟩ := HC.out W hG
            go_simp
            exact HR.out _ _ (Below.refl _ _) rfl
          case s8 =>
            refine Grow.step_in (by rfl) (by rfl) ?_
            intro E W ec eg ef hG hd hu R HR
            have e82 : E (.tmp 82) = .int .i64 (e' : Int) := hd 3 82 (by kernel_rfl)
            have e86 : E (.tmp 86) = .int .i64 (e' : Int) := hd 7 86 (by kernel_rfl)
            clear hd hu
            go_simp
            exact HR.out _ _ (Below.refl _ _) rfl
          case s9 =>
            refine Grow.step_in (by rfl) (by rfl) ?_
            intro E W ec eg ef hG hd hu R HR
            have e87 : E (.tmp 87) = .bool false := hd 8 87 (by kernel_rfl)
            clear hd hu
            go_simp
            exact HR.out _ _ (Below.refl _ _) rfl
          case s10 =>
            refine Grow.step_on (g := 9) (b := false) (d := 88) (by rfl) (by rfl) (by rfl) (by kernel_rfl) (fun v W h => h) ?_
            intro E W ec eg ef hG hd hu R HR
            have e8 : E (.tmp 8) = .slice (some ⟨q2, o2, none⟩) N c2 := hu 8 (by kernel_rfl)
            clear hd hu
            go_simp
            exact HR.out _ _ (Below.refl _ _) rfl
          case s11 =>
            refine Grow.step_on (g := 9) (b := false) (d := 88) (by rfl) (by rfl) (by rfl) (by kernel_rfl) (fun v W h => h) ?_
            intro E W ec eg ef hG hd hu R HR
            have e13 : E (.tmp 13) = .int .i64 (i' : Int) := hu 13 (by kernel_rfl)
            clear hd hu
            go_simp
            exact HR.out _ _ (Below.refl _ _) rfl
          case s12 =>
            refine Grow.step_on (g := 9) (b := false) (d := 88) (by rfl) (by rfl) (by rfl) (by kernel_rfl) (fun v W h => h) ?_
            intro E W ec eg ef hG hd hu R HR
            have e89 : E (.tmp 89) = .slice (some ⟨q2, o2, none⟩) N c2 := hd 10 89 (by kernel_rfl)
            have e90 : E (.tmp 90) = .int .i64 (i' : Int) := hd 11 90 (by kernel_rfl)
            clear hd hu
            go_simp
            first | exact HR.out _ _ (Below.refl _ _) rfl | (rw [if_pos ⟨by omega, by omega⟩]; exact HR.out _ _ (Below.refl _ _) rfl) | (rw [if_pos (by omega)]; exact HR.out _ _ (Below.refl _ _) rfl)
          case s13 =>
            refine Grow.step_on (g := 9) (b := false) (d := 88) (by rfl) (by rfl) (by rfl) (by kernel_rfl) (fun v W h => h) ?_
            intro E W ec eg ef hG hd hu R HR
            have e91 : E (.tmp 91) = .pointer (some ⟨q2, o2 + i', none⟩) := hd 12 91 (by kernel_rfl)
            clear hd hu
            obtain ⟨k1, k2, k3, k4, k5⟩ := HC.out W hG
            go_simp
            exact HR.out _ _ (Below.refl _ _) rfl
          case s14 =>
            refine Grow.step_on (g := 9) (b := false) (d := 88) (by rfl) (by rfl) (by rfl) (by kernel_rfl) (fun v W h => h) ?_
            intro E W ec eg ef hG hd hu R HR
            have e92 : E (.tmp 92) = .slice A5 n5 c5 := hd 13 92 (by kernel_rfl)
            clear hd hu
            obtain ⟨k1, k2, k3, k4, k5⟩ := HC.out W hG
            go_simp
            exact HR.out _ _ (Below.refl _ _) rfl
          case s15 =>
            refine Grow.step_on (g := 9) (b := false) (d := 88) (by rfl) (by rfl) (by rfl) (by kernel_rfl) (fun v W h => h) ?_
            intro E W ec eg ef hG hd hu R HR
            have e0 : E (.tmp 0) = .slice A n c := hu 0 (by kernel_rfl)
            clear hd hu
            go_simp
            exact HR.out _ _ (Below.refl _ _) rfl
          case s16 =>
            refine Grow.step_on (g := 9) (b := false) (d := 88) (by rfl) (by rfl) (by rfl) (by kernel_rfl) (fun v W h => h) ?_
            intro E W ec eg ef hG hd hu R HR
            have e12 : E (.tmp 12) = .int .i64 (f : Int) := hu 12 (by kernel_rfl)
            clear hd hu
            go_simp
            exact HR.out _ _ (Below.refl _ _) rfl
          case s17 =>
            refine Grow.step_on (g := 9) (b := false) (d := 88) (by rfl) (by rfl) (by rfl) (by kernel_rfl) (fun v W h => h) ?_
            intro E W ec eg ef hG hd hu R HR
            have e10 : E (.tmp 10) = .slice (some ⟨q3, o3, none⟩) N c3 := hu 10 (by kernel_rfl)
            clear hd hu
            go_simp
            exact HR.out _ _ (Below.refl _ _) rfl
          case s18 =>
            refine Grow.step_on (g := 9) (b := false) (d := 88) (by rfl) (by rfl) (by rfl) (by kernel_rfl) (fun v W h => h) ?_
            intro E W ec eg ef hG hd hu R HR
            have e13 : E (.tmp 13) = .int .i64 (i' : Int) := hu 13 (by kernel_rfl)
            clear hd hu
            go_simp
            exact HR.out _ _ (Below.refl _ _) rfl
          case s19 =>
            refine Grow.step_on (g := 9) (b := false) (d := 88) (by rfl) (by rfl) (by rfl) (by kernel_rfl) (fun v W h => h) ?_
            intro E W ec eg ef hG hd hu R HR
            have e96 : E (.tmp 96) = .slice (some ⟨q3, o3, none⟩) N c3 := hd 17 96 (by kernel_rfl)
            have e97 : E (.tmp 97) = .int .i64 (i' : Int) := hd 18 97 (by kernel_rfl)
            clear hd hu
            go_simp
            first | exact HR.out _ _ (Below.refl _ _) rfl | (rw [if_pos ⟨by omega, by omega⟩]; exact HR.out _ _ (Below.refl _ _) rfl) | (rw [if_pos (by omega)]; exact HR.out _ _ (Below.refl _ _) rfl)
          case s20 =>
            refine Grow.step_on (g := 9) (b := false) (d := 88) (by rfl) (by rfl) (by rfl) (by kernel_rfl) (fun v W h => h) ?_
            intro E W ec eg ef hG hd hu R HR
            have e98 : E (.tmp 98) = .pointer (some ⟨q3, o3 + i', none⟩) := hd 19 98 (by kernel_rfl)
            clear hd hu
            obtain ⟨k1, k2, k3, k4, k5⟩ := HC.out W hG
            go_simp
            exact HR.out _ _ (Below.refl _ _) rfl
          case s21 =>
            refine Grow.step_on (g := 9) (b := false) (d := 88) (by rfl) (by rfl) (by rfl) (by kernel_rfl) (fun v W h => h) ?_
            intro E W ec eg ef hG hd hu R HR
            have e94 : E (.tmp 94) = .slice A n c := hd 15 94 (by kernel_rfl)
            have e95 : E (.tmp 95) = .int .i64 (f : Int) := hd 16 95 (by kernel_rfl)
            have e99 : E (.tmp 99) = .int .i64 (e' : Int) := hd 20 99 (by kernel_rfl)
            clear hd hu
            have hsl := HSL.out W
            go_simp
            exact HR.out _ _ (Below.refl _ _) rfl
          case s22 =>
            refine Grow.step_on (g := 9) (b := false) (d := 88) (by rfl) (by rfl) (by rfl) (by kernel_rfl) (fun v W h => h) ?_
            intro E W ec eg ef hG hd hu R HR
            have e100 : E (.tmp 100) = .slice (cutA A c f) (e' - f) (c - f) := hd 21 100 (by kernel_rfl)
            clear hd hu
            obtain ⟨k1, k2, k3, k4, k5⟩ := HC.out W hG
            go_simp
            exact HR.out _ _ (Below.refl _ _) rfl
          case s23 =>
            refine Grow.step_on (g := 9) (b := false) (d := 88) (by rfl) (by rfl) (by rfl) (by kernel_rfl) (fun v W h => h) ?_
            intro E W ec eg ef hG hd hu R HR
            have e93 : E (.tmp 93) = .string (st PC) := hd 14 93 (by kernel_rfl)
            have e101 : E (.tmp 101) = .string (st PC) := hd 22 101 (by kernel_rfl)
            clear hd hu
            go_simp
            exact HR.out _ _ (Below.refl _ _) rfl
          case s24 =>
            refine Grow.step_in (by rfl) (by rfl) ?_
            intro E W ec eg ef hG hd hu R HR
            have e88 : E (.tmp 88) = .bool false := hd 9 88 (by kernel_rfl)
            have e102 : E (.tmp 102) = .bool false := hd 23 102 (by kernel_rfl)
            clear hd hu
            go_simp
            exact HR.out _ _ (Below.refl _ _) rfl
        case gfin =>
          intro W hG
          refine Grow.fin_dst (by rfl) ?_
          rintro _ rfl
          refine Grow.fin_dst (by rfl) ?_
          rintro _ rfl
          refine Grow.fin_dst (by rfl) ?_
          rintro _ rfl
          refine Grow.fin_dst (by rfl) ?_
          rintro _ rfl
          refine Grow.fin_dst (by rfl) ?_
          rintro _ rfl
          refine Grow.fin_dst (by rfl) ?_
          rintro _ rfl
          refine Grow.fin_dst (by rfl) ?_
          rintro _ rfl
          refine Grow.fin_dst (by rfl) ?_
          rintro _ rfl
          refine Grow.fin_dst (by rfl) ?_
          rintro _ rfl
          refine Grow.fin_dst (by rfl) ?_
          rintro _ rfl
          refine Grow.fin_dst (by rfl) ?_
          rintro _ rfl
          refine Grow.fin_dst (by rfl) ?_
          rintro _ rfl
          refine Grow.fin_dst (by rfl) ?_
          rintro _ rfl
          refine Grow.fin_dst (by rfl) ?_
          rintro _ rfl
          refine Grow.fin_dst (by rfl) ?_
          rintro _ rfl
          refine Grow.fin_dst (by rfl) ?_
          rintro _ rfl
          refine Grow.fin_dst (by rfl) ?_
          rintro _ rfl
          refine Grow.fin_dst (by rfl) ?_
          rintro _ rfl
          refine Grow.fin_dst (by rfl) ?_
          rintro _ rfl
          refine Grow.fin_dst (by rfl) ?_
          rintro _ rfl
          refine Grow.fin_dst (by rfl) ?_
          rintro _ rfl
          refine Grow.fin_dst (by rfl) ?_
          rintro _ rfl
          refine Grow.fin_dst (by rfl) ?_
          rintro _ rfl
          refine Grow.fin_dst (by rfl) ?_
          rintro _ rfl
          refine Grow.fin_dst (by rfl) ?_
          rintro _ rfl
          simp only [Act.put, List.setIfInBounds_toArray, List.set_cons_zero, List.set_cons_succ]
          refine Grow.fin_end ?_
          have hm2 := (HC.out W hG).2.1
          have HB2 : Hid (Below w5.heap.size w5 W) := Lib.hid (HR.out.2.trans ((Grow.below_of_drew hG).mono HR.out.2.size))
          clear hG
          go_wp2_with fail
          go_roundw
          case rel => unfold CEn; exact ⟨i' + 1, by rw [← HNN.out]; omega, by simp, by rw [HE.out], HB2.out⟩
          case measure => simp only [intOf]; omega
      · have hlt' : ¬ (i' : Int) < (N : Int) := by omega
        clear hi' hbr
        go_wp2_with fail
        go_ret
        exact ⟨rfl, H5.out.1.trans (HR.out.2.mono H5.out.1.size)⟩
  · have h1' : (2000 : Int) < (n : Int) := by omega
    clear h1 hln
    go_enter Try.func3, Try.ntmps3
    go_wp2_with (go_at_call 8; refine haw.mono ?_; clear haw; rintro _ w1 ⟨rfl, hb1⟩)
    go_ret
    exact ⟨rfl, H0.out.1.trans (hb1.mono H0.out.1.size)⟩
end Go.Proofs.Ytcmdiclbbcdceaa
