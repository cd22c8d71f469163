/-
  The statement ProofMakes: its walk.
-/
import Derived.Test.YtebhlfmianohlaaDoorProofAwake
import Derived.Test.YtebhlfmianohlaaDoorProofRefProve
import Derived.Test.YtebhlfmianohlaaDoorProofRefSame
namespace Go.Proofs.YtebhlfmianohlaaDoor
open Go.RowKit

set_option maxHeartbeats 8000000 in
set_option maxRecDepth 100000 in
theorem walk_makes {w : World} {S : Nat → Prop} {A : Option Addr} {n c : Nat} {b : List UInt8} (h : Byt w S A n c b) {i : Int} (_hi0 : (Lit.int .i64 i).wf = true) (ht : Tab w) :
    Calls Tryd.prog 3 #[.slice A n c, .int .i64 i] w fun e w' => e = .returned (.bool true) ∧ Below w.heap.size w w' := by
  have haw := pawake_true ht
  have HH0 := Lib.hid (And.intro h ht)
  have hbl := h.len
  by_cases hn : n ≤ 1000
  · have hn' : ¬ (1000 : Int) < (n : Int) := by omega
    have HB6 : Hid (b.length ≤ 1000000) := Lib.hid (by omega)
    obtain ⟨RS, hRS⟩ : ∃ RS, RS = row8 (rootL b) := ⟨_, rfl⟩
    have hqr := id_eql (rootL b) (rootL b) (crownD_length _ _) (crownD_length _ _)
    rw [show (u8s (rootL b)).toArray = RS from hRS.symm, decide_eq_true rfl] at hqr
    have HRS := Lib.hid (And.intro hRS hqr)
    obtain ⟨PL, hPL⟩ : ∃ PL, PL = proveLeaf b i := ⟨_, rfl⟩
    obtain ⟨PW, hPW⟩ : ∃ PW, PW = proveWay b i := ⟨_, rfl⟩
    obtain ⟨PE, hPE⟩ : ∃ PE, PE = proveErr b i := ⟨_, rfl⟩
    have hsq := st_beq PL PL
    rw [decide_eq_true rfl] at hsq
    have HSQ := Lib.hid hsq
    have HPV : Hid (∀ W, Below w.heap.size w W → Calls Tryd.prog 10 #[.slice A n c, .int .i64 i] W fun e w' => ∃ A1 n1 c1 A2 n2 c2, e = .returned (.tuple #[.slice A1 n1 c1, .slice A2 n2 c2, .int .i64 PE]) ∧ Byt w' (W.heap.size ≤ ·) A1 n1 c1 PL ∧ Ids w' (W.heap.size ≤ ·) A2 n2 c2 PW ∧ Below W.heap.size W w') := Lib.hid fun W hW => by
      rw [hPL, hPW, hPE]
      exact prove_any (HH0.out.1.below hW) (by omega) (HH0.out.2.below hW) i
    have HRV : Hid (∀ W, Calls Tryd.prog 11 #[.string (st b), .int .i64 i] W fun e w' => ∃ A n c, e = .returned (.tuple #[.string (st PL), .slice A n c, .int .i64 PE]) ∧ Ids w' (fun _ => True) A n c PW ∧ Below W.heap.size W w') := Lib.hid fun W => by
      rw [hPL, hPW, hPE]
      exact rprove_any b HB6.out i W
    clear hRS hqr hPL hPW hPE hsq h ht hbl
    go_enter Tryd.func3, Tryd.ntmps3
    go_wp2_with (go_at_call 9; refine haw.mono ?_; clear haw; rintro _ w1 ⟨rfl, hb1⟩)
    have HB1 := Lib.hid hb1
    refine (HPV.out w1 hb1).mono ?_
    clear hb1
    rintro _ w2 ⟨A1, n1, c1, A2, n2, c2, rfl, hy1, hi1, hb2⟩
    have hb02 := HB1.out.trans (hb2.mono HB1.out.size)
    have hs : (convert 22 9 (.slice A n c)).run Tryd.prog w2 = .ok (.string (st b)) w2 := byt_string (HH0.out.1.below hb02)
    have H2 := Lib.hid (And.intro hy1 (And.intro hi1 hb02))
    clear hy1 hi1 hb2 hb02
    go_wp2_with fail
    refine (HRV.out w2).mono ?_
    rintro _ w3 ⟨A3, n3, c3, rfl, hi3, hb3⟩
    obtain rfl : n2 = n3 := by rw [← H2.out.2.1.len, hi3.len]
    have HD : Hid (Byt w3.drew (w1.heap.size ≤ ·) A1 n1 c1 PL ∧ Ids w3.drew (w1.heap.size ≤ ·) A2 n2 c2 PW ∧ Ids w3.drew (fun _ => True) A3 n2 c3 PW ∧ Byt w3.drew S A n c b ∧ Tab w3.drew ∧ Below w.heap.size w w3) := by
      have hb03 := H2.out.2.2.trans (hb3.mono H2.out.2.2.size)
      exact Lib.hid ⟨(H2.out.1.below hb3).drew, (H2.out.2.1.below hb3).drew, hi3.drew, (HH0.out.1.below hb03).drew, (HH0.out.2.below hb03).drew, hb03⟩
    have hpos := splitL_pos b
    obtain ⟨N, hN⟩ : ∃ N, N = (splitL b).length := ⟨_, rfl⟩
    rw [← hN] at hpos
    have HN := Lib.hid (And.intro hN hpos)
    clear hi3 hb3 hs hN hpos
    go_wp2_with fail
    refine wp_region_grow (fun W W' => Below W.heap.size W W') (Grow.nth [fun v _ => v = .slice A n c, fun v _ => v = .agg RS, fun v _ => v = .slice A n c, fun v _ => v = .string (st b), fun v _ => v = .agg RS, fun v _ => v = .bool true, fun v _ => v = .bool true, fun v _ => v = .slice A n c, fun v _ => v = .int .i64 (N : Int), fun v _ => v = .slice A n c, fun v _ => v = .string (st b), fun v W => ∃ g k, v = .slice (some ⟨g, 0, none⟩) N k, fun v _ => v = .int .i64 (N : Int), fun v _ => v = .bool true, fun v _ => v = .bool true, fun v _ => v = .bool true, fun v _ => v = .slice A1 n1 c1, fun v _ => v = .string (st PL), fun v _ => v = .string (st PL), fun v _ => v = .bool true, fun v _ => v = .bool true, fun v _ => v = .bool true, fun v _ => v = .slice A2 n2 c2, fun v _ => v = .slice A3 n2 c3, fun v _ => v = .bool true, fun v _ => v = .bool true, fun v _ => v = .bool true, fun v _ => v = .int .i64 PE, fun v _ => v = .int .i64 PE, fun v _ => v = .bool true, fun v _ => v = .bool true, fun v _ => v = .bool true]) 64 (by kernel_rfl) (by kernel_rfl) (by rfl) (fun W => Below.refl _ W) (fun _ _ _ h1 h2 => h1.trans (h2.mono h1.size)) (Grow.mono_nth ?gmono) ?gsteps ?gfin
    case gmono => exact ⟨fun _ _ _ h _ => h, fun _ _ _ h _ => h, fun _ _ _ h _ => h, fun _ _ _ h _ => h, fun _ _ _ h _ => h, fun _ _ _ h _ => h, fun _ _ _ h _ => h, fun _ _ _ h _ => h, fun _ _ _ h _ => h, fun _ _ _ h _ => h, fun _ _ _ h _ => h, fun _ _ _ h _ => h, fun _ _ _ h _ => h, fun _ _ _ h _ => h, fun _ _ _ h _ => h, fun _ _ _ h _ => h, fun _ _ _ h _ => h, fun _ _ _ h _ => h, fun _ _ _ h _ => h, fun _ _ _ h _ => h, fun _ _ _ h _ => h, fun _ _ _ h _ => h, fun _ _ _ h _ => h, fun _ _ _ h _ => h, fun _ _ _ h _ => h, fun _ _ _ h _ => h, fun _ _ _ h _ => h, fun _ _ _ h _ => h, fun _ _ _ h _ => h, fun _ _ _ h _ => h, fun _ _ _ h _ => h, fun _ _ _ h _ => h, trivial⟩
    case gsteps =>
      show Grow.allBelow _ 32
      refine And.intro ?_ ?s31
      refine And.intro ?_ ?s30
      refine And.intro ?_ ?s29
      refine And.intro ?_ ?s28
      refine And.intro ?_ ?s27
      refine And.intro ?_ ?s26
      refine And.intro ?_ ?s25
      refine And.intro ?_ ?s24
      refine And.intro ?_ ?s23
      refine And.intro ?_ ?s22
      refine And.intro ?_ ?s21
      refine And.intro ?_ ?s20
      refine And.intro ?_ ?s19
      refine And.intro ?_ ?s18
      refine And.intro ?_ ?s17
      refine And.intro ?_ ?s16
      refine And.intro ?_ ?s15
      refine And.intro ?_ ?s14
      refine And.intro ?_ ?s13
      refine And.intro ?_ ?s12
      refine And.intro ?_ ?s11
      refine And.intro ?_ ?s10
      refine And.intro ?_ ?s9
      refine And.intro ?_ ?s8
      refine And.intro ?_ ?s7
      refine And.intro ?_ ?s6
      refine And.intro ?_ ?s5
      refine And.intro ?_ ?s4
      refine And.intro ?_ ?s3
      refine And.intro ?_ ?s2
      refine And.intro ?_ ?s1
      refine And.intro ?_ ?s0
      exact trivial
      case s0 =>
        refine Grow.step_in (by rfl) (by rfl) ?_
        intro E W ec eg ef hG hd hu R HR
        have e0 : E (.tmp 0) = .slice A n c := hu 0 (by kernel_rfl)
        clear hd hu
        go_simp
        exact HR.out _ _ (Below.refl _ _) rfl
      case s1 =>
        refine Grow.step_in (by rfl) (by rfl) ?_
        intro E W ec eg ef hG hd hu R HR
        have e33 : E (.tmp 33) = .slice A n c := hd 0 33 (by kernel_rfl)
        clear hd hu
        go_simp
        refine (root_any (HD.out.2.2.2.1.below hG) (by omega) (HD.out.2.2.2.2.1.below hG)).mono ?_
        rintro _ w' ⟨rfl, hb⟩
        exact ⟨_, rfl, HR.out _ _ hb (show Value.agg _ = Value.agg RS by rw [HRS.out.1])⟩
      case s2 =>
        refine Grow.step_in (by rfl) (by rfl) ?_
        intro E W ec eg ef hG hd hu R HR
        have e0 : E (.tmp 0) = .slice A n c := hu 0 (by kernel_rfl)
        clear hd hu
        go_simp
        exact HR.out _ _ (Below.refl _ _) rfl
      case s3 =>
        refine Grow.step_in (by rfl) (by rfl) ?_
        intro E W ec eg ef hG hd hu R HR
        have e35 : E (.tmp 35) = .slice A n c := hd 2 35 (by kernel_rfl)
        clear hd hu
        have hs := byt_string (HD.out.2.2.2.1.below hG)
        go_simp
        exact HR.out _ _ (Below.refl _ _) rfl
      case s4 =>
        refine Grow.step_in (by rfl) (by rfl) ?_
        intro E W ec eg ef hG hd hu R HR
        have e36 : E (.tmp 36) = .string (st b) := hd 3 36 (by kernel_rfl)
        clear hd hu
        go_simp
        refine (rroot_any b HB6.out W).mono ?_
        rintro _ w' ⟨rfl, hb⟩
        exact ⟨_, rfl, HR.out _ _ hb (show Value.agg _ = Value.agg RS by rw [HRS.out.1])⟩
      case s5 =>
        refine Grow.step_in (by rfl) (by rfl) ?_
        intro E W ec eg ef hG hd hu R HR
        have e34 : E (.tmp 34) = .agg RS := hd 1 34 (by kernel_rfl)
        have e37 : E (.tmp 37) = .agg RS := hd 4 37 (by kernel_rfl)
        clear hd hu
        have hq := HRS.out.2
        go_simp
        exact HR.out _ _ (Below.refl _ _) rfl
      case s6 =>
        refine Grow.step_in (by rfl) (by rfl) ?_
        intro E W ec eg ef hG hd hu R HR
        have e38 : E (.tmp 38) = .bool true := hd 5 38 (by kernel_rfl)
        clear hd hu
        go_simp
        exact HR.out _ _ (Below.refl _ _) rfl
      case s7 =>
        refine Grow.step_on (g := 6) (b := true) (d := 39) (by rfl) (by rfl) (by rfl) (by kernel_rfl) (fun v W h => h) ?_
        intro E W ec eg ef hG hd hu R HR
        have e0 : E (.tmp 0) = .slice A n c := hu 0 (by kernel_rfl)
        clear hd hu
        go_simp
        exact HR.out _ _ (Below.refl _ _) rfl
      case s8 =>
        refine Grow.step_on (g := 6) (b := true) (d := 39) (by rfl) (by rfl) (by rfl) (by kernel_rfl) (fun v W h => h) ?_
        intro E W ec eg ef hG hd hu R HR
        have e40 : E (.tmp 40) = .slice A n c := hd 7 40 (by kernel_rfl)
        clear hd hu
        go_simp
        refine (leaves_any (HD.out.2.2.2.1.below hG)).mono ?_
        rintro _ w' ⟨rfl, rfl⟩
        exact ⟨_, rfl, HR.out _ _ (Below.refl _ _) (show Value.int _ _ = Value.int _ _ by rw [HN.out.1])⟩
      case s9 =>
        refine Grow.step_on (g := 6) (b := true) (d := 39) (by rfl) (by rfl) (by rfl) (by kernel_rfl) (fun v W h => h) ?_
        intro E W ec eg ef hG hd hu R HR
        have e0 : E (.tmp 0) = .slice A n c := hu 0 (by kernel_rfl)
        clear hd hu
        go_simp
        exact HR.out _ _ (Below.refl _ _) rfl
      case s10 =>
        refine Grow.step_on (g := 6) (b := true) (d := 39) (by rfl) (by rfl) (by rfl) (by kernel_rfl) (fun v W h => h) ?_
        intro E W ec eg ef hG hd hu R HR
        have e42 : E (.tmp 42) = .slice A n c := hd 9 42 (by kernel_rfl)
        clear hd hu
        have hs := byt_string (HD.out.2.2.2.1.below hG)
        go_simp
        exact HR.out _ _ (Below.refl _ _) rfl
      case s11 =>
        refine Grow.step_on (g := 6) (b := true) (d := 39) (by rfl) (by rfl) (by rfl) (by kernel_rfl) (fun v W h => h) ?_
        intro E W ec eg ef hG hd hu R HR
        have e43 : E (.tmp 43) = .string (st b) := hd 10 43 (by kernel_rfl)
        clear hd hu
        go_simp
        refine (rsplit_any b HB6.out W).mono ?_
        rintro _ w' ⟨v, rfl, hown, hb⟩
        rw [← HN.out.1] at hown
        obtain ⟨g, k, rfl, _⟩ := hown.form HN.out.2
        exact ⟨_, rfl, HR.out _ _ hb ⟨g, k, rfl⟩⟩
      case s12 =>
        refine Grow.step_on (g := 6) (b := true) (d := 39) (by rfl) (by rfl) (by rfl) (by kernel_rfl) (fun v W h => h) ?_
        intro E W ec eg ef hG hd hu R HR
        have h44 := hd 11 44 (by kernel_rfl)
        clear hd hu
        obtain ⟨g, k, e44⟩ := h44
        go_simp
        exact HR.out _ _ (Below.refl _ _) rfl
      case s13 =>
        refine Grow.step_on (g := 6) (b := true) (d := 39) (by rfl) (by rfl) (by rfl) (by kernel_rfl) (fun v W h => h) ?_
        intro E W ec eg ef hG hd hu R HR
        have e41 : E (.tmp 41) = .int .i64 (N : Int) := hd 8 41 (by kernel_rfl)
        have e45 : E (.tmp 45) = .int .i64 (N : Int) := hd 12 45 (by kernel_rfl)
        clear hd hu
        go_simp
        exact HR.out _ _ (Below.refl _ _) rfl
      case s14 =>
        refine Grow.step_in (by rfl) (by rfl) ?_
        intro E W ec eg ef hG hd hu R HR
        have e39 : E (.tmp 39) = .bool true := hd 6 39 (by kernel_rfl)
        have e46 : E (.tmp 46) = .bool true := hd 13 46 (by kernel_rfl)
        clear hd hu
        go_simp
        exact HR.out _ _ (Below.refl _ _) rfl
      case s15 =>
        refine Grow.step_in (by rfl) (by rfl) ?_
        intro E W ec eg ef hG hd hu R HR
        have e47 : E (.tmp 47) = .bool true := hd 14 47 (by kernel_rfl)
        clear hd hu
        go_simp
        exact HR.out _ _ (Below.refl _ _) rfl
      case s16 =>
        refine Grow.step_on (g := 15) (b := true) (d := 48) (by rfl) (by rfl) (by rfl) (by kernel_rfl) (fun v W h => h) ?_
        intro E W ec eg ef hG hd hu R HR
        have e6 : E (.tmp 6) = .slice A1 n1 c1 := hu 6 (by kernel_rfl)
        clear hd hu
        go_simp
        exact HR.out _ _ (Below.refl _ _) rfl
      case s17 =>
        refine Grow.step_on (g := 15) (b := true) (d := 48) (by rfl) (by rfl) (by rfl) (by kernel_rfl) (fun v W h => h) ?_
        intro E W ec eg ef hG hd hu R HR
        have e49 : E (.tmp 49) = .slice A1 n1 c1 := hd 16 49 (by kernel_rfl)
        clear hd hu
        have hs := byt_string (HD.out.1.below hG)
        go_simp
        exact HR.out _ _ (Below.refl _ _) rfl
      case s18 =>
        refine Grow.step_on (g := 15) (b := true) (d := 48) (by rfl) (by rfl) (by rfl) (by kernel_rfl) (fun v W h => h) ?_
        intro E W ec eg ef hG hd hu R HR
        have e9 : E (.tmp 9) = .string (st PL) := hu 9 (by kernel_rfl)
        clear hd hu
        go_simp
        exact HR.out _ _ (Below.refl _ _) rfl
      case s19 =>
        refine Grow.step_on (g := 15) (b := true) (d := 48) (by rfl) (by rfl) (by rfl) (by kernel_rfl) (fun v W h => h) ?_
        intro E W ec eg ef hG hd hu R HR
        have e50 : E (.tmp 50) = .string (st PL) := hd 17 50 (by kernel_rfl)
        have e51 : E (.tmp 51) = .string (st PL) := hd 18 51 (by kernel_rfl)
        clear hd hu
        have hq := HSQ.out
        go_simp
        exact HR.out _ _ (Below.refl _ _) rfl
      case s20 =>
        refine Grow.step_in (by rfl) (by rfl) ?_
        intro E W ec eg ef hG hd hu R HR
        have e48 : E (.tmp 48) = .bool true := hd 15 48 (by kernel_rfl)
        have e52 : E (.tmp 52) = .bool true := hd 19 52 (by kernel_rfl)
        clear hd hu
        go_simp
        exact HR.out _ _ (Below.refl _ _) rfl
      case s21 =>
        refine Grow.step_in (by rfl) (by rfl) ?_
        intro E W ec eg ef hG hd hu R HR
        have e53 : E (.tmp 53) = .bool true := hd 20 53 (by kernel_rfl)
        clear hd hu
        go_simp
        exact HR.out _ _ (Below.refl _ _) rfl
      case s22 =>
        refine Grow.step_on (g := 21) (b := true) (d := 54) (by rfl) (by rfl) (by rfl) (by kernel_rfl) (fun v W h => h) ?_
        intro E W ec eg ef hG hd hu R HR
        have e7 : E (.tmp 7) = .slice A2 n2 c2 := hu 7 (by kernel_rfl)
        clear hd hu
        go_simp
        exact HR.out _ _ (Below.refl _ _) rfl
      case s23 =>
        refine Grow.step_on (g := 21) (b := true) (d := 54) (by rfl) (by rfl) (by rfl) (by kernel_rfl) (fun v W h => h) ?_
        intro E W ec eg ef hG hd hu R HR
        have e10 : E (.tmp 10) = .slice A3 n2 c3 := hu 10 (by kernel_rfl)
        clear hd hu
        go_simp
        exact HR.out _ _ (Below.refl _ _) rfl
      case s24 =>
        refine Grow.step_on (g := 21) (b := true) (d := 54) (by rfl) (by rfl) (by rfl) (by kernel_rfl) (fun v W h => h) ?_
        intro E W ec eg ef hG hd hu R HR
        have e55 : E (.tmp 55) = .slice A2 n2 c2 := hd 22 55 (by kernel_rfl)
        have e56 : E (.tmp 56) = .slice A3 n2 c3 := hd 23 56 (by kernel_rfl)
        clear hd hu
        go_simp
        refine (rsame_any (HD.out.2.1.below hG) (HD.out.2.2.1.below hG)).mono ?_
        rintro _ w' ⟨rfl, hb⟩
        exact ⟨_, rfl, HR.out _ _ hb (rfl)⟩
      case s25 =>
        refine Grow.step_in (by rfl) (by rfl) ?_
        intro E W ec eg ef hG hd hu R HR
        have e54 : E (.tmp 54) = .bool true := hd 21 54 (by kernel_rfl)
        have e57 : E (.tmp 57) = .bool true := hd 24 57 (by kernel_rfl)
        clear hd hu
        go_simp
        exact HR.out _ _ (Below.refl _ _) rfl
      case s26 =>
        refine Grow.step_in (by rfl) (by rfl) ?_
        intro E W ec eg ef hG hd hu R HR
        have e58 : E (.tmp 58) = .bool true := hd 25 58 (by kernel_rfl)
        clear hd hu
        go_simp
        exact HR.out _ _ (Below.refl _ _) rfl
      case s27 =>
        refine Grow.step_on (g := 26) (b := true) (d := 59) (by rfl) (by rfl) (by rfl) (by kernel_rfl) (fun v W h => h) ?_
        intro E W ec eg ef hG hd hu R HR
        have e8 : E (.tmp 8) = .int .i64 PE := hu 8 (by kernel_rfl)
        clear hd hu
        go_simp
        exact HR.out _ _ (Below.refl _ _) rfl
      case s28 =>
        refine Grow.step_on (g := 26) (b := true) (d := 59) (by rfl) (by rfl) (by rfl) (by kernel_rfl) (fun v W h => h) ?_
        intro E W ec eg ef hG hd hu R HR
        have e11 : E (.tmp 11) = .int .i64 PE := hu 11 (by kernel_rfl)
        clear hd hu
        go_simp
        exact HR.out _ _ (Below.refl _ _) rfl
      case s29 =>
        refine Grow.step_on (g := 26) (b := true) (d := 59) (by rfl) (by rfl) (by rfl) (by kernel_rfl) (fun v W h => h) ?_
        intro E W ec eg ef hG hd hu R HR
        have e60 : E (.tmp 60) = .int .i64 PE := hd 27 60 (by kernel_rfl)
        have e61 : E (.tmp 61) = .int .i64 PE := hd 28 61 (by kernel_rfl)
        clear hd hu
        go_simp
        exact HR.out _ _ (Below.refl _ _) rfl
      case s30 =>
        refine Grow.step_in (by rfl) (by rfl) ?_
        intro E W ec eg ef hG hd hu R HR
        have e59 : E (.tmp 59) = .bool true := hd 26 59 (by kernel_rfl)
        have e62 : E (.tmp 62) = .bool true := hd 29 62 (by kernel_rfl)
        clear hd hu
        go_simp
        exact HR.out _ _ (Below.refl _ _) rfl
      case s31 =>
        refine Grow.step_in (by rfl) (by rfl) ?_
        intro E W ec eg ef hG hd hu R HR
        have e63 : E (.tmp 63) = .bool true := hd 30 63 (by kernel_rfl)
        clear hd hu
        go_simp
        exact HR.out _ _ (Below.refl _ _) rfl
    case gfin =>
      intro W hG
      refine Grow.fin_dst (by rfl) ?_
      rintro _ rfl
      refine Grow.fin_dst (by rfl) ?_
      rintro _ rfl
      refine Grow.fin_dst (by rfl) ?_
      rintro _ rfl
      refine Grow.fin_dst (by rfl) ?_
      rintro _ rfl
      refine Grow.fin_dst (by rfl) ?_
      rintro _ rfl
      refine Grow.fin_dst (by rfl) ?_
      rintro _ rfl
      refine Grow.fin_dst (by rfl) ?_
      rintro _ rfl
      refine Grow.fin_dst (by rfl) ?_
      rintro _ rfl
      refine Grow.fin_dst (by rfl) ?_
      rintro _ rfl
      refine Grow.fin_dst (by rfl) ?_
      rintro _ rfl
      refine Grow.fin_dst (by rfl) ?_
      rintro _ rfl
      refine Grow.fin_dst (by rfl) ?_
      rintro _ ⟨_, _, rfl⟩
      refine Grow.fin_dst (by rfl) ?_
      rintro _ rfl
      refine Grow.fin_dst (by rfl) ?_
      rintro _ rfl
      refine Grow.fin_dst (by rfl) ?_
      rintro _ rfl
      refine Grow.fin_dst (by rfl) ?_
      rintro _ rfl
      refine Grow.fin_dst (by rfl) ?_
      rintro _ rfl
      refine Grow.fin_dst (by rfl) ?_
      rintro _ rfl
      refine Grow.fin_dst (by rfl) ?_
      rintro _ rfl
      refine Grow.fin_dst (by rfl) ?_
      rintro _ rfl
      refine Grow.fin_dst (by rfl) ?_
      rintro _ rfl
      refine Grow.fin_dst (by rfl) ?_
      rintro _ rfl
      refine Grow.fin_dst (by rfl) ?_
      rintro _ rfl
      refine Grow.fin_dst (by rfl) ?_
      rintro _ rfl
      refine Grow.fin_dst (by rfl) ?_
      rintro _ rfl
      refine Grow.fin_dst (by rfl) ?_
      rintro _ rfl
      refine Grow.fin_dst (by rfl) ?_
      rintro _ rfl
      refine Grow.fin_dst (by rfl) ?_
      rintro _ rfl
      refine Grow.fin_dst (by rfl) ?_
      rintro _ rfl
      refine Grow.fin_dst (by rfl) ?_
      rintro _ rfl
      refine Grow.fin_dst (by rfl) ?_
      rintro _ rfl
      refine Grow.fin_dst (by rfl) ?_
      rintro _ rfl
      simp only [Act.put, List.setIfInBounds_toArray, List.set_cons_zero, List.set_cons_succ]
      refine Grow.fin_end ?_
      have HBW := Lib.hid (HD.out.2.2.2.2.2.trans ((Grow.below_of_drew hG).mono HD.out.2.2.2.2.2.size))
      clear hG
      go_wp2_with fail
      go_ret
      exact ⟨rfl, HBW.out⟩
  · have hn' : (1000 : Int) < (n : Int) := by omega
    clear h ht
    go_enter Tryd.func3, Tryd.ntmps3
    go_wp2_with (go_at_call 9; refine haw.mono ?_; clear haw; rintro _ w1 ⟨rfl, hb1⟩)
    go_ret
    exact ⟨rfl, hb1⟩
end Go.Proofs.YtebhlfmianohlaaDoor
