/-
  The statement DigestTwo: its walk.
-/
import Derived.Test.YtjingbichgpfaaaDoorRefOf
import Derived.Test.YtjingbichgpfaaaDoorGrow
namespace Go.Proofs.YtjingbichgpfaaaDoor
open Go.RowKit

set_option maxHeartbeats 8000000 in
set_option maxRecDepth 100000 in
theorem walk_two {w : World} {S : Nat → Prop} {A B : Option Addr} {n c k d : Nat} {l m : List UInt8} (h1 : Byt w S A n c l) (h2 : Byt w S B k d m) (same : Bool) (ht : Tab w) :
    Calls Tryd.prog 5 #[.slice A n c, .slice B k d, .bool same] w fun e w' => e = .returned (.bool true) ∧ Below w.heap.size w w' := by
  have hl1 := h1.len
  have hl2 := h2.len
  by_cases hn : n ≤ 300
  · by_cases hk : k ≤ 300
    · cases same
      · by_cases hlm : l = m
        · have HE : Hid ((l == m) = true) := Lib.hid (by simpa using hlm)
          have HT : Hid (twoB l m = false) := Lib.hid (by unfold twoB; simp [hlm])
          clear hlm
          go_enter Tryd.func5, Tryd.ntmps5
          go_wp2_with fail
          refine (awake_true ht).mono ?_
          rintro _ w1 ⟨rfl, hb1⟩
          have HB1 := Lib.hid hb1
          have HH := Lib.hid (And.intro (h1.below hb1) (And.intro (h2.below hb1) (ht.below hb1)))
          clear hb1 h1 h2 ht
          go_wp2_with fail
          have HY : Hid (∀ W, Below w1.drew.heap.size w1.drew W → Byt W S A n c l ∧ Byt W S B k d m ∧ Tab W) := Lib.hid fun W hW => ⟨HH.out.1.below (Grow.below_of_drew hW), HH.out.2.1.below (Grow.below_of_drew hW), HH.out.2.2.below (Grow.below_of_drew hW)⟩
          refine wp_region_grow (fun W W' => Below W.heap.size W W') (Grow.nth [fun v _ => v = .slice A n c, fun v _ => v = .slice B k d, fun v _ => v = .bool false, fun v _ => v = .slice A n c, fun v _ => v = .string ⟨l.toArray⟩, fun v _ => v = .slice B k d, fun v _ => v = .string ⟨m.toArray⟩, fun v _ => v = .bool false, fun v _ => v = .bool false, fun v _ => v = undef, fun v _ => v = undef, fun v _ => v = undef, fun v _ => v = undef, fun v _ => v = undef, fun v _ => v = undef, fun v _ => v = undef, fun v _ => v = .bool false, fun v _ => v = .bool true, fun v _ => v = .bool true]) 39 (by kernel_rfl) (by kernel_rfl) (by rfl) (fun W => Below.refl _ W) (fun _ _ _ h1 h2 => h1.trans (h2.mono h1.size)) (Grow.mono_nth ?gmono) ?gsteps ?gfin
          case gmono => exact ⟨fun _ _ _ h _ => h, fun _ _ _ h _ => h, fun _ _ _ h _ => h, fun _ _ _ h _ => h, fun _ _ _ h _ => h, fun _ _ _ h _ => h, fun _ _ _ h _ => h, fun _ _ _ h _ => h, fun _ _ _ h _ => h, fun _ _ _ h _ => h, fun _ _ _ h _ => h, fun _ _ _ h _ => h, fun _ _ _ h _ => h, fun _ _ _ h _ => h, fun _ _ _ h _ => h, fun _ _ _ h _ => h, fun _ _ _ h _ => h, fun _ _ _ h _ => h, fun _ _ _ h _ => h, trivial⟩
          case gsteps =>
            show Grow.allBelow _ 19
            refine And.intro ?_ ?s18
            refine And.intro ?_ ?s17
            refine And.intro ?_ ?s16
            refine And.intro ?_ ?s15
            refine And.intro ?_ ?s14
            refine And.intro ?_ ?s13
            refine And.intro ?_ ?s12
            refine And.intro ?_ ?s11
            refine And.intro ?_ ?s10
            refine And.intro ?_ ?s9
            refine And.intro ?_ ?s8
            refine And.intro ?_ ?s7
            refine And.intro ?_ ?s6
            refine And.intro ?_ ?s5
            refine And.intro ?_ ?s4
            refine And.intro ?_ ?s3
            refine And.intro ?_ ?s2
            refine And.intro ?_ ?s1
            refine And.intro ?_ ?s0
            exact trivial
            case s0 =>
              refine Grow.step_in (by rfl) (by rfl) ?_
              intro E W ec eg ef hG hd hu R HR
              have e0 : E (.tmp 0) = .slice A n c := hu 0 (by kernel_rfl)
              clear hd hu
              go_simp
              exact HR.out _ _ (Below.refl _ _) rfl
            case s1 =>
              refine Grow.step_in (by rfl) (by rfl) ?_
              intro E W ec eg ef hG hd hu R HR
              have e1 : E (.tmp 1) = .slice B k d := hu 1 (by kernel_rfl)
              clear hd hu
              go_simp
              exact HR.out _ _ (Below.refl _ _) rfl
            case s2 =>
              refine Grow.step_in (by rfl) (by rfl) ?_
              intro E W ec eg ef hG hd hu R HR
              have e21 : E (.tmp 21) = .slice A n c := hd 0 21 (by kernel_rfl)
              have e22 : E (.tmp 22) = .slice B k d := hd 1 22 (by kernel_rfl)
              clear hd hu
              go_simp
              refine (two_any (HY.out W hG).1 (HY.out W hG).2.1 (HY.out W hG).2.2 (by omega) (by omega)).mono ?_
              rintro _ w' ⟨rfl, hb⟩
              exact ⟨_, rfl, HR.out _ _ hb (show _ = _ by rw [HT.out])⟩
            case s3 =>
              refine Grow.step_in (by rfl) (by rfl) ?_
              intro E W ec eg ef hG hd hu R HR
              have e0 : E (.tmp 0) = .slice A n c := hu 0 (by kernel_rfl)
              clear hd hu
              go_simp
              exact HR.out _ _ (Below.refl _ _) rfl
            case s4 =>
              refine Grow.step_in (by rfl) (by rfl) ?_
              intro E W ec eg ef hG hd hu R HR
              have e24 : E (.tmp 24) = .slice A n c := hd 3 24 (by kernel_rfl)
              clear hd hu
              have hs := byt_string (HY.out W hG).1
              go_simp
              exact HR.out _ _ (Below.refl _ _) rfl
            case s5 =>
              refine Grow.step_in (by rfl) (by rfl) ?_
              intro E W ec eg ef hG hd hu R HR
              have e1 : E (.tmp 1) = .slice B k d := hu 1 (by kernel_rfl)
              clear hd hu
              go_simp
              exact HR.out _ _ (Below.refl _ _) rfl
            case s6 =>
              refine Grow.step_in (by rfl) (by rfl) ?_
              intro E W ec eg ef hG hd hu R HR
              have e26 : E (.tmp 26) = .slice B k d := hd 5 26 (by kernel_rfl)
              clear hd hu
              have hs := byt_string (HY.out W hG).2.1
              go_simp
              exact HR.out _ _ (Below.refl _ _) rfl
            case s7 =>
              refine Grow.step_in (by rfl) (by rfl) ?_
              intro E W ec eg ef hG hd hu R HR
              have e25 : E (.tmp 25) = .string ⟨l.toArray⟩ := hd 4 25 (by kernel_rfl)
              have e27 : E (.tmp 27) = .string ⟨m.toArray⟩ := hd 6 27 (by kernel_rfl)
              clear hd hu
              have he := HE.out
              go_simp
              exact HR.out _ _ (Below.refl _ _) rfl
            case s8 =>
              refine Grow.step_in (by rfl) (by rfl) ?_
              intro E W ec eg ef hG hd hu R HR
              have e28 : E (.tmp 28) = .bool false := hd 7 28 (by kernel_rfl)
              clear hd hu
              go_simp
              exact HR.out _ _ (Below.refl _ _) rfl
            case s9 =>
              exact Grow.step_off (g := 8) (b := true) (b' := false) (d := 29) (by rfl) (by rfl) (by rfl) (by kernel_rfl) (fun v W h => h) (by decide) (fun _ => rfl)
            case s10 =>
              exact Grow.step_off (g := 8) (b := true) (b' := false) (d := 29) (by rfl) (by rfl) (by rfl) (by kernel_rfl) (fun v W h => h) (by decide) (fun _ => rfl)
            case s11 =>
              exact Grow.step_off (g := 8) (b := true) (b' := false) (d := 29) (by rfl) (by rfl) (by rfl) (by kernel_rfl) (fun v W h => h) (by decide) (fun _ => rfl)
            case s12 =>
              exact Grow.step_off (g := 8) (b := true) (b' := false) (d := 29) (by rfl) (by rfl) (by rfl) (by kernel_rfl) (fun v W h => h) (by decide) (fun _ => rfl)
            case s13 =>
              exact Grow.step_off (g := 8) (b := true) (b' := false) (d := 29) (by rfl) (by rfl) (by rfl) (by kernel_rfl) (fun v W h => h) (by decide) (fun _ => rfl)
            case s14 =>
              exact Grow.step_off (g := 8) (b := true) (b' := false) (d := 29) (by rfl) (by rfl) (by rfl) (by kernel_rfl) (fun v W h => h) (by decide) (fun _ => rfl)
            case s15 =>
              exact Grow.step_off (g := 8) (b := true) (b' := false) (d := 29) (by rfl) (by rfl) (by rfl) (by kernel_rfl) (fun v W h => h) (by decide) (fun _ => rfl)
            case s16 =>
              refine Grow.step_in (by rfl) (by rfl) ?_
              intro E W ec eg ef hG hd hu R HR
              have e29 : E (.tmp 29) = .bool false := hd 8 29 (by kernel_rfl)
              have e36 : E (.tmp 36) = undef := hd 15 36 (by kernel_rfl)
              clear hd hu
              go_simp
              exact HR.out _ _ (Below.refl _ _) rfl
            case s17 =>
              refine Grow.step_in (by rfl) (by rfl) ?_
              intro E W ec eg ef hG hd hu R HR
              have e23 : E (.tmp 23) = .bool false := hd 2 23 (by kernel_rfl)
              have e37 : E (.tmp 37) = .bool false := hd 16 37 (by kernel_rfl)
              clear hd hu
              go_simp
              exact HR.out _ _ (Below.refl _ _) rfl
            case s18 =>
              refine Grow.step_in (by rfl) (by rfl) ?_
              intro E W ec eg ef hG hd hu R HR
              have e38 : E (.tmp 38) = .bool true := hd 17 38 (by kernel_rfl)
              clear hd hu
              go_simp
              exact HR.out _ _ (Below.refl _ _) rfl
          case gfin =>
            intro W hG
            refine Grow.fin_dst (by rfl) ?_
            rintro _ rfl
            refine Grow.fin_dst (by rfl) ?_
            rintro _ rfl
            refine Grow.fin_dst (by rfl) ?_
            rintro _ rfl
            refine Grow.fin_dst (by rfl) ?_
            rintro _ rfl
            refine Grow.fin_dst (by rfl) ?_
            rintro _ rfl
            refine Grow.fin_dst (by rfl) ?_
            rintro _ rfl
            refine Grow.fin_dst (by rfl) ?_
            rintro _ rfl
            refine Grow.fin_dst (by rfl) ?_
            rintro _ rfl
            refine Grow.fin_dst (by rfl) ?_
            rintro _ rfl
            refine Grow.fin_dst (by rfl) ?_
            rintro _ rfl
            refine Grow.fin_dst (by rfl) ?_
            rintro _ rfl
            refine Grow.fin_dst (by rfl) ?_
            rintro _ rfl
            refine Grow.fin_dst (by rfl) ?_
            rintro _ rfl
            refine Grow.fin_dst (by rfl) ?_
            rintro _ rfl
            refine Grow.fin_dst (by rfl) ?_
            rintro _ rfl
            refine Grow.fin_dst (by rfl) ?_
            rintro _ rfl
            refine Grow.fin_dst (by rfl) ?_
            rintro _ rfl
            refine Grow.fin_dst (by rfl) ?_
            rintro _ rfl
            refine Grow.fin_dst (by rfl) ?_
            rintro _ rfl
            simp only [Act.put, List.setIfInBounds_toArray, List.set_cons_zero, List.set_cons_succ]
            refine Grow.fin_end ?_
            have HBW := Lib.hid (HB1.out.trans ((Grow.below_of_drew hG).mono HB1.out.size))
            clear hG
            go_wp2_with fail
            go_ret
            exact ⟨rfl, HBW.out⟩
        · have HE : Hid ((l == m) = false) := Lib.hid (by simpa using hlm)
          obtain ⟨Z, hZ⟩ : ∃ Z : Bool, Z = decide (shaL l = shaL m) := ⟨_, rfl⟩
          have HT : Hid (twoB l m = Z) := Lib.hid (by unfold twoB; rw [hZ]; simp [hlm])
          obtain ⟨X, hX⟩ : ∃ X, X = (u8s (shaL l)).toArray := ⟨_, rfl⟩
          obtain ⟨Y, hY⟩ : ∃ Y, Y = (u8s (shaL m)).toArray := ⟨_, rfl⟩
          have HQ : Hid (∀ w, (Op.equalIn 10000 26 (.agg X) (.agg Y)).run Tryd.prog w = .ok Z w) := Lib.hid fun w => by rw [hX, hY, hZ]; exact id_eql _ _ (shaL_length l) (shaL_length m) w
          have HX := Lib.hid (And.intro hX hY)
          clear hlm hZ hX hY
          go_enter Tryd.func5, Tryd.ntmps5
          go_wp2_with fail
          refine (awake_true ht).mono ?_
          rintro _ w1 ⟨rfl, hb1⟩
          have HB1 := Lib.hid hb1
          have HH := Lib.hid (And.intro (h1.below hb1) (And.intro (h2.below hb1) (ht.below hb1)))
          clear hb1 h1 h2 ht
          go_wp2_with fail
          have HY : Hid (∀ W, Below w1.drew.heap.size w1.drew W → Byt W S A n c l ∧ Byt W S B k d m ∧ Tab W) := Lib.hid fun W hW => ⟨HH.out.1.below (Grow.below_of_drew hW), HH.out.2.1.below (Grow.below_of_drew hW), HH.out.2.2.below (Grow.below_of_drew hW)⟩
          refine wp_region_grow (fun W W' => Below W.heap.size W W') (Grow.nth [fun v _ => v = .slice A n c, fun v _ => v = .slice B k d, fun v _ => v = .bool Z, fun v _ => v = .slice A n c, fun v _ => v = .string ⟨l.toArray⟩, fun v _ => v = .slice B k d, fun v _ => v = .string ⟨m.toArray⟩, fun v _ => v = .bool true, fun v _ => v = .bool true, fun v _ => v = .slice A n c, fun v _ => v = .string ⟨l.toArray⟩, fun v _ => v = .agg X, fun v _ => v = .slice B k d, fun v _ => v = .string ⟨m.toArray⟩, fun v _ => v = .agg Y, fun v _ => v = .bool Z, fun v _ => v = .bool Z, fun v _ => v = .bool true, fun v _ => v = .bool true]) 39 (by kernel_rfl) (by kernel_rfl) (by rfl) (fun W => Below.refl _ W) (fun _ _ _ h1 h2 => h1.trans (h2.mono h1.size)) (Grow.mono_nth ?gmono) ?gsteps ?gfin
          case gmono => exact ⟨fun _ _ _ h _ => h, fun _ _ _ h _ => h, fun _ _ _ h _ => h, fun _ _ _ h _ => h, fun _ _ _ h _ => h, fun _ _ _ h _ => h, fun _ _ _ h _ => h, fun _ _ _ h _ => h, fun _ _ _ h _ => h, fun _ _ _ h _ => h, fun _ _ _ h _ => h, fun _ _ _ h _ => h, fun _ _ _ h _ => h, fun _ _ _ h _ => h, fun _ _ _ h _ => h, fun _ _ _ h _ => h, fun _ _ _ h _ => h, fun _ _ _ h _ => h, fun _ _ _ h _ => h, trivial⟩
          case gsteps =>
            show Grow.allBelow _ 19
            refine And.intro ?_ ?s18
            refine And.intro ?_ ?s17
            refine And.intro ?_ ?s16
            refine And.intro ?_ ?s15
            refine And.intro ?_ ?s14
            refine And.intro ?_ ?s13
            refine And.intro ?_ ?s12
            refine And.intro ?_ ?s11
            refine And.intro ?_ ?s10
            refine And.intro ?_ ?s9
            refine And.intro ?_ ?s8
            refine And.intro ?_ ?s7
            refine And.intro ?_ ?s6
            refine And.intro ?_ ?s5
            refine And.intro ?_ ?s4
            refine And.intro ?_ ?s3
            refine And.intro ?_ ?s2
            refine And.intro ?_ ?s1
            refine And.intro ?_ ?s0
            exact trivial
            case s0 =>
              refine Grow.step_in (by rfl) (by rfl) ?_
              intro E W ec eg ef hG hd hu R HR
              have e0 : E (.tmp 0) = .slice A n c := hu 0 (by kernel_rfl)
              clear hd hu
              go_simp
              exact HR.out _ _ (Below.refl _ _) rfl
            case s1 =>
              refine Grow.step_in (by rfl) (by rfl) ?_
              intro E W ec eg ef hG hd hu R HR
              have e1 : E (.tmp 1) = .slice B k d := hu 1 (by kernel_rfl)
              clear hd hu
              go_simp
              exact HR.out _ _ (Below.refl _ _) rfl
            case s2 =>
              refine Grow.step_in (by rfl) (by rfl) ?_
              intro E W ec eg ef hG hd hu R HR
              have e21 : E (.tmp 21) = .slice A n c := hd 0 21 (by kernel_rfl)
              have e22 : E (.tmp 22) = .slice B k d := hd 1 22 (by kernel_rfl)
              clear hd hu
              go_simp
              refine (two_any (HY.out W hG).1 (HY.out W hG).2.1 (HY.out W hG).2.2 (by omega) (by omega)).mono ?_
              rintro _ w' ⟨rfl, hb⟩
              exact ⟨_, rfl, HR.out _ _ hb (show _ = _ by rw [HT.out])⟩
            case s3 =>
              refine Grow.step_in (by rfl) (by rfl) ?_
              intro E W ec eg ef hG hd hu R HR
              have e0 : E (.tmp 0) = .slice A n c := hu 0 (by kernel_rfl)
              clear hd hu
              go_simp
              exact HR.out _ _ (Below.refl _ _) rfl
            case s4 =>
              refine Grow.step_in (by rfl) (by rfl) ?_
              intro E W ec eg ef hG hd hu R HR
              have e24 : E (.tmp 24) = .slice A n c := hd 3 24 (by kernel_rfl)
              clear hd hu
              have hs := byt_string (HY.out W hG).1
              go_simp
              exact HR.out _ _ (Below.refl _ _) rfl
            case s5 =>
              refine Grow.step_in (by rfl) (by rfl) ?_
              intro E W ec eg ef hG hd hu R HR
              have e1 : E (.tmp 1) = .slice B k d := hu 1 (by kernel_rfl)
              clear hd hu
              go_simp
              exact HR.out _ _ (Below.refl _ _) rfl
            case s6 =>
              refine Grow.step_in (by rfl) (by rfl) ?_
              intro E W ec eg ef hG hd hu R HR
              have e26 : E (.tmp 26) = .slice B k d := hd 5 26 (by kernel_rfl)
              clear hd hu
              have hs := byt_string (HY.out W hG).2.1
              go_simp
              exact HR.out _ _ (Below.refl _ _) rfl
            case s7 =>
              refine Grow.step_in (by rfl) (by rfl) ?_
              intro E W ec eg ef hG hd hu R HR
              have e25 : E (.tmp 25) = .string ⟨l.toArray⟩ := hd 4 25 (by kernel_rfl)
              have e27 : E (.tmp 27) = .string ⟨m.toArray⟩ := hd 6 27 (by kernel_rfl)
              clear hd hu
              have he := HE.out
              go_simp
              exact HR.out _ _ (Below.refl _ _) rfl
            case s8 =>
              refine Grow.step_in (by rfl) (by rfl) ?_
              intro E W ec eg ef hG hd hu R HR
              have e28 : E (.tmp 28) = .bool true := hd 7 28 (by kernel_rfl)
              clear hd hu
              go_simp
              exact HR.out _ _ (Below.refl _ _) rfl
            case s9 =>
              refine Grow.step_on (g := 8) (b := true) (d := 29) (by rfl) (by rfl) (by rfl) (by kernel_rfl) (fun v W h => h) ?_
              intro E W ec eg ef hG hd hu R HR
              have e0 : E (.tmp 0) = .slice A n c := hu 0 (by kernel_rfl)
              clear hd hu
              go_simp
              exact HR.out _ _ (Below.refl _ _) rfl
            case s10 =>
              refine Grow.step_on (g := 8) (b := true) (d := 29) (by rfl) (by rfl) (by rfl) (by kernel_rfl) (fun v W h => h) ?_
              intro E W ec eg ef hG hd hu R HR
              have e30 : E (.tmp 30) = .slice A n c := hd 9 30 (by kernel_rfl)
              clear hd hu
              have hs := byt_string (HY.out W hG).1
              go_simp
              exact HR.out _ _ (Below.refl _ _) rfl
            case s11 =>
              refine Grow.step_on (g := 8) (b := true) (d := 29) (by rfl) (by rfl) (by rfl) (by kernel_rfl) (fun v W h => h) ?_
              intro E W ec eg ef hG hd hu R HR
              have e31 : E (.tmp 31) = .string ⟨l.toArray⟩ := hd 10 31 (by kernel_rfl)
              clear hd hu
              go_simp
              refine (rof_any l (by omega) _).mono ?_
              rintro _ w' ⟨rfl, hb⟩
              exact ⟨_, rfl, HR.out _ _ hb (show _ = _ by rw [HX.out.1])⟩
            case s12 =>
              refine Grow.step_on (g := 8) (b := true) (d := 29) (by rfl) (by rfl) (by rfl) (by kernel_rfl) (fun v W h => h) ?_
              intro E W ec eg ef hG hd hu R HR
              have e1 : E (.tmp 1) = .slice B k d := hu 1 (by kernel_rfl)
              clear hd hu
              go_simp
              exact HR.out _ _ (Below.refl _ _) rfl
            case s13 =>
              refine Grow.step_on (g := 8) (b := true) (d := 29) (by rfl) (by rfl) (by rfl) (by kernel_rfl) (fun v W h => h) ?_
              intro E W ec eg ef hG hd hu R HR
              have e33 : E (.tmp 33) = .slice B k d := hd 12 33 (by kernel_rfl)
              clear hd hu
              have hs := byt_string (HY.out W hG).2.1
              go_simp
              exact HR.out _ _ (Below.refl _ _) rfl
            case s14 =>
              refine Grow.step_on (g := 8) (b := true) (d := 29) (by rfl) (by rfl) (by rfl) (by kernel_rfl) (fun v W h => h) ?_
              intro E W ec eg ef hG hd hu R HR
              have e34 : E (.tmp 34) = .string ⟨m.toArray⟩ := hd 13 34 (by kernel_rfl)
              clear hd hu
              go_simp
              refine (rof_any m (by omega) _).mono ?_
              rintro _ w' ⟨rfl, hb⟩
              exact ⟨_, rfl, HR.out _ _ hb (show _ = _ by rw [HX.out.2])⟩
            case s15 =>
              refine Grow.step_on (g := 8) (b := true) (d := 29) (by rfl) (by rfl) (by rfl) (by kernel_rfl) (fun v W h => h) ?_
              intro E W ec eg ef hG hd hu R HR
              have e32 : E (.tmp 32) = .agg X := hd 11 32 (by kernel_rfl)
              have e35 : E (.tmp 35) = .agg Y := hd 14 35 (by kernel_rfl)
              clear hd hu
              have hq := HQ.out
              go_simp
              exact HR.out _ _ (Below.refl _ _) rfl
            case s16 =>
              refine Grow.step_in (by rfl) (by rfl) ?_
              intro E W ec eg ef hG hd hu R HR
              have e29 : E (.tmp 29) = .bool true := hd 8 29 (by kernel_rfl)
              have e36 : E (.tmp 36) = .bool Z := hd 15 36 (by kernel_rfl)
              clear hd hu
              go_simp
              exact HR.out _ _ (Below.refl _ _) rfl
            case s17 =>
              refine Grow.step_in (by rfl) (by rfl) ?_
              intro E W ec eg ef hG hd hu R HR
              have e23 : E (.tmp 23) = .bool Z := hd 2 23 (by kernel_rfl)
              have e37 : E (.tmp 37) = .bool Z := hd 16 37 (by kernel_rfl)
              clear hd hu
              go_simp
              exact HR.out _ _ (Below.refl _ _) rfl
            case s18 =>
              refine Grow.step_in (by rfl) (by rfl) ?_
              intro E W ec eg ef hG hd hu R HR
              have e38 : E (.tmp 38) = .bool true := hd 17 38 (by kernel_rfl)
              clear hd hu
              go_simp
              exact HR.out _ _ (Below.refl _ _) rfl
          case gfin =>
            intro W hG
            refine Grow.fin_dst (by rfl) ?_
            rintro _ rfl
            refine Grow.fin_dst (by rfl) ?_
            rintro _ rfl
            refine Grow.fin_dst (by rfl) ?_
            rintro _ rfl
            refine Grow.fin_dst (by rfl) ?_
            rintro _ rfl
            refine Grow.fin_dst (by rfl) ?_
            rintro _ rfl
            refine Grow.fin_dst (by rfl) ?_
            rintro _ rfl
            refine Grow.fin_dst (by rfl) ?_
            rintro _ rfl
            refine Grow.fin_dst (by rfl) ?_
            rintro _ rfl
            refine Grow.fin_dst (by rfl) ?_
            rintro _ rfl
            refine Grow.fin_dst (by rfl) ?_
            rintro _ rfl
            refine Grow.fin_dst (by rfl) ?_
            rintro _ rfl
            refine Grow.fin_dst (by rfl) ?_
            rintro _ rfl
            refine Grow.fin_dst (by rfl) ?_
            rintro _ rfl
            refine Grow.fin_dst (by rfl) ?_
            rintro _ rfl
            refine Grow.fin_dst (by rfl) ?_
            rintro _ rfl
            refine Grow.fin_dst (by rfl) ?_
            rintro _ rfl
            refine Grow.fin_dst (by rfl) ?_
            rintro _ rfl
            refine Grow.fin_dst (by rfl) ?_
            rintro _ rfl
            refine Grow.fin_dst (by rfl) ?_
            rintro _ rfl
            simp only [Act.put, List.setIfInBounds_toArray, List.set_cons_zero, List.set_cons_succ]
            refine Grow.fin_end ?_
            have HBW := Lib.hid (HB1.out.trans ((Grow.below_of_drew hG).mono HB1.out.size))
            clear hG
            go_wp2_with fail
            go_ret
            exact ⟨rfl, HBW.out⟩
      · have HE : Hid ((l == l) = true) := Lib.hid (by simp)
        have HT : Hid (twoB l l = false) := Lib.hid (by unfold twoB; simp)
        go_enter Tryd.func5, Tryd.ntmps5
        go_wp2_with fail
        refine (awake_true ht).mono ?_
        rintro _ w1 ⟨rfl, hb1⟩
        have HB1 := Lib.hid hb1
        have HH := Lib.hid (And.intro (h1.below hb1) (And.intro (h2.below hb1) (ht.below hb1)))
        clear hb1 h1 h2 ht
        go_wp2_with fail
        have HY : Hid (∀ W, Below w1.drew.heap.size w1.drew W → Byt W S A n c l ∧ Byt W S B k d m ∧ Tab W) := Lib.hid fun W hW => ⟨HH.out.1.below (Grow.below_of_drew hW), HH.out.2.1.below (Grow.below_of_drew hW), HH.out.2.2.below (Grow.below_of_drew hW)⟩
        refine wp_region_grow (fun W W' => Below W.heap.size W W') (Grow.nth [fun v _ => v = .slice A n c, fun v _ => v = .slice A n c, fun v _ => v = .bool false, fun v _ => v = .slice A n c, fun v _ => v = .string ⟨l.toArray⟩, fun v _ => v = .slice A n c, fun v _ => v = .string ⟨l.toArray⟩, fun v _ => v = .bool false, fun v _ => v = .bool false, fun v _ => v = undef, fun v _ => v = undef, fun v _ => v = undef, fun v _ => v = undef, fun v _ => v = undef, fun v _ => v = undef, fun v _ => v = undef, fun v _ => v = .bool false, fun v _ => v = .bool true, fun v _ => v = .bool true]) 39 (by kernel_rfl) (by kernel_rfl) (by rfl) (fun W => Below.refl _ W) (fun _ _ _ h1 h2 => h1.trans (h2.mono h1.size)) (Grow.mono_nth ?gmono) ?gsteps ?gfin
        case gmono => exact ⟨fun _ _ _ h _ => h, fun _ _ _ h _ => h, fun _ _ _ h _ => h, fun _ _ _ h _ => h, fun _ _ _ h _ => h, fun _ _ _ h _ => h, fun _ _ _ h _ => h, fun _ _ _ h _ => h, fun _ _ _ h _ => h, fun _ _ _ h _ => h, fun _ _ _ h _ => h, fun _ _ _ h _ => h, fun _ _ _ h _ => h, fun _ _ _ h _ => h, fun _ _ _ h _ => h, fun _ _ _ h _ => h, fun _ _ _ h _ => h, fun _ _ _ h _ => h, fun _ _ _ h _ => h, trivial⟩
        case gsteps =>
          show Grow.allBelow _ 19
          refine And.intro ?_ ?s18
          refine And.intro ?_ ?s17
          refine And.intro ?_ ?s16
          refine And.intro ?_ ?s15
          refine And.intro ?_ ?s14
          refine And.intro ?_ ?s13
          refine And.intro ?_ ?s12
          refine And.intro ?_ ?s11
          refine And.intro ?_ ?s10
          refine And.intro ?_ ?s9
          refine And.intro ?_ ?s8
          refine And.intro ?_ ?s7
          refine And.intro ?_ ?s6
          refine And.intro ?_ ?s5
          refine And.intro ?_ ?s4
          refine And.intro ?_ ?s3
          refine And.intro ?_ ?s2
          refine And.intro ?_ ?s1
          refine And.intro ?_ ?s0
          exact trivial
          case s0 =>
            refine Grow.step_in (by rfl) (by rfl) ?_
            intro E W ec eg ef hG hd hu R HR
            have e0 : E (.tmp 0) = .slice A n c := hu 0 (by kernel_rfl)
            clear hd hu
            go_simp
            exact HR.out _ _ (Below.refl _ _) rfl
          case s1 =>
            refine Grow.step_in (by rfl) (by rfl) ?_
            intro E W ec eg ef hG hd hu R HR
            have e1 : E (.tmp 1) = .slice A n c := hu 1 (by kernel_rfl)
            clear hd hu
            go_simp
            exact HR.out _ _ (Below.refl _ _) rfl
          case s2 =>
            refine Grow.step_in (by rfl) (by rfl) ?_
            intro E W ec eg ef hG hd hu R HR
            have e21 : E (.tmp 21) = .slice A n c := hd 0 21 (by kernel_rfl)
            have e22 : E (.tmp 22) = .slice A n c := hd 1 22 (by kernel_rfl)
            clear hd hu
            go_simp
            refine (two_any (HY.out W hG).1 (HY.out W hG).1 (HY.out W hG).2.2 (by omega) (by omega)).mono ?_
            rintro _ w' ⟨rfl, hb⟩
            exact ⟨_, rfl, HR.out _ _ hb (show _ = _ by rw [HT.out])⟩
          case s3 =>
            refine Grow.step_in (by rfl) (by rfl) ?_
            intro E W ec eg ef hG hd hu R HR
            have e0 : E (.tmp 0) = .slice A n c := hu 0 (by kernel_rfl)
            clear hd hu
            go_simp
            exact HR.out _ _ (Below.refl _ _) rfl
          case s4 =>
            refine Grow.step_in (by rfl) (by rfl) ?_
            intro E W ec eg ef hG hd hu R HR
            have e24 : E (.tmp 24) = .slice A n c := hd 3 24 (by kernel_rfl)
            clear hd hu
            have hs := byt_string (HY.out W hG).1
            go_simp
            exact HR.out _ _ (Below.refl _ _) rfl
          case s5 =>
            refine Grow.step_in (by rfl) (by rfl) ?_
            intro E W ec eg ef hG hd hu R HR
            have e1 : E (.tmp 1) = .slice A n c := hu 1 (by kernel_rfl)
            clear hd hu
            go_simp
            exact HR.out _ _ (Below.refl _ _) rfl
          case s6 =>
            refine Grow.step_in (by rfl) (by rfl) ?_
            intro E W ec eg ef hG hd hu R HR
            have e26 : E (.tmp 26) = .slice A n c := hd 5 26 (by kernel_rfl)
            clear hd hu
            have hs := byt_string (HY.out W hG).1
            go_simp
            exact HR.out _ _ (Below.refl _ _) rfl
          case s7 =>
            refine Grow.step_in (by rfl) (by rfl) ?_
            intro E W ec eg ef hG hd hu R HR
            have e25 : E (.tmp 25) = .string ⟨l.toArray⟩ := hd 4 25 (by kernel_rfl)
            have e27 : E (.tmp 27) = .string ⟨l.toArray⟩ := hd 6 27 (by kernel_rfl)
            clear hd hu
            have he := HE.out
            go_simp
            exact HR.out _ _ (Below.refl _ _) rfl
          case s8 =>
            refine Grow.step_in (by rfl) (by rfl) ?_
            intro E W ec eg ef hG hd hu R HR
            have e28 : E (.tmp 28) = .bool false := hd 7 28 (by kernel_rfl)
            clear hd hu
            go_simp
            exact HR.out _ _ (Below.refl _ _) rfl
          case s9 =>
            exact Grow.step_off (g := 8) (b := true) (b' := false) (d := 29) (by rfl) (by rfl) (by rfl) (by kernel_rfl) (fun v W h => h) (by decide) (fun _ => rfl)
          case s10 =>
            exact Grow.step_off (g := 8) (b := true) (b' := false) (d := 29) (by rfl) (by rfl) (by rfl) (by kernel_rfl) (fun v W h => h) (by decide) (fun _ => rfl)
          case s11 =>
            exact Grow.step_off (g := 8) (b := true) (b' := false) (d := 29) (by rfl) (by rfl) (by rfl) (by kernel_rfl) (fun v W h => h) (by decide) (fun _ => rfl)
          case s12 =>
            exact Grow.step_off (g := 8) (b := true) (b' := false) (d := 29) (by rfl) (by rfl) (by rfl) (by kernel_rfl) (fun v W h => h) (by decide) (fun _ => rfl)
          case s13 =>
            exact Grow.step_off (g := 8) (b := true) (b' := false) (d := 29) (by rfl) (by rfl) (by rfl) (by kernel_rfl) (fun v W h => h) (by decide) (fun _ => rfl)
          case s14 =>
            exact Grow.step_off (g := 8) (b := true) (b' := false) (d := 29) (by rfl) (by rfl) (by rfl) (by kernel_rfl) (fun v W h => h) (by decide) (fun _ => rfl)
          case s15 =>
            exact Grow.step_off (g := 8) (b := true) (b' := false) (d := 29) (by rfl) (by rfl) (by rfl) (by kernel_rfl) (fun v W h => h) (by decide) (fun _ => rfl)
          case s16 =>
            refine Grow.step_in (by rfl) (by rfl) ?_
            intro E W ec eg ef hG hd hu R HR
            have e29 : E (.tmp 29) = .bool false := hd 8 29 (by kernel_rfl)
            have e36 : E (.tmp 36) = undef := hd 15 36 (by kernel_rfl)
            clear hd hu
            go_simp
            exact HR.out _ _ (Below.refl _ _) rfl
          case s17 =>
            refine Grow.step_in (by rfl) (by rfl) ?_
            intro E W ec eg ef hG hd hu R HR
            have e23 : E (.tmp 23) = .bool false := hd 2 23 (by kernel_rfl)
            have e37 : E (.tmp 37) = .bool false := hd 16 37 (by kernel_rfl)
            clear hd hu
            go_simp
            exact HR.out _ _ (Below.refl _ _) rfl
          case s18 =>
            refine Grow.step_in (by rfl) (by rfl) ?_
            intro E W ec eg ef hG hd hu R HR
            have e38 : E (.tmp 38) = .bool true := hd 17 38 (by kernel_rfl)
            clear hd hu
            go_simp
            exact HR.out _ _ (Below.refl _ _) rfl
        case gfin =>
          intro W hG
          refine Grow.fin_dst (by rfl) ?_
          rintro _ rfl
          refine Grow.fin_dst (by rfl) ?_
          rintro _ rfl
          refine Grow.fin_dst (by rfl) ?_
          rintro _ rfl
          refine Grow.fin_dst (by rfl) ?_
          rintro _ rfl
          refine Grow.fin_dst (by rfl) ?_
          rintro _ rfl
          refine Grow.fin_dst (by rfl) ?_
          rintro _ rfl
          refine Grow.fin_dst (by rfl) ?_
          rintro _ rfl
          refine Grow.fin_dst (by rfl) ?_
          rintro _ rfl
          refine Grow.fin_dst (by rfl) ?_
          rintro _ rfl
          refine Grow.fin_dst (by rfl) ?_
          rintro _ rfl
          refine Grow.fin_dst (by rfl) ?_
          rintro _ rfl
          refine Grow.fin_dst (by rfl) ?_
          rintro _ rfl
          refine Grow.fin_dst (by rfl) ?_
          rintro _ rfl
          refine Grow.fin_dst (by rfl) ?_
          rintro _ rfl
          refine Grow.fin_dst (by rfl) ?_
          rintro _ rfl
          refine Grow.fin_dst (by rfl) ?_
          rintro _ rfl
          refine Grow.fin_dst (by rfl) ?_
          rintro _ rfl
          refine Grow.fin_dst (by rfl) ?_
          rintro _ rfl
          refine Grow.fin_dst (by rfl) ?_
          rintro _ rfl
          simp only [Act.put, List.setIfInBounds_toArray, List.set_cons_zero, List.set_cons_succ]
          refine Grow.fin_end ?_
          have HBW := Lib.hid (HB1.out.trans ((Grow.below_of_drew hG).mono HB1.out.size))
          clear hG
          go_wp2_with fail
          go_ret
          exact ⟨rfl, HBW.out⟩
    · go_enter Tryd.func5, Tryd.ntmps5
      go_wp2_with (go_at_call 9; refine (awake_true ht).mono ?_; rintro _ w1 ⟨rfl, hb1⟩)
      go_ret
      exact ⟨rfl, hb1⟩
  · go_enter Tryd.func5, Tryd.ntmps5
    go_wp2_with (go_at_call 9; refine (awake_true ht).mono ?_; rintro _ w1 ⟨rfl, hb1⟩)
    go_ret
    exact ⟨rfl, hb1⟩
end Go.Proofs.YtjingbichgpfaaaDoor
