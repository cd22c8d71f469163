/-
  The law FilesSame.
-/
import Derived.Test.YtpcoiakdbfihlaaDoorPkSame01
import Derived.Test.YtpcoiakdbfihlaaDoorPk10
import Derived.Test.YtpcoiakdbfihlaaDoorPk11
/-! The law FilesSame. -/
namespace Go.Proofs.YtpcoiakdbfihlaaDoor
open Go.RowKit Codec

theorem filB_inj {l m : Tb} (h1 : chkE l = 0) (h2 : chkE m = 0) : filB l = filB m ↔ l = m :=
  ⟨fun h => by
    have h3 := get_put h1
    rw [h, get_put h2] at h3
    exact (congrArg Prod.fst h3).symm, fun h => by rw [h]⟩
theorem fpB_same {l m : Tb} (h1 : chkE l = 0) (h2 : chkE m = 0) : decide (fpB l = fpB m) = decide (l = m) := by
  unfold fpB
  rw [if_pos h1, if_pos h2]
  by_cases h : l = m
  · rw [decide_eq_true h, decide_eq_true ((filB_inj h1 h2).2 h)]
  · rw [decide_eq_false h, decide_eq_false fun e => h ((filB_inj h1 h2).1 e)]

set_option maxHeartbeats 16000000 in
set_option maxRecDepth 100000 in
theorem fsame_goF {w : World} {A B0 : Option Addr} {n c k0 d0 : Nat} {l m0 : Tb} (hl : Fls w (· < w.heap.size) A n c l) (hm0 : Fls w (· < w.heap.size) B0 k0 d0 m0) (hpl : ∀ x ∈ l, x.1.length ≤ maxLen) (hpm0 : ∀ x ∈ m0, x.1.length ≤ maxLen) :
    Calls Tryd.prog 6 #[.slice A n c, .slice B0 k0 d0, .bool false] w fun e w' => e = .returned (.bool true) ∧ Below w.heap.size w w' := by
  have haw := fawake_true w
  have HL0 := Lib.hid (And.intro hl (And.intro hm0 (And.intro hpl hpm0)))
  clear hl hm0 hpl hpm0
  go_enter Tryd.func6, Tryd.ntmps6
  go_upto_region 4 with (go_at_call 9; refine haw.mono ?_; clear haw; rintro _ w1 ⟨rfl, hb1⟩)
  have hf1 := few_any (HL0.out.1.below hb1)
  have HB1 := Lib.hid hb1
  clear hb1
  go_upto_region 5 with (go_at_call 10; refine hf1.mono ?_; clear hf1; rintro _ w2 ⟨F1, rfl, hF1, hb2⟩)
  have HB2 := Lib.hid (HB1.out.trans (hb2.mono HB1.out.size))
  have hf2 := few_any (HL0.out.2.1.below HB2.out)
  have HF1 := Lib.hid hF1
  clear hb2 hF1
  go_upto_region 6 with (go_at_call 10; refine hf2.mono ?_; clear hf2; rintro _ w3 ⟨F2, rfl, hF2, hb3⟩)
  have HB3 := Lib.hid (HB2.out.trans (hb3.mono HB2.out.size))
  have HF2 := Lib.hid hF2
  clear hb3 hF2
  cases F1
  · go_wp2_with fail
    go_ret
    exact ⟨rfl, HB3.out⟩
  cases F2
  · go_wp2_with fail
    go_ret
    exact ⟨rfl, HB3.out⟩
  have HL : Hid (Fls w (· < w.heap.size) A n c l ∧ n ≤ 20 ∧ ∀ x ∈ l, x.1.length ≤ maxLen) := Lib.hid ⟨HL0.out.1, HF1.out rfl, HL0.out.2.2.1⟩
  obtain ⟨B, k, d, m, e1, e2, e3, HM⟩ : ∃ B k d m, B = B0 ∧ k = k0 ∧ d = d0 ∧ Hid (Fls w (· < w.heap.size) B k d m ∧ k ≤ 20 ∧ ∀ x ∈ m, x.1.length ≤ maxLen) := ⟨_, _, _, m0, rfl, rfl, rfl, Lib.hid ⟨HL0.out.2.1, HF2.out rfl, HL0.out.2.2.2⟩⟩
  have hp1 := fput_any (HL.out.1.below HB3.out) (by have := HL.out.2.1; omega) HL.out.2.2
  clear HL0 HF1 HF2
  go_upto_region 11 with (go_at_call 12; refine hp1.mono ?_; clear hp1; rintro _ w4 ⟨Ax, nx, cx, rfl, hx, hb4⟩)
  have HB4 := Lib.hid (HB3.out.trans (hb4.mono HB3.out.size))
  have hp2 := fput_any (HM.out.1.below HB4.out) (by have := HM.out.2.1; omega) HM.out.2.2
  have HX := Lib.hid hx
  rw [← e1, ← e2, ← e3]
  clear e1 e2 e3
  clear hb4 hx
  go_upto_region 12 with (go_at_call 12; refine hp2.mono ?_; clear hp2; rintro _ w5 ⟨Ay, ny, cy, rfl, hy, hb5⟩)
  have HB5 := Lib.hid (HB4.out.trans (hb5.mono HB4.out.size))
  obtain ⟨FX, hFX⟩ : ∃ FX, FX = fpB l := ⟨_, rfl⟩
  obtain ⟨FY, hFY⟩ : ∃ FY, FY = fpB m := ⟨_, rfl⟩
  rw [← hFX] at HX
  rw [← hFY] at hy
  have HX5 : Hid (Byt w5 (w3.heap.size ≤ ·) Ax nx cx FX) := Lib.hid (HX.out.below hb5)
  have HY := Lib.hid hy
  clear hb5 hy HX
  have hs := fsame_any (HL.out.1.below HB5.out) (HM.out.1.below HB5.out) (by have := HL.out.2.1; omega)
  have hsa := fsame_any (HL.out.1.below HB5.out) (HL.out.1.below HB5.out) (by have := HL.out.2.1; omega)
  have HSB : Hid (∀ W, Below w.heap.size w W → Calls Tryd.prog 19 #[.slice B k d, .slice B k d] W fun e w' => e = .returned (.bool true) ∧ Below W.heap.size W w') := Lib.hid fun W hW => by
    have h := fsame_any (HM.out.1.below hW) (HM.out.1.below hW) (by have := HM.out.2.1; omega)
    rw [decide_eq_true rfl] at h
    exact h
  rw [decide_eq_true rfl] at hsa
  by_cases h1 : chkE l = 0
  · by_cases h2 : chkE m = 0
    · have HQ : Hid (decide (FX = FY) = decide (l = m)) := Lib.hid (by rw [hFX, hFY]; exact fpB_same h1 h2)
      clear hsa HSB hFX hFY hs
      rw [h1, h2]
      have HCX : Hid (∀ W, Below w5.heap.size w5 W → (convert 27 9 (.slice Ax nx cx)).run Tryd.prog W = .ok (.string (st FX)) W) := Lib.hid fun W hW => byt_string (HX5.out.below hW)
      have HCY : Hid (∀ W, Below w5.heap.size w5 W → (convert 27 9 (.slice Ay ny cy)).run Tryd.prog W = .ok (.string (st FY)) W) := Lib.hid fun W hW => byt_string (HY.out.below hW)
      by_cases he : l = m
      · rw [decide_eq_true he] at HQ
        have HS : Hid (∀ W, Below w5.heap.size w5 W → Calls Tryd.prog 19 #[.slice A n c, .slice B k d] W fun e w' => e = .returned (.bool true) ∧ Below W.heap.size W w') := Lib.hid fun W hW => by
          have hW' := HB5.out.trans (hW.mono HB5.out.size)
          have h := fsame_any (HL.out.1.below hW') (HM.out.1.below hW') (by have := HL.out.2.1; omega)
          rw [decide_eq_true he] at h
          exact h
        have HZ : Hid (∀ W, Below w5.heap.size w5 W → Calls Tryd.prog 19 #[.slice B k d, .slice A n c] W fun e w' => e = .returned (.bool true) ∧ Below W.heap.size W w') := Lib.hid fun W hW => by
          have hW' := HB5.out.trans (hW.mono HB5.out.size)
          have h := fsame_any (HM.out.1.below hW') (HL.out.1.below hW') (by have := HM.out.2.1; omega)
          rw [decide_eq_true he.symm] at h
          exact h
        have hq : ((st FX).toList == (st FY).toList) = true := by rw [st_beq]; exact HQ.out
        clear he h1 h2 HQ
        have HDW : Hid (∀ W, Below w5.drew.heap.size w5.drew W → Below w5.heap.size w5 W) := Lib.hid fun W hW => (below_drew (Below.refl _ _)).trans hW
        go_upto_region 14 with fail
        refine wp_region_grow (fun W W' => Below W.heap.size W W') (Grow.nth [fun v _ => v = .slice A n c, fun v _ => v = .slice B k d, fun v _ => v = .bool true, fun v _ => v = .slice Ax nx cx, fun v _ => v = .string (st FX), fun v _ => v = .slice Ay ny cy, fun v _ => v = .string (st FY), fun v _ => v = .bool true, fun v _ => v = .bool true, fun v _ => v = .bool true, fun v _ => v = .slice A n c, fun v _ => v = .slice B k d, fun v _ => v = .bool true, fun v _ => v = .slice B k d, fun v _ => v = .slice A n c, fun v _ => v = .bool true, fun v _ => v = .bool true, fun v _ => v = .bool true, fun v _ => v = .bool true]) 71 (by kernel_rfl) (by kernel_rfl) (by rfl) (fun W => Below.refl _ W) (fun _ _ _ h1 h2 => h1.trans (h2.mono h1.size)) (Grow.mono_nth ?gmono) ?gsteps ?gfin
        case gmono => exact ⟨fun _ _ _ h _ => h, fun _ _ _ h _ => h, fun _ _ _ h _ => h, fun _ _ _ h _ => h, fun _ _ _ h _ => h, fun _ _ _ h _ => h, fun _ _ _ h _ => h, fun _ _ _ h _ => h, fun _ _ _ h _ => h, fun _ _ _ h _ => h, fun _ _ _ h _ => h, fun _ _ _ h _ => h, fun _ _ _ h _ => h, fun _ _ _ h _ => h, fun _ _ _ h _ => h, fun _ _ _ h _ => h, fun _ _ _ h _ => h, fun _ _ _ h _ => h, fun _ _ _ h _ => h, trivial⟩
        case gsteps =>
          show Grow.allBelow _ 19
          refine And.intro ?_ ?s18
          refine And.intro ?_ ?s17
          refine And.intro ?_ ?s16
          refine And.intro ?_ ?s15
          refine And.intro ?_ ?s14
          refine And.intro ?_ ?s13
          refine And.intro ?_ ?s12
          refine And.intro ?_ ?s11
          refine And.intro ?_ ?s10
          refine And.intro ?_ ?s9
          refine And.intro ?_ ?s8
          refine And.intro ?_ ?s7
          refine And.intro ?_ ?s6
          refine And.intro ?_ ?s5
          refine And.intro ?_ ?s4
          refine And.intro ?_ ?s3
          refine And.intro ?_ ?s2
          refine And.intro ?_ ?s1
          refine And.intro ?_ ?s0
          exact trivial
          case s0 =>
            refine Grow.step_in (by rfl) (by rfl) ?_
            intro E W ec eg ef hG hd hu R HR
            have e0 : E (.tmp 0) = .slice A n c := hu 0 (by kernel_rfl)
            clear hd hu
            go_simp
            exact HR.out _ _ (Below.refl _ _) rfl
          case s1 =>
            refine Grow.step_in (by rfl) (by rfl) ?_
            intro E W ec eg ef hG hd hu R HR
            have e1 : E (.tmp 1) = .slice B k d := hu 1 (by kernel_rfl)
            clear hd hu
            go_simp
            exact HR.out _ _ (Below.refl _ _) rfl
          case s2 =>
            refine Grow.step_in (by rfl) (by rfl) ?_
            intro E W ec eg ef hG hd hu R HR
            have e53 : E (.tmp 53) = .slice A n c := hd 0 53 (by kernel_rfl)
            have e54 : E (.tmp 54) = .slice B k d := hd 1 54 (by kernel_rfl)
            clear hd hu
            have hcc := HS.out W (HDW.out W hG)
            go_simp
            refine hcc.mono ?_
            rintro _ _ ⟨rfl, hbb⟩
            exact ⟨_, rfl, HR.out _ _ hbb rfl⟩
          case s3 =>
            refine Grow.step_in (by rfl) (by rfl) ?_
            intro E W ec eg ef hG hd hu R HR
            have e10 : E (.tmp 10) = .slice Ax nx cx := hu 10 (by kernel_rfl)
            clear hd hu
            go_simp
            exact HR.out _ _ (Below.refl _ _) rfl
          case s4 =>
            refine Grow.step_in (by rfl) (by rfl) ?_
            intro E W ec eg ef hG hd hu R HR
            have e56 : E (.tmp 56) = .slice Ax nx cx := hd 3 56 (by kernel_rfl)
            clear hd hu
            have hcv := HCX.out W (HDW.out W hG)
            go_simp
            exact HR.out _ _ (Below.refl _ _) rfl
          case s5 =>
            refine Grow.step_in (by rfl) (by rfl) ?_
            intro E W ec eg ef hG hd hu R HR
            have e12 : E (.tmp 12) = .slice Ay ny cy := hu 12 (by kernel_rfl)
            clear hd hu
            go_simp
            exact HR.out _ _ (Below.refl _ _) rfl
          case s6 =>
            refine Grow.step_in (by rfl) (by rfl) ?_
            intro E W ec eg ef hG hd hu R HR
            have e58 : E (.tmp 58) = .slice Ay ny cy := hd 5 58 (by kernel_rfl)
            clear hd hu
            have hcv := HCY.out W (HDW.out W hG)
            go_simp
            exact HR.out _ _ (Below.refl _ _) rfl
          case s7 =>
            refine Grow.step_in (by rfl) (by rfl) ?_
            intro E W ec eg ef hG hd hu R HR
            have e57 : E (.tmp 57) = .string (st FX) := hd 4 57 (by kernel_rfl)
            have e59 : E (.tmp 59) = .string (st FY) := hd 6 59 (by kernel_rfl)
            clear hd hu
            go_simp
            exact HR.out _ _ (Below.refl _ _) (by first | rfl | (show Value.bool (_) = _; rw [hq]))
          case s8 =>
            refine Grow.step_in (by rfl) (by rfl) ?_
            intro E W ec eg ef hG hd hu R HR
            have e55 : E (.tmp 55) = .bool true := hd 2 55 (by kernel_rfl)
            have e60 : E (.tmp 60) = .bool true := hd 7 60 (by kernel_rfl)
            clear hd hu
            go_simp
            exact HR.out _ _ (Below.refl _ _) rfl
          case s9 =>
            refine Grow.step_in (by rfl) (by rfl) ?_
            intro E W ec eg ef hG hd hu R HR
            have e61 : E (.tmp 61) = .bool true := hd 8 61 (by kernel_rfl)
            clear hd hu
            go_simp
            exact HR.out _ _ (Below.refl _ _) rfl
          case s10 =>
            refine Grow.step_on (g := 9) (b := true) (d := 62) (by rfl) (by rfl) (by rfl) (by kernel_rfl) (fun v W h => h) ?_
            intro E W ec eg ef hG hd hu R HR
            have e0 : E (.tmp 0) = .slice A n c := hu 0 (by kernel_rfl)
            clear hd hu
            go_simp
            exact HR.out _ _ (Below.refl _ _) rfl
          case s11 =>
            refine Grow.step_on (g := 9) (b := true) (d := 62) (by rfl) (by rfl) (by rfl) (by kernel_rfl) (fun v W h => h) ?_
            intro E W ec eg ef hG hd hu R HR
            have e1 : E (.tmp 1) = .slice B k d := hu 1 (by kernel_rfl)
            clear hd hu
            go_simp
            exact HR.out _ _ (Below.refl _ _) rfl
          case s12 =>
            refine Grow.step_on (g := 9) (b := true) (d := 62) (by rfl) (by rfl) (by rfl) (by kernel_rfl) (fun v W h => h) ?_
            intro E W ec eg ef hG hd hu R HR
            have e63 : E (.tmp 63) = .slice A n c := hd 10 63 (by kernel_rfl)
            have e64 : E (.tmp 64) = .slice B k d := hd 11 64 (by kernel_rfl)
            clear hd hu
            have hcc := HS.out W (HDW.out W hG)
            go_simp
            refine hcc.mono ?_
            rintro _ _ ⟨rfl, hbb⟩
            exact ⟨_, rfl, HR.out _ _ hbb rfl⟩
          case s13 =>
            refine Grow.step_on (g := 9) (b := true) (d := 62) (by rfl) (by rfl) (by rfl) (by kernel_rfl) (fun v W h => h) ?_
            intro E W ec eg ef hG hd hu R HR
            have e1 : E (.tmp 1) = .slice B k d := hu 1 (by kernel_rfl)
            clear hd hu
            go_simp
            exact HR.out _ _ (Below.refl _ _) rfl
          case s14 =>
            refine Grow.step_on (g := 9) (b := true) (d := 62) (by rfl) (by rfl) (by rfl) (by kernel_rfl) (fun v W h => h) ?_
            intro E W ec eg ef hG hd hu R HR
            have e0 : E (.tmp 0) = .slice A n c := hu 0 (by kernel_rfl)
            clear hd hu
            go_simp
            exact HR.out _ _ (Below.refl _ _) rfl
          case s15 =>
            refine Grow.step_on (g := 9) (b := true) (d := 62) (by rfl) (by rfl) (by rfl) (by kernel_rfl) (fun v W h => h) ?_
            intro E W ec eg ef hG hd hu R HR
            have e66 : E (.tmp 66) = .slice B k d := hd 13 66 (by kernel_rfl)
            have e67 : E (.tmp 67) = .slice A n c := hd 14 67 (by kernel_rfl)
            clear hd hu
            have hcc := HZ.out W (HDW.out W hG)
            go_simp
            refine hcc.mono ?_
            rintro _ _ ⟨rfl, hbb⟩
            exact ⟨_, rfl, HR.out _ _ hbb rfl⟩
          case s16 =>
            refine Grow.step_on (g := 9) (b := true) (d := 62) (by rfl) (by rfl) (by rfl) (by kernel_rfl) (fun v W h => h) ?_
            intro E W ec eg ef hG hd hu R HR
            have e65 : E (.tmp 65) = .bool true := hd 12 65 (by kernel_rfl)
            have e68 : E (.tmp 68) = .bool true := hd 15 68 (by kernel_rfl)
            clear hd hu
            go_simp
            exact HR.out _ _ (Below.refl _ _) rfl
          case s17 =>
            refine Grow.step_in (by rfl) (by rfl) ?_
            intro E W ec eg ef hG hd hu R HR
            have e62 : E (.tmp 62) = .bool true := hd 9 62 (by kernel_rfl)
            have e69 : E (.tmp 69) = .bool true := hd 16 69 (by kernel_rfl)
            clear hd hu
            go_simp
            exact HR.out _ _ (Below.refl _ _) rfl
          case s18 =>
            refine Grow.step_in (by rfl) (by rfl) ?_
            intro E W ec eg ef hG hd hu R HR
            have e70 : E (.tmp 70) = .bool true := hd 17 70 (by kernel_rfl)
            clear hd hu
            go_simp
            exact HR.out _ _ (Below.refl _ _) rfl
        case gfin =>
          intro W hG
          refine Grow.fin_dst (by rfl) ?_
          rintro _ rfl
          refine Grow.fin_dst (by rfl) ?_
          rintro _ rfl
          refine Grow.fin_dst (by rfl) ?_
          rintro _ rfl
          refine Grow.fin_dst (by rfl) ?_
          rintro _ rfl
          refine Grow.fin_dst (by rfl) ?_
          rintro _ rfl
          refine Grow.fin_dst (by rfl) ?_
          rintro _ rfl
          refine Grow.fin_dst (by rfl) ?_
          rintro _ rfl
          refine Grow.fin_dst (by rfl) ?_
          rintro _ rfl
          refine Grow.fin_dst (by rfl) ?_
          rintro _ rfl
          refine Grow.fin_dst (by rfl) ?_
          rintro _ rfl
          refine Grow.fin_dst (by rfl) ?_
          rintro _ rfl
          refine Grow.fin_dst (by rfl) ?_
          rintro _ rfl
          refine Grow.fin_dst (by rfl) ?_
          rintro _ rfl
          refine Grow.fin_dst (by rfl) ?_
          rintro _ rfl
          refine Grow.fin_dst (by rfl) ?_
          rintro _ rfl
          refine Grow.fin_dst (by rfl) ?_
          rintro _ rfl
          refine Grow.fin_dst (by rfl) ?_
          rintro _ rfl
          refine Grow.fin_dst (by rfl) ?_
          rintro _ rfl
          refine Grow.fin_dst (by rfl) ?_
          rintro _ rfl
          simp only [Act.put, List.setIfInBounds_toArray, List.set_cons_zero, List.set_cons_succ]
          refine Grow.fin_end ?_
          have HGW := Lib.hid (HDW.out _ hG)
          clear hG
          go_wp2_with fail
          go_ret
          exact ⟨rfl, HB5.out.trans (HGW.out.mono HB5.out.size)⟩
      · rw [decide_eq_false he] at HQ
        have HS : Hid (∀ W, Below w5.heap.size w5 W → Calls Tryd.prog 19 #[.slice A n c, .slice B k d] W fun e w' => e = .returned (.bool false) ∧ Below W.heap.size W w') := Lib.hid fun W hW => by
          have hW' := HB5.out.trans (hW.mono HB5.out.size)
          have h := fsame_any (HL.out.1.below hW') (HM.out.1.below hW') (by have := HL.out.2.1; omega)
          rw [decide_eq_false he] at h
          exact h
        have HZ : Hid (∀ W, Below w5.heap.size w5 W → Calls Tryd.prog 19 #[.slice B k d, .slice A n c] W fun e w' => e = .returned (.bool false) ∧ Below W.heap.size W w') := Lib.hid fun W hW => by
          have hW' := HB5.out.trans (hW.mono HB5.out.size)
          have h := fsame_any (HM.out.1.below hW') (HL.out.1.below hW') (by have := HM.out.2.1; omega)
          rw [decide_eq_false fun e => he e.symm] at h
          exact h
        have hq : ((st FX).toList == (st FY).toList) = false := by rw [st_beq]; exact HQ.out
        clear he h1 h2 HQ
        have HDW : Hid (∀ W, Below w5.drew.heap.size w5.drew W → Below w5.heap.size w5 W) := Lib.hid fun W hW => (below_drew (Below.refl _ _)).trans hW
        go_upto_region 14 with fail
        refine wp_region_grow (fun W W' => Below W.heap.size W W') (Grow.nth [fun v _ => v = .slice A n c, fun v _ => v = .slice B k d, fun v _ => v = .bool false, fun v _ => v = .slice Ax nx cx, fun v _ => v = .string (st FX), fun v _ => v = .slice Ay ny cy, fun v _ => v = .string (st FY), fun v _ => v = .bool false, fun v _ => v = .bool true, fun v _ => v = .bool true, fun v _ => v = .slice A n c, fun v _ => v = .slice B k d, fun v _ => v = .bool false, fun v _ => v = .slice B k d, fun v _ => v = .slice A n c, fun v _ => v = .bool false, fun v _ => v = .bool true, fun v _ => v = .bool true, fun v _ => v = .bool true]) 71 (by kernel_rfl) (by kernel_rfl) (by rfl) (fun W => Below.refl _ W) (fun _ _ _ h1 h2 => h1.trans (h2.mono h1.size)) (Grow.mono_nth ?gmono) ?gsteps ?gfin
        case gmono => exact ⟨fun _ _ _ h _ => h, fun _ _ _ h _ => h, fun _ _ _ h _ => h, fun _ _ _ h _ => h, fun _ _ _ h _ => h, fun _ _ _ h _ => h, fun _ _ _ h _ => h, fun _ _ _ h _ => h, fun _ _ _ h _ => h, fun _ _ _ h _ => h, fun _ _ _ h _ => h, fun _ _ _ h _ => h, fun _ _ _ h _ => h, fun _ _ _ h _ => h, fun _ _ _ h _ => h, fun _ _ _ h _ => h, fun _ _ _ h _ => h, fun _ _ _ h _ => h, fun _ _ _ h _ => h, trivial⟩
        case gsteps =>
          show Grow.allBelow _ 19
          refine And.intro ?_ ?s18
          refine And.intro ?_ ?s17
          refine And.intro ?_ ?s16
          refine And.intro ?_ ?s15
          refine And.intro ?_ ?s14
          refine And.intro ?_ ?s13
          refine And.intro ?_ ?s12
          refine And.intro ?_ ?s11
          refine And.intro ?_ ?s10
          refine And.intro ?_ ?s9
          refine And.intro ?_ ?s8
          refine And.intro ?_ ?s7
          refine And.intro ?_ ?s6
          refine And.intro ?_ ?s5
          refine And.intro ?_ ?s4
          refine And.intro ?_ ?s3
          refine And.intro ?_ ?s2
          refine And.intro ?_ ?s1
          refine And.intro ?_ ?s0
          exact trivial
          case s0 =>
            refine Grow.step_in (by rfl) (by rfl) ?_
            intro E W ec eg ef hG hd hu R HR
            have e0 : E (.tmp 0) = .slice A n c := hu 0 (by kernel_rfl)
            clear hd hu
            go_simp
            exact HR.out _ _ (Below.refl _ _) rfl
          case s1 =>
            refine Grow.step_in (by rfl) (by rfl) ?_
            intro E W ec eg ef hG hd hu R HR
            have e1 : E (.tmp 1) = .slice B k d := hu 1 (by kernel_rfl)
            clear hd hu
            go_simp
            exact HR.out _ _ (Below.refl _ _) rfl
          case s2 =>
            refine Grow.step_in (by rfl) (by rfl) ?_
            intro E W ec eg ef hG hd hu R HR
            have e53 : E (.tmp 53) = .slice A n c := hd 0 53 (by kernel_rfl)
            have e54 : E (.tmp 54) = .slice B k d := hd 1 54 (by kernel_rfl)
            clear hd hu
            have hcc := HS.out W (HDW.out W hG)
            go_simp
            refine hcc.mono ?_
            rintro _ _ ⟨rfl, hbb⟩
            exact ⟨_, rfl, HR.out _ _ hbb rfl⟩
          case s3 =>
            refine Grow.step_in (by rfl) (by rfl) ?_
            intro E W ec eg ef hG hd hu R HR
            have e10 : E (.tmp 10) = .slice Ax nx cx := hu 10 (by kernel_rfl)
            clear hd hu
            go_simp
            exact HR.out _ _ (Below.refl _ _) rfl
          case s4 =>
            refine Grow.step_in (by rfl) (by rfl) ?_
            intro E W ec eg ef hG hd hu R HR
            have e56 : E (.tmp 56) = .slice Ax nx cx := hd 3 56 (by kernel_rfl)
            clear hd hu
            have hcv := HCX.out W (HDW.out W hG)
            go_simp
            exact HR.out _ _ (Below.refl _ _) rfl
          case s5 =>
            refine Grow.step_in (by rfl) (by rfl) ?_
            intro E W ec eg ef hG hd hu R HR
            have e12 : E (.tmp 12) = .slice Ay ny cy := hu 12 (by kernel_rfl)
            clear hd hu
            go_simp
            exact HR.out _ _ (Below.refl _ _) rfl
          case s6 =>
            refine Grow.step_in (by rfl) (by rfl) ?_
            intro E W ec eg ef hG hd hu R HR
            have e58 : E (.tmp 58) = .slice Ay ny cy := hd 5 58 (by kernel_rfl)
            clear hd hu
            have hcv := HCY.out W (HDW.out W hG)
            go_simp
            exact HR.out _ _ (Below.refl _ _) rfl
          case s7 =>
            refine Grow.step_in (by rfl) (by rfl) ?_
            intro E W ec eg ef hG hd hu R HR
            have e57 : E (.tmp 57) = .string (st FX) := hd 4 57 (by kernel_rfl)
            have e59 : E (.tmp 59) = .string (st FY) := hd 6 59 (by kernel_rfl)
            clear hd hu
            go_simp
            exact HR.out _ _ (Below.refl _ _) (by first | rfl | (show Value.bool (_) = _; rw [hq]))
          case s8 =>
            refine Grow.step_in (by rfl) (by rfl) ?_
            intro E W ec eg ef hG hd hu R HR
            have e55 : E (.tmp 55) = .bool false := hd 2 55 (by kernel_rfl)
            have e60 : E (.tmp 60) = .bool false := hd 7 60 (by kernel_rfl)
            clear hd hu
            go_simp
            exact HR.out _ _ (Below.refl _ _) rfl
          case s9 =>
            refine Grow.step_in (by rfl) (by rfl) ?_
            intro E W ec eg ef hG hd hu R HR
            have e61 : E (.tmp 61) = .bool true := hd 8 61 (by kernel_rfl)
            clear hd hu
            go_simp
            exact HR.out _ _ (Below.refl _ _) rfl
          case s10 =>
            refine Grow.step_on (g := 9) (b := true) (d := 62) (by rfl) (by rfl) (by rfl) (by kernel_rfl) (fun v W h => h) ?_
            intro E W ec eg ef hG hd hu R HR
            have e0 : E (.tmp 0) = .slice A n c := hu 0 (by kernel_rfl)
            clear hd hu
            go_simp
            exact HR.out _ _ (Below.refl _ _) rfl
          case s11 =>
            refine Grow.step_on (g := 9) (b := true) (d := 62) (by rfl) (by rfl) (by rfl) (by kernel_rfl) (fun v W h => h) ?_
            intro E W ec eg ef hG hd hu R HR
            have e1 : E (.tmp 1) = .slice B k d := hu 1 (by kernel_rfl)
            clear hd hu
            go_simp
            exact HR.out _ _ (Below.refl _ _) rfl
          case s12 =>
            refine Grow.step_on (g := 9) (b := true) (d := 62) (by rfl) (by rfl) (by rfl) (by kernel_rfl) (fun v W h => h) ?_
            intro E W ec eg ef hG hd hu R HR
            have e63 : E (.tmp 63) = .slice A n c := hd 10 63 (by kernel_rfl)
            have e64 : E (.tmp 64) = .slice B k d := hd 11 64 (by kernel_rfl)
            clear hd hu
            have hcc := HS.out W (HDW.out W hG)
            go_simp
            refine hcc.mono ?_
            rintro _ _ ⟨rfl, hbb⟩
            exact ⟨_, rfl, HR.out _ _ hbb rfl⟩
          case s13 =>
            refine Grow.step_on (g := 9) (b := true) (d := 62) (by rfl) (by rfl) (by rfl) (by kernel_rfl) (fun v W h => h) ?_
            intro E W ec eg ef hG hd hu R HR
            have e1 : E (.tmp 1) = .slice B k d := hu 1 (by kernel_rfl)
            clear hd hu
            go_simp
            exact HR.out _ _ (Below.refl _ _) rfl
          case s14 =>
            refine Grow.step_on (g := 9) (b := true) (d := 62) (by rfl) (by rfl) (by rfl) (by kernel_rfl) (fun v W h => h) ?_
            intro E W ec eg ef hG hd hu R HR
            have e0 : E (.tmp 0) = .slice A n c := hu 0 (by kernel_rfl)
            clear hd hu
            go_simp
            exact HR.out _ _ (Below.refl _ _) rfl
          case s15 =>
            refine Grow.step_on (g := 9) (b := true) (d := 62) (by rfl) (by rfl) (by rfl) (by kernel_rfl) (fun v W h => h) ?_
            intro E W ec eg ef hG hd hu R HR
            have e66 : E (.tmp 66) = .slice B k d := hd 13 66 (by kernel_rfl)
            have e67 : E (.tmp 67) = .slice A n c := hd 14 67 (by kernel_rfl)
            clear hd hu
            have hcc := HZ.out W (HDW.out W hG)
            go_simp
            refine hcc.mono ?_
            rintro _ _ ⟨rfl, hbb⟩
            exact ⟨_, rfl, HR.out _ _ hbb rfl⟩
          case s16 =>
            refine Grow.step_on (g := 9) (b := true) (d := 62) (by rfl) (by rfl) (by rfl) (by kernel_rfl) (fun v W h => h) ?_
            intro E W ec eg ef hG hd hu R HR
            have e65 : E (.tmp 65) = .bool false := hd 12 65 (by kernel_rfl)
            have e68 : E (.tmp 68) = .bool false := hd 15 68 (by kernel_rfl)
            clear hd hu
            go_simp
            exact HR.out _ _ (Below.refl _ _) rfl
          case s17 =>
            refine Grow.step_in (by rfl) (by rfl) ?_
            intro E W ec eg ef hG hd hu R HR
            have e62 : E (.tmp 62) = .bool true := hd 9 62 (by kernel_rfl)
            have e69 : E (.tmp 69) = .bool true := hd 16 69 (by kernel_rfl)
            clear hd hu
            go_simp
            exact HR.out _ _ (Below.refl _ _) rfl
          case s18 =>
            refine Grow.step_in (by rfl) (by rfl) ?_
            intro E W ec eg ef hG hd hu R HR
            have e70 : E (.tmp 70) = .bool true := hd 17 70 (by kernel_rfl)
            clear hd hu
            go_simp
            exact HR.out _ _ (Below.refl _ _) rfl
        case gfin =>
          intro W hG
          refine Grow.fin_dst (by rfl) ?_
          rintro _ rfl
          refine Grow.fin_dst (by rfl) ?_
          rintro _ rfl
          refine Grow.fin_dst (by rfl) ?_
          rintro _ rfl
          refine Grow.fin_dst (by rfl) ?_
          rintro _ rfl
          refine Grow.fin_dst (by rfl) ?_
          rintro _ rfl
          refine Grow.fin_dst (by rfl) ?_
          rintro _ rfl
          refine Grow.fin_dst (by rfl) ?_
          rintro _ rfl
          refine Grow.fin_dst (by rfl) ?_
          rintro _ rfl
          refine Grow.fin_dst (by rfl) ?_
          rintro _ rfl
          refine Grow.fin_dst (by rfl) ?_
          rintro _ rfl
          refine Grow.fin_dst (by rfl) ?_
          rintro _ rfl
          refine Grow.fin_dst (by rfl) ?_
          rintro _ rfl
          refine Grow.fin_dst (by rfl) ?_
          rintro _ rfl
          refine Grow.fin_dst (by rfl) ?_
          rintro _ rfl
          refine Grow.fin_dst (by rfl) ?_
          rintro _ rfl
          refine Grow.fin_dst (by rfl) ?_
          rintro _ rfl
          refine Grow.fin_dst (by rfl) ?_
          rintro _ rfl
          refine Grow.fin_dst (by rfl) ?_
          rintro _ rfl
          refine Grow.fin_dst (by rfl) ?_
          rintro _ rfl
          simp only [Act.put, List.setIfInBounds_toArray, List.set_cons_zero, List.set_cons_succ]
          refine Grow.fin_end ?_
          have HGW := Lib.hid (HDW.out _ hG)
          clear hG
          go_wp2_with fail
          go_ret
          exact ⟨rfl, HB5.out.trans (HGW.out.mono HB5.out.size)⟩
    · clear hs hFX hFY
      have hne : (chkE m != 0) = true := by simpa using h2
      rw [h1]
      generalize chkE m = EM at *
      clear h1 h2
      go_wp2_with (first
        | (go_at_call 19; refine hsa.mono ?_; clear hsa; rintro _ w6 ⟨rfl, hb6⟩; have hsb := HSB.out w6 (HB5.out.trans (hb6.mono HB5.out.size)))
        | (go_at_call 19; refine hsb.mono ?_; clear hsb; rintro _ w7 ⟨rfl, hb7⟩))
      go_ret
      exact ⟨rfl, HB5.out.trans ((hb6.trans (hb7.mono hb6.size)).mono HB5.out.size)⟩
  · clear hs hFX hFY
    have hne : (chkE l != 0) = true := by simpa using h1
    generalize chkE l = EL at *
    generalize chkE m = EM at *
    clear h1
    go_wp2_with (first
      | (go_at_call 19; refine hsa.mono ?_; clear hsa; rintro _ w6 ⟨rfl, hb6⟩; have hsb := HSB.out w6 (HB5.out.trans (hb6.mono HB5.out.size)))
      | (go_at_call 19; refine hsb.mono ?_; clear hsb; rintro _ w7 ⟨rfl, hb7⟩))
    go_ret
    exact ⟨rfl, HB5.out.trans ((hb6.trans (hb7.mono hb6.size)).mono HB5.out.size)⟩

set_option maxHeartbeats 16000000 in
set_option maxRecDepth 100000 in
theorem fsame_goT {w : World} {A B0 : Option Addr} {n c k0 d0 : Nat} {l m0 : Tb} (hl : Fls w (· < w.heap.size) A n c l) (hm0 : Fls w (· < w.heap.size) B0 k0 d0 m0) (hpl : ∀ x ∈ l, x.1.length ≤ maxLen) (hpm0 : ∀ x ∈ m0, x.1.length ≤ maxLen) :
    Calls Tryd.prog 6 #[.slice A n c, .slice B0 k0 d0, .bool true] w fun e w' => e = .returned (.bool true) ∧ Below w.heap.size w w' := by
  have haw := fawake_true w
  have HL0 := Lib.hid (And.intro hl (And.intro hm0 (And.intro hpl hpm0)))
  clear hl hm0 hpl hpm0
  go_enter Tryd.func6, Tryd.ntmps6
  go_upto_region 4 with (go_at_call 9; refine haw.mono ?_; clear haw; rintro _ w1 ⟨rfl, hb1⟩)
  have hf1 := few_any (HL0.out.1.below hb1)
  have HB1 := Lib.hid hb1
  clear hb1
  go_upto_region 5 with (go_at_call 10; refine hf1.mono ?_; clear hf1; rintro _ w2 ⟨F1, rfl, hF1, hb2⟩)
  have HB2 := Lib.hid (HB1.out.trans (hb2.mono HB1.out.size))
  have hf2 := few_any (HL0.out.2.1.below HB2.out)
  have HF1 := Lib.hid hF1
  clear hb2 hF1
  go_upto_region 6 with (go_at_call 10; refine hf2.mono ?_; clear hf2; rintro _ w3 ⟨F2, rfl, hF2, hb3⟩)
  have HB3 := Lib.hid (HB2.out.trans (hb3.mono HB2.out.size))
  have HF2 := Lib.hid hF2
  clear hb3 hF2
  cases F1
  · go_wp2_with fail
    go_ret
    exact ⟨rfl, HB3.out⟩
  cases F2
  · go_wp2_with fail
    go_ret
    exact ⟨rfl, HB3.out⟩
  have HL : Hid (Fls w (· < w.heap.size) A n c l ∧ n ≤ 20 ∧ ∀ x ∈ l, x.1.length ≤ maxLen) := Lib.hid ⟨HL0.out.1, HF1.out rfl, HL0.out.2.2.1⟩
  obtain ⟨m, HM⟩ : ∃ m, Hid (Fls w (· < w.heap.size) A n c m ∧ n ≤ 20 ∧ ∀ x ∈ m, x.1.length ≤ maxLen) := ⟨l, Lib.hid ⟨HL0.out.1, HF1.out rfl, HL0.out.2.2.1⟩⟩
  have hp1 := fput_any (HL.out.1.below HB3.out) (by have := HL.out.2.1; omega) HL.out.2.2
  clear HL0 HF1 HF2
  go_upto_region 11 with (go_at_call 12; refine hp1.mono ?_; clear hp1; rintro _ w4 ⟨Ax, nx, cx, rfl, hx, hb4⟩)
  have HB4 := Lib.hid (HB3.out.trans (hb4.mono HB3.out.size))
  have hp2 := fput_any (HM.out.1.below HB4.out) (by have := HM.out.2.1; omega) HM.out.2.2
  have HX := Lib.hid hx
  clear hb4 hx
  go_upto_region 12 with (go_at_call 12; refine hp2.mono ?_; clear hp2; rintro _ w5 ⟨Ay, ny, cy, rfl, hy, hb5⟩)
  have HB5 := Lib.hid (HB4.out.trans (hb5.mono HB4.out.size))
  obtain ⟨FX, hFX⟩ : ∃ FX, FX = fpB l := ⟨_, rfl⟩
  obtain ⟨FY, hFY⟩ : ∃ FY, FY = fpB m := ⟨_, rfl⟩
  rw [← hFX] at HX
  rw [← hFY] at hy
  have HX5 : Hid (Byt w5 (w3.heap.size ≤ ·) Ax nx cx FX) := Lib.hid (HX.out.below hb5)
  have HY := Lib.hid hy
  clear hb5 hy HX
  have hs := fsame_any (HL.out.1.below HB5.out) (HM.out.1.below HB5.out) (by have := HL.out.2.1; omega)
  have hsa := fsame_any (HL.out.1.below HB5.out) (HL.out.1.below HB5.out) (by have := HL.out.2.1; omega)
  have HSB : Hid (∀ W, Below w.heap.size w W → Calls Tryd.prog 19 #[.slice A n c, .slice A n c] W fun e w' => e = .returned (.bool true) ∧ Below W.heap.size W w') := Lib.hid fun W hW => by
    have h := fsame_any (HM.out.1.below hW) (HM.out.1.below hW) (by have := HM.out.2.1; omega)
    rw [decide_eq_true rfl] at h
    exact h
  rw [decide_eq_true rfl] at hsa
  by_cases h1 : chkE l = 0
  · by_cases h2 : chkE m = 0
    · have HQ : Hid (decide (FX = FY) = decide (l = m)) := Lib.hid (by rw [hFX, hFY]; exact fpB_same h1 h2)
      clear hsa HSB hFX hFY hs
      rw [h1, h2]
      have HCX : Hid (∀ W, Below w5.heap.size w5 W → (convert 27 9 (.slice Ax nx cx)).run Tryd.prog W = .ok (.string (st FX)) W) := Lib.hid fun W hW => byt_string (HX5.out.below hW)
      have HCY : Hid (∀ W, Below w5.heap.size w5 W → (convert 27 9 (.slice Ay ny cy)).run Tryd.prog W = .ok (.string (st FY)) W) := Lib.hid fun W hW => byt_string (HY.out.below hW)
      by_cases he : l = m
      · rw [decide_eq_true he] at HQ
        have HS : Hid (∀ W, Below w5.heap.size w5 W → Calls Tryd.prog 19 #[.slice A n c, .slice A n c] W fun e w' => e = .returned (.bool true) ∧ Below W.heap.size W w') := Lib.hid fun W hW => by
          have hW' := HB5.out.trans (hW.mono HB5.out.size)
          have h := fsame_any (HL.out.1.below hW') (HM.out.1.below hW') (by have := HL.out.2.1; omega)
          rw [decide_eq_true he] at h
          exact h
        have HZ : Hid (∀ W, Below w5.heap.size w5 W → Calls Tryd.prog 19 #[.slice A n c, .slice A n c] W fun e w' => e = .returned (.bool true) ∧ Below W.heap.size W w') := Lib.hid fun W hW => by
          have hW' := HB5.out.trans (hW.mono HB5.out.size)
          have h := fsame_any (HM.out.1.below hW') (HL.out.1.below hW') (by have := HM.out.2.1; omega)
          rw [decide_eq_true he.symm] at h
          exact h
        have hq : ((st FX).toList == (st FY).toList) = true := by rw [st_beq]; exact HQ.out
        clear he h1 h2 HQ
        have HDW : Hid (∀ W, Below w5.drew.heap.size w5.drew W → Below w5.heap.size w5 W) := Lib.hid fun W hW => (below_drew (Below.refl _ _)).trans hW
        go_upto_region 14 with fail
        refine wp_region_grow (fun W W' => Below W.heap.size W W') (Grow.nth [fun v _ => v = .slice A n c, fun v _ => v = .slice A n c, fun v _ => v = .bool true, fun v _ => v = .slice Ax nx cx, fun v _ => v = .string (st FX), fun v _ => v = .slice Ay ny cy, fun v _ => v = .string (st FY), fun v _ => v = .bool true, fun v _ => v = .bool true, fun v _ => v = .bool true, fun v _ => v = .slice A n c, fun v _ => v = .slice A n c, fun v _ => v = .bool true, fun v _ => v = .slice A n c, fun v _ => v = .slice A n c, fun v _ => v = .bool true, fun v _ => v = .bool true, fun v _ => v = .bool true, fun v _ => v = .bool true]) 71 (by kernel_rfl) (by kernel_rfl) (by rfl) (fun W => Below.refl _ W) (fun _ _ _ h1 h2 => h1.trans (h2.mono h1.size)) (Grow.mono_nth ?gmono) ?gsteps ?gfin
        case gmono => exact ⟨fun _ _ _ h _ => h, fun _ _ _ h _ => h, fun _ _ _ h _ => h, fun _ _ _ h _ => h, fun _ _ _ h _ => h, fun _ _ _ h _ => h, fun _ _ _ h _ => h, fun _ _ _ h _ => h, fun _ _ _ h _ => h, fun _ _ _ h _ => h, fun _ _ _ h _ => h, fun _ _ _ h _ => h, fun _ _ _ h _ => h, fun _ _ _ h _ => h, fun _ _ _ h _ => h, fun _ _ _ h _ => h, fun _ _ _ h _ => h, fun _ _ _ h _ => h, fun _ _ _ h _ => h, trivial⟩
        case gsteps =>
          show Grow.allBelow _ 19
          refine And.intro ?_ ?s18
          refine And.intro ?_ ?s17
          refine And.intro ?_ ?s16
          refine And.intro ?_ ?s15
          refine And.intro ?_ ?s14
          refine And.intro ?_ ?s13
          refine And.intro ?_ ?s12
          refine And.intro ?_ ?s11
          refine And.intro ?_ ?s10
          refine And.intro ?_ ?s9
          refine And.intro ?_ ?s8
          refine And.intro ?_ ?s7
          refine And.intro ?_ ?s6
          refine And.intro ?_ ?s5
          refine And.intro ?_ ?s4
          refine And.intro ?_ ?s3
          refine And.intro ?_ ?s2
          refine And.intro ?_ ?s1
          refine And.intro ?_ ?s0
          exact trivial
          case s0 =>
            refine Grow.step_in (by rfl) (by rfl) ?_
            intro E W ec eg ef hG hd hu R HR
            have e0 : E (.tmp 0) = .slice A n c := hu 0 (by kernel_rfl)
            clear hd hu
            go_simp
            exact HR.out _ _ (Below.refl _ _) rfl
          case s1 =>
            refine Grow.step_in (by rfl) (by rfl) ?_
            intro E W ec eg ef hG hd hu R HR
            have e1 : E (.tmp 1) = .slice A n c := hu 1 (by kernel_rfl)
            clear hd hu
            go_simp
            exact HR.out _ _ (Below.refl _ _) rfl
          case s2 =>
            refine Grow.step_in (by rfl) (by rfl) ?_
            intro E W ec eg ef hG hd hu R HR
            have e53 : E (.tmp 53) = .slice A n c := hd 0 53 (by kernel_rfl)
            have e54 : E (.tmp 54) = .slice A n c := hd 1 54 (by kernel_rfl)
            clear hd hu
            have hcc := HS.out W (HDW.out W hG)
            go_simp
            refine hcc.mono ?_
            rintro _ _ ⟨rfl, hbb⟩
            exact ⟨_, rfl, HR.out _ _ hbb rfl⟩
          case s3 =>
            refine Grow.step_in (by rfl) (by rfl) ?_
            intro E W ec eg ef hG hd hu R HR
            have e10 : E (.tmp 10) = .slice Ax nx cx := hu 10 (by kernel_rfl)
            clear hd hu
            go_simp
            exact HR.out _ _ (Below.refl _ _) rfl
          case s4 =>
            refine Grow.step_in (by rfl) (by rfl) ?_
            intro E W ec eg ef hG hd hu R HR
            have e56 : E (.tmp 56) = .slice Ax nx cx := hd 3 56 (by kernel_rfl)
            clear hd hu
            have hcv := HCX.out W (HDW.out W hG)
            go_simp
            exact HR.out _ _ (Below.refl _ _) rfl
          case s5 =>
            refine Grow.step_in (by rfl) (by rfl) ?_
            intro E W ec eg ef hG hd hu R HR
            have e12 : E (.tmp 12) = .slice Ay ny cy := hu 12 (by kernel_rfl)
            clear hd hu
            go_simp
            exact HR.out _ _ (Below.refl _ _) rfl
          case s6 =>
            refine Grow.step_in (by rfl) (by rfl) ?_
            intro E W ec eg ef hG hd hu R HR
            have e58 : E (.tmp 58) = .slice Ay ny cy := hd 5 58 (by kernel_rfl)
            clear hd hu
            have hcv := HCY.out W (HDW.out W hG)
            go_simp
            exact HR.out _ _ (Below.refl _ _) rfl
          case s7 =>
            refine Grow.step_in (by rfl) (by rfl) ?_
            intro E W ec eg ef hG hd hu R HR
            have e57 : E (.tmp 57) = .string (st FX) := hd 4 57 (by kernel_rfl)
            have e59 : E (.tmp 59) = .string (st FY) := hd 6 59 (by kernel_rfl)
            clear hd hu
            go_simp
            exact HR.out _ _ (Below.refl _ _) (by first | rfl | (show Value.bool (_) = _; rw [hq]))
          case s8 =>
            refine Grow.step_in (by rfl) (by rfl) ?_
            intro E W ec eg ef hG hd hu R HR
            have e55 : E (.tmp 55) = .bool true := hd 2 55 (by kernel_rfl)
            have e60 : E (.tmp 60) = .bool true := hd 7 60 (by kernel_rfl)
            clear hd hu
            go_simp
            exact HR.out _ _ (Below.refl _ _) rfl
          case s9 =>
            refine Grow.step_in (by rfl) (by rfl) ?_
            intro E W ec eg ef hG hd hu R HR
            have e61 : E (.tmp 61) = .bool true := hd 8 61 (by kernel_rfl)
            clear hd hu
            go_simp
            exact HR.out _ _ (Below.refl _ _) rfl
          case s10 =>
            refine Grow.step_on (g := 9) (b := true) (d := 62) (by rfl) (by rfl) (by rfl) (by kernel_rfl) (fun v W h => h) ?_
            intro E W ec eg ef hG hd hu R HR
            have e0 : E (.tmp 0) = .slice A n c := hu 0 (by kernel_rfl)
            clear hd hu
            go_simp
            exact HR.out _ _ (Below.refl _ _) rfl
          case s11 =>
            refine Grow.step_on (g := 9) (b := true) (d := 62) (by rfl) (by rfl) (by rfl) (by kernel_rfl) (fun v W h => h) ?_
            intro E W ec eg ef hG hd hu R HR
            have e1 : E (.tmp 1) = .slice A n c := hu 1 (by kernel_rfl)
            clear hd hu
            go_simp
            exact HR.out _ _ (Below.refl _ _) rfl
          case s12 =>
            refine Grow.step_on (g := 9) (b := true) (d := 62) (by rfl) (by rfl) (by rfl) (by kernel_rfl) (fun v W h => h) ?_
            intro E W ec eg ef hG hd hu R HR
            have e63 : E (.tmp 63) = .slice A n c := hd 10 63 (by kernel_rfl)
            have e64 : E (.tmp 64) = .slice A n c := hd 11 64 (by kernel_rfl)
            clear hd hu
            have hcc := HS.out W (HDW.out W hG)
            go_simp
            refine hcc.mono ?_
            rintro _ _ ⟨rfl, hbb⟩
            exact ⟨_, rfl, HR.out _ _ hbb rfl⟩
          case s13 =>
            refine Grow.step_on (g := 9) (b := true) (d := 62) (by rfl) (by rfl) (by rfl) (by kernel_rfl) (fun v W h => h) ?_
            intro E W ec eg ef hG hd hu R HR
            have e1 : E (.tmp 1) = .slice A n c := hu 1 (by kernel_rfl)
            clear hd hu
            go_simp
            exact HR.out _ _ (Below.refl _ _) rfl
          case s14 =>
            refine Grow.step_on (g := 9) (b := true) (d := 62) (by rfl) (by rfl) (by rfl) (by kernel_rfl) (fun v W h => h) ?_
            intro E W ec eg ef hG hd hu R HR
            have e0 : E (.tmp 0) = .slice A n c := hu 0 (by kernel_rfl)
            clear hd hu
            go_simp
            exact HR.out _ _ (Below.refl _ _) rfl
          case s15 =>
            refine Grow.step_on (g := 9) (b := true) (d := 62) (by rfl) (by rfl) (by rfl) (by kernel_rfl) (fun v W h => h) ?_
            intro E W ec eg ef hG hd hu R HR
            have e66 : E (.tmp 66) = .slice A n c := hd 13 66 (by kernel_rfl)
            have e67 : E (.tmp 67) = .slice A n c := hd 14 67 (by kernel_rfl)
            clear hd hu
            have hcc := HZ.out W (HDW.out W hG)
            go_simp
            refine hcc.mono ?_
            rintro _ _ ⟨rfl, hbb⟩
            exact ⟨_, rfl, HR.out _ _ hbb rfl⟩
          case s16 =>
            refine Grow.step_on (g := 9) (b := true) (d := 62) (by rfl) (by rfl) (by rfl) (by kernel_rfl) (fun v W h => h) ?_
            intro E W ec eg ef hG hd hu R HR
            have e65 : E (.tmp 65) = .bool true := hd 12 65 (by kernel_rfl)
            have e68 : E (.tmp 68) = .bool true := hd 15 68 (by kernel_rfl)
            clear hd hu
            go_simp
            exact HR.out _ _ (Below.refl _ _) rfl
          case s17 =>
            refine Grow.step_in (by rfl) (by rfl) ?_
            intro E W ec eg ef hG hd hu R HR
            have e62 : E (.tmp 62) = .bool true := hd 9 62 (by kernel_rfl)
            have e69 : E (.tmp 69) = .bool true := hd 16 69 (by kernel_rfl)
            clear hd hu
            go_simp
            exact HR.out _ _ (Below.refl _ _) rfl
          case s18 =>
            refine Grow.step_in (by rfl) (by rfl) ?_
            intro E W ec eg ef hG hd hu R HR
            have e70 : E (.tmp 70) = .bool true := hd 17 70 (by kernel_rfl)
            clear hd hu
            go_simp
            exact HR.out _ _ (Below.refl _ _) rfl
        case gfin =>
          intro W hG
          refine Grow.fin_dst (by rfl) ?_
          rintro _ rfl
          refine Grow.fin_dst (by rfl) ?_
          rintro _ rfl
          refine Grow.fin_dst (by rfl) ?_
          rintro _ rfl
          refine Grow.fin_dst (by rfl) ?_
          rintro _ rfl
          refine Grow.fin_dst (by rfl) ?_
          rintro _ rfl
          refine Grow.fin_dst (by rfl) ?_
          rintro _ rfl
          refine Grow.fin_dst (by rfl) ?_
          rintro _ rfl
          refine Grow.fin_dst (by rfl) ?_
          rintro _ rfl
          refine Grow.fin_dst (by rfl) ?_
          rintro _ rfl
          refine Grow.fin_dst (by rfl) ?_
          rintro _ rfl
          refine Grow.fin_dst (by rfl) ?_
          rintro _ rfl
          refine Grow.fin_dst (by rfl) ?_
          rintro _ rfl
          refine Grow.fin_dst (by rfl) ?_
          rintro _ rfl
          refine Grow.fin_dst (by rfl) ?_
          rintro _ rfl
          refine Grow.fin_dst (by rfl) ?_
          rintro _ rfl
          refine Grow.fin_dst (by rfl) ?_
          rintro _ rfl
          refine Grow.fin_dst (by rfl) ?_
          rintro _ rfl
          refine Grow.fin_dst (by rfl) ?_
          rintro _ rfl
          refine Grow.fin_dst (by rfl) ?_
          rintro _ rfl
          simp only [Act.put, List.setIfInBounds_toArray, List.set_cons_zero, List.set_cons_succ]
          refine Grow.fin_end ?_
          have HGW := Lib.hid (HDW.out _ hG)
          clear hG
          go_wp2_with fail
          go_ret
          exact ⟨rfl, HB5.out.trans (HGW.out.mono HB5.out.size)⟩
      · rw [decide_eq_false he] at HQ
        have HS : Hid (∀ W, Below w5.heap.size w5 W → Calls Tryd.prog 19 #[.slice A n c, .slice A n c] W fun e w' => e = .returned (.bool false) ∧ Below W.heap.size W w') := Lib.hid fun W hW => by
          have hW' := HB5.out.trans (hW.mono HB5.out.size)
          have h := fsame_any (HL.out.1.below hW') (HM.out.1.below hW') (by have := HL.out.2.1; omega)
          rw [decide_eq_false he] at h
          exact h
        have HZ : Hid (∀ W, Below w5.heap.size w5 W → Calls Tryd.prog 19 #[.slice A n c, .slice A n c] W fun e w' => e = .returned (.bool false) ∧ Below W.heap.size W w') := Lib.hid fun W hW => by
          have hW' := HB5.out.trans (hW.mono HB5.out.size)
          have h := fsame_any (HM.out.1.below hW') (HL.out.1.below hW') (by have := HM.out.2.1; omega)
          rw [decide_eq_false fun e => he e.symm] at h
          exact h
        have hq : ((st FX).toList == (st FY).toList) = false := by rw [st_beq]; exact HQ.out
        clear he h1 h2 HQ
        have HDW : Hid (∀ W, Below w5.drew.heap.size w5.drew W → Below w5.heap.size w5 W) := Lib.hid fun W hW => (below_drew (Below.refl _ _)).trans hW
        go_upto_region 14 with fail
        refine wp_region_grow (fun W W' => Below W.heap.size W W') (Grow.nth [fun v _ => v = .slice A n c, fun v _ => v = .slice A n c, fun v _ => v = .bool false, fun v _ => v = .slice Ax nx cx, fun v _ => v = .string (st FX), fun v _ => v = .slice Ay ny cy, fun v _ => v = .string (st FY), fun v _ => v = .bool false, fun v _ => v = .bool true, fun v _ => v = .bool true, fun v _ => v = .slice A n c, fun v _ => v = .slice A n c, fun v _ => v = .bool false, fun v _ => v = .slice A n c, fun v _ => v = .slice A n c, fun v _ => v = .bool false, fun v _ => v = .bool true, fun v _ => v = .bool true, fun v _ => v = .bool true]) 71 (by kernel_rfl) (by kernel_rfl) (by rfl) (fun W => Below.refl _ W) (fun _ _ _ h1 h2 => h1.trans (h2.mono h1.size)) (Grow.mono_nth ?gmono) ?gsteps ?gfin
        case gmono => exact ⟨fun _ _ _ h _ => h, fun _ _ _ h _ => h, fun _ _ _ h _ => h, fun _ _ _ h _ => h, fun _ _ _ h _ => h, fun _ _ _ h _ => h, fun _ _ _ h _ => h, fun _ _ _ h _ => h, fun _ _ _ h _ => h, fun _ _ _ h _ => h, fun _ _ _ h _ => h, fun _ _ _ h _ => h, fun _ _ _ h _ => h, fun _ _ _ h _ => h, fun _ _ _ h _ => h, fun _ _ _ h _ => h, fun _ _ _ h _ => h, fun _ _ _ h _ => h, fun _ _ _ h _ => h, trivial⟩
        case gsteps =>
          show Grow.allBelow _ 19
          refine And.intro ?_ ?s18
          refine And.intro ?_ ?s17
          refine And.intro ?_ ?s16
          refine And.intro ?_ ?s15
          refine And.intro ?_ ?s14
          refine And.intro ?_ ?s13
          refine And.intro ?_ ?s12
          refine And.intro ?_ ?s11
          refine And.intro ?_ ?s10
          refine And.intro ?_ ?s9
          refine And.intro ?_ ?s8
          refine And.intro ?_ ?s7
          refine And.intro ?_ ?s6
          refine And.intro ?_ ?s5
          refine And.intro ?_ ?s4
          refine And.intro ?_ ?s3
          refine And.intro ?_ ?s2
          refine And.intro ?_ ?s1
          refine And.intro ?_ ?s0
          exact trivial
          case s0 =>
            refine Grow.step_in (by rfl) (by rfl) ?_
            intro E W ec eg ef hG hd hu R HR
            have e0 : E (.tmp 0) = .slice A n c := hu 0 (by kernel_rfl)
            clear hd hu
            go_simp
            exact HR.out _ _ (Below.refl _ _) rfl
          case s1 =>
            refine Grow.step_in (by rfl) (by rfl) ?_
            intro E W ec eg ef hG hd hu R HR
            have e1 : E (.tmp 1) = .slice A n c := hu 1 (by kernel_rfl)
            clear hd hu
            go_simp
            exact HR.out _ _ (Below.refl _ _) rfl
          case s2 =>
            refine Grow.step_in (by rfl) (by rfl) ?_
            intro E W ec eg ef hG hd hu R HR
            have e53 : E (.tmp 53) = .slice A n c := hd 0 53 (by kernel_rfl)
            have e54 : E (.tmp 54) = .slice A n c := hd 1 54 (by kernel_rfl)
            clear hd hu
            have hcc := HS.out W (HDW.out W hG)
            go_simp
            refine hcc.mono ?_
            rintro _ _ ⟨rfl, hbb⟩
            exact ⟨_, rfl, HR.out _ _ hbb rfl⟩
          case s3 =>
            refine Grow.step_in (by rfl) (by rfl) ?_
            intro E W ec eg ef hG hd hu R HR
            have e10 : E (.tmp 10) = .slice Ax nx cx := hu 10 (by kernel_rfl)
            clear hd hu
            go_simp
            exact HR.out _ _ (Below.refl _ _) rfl
          case s4 =>
            refine Grow.step_in (by rfl) (by rfl) ?_
            intro E W ec eg ef hG hd hu R HR
            have e56 : E (.tmp 56) = .slice Ax nx cx := hd 3 56 (by kernel_rfl)
            clear hd hu
            have hcv := HCX.out W (HDW.out W hG)
            go_simp
            exact HR.out _ _ (Below.refl _ _) rfl
          case s5 =>
            refine Grow.step_in (by rfl) (by rfl) ?_
            intro E W ec eg ef hG hd hu R HR
            have e12 : E (.tmp 12) = .slice Ay ny cy := hu 12 (by kernel_rfl)
            clear hd hu
            go_simp
            exact HR.out _ _ (Below.refl _ _) rfl
          case s6 =>
            refine Grow.step_in (by rfl) (by rfl) ?_
            intro E W ec eg ef hG hd hu R HR
            have e58 : E (.tmp 58) = .slice Ay ny cy := hd 5 58 (by kernel_rfl)
            clear hd hu
            have hcv := HCY.out W (HDW.out W hG)
            go_simp
            exact HR.out _ _ (Below.refl _ _) rfl
          case s7 =>
            refine Grow.step_in (by rfl) (by rfl) ?_
            intro E W ec eg ef hG hd hu R HR
            have e57 : E (.tmp 57) = .string (st FX) := hd 4 57 (by kernel_rfl)
            have e59 : E (.tmp 59) = .string (st FY) := hd 6 59 (by kernel_rfl)
            clear hd hu
            go_simp
            exact HR.out _ _ (Below.refl _ _) (by first | rfl | (show Value.bool (_) = _; rw [hq]))
          case s8 =>
            refine Grow.step_in (by rfl) (by rfl) ?_
            intro E W ec eg ef hG hd hu R HR
            have e55 : E (.tmp 55) = .bool false := hd 2 55 (by kernel_rfl)
            have e60 : E (.tmp 60) = .bool false := hd 7 60 (by kernel_rfl)
            clear hd hu
            go_simp
            exact HR.out _ _ (Below.refl _ _) rfl
          case s9 =>
            refine Grow.step_in (by rfl) (by rfl) ?_
            intro E W ec eg ef hG hd hu R HR
            have e61 : E (.tmp 61) = .bool true := hd 8 61 (by kernel_rfl)
            clear hd hu
            go_simp
            exact HR.out _ _ (Below.refl _ _) rfl
          case s10 =>
            refine Grow.step_on (g := 9) (b := true) (d := 62) (by rfl) (by rfl) (by rfl) (by kernel_rfl) (fun v W h => h) ?_
            intro E W ec eg ef hG hd hu R HR
            have e0 : E (.tmp 0) = .slice A n c := hu 0 (by kernel_rfl)
            clear hd hu
            go_simp
            exact HR.out _ _ (Below.refl _ _) rfl
          case s11 =>
            refine Grow.step_on (g := 9) (b := true) (d := 62) (by rfl) (by rfl) (by rfl) (by kernel_rfl) (fun v W h => h) ?_
            intro E W ec eg ef hG hd hu R HR
            have e1 : E (.tmp 1) = .slice A n c := hu 1 (by kernel_rfl)
            clear hd hu
            go_simp
            exact HR.out _ _ (Below.refl _ _) rfl
          case s12 =>
            refine Grow.step_on (g := 9) (b := true) (d := 62) (by rfl) (by rfl) (by rfl) (by kernel_rfl) (fun v W h => h) ?_
            intro E W ec eg ef hG hd hu R HR
            have e63 : E (.tmp 63) = .slice A n c := hd 10 63 (by kernel_rfl)
            have e64 : E (.tmp 64) = .slice A n c := hd 11 64 (by kernel_rfl)
            clear hd hu
            have hcc := HS.out W (HDW.out W hG)
            go_simp
            refine hcc.mono ?_
            rintro _ _ ⟨rfl, hbb⟩
            exact ⟨_, rfl, HR.out _ _ hbb rfl⟩
          case s13 =>
            refine Grow.step_on (g := 9) (b := true) (d := 62) (by rfl) (by rfl) (by rfl) (by kernel_rfl) (fun v W h => h) ?_
            intro E W ec eg ef hG hd hu R HR
            have e1 : E (.tmp 1) = .slice A n c := hu 1 (by kernel_rfl)
            clear hd hu
            go_simp
            exact HR.out _ _ (Below.refl _ _) rfl
          case s14 =>
            refine Grow.step_on (g := 9) (b := true) (d := 62) (by rfl) (by rfl) (by rfl) (by kernel_rfl) (fun v W h => h) ?_
            intro E W ec eg ef hG hd hu R HR
            have e0 : E (.tmp 0) = .slice A n c := hu 0 (by kernel_rfl)
            clear hd hu
            go_simp
            exact HR.out _ _ (Below.refl _ _) rfl
          case s15 =>
            refine Grow.step_on (g := 9) (b := true) (d := 62) (by rfl) (by rfl) (by rfl) (by kernel_rfl) (fun v W h => h) ?_
            intro E W ec eg ef hG hd hu R HR
            have e66 : E (.tmp 66) = .slice A n c := hd 13 66 (by kernel_rfl)
            have e67 : E (.tmp 67) = .slice A n c := hd 14 67 (by kernel_rfl)
            clear hd hu
            have hcc := HZ.out W (HDW.out W hG)
            go_simp
            refine hcc.mono ?_
            rintro _ _ ⟨rfl, hbb⟩
            exact ⟨_, rfl, HR.out _ _ hbb rfl⟩
          case s16 =>
            refine Grow.step_on (g := 9) (b := true) (d := 62) (by rfl) (by rfl) (by rfl) (by kernel_rfl) (fun v W h => h) ?_
            intro E W ec eg ef hG hd hu R HR
            have e65 : E (.tmp 65) = .bool false := hd 12 65 (by kernel_rfl)
            have e68 : E (.tmp 68) = .bool false := hd 15 68 (by kernel_rfl)
            clear hd hu
            go_simp
            exact HR.out _ _ (Below.refl _ _) rfl
          case s17 =>
            refine Grow.step_in (by rfl) (by rfl) ?_
            intro E W ec eg ef hG hd hu R HR
            have e62 : E (.tmp 62) = .bool true := hd 9 62 (by kernel_rfl)
            have e69 : E (.tmp 69) = .bool true := hd 16 69 (by kernel_rfl)
            clear hd hu
            go_simp
            exact HR.out _ _ (Below.refl _ _) rfl
          case s18 =>
            refine Grow.step_in (by rfl) (by rfl) ?_
            intro E W ec eg ef hG hd hu R HR
            have e70 : E (.tmp 70) = .bool true := hd 17 70 (by kernel_rfl)
            clear hd hu
            go_simp
            exact HR.out _ _ (Below.refl _ _) rfl
        case gfin =>
          intro W hG
          refine Grow.fin_dst (by rfl) ?_
          rintro _ rfl
          refine Grow.fin_dst (by rfl) ?_
          rintro _ rfl
          refine Grow.fin_dst (by rfl) ?_
          rintro _ rfl
          refine Grow.fin_dst (by rfl) ?_
          rintro _ rfl
          refine Grow.fin_dst (by rfl) ?_
          rintro _ rfl
          refine Grow.fin_dst (by rfl) ?_
          rintro _ rfl
          refine Grow.fin_dst (by rfl) ?_
          rintro _ rfl
          refine Grow.fin_dst (by rfl) ?_
          rintro _ rfl
          refine Grow.fin_dst (by rfl) ?_
          rintro _ rfl
          refine Grow.fin_dst (by rfl) ?_
          rintro _ rfl
          refine Grow.fin_dst (by rfl) ?_
          rintro _ rfl
          refine Grow.fin_dst (by rfl) ?_
          rintro _ rfl
          refine Grow.fin_dst (by rfl) ?_
          rintro _ rfl
          refine Grow.fin_dst (by rfl) ?_
          rintro _ rfl
          refine Grow.fin_dst (by rfl) ?_
          rintro _ rfl
          refine Grow.fin_dst (by rfl) ?_
          rintro _ rfl
          refine Grow.fin_dst (by rfl) ?_
          rintro _ rfl
          refine Grow.fin_dst (by rfl) ?_
          rintro _ rfl
          refine Grow.fin_dst (by rfl) ?_
          rintro _ rfl
          simp only [Act.put, List.setIfInBounds_toArray, List.set_cons_zero, List.set_cons_succ]
          refine Grow.fin_end ?_
          have HGW := Lib.hid (HDW.out _ hG)
          clear hG
          go_wp2_with fail
          go_ret
          exact ⟨rfl, HB5.out.trans (HGW.out.mono HB5.out.size)⟩
    · clear hs hFX hFY
      have hne : (chkE m != 0) = true := by simpa using h2
      rw [h1]
      generalize chkE m = EM at *
      clear h1 h2
      go_wp2_with (first
        | (go_at_call 19; refine hsa.mono ?_; clear hsa; rintro _ w6 ⟨rfl, hb6⟩; have hsb := HSB.out w6 (HB5.out.trans (hb6.mono HB5.out.size)))
        | (go_at_call 19; refine hsb.mono ?_; clear hsb; rintro _ w7 ⟨rfl, hb7⟩))
      go_ret
      exact ⟨rfl, HB5.out.trans ((hb6.trans (hb7.mono hb6.size)).mono HB5.out.size)⟩
  · clear hs hFX hFY
    have hne : (chkE l != 0) = true := by simpa using h1
    generalize chkE l = EL at *
    generalize chkE m = EM at *
    clear h1
    go_wp2_with (first
      | (go_at_call 19; refine hsa.mono ?_; clear hsa; rintro _ w6 ⟨rfl, hb6⟩; have hsb := HSB.out w6 (HB5.out.trans (hb6.mono HB5.out.size)))
      | (go_at_call 19; refine hsb.mono ?_; clear hsb; rintro _ w7 ⟨rfl, hb7⟩))
    go_ret
    exact ⟨rfl, HB5.out.trans ((hb6.trans (hb7.mono hb6.size)).mono HB5.out.size)⟩

theorem law_fsame {w : World} {A B : Option Addr} {n c k d : Nat} {l m : Tb} (hl : Fls w (· < w.heap.size) A n c l ∧ ∀ x ∈ l, x.1.length ≤ maxLen) (hm : Fls w (· < w.heap.size) B k d m ∧ ∀ x ∈ m, x.1.length ≤ maxLen) (s : Bool) :
    Calls Tryd.prog 6 #[.slice A n c, .slice B k d, .bool s] w fun e w' => e = .returned (.bool true) ∧ Below w.heap.size w w' := by
  obtain ⟨h1, h2⟩ := hl
  obtain ⟨h3, h4⟩ := hm
  cases s
  · exact fsame_goF h1 h3 h2 h4
  · exact fsame_goT h1 h3 h2 h4
end Go.Proofs.YtpcoiakdbfihlaaDoor
