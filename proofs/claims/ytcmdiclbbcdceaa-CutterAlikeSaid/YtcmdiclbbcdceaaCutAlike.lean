/-
  The statement CutterAlike: its walk.
-/
import Derived.Test.YtcmdiclbbcdceaaCutAwake
import Derived.Test.YtcmdiclbbcdceaaGrow
namespace Go.Proofs.Ytcmdiclbbcdceaa
open Go.RowKit

def CAk (w2 : World) (M : Nat) (i : Value) (wr : World) : Prop := ∃ i' : Nat, i' ≤ M ∧ i = .int .i64 (i' : Int) ∧ Below w2.heap.size w2 wr

set_option maxHeartbeats 4000000 in
theorem walk_calike {w : World} {S : Nat → Prop} {A : Option Addr} {n c : Nat} {b : List UInt8} (h : Byt w S A n c b) {k : Int} (hk : (Lit.int .u16 k).wf = true) (le mo bi : Int) :
    Calls Try.prog 5 #[.slice A n c, .int .u16 k, .agg #[.int .i64 le, .int .i64 mo, .int .i64 bi]] w fun e w' => e = .returned (.bool true) ∧ Below w.heap.size w w' := by
  have hkb := bounds_u16 hk
  have hb0 : Below w.heap.size w (w.alloc (.cells #[.int .i64 le, .int .i64 mo, .int .i64 bi] 24)) := (Below.refl _ _).alloc (Nat.le_refl _) _
  have hx0 := heap_alloc_new w (.cells #[.int .i64 le, .int .i64 mo, .int .i64 bi] 24)
  have haw := cawake_true (w.alloc (.cells #[.int .i64 le, .int .i64 mo, .int .i64 bi] 24))
  have H0 := Lib.hid (And.intro hb0 (And.intro hx0 h))
  have hln := h.len
  clear hb0 hx0 h hk
  by_cases h1 : n ≤ 2000
  · have h1' : ¬ (2000 : Int) < (n : Int) := by omega
    obtain ⟨V, hV⟩ : ∃ V, V = cutErr le mo bi := ⟨_, rfl⟩
    have HV := Lib.hid hV
    have HN := Lib.hid (And.intro h1 hln)
    clear hV h1 hln
    have HPRE : ∀ w1, Below (w.alloc (.cells #[.int .i64 le, .int .i64 mo, .int .i64 bi] 24)).heap.size (w.alloc (.cells #[.int .i64 le, .int .i64 mo, .int .i64 bi] 24)) w1 → Hid (Below w.heap.size w w1 ∧ w1.heap[w.heap.size]? = some (.cells #[.int .i64 le, .int .i64 mo, .int .i64 bi] 24 (0, 0))) := fun w1 hb1 => Lib.hid ⟨H0.out.1.trans (hb1.mono H0.out.1.size), (hb1.block _ (lt_of_cells H0.out.2.1)).trans H0.out.2.1⟩
    go_enter Try.func5, Try.ntmps5
    go_wp2_with (go_at_call 8; refine haw.mono ?_; clear haw; rintro _ w1 ⟨rfl, hb1⟩; have H1 := HPRE _ hb1; clear HPRE; have hc0 : w1.cell? ⟨w.heap.size, 0, none⟩ = some (.int .i64 le) := cell_of_cells H1.out.2 0; have hc1 : w1.cell? ⟨w.heap.size, 1, none⟩ = some (.int .i64 mo) := cell_of_cells H1.out.2 1; have hc2 : w1.cell? ⟨w.heap.size, 2, none⟩ = some (.int .i64 bi) := cell_of_cells H1.out.2 2; clear hb1)
    refine (cutends_any (H0.out.2.2.below H1.out.1) (by have := HN.out.1; omega) le mo bi).mono ?_
    rintro _ w2 ⟨A1, N, c1, rfl, hi1, hb2⟩
    rw [← HV.out]
    have H2 := Lib.hid (And.intro (H1.out.1.trans (hb2.mono H1.out.1.size)) (And.intro ((hb2.block _ (lt_of_cells H1.out.2)).trans H1.out.2) hi1))
    clear hb2 hi1 hc0 hc1 hc2
    by_cases hv : V = 0
    · subst hv
      have hok : cutErr le mo bi = 0 := HV.out.symm
      have hE := H2.out.2.2
      rw [endV_ok hok] at hE
      have hNl := hE.len
      rw [endI_length] at hNl
      by_cases hz : N = 0
      · have hz' : ((N : Int) == 0) = true := by simp [hz]
        have hb0' : ((n : Int) == 0) = true := by
          have h2 := HN.out.2
          have h3 := endsC_pos (cfgOf le mo bi) (b := b)
          have : n = 0 := by omega
          simp [this]
        clear hz hE hNl hok
        go_wp2_with fail
        go_ret
        exact ⟨rfl, H2.out.1⟩
      · have hz' : ((N : Int) == 0) = false := by simpa using hz
        have hk1 := IntWalk.i64_in k (by omega)
        have hk2 : k.tmod (N : Int) = ((k.toNat % N : Nat) : Int) := by
          rw [Int.tmod_eq_emod_of_nonneg (by omega), show k = ((k.toNat : Nat) : Int) by omega]
          simp
        have hk3 := IntWalk.i64_in ((k.toNat % N : Nat) : Int) (by have := Nat.mod_lt k.toNat (show 0 < N by omega); have h1 := HN.out.1; have h2 := HN.out.2; have h3 := endsC_short (cfgOf le mo bi) b; omega)
        have hi : k.toNat % N < N := Nat.mod_lt _ (by omega)
        generalize k.toNat % N = i at hk2 hk3 hi
        obtain ⟨li, hli⟩ : ∃ li, li = (endsC (cfgOf le mo bi) b)[i]?.getD 0 := ⟨_, rfl⟩
        have hat := piecesC_at (cfgOf le mo bi) b i (by omega)
        rw [← hli] at hat
        have hal := endsC_alike (cfgOf le mo bi) b i (by omega)
        rw [← hli] at hal
        have hshort := endsC_short (cfgOf le mo bi) b
        obtain ⟨q1, o1, rfl, _, hlq, hl⟩ := hE.row (by omega)
        have HLI := Lib.hid (And.intro hok (And.intro hal (And.intro hi (And.intro hli (And.intro hNl (And.intro hat.2.1 hshort))))))
        have HSL := Lib.hid (fun W => run_cut (P := Try.prog) 22 5 Try.underlying22 u8_size A n c li (by have := hat.2.1; have := HN.out.2; omega) W)
        have HC : Hid (∀ W, Below w2.drew.heap.size w2.drew W → W.cell? ⟨q1, o1 + i, none⟩ = some (.int .i64 (li : Int)) ∧ W.cell? ⟨w.heap.size, 0, none⟩ = some (.int .i64 le) ∧ W.cell? ⟨w.heap.size, 1, none⟩ = some (.int .i64 mo) ∧ W.cell? ⟨w.heap.size, 2, none⟩ = some (.int .i64 bi) ∧ Byt W S (cutA A c li) (n - li) (c - li) (b.drop li) ∧ W.heap[w.heap.size]? = some (.cells #[.int .i64 le, .int .i64 mo, .int .i64 bi] 24 (0, 0))) := Lib.hid fun W hW => by
          have hW2 : Below w2.heap.size w2 W := Grow.below_of_drew hW
          have hx2 := (hW2.block _ (lt_of_cells H2.out.2.1)).trans H2.out.2.1
          have hl0 := (hW2.cell (p := ⟨_, _, none⟩) hlq).trans (hl i hi)
          rw [endI_at _ _ (by omega), ← hli] at hl0
          exact ⟨hl0, cell_of_cells hx2 0, cell_of_cells hx2 1, cell_of_cells hx2 2, (H0.out.2.2.below (H2.out.1.trans (hW2.mono H2.out.1.size))).cut (by have := hat.2.1; have := HN.out.2; omega), hx2⟩
        have hii : (i : Int) < (N : Int) := by omega
        clear hz hE hNl hok hat hal hshort hl hlq hli
        go_wp2_with fail
        refine wp_region_grow (fun W W' => Below W.heap.size W W') (Grow.nth [fun v _ => v = .slice A n c, fun v _ => v = .slice (some ⟨q1, o1, none⟩) N c1, fun v _ => v = .int .i64 (i : Int), fun v _ => v = .pointer (some ⟨q1, o1 + i, none⟩), fun v _ => v = .int .i64 (li : Int), fun v _ => v = .slice (cutA A c li) (n - li) (c - li), fun v _ => v = .agg #[.int .i64 le, .int .i64 mo, .int .i64 bi], fun v W => ∃ A4 n4 c4, v = .tuple #[.slice A4 n4 c4, .int .i64 0] ∧ Ints .i64 W (fun _ => True) A4 n4 c4 (endI (endsC (cfgOf le mo bi) (b.drop li))), fun v W => ∃ A4 n4 c4, v = .tuple #[.slice A4 n4 c4, .int .i64 0] ∧ Ints .i64 W (fun _ => True) A4 n4 c4 (endI (endsC (cfgOf le mo bi) (b.drop li))), fun v W => ∃ A4 n4 c4, v = .slice A4 n4 c4 ∧ Ints .i64 W (fun _ => True) A4 n4 c4 (endI (endsC (cfgOf le mo bi) (b.drop li))), fun v _ => v = .int .i64 0, fun v W => ∃ A4 n4 c4, v = .slice A4 n4 c4 ∧ Ints .i64 W (fun _ => True) A4 n4 c4 (endI (endsC (cfgOf le mo bi) (b.drop li))), fun v _ => v = .int .i64 0]) 91 (by kernel_rfl) (by kernel_rfl) (by rfl) (fun W => Below.refl _ W) (fun _ _ _ h1 h2 => h1.trans (h2.mono h1.size)) (Grow.mono_nth ?gmono) ?gsteps ?gfin
        case gmono => exact ⟨fun _ _ _ h _ => h, fun _ _ _ h _ => h, fun _ _ _ h _ => h, fun _ _ _ h _ => h, fun _ _ _ h _ => h, fun _ _ _ h _ => h, fun _ _ _ h _ => h, fun _ _ _ ⟨A4, n4, c4, h1, h2⟩ hg => ⟨A4, n4, c4, h1, h2.below hg⟩, fun _ _ _ ⟨A4, n4, c4, h1, h2⟩ hg => ⟨A4, n4, c4, h1, h2.below hg⟩, fun _ _ _ ⟨A4, n4, c4, h1, h2⟩ hg => ⟨A4, n4, c4, h1, h2.below hg⟩, fun _ _ _ h _ => h, fun _ _ _ ⟨A4, n4, c4, h1, h2⟩ hg => ⟨A4, n4, c4, h1, h2.below hg⟩, fun _ _ _ h _ => h, trivial⟩
        case gsteps =>
          show Grow.allBelow _ 13
          refine And.intro ?_ ?s12
          refine And.intro ?_ ?s11
          refine And.intro ?_ ?s10
          refine And.intro ?_ ?s9
          refine And.intro ?_ ?s8
          refine And.intro ?_ ?s7
          refine And.intro ?_ ?s6
          refine And.intro ?_ ?s5
          refine And.intro ?_ ?s4
          refine And.intro ?_ ?s3
          refine And.intro ?_ ?s2
          refine And.intro ?_ ?s1
          refine And.intro ?_ ?s0
          exact trivial
          case s0 =>
            refine Grow.step_in (by rfl) (by rfl) ?_
            intro E W ec eg ef hG hd hu R HR
            have e0 : E (.tmp 0) = .slice A n c := hu 0 (by kernel_rfl)
            clear hd hu
            go_simp
            exact HR.out _ _ (Below.refl _ _) rfl
          case s1 =>
            refine Grow.step_in (by rfl) (by rfl) ?_
            intro E W ec eg ef hG hd hu R HR
            have e8 : E (.tmp 8) = .slice (some ⟨q1, o1, none⟩) N c1 := hu 8 (by kernel_rfl)
            clear hd hu
            go_simp
            exact HR.out _ _ (Below.refl _ _) rfl
          case s2 =>
            refine Grow.step_in (by rfl) (by rfl) ?_
            intro E W ec eg ef hG hd hu R HR
            have e10 : E (.tmp 10) = .int .i64 (i : Int) := hu 10 (by kernel_rfl)
            clear hd hu
            go_simp
            exact HR.out _ _ (Below.refl _ _) rfl
          case s3 =>
            refine Grow.step_in (by rfl) (by rfl) ?_
            intro E W ec eg ef hG hd hu R HR
            have e47 : E (.tmp 47) = .slice (some ⟨q1, o1, none⟩) N c1 := hd 1 47 (by kernel_rfl)
            have e48 : E (.tmp 48) = .int .i64 (i : Int) := hd 2 48 (by kernel_rfl)
            clear hd hu
            go_simp
            first | exact HR.out _ _ (Below.refl _ _) rfl | (rw [if_pos ⟨by omega, by omega⟩]; exact HR.out _ _ (Below.refl _ _) rfl) | (rw [if_pos (by omega)]; exact HR.out _ _ (Below.refl _ _) rfl)
          case s4 =>
            refine Grow.step_in (by rfl) (by rfl) ?_
            intro E W ec eg ef hG hd hu R HR
            have e49 : E (.tmp 49) = .pointer (some ⟨q1, o1 + i, none⟩) := hd 3 49 (by kernel_rfl)
            clear hd hu
            obtain ⟨k1, k2, k3, k4, k5, k6⟩ := HC.out W hG
            go_simp
            exact HR.out _ _ (Below.refl _ _) rfl
          case s5 =>
            refine Grow.step_in (by rfl) (by rfl) ?_
            intro E W ec eg ef hG hd hu R HR
            have e46 : E (.tmp 46) = .slice A n c := hd 0 46 (by kernel_rfl)
            have e50 : E (.tmp 50) = .int .i64 (li : Int) := hd 4 50 (by kernel_rfl)
            clear hd hu
            have hsl := HSL.out W
            go_simp
            exact HR.out _ _ (Below.refl _ _) rfl
          case s6 =>
            refine Grow.step_in (by rfl) (by rfl) ?_
            intro E W ec eg ef hG hd hu R HR
            have e5 : E (.tmp 5) = .pointer (some ⟨w.heap.size, 0, none⟩) := hu 5 (by kernel_rfl)
            clear hd hu
            obtain ⟨k1, k2, k3, k4, k5, k6⟩ := HC.out W hG
            go_simp
            exact HR.out _ _ (Below.refl _ _) rfl
          case s7 =>
            refine Grow.step_in (by rfl) (by rfl) ?_
            intro E W ec eg ef hG hd hu R HR
            have e51 : E (.tmp 51) = .slice (cutA A c li) (n - li) (c - li) := hd 5 51 (by kernel_rfl)
            have e52 : E (.tmp 52) = .agg #[.int .i64 le, .int .i64 mo, .int .i64 bi] := hd 6 52 (by kernel_rfl)
            clear hd hu
            obtain ⟨k1, k2, k3, k4, k5, k6⟩ := HC.out W hG
            go_simp
            refine (cutends_any k5 (by have := HN.out.1; omega) le mo bi).mono ?_
            rintro _ w' ⟨A4, n4, c4, rfl, hi4, hb4⟩
            rw [endV_ok HLI.out.1, HLI.out.1] at *
            exact ⟨_, rfl, HR.out _ _ hb4 ⟨A4, n4, c4, rfl, hi4.mono fun _ _ _ => trivial⟩⟩
          case s8 =>
            refine Grow.step_in (by rfl) (by rfl) ?_
            intro E W ec eg ef hG hd hu R HR
            have h53 := hd 7 53 (by kernel_rfl)
            clear hd hu
            obtain ⟨A4, n4, c4, e53, hi4⟩ := h53
            go_simp
            exact HR.out _ _ (Below.refl _ _) ⟨A4, n4, c4, rfl, hi4⟩
          case s9 =>
            refine Grow.step_in (by rfl) (by rfl) ?_
            intro E W ec eg ef hG hd hu R HR
            have h45 := hd 8 45 (by kernel_rfl)
            clear hd hu
            obtain ⟨A4, n4, c4, e45, hi4⟩ := h45
            go_simp
            exact HR.out _ _ (Below.refl _ _) ⟨A4, n4, c4, rfl, hi4⟩
          case s10 =>
            refine Grow.step_in (by rfl) (by rfl) ?_
            intro E W ec eg ef hG hd hu R HR
            have h45 := hd 8 45 (by kernel_rfl)
            clear hd hu
            obtain ⟨A4, n4, c4, e45, hi4⟩ := h45
            go_simp
            exact HR.out _ _ (Below.refl _ _) rfl
          case s11 =>
            refine Grow.step_in (by rfl) (by rfl) ?_
            intro E W ec eg ef hG hd hu R HR
            have h54 := hd 9 54 (by kernel_rfl)
            clear hd hu
            obtain ⟨A4, n4, c4, e54, hi4⟩ := h54
            go_simp
            exact HR.out _ _ (Below.refl _ _) ⟨A4, n4, c4, rfl, hi4⟩
          case s12 =>
            refine Grow.step_in (by rfl) (by rfl) ?_
            intro E W ec eg ef hG hd hu R HR
            have e55 : E (.tmp 55) = .int .i64 0 := hd 10 55 (by kernel_rfl)
            clear hd hu
            go_simp
            exact HR.out _ _ (Below.refl _ _) rfl
        case gfin =>
          intro W hG
          refine Grow.fin_dst (by rfl) ?_
          rintro _ rfl
          refine Grow.fin_dst (by rfl) ?_
          rintro _ rfl
          refine Grow.fin_dst (by rfl) ?_
          rintro _ rfl
          refine Grow.fin_dst (by rfl) ?_
          rintro _ rfl
          refine Grow.fin_dst (by rfl) ?_
          rintro _ rfl
          refine Grow.fin_dst (by rfl) ?_
          rintro _ rfl
          refine Grow.fin_dst (by rfl) ?_
          rintro _ rfl
          refine Grow.fin_dst (by rfl) ?_
          rintro _ ⟨A4, n4, c4, rfl, hm4⟩
          refine Grow.fin_dst (by rfl) ?_
          rintro _ ⟨A4, n4, c4, rfl, hm4⟩
          refine Grow.fin_dst (by rfl) ?_
          rintro _ ⟨A4, n4, c4, rfl, hm4⟩
          refine Grow.fin_dst (by rfl) ?_
          rintro _ rfl
          refine Grow.fin_dst (by rfl) ?_
          rintro _ ⟨A4, n4, c4, rfl, hm4⟩
          refine Grow.fin_dst (by rfl) ?_
          rintro _ rfl
          simp only [Act.put, List.setIfInBounds_toArray, List.set_cons_zero, List.set_cons_succ]
          refine Grow.fin_end ?_
          have hml := hm4.len
          rw [endI_length] at hml
          have hdl := congrArg List.length HLI.out.2.1
          rw [List.length_drop, List.length_map, hml, HLI.out.2.2.2.2.1] at hdl
          have HW : Hid (Below w2.heap.size w2 W) := Lib.hid (Grow.below_of_drew hG)
          have HM := Lib.hid hm4
          have HD := Lib.hid hdl
          have hs1 := IntWalk.i64_in ((N : Int) - (i : Int)) (by have h1 := HLI.out.2.2.2.2.2.2; have h2 := HLI.out.2.2.2.2.1; have h3 := HN.out.1; have h4 := HN.out.2; omega)
          have hs2 := IntWalk.i64_in ((N : Int) - (i : Int) - 1) (by have h1 := HLI.out.2.2.2.2.2.2; have h2 := HLI.out.2.2.2.2.1; have h3 := HN.out.1; have h4 := HN.out.2; omega)
          have hne : ((n4 : Int) != (N : Int) - (i : Int) - 1) = false := by
            have : (n4 : Int) = (N : Int) - (i : Int) - 1 := by omega
            rw [this]
            simp
          clear hm4 hml hdl hG
          go_wp2_with fail
          go_loopw [13] (fun i wr => CAk W n4 i wr) (fun i _ => n4 - (intOf i).toNat)
          case atStart => exact ⟨0, Nat.zero_le _, rfl, Below.refl _ _⟩
          case round =>
            obtain ⟨j, hj, rfl, hbr⟩ := hrel
            have HR := Lib.hid (And.intro hj hbr)
            by_cases hlt : j < n4
            · have hlt' : (j : Int) < (n4 : Int) := by omega
              have hsh : N ≤ 2000 := by have h1 := HLI.out.2.2.2.2.2.2; have h2 := HLI.out.2.2.2.2.1; have h3 := HN.out.1; have h4 := HN.out.2; omega
              have hdd := HD.out
              obtain ⟨IJ, hIJ⟩ : ∃ IJ, IJ = i + 1 + j := ⟨_, rfl⟩
              have hIJN : IJ < N := by omega
              obtain ⟨q4, o4, rfl, _, hmq, hm⟩ := (HM.out.below hbr).row (by omega)
              have hm := hm j hlt
              have hE := H2.out.2.2.below (HW.out.trans (hbr.mono HW.out.size))
              rw [endV_ok HLI.out.1] at hE
              obtain ⟨q5, o5, hq5, _, hlq, hl⟩ := hE.row (by omega)
              obtain ⟨rfl, rfl⟩ : q1 = q5 ∧ o1 = o5 := by
                injection hq5 with hq5
                injection hq5 with e1 e2
                exact ⟨e1, e2⟩
              have hl1 := hl i HLI.out.2.2.1
              have hl2 := hl IJ hIJN
              have hN2 := HLI.out.2.2.2.2.1
              have hM2 : (endsC (cfgOf le mo bi) (b.drop li)).length = n4 := by have := HM.out.len; rwa [endI_length] at this
              rw [endI_at _ _ (by omega)] at hl1 hl2 hm
              rw [← HLI.out.2.2.2.1] at hl1
              obtain ⟨mj, hmj⟩ : ∃ mj, mj = (endsC (cfgOf le mo bi) (b.drop li))[j]?.getD 0 := ⟨_, rfl⟩
              rw [← hmj] at hm
              have he2 : (endsC (cfgOf le mo bi) b)[IJ]?.getD 0 = mj + li := by
                have h1 := congrArg (fun l => l[j]?.getD 0) HLI.out.2.1
                simp only [List.getElem?_drop, List.getElem?_map] at h1
                rw [hIJ, h1, hmj, List.getElem?_eq_getElem (by omega)]
                rfl
              rw [he2] at hl2
              obtain ⟨e2, hee⟩ : ∃ e2, e2 = mj + li := ⟨_, rfl⟩
              rw [← hee] at hl2
              have hle : e2 ≤ 2000 := by
                have h1 := endsC_le (cfgOf le mo bi) b e2 (by
                  rw [hee, ← he2, List.getElem?_eq_getElem (by omega)]
                  exact List.getElem_mem _)
                have h2 := HN.out.1
                have h3 := HN.out.2
                omega
              have hsum : IntKind.i64.wrap ((mj : Int) + (li : Int)) = (e2 : Int) := by rw [IntWalk.i64_in _ (by omega)]; omega
              have hi1 := IntWalk.i64_in ((i : Int) + 1) (by omega)
              have hij : IntKind.i64.wrap ((i : Int) + 1 + (j : Int)) = (IJ : Int) := by rw [IntWalk.i64_in _ (by omega)]; omega
              have hj1 := IntWalk.i64_in ((j : Int) + 1) (by omega)
              have hIJ' : (IJ : Int) < (N : Int) := by omega
              have HC2 : Hid (∀ V, Below wr.drew.heap.size wr.drew V → V.cell? ⟨q4, o4 + j, none⟩ = some (.int .i64 (mj : Int)) ∧ V.cell? ⟨q1, o1 + i, none⟩ = some (.int .i64 (li : Int)) ∧ V.cell? ⟨q1, o1 + IJ, none⟩ = some (.int .i64 (e2 : Int))) := Lib.hid fun V hV => by
                have hV2 : Below wr.heap.size wr V := Grow.below_of_drew hV
                exact ⟨(hV2.cell (p := ⟨_, _, none⟩) hmq).trans hm, (hV2.cell (p := ⟨_, _, none⟩) hlq).trans hl1, (hV2.cell (p := ⟨_, _, none⟩) hlq).trans hl2⟩
              clear hj hbr hsh hdd hIJ hIJN hm hE hl hl1 hl2 hN2 hM2 hmj he2 hee hle hmq hlq hq5
              go_wp2_with fail
              refine wp_region_grow (fun W W' => Below W.heap.size W W') (Grow.nth [fun v _ => v = .slice (some ⟨q4, o4, none⟩) n4 c4, fun v _ => v = .int .i64 (j : Int), fun v _ => v = .pointer (some ⟨q4, o4 + j, none⟩), fun v _ => v = .int .i64 (mj : Int), fun v _ => v = .slice (some ⟨q1, o1, none⟩) N c1, fun v _ => v = .int .i64 (i : Int), fun v _ => v = .pointer (some ⟨q1, o1 + i, none⟩), fun v _ => v = .int .i64 (li : Int), fun v _ => v = .int .i64 (e2 : Int), fun v _ => v = .slice (some ⟨q1, o1, none⟩) N c1, fun v _ => v = .int .i64 (i : Int), fun v _ => v = .int .i64 ((i : Int) + 1), fun v _ => v = .int .i64 (j : Int), fun v _ => v = .int .i64 (IJ : Int), fun v _ => v = .pointer (some ⟨q1, o1 + IJ, none⟩), fun v _ => v = .int .i64 (e2 : Int), fun v _ => v = .bool false]) 91 (by kernel_rfl) (by kernel_rfl) (by rfl) (fun W => Below.refl _ W) (fun _ _ _ h1 h2 => h1.trans (h2.mono h1.size)) (Grow.mono_nth ?gmono) ?gsteps ?gfin
              case gmono => exact ⟨fun _ _ _ h _ => h, fun _ _ _ h _ => h, fun _ _ _ h _ => h, fun _ _ _ h _ => h, fun _ _ _ h _ => h, fun _ _ _ h _ => h, fun _ _ _ h _ => h, fun _ _ _ h _ => h, fun _ _ _ h _ => h, fun _ _ _ h _ => h, fun _ _ _ h _ => h, fun _ _ _ h _ => h, fun _ _ _ h _ => h, fun _ _ _ h _ => h, fun _ _ _ h _ => h, fun _ _ _ h _ => h, fun _ _ _ h _ => h, trivial⟩
              case gsteps =>
                show Grow.allBelow _ 17
                refine And.intro ?_ ?s16
                refine And.intro ?_ ?s15
                refine And.intro ?_ ?s14
                refine And.intro ?_ ?s13
                refine And.intro ?_ ?s12
                refine And.intro ?_ ?s11
                refine And.intro ?_ ?s10
                refine And.intro ?_ ?s9
                refine And.intro ?_ ?s8
                refine And.intro ?_ ?s7
                refine And.intro ?_ ?s6
                refine And.intro ?_ ?s5
                refine And.intro ?_ ?s4
                refine And.intro ?_ ?s3
                refine And.intro ?_ ?s2
                refine And.intro ?_ ?s1
                refine And.intro ?_ ?s0
                exact trivial
                case s0 =>
                  refine Grow.step_in (by rfl) (by rfl) ?_
                  intro E W ec eg ef hG hd hu R HR
                  have e11 : E (.tmp 11) = .slice (some ⟨q4, o4, none⟩) n4 c4 := hu 11 (by kernel_rfl)
                  clear hd hu
                  go_simp
                  exact HR.out _ _ (Below.refl _ _) rfl
                case s1 =>
                  refine Grow.step_in (by rfl) (by rfl) ?_
                  intro E W ec eg ef hG hd hu R HR
                  have e13 : E (.tmp 13) = .int .i64 (j : Int) := hu 13 (by kernel_rfl)
                  clear hd hu
                  go_simp
                  exact HR.out _ _ (Below.refl _ _) rfl
                case s2 =>
                  refine Grow.step_in (by rfl) (by rfl) ?_
                  intro E W ec eg ef hG hd hu R HR
                  have e74 : E (.tmp 74) = .slice (some ⟨q4, o4, none⟩) n4 c4 := hd 0 74 (by kernel_rfl)
                  have e75 : E (.tmp 75) = .int .i64 (j : Int) := hd 1 75 (by kernel_rfl)
                  clear hd hu
                  go_simp
                  first | exact HR.out _ _ (Below.refl _ _) rfl | (rw [if_pos ⟨by omega, by omega⟩]; exact HR.out _ _ (Below.refl _ _) rfl) | (rw [if_pos (by omega)]; exact HR.out _ _ (Below.refl _ _) rfl)
                case s3 =>
                  refine Grow.step_in (by rfl) (by rfl) ?_
                  intro E W ec eg ef hG hd hu R HR
                  have e76 : E (.tmp 76) = .pointer (some ⟨q4, o4 + j, none⟩) := hd 2 76 (by kernel_rfl)
                  clear hd hu
                  obtain ⟨k1, k2, k3⟩ := HC2.out W hG
                  go_simp
                  exact HR.out _ _ (Below.refl _ _) rfl
                case s4 =>
                  refine Grow.step_in (by rfl) (by rfl) ?_
                  intro E W ec eg ef hG hd hu R HR
                  have e8 : E (.tmp 8) = .slice (some ⟨q1, o1, none⟩) N c1 := hu 8 (by kernel_rfl)
                  clear hd hu
                  go_simp
                  exact HR.out _ _ (Below.refl _ _) rfl
                case s5 =>
                  refine Grow.step_in (by rfl) (by rfl) ?_
                  intro E W ec eg ef hG hd hu R HR
                  have e10 : E (.tmp 10) = .int .i64 (i : Int) := hu 10 (by kernel_rfl)
                  clear hd hu
                  go_simp
                  exact HR.out _ _ (Below.refl _ _) rfl
                case s6 =>
                  refine Grow.step_in (by rfl) (by rfl) ?_
                  intro E W ec eg ef hG hd hu R HR
                  have e78 : E (.tmp 78) = .slice (some ⟨q1, o1, none⟩) N c1 := hd 4 78 (by kernel_rfl)
                  have e79 : E (.tmp 79) = .int .i64 (i : Int) := hd 5 79 (by kernel_rfl)
                  clear hd hu
                  go_simp
                  first | exact HR.out _ _ (Below.refl _ _) rfl | (rw [if_pos ⟨by omega, by omega⟩]; exact HR.out _ _ (Below.refl _ _) rfl) | (rw [if_pos (by omega)]; exact HR.out _ _ (Below.refl _ _) rfl)
                case s7 =>
                  refine Grow.step_in (by rfl) (by rfl) ?_
                  intro E W ec eg ef hG hd hu R HR
                  have e80 : E (.tmp 80) = .pointer (some ⟨q1, o1 + i, none⟩) := hd 6 80 (by kernel_rfl)
                  clear hd hu
                  obtain ⟨k1, k2, k3⟩ := HC2.out W hG
                  go_simp
                  exact HR.out _ _ (Below.refl _ _) rfl
                case s8 =>
                  refine Grow.step_in (by rfl) (by rfl) ?_
                  intro E W ec eg ef hG hd hu R HR
                  have e77 : E (.tmp 77) = .int .i64 (mj : Int) := hd 3 77 (by kernel_rfl)
                  have e81 : E (.tmp 81) = .int .i64 (li : Int) := hd 7 81 (by kernel_rfl)
                  clear hd hu
                  go_simp
                  exact HR.out _ _ (Below.refl _ _) rfl
                case s9 =>
                  refine Grow.step_in (by rfl) (by rfl) ?_
                  intro E W ec eg ef hG hd hu R HR
                  have e8 : E (.tmp 8) = .slice (some ⟨q1, o1, none⟩) N c1 := hu 8 (by kernel_rfl)
                  clear hd hu
                  go_simp
                  exact HR.out _ _ (Below.refl _ _) rfl
                case s10 =>
                  refine Grow.step_in (by rfl) (by rfl) ?_
                  intro E W ec eg ef hG hd hu R HR
                  have e10 : E (.tmp 10) = .int .i64 (i : Int) := hu 10 (by kernel_rfl)
                  clear hd hu
                  go_simp
                  exact HR.out _ _ (Below.refl _ _) rfl
                case s11 =>
                  refine Grow.step_in (by rfl) (by rfl) ?_
                  intro E W ec eg ef hG hd hu R HR
                  have e84 : E (.tmp 84) = .int .i64 (i : Int) := hd 10 84 (by kernel_rfl)
                  clear hd hu
                  go_simp
                  exact HR.out _ _ (Below.refl _ _) rfl
                case s12 =>
                  refine Grow.step_in (by rfl) (by rfl) ?_
                  intro E W ec eg ef hG hd hu R HR
                  have e13 : E (.tmp 13) = .int .i64 (j : Int) := hu 13 (by kernel_rfl)
                  clear hd hu
                  go_simp
                  exact HR.out _ _ (Below.refl _ _) rfl
                case s13 =>
                  refine Grow.step_in (by rfl) (by rfl) ?_
                  intro E W ec eg ef hG hd hu R HR
                  have e85 : E (.tmp 85) = .int .i64 ((i : Int) + 1) := hd 11 85 (by kernel_rfl)
                  have e86 : E (.tmp 86) = .int .i64 (j : Int) := hd 12 86 (by kernel_rfl)
                  clear hd hu
                  go_simp
                  exact HR.out _ _ (Below.refl _ _) rfl
                case s14 =>
                  refine Grow.step_in (by rfl) (by rfl) ?_
                  intro E W ec eg ef hG hd hu R HR
                  have e83 : E (.tmp 83) = .slice (some ⟨q1, o1, none⟩) N c1 := hd 9 83 (by kernel_rfl)
                  have e87 : E (.tmp 87) = .int .i64 (IJ : Int) := hd 13 87 (by kernel_rfl)
                  clear hd hu
                  go_simp
                  first | exact HR.out _ _ (Below.refl _ _) rfl | (rw [if_pos ⟨by omega, by omega⟩]; exact HR.out _ _ (Below.refl _ _) rfl) | (rw [if_pos (by omega)]; exact HR.out _ _ (Below.refl _ _) rfl)
                case s15 =>
                  refine Grow.step_in (by rfl) (by rfl) ?_
                  intro E W ec eg ef hG hd hu R HR
                  have e88 : E (.tmp 88) = .pointer (some ⟨q1, o1 + IJ, none⟩) := hd 14 88 (by kernel_rfl)
                  clear hd hu
                  obtain ⟨k1, k2, k3⟩ := HC2.out W hG
                  go_simp
                  exact HR.out _ _ (Below.refl _ _) rfl
                case s16 =>
                  refine Grow.step_in (by rfl) (by rfl) ?_
                  intro E W ec eg ef hG hd hu R HR
                  have e82 : E (.tmp 82) = .int .i64 (e2 : Int) := hd 8 82 (by kernel_rfl)
                  have e89 : E (.tmp 89) = .int .i64 (e2 : Int) := hd 15 89 (by kernel_rfl)
                  clear hd hu
                  go_simp
                  exact HR.out _ _ (Below.refl _ _) rfl
              case gfin =>
                intro W_1 hG
                refine Grow.fin_dst (by rfl) ?_
                rintro _ rfl
                refine Grow.fin_dst (by rfl) ?_
                rintro _ rfl
                refine Grow.fin_dst (by rfl) ?_
                rintro _ rfl
                refine Grow.fin_dst (by rfl) ?_
                rintro _ rfl
                refine Grow.fin_dst (by rfl) ?_
                rintro _ rfl
                refine Grow.fin_dst (by rfl) ?_
                rintro _ rfl
                refine Grow.fin_dst (by rfl) ?_
                rintro _ rfl
                refine Grow.fin_dst (by rfl) ?_
                rintro _ rfl
                refine Grow.fin_dst (by rfl) ?_
                rintro _ rfl
                refine Grow.fin_dst (by rfl) ?_
                rintro _ rfl
                refine Grow.fin_dst (by rfl) ?_
                rintro _ rfl
                refine Grow.fin_dst (by rfl) ?_
                rintro _ rfl
                refine Grow.fin_dst (by rfl) ?_
                rintro _ rfl
                refine Grow.fin_dst (by rfl) ?_
                rintro _ rfl
                refine Grow.fin_dst (by rfl) ?_
                rintro _ rfl
                refine Grow.fin_dst (by rfl) ?_
                rintro _ rfl
                refine Grow.fin_dst (by rfl) ?_
                rintro _ rfl
                simp only [Act.put, List.setIfInBounds_toArray, List.set_cons_zero, List.set_cons_succ]
                refine Grow.fin_end ?_
                have HB2 : Hid (Below W.heap.size W W_1) := Lib.hid (HR.out.2.trans ((Grow.below_of_drew hG).mono HR.out.2.size))
                clear hG
                go_wp2_with fail
                go_roundw
                case rel => unfold CAk; exact ⟨j + 1, by omega, by simp, HB2.out⟩
                case measure => simp only [intOf]; omega
            · have hlt' : ¬ (j : Int) < (n4 : Int) := by omega
              have HF := Lib.hid (H2.out.1.trans ((HW.out.trans (hbr.mono HW.out.size)).mono H2.out.1.size))
              clear hj hbr
              go_wp2_with fail
              go_ret
              exact ⟨rfl, HF.out⟩
    · have hv' : (V != 0) = true := by simpa using hv
      clear hv
      go_wp2_with fail
      go_ret
      exact ⟨rfl, H2.out.1⟩
  · have h1' : (2000 : Int) < (n : Int) := by omega
    clear h1 hln hkb
    go_enter Try.func5, Try.ntmps5
    go_wp2_with (go_at_call 8; refine haw.mono ?_; clear haw; rintro _ w1 ⟨rfl, hb1⟩)
    go_ret
    exact ⟨rfl, H0.out.1.trans (hb1.mono H0.out.1.size)⟩
end Go.Proofs.Ytcmdiclbbcdceaa
