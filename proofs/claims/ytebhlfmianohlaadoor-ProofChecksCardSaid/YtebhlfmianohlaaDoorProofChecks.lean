/-
  The statement ProofChecks: its walk.
-/
import Derived.Test.YtebhlfmianohlaaDoorProofAwake
import Derived.Test.YtebhlfmianohlaaDoorProofRefCheck
namespace Go.Proofs.YtebhlfmianohlaaDoor
open Go.RowKit

set_option maxHeartbeats 4000000 in
set_option maxRecDepth 100000 in
theorem walk_checks {w : World} (root : List UInt8) (hroot : root.length = 32) {n i : Int} (hn0 : (Lit.int .i64 n).wf = true) (_hi0 : (Lit.int .i64 i).wf = true) {S T : Nat → Prop} {A Aw : Option Addr} {nl cl nw cw : Nat} {leaf : List UInt8} {way : List (List UInt8)} (hleaf : Byt w S A nl cl leaf) (hids : Ids w T Aw nw cw way) (ht : Tab w) :
    Calls Tryd.prog 4 #[.agg (row8 root), .int .i64 n, .int .i64 i, .slice A nl cl, .slice Aw nw cw] w fun e w' => e = .returned (.bool true) ∧ Below w.heap.size w w' := by
  have hn : n < 9223372036854775808 := by have := bounds_i64 hn0; omega
  obtain ⟨OS, hOS⟩ : ∃ OS, OS = row8 root := ⟨_, rfl⟩
  rw [← hOS]
  have HOS : Hid (OS = row8 root ∧ OS.size = 32 ∧ root.length = 32) := Lib.hid ⟨hOS, by rw [hOS, row8_size, hroot], hroot⟩
  have hb0 : Below w.heap.size w (w.alloc (.cells OS 31)) := (Below.refl _ _).alloc (Nat.le_refl _) _
  have haw := pawake_true (ht.below (hb0.mono (Nat.le_refl _)))
  have H0 := Lib.hid (And.intro hb0 (heap_alloc_new w (.cells OS 31)))
  have HH := Lib.hid (And.intro hleaf (And.intro hids (And.intro ht hn)))
  have hll := hleaf.len
  clear hOS hroot hn0 _hi0 hb0 hleaf hids ht hn
  by_cases h1 : nl ≤ 100
  · have h1' : ¬ (100 : Int) < (nl : Int) := by omega
    by_cases h2 : nw ≤ 70
    · have h2' : ¬ (70 : Int) < (nw : Int) := by omega
      have HL : Hid (leaf.length ≤ 1000) := Lib.hid (by omega)
      clear hll
      go_enter Tryd.func4, Tryd.ntmps4
      go_wp2_with (go_at_call 9; refine haw.mono ?_; clear haw; rintro _ w1 ⟨rfl, hb1⟩)
      have hb2 := H0.out.1.trans (hb1.mono H0.out.1.size)
      have HW : Hid (Below w.heap.size w w1 ∧ w1.drew.heap[w.heap.size]? = some (.cells OS 31 (0, 0)) ∧ Byt w1.drew S A nl cl leaf ∧ Ids w1.drew T Aw nw cw way ∧ Tab w1.drew) := Lib.hid ⟨hb2, (hb1.block _ (lt_of_cells H0.out.2)).trans H0.out.2, (HH.out.1.below hb2).drew, (HH.out.2.1.below hb2).drew, (HH.out.2.2.1.below hb2).drew⟩
      obtain ⟨V, hV⟩ : ∃ V, V = checkL root n i leaf way := ⟨_, rfl⟩
      have HV := Lib.hid hV
      clear hV hb1 hb2 H0
      go_wp2_with fail
      refine wp_region_grow (fun W W' => Below W.heap.size W W') (Grow.nth [fun v _ => v = .agg OS, fun v _ => v = .int .i64 n, fun v _ => v = .int .i64 i, fun v _ => v = .slice A nl cl, fun v _ => v = .slice Aw nw cw, fun v _ => v = .int .i64 V, fun v _ => v = .agg OS, fun v _ => v = .int .i64 n, fun v _ => v = .int .i64 i, fun v _ => v = .slice A nl cl, fun v _ => v = .string (st leaf), fun v _ => v = .slice Aw nw cw, fun v _ => v = .int .i64 V, fun v _ => v = .bool true, fun v _ => v = .bool true]) 37 (by kernel_rfl) (by kernel_rfl) (by rfl) (fun W => Below.refl _ W) (fun _ _ _ h1 h2 => h1.trans (h2.mono h1.size)) (Grow.mono_nth ?gmono) ?gsteps ?gfin
      case gmono => exact ⟨fun _ _ _ h _ => h, fun _ _ _ h _ => h, fun _ _ _ h _ => h, fun _ _ _ h _ => h, fun _ _ _ h _ => h, fun _ _ _ h _ => h, fun _ _ _ h _ => h, fun _ _ _ h _ => h, fun _ _ _ h _ => h, fun _ _ _ h _ => h, fun _ _ _ h _ => h, fun _ _ _ h _ => h, fun _ _ _ h _ => h, fun _ _ _ h _ => h, fun _ _ _ h _ => h, trivial⟩
      case gsteps =>
        show Grow.allBelow _ 15
        refine And.intro ?_ ?s14
        refine And.intro ?_ ?s13
        refine And.intro ?_ ?s12
        refine And.intro ?_ ?s11
        refine And.intro ?_ ?s10
        refine And.intro ?_ ?s9
        refine And.intro ?_ ?s8
        refine And.intro ?_ ?s7
        refine And.intro ?_ ?s6
        refine And.intro ?_ ?s5
        refine And.intro ?_ ?s4
        refine And.intro ?_ ?s3
        refine And.intro ?_ ?s2
        refine And.intro ?_ ?s1
        refine And.intro ?_ ?s0
        exact trivial
        case s0 =>
          refine Grow.step_in (by rfl) (by rfl) ?_
          intro E W ec eg ef hG hd hu R HR
          have e5 : E (.tmp 5) = .pointer (some ⟨w.heap.size, 0, none⟩) := hu 5 (by kernel_rfl)
          clear hd hu
          exact runs_load 31 (.tmp 5) rfl (w.heap.size) e5 OS (0, 0) ((hG.block _ (lt_of_cells HW.out.2.1)).trans HW.out.2.1) Tryd.underlying31 (by rw [HOS.out.2.1]; exact id_info) (HR.out _ _ (Below.refl _ _) rfl)
        case s1 =>
          refine Grow.step_in (by rfl) (by rfl) ?_
          intro E W ec eg ef hG hd hu R HR
          have e1 : E (.tmp 1) = .int .i64 n := hu 1 (by kernel_rfl)
          clear hd hu
          go_simp
          exact HR.out _ _ (Below.refl _ _) rfl
        case s2 =>
          refine Grow.step_in (by rfl) (by rfl) ?_
          intro E W ec eg ef hG hd hu R HR
          have e2 : E (.tmp 2) = .int .i64 i := hu 2 (by kernel_rfl)
          clear hd hu
          go_simp
          exact HR.out _ _ (Below.refl _ _) rfl
        case s3 =>
          refine Grow.step_in (by rfl) (by rfl) ?_
          intro E W ec eg ef hG hd hu R HR
          have e3 : E (.tmp 3) = .slice A nl cl := hu 3 (by kernel_rfl)
          clear hd hu
          go_simp
          exact HR.out _ _ (Below.refl _ _) rfl
        case s4 =>
          refine Grow.step_in (by rfl) (by rfl) ?_
          intro E W ec eg ef hG hd hu R HR
          have e4 : E (.tmp 4) = .slice Aw nw cw := hu 4 (by kernel_rfl)
          clear hd hu
          go_simp
          exact HR.out _ _ (Below.refl _ _) rfl
        case s5 =>
          refine Grow.step_in (by rfl) (by rfl) ?_
          intro E W ec eg ef hG hd hu R HR
          have e23 : E (.tmp 23) = .agg OS := hd 0 23 (by kernel_rfl)
          have e24 : E (.tmp 24) = .int .i64 n := hd 1 24 (by kernel_rfl)
          have e25 : E (.tmp 25) = .int .i64 i := hd 2 25 (by kernel_rfl)
          have e26 : E (.tmp 26) = .slice A nl cl := hd 3 26 (by kernel_rfl)
          have e27 : E (.tmp 27) = .slice Aw nw cw := hd 4 27 (by kernel_rfl)
          clear hd hu
          go_simp
          rw [HOS.out.1]
          refine (check_any root HOS.out.2.2 n i HH.out.2.2.2 (HW.out.2.2.1.below hG) (HW.out.2.2.2.1.below hG) (HW.out.2.2.2.2.below hG)).mono ?_
          rintro _ w' ⟨rfl, hb⟩
          exact ⟨_, rfl, HR.out _ _ hb (show Value.int _ _ = Value.int _ V by rw [HV.out])⟩
        case s6 =>
          refine Grow.step_in (by rfl) (by rfl) ?_
          intro E W ec eg ef hG hd hu R HR
          have e5 : E (.tmp 5) = .pointer (some ⟨w.heap.size, 0, none⟩) := hu 5 (by kernel_rfl)
          clear hd hu
          exact runs_load 31 (.tmp 5) rfl (w.heap.size) e5 OS (0, 0) ((hG.block _ (lt_of_cells HW.out.2.1)).trans HW.out.2.1) Tryd.underlying31 (by rw [HOS.out.2.1]; exact id_info) (HR.out _ _ (Below.refl _ _) rfl)
        case s7 =>
          refine Grow.step_in (by rfl) (by rfl) ?_
          intro E W ec eg ef hG hd hu R HR
          have e1 : E (.tmp 1) = .int .i64 n := hu 1 (by kernel_rfl)
          clear hd hu
          go_simp
          exact HR.out _ _ (Below.refl _ _) rfl
        case s8 =>
          refine Grow.step_in (by rfl) (by rfl) ?_
          intro E W ec eg ef hG hd hu R HR
          have e2 : E (.tmp 2) = .int .i64 i := hu 2 (by kernel_rfl)
          clear hd hu
          go_simp
          exact HR.out _ _ (Below.refl _ _) rfl
        case s9 =>
          refine Grow.step_in (by rfl) (by rfl) ?_
          intro E W ec eg ef hG hd hu R HR
          have e3 : E (.tmp 3) = .slice A nl cl := hu 3 (by kernel_rfl)
          clear hd hu
          go_simp
          exact HR.out _ _ (Below.refl _ _) rfl
        case s10 =>
          refine Grow.step_in (by rfl) (by rfl) ?_
          intro E W ec eg ef hG hd hu R HR
          have e32 : E (.tmp 32) = .slice A nl cl := hd 9 32 (by kernel_rfl)
          clear hd hu
          have hs := byt_string (HW.out.2.2.1.below hG)
          go_simp
          exact HR.out _ _ (Below.refl _ _) rfl
        case s11 =>
          refine Grow.step_in (by rfl) (by rfl) ?_
          intro E W ec eg ef hG hd hu R HR
          have e4 : E (.tmp 4) = .slice Aw nw cw := hu 4 (by kernel_rfl)
          clear hd hu
          go_simp
          exact HR.out _ _ (Below.refl _ _) rfl
        case s12 =>
          refine Grow.step_in (by rfl) (by rfl) ?_
          intro E W ec eg ef hG hd hu R HR
          have e29 : E (.tmp 29) = .agg OS := hd 6 29 (by kernel_rfl)
          have e30 : E (.tmp 30) = .int .i64 n := hd 7 30 (by kernel_rfl)
          have e31 : E (.tmp 31) = .int .i64 i := hd 8 31 (by kernel_rfl)
          have e33 : E (.tmp 33) = .string (st leaf) := hd 10 33 (by kernel_rfl)
          have e34 : E (.tmp 34) = .slice Aw nw cw := hd 11 34 (by kernel_rfl)
          clear hd hu
          go_simp
          rw [HOS.out.1]
          refine (rcheck_any root HOS.out.2.2 n i HH.out.2.2.2 HL.out (HW.out.2.2.2.1.below hG)).mono ?_
          rintro _ w' ⟨rfl, hb⟩
          exact ⟨_, rfl, HR.out _ _ hb (show Value.int _ _ = Value.int _ V by rw [HV.out])⟩
        case s13 =>
          refine Grow.step_in (by rfl) (by rfl) ?_
          intro E W ec eg ef hG hd hu R HR
          have e28 : E (.tmp 28) = .int .i64 V := hd 5 28 (by kernel_rfl)
          have e35 : E (.tmp 35) = .int .i64 V := hd 12 35 (by kernel_rfl)
          clear hd hu
          go_simp
          exact HR.out _ _ (Below.refl _ _) rfl
        case s14 =>
          refine Grow.step_in (by rfl) (by rfl) ?_
          intro E W ec eg ef hG hd hu R HR
          have e36 : E (.tmp 36) = .bool true := hd 13 36 (by kernel_rfl)
          clear hd hu
          go_simp
          exact HR.out _ _ (Below.refl _ _) rfl
      case gfin =>
        intro W hG
        refine Grow.fin_dst (by rfl) ?_
        rintro _ rfl
        refine Grow.fin_dst (by rfl) ?_
        rintro _ rfl
        refine Grow.fin_dst (by rfl) ?_
        rintro _ rfl
        refine Grow.fin_dst (by rfl) ?_
        rintro _ rfl
        refine Grow.fin_dst (by rfl) ?_
        rintro _ rfl
        refine Grow.fin_dst (by rfl) ?_
        rintro _ rfl
        refine Grow.fin_dst (by rfl) ?_
        rintro _ rfl
        refine Grow.fin_dst (by rfl) ?_
        rintro _ rfl
        refine Grow.fin_dst (by rfl) ?_
        rintro _ rfl
        refine Grow.fin_dst (by rfl) ?_
        rintro _ rfl
        refine Grow.fin_dst (by rfl) ?_
        rintro _ rfl
        refine Grow.fin_dst (by rfl) ?_
        rintro _ rfl
        refine Grow.fin_dst (by rfl) ?_
        rintro _ rfl
        refine Grow.fin_dst (by rfl) ?_
        rintro _ rfl
        refine Grow.fin_dst (by rfl) ?_
        rintro _ rfl
        simp only [Act.put, List.setIfInBounds_toArray, List.set_cons_zero, List.set_cons_succ]
        refine Grow.fin_end ?_
        have HBW := Lib.hid (HW.out.1.trans ((Grow.below_of_drew hG).mono HW.out.1.size))
        clear hG
        go_wp2_with fail
        go_ret
        exact ⟨rfl, HBW.out⟩
    · have h2' : (70 : Int) < (nw : Int) := by omega
      go_enter Tryd.func4, Tryd.ntmps4
      go_wp2_with (go_at_call 9; refine haw.mono ?_; clear haw; rintro _ w1 ⟨rfl, hb1⟩)
      go_ret
      exact ⟨rfl, H0.out.1.trans (hb1.mono H0.out.1.size)⟩
  · have h1' : (100 : Int) < (nl : Int) := by omega
    go_enter Tryd.func4, Tryd.ntmps4
    go_wp2_with (go_at_call 9; refine haw.mono ?_; clear haw; rintro _ w1 ⟨rfl, hb1⟩)
    go_ret
    exact ⟨rfl, H0.out.1.trans (hb1.mono H0.out.1.size)⟩
end Go.Proofs.YtebhlfmianohlaaDoor
