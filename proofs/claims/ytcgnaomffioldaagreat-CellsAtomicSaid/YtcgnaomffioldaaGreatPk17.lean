/-
  Cells: which half counts; the changes behind a record of all, done.
-/
import Derived.Test.YtcgnaomffioldaaGreatPk16
import Derived.Test.YtcgnaomffioldaaGreatPk14
/-! Cells: which half counts; the changes behind a record of all, done. -/
namespace Go.Proofs.YtcgnaomffioldaaGreat
open Go.RowKit Codec

/-- The two halves' cells. -/
def h2V (q0 : Nat) (c0 : Bool) (v0 s0 : Value) (q1 : Nat) (c1 : Bool) (v1 s1 : Value) : Array Value := #[.pointer (some ⟨q0, 0, none⟩), .bool c0, v0, s0, .pointer (some ⟨q1, 0, none⟩), .bool c1, v1, s1]
/-- Where it stands. -/
def CntR (w1 : World) (c0 c1 : Bool) (f0 f1 : Nat) (at_ i : Value) (wr : World) : Prop :=
  Below w1.heap.size w1 wr ∧ ((i = .int .i64 0 ∧ at_ = .int .i64 (-1)) ∨ (i = .int .i64 1 ∧ at_ = .int .i64 (if c0 then 0 else -1)) ∨ (i = .int .i64 2 ∧ at_ = .int .i64 (cntM c0 c1 f0 f1)))
set_option maxHeartbeats 8000000 in
set_option maxRecDepth 100000 in
theorem counting_any {w : World} {S0 S1 : Nat → Prop} {q0 q1 g : Nat} {m0 m1 : LM} (h0 : Lg w S0 q0 g m0) (h1 : Lg w S1 q1 g m1) (c0 c1 : Bool) (b0 b1 : Option Nat) (A0 A1 : Option Addr) (n0 n1 k0 k1 : Nat) :
    Calls Tryz.prog 29 #[.agg (h2V q0 c0 (.map b0) (.slice A0 n0 k0) q1 c1 (.map b1) (.slice A1 n1 k1))] w fun e w' => e = .returned (.int .i64 (cntM c0 c1 m0.first m1.first)) ∧ Below w.heap.size w w' := by
  have hal : Below w.heap.size w (w.alloc (.cells #[.pointer (some ⟨q0, 0, none⟩), .bool c0, .map b0, .slice A0 n0 k0, .pointer (some ⟨q1, 0, none⟩), .bool c1, .map b1, .slice A1 n1 k1] 80)) := (Below.refl _ _).alloc (Nat.le_refl _) _
  have hnew := heap_alloc_new w (.cells #[.pointer (some ⟨q0, 0, none⟩), .bool c0, .map b0, .slice A0 n0 k0, .pointer (some ⟨q1, 0, none⟩), .bool c1, .map b1, .slice A1 n1 k1] 80)
  have HAL := Lib.hid (And.intro hal hnew)
  have HLG := Lib.hid (And.intro (h0.below hal) (h1.below hal))
  have hzh := zero_half
  unfold h2V
  clear h0 h1 hal hnew
  have hi0 : ∀ W, (Instr.index 80 (.agg #[.pointer (some ⟨q0, 0, none⟩), .bool c0, .map b0, .slice A0 n0 k0, .pointer (some ⟨q1, 0, none⟩), .bool c1, .map b1, .slice A1 n1 k1]) (.int .i64 0)).run Tryz.prog W = .ok (.agg #[.pointer (some ⟨q0, 0, none⟩), .bool c0, .map b0, .slice A0 n0 k0]) W := fun W => by kernel_rfl
  have hi1 : ∀ W, (Instr.index 80 (.agg #[.pointer (some ⟨q0, 0, none⟩), .bool c0, .map b0, .slice A0 n0 k0, .pointer (some ⟨q1, 0, none⟩), .bool c1, .map b1, .slice A1 n1 k1]) (.int .i64 1)).run Tryz.prog W = .ok (.agg #[.pointer (some ⟨q1, 0, none⟩), .bool c1, .map b1, .slice A1 n1 k1]) W := fun W => by kernel_rfl
  go_enter Tryz.func29, Tryz.ntmps29
  go_upto_region 2 with fail
  generalize w.alloc (.cells #[.pointer (some ⟨q0, 0, none⟩), .bool c0, .map b0, .slice A0 n0 k0, .pointer (some ⟨q1, 0, none⟩), .bool c1, .map b1, .slice A1 n1 k1] 80) = w1 at *
  go_upto_region 3 with (refine wpList_load_row (by rfl) 80 (.tmp 1) (by rfl) w.heap.size (by rfl) 80 #[.pointer (some ⟨q0, 0, none⟩), .bool c0, .map b0, .slice A0 n0 k0, .pointer (some ⟨q1, 0, none⟩), .bool c1, .map b1, .slice A1 n1 k1] (0, 0) _ HAL.out.2 Tryz.underlying80 (by rfl) half2_info ?_)
  have H0 : Hid (CntR w1 c0 c1 m0.first m1.first (.int .i64 (-1)) (.int .i64 0) w1) := Lib.hid ⟨Below.refl _ _, .inl ⟨rfl, rfl⟩⟩
  go_loopw [3, 7] (fun at_ i wr => CntR w1 c0 c1 m0.first m1.first at_ i wr) (fun _ i _ => 2 - (intOf i).toNat)
  case atStart => exact H0.out
  case round =>
    obtain ⟨hb, hr⟩ := hrel
    clear H0
    have HB := Lib.hid hb
    clear hb
    rcases hr with ⟨rfl, rfl⟩ | ⟨rfl, rfl⟩ | ⟨rfl, rfl⟩
    · skip
      cases c0
      · go_upto_region 5 with fail
        have hd5 : Below wr.heap.size wr (wr.alloc (.cells #[.pointer (some ⟨q0, 0, none⟩), .bool false, .map b0, .slice A0 n0 k0] 79)) := (Below.refl _ _).alloc (Nat.le_refl _) _
        have hn5 := heap_alloc_new wr (.cells #[.pointer (some ⟨q0, 0, none⟩), .bool false, .map b0, .slice A0 n0 k0] 79)
        have hs5 : wr.heap.size < (wr.alloc (.cells #[.pointer (some ⟨q0, 0, none⟩), .bool false, .map b0, .slice A0 n0 k0] 79)).heap.size := by simp
        have H5 := Lib.hid (And.intro hd5 (And.intro hn5 (And.intro hs5 (HB.out.trans (hd5.mono HB.out.size)))))
        clear hd5 hn5 hs5
        generalize wr.alloc (.cells #[.pointer (some ⟨q0, 0, none⟩), .bool false, .map b0, .slice A0 n0 k0] 79) = w5 at *
        have HC : Hid (wr.heap.size < w5.drew.heap.size ∧ w5.drew.cell? ⟨wr.heap.size, 0, none⟩ = some (.pointer (some ⟨q0, 0, none⟩)) ∧ w5.drew.cell? ⟨wr.heap.size, 1, none⟩ = some (.bool false) ∧ w.heap.size < w5.drew.heap.size ∧ w5.drew.cell? ⟨w.heap.size, 0, none⟩ = some (.pointer (some ⟨q0, 0, none⟩)) ∧
            (∀ W, Below w5.drew.heap.size w5.drew W → Calls Tryz.prog 55 #[.pointer (some ⟨q0, 0, none⟩)] W fun e w' => e = .returned (.int .u64 (m0.first : Int)) ∧ W = w') ∧
            (∀ W, Below w5.drew.heap.size w5.drew W → Calls Tryz.prog 55 #[.pointer (some ⟨q1, 0, none⟩)] W fun e w' => e = .returned (.int .u64 (m1.first : Int)) ∧ W = w')) :=
          Lib.hid ⟨H5.out.2.2.1, cell_of_cells (w := w5.drew) H5.out.2.1 0, cell_of_cells (w := w5.drew) H5.out.2.1 1, Nat.lt_of_lt_of_le (lt_of_cells HAL.out.2) H5.out.2.2.2.size,
            cell_of_cells (w := w5.drew) ((H5.out.2.2.2.block _ (lt_of_cells HAL.out.2)).trans HAL.out.2) 0, fun W hb => wfirst_any ((HLG.out.1.below H5.out.2.2.2).drew.below hb), fun W hb => wfirst_any ((HLG.out.2.below H5.out.2.2.2).drew.below hb)⟩
        refine wp_region_grow (fun W W' => Below W.heap.size W W') (Grow.nth [fun v _ => v = .pointer (some ⟨wr.heap.size, 1, none⟩), fun v _ => v = .bool false, fun v _ => v = .bool false, fun v _ => v = undef, fun v _ => v = undef, fun v _ => v = undef, fun v _ => v = undef, fun v _ => v = undef, fun v _ => v = undef, fun v _ => v = undef, fun v _ => v = undef, fun v _ => v = undef, fun v _ => v = undef, fun v _ => v = undef, fun v _ => v = undef, fun v _ => v = undef, fun v _ => v = .bool false]) 31 (by kernel_rfl) (by kernel_rfl) (by rfl) (fun W => Below.refl _ W) (fun _ _ _ h1 h2 => h1.trans (h2.mono h1.size)) (Grow.mono_nth ?gmono) ?gsteps ?gfin
        case gmono => exact ⟨fun _ _ _ h _ => h, fun _ _ _ h _ => h, fun _ _ _ h _ => h, fun _ _ _ h _ => h, fun _ _ _ h _ => h, fun _ _ _ h _ => h, fun _ _ _ h _ => h, fun _ _ _ h _ => h, fun _ _ _ h _ => h, fun _ _ _ h _ => h, fun _ _ _ h _ => h, fun _ _ _ h _ => h, fun _ _ _ h _ => h, fun _ _ _ h _ => h, fun _ _ _ h _ => h, fun _ _ _ h _ => h, fun _ _ _ h _ => h, trivial⟩
        case gsteps =>
          show Grow.allBelow _ 17
          refine And.intro ?_ ?s16
          refine And.intro ?_ ?s15
          refine And.intro ?_ ?s14
          refine And.intro ?_ ?s13
          refine And.intro ?_ ?s12
          refine And.intro ?_ ?s11
          refine And.intro ?_ ?s10
          refine And.intro ?_ ?s9
          refine And.intro ?_ ?s8
          refine And.intro ?_ ?s7
          refine And.intro ?_ ?s6
          refine And.intro ?_ ?s5
          refine And.intro ?_ ?s4
          refine And.intro ?_ ?s3
          refine And.intro ?_ ?s2
          refine And.intro ?_ ?s1
          refine And.intro ?_ ?s0
          exact trivial
          case s0 =>
            refine Grow.step_in (by rfl) (by rfl) ?_
            intro E W ec eg ef hG hd hu R HR
            have e5 : E (.tmp 5) = .pointer (some ⟨wr.heap.size, 0, none⟩) := hu 5 (by kernel_rfl)
            clear hd hu
            go_simp
            exact HR.out _ _ (Below.refl _ _) rfl
          case s1 =>
            refine Grow.step_in (by rfl) (by rfl) ?_
            intro E W ec eg ef hG hd hu R HR
            have e11 : E (.tmp 11) = .pointer (some ⟨wr.heap.size, 1, none⟩) := hd 0 11 (by kernel_rfl)
            clear hd hu
            have hcl := (hG.cell (p := ⟨wr.heap.size, 1, none⟩) HC.out.1).trans HC.out.2.2.1
            go_simp
            exact HR.out _ _ (Below.refl _ _) rfl
          case s2 =>
            refine Grow.step_in (by rfl) (by rfl) ?_
            intro E W ec eg ef hG hd hu R HR
            have e12 : E (.tmp 12) = .bool false := hd 1 12 (by kernel_rfl)
            clear hd hu
            go_simp
            exact HR.out _ _ (Below.refl _ _) rfl
          case s3 =>
            exact Grow.step_off (g := 2) (b := true) (b' := false) (d := 13) (by rfl) (by rfl) (by rfl) (by kernel_rfl) (fun v W h => h) (by decide) (fun _ => rfl)
          case s4 =>
            exact Grow.step_off (g := 2) (b := true) (b' := false) (d := 13) (by rfl) (by rfl) (by rfl) (by kernel_rfl) (fun v W h => h) (by decide) (fun _ => rfl)
          case s5 =>
            exact Grow.step_off (g := 2) (b := true) (b' := false) (d := 13) (by rfl) (by rfl) (by rfl) (by kernel_rfl) (fun v W h => h) (by decide) (fun _ => rfl)
          case s6 =>
            exact Grow.step_far (g := 5) (b := false) (d := 16) (by rfl) (by rfl) (by rfl) (by kernel_rfl) (fun v W h => h) (fun _ => rfl)
          case s7 =>
            exact Grow.step_far (g := 5) (b := false) (d := 16) (by rfl) (by rfl) (by rfl) (by kernel_rfl) (fun v W h => h) (fun _ => rfl)
          case s8 =>
            exact Grow.step_far (g := 5) (b := false) (d := 16) (by rfl) (by rfl) (by rfl) (by kernel_rfl) (fun v W h => h) (fun _ => rfl)
          case s9 =>
            exact Grow.step_far (g := 5) (b := false) (d := 16) (by rfl) (by rfl) (by rfl) (by kernel_rfl) (fun v W h => h) (fun _ => rfl)
          case s10 =>
            exact Grow.step_far (g := 5) (b := false) (d := 16) (by rfl) (by rfl) (by rfl) (by kernel_rfl) (fun v W h => h) (fun _ => rfl)
          case s11 =>
            exact Grow.step_far (g := 5) (b := false) (d := 16) (by rfl) (by rfl) (by rfl) (by kernel_rfl) (fun v W h => h) (fun _ => rfl)
          case s12 =>
            exact Grow.step_far (g := 5) (b := false) (d := 16) (by rfl) (by rfl) (by rfl) (by kernel_rfl) (fun v W h => h) (fun _ => rfl)
          case s13 =>
            exact Grow.step_far (g := 5) (b := false) (d := 16) (by rfl) (by rfl) (by rfl) (by kernel_rfl) (fun v W h => h) (fun _ => rfl)
          case s14 =>
            exact Grow.step_far (g := 5) (b := false) (d := 16) (by rfl) (by rfl) (by rfl) (by kernel_rfl) (fun v W h => h) (fun _ => rfl)
          case s15 =>
            exact Grow.step_off (g := 2) (b := true) (b' := false) (d := 13) (by rfl) (by rfl) (by rfl) (by kernel_rfl) (fun v W h => h) (by decide) (fun _ => rfl)
          case s16 =>
            refine Grow.step_in (by rfl) (by rfl) ?_
            intro E W ec eg ef hG hd hu R HR
            have e13 : E (.tmp 13) = .bool false := hd 2 13 (by kernel_rfl)
            have e26 : E (.tmp 26) = undef := hd 15 26 (by kernel_rfl)
            clear hd hu
            go_simp
            exact HR.out _ _ (Below.refl _ _) rfl
        case gfin =>
          intro W hG
          refine Grow.fin_dst (by rfl) ?_
          rintro _ rfl
          refine Grow.fin_dst (by rfl) ?_
          rintro _ rfl
          refine Grow.fin_dst (by rfl) ?_
          rintro _ rfl
          refine Grow.fin_dst (by rfl) ?_
          rintro _ rfl
          refine Grow.fin_dst (by rfl) ?_
          rintro _ rfl
          refine Grow.fin_dst (by rfl) ?_
          rintro _ rfl
          refine Grow.fin_dst (by rfl) ?_
          rintro _ rfl
          refine Grow.fin_dst (by rfl) ?_
          rintro _ rfl
          refine Grow.fin_dst (by rfl) ?_
          rintro _ rfl
          refine Grow.fin_dst (by rfl) ?_
          rintro _ rfl
          refine Grow.fin_dst (by rfl) ?_
          rintro _ rfl
          refine Grow.fin_dst (by rfl) ?_
          rintro _ rfl
          refine Grow.fin_dst (by rfl) ?_
          rintro _ rfl
          refine Grow.fin_dst (by rfl) ?_
          rintro _ rfl
          refine Grow.fin_dst (by rfl) ?_
          rintro _ rfl
          refine Grow.fin_dst (by rfl) ?_
          rintro _ rfl
          refine Grow.fin_dst (by rfl) ?_
          rintro _ rfl
          simp only [Act.put, List.setIfInBounds_toArray, List.set_cons_zero, List.set_cons_succ]
          refine Grow.fin_end ?_
          have HFG := Lib.hid (show Below w5.heap.size w5 W from ⟨hG.os, hG.tape, hG.output, hG.size, hG.block⟩)
          clear hG
          go_wp2_with fail
          go_roundw
          case rel =>
            unfold CntR
            refine ⟨H5.out.2.2.2.trans (HFG.out.mono H5.out.2.2.2.size), .inr (.inl ?_)⟩
            exact ⟨rfl, by first | rfl | simp⟩
          case measure => simp only [intOf]; omega
      · go_upto_region 5 with fail
        have hd5 : Below wr.heap.size wr (wr.alloc (.cells #[.pointer (some ⟨q0, 0, none⟩), .bool true, .map b0, .slice A0 n0 k0] 79)) := (Below.refl _ _).alloc (Nat.le_refl _) _
        have hn5 := heap_alloc_new wr (.cells #[.pointer (some ⟨q0, 0, none⟩), .bool true, .map b0, .slice A0 n0 k0] 79)
        have hs5 : wr.heap.size < (wr.alloc (.cells #[.pointer (some ⟨q0, 0, none⟩), .bool true, .map b0, .slice A0 n0 k0] 79)).heap.size := by simp
        have H5 := Lib.hid (And.intro hd5 (And.intro hn5 (And.intro hs5 (HB.out.trans (hd5.mono HB.out.size)))))
        clear hd5 hn5 hs5
        generalize wr.alloc (.cells #[.pointer (some ⟨q0, 0, none⟩), .bool true, .map b0, .slice A0 n0 k0] 79) = w5 at *
        have HC : Hid (wr.heap.size < w5.drew.heap.size ∧ w5.drew.cell? ⟨wr.heap.size, 0, none⟩ = some (.pointer (some ⟨q0, 0, none⟩)) ∧ w5.drew.cell? ⟨wr.heap.size, 1, none⟩ = some (.bool true) ∧ w.heap.size < w5.drew.heap.size ∧ w5.drew.cell? ⟨w.heap.size, 0, none⟩ = some (.pointer (some ⟨q0, 0, none⟩)) ∧
            (∀ W, Below w5.drew.heap.size w5.drew W → Calls Tryz.prog 55 #[.pointer (some ⟨q0, 0, none⟩)] W fun e w' => e = .returned (.int .u64 (m0.first : Int)) ∧ W = w') ∧
            (∀ W, Below w5.drew.heap.size w5.drew W → Calls Tryz.prog 55 #[.pointer (some ⟨q1, 0, none⟩)] W fun e w' => e = .returned (.int .u64 (m1.first : Int)) ∧ W = w')) :=
          Lib.hid ⟨H5.out.2.2.1, cell_of_cells (w := w5.drew) H5.out.2.1 0, cell_of_cells (w := w5.drew) H5.out.2.1 1, Nat.lt_of_lt_of_le (lt_of_cells HAL.out.2) H5.out.2.2.2.size,
            cell_of_cells (w := w5.drew) ((H5.out.2.2.2.block _ (lt_of_cells HAL.out.2)).trans HAL.out.2) 0, fun W hb => wfirst_any ((HLG.out.1.below H5.out.2.2.2).drew.below hb), fun W hb => wfirst_any ((HLG.out.2.below H5.out.2.2.2).drew.below hb)⟩
        refine wp_region_grow (fun W W' => Below W.heap.size W W') (Grow.nth [fun v _ => v = .pointer (some ⟨wr.heap.size, 1, none⟩), fun v _ => v = .bool true, fun v _ => v = .bool true, fun v _ => v = .int .i64 (-1), fun v _ => v = .bool true, fun v _ => v = .bool true, fun v _ => v = undef, fun v _ => v = undef, fun v _ => v = undef, fun v _ => v = undef, fun v _ => v = undef, fun v _ => v = undef, fun v _ => v = undef, fun v _ => v = undef, fun v _ => v = undef, fun v _ => v = .bool true, fun v _ => v = .bool true]) 31 (by kernel_rfl) (by kernel_rfl) (by rfl) (fun W => Below.refl _ W) (fun _ _ _ h1 h2 => h1.trans (h2.mono h1.size)) (Grow.mono_nth ?gmono) ?gsteps ?gfin
        case gmono => exact ⟨fun _ _ _ h _ => h, fun _ _ _ h _ => h, fun _ _ _ h _ => h, fun _ _ _ h _ => h, fun _ _ _ h _ => h, fun _ _ _ h _ => h, fun _ _ _ h _ => h, fun _ _ _ h _ => h, fun _ _ _ h _ => h, fun _ _ _ h _ => h, fun _ _ _ h _ => h, fun _ _ _ h _ => h, fun _ _ _ h _ => h, fun _ _ _ h _ => h, fun _ _ _ h _ => h, fun _ _ _ h _ => h, fun _ _ _ h _ => h, trivial⟩
        case gsteps =>
          show Grow.allBelow _ 17
          refine And.intro ?_ ?s16
          refine And.intro ?_ ?s15
          refine And.intro ?_ ?s14
          refine And.intro ?_ ?s13
          refine And.intro ?_ ?s12
          refine And.intro ?_ ?s11
          refine And.intro ?_ ?s10
          refine And.intro ?_ ?s9
          refine And.intro ?_ ?s8
          refine And.intro ?_ ?s7
          refine And.intro ?_ ?s6
          refine And.intro ?_ ?s5
          refine And.intro ?_ ?s4
          refine And.intro ?_ ?s3
          refine And.intro ?_ ?s2
          refine And.intro ?_ ?s1
          refine And.intro ?_ ?s0
          exact trivial
          case s0 =>
            refine Grow.step_in (by rfl) (by rfl) ?_
            intro E W ec eg ef hG hd hu R HR
            have e5 : E (.tmp 5) = .pointer (some ⟨wr.heap.size, 0, none⟩) := hu 5 (by kernel_rfl)
            clear hd hu
            go_simp
            exact HR.out _ _ (Below.refl _ _) rfl
          case s1 =>
            refine Grow.step_in (by rfl) (by rfl) ?_
            intro E W ec eg ef hG hd hu R HR
            have e11 : E (.tmp 11) = .pointer (some ⟨wr.heap.size, 1, none⟩) := hd 0 11 (by kernel_rfl)
            clear hd hu
            have hcl := (hG.cell (p := ⟨wr.heap.size, 1, none⟩) HC.out.1).trans HC.out.2.2.1
            go_simp
            exact HR.out _ _ (Below.refl _ _) rfl
          case s2 =>
            refine Grow.step_in (by rfl) (by rfl) ?_
            intro E W ec eg ef hG hd hu R HR
            have e12 : E (.tmp 12) = .bool true := hd 1 12 (by kernel_rfl)
            clear hd hu
            go_simp
            exact HR.out _ _ (Below.refl _ _) rfl
          case s3 =>
            refine Grow.step_on (g := 2) (b := true) (d := 13) (by rfl) (by rfl) (by rfl) (by kernel_rfl) (fun v W h => h) ?_
            intro E W ec eg ef hG hd hu R HR
            have e3 : E (.tmp 3) = .int .i64 (-1) := hu 3 (by kernel_rfl)
            clear hd hu
            go_simp
            exact HR.out _ _ (Below.refl _ _) rfl
          case s4 =>
            refine Grow.step_on (g := 2) (b := true) (d := 13) (by rfl) (by rfl) (by rfl) (by kernel_rfl) (fun v W h => h) ?_
            intro E W ec eg ef hG hd hu R HR
            have e14 : E (.tmp 14) = .int .i64 (-1) := hd 3 14 (by kernel_rfl)
            clear hd hu
            go_simp
            exact HR.out _ _ (Below.refl _ _) rfl
          case s5 =>
            refine Grow.step_on (g := 2) (b := true) (d := 13) (by rfl) (by rfl) (by rfl) (by kernel_rfl) (fun v W h => h) ?_
            intro E W ec eg ef hG hd hu R HR
            have e15 : E (.tmp 15) = .bool true := hd 4 15 (by kernel_rfl)
            clear hd hu
            go_simp
            exact HR.out _ _ (Below.refl _ _) rfl
          case s6 =>
            exact Grow.step_off (g := 5) (b := false) (b' := true) (d := 16) (by rfl) (by rfl) (by rfl) (by kernel_rfl) (fun v W h => h) (by decide) (fun _ => rfl)
          case s7 =>
            exact Grow.step_off (g := 5) (b := false) (b' := true) (d := 16) (by rfl) (by rfl) (by rfl) (by kernel_rfl) (fun v W h => h) (by decide) (fun _ => rfl)
          case s8 =>
            exact Grow.step_off (g := 5) (b := false) (b' := true) (d := 16) (by rfl) (by rfl) (by rfl) (by kernel_rfl) (fun v W h => h) (by decide) (fun _ => rfl)
          case s9 =>
            exact Grow.step_off (g := 5) (b := false) (b' := true) (d := 16) (by rfl) (by rfl) (by rfl) (by kernel_rfl) (fun v W h => h) (by decide) (fun _ => rfl)
          case s10 =>
            exact Grow.step_off (g := 5) (b := false) (b' := true) (d := 16) (by rfl) (by rfl) (by rfl) (by kernel_rfl) (fun v W h => h) (by decide) (fun _ => rfl)
          case s11 =>
            exact Grow.step_off (g := 5) (b := false) (b' := true) (d := 16) (by rfl) (by rfl) (by rfl) (by kernel_rfl) (fun v W h => h) (by decide) (fun _ => rfl)
          case s12 =>
            exact Grow.step_off (g := 5) (b := false) (b' := true) (d := 16) (by rfl) (by rfl) (by rfl) (by kernel_rfl) (fun v W h => h) (by decide) (fun _ => rfl)
          case s13 =>
            exact Grow.step_off (g := 5) (b := false) (b' := true) (d := 16) (by rfl) (by rfl) (by rfl) (by kernel_rfl) (fun v W h => h) (by decide) (fun _ => rfl)
          case s14 =>
            exact Grow.step_off (g := 5) (b := false) (b' := true) (d := 16) (by rfl) (by rfl) (by rfl) (by kernel_rfl) (fun v W h => h) (by decide) (fun _ => rfl)
          case s15 =>
            refine Grow.step_on (g := 2) (b := true) (d := 13) (by rfl) (by rfl) (by rfl) (by kernel_rfl) (fun v W h => h) ?_
            intro E W ec eg ef hG hd hu R HR
            have e16 : E (.tmp 16) = .bool true := hd 5 16 (by kernel_rfl)
            have e25 : E (.tmp 25) = undef := hd 14 25 (by kernel_rfl)
            clear hd hu
            go_simp
            exact HR.out _ _ (Below.refl _ _) rfl
          case s16 =>
            refine Grow.step_in (by rfl) (by rfl) ?_
            intro E W ec eg ef hG hd hu R HR
            have e13 : E (.tmp 13) = .bool true := hd 2 13 (by kernel_rfl)
            have e26 : E (.tmp 26) = .bool true := hd 15 26 (by kernel_rfl)
            clear hd hu
            go_simp
            exact HR.out _ _ (Below.refl _ _) rfl
        case gfin =>
          intro W hG
          refine Grow.fin_dst (by rfl) ?_
          rintro _ rfl
          refine Grow.fin_dst (by rfl) ?_
          rintro _ rfl
          refine Grow.fin_dst (by rfl) ?_
          rintro _ rfl
          refine Grow.fin_dst (by rfl) ?_
          rintro _ rfl
          refine Grow.fin_dst (by rfl) ?_
          rintro _ rfl
          refine Grow.fin_dst (by rfl) ?_
          rintro _ rfl
          refine Grow.fin_dst (by rfl) ?_
          rintro _ rfl
          refine Grow.fin_dst (by rfl) ?_
          rintro _ rfl
          refine Grow.fin_dst (by rfl) ?_
          rintro _ rfl
          refine Grow.fin_dst (by rfl) ?_
          rintro _ rfl
          refine Grow.fin_dst (by rfl) ?_
          rintro _ rfl
          refine Grow.fin_dst (by rfl) ?_
          rintro _ rfl
          refine Grow.fin_dst (by rfl) ?_
          rintro _ rfl
          refine Grow.fin_dst (by rfl) ?_
          rintro _ rfl
          refine Grow.fin_dst (by rfl) ?_
          rintro _ rfl
          refine Grow.fin_dst (by rfl) ?_
          rintro _ rfl
          refine Grow.fin_dst (by rfl) ?_
          rintro _ rfl
          simp only [Act.put, List.setIfInBounds_toArray, List.set_cons_zero, List.set_cons_succ]
          refine Grow.fin_end ?_
          have HFG := Lib.hid (show Below w5.heap.size w5 W from ⟨hG.os, hG.tape, hG.output, hG.size, hG.block⟩)
          clear hG
          go_wp2_with fail
          go_roundw
          case rel =>
            unfold CntR
            refine ⟨H5.out.2.2.2.trans (HFG.out.mono H5.out.2.2.2.size), .inr (.inl ?_)⟩
            exact ⟨rfl, by first | rfl | simp⟩
          case measure => simp only [intOf]; omega

    · skip
      cases c0
      · cases c1
        · go_upto_region 5 with fail
          have hd5 : Below wr.heap.size wr (wr.alloc (.cells #[.pointer (some ⟨q1, 0, none⟩), .bool false, .map b1, .slice A1 n1 k1] 79)) := (Below.refl _ _).alloc (Nat.le_refl _) _
          have hn5 := heap_alloc_new wr (.cells #[.pointer (some ⟨q1, 0, none⟩), .bool false, .map b1, .slice A1 n1 k1] 79)
          have hs5 : wr.heap.size < (wr.alloc (.cells #[.pointer (some ⟨q1, 0, none⟩), .bool false, .map b1, .slice A1 n1 k1] 79)).heap.size := by simp
          have H5 := Lib.hid (And.intro hd5 (And.intro hn5 (And.intro hs5 (HB.out.trans (hd5.mono HB.out.size)))))
          clear hd5 hn5 hs5
          generalize wr.alloc (.cells #[.pointer (some ⟨q1, 0, none⟩), .bool false, .map b1, .slice A1 n1 k1] 79) = w5 at *
          have HC : Hid (wr.heap.size < w5.drew.heap.size ∧ w5.drew.cell? ⟨wr.heap.size, 0, none⟩ = some (.pointer (some ⟨q1, 0, none⟩)) ∧ w5.drew.cell? ⟨wr.heap.size, 1, none⟩ = some (.bool false) ∧ w.heap.size < w5.drew.heap.size ∧ w5.drew.cell? ⟨w.heap.size, 0, none⟩ = some (.pointer (some ⟨q0, 0, none⟩)) ∧
              (∀ W, Below w5.drew.heap.size w5.drew W → Calls Tryz.prog 55 #[.pointer (some ⟨q0, 0, none⟩)] W fun e w' => e = .returned (.int .u64 (m0.first : Int)) ∧ W = w') ∧
              (∀ W, Below w5.drew.heap.size w5.drew W → Calls Tryz.prog 55 #[.pointer (some ⟨q1, 0, none⟩)] W fun e w' => e = .returned (.int .u64 (m1.first : Int)) ∧ W = w')) :=
            Lib.hid ⟨H5.out.2.2.1, cell_of_cells (w := w5.drew) H5.out.2.1 0, cell_of_cells (w := w5.drew) H5.out.2.1 1, Nat.lt_of_lt_of_le (lt_of_cells HAL.out.2) H5.out.2.2.2.size,
              cell_of_cells (w := w5.drew) ((H5.out.2.2.2.block _ (lt_of_cells HAL.out.2)).trans HAL.out.2) 0, fun W hb => wfirst_any ((HLG.out.1.below H5.out.2.2.2).drew.below hb), fun W hb => wfirst_any ((HLG.out.2.below H5.out.2.2.2).drew.below hb)⟩
          refine wp_region_grow (fun W W' => Below W.heap.size W W') (Grow.nth [fun v _ => v = .pointer (some ⟨wr.heap.size, 1, none⟩), fun v _ => v = .bool false, fun v _ => v = .bool false, fun v _ => v = undef, fun v _ => v = undef, fun v _ => v = undef, fun v _ => v = undef, fun v _ => v = undef, fun v _ => v = undef, fun v _ => v = undef, fun v _ => v = undef, fun v _ => v = undef, fun v _ => v = undef, fun v _ => v = undef, fun v _ => v = undef, fun v _ => v = undef, fun v _ => v = .bool false]) 31 (by kernel_rfl) (by kernel_rfl) (by rfl) (fun W => Below.refl _ W) (fun _ _ _ h1 h2 => h1.trans (h2.mono h1.size)) (Grow.mono_nth ?gmono) ?gsteps ?gfin
          case gmono => exact ⟨fun _ _ _ h _ => h, fun _ _ _ h _ => h, fun _ _ _ h _ => h, fun _ _ _ h _ => h, fun _ _ _ h _ => h, fun _ _ _ h _ => h, fun _ _ _ h _ => h, fun _ _ _ h _ => h, fun _ _ _ h _ => h, fun _ _ _ h _ => h, fun _ _ _ h _ => h, fun _ _ _ h _ => h, fun _ _ _ h _ => h, fun _ _ _ h _ => h, fun _ _ _ h _ => h, fun _ _ _ h _ => h, fun _ _ _ h _ => h, trivial⟩
          case gsteps =>
            show Grow.allBelow _ 17
            refine And.intro ?_ ?s16
            refine And.intro ?_ ?s15
            refine And.intro ?_ ?s14
            refine And.intro ?_ ?s13
            refine And.intro ?_ ?s12
            refine And.intro ?_ ?s11
            refine And.intro ?_ ?s10
            refine And.intro ?_ ?s9
            refine And.intro ?_ ?s8
            refine And.intro ?_ ?s7
            refine And.intro ?_ ?s6
            refine And.intro ?_ ?s5
            refine And.intro ?_ ?s4
            refine And.intro ?_ ?s3
            refine And.intro ?_ ?s2
            refine And.intro ?_ ?s1
            refine And.intro ?_ ?s0
            exact trivial
            case s0 =>
              refine Grow.step_in (by rfl) (by rfl) ?_
              intro E W ec eg ef hG hd hu R HR
              have e5 : E (.tmp 5) = .pointer (some ⟨wr.heap.size, 0, none⟩) := hu 5 (by kernel_rfl)
              clear hd hu
              go_simp
              exact HR.out _ _ (Below.refl _ _) rfl
            case s1 =>
              refine Grow.step_in (by rfl) (by rfl) ?_
              intro E W ec eg ef hG hd hu R HR
              have e11 : E (.tmp 11) = .pointer (some ⟨wr.heap.size, 1, none⟩) := hd 0 11 (by kernel_rfl)
              clear hd hu
              have hcl := (hG.cell (p := ⟨wr.heap.size, 1, none⟩) HC.out.1).trans HC.out.2.2.1
              go_simp
              exact HR.out _ _ (Below.refl _ _) rfl
            case s2 =>
              refine Grow.step_in (by rfl) (by rfl) ?_
              intro E W ec eg ef hG hd hu R HR
              have e12 : E (.tmp 12) = .bool false := hd 1 12 (by kernel_rfl)
              clear hd hu
              go_simp
              exact HR.out _ _ (Below.refl _ _) rfl
            case s3 =>
              exact Grow.step_off (g := 2) (b := true) (b' := false) (d := 13) (by rfl) (by rfl) (by rfl) (by kernel_rfl) (fun v W h => h) (by decide) (fun _ => rfl)
            case s4 =>
              exact Grow.step_off (g := 2) (b := true) (b' := false) (d := 13) (by rfl) (by rfl) (by rfl) (by kernel_rfl) (fun v W h => h) (by decide) (fun _ => rfl)
            case s5 =>
              exact Grow.step_off (g := 2) (b := true) (b' := false) (d := 13) (by rfl) (by rfl) (by rfl) (by kernel_rfl) (fun v W h => h) (by decide) (fun _ => rfl)
            case s6 =>
              exact Grow.step_far (g := 5) (b := false) (d := 16) (by rfl) (by rfl) (by rfl) (by kernel_rfl) (fun v W h => h) (fun _ => rfl)
            case s7 =>
              exact Grow.step_far (g := 5) (b := false) (d := 16) (by rfl) (by rfl) (by rfl) (by kernel_rfl) (fun v W h => h) (fun _ => rfl)
            case s8 =>
              exact Grow.step_far (g := 5) (b := false) (d := 16) (by rfl) (by rfl) (by rfl) (by kernel_rfl) (fun v W h => h) (fun _ => rfl)
            case s9 =>
              exact Grow.step_far (g := 5) (b := false) (d := 16) (by rfl) (by rfl) (by rfl) (by kernel_rfl) (fun v W h => h) (fun _ => rfl)
            case s10 =>
              exact Grow.step_far (g := 5) (b := false) (d := 16) (by rfl) (by rfl) (by rfl) (by kernel_rfl) (fun v W h => h) (fun _ => rfl)
            case s11 =>
              exact Grow.step_far (g := 5) (b := false) (d := 16) (by rfl) (by rfl) (by rfl) (by kernel_rfl) (fun v W h => h) (fun _ => rfl)
            case s12 =>
              exact Grow.step_far (g := 5) (b := false) (d := 16) (by rfl) (by rfl) (by rfl) (by kernel_rfl) (fun v W h => h) (fun _ => rfl)
            case s13 =>
              exact Grow.step_far (g := 5) (b := false) (d := 16) (by rfl) (by rfl) (by rfl) (by kernel_rfl) (fun v W h => h) (fun _ => rfl)
            case s14 =>
              exact Grow.step_far (g := 5) (b := false) (d := 16) (by rfl) (by rfl) (by rfl) (by kernel_rfl) (fun v W h => h) (fun _ => rfl)
            case s15 =>
              exact Grow.step_off (g := 2) (b := true) (b' := false) (d := 13) (by rfl) (by rfl) (by rfl) (by kernel_rfl) (fun v W h => h) (by decide) (fun _ => rfl)
            case s16 =>
              refine Grow.step_in (by rfl) (by rfl) ?_
              intro E W ec eg ef hG hd hu R HR
              have e13 : E (.tmp 13) = .bool false := hd 2 13 (by kernel_rfl)
              have e26 : E (.tmp 26) = undef := hd 15 26 (by kernel_rfl)
              clear hd hu
              go_simp
              exact HR.out _ _ (Below.refl _ _) rfl
          case gfin =>
            intro W hG
            refine Grow.fin_dst (by rfl) ?_
            rintro _ rfl
            refine Grow.fin_dst (by rfl) ?_
            rintro _ rfl
            refine Grow.fin_dst (by rfl) ?_
            rintro _ rfl
            refine Grow.fin_dst (by rfl) ?_
            rintro _ rfl
            refine Grow.fin_dst (by rfl) ?_
            rintro _ rfl
            refine Grow.fin_dst (by rfl) ?_
            rintro _ rfl
            refine Grow.fin_dst (by rfl) ?_
            rintro _ rfl
            refine Grow.fin_dst (by rfl) ?_
            rintro _ rfl
            refine Grow.fin_dst (by rfl) ?_
            rintro _ rfl
            refine Grow.fin_dst (by rfl) ?_
            rintro _ rfl
            refine Grow.fin_dst (by rfl) ?_
            rintro _ rfl
            refine Grow.fin_dst (by rfl) ?_
            rintro _ rfl
            refine Grow.fin_dst (by rfl) ?_
            rintro _ rfl
            refine Grow.fin_dst (by rfl) ?_
            rintro _ rfl
            refine Grow.fin_dst (by rfl) ?_
            rintro _ rfl
            refine Grow.fin_dst (by rfl) ?_
            rintro _ rfl
            refine Grow.fin_dst (by rfl) ?_
            rintro _ rfl
            simp only [Act.put, List.setIfInBounds_toArray, List.set_cons_zero, List.set_cons_succ]
            refine Grow.fin_end ?_
            have HFG := Lib.hid (show Below w5.heap.size w5 W from ⟨hG.os, hG.tape, hG.output, hG.size, hG.block⟩)
            clear hG
            go_wp2_with fail
            go_roundw
            case rel =>
              unfold CntR
              refine ⟨H5.out.2.2.2.trans (HFG.out.mono H5.out.2.2.2.size), .inr (.inr ?_)⟩
              exact ⟨rfl, by first | rfl | simp [cntM]⟩
            case measure => simp only [intOf]; omega
        · go_upto_region 5 with fail
          have hd5 : Below wr.heap.size wr (wr.alloc (.cells #[.pointer (some ⟨q1, 0, none⟩), .bool true, .map b1, .slice A1 n1 k1] 79)) := (Below.refl _ _).alloc (Nat.le_refl _) _
          have hn5 := heap_alloc_new wr (.cells #[.pointer (some ⟨q1, 0, none⟩), .bool true, .map b1, .slice A1 n1 k1] 79)
          have hs5 : wr.heap.size < (wr.alloc (.cells #[.pointer (some ⟨q1, 0, none⟩), .bool true, .map b1, .slice A1 n1 k1] 79)).heap.size := by simp
          have H5 := Lib.hid (And.intro hd5 (And.intro hn5 (And.intro hs5 (HB.out.trans (hd5.mono HB.out.size)))))
          clear hd5 hn5 hs5
          generalize wr.alloc (.cells #[.pointer (some ⟨q1, 0, none⟩), .bool true, .map b1, .slice A1 n1 k1] 79) = w5 at *
          have HC : Hid (wr.heap.size < w5.drew.heap.size ∧ w5.drew.cell? ⟨wr.heap.size, 0, none⟩ = some (.pointer (some ⟨q1, 0, none⟩)) ∧ w5.drew.cell? ⟨wr.heap.size, 1, none⟩ = some (.bool true) ∧ w.heap.size < w5.drew.heap.size ∧ w5.drew.cell? ⟨w.heap.size, 0, none⟩ = some (.pointer (some ⟨q0, 0, none⟩)) ∧
              (∀ W, Below w5.drew.heap.size w5.drew W → Calls Tryz.prog 55 #[.pointer (some ⟨q0, 0, none⟩)] W fun e w' => e = .returned (.int .u64 (m0.first : Int)) ∧ W = w') ∧
              (∀ W, Below w5.drew.heap.size w5.drew W → Calls Tryz.prog 55 #[.pointer (some ⟨q1, 0, none⟩)] W fun e w' => e = .returned (.int .u64 (m1.first : Int)) ∧ W = w')) :=
            Lib.hid ⟨H5.out.2.2.1, cell_of_cells (w := w5.drew) H5.out.2.1 0, cell_of_cells (w := w5.drew) H5.out.2.1 1, Nat.lt_of_lt_of_le (lt_of_cells HAL.out.2) H5.out.2.2.2.size,
              cell_of_cells (w := w5.drew) ((H5.out.2.2.2.block _ (lt_of_cells HAL.out.2)).trans HAL.out.2) 0, fun W hb => wfirst_any ((HLG.out.1.below H5.out.2.2.2).drew.below hb), fun W hb => wfirst_any ((HLG.out.2.below H5.out.2.2.2).drew.below hb)⟩
          refine wp_region_grow (fun W W' => Below W.heap.size W W') (Grow.nth [fun v _ => v = .pointer (some ⟨wr.heap.size, 1, none⟩), fun v _ => v = .bool true, fun v _ => v = .bool true, fun v _ => v = .int .i64 (-1), fun v _ => v = .bool true, fun v _ => v = .bool true, fun v _ => v = undef, fun v _ => v = undef, fun v _ => v = undef, fun v _ => v = undef, fun v _ => v = undef, fun v _ => v = undef, fun v _ => v = undef, fun v _ => v = undef, fun v _ => v = undef, fun v _ => v = .bool true, fun v _ => v = .bool true]) 31 (by kernel_rfl) (by kernel_rfl) (by rfl) (fun W => Below.refl _ W) (fun _ _ _ h1 h2 => h1.trans (h2.mono h1.size)) (Grow.mono_nth ?gmono) ?gsteps ?gfin
          case gmono => exact ⟨fun _ _ _ h _ => h, fun _ _ _ h _ => h, fun _ _ _ h _ => h, fun _ _ _ h _ => h, fun _ _ _ h _ => h, fun _ _ _ h _ => h, fun _ _ _ h _ => h, fun _ _ _ h _ => h, fun _ _ _ h _ => h, fun _ _ _ h _ => h, fun _ _ _ h _ => h, fun _ _ _ h _ => h, fun _ _ _ h _ => h, fun _ _ _ h _ => h, fun _ _ _ h _ => h, fun _ _ _ h _ => h, fun _ _ _ h _ => h, trivial⟩
          case gsteps =>
            show Grow.allBelow _ 17
            refine And.intro ?_ ?s16
            refine And.intro ?_ ?s15
            refine And.intro ?_ ?s14
            refine And.intro ?_ ?s13
            refine And.intro ?_ ?s12
            refine And.intro ?_ ?s11
            refine And.intro ?_ ?s10
            refine And.intro ?_ ?s9
            refine And.intro ?_ ?s8
            refine And.intro ?_ ?s7
            refine And.intro ?_ ?s6
            refine And.intro ?_ ?s5
            refine And.intro ?_ ?s4
            refine And.intro ?_ ?s3
            refine And.intro ?_ ?s2
            refine And.intro ?_ ?s1
            refine And.intro ?_ ?s0
            exact trivial
            case s0 =>
              refine Grow.step_in (by rfl) (by rfl) ?_
              intro E W ec eg ef hG hd hu R HR
              have e5 : E (.tmp 5) = .pointer (some ⟨wr.heap.size, 0, none⟩) := hu 5 (by kernel_rfl)
              clear hd hu
              go_simp
              exact HR.out _ _ (Below.refl _ _) rfl
            case s1 =>
              refine Grow.step_in (by rfl) (by rfl) ?_
              intro E W ec eg ef hG hd hu R HR
              have e11 : E (.tmp 11) = .pointer (some ⟨wr.heap.size, 1, none⟩) := hd 0 11 (by kernel_rfl)
              clear hd hu
              have hcl := (hG.cell (p := ⟨wr.heap.size, 1, none⟩) HC.out.1).trans HC.out.2.2.1
              go_simp
              exact HR.out _ _ (Below.refl _ _) rfl
            case s2 =>
              refine Grow.step_in (by rfl) (by rfl) ?_
              intro E W ec eg ef hG hd hu R HR
              have e12 : E (.tmp 12) = .bool true := hd 1 12 (by kernel_rfl)
              clear hd hu
              go_simp
              exact HR.out _ _ (Below.refl _ _) rfl
            case s3 =>
              refine Grow.step_on (g := 2) (b := true) (d := 13) (by rfl) (by rfl) (by rfl) (by kernel_rfl) (fun v W h => h) ?_
              intro E W ec eg ef hG hd hu R HR
              have e3 : E (.tmp 3) = .int .i64 (-1) := hu 3 (by kernel_rfl)
              clear hd hu
              go_simp
              exact HR.out _ _ (Below.refl _ _) rfl
            case s4 =>
              refine Grow.step_on (g := 2) (b := true) (d := 13) (by rfl) (by rfl) (by rfl) (by kernel_rfl) (fun v W h => h) ?_
              intro E W ec eg ef hG hd hu R HR
              have e14 : E (.tmp 14) = .int .i64 (-1) := hd 3 14 (by kernel_rfl)
              clear hd hu
              go_simp
              exact HR.out _ _ (Below.refl _ _) rfl
            case s5 =>
              refine Grow.step_on (g := 2) (b := true) (d := 13) (by rfl) (by rfl) (by rfl) (by kernel_rfl) (fun v W h => h) ?_
              intro E W ec eg ef hG hd hu R HR
              have e15 : E (.tmp 15) = .bool true := hd 4 15 (by kernel_rfl)
              clear hd hu
              go_simp
              exact HR.out _ _ (Below.refl _ _) rfl
            case s6 =>
              exact Grow.step_off (g := 5) (b := false) (b' := true) (d := 16) (by rfl) (by rfl) (by rfl) (by kernel_rfl) (fun v W h => h) (by decide) (fun _ => rfl)
            case s7 =>
              exact Grow.step_off (g := 5) (b := false) (b' := true) (d := 16) (by rfl) (by rfl) (by rfl) (by kernel_rfl) (fun v W h => h) (by decide) (fun _ => rfl)
            case s8 =>
              exact Grow.step_off (g := 5) (b := false) (b' := true) (d := 16) (by rfl) (by rfl) (by rfl) (by kernel_rfl) (fun v W h => h) (by decide) (fun _ => rfl)
            case s9 =>
              exact Grow.step_off (g := 5) (b := false) (b' := true) (d := 16) (by rfl) (by rfl) (by rfl) (by kernel_rfl) (fun v W h => h) (by decide) (fun _ => rfl)
            case s10 =>
              exact Grow.step_off (g := 5) (b := false) (b' := true) (d := 16) (by rfl) (by rfl) (by rfl) (by kernel_rfl) (fun v W h => h) (by decide) (fun _ => rfl)
            case s11 =>
              exact Grow.step_off (g := 5) (b := false) (b' := true) (d := 16) (by rfl) (by rfl) (by rfl) (by kernel_rfl) (fun v W h => h) (by decide) (fun _ => rfl)
            case s12 =>
              exact Grow.step_off (g := 5) (b := false) (b' := true) (d := 16) (by rfl) (by rfl) (by rfl) (by kernel_rfl) (fun v W h => h) (by decide) (fun _ => rfl)
            case s13 =>
              exact Grow.step_off (g := 5) (b := false) (b' := true) (d := 16) (by rfl) (by rfl) (by rfl) (by kernel_rfl) (fun v W h => h) (by decide) (fun _ => rfl)
            case s14 =>
              exact Grow.step_off (g := 5) (b := false) (b' := true) (d := 16) (by rfl) (by rfl) (by rfl) (by kernel_rfl) (fun v W h => h) (by decide) (fun _ => rfl)
            case s15 =>
              refine Grow.step_on (g := 2) (b := true) (d := 13) (by rfl) (by rfl) (by rfl) (by kernel_rfl) (fun v W h => h) ?_
              intro E W ec eg ef hG hd hu R HR
              have e16 : E (.tmp 16) = .bool true := hd 5 16 (by kernel_rfl)
              have e25 : E (.tmp 25) = undef := hd 14 25 (by kernel_rfl)
              clear hd hu
              go_simp
              exact HR.out _ _ (Below.refl _ _) rfl
            case s16 =>
              refine Grow.step_in (by rfl) (by rfl) ?_
              intro E W ec eg ef hG hd hu R HR
              have e13 : E (.tmp 13) = .bool true := hd 2 13 (by kernel_rfl)
              have e26 : E (.tmp 26) = .bool true := hd 15 26 (by kernel_rfl)
              clear hd hu
              go_simp
              exact HR.out _ _ (Below.refl _ _) rfl
          case gfin =>
            intro W hG
            refine Grow.fin_dst (by rfl) ?_
            rintro _ rfl
            refine Grow.fin_dst (by rfl) ?_
            rintro _ rfl
            refine Grow.fin_dst (by rfl) ?_
            rintro _ rfl
            refine Grow.fin_dst (by rfl) ?_
            rintro _ rfl
            refine Grow.fin_dst (by rfl) ?_
            rintro _ rfl
            refine Grow.fin_dst (by rfl) ?_
            rintro _ rfl
            refine Grow.fin_dst (by rfl) ?_
            rintro _ rfl
            refine Grow.fin_dst (by rfl) ?_
            rintro _ rfl
            refine Grow.fin_dst (by rfl) ?_
            rintro _ rfl
            refine Grow.fin_dst (by rfl) ?_
            rintro _ rfl
            refine Grow.fin_dst (by rfl) ?_
            rintro _ rfl
            refine Grow.fin_dst (by rfl) ?_
            rintro _ rfl
            refine Grow.fin_dst (by rfl) ?_
            rintro _ rfl
            refine Grow.fin_dst (by rfl) ?_
            rintro _ rfl
            refine Grow.fin_dst (by rfl) ?_
            rintro _ rfl
            refine Grow.fin_dst (by rfl) ?_
            rintro _ rfl
            refine Grow.fin_dst (by rfl) ?_
            rintro _ rfl
            simp only [Act.put, List.setIfInBounds_toArray, List.set_cons_zero, List.set_cons_succ]
            refine Grow.fin_end ?_
            have HFG := Lib.hid (show Below w5.heap.size w5 W from ⟨hG.os, hG.tape, hG.output, hG.size, hG.block⟩)
            clear hG
            go_wp2_with fail
            go_roundw
            case rel =>
              unfold CntR
              refine ⟨H5.out.2.2.2.trans (HFG.out.mono H5.out.2.2.2.size), .inr (.inr ?_)⟩
              exact ⟨rfl, by first | rfl | simp [cntM]⟩
            case measure => simp only [intOf]; omega
      · cases c1
        · go_upto_region 5 with fail
          have hd5 : Below wr.heap.size wr (wr.alloc (.cells #[.pointer (some ⟨q1, 0, none⟩), .bool false, .map b1, .slice A1 n1 k1] 79)) := (Below.refl _ _).alloc (Nat.le_refl _) _
          have hn5 := heap_alloc_new wr (.cells #[.pointer (some ⟨q1, 0, none⟩), .bool false, .map b1, .slice A1 n1 k1] 79)
          have hs5 : wr.heap.size < (wr.alloc (.cells #[.pointer (some ⟨q1, 0, none⟩), .bool false, .map b1, .slice A1 n1 k1] 79)).heap.size := by simp
          have H5 := Lib.hid (And.intro hd5 (And.intro hn5 (And.intro hs5 (HB.out.trans (hd5.mono HB.out.size)))))
          clear hd5 hn5 hs5
          generalize wr.alloc (.cells #[.pointer (some ⟨q1, 0, none⟩), .bool false, .map b1, .slice A1 n1 k1] 79) = w5 at *
          have HC : Hid (wr.heap.size < w5.drew.heap.size ∧ w5.drew.cell? ⟨wr.heap.size, 0, none⟩ = some (.pointer (some ⟨q1, 0, none⟩)) ∧ w5.drew.cell? ⟨wr.heap.size, 1, none⟩ = some (.bool false) ∧ w.heap.size < w5.drew.heap.size ∧ w5.drew.cell? ⟨w.heap.size, 0, none⟩ = some (.pointer (some ⟨q0, 0, none⟩)) ∧
              (∀ W, Below w5.drew.heap.size w5.drew W → Calls Tryz.prog 55 #[.pointer (some ⟨q0, 0, none⟩)] W fun e w' => e = .returned (.int .u64 (m0.first : Int)) ∧ W = w') ∧
              (∀ W, Below w5.drew.heap.size w5.drew W → Calls Tryz.prog 55 #[.pointer (some ⟨q1, 0, none⟩)] W fun e w' => e = .returned (.int .u64 (m1.first : Int)) ∧ W = w')) :=
            Lib.hid ⟨H5.out.2.2.1, cell_of_cells (w := w5.drew) H5.out.2.1 0, cell_of_cells (w := w5.drew) H5.out.2.1 1, Nat.lt_of_lt_of_le (lt_of_cells HAL.out.2) H5.out.2.2.2.size,
              cell_of_cells (w := w5.drew) ((H5.out.2.2.2.block _ (lt_of_cells HAL.out.2)).trans HAL.out.2) 0, fun W hb => wfirst_any ((HLG.out.1.below H5.out.2.2.2).drew.below hb), fun W hb => wfirst_any ((HLG.out.2.below H5.out.2.2.2).drew.below hb)⟩
          refine wp_region_grow (fun W W' => Below W.heap.size W W') (Grow.nth [fun v _ => v = .pointer (some ⟨wr.heap.size, 1, none⟩), fun v _ => v = .bool false, fun v _ => v = .bool false, fun v _ => v = undef, fun v _ => v = undef, fun v _ => v = undef, fun v _ => v = undef, fun v _ => v = undef, fun v _ => v = undef, fun v _ => v = undef, fun v _ => v = undef, fun v _ => v = undef, fun v _ => v = undef, fun v _ => v = undef, fun v _ => v = undef, fun v _ => v = undef, fun v _ => v = .bool false]) 31 (by kernel_rfl) (by kernel_rfl) (by rfl) (fun W => Below.refl _ W) (fun _ _ _ h1 h2 => h1.trans (h2.mono h1.size)) (Grow.mono_nth ?gmono) ?gsteps ?gfin
          case gmono => exact ⟨fun _ _ _ h _ => h, fun _ _ _ h _ => h, fun _ _ _ h _ => h, fun _ _ _ h _ => h, fun _ _ _ h _ => h, fun _ _ _ h _ => h, fun _ _ _ h _ => h, fun _ _ _ h _ => h, fun _ _ _ h _ => h, fun _ _ _ h _ => h, fun _ _ _ h _ => h, fun _ _ _ h _ => h, fun _ _ _ h _ => h, fun _ _ _ h _ => h, fun _ _ _ h _ => h, fun _ _ _ h _ => h, fun _ _ _ h _ => h, trivial⟩
          case gsteps =>
            show Grow.allBelow _ 17
            refine And.intro ?_ ?s16
            refine And.intro ?_ ?s15
            refine And.intro ?_ ?s14
            refine And.intro ?_ ?s13
            refine And.intro ?_ ?s12
            refine And.intro ?_ ?s11
            refine And.intro ?_ ?s10
            refine And.intro ?_ ?s9
            refine And.intro ?_ ?s8
            refine And.intro ?_ ?s7
            refine And.intro ?_ ?s6
            refine And.intro ?_ ?s5
            refine And.intro ?_ ?s4
            refine And.intro ?_ ?s3
            refine And.intro ?_ ?s2
            refine And.intro ?_ ?s1
            refine And.intro ?_ ?s0
            exact trivial
            case s0 =>
              refine Grow.step_in (by rfl) (by rfl) ?_
              intro E W ec eg ef hG hd hu R HR
              have e5 : E (.tmp 5) = .pointer (some ⟨wr.heap.size, 0, none⟩) := hu 5 (by kernel_rfl)
              clear hd hu
              go_simp
              exact HR.out _ _ (Below.refl _ _) rfl
            case s1 =>
              refine Grow.step_in (by rfl) (by rfl) ?_
              intro E W ec eg ef hG hd hu R HR
              have e11 : E (.tmp 11) = .pointer (some ⟨wr.heap.size, 1, none⟩) := hd 0 11 (by kernel_rfl)
              clear hd hu
              have hcl := (hG.cell (p := ⟨wr.heap.size, 1, none⟩) HC.out.1).trans HC.out.2.2.1
              go_simp
              exact HR.out _ _ (Below.refl _ _) rfl
            case s2 =>
              refine Grow.step_in (by rfl) (by rfl) ?_
              intro E W ec eg ef hG hd hu R HR
              have e12 : E (.tmp 12) = .bool false := hd 1 12 (by kernel_rfl)
              clear hd hu
              go_simp
              exact HR.out _ _ (Below.refl _ _) rfl
            case s3 =>
              exact Grow.step_off (g := 2) (b := true) (b' := false) (d := 13) (by rfl) (by rfl) (by rfl) (by kernel_rfl) (fun v W h => h) (by decide) (fun _ => rfl)
            case s4 =>
              exact Grow.step_off (g := 2) (b := true) (b' := false) (d := 13) (by rfl) (by rfl) (by rfl) (by kernel_rfl) (fun v W h => h) (by decide) (fun _ => rfl)
            case s5 =>
              exact Grow.step_off (g := 2) (b := true) (b' := false) (d := 13) (by rfl) (by rfl) (by rfl) (by kernel_rfl) (fun v W h => h) (by decide) (fun _ => rfl)
            case s6 =>
              exact Grow.step_far (g := 5) (b := false) (d := 16) (by rfl) (by rfl) (by rfl) (by kernel_rfl) (fun v W h => h) (fun _ => rfl)
            case s7 =>
              exact Grow.step_far (g := 5) (b := false) (d := 16) (by rfl) (by rfl) (by rfl) (by kernel_rfl) (fun v W h => h) (fun _ => rfl)
            case s8 =>
              exact Grow.step_far (g := 5) (b := false) (d := 16) (by rfl) (by rfl) (by rfl) (by kernel_rfl) (fun v W h => h) (fun _ => rfl)
            case s9 =>
              exact Grow.step_far (g := 5) (b := false) (d := 16) (by rfl) (by rfl) (by rfl) (by kernel_rfl) (fun v W h => h) (fun _ => rfl)
            case s10 =>
              exact Grow.step_far (g := 5) (b := false) (d := 16) (by rfl) (by rfl) (by rfl) (by kernel_rfl) (fun v W h => h) (fun _ => rfl)
            case s11 =>
              exact Grow.step_far (g := 5) (b := false) (d := 16) (by rfl) (by rfl) (by rfl) (by kernel_rfl) (fun v W h => h) (fun _ => rfl)
            case s12 =>
              exact Grow.step_far (g := 5) (b := false) (d := 16) (by rfl) (by rfl) (by rfl) (by kernel_rfl) (fun v W h => h) (fun _ => rfl)
            case s13 =>
              exact Grow.step_far (g := 5) (b := false) (d := 16) (by rfl) (by rfl) (by rfl) (by kernel_rfl) (fun v W h => h) (fun _ => rfl)
            case s14 =>
              exact Grow.step_far (g := 5) (b := false) (d := 16) (by rfl) (by rfl) (by rfl) (by kernel_rfl) (fun v W h => h) (fun _ => rfl)
            case s15 =>
              exact Grow.step_off (g := 2) (b := true) (b' := false) (d := 13) (by rfl) (by rfl) (by rfl) (by kernel_rfl) (fun v W h => h) (by decide) (fun _ => rfl)
            case s16 =>
              refine Grow.step_in (by rfl) (by rfl) ?_
              intro E W ec eg ef hG hd hu R HR
              have e13 : E (.tmp 13) = .bool false := hd 2 13 (by kernel_rfl)
              have e26 : E (.tmp 26) = undef := hd 15 26 (by kernel_rfl)
              clear hd hu
              go_simp
              exact HR.out _ _ (Below.refl _ _) rfl
          case gfin =>
            intro W hG
            refine Grow.fin_dst (by rfl) ?_
            rintro _ rfl
            refine Grow.fin_dst (by rfl) ?_
            rintro _ rfl
            refine Grow.fin_dst (by rfl) ?_
            rintro _ rfl
            refine Grow.fin_dst (by rfl) ?_
            rintro _ rfl
            refine Grow.fin_dst (by rfl) ?_
            rintro _ rfl
            refine Grow.fin_dst (by rfl) ?_
            rintro _ rfl
            refine Grow.fin_dst (by rfl) ?_
            rintro _ rfl
            refine Grow.fin_dst (by rfl) ?_
            rintro _ rfl
            refine Grow.fin_dst (by rfl) ?_
            rintro _ rfl
            refine Grow.fin_dst (by rfl) ?_
            rintro _ rfl
            refine Grow.fin_dst (by rfl) ?_
            rintro _ rfl
            refine Grow.fin_dst (by rfl) ?_
            rintro _ rfl
            refine Grow.fin_dst (by rfl) ?_
            rintro _ rfl
            refine Grow.fin_dst (by rfl) ?_
            rintro _ rfl
            refine Grow.fin_dst (by rfl) ?_
            rintro _ rfl
            refine Grow.fin_dst (by rfl) ?_
            rintro _ rfl
            refine Grow.fin_dst (by rfl) ?_
            rintro _ rfl
            simp only [Act.put, List.setIfInBounds_toArray, List.set_cons_zero, List.set_cons_succ]
            refine Grow.fin_end ?_
            have HFG := Lib.hid (show Below w5.heap.size w5 W from ⟨hG.os, hG.tape, hG.output, hG.size, hG.block⟩)
            clear hG
            go_wp2_with fail
            go_roundw
            case rel =>
              unfold CntR
              refine ⟨H5.out.2.2.2.trans (HFG.out.mono H5.out.2.2.2.size), .inr (.inr ?_)⟩
              exact ⟨rfl, by first | rfl | simp [cntM]⟩
            case measure => simp only [intOf]; omega
        · go_upto_region 5 with fail
          have hd5 : Below wr.heap.size wr (wr.alloc (.cells #[.pointer (some ⟨q1, 0, none⟩), .bool true, .map b1, .slice A1 n1 k1] 79)) := (Below.refl _ _).alloc (Nat.le_refl _) _
          have hn5 := heap_alloc_new wr (.cells #[.pointer (some ⟨q1, 0, none⟩), .bool true, .map b1, .slice A1 n1 k1] 79)
          have hs5 : wr.heap.size < (wr.alloc (.cells #[.pointer (some ⟨q1, 0, none⟩), .bool true, .map b1, .slice A1 n1 k1] 79)).heap.size := by simp
          have H5 := Lib.hid (And.intro hd5 (And.intro hn5 (And.intro hs5 (HB.out.trans (hd5.mono HB.out.size)))))
          clear hd5 hn5 hs5
          generalize wr.alloc (.cells #[.pointer (some ⟨q1, 0, none⟩), .bool true, .map b1, .slice A1 n1 k1] 79) = w5 at *
          have HC : Hid (wr.heap.size < w5.drew.heap.size ∧ w5.drew.cell? ⟨wr.heap.size, 0, none⟩ = some (.pointer (some ⟨q1, 0, none⟩)) ∧ w5.drew.cell? ⟨wr.heap.size, 1, none⟩ = some (.bool true) ∧ w.heap.size < w5.drew.heap.size ∧ w5.drew.cell? ⟨w.heap.size, 0, none⟩ = some (.pointer (some ⟨q0, 0, none⟩)) ∧
              (∀ W, Below w5.drew.heap.size w5.drew W → Calls Tryz.prog 55 #[.pointer (some ⟨q0, 0, none⟩)] W fun e w' => e = .returned (.int .u64 (m0.first : Int)) ∧ W = w') ∧
              (∀ W, Below w5.drew.heap.size w5.drew W → Calls Tryz.prog 55 #[.pointer (some ⟨q1, 0, none⟩)] W fun e w' => e = .returned (.int .u64 (m1.first : Int)) ∧ W = w')) :=
            Lib.hid ⟨H5.out.2.2.1, cell_of_cells (w := w5.drew) H5.out.2.1 0, cell_of_cells (w := w5.drew) H5.out.2.1 1, Nat.lt_of_lt_of_le (lt_of_cells HAL.out.2) H5.out.2.2.2.size,
              cell_of_cells (w := w5.drew) ((H5.out.2.2.2.block _ (lt_of_cells HAL.out.2)).trans HAL.out.2) 0, fun W hb => wfirst_any ((HLG.out.1.below H5.out.2.2.2).drew.below hb), fun W hb => wfirst_any ((HLG.out.2.below H5.out.2.2.2).drew.below hb)⟩
          refine wp_region_grow (fun W W' => Below W.heap.size W W') (Grow.nth [fun v _ => v = .pointer (some ⟨wr.heap.size, 1, none⟩), fun v _ => v = .bool true, fun v _ => v = .bool true, fun v _ => v = .int .i64 (0), fun v _ => v = .bool false, fun v _ => v = .bool false, fun v _ => v = .pointer (some ⟨wr.heap.size, 0, none⟩), fun v _ => v = .pointer (some ⟨q1, 0, none⟩), fun v _ => v = .int .u64 (m1.first : Int), fun v _ => v = .int .i64 (0), fun v _ => v = .pointer (some ⟨w.heap.size, 0, none⟩), fun v _ => v = .pointer (some ⟨w.heap.size, 0, none⟩), fun v _ => v = .pointer (some ⟨q0, 0, none⟩), fun v _ => v = .int .u64 (m0.first : Int), fun v _ => v = .bool (decide (m0.first < m1.first)), fun v _ => v = .bool (decide (m0.first < m1.first)), fun v _ => v = .bool (decide (m0.first < m1.first))]) 31 (by kernel_rfl) (by kernel_rfl) (by rfl) (fun W => Below.refl _ W) (fun _ _ _ h1 h2 => h1.trans (h2.mono h1.size)) (Grow.mono_nth ?gmono) ?gsteps ?gfin
          case gmono => exact ⟨fun _ _ _ h _ => h, fun _ _ _ h _ => h, fun _ _ _ h _ => h, fun _ _ _ h _ => h, fun _ _ _ h _ => h, fun _ _ _ h _ => h, fun _ _ _ h _ => h, fun _ _ _ h _ => h, fun _ _ _ h _ => h, fun _ _ _ h _ => h, fun _ _ _ h _ => h, fun _ _ _ h _ => h, fun _ _ _ h _ => h, fun _ _ _ h _ => h, fun _ _ _ h _ => h, fun _ _ _ h _ => h, fun _ _ _ h _ => h, trivial⟩
          case gsteps =>
            show Grow.allBelow _ 17
            refine And.intro ?_ ?s16
            refine And.intro ?_ ?s15
            refine And.intro ?_ ?s14
            refine And.intro ?_ ?s13
            refine And.intro ?_ ?s12
            refine And.intro ?_ ?s11
            refine And.intro ?_ ?s10
            refine And.intro ?_ ?s9
            refine And.intro ?_ ?s8
            refine And.intro ?_ ?s7
            refine And.intro ?_ ?s6
            refine And.intro ?_ ?s5
            refine And.intro ?_ ?s4
            refine And.intro ?_ ?s3
            refine And.intro ?_ ?s2
            refine And.intro ?_ ?s1
            refine And.intro ?_ ?s0
            exact trivial
            case s0 =>
              refine Grow.step_in (by rfl) (by rfl) ?_
              intro E W ec eg ef hG hd hu R HR
              have e5 : E (.tmp 5) = .pointer (some ⟨wr.heap.size, 0, none⟩) := hu 5 (by kernel_rfl)
              clear hd hu
              go_simp
              exact HR.out _ _ (Below.refl _ _) rfl
            case s1 =>
              refine Grow.step_in (by rfl) (by rfl) ?_
              intro E W ec eg ef hG hd hu R HR
              have e11 : E (.tmp 11) = .pointer (some ⟨wr.heap.size, 1, none⟩) := hd 0 11 (by kernel_rfl)
              clear hd hu
              have hcl := (hG.cell (p := ⟨wr.heap.size, 1, none⟩) HC.out.1).trans HC.out.2.2.1
              go_simp
              exact HR.out _ _ (Below.refl _ _) rfl
            case s2 =>
              refine Grow.step_in (by rfl) (by rfl) ?_
              intro E W ec eg ef hG hd hu R HR
              have e12 : E (.tmp 12) = .bool true := hd 1 12 (by kernel_rfl)
              clear hd hu
              go_simp
              exact HR.out _ _ (Below.refl _ _) rfl
            case s3 =>
              refine Grow.step_on (g := 2) (b := true) (d := 13) (by rfl) (by rfl) (by rfl) (by kernel_rfl) (fun v W h => h) ?_
              intro E W ec eg ef hG hd hu R HR
              have e3 : E (.tmp 3) = .int .i64 (0) := hu 3 (by kernel_rfl)
              clear hd hu
              go_simp
              exact HR.out _ _ (Below.refl _ _) rfl
            case s4 =>
              refine Grow.step_on (g := 2) (b := true) (d := 13) (by rfl) (by rfl) (by rfl) (by kernel_rfl) (fun v W h => h) ?_
              intro E W ec eg ef hG hd hu R HR
              have e14 : E (.tmp 14) = .int .i64 (0) := hd 3 14 (by kernel_rfl)
              clear hd hu
              go_simp
              exact HR.out _ _ (Below.refl _ _) rfl
            case s5 =>
              refine Grow.step_on (g := 2) (b := true) (d := 13) (by rfl) (by rfl) (by rfl) (by kernel_rfl) (fun v W h => h) ?_
              intro E W ec eg ef hG hd hu R HR
              have e15 : E (.tmp 15) = .bool false := hd 4 15 (by kernel_rfl)
              clear hd hu
              go_simp
              exact HR.out _ _ (Below.refl _ _) rfl
            case s6 =>
              refine Grow.step_on (g := 5) (b := false) (d := 16) (by rfl) (by rfl) (by rfl) (by kernel_rfl) (fun v W h => h) ?_
              intro E W ec eg ef hG hd hu R HR
              have e5 : E (.tmp 5) = .pointer (some ⟨wr.heap.size, 0, none⟩) := hu 5 (by kernel_rfl)
              clear hd hu
              go_simp
              exact HR.out _ _ (Below.refl _ _) rfl
            case s7 =>
              refine Grow.step_on (g := 5) (b := false) (d := 16) (by rfl) (by rfl) (by rfl) (by kernel_rfl) (fun v W h => h) ?_
              intro E W ec eg ef hG hd hu R HR
              have e17 : E (.tmp 17) = .pointer (some ⟨wr.heap.size, 0, none⟩) := hd 6 17 (by kernel_rfl)
              clear hd hu
              have hcl := (hG.cell (p := ⟨wr.heap.size, 0, none⟩) HC.out.1).trans HC.out.2.1
              go_simp
              exact HR.out _ _ (Below.refl _ _) rfl
            case s8 =>
              refine Grow.step_on (g := 5) (b := false) (d := 16) (by rfl) (by rfl) (by rfl) (by kernel_rfl) (fun v W h => h) ?_
              intro E W ec eg ef hG hd hu R HR
              have e18 : E (.tmp 18) = .pointer (some ⟨q1, 0, none⟩) := hd 7 18 (by kernel_rfl)
              clear hd hu
              go_simp
              refine (HC.out.2.2.2.2.2.2 W hG).mono ?_
              rintro _ w' ⟨rfl, rfl⟩
              exact ⟨_, rfl, HR.out _ _ (Below.refl _ _) rfl⟩
            case s9 =>
              refine Grow.step_on (g := 5) (b := false) (d := 16) (by rfl) (by rfl) (by rfl) (by kernel_rfl) (fun v W h => h) ?_
              intro E W ec eg ef hG hd hu R HR
              have e3 : E (.tmp 3) = .int .i64 (0) := hu 3 (by kernel_rfl)
              clear hd hu
              go_simp
              exact HR.out _ _ (Below.refl _ _) rfl
            case s10 =>
              refine Grow.step_on (g := 5) (b := false) (d := 16) (by rfl) (by rfl) (by rfl) (by kernel_rfl) (fun v W h => h) ?_
              intro E W ec eg ef hG hd hu R HR
              have e1 : E (.tmp 1) = .pointer (some ⟨w.heap.size, 0, none⟩) := hu 1 (by kernel_rfl)
              have e20 : E (.tmp 20) = .int .i64 (0) := hd 9 20 (by kernel_rfl)
              clear hd hu
              go_simp
              exact HR.out _ _ (Below.refl _ _) rfl
            case s11 =>
              refine Grow.step_on (g := 5) (b := false) (d := 16) (by rfl) (by rfl) (by rfl) (by kernel_rfl) (fun v W h => h) ?_
              intro E W ec eg ef hG hd hu R HR
              have e21 : E (.tmp 21) = .pointer (some ⟨w.heap.size, 0, none⟩) := hd 10 21 (by kernel_rfl)
              clear hd hu
              go_simp
              exact HR.out _ _ (Below.refl _ _) rfl
            case s12 =>
              refine Grow.step_on (g := 5) (b := false) (d := 16) (by rfl) (by rfl) (by rfl) (by kernel_rfl) (fun v W h => h) ?_
              intro E W ec eg ef hG hd hu R HR
              have e22 : E (.tmp 22) = .pointer (some ⟨w.heap.size, 0, none⟩) := hd 11 22 (by kernel_rfl)
              clear hd hu
              have hcl := (hG.cell (p := ⟨w.heap.size, 0, none⟩) HC.out.2.2.2.1).trans HC.out.2.2.2.2.1
              go_simp
              exact HR.out _ _ (Below.refl _ _) rfl
            case s13 =>
              refine Grow.step_on (g := 5) (b := false) (d := 16) (by rfl) (by rfl) (by rfl) (by kernel_rfl) (fun v W h => h) ?_
              intro E W ec eg ef hG hd hu R HR
              have e23 : E (.tmp 23) = .pointer (some ⟨q0, 0, none⟩) := hd 12 23 (by kernel_rfl)
              clear hd hu
              go_simp
              refine (HC.out.2.2.2.2.2.1 W hG).mono ?_
              rintro _ w' ⟨rfl, rfl⟩
              exact ⟨_, rfl, HR.out _ _ (Below.refl _ _) rfl⟩
            case s14 =>
              refine Grow.step_on (g := 5) (b := false) (d := 16) (by rfl) (by rfl) (by rfl) (by kernel_rfl) (fun v W h => h) ?_
              intro E W ec eg ef hG hd hu R HR
              have e19 : E (.tmp 19) = .int .u64 (m1.first : Int) := hd 8 19 (by kernel_rfl)
              have e24 : E (.tmp 24) = .int .u64 (m0.first : Int) := hd 13 24 (by kernel_rfl)
              clear hd hu
              go_simp
              exact HR.out _ _ (Below.refl _ _) (by show Value.bool _ = Value.bool _; simp)
            case s15 =>
              refine Grow.step_on (g := 2) (b := true) (d := 13) (by rfl) (by rfl) (by rfl) (by kernel_rfl) (fun v W h => h) ?_
              intro E W ec eg ef hG hd hu R HR
              have e16 : E (.tmp 16) = .bool false := hd 5 16 (by kernel_rfl)
              have e25 : E (.tmp 25) = .bool (decide (m0.first < m1.first)) := hd 14 25 (by kernel_rfl)
              clear hd hu
              go_simp
              exact HR.out _ _ (Below.refl _ _) rfl
            case s16 =>
              refine Grow.step_in (by rfl) (by rfl) ?_
              intro E W ec eg ef hG hd hu R HR
              have e13 : E (.tmp 13) = .bool true := hd 2 13 (by kernel_rfl)
              have e26 : E (.tmp 26) = .bool (decide (m0.first < m1.first)) := hd 15 26 (by kernel_rfl)
              clear hd hu
              go_simp
              exact HR.out _ _ (Below.refl _ _) rfl
          case gfin =>
            intro W hG
            refine Grow.fin_dst (by rfl) ?_
            rintro _ rfl
            refine Grow.fin_dst (by rfl) ?_
            rintro _ rfl
            refine Grow.fin_dst (by rfl) ?_
            rintro _ rfl
            refine Grow.fin_dst (by rfl) ?_
            rintro _ rfl
            refine Grow.fin_dst (by rfl) ?_
            rintro _ rfl
            refine Grow.fin_dst (by rfl) ?_
            rintro _ rfl
            refine Grow.fin_dst (by rfl) ?_
            rintro _ rfl
            refine Grow.fin_dst (by rfl) ?_
            rintro _ rfl
            refine Grow.fin_dst (by rfl) ?_
            rintro _ rfl
            refine Grow.fin_dst (by rfl) ?_
            rintro _ rfl
            refine Grow.fin_dst (by rfl) ?_
            rintro _ rfl
            refine Grow.fin_dst (by rfl) ?_
            rintro _ rfl
            refine Grow.fin_dst (by rfl) ?_
            rintro _ rfl
            refine Grow.fin_dst (by rfl) ?_
            rintro _ rfl
            refine Grow.fin_dst (by rfl) ?_
            rintro _ rfl
            refine Grow.fin_dst (by rfl) ?_
            rintro _ rfl
            refine Grow.fin_dst (by rfl) ?_
            rintro _ rfl
            simp only [Act.put, List.setIfInBounds_toArray, List.set_cons_zero, List.set_cons_succ]
            refine Grow.fin_end ?_
            have HFG := Lib.hid (show Below w5.heap.size w5 W from ⟨hG.os, hG.tape, hG.output, hG.size, hG.block⟩)
            clear hG
            by_cases hff : m0.first < m1.first
            · have hdf : decide (m0.first < m1.first) = true := by simpa using hff
              have HDF := Lib.hid hff
              clear hff
              rw [hdf]
              go_wp2_with fail
              go_roundw
              case rel =>
                unfold CntR
                refine ⟨H5.out.2.2.2.trans (HFG.out.mono H5.out.2.2.2.size), .inr (.inr ?_)⟩
                exact ⟨rfl, by simp [cntM, HDF.out]⟩
              case measure => simp only [intOf]; omega
            · have hdf : decide (m0.first < m1.first) = false := by simpa using hff
              have HDF := Lib.hid hff
              clear hff
              rw [hdf]
              go_wp2_with fail
              go_roundw
              case rel =>
                unfold CntR
                refine ⟨H5.out.2.2.2.trans (HFG.out.mono H5.out.2.2.2.size), .inr (.inr ?_)⟩
                exact ⟨rfl, by simp [cntM, HDF.out]⟩
              case measure => simp only [intOf]; omega

    · have HF := Lib.hid (HAL.out.1.trans (HB.out.mono HAL.out.1.size))
      go_wp2_with fail
      go_ret
      exact ⟨rfl, HF.out⟩
end Go.Proofs.YtcgnaomffioldaaGreat
