/-
  Cells: changes are written.
  Cells: why changes may not be done.
  Cells: Apply.
  A log on a disk of a call's own.
-/
import Derived.Test.YtcgnaomffioldaaGreatPk19
import Derived.Test.YtcgnaomffioldaaGreatPk05
import Derived.Test.YtcgnaomffioldaaGreatPk18
import Derived.Test.YtcgnaomffioldaaGreatPk15
/-! Cells: changes are written. -/
namespace Go.Proofs.YtcgnaomffioldaaGreat
open Go.RowKit Codec

theorem chsB_few {l : List Ch} (h : wtC l ≤ 800000) : (chsB l).length ≤ 1000000 := by
  have := chsB_len l (by omega)
  omega
set_option maxHeartbeats 8000000 in
set_option maxRecDepth 100000 in
theorem cwrite_any {w : World} {S T U : Nat → Prop} {p g : Nat} {d : DM} {s : SM} (h : Cs w T p g s) (hd : Dk w S g d) (hST : ∀ k, k < w.heap.size → S k → ¬ T k) (ok : SOk s) (h1 : 1 ≤ hn d) {A : Option Addr} {n c : Nat} {l : List Ch} (hl : Chs w U A n c l) (hb : wtT s.t + wtC l ≤ 800000) (hk : ∀ x ∈ l, x.k.length ≤ 1000000 ∧ x.v.length ≤ 1000000) :
    Calls Tryz.prog 37 #[.pointer (some ⟨p, 0, none⟩), .slice A n c] w fun e w' => WrP w S T p g (writeC d s l) e w' := by
  have hrec := chsrec_any hl (by omega)
  have hln := chsB_few (l := l) (by omega)
  obtain ⟨B, hB⟩ : ∃ B, B = chsB l := ⟨_, rfl⟩
  have HW : Hid (writeC d s l = if s.log.first ≠ 0 ∧ (blocksN B.length : Int) ≤ s.log.n - (s.log.have_ : Int) then ((addM d s.log B).1, { s with log := (addM d s.log B).2.1 }, (addM d s.log B).2.2) else turnC d s l) := Lib.hid (by rw [hB]; rfl)
  rw [← hB] at hrec hln
  obtain ⟨q, b, SL, SN, hTp, hrow, hlg, hnm, hSL, hSN⟩ := h
  have HS := Lib.hid (And.intro hTp (And.intro hrow (And.intro hlg (And.intro hnm (And.intro hSL hSN)))))
  have HP := Lib.hid (lt_of_cells hrow)
  have HL := Lib.hid (And.intro hl (And.intro hb (And.intro hk (And.intro hd (And.intro hST (And.intro ok (And.intro h1 hln)))))))
  clear hTp hrow hlg hnm hSL hSN hl hb hk hd hST ok h1 hB hln
  go_enter Tryz.func37, Tryz.ntmps37
  go_upto_region 2 with (go_at_call 65; refine hrec.mono ?_; clear hrec; rintro _ w1 ⟨A1, n1, c1, rfl, hy1, hb1⟩)
  obtain rfl : B.length = n1 := hy1.len
  have H1 := Lib.hid (And.intro (hy1.mono (T := fun k => w.heap.size ≤ k ∧ k < w1.heap.size) fun k hk h => ⟨h, hk⟩) hb1)
  clear hy1 hb1
  have HC : Hid (p < w1.drew.heap.size ∧ w1.drew.cell? ⟨p, 2, none⟩ = some (.pointer (some ⟨q, 0, none⟩)) ∧
      (∀ W, Below w1.drew.heap.size w1.drew W → Calls Tryz.prog 55 #[.pointer (some ⟨q, 0, none⟩)] W fun e w' => e = .returned (.int .u64 (s.log.first : Int)) ∧ W = w') ∧
      (∀ W, Below w1.drew.heap.size w1.drew W → Calls Tryz.prog 67 #[.pointer (some ⟨q, 0, none⟩)] W fun e w' => e = .returned (.int .i64 (s.log.n - (s.log.have_ : Int))) ∧ w' = W.drew)) :=
    Lib.hid ⟨Nat.lt_of_lt_of_le HP.out H1.out.2.size, cell_of_cells (w := w1.drew) ((H1.out.2.block _ HP.out).trans HS.out.2.1) 2, fun W hb => wfirst_any (((HS.out.2.2.1.below H1.out.2).drew).below hb), fun W hb => wfree_any (((HS.out.2.2.1.below H1.out.2).drew).below hb) HL.out.2.2.2.2.2.1.log⟩
  obtain ⟨N1, hN1⟩ : ∃ N1, N1 = B.length := ⟨_, rfl⟩
  have HBK : Hid (∀ W, Calls Tryz.prog 66 #[.int .i64 (N1 : Int)] W fun e w' => e = .returned (.int .i64 (blocksN N1 : Int)) ∧ W = w') := Lib.hid fun W => wblocks_any N1 (by rw [hN1]; exact HL.out.2.2.2.2.2.2.2) W
  rw [← hN1] at HW ⊢
  have HN1 := Lib.hid hN1
  clear hN1
  have hcs : Hid (Cs w T p g s) := Lib.hid ⟨q, b, SL, SN, HS.out⟩
  have HTN : Hid (∀ W, Below w.heap.size w W → Calls Tryz.prog 69 #[.pointer (some ⟨p, 0, none⟩), .slice A n c] W fun e w' => WrP w S T p g (turnC d s l) e w') := Lib.hid fun W hb => by
    have hl := HL.out
    refine (cturn_any ((hcs.out.mono (T := fun k => T k ∧ k < w.heap.size) fun k hk h => ⟨h, hk⟩).below hb) ((hl.2.2.2.1.mono (T := fun k => S k ∧ k < w.heap.size) fun k hk h => ⟨h, hk⟩).below hb) (fun k _ h2 h3 => hl.2.2.2.2.1 k h2.2 h2.1 h3.1) hl.2.2.2.2.2.1 hl.2.2.2.2.2.2.1 (hl.1.below hb) hl.2.1 hl.2.2.1).mono ?_
    rintro e w' ⟨h2, h3, h4, h5⟩
    refine ⟨h2, h3.mono fun k _ h => h.1, h4.mono fun k _ h => ?_, (Turned.of_below (S := fun k => S k ∨ T k) hb).trans h5 fun k _ h => ?_⟩
    · rcases h with h | h
      · exact .inl h.1
      · exact .inr (Nat.le_trans hb.size h)
    · rcases h with h | h
      · exact .inl h.1
      · exact .inr h.1
  by_cases hf : s.log.first = 0
  · have hf' : ((s.log.first : Int) != 0) = false := by rw [hf]; rfl
    have HNE := Lib.hid hf'
    have HF := Lib.hid hf
    clear hf hf'
    refine wp_region_grow (fun W W' => Below W.heap.size W W') (Grow.nth [fun v _ => v = .pointer (some ⟨p, 0, none⟩), fun v _ => v = .pointer (some ⟨p, 0, none⟩), fun v _ => v = .pointer (some ⟨p, 2, none⟩), fun v _ => v = .pointer (some ⟨q, 0, none⟩), fun v _ => v = .int .u64 (s.log.first : Int), fun v _ => v = .bool false, fun v _ => v = .bool false, fun v _ => v = undef, fun v _ => v = undef, fun v _ => v = undef, fun v _ => v = undef, fun v _ => v = undef, fun v _ => v = undef, fun v _ => v = undef, fun v _ => v = undef, fun v _ => v = undef, fun v _ => v = .bool false]) 34 (by kernel_rfl) (by kernel_rfl) (by rfl) (fun W => Below.refl _ W) (fun _ _ _ h1 h2 => h1.trans (h2.mono h1.size)) (Grow.mono_nth ?gmono) ?gsteps ?gfin
    case gmono => exact ⟨fun _ _ _ h _ => h, fun _ _ _ h _ => h, fun _ _ _ h _ => h, fun _ _ _ h _ => h, fun _ _ _ h _ => h, fun _ _ _ h _ => h, fun _ _ _ h _ => h, fun _ _ _ h _ => h, fun _ _ _ h _ => h, fun _ _ _ h _ => h, fun _ _ _ h _ => h, fun _ _ _ h _ => h, fun _ _ _ h _ => h, fun _ _ _ h _ => h, fun _ _ _ h _ => h, fun _ _ _ h _ => h, fun _ _ _ h _ => h, trivial⟩
    case gsteps =>
      show Grow.allBelow _ 17
      refine And.intro ?_ ?s16
      refine And.intro ?_ ?s15
      refine And.intro ?_ ?s14
      refine And.intro ?_ ?s13
      refine And.intro ?_ ?s12
      refine And.intro ?_ ?s11
      refine And.intro ?_ ?s10
      refine And.intro ?_ ?s9
      refine And.intro ?_ ?s8
      refine And.intro ?_ ?s7
      refine And.intro ?_ ?s6
      refine And.intro ?_ ?s5
      refine And.intro ?_ ?s4
      refine And.intro ?_ ?s3
      refine And.intro ?_ ?s2
      refine And.intro ?_ ?s1
      refine And.intro ?_ ?s0
      exact trivial
      case s0 =>
        refine Grow.step_in (by rfl) (by rfl) ?_
        intro E W ec eg ef hG hd hu R HR
        have e0 : E (.tmp 0) = .pointer (some ⟨p, 0, none⟩) := hu 0 (by kernel_rfl)
        clear hd hu
        go_simp
        exact HR.out _ _ (Below.refl _ _) rfl
      case s1 =>
        refine Grow.step_in (by rfl) (by rfl) ?_
        intro E W ec eg ef hG hd hu R HR
        have e8 : E (.tmp 8) = .pointer (some ⟨p, 0, none⟩) := hd 0 8 (by kernel_rfl)
        clear hd hu
        go_simp
        exact HR.out _ _ (Below.refl _ _) rfl
      case s2 =>
        refine Grow.step_in (by rfl) (by rfl) ?_
        intro E W ec eg ef hG hd hu R HR
        have e9 : E (.tmp 9) = .pointer (some ⟨p, 0, none⟩) := hd 1 9 (by kernel_rfl)
        clear hd hu
        go_simp
        exact HR.out _ _ (Below.refl _ _) rfl
      case s3 =>
        refine Grow.step_in (by rfl) (by rfl) ?_
        intro E W ec eg ef hG hd hu R HR
        have e10 : E (.tmp 10) = .pointer (some ⟨p, 2, none⟩) := hd 2 10 (by kernel_rfl)
        clear hd hu
        have hcl := (hG.cell (p := ⟨p, 2, none⟩) HC.out.1).trans HC.out.2.1
        go_simp
        exact HR.out _ _ (Below.refl _ _) rfl
      case s4 =>
        refine Grow.step_in (by rfl) (by rfl) ?_
        intro E W ec eg ef hG hd hu R HR
        have e11 : E (.tmp 11) = .pointer (some ⟨q, 0, none⟩) := hd 3 11 (by kernel_rfl)
        clear hd hu
        go_simp
        refine (HC.out.2.2.1 W hG).mono ?_
        rintro _ w' ⟨rfl, rfl⟩
        exact ⟨_, rfl, HR.out _ _ (Below.refl _ _) rfl⟩
      case s5 =>
        refine Grow.step_in (by rfl) (by rfl) ?_
        intro E W ec eg ef hG hd hu R HR
        have e12 : E (.tmp 12) = .int .u64 (s.log.first : Int) := hd 4 12 (by kernel_rfl)
        clear hd hu
        have hq := HNE.out
        go_simp
        exact HR.out _ _ (Below.refl _ _) rfl
      case s6 =>
        refine Grow.step_in (by rfl) (by rfl) ?_
        intro E W ec eg ef hG hd hu R HR
        have e13 : E (.tmp 13) = .bool false := hd 5 13 (by kernel_rfl)
        clear hd hu
        go_simp
        exact HR.out _ _ (Below.refl _ _) rfl
      case s7 =>
        exact Grow.step_off (g := 6) (b := true) (b' := false) (d := 14) (by rfl) (by rfl) (by rfl) (by kernel_rfl) (fun v W h => h) (by decide) (fun _ => rfl)
      case s8 =>
        exact Grow.step_off (g := 6) (b := true) (b' := false) (d := 14) (by rfl) (by rfl) (by rfl) (by kernel_rfl) (fun v W h => h) (by decide) (fun _ => rfl)
      case s9 =>
        exact Grow.step_off (g := 6) (b := true) (b' := false) (d := 14) (by rfl) (by rfl) (by rfl) (by kernel_rfl) (fun v W h => h) (by decide) (fun _ => rfl)
      case s10 =>
        exact Grow.step_off (g := 6) (b := true) (b' := false) (d := 14) (by rfl) (by rfl) (by rfl) (by kernel_rfl) (fun v W h => h) (by decide) (fun _ => rfl)
      case s11 =>
        exact Grow.step_off (g := 6) (b := true) (b' := false) (d := 14) (by rfl) (by rfl) (by rfl) (by kernel_rfl) (fun v W h => h) (by decide) (fun _ => rfl)
      case s12 =>
        exact Grow.step_off (g := 6) (b := true) (b' := false) (d := 14) (by rfl) (by rfl) (by rfl) (by kernel_rfl) (fun v W h => h) (by decide) (fun _ => rfl)
      case s13 =>
        exact Grow.step_off (g := 6) (b := true) (b' := false) (d := 14) (by rfl) (by rfl) (by rfl) (by kernel_rfl) (fun v W h => h) (by decide) (fun _ => rfl)
      case s14 =>
        exact Grow.step_off (g := 6) (b := true) (b' := false) (d := 14) (by rfl) (by rfl) (by rfl) (by kernel_rfl) (fun v W h => h) (by decide) (fun _ => rfl)
      case s15 =>
        exact Grow.step_off (g := 6) (b := true) (b' := false) (d := 14) (by rfl) (by rfl) (by rfl) (by kernel_rfl) (fun v W h => h) (by decide) (fun _ => rfl)
      case s16 =>
        refine Grow.step_in (by rfl) (by rfl) ?_
        intro E W ec eg ef hG hd hu R HR
        have e14 : E (.tmp 14) = .bool false := hd 6 14 (by kernel_rfl)
        have e23 : E (.tmp 23) = undef := hd 15 23 (by kernel_rfl)
        clear hd hu
        go_simp
        exact HR.out _ _ (Below.refl _ _) rfl
    case gfin =>
      intro W hG
      refine Grow.fin_dst (by rfl) ?_
      rintro _ rfl
      refine Grow.fin_dst (by rfl) ?_
      rintro _ rfl
      refine Grow.fin_dst (by rfl) ?_
      rintro _ rfl
      refine Grow.fin_dst (by rfl) ?_
      rintro _ rfl
      refine Grow.fin_dst (by rfl) ?_
      rintro _ rfl
      refine Grow.fin_dst (by rfl) ?_
      rintro _ rfl
      refine Grow.fin_dst (by rfl) ?_
      rintro _ rfl
      refine Grow.fin_dst (by rfl) ?_
      rintro _ rfl
      refine Grow.fin_dst (by rfl) ?_
      rintro _ rfl
      refine Grow.fin_dst (by rfl) ?_
      rintro _ rfl
      refine Grow.fin_dst (by rfl) ?_
      rintro _ rfl
      refine Grow.fin_dst (by rfl) ?_
      rintro _ rfl
      refine Grow.fin_dst (by rfl) ?_
      rintro _ rfl
      refine Grow.fin_dst (by rfl) ?_
      rintro _ rfl
      refine Grow.fin_dst (by rfl) ?_
      rintro _ rfl
      refine Grow.fin_dst (by rfl) ?_
      rintro _ rfl
      refine Grow.fin_dst (by rfl) ?_
      rintro _ rfl
      simp only [Act.put, List.setIfInBounds_toArray, List.set_cons_zero, List.set_cons_succ]
      refine Grow.fin_end ?_
      have HWW := Lib.hid (show Below w1.heap.size w1 W from ⟨hG.os, hG.tape, hG.output, hG.size, hG.block⟩)
      have htn := HTN.out W (H1.out.2.trans (HWW.out.mono H1.out.2.size))
      clear hG
      go_wp2_with (go_at_call 69; refine htn.mono ?_; clear htn; rintro _ w7 ⟨rfl, h7⟩; have H7 := Lib.hid h7; clear h7)
      go_ret
      rw [HW.out, if_neg (fun h => h.1 HF.out)]
      exact ⟨rfl, H7.out⟩
  · have hf' : ((s.log.first : Int) != 0) = true := by simp; omega
    have HNE := Lib.hid hf'
    have HF := Lib.hid hf
    clear hf hf'
    by_cases hr : (blocksN N1 : Int) ≤ s.log.n - (s.log.have_ : Int)
    · have hr' : decide ((blocksN N1 : Int) ≤ s.log.n - (s.log.have_ : Int)) = true := by simpa using hr
      have HLE := Lib.hid hr'
      have HR := Lib.hid hr
      clear hr hr'
      refine wp_region_grow (fun W W' => Below W.heap.size W W') (Grow.nth [fun v _ => v = .pointer (some ⟨p, 0, none⟩), fun v _ => v = .pointer (some ⟨p, 0, none⟩), fun v _ => v = .pointer (some ⟨p, 2, none⟩), fun v _ => v = .pointer (some ⟨q, 0, none⟩), fun v _ => v = .int .u64 (s.log.first : Int), fun v _ => v = .bool true, fun v _ => v = .bool true, fun v _ => v = .slice A1 N1 c1, fun v _ => v = .int .i64 (N1 : Int), fun v _ => v = .int .i64 (blocksN N1 : Int), fun v _ => v = .pointer (some ⟨p, 0, none⟩), fun v _ => v = .pointer (some ⟨p, 0, none⟩), fun v _ => v = .pointer (some ⟨p, 2, none⟩), fun v _ => v = .pointer (some ⟨q, 0, none⟩), fun v _ => v = .int .i64 (s.log.n - (s.log.have_ : Int)), fun v _ => v = .bool true, fun v _ => v = .bool true]) 34 (by kernel_rfl) (by kernel_rfl) (by rfl) (fun W => Below.refl _ W) (fun _ _ _ h1 h2 => h1.trans (h2.mono h1.size)) (Grow.mono_nth ?gmono) ?gsteps ?gfin
      case gmono => exact ⟨fun _ _ _ h _ => h, fun _ _ _ h _ => h, fun _ _ _ h _ => h, fun _ _ _ h _ => h, fun _ _ _ h _ => h, fun _ _ _ h _ => h, fun _ _ _ h _ => h, fun _ _ _ h _ => h, fun _ _ _ h _ => h, fun _ _ _ h _ => h, fun _ _ _ h _ => h, fun _ _ _ h _ => h, fun _ _ _ h _ => h, fun _ _ _ h _ => h, fun _ _ _ h _ => h, fun _ _ _ h _ => h, fun _ _ _ h _ => h, trivial⟩
      case gsteps =>
        show Grow.allBelow _ 17
        refine And.intro ?_ ?s16
        refine And.intro ?_ ?s15
        refine And.intro ?_ ?s14
        refine And.intro ?_ ?s13
        refine And.intro ?_ ?s12
        refine And.intro ?_ ?s11
        refine And.intro ?_ ?s10
        refine And.intro ?_ ?s9
        refine And.intro ?_ ?s8
        refine And.intro ?_ ?s7
        refine And.intro ?_ ?s6
        refine And.intro ?_ ?s5
        refine And.intro ?_ ?s4
        refine And.intro ?_ ?s3
        refine And.intro ?_ ?s2
        refine And.intro ?_ ?s1
        refine And.intro ?_ ?s0
        exact trivial
        case s0 =>
          refine Grow.step_in (by rfl) (by rfl) ?_
          intro E W ec eg ef hG hd hu R HR
          have e0 : E (.tmp 0) = .pointer (some ⟨p, 0, none⟩) := hu 0 (by kernel_rfl)
          clear hd hu
          go_simp
          exact HR.out _ _ (Below.refl _ _) rfl
        case s1 =>
          refine Grow.step_in (by rfl) (by rfl) ?_
          intro E W ec eg ef hG hd hu R HR
          have e8 : E (.tmp 8) = .pointer (some ⟨p, 0, none⟩) := hd 0 8 (by kernel_rfl)
          clear hd hu
          go_simp
          exact HR.out _ _ (Below.refl _ _) rfl
        case s2 =>
          refine Grow.step_in (by rfl) (by rfl) ?_
          intro E W ec eg ef hG hd hu R HR
          have e9 : E (.tmp 9) = .pointer (some ⟨p, 0, none⟩) := hd 1 9 (by kernel_rfl)
          clear hd hu
          go_simp
          exact HR.out _ _ (Below.refl _ _) rfl
        case s3 =>
          refine Grow.step_in (by rfl) (by rfl) ?_
          intro E W ec eg ef hG hd hu R HR
          have e10 : E (.tmp 10) = .pointer (some ⟨p, 2, none⟩) := hd 2 10 (by kernel_rfl)
          clear hd hu
          have hcl := (hG.cell (p := ⟨p, 2, none⟩) HC.out.1).trans HC.out.2.1
          go_simp
          exact HR.out _ _ (Below.refl _ _) rfl
        case s4 =>
          refine Grow.step_in (by rfl) (by rfl) ?_
          intro E W ec eg ef hG hd hu R HR
          have e11 : E (.tmp 11) = .pointer (some ⟨q, 0, none⟩) := hd 3 11 (by kernel_rfl)
          clear hd hu
          go_simp
          refine (HC.out.2.2.1 W hG).mono ?_
          rintro _ w' ⟨rfl, rfl⟩
          exact ⟨_, rfl, HR.out _ _ (Below.refl _ _) rfl⟩
        case s5 =>
          refine Grow.step_in (by rfl) (by rfl) ?_
          intro E W ec eg ef hG hd hu R HR
          have e12 : E (.tmp 12) = .int .u64 (s.log.first : Int) := hd 4 12 (by kernel_rfl)
          clear hd hu
          have hq := HNE.out
          go_simp
          exact HR.out _ _ (Below.refl _ _) rfl
        case s6 =>
          refine Grow.step_in (by rfl) (by rfl) ?_
          intro E W ec eg ef hG hd hu R HR
          have e13 : E (.tmp 13) = .bool true := hd 5 13 (by kernel_rfl)
          clear hd hu
          go_simp
          exact HR.out _ _ (Below.refl _ _) rfl
        case s7 =>
          refine Grow.step_on (g := 6) (b := true) (d := 14) (by rfl) (by rfl) (by rfl) (by kernel_rfl) (fun v W h => h) ?_
          intro E W ec eg ef hG hd hu R HR
          have e5 : E (.tmp 5) = .slice A1 N1 c1 := hu 5 (by kernel_rfl)
          clear hd hu
          go_simp
          exact HR.out _ _ (Below.refl _ _) rfl
        case s8 =>
          refine Grow.step_on (g := 6) (b := true) (d := 14) (by rfl) (by rfl) (by rfl) (by kernel_rfl) (fun v W h => h) ?_
          intro E W ec eg ef hG hd hu R HR
          have e15 : E (.tmp 15) = .slice A1 N1 c1 := hd 7 15 (by kernel_rfl)
          clear hd hu
          go_simp
          exact HR.out _ _ (Below.refl _ _) rfl
        case s9 =>
          refine Grow.step_on (g := 6) (b := true) (d := 14) (by rfl) (by rfl) (by rfl) (by kernel_rfl) (fun v W h => h) ?_
          intro E W ec eg ef hG hd hu R HR
          have e16 : E (.tmp 16) = .int .i64 (N1 : Int) := hd 8 16 (by kernel_rfl)
          clear hd hu
          go_simp
          refine (HBK.out W).mono ?_
          rintro _ w' ⟨rfl, rfl⟩
          exact ⟨_, rfl, HR.out _ _ (Below.refl _ _) rfl⟩
        case s10 =>
          refine Grow.step_on (g := 6) (b := true) (d := 14) (by rfl) (by rfl) (by rfl) (by kernel_rfl) (fun v W h => h) ?_
          intro E W ec eg ef hG hd hu R HR
          have e0 : E (.tmp 0) = .pointer (some ⟨p, 0, none⟩) := hu 0 (by kernel_rfl)
          clear hd hu
          go_simp
          exact HR.out _ _ (Below.refl _ _) rfl
        case s11 =>
          refine Grow.step_on (g := 6) (b := true) (d := 14) (by rfl) (by rfl) (by rfl) (by kernel_rfl) (fun v W h => h) ?_
          intro E W ec eg ef hG hd hu R HR
          have e18 : E (.tmp 18) = .pointer (some ⟨p, 0, none⟩) := hd 10 18 (by kernel_rfl)
          clear hd hu
          go_simp
          exact HR.out _ _ (Below.refl _ _) rfl
        case s12 =>
          refine Grow.step_on (g := 6) (b := true) (d := 14) (by rfl) (by rfl) (by rfl) (by kernel_rfl) (fun v W h => h) ?_
          intro E W ec eg ef hG hd hu R HR
          have e19 : E (.tmp 19) = .pointer (some ⟨p, 0, none⟩) := hd 11 19 (by kernel_rfl)
          clear hd hu
          go_simp
          exact HR.out _ _ (Below.refl _ _) rfl
        case s13 =>
          refine Grow.step_on (g := 6) (b := true) (d := 14) (by rfl) (by rfl) (by rfl) (by kernel_rfl) (fun v W h => h) ?_
          intro E W ec eg ef hG hd hu R HR
          have e20 : E (.tmp 20) = .pointer (some ⟨p, 2, none⟩) := hd 12 20 (by kernel_rfl)
          clear hd hu
          have hcl := (hG.cell (p := ⟨p, 2, none⟩) HC.out.1).trans HC.out.2.1
          go_simp
          exact HR.out _ _ (Below.refl _ _) rfl
        case s14 =>
          refine Grow.step_on (g := 6) (b := true) (d := 14) (by rfl) (by rfl) (by rfl) (by kernel_rfl) (fun v W h => h) ?_
          intro E W ec eg ef hG hd hu R HR
          have e21 : E (.tmp 21) = .pointer (some ⟨q, 0, none⟩) := hd 13 21 (by kernel_rfl)
          clear hd hu
          go_simp
          refine (HC.out.2.2.2 W hG).mono ?_
          rintro _ w' ⟨rfl, rfl⟩
          exact ⟨_, rfl, HR.out _ _ (below_drew (Below.refl _ _)) rfl⟩
        case s15 =>
          refine Grow.step_on (g := 6) (b := true) (d := 14) (by rfl) (by rfl) (by rfl) (by kernel_rfl) (fun v W h => h) ?_
          intro E W ec eg ef hG hd hu R HR
          have e17 : E (.tmp 17) = .int .i64 (blocksN N1 : Int) := hd 9 17 (by kernel_rfl)
          have e22 : E (.tmp 22) = .int .i64 (s.log.n - (s.log.have_ : Int)) := hd 14 22 (by kernel_rfl)
          clear hd hu
          have hq := HLE.out
          go_simp
          exact HR.out _ _ (Below.refl _ _) rfl
        case s16 =>
          refine Grow.step_in (by rfl) (by rfl) ?_
          intro E W ec eg ef hG hd hu R HR
          have e14 : E (.tmp 14) = .bool true := hd 6 14 (by kernel_rfl)
          have e23 : E (.tmp 23) = .bool true := hd 15 23 (by kernel_rfl)
          clear hd hu
          go_simp
          exact HR.out _ _ (Below.refl _ _) rfl
      case gfin =>
        intro W hG
        refine Grow.fin_dst (by rfl) ?_
        rintro _ rfl
        refine Grow.fin_dst (by rfl) ?_
        rintro _ rfl
        refine Grow.fin_dst (by rfl) ?_
        rintro _ rfl
        refine Grow.fin_dst (by rfl) ?_
        rintro _ rfl
        refine Grow.fin_dst (by rfl) ?_
        rintro _ rfl
        refine Grow.fin_dst (by rfl) ?_
        rintro _ rfl
        refine Grow.fin_dst (by rfl) ?_
        rintro _ rfl
        refine Grow.fin_dst (by rfl) ?_
        rintro _ rfl
        refine Grow.fin_dst (by rfl) ?_
        rintro _ rfl
        refine Grow.fin_dst (by rfl) ?_
        rintro _ rfl
        refine Grow.fin_dst (by rfl) ?_
        rintro _ rfl
        refine Grow.fin_dst (by rfl) ?_
        rintro _ rfl
        refine Grow.fin_dst (by rfl) ?_
        rintro _ rfl
        refine Grow.fin_dst (by rfl) ?_
        rintro _ rfl
        refine Grow.fin_dst (by rfl) ?_
        rintro _ rfl
        refine Grow.fin_dst (by rfl) ?_
        rintro _ rfl
        refine Grow.fin_dst (by rfl) ?_
        rintro _ rfl
        simp only [Act.put, List.setIfInBounds_toArray, List.set_cons_zero, List.set_cons_succ]
        refine Grow.fin_end ?_
        have HWW := Lib.hid (show Below w1.heap.size w1 W from ⟨hG.os, hG.tape, hG.output, hG.size, hG.block⟩)
        clear hG
        have HBW := Lib.hid (H1.out.2.trans (HWW.out.mono H1.out.2.size))
        have hc2 : W.cell? ⟨p, 2, none⟩ = some (.pointer (some ⟨q, 0, none⟩)) := cell_of_cells ((HBW.out.block _ HP.out).trans HS.out.2.1) 2
        have hadd := wadd_any ((HS.out.2.2.1.mono (T := fun k => SL k ∧ k < w.heap.size) fun k hk h => ⟨h, hk⟩).below HBW.out) ((HL.out.2.2.2.1.mono (T := fun k => S k ∧ k < w.heap.size) fun k hk h => ⟨h, hk⟩).below HBW.out) (fun k _ h2 h3 => HL.out.2.2.2.2.1 k h2.2 h2.1 (HS.out.2.2.2.2.1 k h3.2 h3.1).1) HL.out.2.2.2.2.2.1.log (H1.out.1.below HWW.out) (fun k _ h => ⟨fun h2 => by omega, fun h2 => by omega⟩) HL.out.2.2.2.2.2.2.2
        rw [← HN1.out] at hadd
        go_wp2_with (go_at_call 68; refine hadd.mono ?_; clear hadd; rintro _ wD ⟨rfl, hdD, hlD, htD⟩; have HD := Lib.hid (And.intro hdD (And.intro hlD htD)); clear hdD hlD htD)
        go_ret
        rw [HW.out, if_pos ⟨HF.out, HR.out⟩]
        have hpT : ∀ k, k < w.heap.size → T k → ¬ SL k → ¬ ((S k ∧ k < w.heap.size) ∨ (SL k ∧ k < w.heap.size)) := fun k hk h1 h2 h3 => by
          rcases h3 with h3 | h3
          · exact HL.out.2.2.2.2.1 k hk h3.1 h1
          · exact h2 h3.1
        refine ⟨rfl, HD.out.1.mono fun k _ h => h.1, ?_, (Turned.of_below (S := fun k => S k ∨ T k) HBW.out).trans HD.out.2.2 fun k _ h => ?_⟩
        · refine ⟨q, b, fun k => ((SL k ∧ k < w.heap.size) ∨ W.heap.size ≤ k), fun k => SN k ∧ k < w.heap.size, .inl HS.out.1, ?_, HD.out.2.1, ((HS.out.2.2.2.1.mono (T := fun k => SN k ∧ k < w.heap.size) fun k hk h => ⟨h, hk⟩).below HBW.out).turned HD.out.2.2 fun k _ h2 h3 => hpT k h2.2 (HS.out.2.2.2.2.2 k h2.2 h2.1).1 (fun h4 => (HS.out.2.2.2.2.1 k h2.2 h4).2.2 h2.1) h3, fun k _ h => ?_, fun k _ h => ⟨.inl (HS.out.2.2.2.2.2 k h.2 h.1).1, (HS.out.2.2.2.2.2 k h.2 h.1).2⟩⟩
          · exact (HD.out.2.2.block _ (Nat.lt_of_lt_of_le HP.out HBW.out.size) (hpT p HP.out HS.out.1 fun h4 => (HS.out.2.2.2.2.1 p HP.out h4).2.1 rfl)).trans ((HBW.out.block _ HP.out).trans HS.out.2.1)
          · have hpw := HP.out
            have hws := HBW.out.size
            rcases h with h | h
            · have h5 := HS.out.2.2.2.2.1 k h.2 h.1
              exact ⟨.inl h5.1, h5.2.1, fun h6 => h5.2.2 h6.1⟩
            · exact ⟨.inr (by omega), by omega, fun h6 => by omega⟩
        · rcases h with h | h
          · exact .inl h.1
          · exact .inr (HS.out.2.2.2.2.1 k h.2 h.1).1
    · have hr' : decide ((blocksN N1 : Int) ≤ s.log.n - (s.log.have_ : Int)) = false := by simpa using hr
      have HLE := Lib.hid hr'
      have HR := Lib.hid hr
      clear hr hr'
      refine wp_region_grow (fun W W' => Below W.heap.size W W') (Grow.nth [fun v _ => v = .pointer (some ⟨p, 0, none⟩), fun v _ => v = .pointer (some ⟨p, 0, none⟩), fun v _ => v = .pointer (some ⟨p, 2, none⟩), fun v _ => v = .pointer (some ⟨q, 0, none⟩), fun v _ => v = .int .u64 (s.log.first : Int), fun v _ => v = .bool true, fun v _ => v = .bool true, fun v _ => v = .slice A1 N1 c1, fun v _ => v = .int .i64 (N1 : Int), fun v _ => v = .int .i64 (blocksN N1 : Int), fun v _ => v = .pointer (some ⟨p, 0, none⟩), fun v _ => v = .pointer (some ⟨p, 0, none⟩), fun v _ => v = .pointer (some ⟨p, 2, none⟩), fun v _ => v = .pointer (some ⟨q, 0, none⟩), fun v _ => v = .int .i64 (s.log.n - (s.log.have_ : Int)), fun v _ => v = .bool false, fun v _ => v = .bool false]) 34 (by kernel_rfl) (by kernel_rfl) (by rfl) (fun W => Below.refl _ W) (fun _ _ _ h1 h2 => h1.trans (h2.mono h1.size)) (Grow.mono_nth ?gmono) ?gsteps ?gfin
      case gmono => exact ⟨fun _ _ _ h _ => h, fun _ _ _ h _ => h, fun _ _ _ h _ => h, fun _ _ _ h _ => h, fun _ _ _ h _ => h, fun _ _ _ h _ => h, fun _ _ _ h _ => h, fun _ _ _ h _ => h, fun _ _ _ h _ => h, fun _ _ _ h _ => h, fun _ _ _ h _ => h, fun _ _ _ h _ => h, fun _ _ _ h _ => h, fun _ _ _ h _ => h, fun _ _ _ h _ => h, fun _ _ _ h _ => h, fun _ _ _ h _ => h, trivial⟩
      case gsteps =>
        show Grow.allBelow _ 17
        refine And.intro ?_ ?s16
        refine And.intro ?_ ?s15
        refine And.intro ?_ ?s14
        refine And.intro ?_ ?s13
        refine And.intro ?_ ?s12
        refine And.intro ?_ ?s11
        refine And.intro ?_ ?s10
        refine And.intro ?_ ?s9
        refine And.intro ?_ ?s8
        refine And.intro ?_ ?s7
        refine And.intro ?_ ?s6
        refine And.intro ?_ ?s5
        refine And.intro ?_ ?s4
        refine And.intro ?_ ?s3
        refine And.intro ?_ ?s2
        refine And.intro ?_ ?s1
        refine And.intro ?_ ?s0
        exact trivial
        case s0 =>
          refine Grow.step_in (by rfl) (by rfl) ?_
          intro E W ec eg ef hG hd hu R HR
          have e0 : E (.tmp 0) = .pointer (some ⟨p, 0, none⟩) := hu 0 (by kernel_rfl)
          clear hd hu
          go_simp
          exact HR.out _ _ (Below.refl _ _) rfl
        case s1 =>
          refine Grow.step_in (by rfl) (by rfl) ?_
          intro E W ec eg ef hG hd hu R HR
          have e8 : E (.tmp 8) = .pointer (some ⟨p, 0, none⟩) := hd 0 8 (by kernel_rfl)
          clear hd hu
          go_simp
          exact HR.out _ _ (Below.refl _ _) rfl
        case s2 =>
          refine Grow.step_in (by rfl) (by rfl) ?_
          intro E W ec eg ef hG hd hu R HR
          have e9 : E (.tmp 9) = .pointer (some ⟨p, 0, none⟩) := hd 1 9 (by kernel_rfl)
          clear hd hu
          go_simp
          exact HR.out _ _ (Below.refl _ _) rfl
        case s3 =>
          refine Grow.step_in (by rfl) (by rfl) ?_
          intro E W ec eg ef hG hd hu R HR
          have e10 : E (.tmp 10) = .pointer (some ⟨p, 2, none⟩) := hd 2 10 (by kernel_rfl)
          clear hd hu
          have hcl := (hG.cell (p := ⟨p, 2, none⟩) HC.out.1).trans HC.out.2.1
          go_simp
          exact HR.out _ _ (Below.refl _ _) rfl
        case s4 =>
          refine Grow.step_in (by rfl) (by rfl) ?_
          intro E W ec eg ef hG hd hu R HR
          have e11 : E (.tmp 11) = .pointer (some ⟨q, 0, none⟩) := hd 3 11 (by kernel_rfl)
          clear hd hu
          go_simp
          refine (HC.out.2.2.1 W hG).mono ?_
          rintro _ w' ⟨rfl, rfl⟩
          exact ⟨_, rfl, HR.out _ _ (Below.refl _ _) rfl⟩
        case s5 =>
          refine Grow.step_in (by rfl) (by rfl) ?_
          intro E W ec eg ef hG hd hu R HR
          have e12 : E (.tmp 12) = .int .u64 (s.log.first : Int) := hd 4 12 (by kernel_rfl)
          clear hd hu
          have hq := HNE.out
          go_simp
          exact HR.out _ _ (Below.refl _ _) rfl
        case s6 =>
          refine Grow.step_in (by rfl) (by rfl) ?_
          intro E W ec eg ef hG hd hu R HR
          have e13 : E (.tmp 13) = .bool true := hd 5 13 (by kernel_rfl)
          clear hd hu
          go_simp
          exact HR.out _ _ (Below.refl _ _) rfl
        case s7 =>
          refine Grow.step_on (g := 6) (b := true) (d := 14) (by rfl) (by rfl) (by rfl) (by kernel_rfl) (fun v W h => h) ?_
          intro E W ec eg ef hG hd hu R HR
          have e5 : E (.tmp 5) = .slice A1 N1 c1 := hu 5 (by kernel_rfl)
          clear hd hu
          go_simp
          exact HR.out _ _ (Below.refl _ _) rfl
        case s8 =>
          refine Grow.step_on (g := 6) (b := true) (d := 14) (by rfl) (by rfl) (by rfl) (by kernel_rfl) (fun v W h => h) ?_
          intro E W ec eg ef hG hd hu R HR
          have e15 : E (.tmp 15) = .slice A1 N1 c1 := hd 7 15 (by kernel_rfl)
          clear hd hu
          go_simp
          exact HR.out _ _ (Below.refl _ _) rfl
        case s9 =>
          refine Grow.step_on (g := 6) (b := true) (d := 14) (by rfl) (by rfl) (by rfl) (by kernel_rfl) (fun v W h => h) ?_
          intro E W ec eg ef hG hd hu R HR
          have e16 : E (.tmp 16) = .int .i64 (N1 : Int) := hd 8 16 (by kernel_rfl)
          clear hd hu
          go_simp
          refine (HBK.out W).mono ?_
          rintro _ w' ⟨rfl, rfl⟩
          exact ⟨_, rfl, HR.out _ _ (Below.refl _ _) rfl⟩
        case s10 =>
          refine Grow.step_on (g := 6) (b := true) (d := 14) (by rfl) (by rfl) (by rfl) (by kernel_rfl) (fun v W h => h) ?_
          intro E W ec eg ef hG hd hu R HR
          have e0 : E (.tmp 0) = .pointer (some ⟨p, 0, none⟩) := hu 0 (by kernel_rfl)
          clear hd hu
          go_simp
          exact HR.out _ _ (Below.refl _ _) rfl
        case s11 =>
          refine Grow.step_on (g := 6) (b := true) (d := 14) (by rfl) (by rfl) (by rfl) (by kernel_rfl) (fun v W h => h) ?_
          intro E W ec eg ef hG hd hu R HR
          have e18 : E (.tmp 18) = .pointer (some ⟨p, 0, none⟩) := hd 10 18 (by kernel_rfl)
          clear hd hu
          go_simp
          exact HR.out _ _ (Below.refl _ _) rfl
        case s12 =>
          refine Grow.step_on (g := 6) (b := true) (d := 14) (by rfl) (by rfl) (by rfl) (by kernel_rfl) (fun v W h => h) ?_
          intro E W ec eg ef hG hd hu R HR
          have e19 : E (.tmp 19) = .pointer (some ⟨p, 0, none⟩) := hd 11 19 (by kernel_rfl)
          clear hd hu
          go_simp
          exact HR.out _ _ (Below.refl _ _) rfl
        case s13 =>
          refine Grow.step_on (g := 6) (b := true) (d := 14) (by rfl) (by rfl) (by rfl) (by kernel_rfl) (fun v W h => h) ?_
          intro E W ec eg ef hG hd hu R HR
          have e20 : E (.tmp 20) = .pointer (some ⟨p, 2, none⟩) := hd 12 20 (by kernel_rfl)
          clear hd hu
          have hcl := (hG.cell (p := ⟨p, 2, none⟩) HC.out.1).trans HC.out.2.1
          go_simp
          exact HR.out _ _ (Below.refl _ _) rfl
        case s14 =>
          refine Grow.step_on (g := 6) (b := true) (d := 14) (by rfl) (by rfl) (by rfl) (by kernel_rfl) (fun v W h => h) ?_
          intro E W ec eg ef hG hd hu R HR
          have e21 : E (.tmp 21) = .pointer (some ⟨q, 0, none⟩) := hd 13 21 (by kernel_rfl)
          clear hd hu
          go_simp
          refine (HC.out.2.2.2 W hG).mono ?_
          rintro _ w' ⟨rfl, rfl⟩
          exact ⟨_, rfl, HR.out _ _ (below_drew (Below.refl _ _)) rfl⟩
        case s15 =>
          refine Grow.step_on (g := 6) (b := true) (d := 14) (by rfl) (by rfl) (by rfl) (by kernel_rfl) (fun v W h => h) ?_
          intro E W ec eg ef hG hd hu R HR
          have e17 : E (.tmp 17) = .int .i64 (blocksN N1 : Int) := hd 9 17 (by kernel_rfl)
          have e22 : E (.tmp 22) = .int .i64 (s.log.n - (s.log.have_ : Int)) := hd 14 22 (by kernel_rfl)
          clear hd hu
          have hq := HLE.out
          go_simp
          exact HR.out _ _ (Below.refl _ _) rfl
        case s16 =>
          refine Grow.step_in (by rfl) (by rfl) ?_
          intro E W ec eg ef hG hd hu R HR
          have e14 : E (.tmp 14) = .bool true := hd 6 14 (by kernel_rfl)
          have e23 : E (.tmp 23) = .bool false := hd 15 23 (by kernel_rfl)
          clear hd hu
          go_simp
          exact HR.out _ _ (Below.refl _ _) rfl
      case gfin =>
        intro W hG
        refine Grow.fin_dst (by rfl) ?_
        rintro _ rfl
        refine Grow.fin_dst (by rfl) ?_
        rintro _ rfl
        refine Grow.fin_dst (by rfl) ?_
        rintro _ rfl
        refine Grow.fin_dst (by rfl) ?_
        rintro _ rfl
        refine Grow.fin_dst (by rfl) ?_
        rintro _ rfl
        refine Grow.fin_dst (by rfl) ?_
        rintro _ rfl
        refine Grow.fin_dst (by rfl) ?_
        rintro _ rfl
        refine Grow.fin_dst (by rfl) ?_
        rintro _ rfl
        refine Grow.fin_dst (by rfl) ?_
        rintro _ rfl
        refine Grow.fin_dst (by rfl) ?_
        rintro _ rfl
        refine Grow.fin_dst (by rfl) ?_
        rintro _ rfl
        refine Grow.fin_dst (by rfl) ?_
        rintro _ rfl
        refine Grow.fin_dst (by rfl) ?_
        rintro _ rfl
        refine Grow.fin_dst (by rfl) ?_
        rintro _ rfl
        refine Grow.fin_dst (by rfl) ?_
        rintro _ rfl
        refine Grow.fin_dst (by rfl) ?_
        rintro _ rfl
        refine Grow.fin_dst (by rfl) ?_
        rintro _ rfl
        simp only [Act.put, List.setIfInBounds_toArray, List.set_cons_zero, List.set_cons_succ]
        refine Grow.fin_end ?_
        have HWW := Lib.hid (show Below w1.heap.size w1 W from ⟨hG.os, hG.tape, hG.output, hG.size, hG.block⟩)
        have htn := HTN.out W (H1.out.2.trans (HWW.out.mono H1.out.2.size))
        clear hG
        go_wp2_with (go_at_call 69; refine htn.mono ?_; clear htn; rintro _ w7 ⟨rfl, h7⟩; have H7 := Lib.hid h7; clear h7)
        go_ret
        rw [HW.out, if_neg (fun h => by have h1 := h.2; have h2 := HR.out; omega)]
        exact ⟨rfl, H7.out⟩
end Go.Proofs.YtcgnaomffioldaaGreat

/-! Cells: why changes may not be done. -/
namespace Go.Proofs.YtcgnaomffioldaaGreat
open Go.RowKit Codec

/-- While they are looked at. -/
def RfR (w : World) (l : List Ch) (i : Value) (wr : World) : Prop :=
  ∃ j : Nat, j ≤ l.length ∧ i = .int .i64 (j : Int) ∧ (l.take j).all mayC = true ∧ Below w.heap.size w wr
set_option maxHeartbeats 4000000 in
set_option maxRecDepth 100000 in
theorem crefuse_nil (A : Option Addr) (n c : Nat) (w : World) : Calls Tryz.prog 36 #[.pointer none, .slice A n c] w fun e w' => e = .returned (.int .i64 1) ∧ w = w' := by
  have he := cerr_nil w
  go_enter Tryz.func36, Tryz.ntmps36
  go_wp2_with (go_at_call 22; refine he.mono ?_; clear he; rintro _ _ ⟨rfl, rfl⟩)
  go_ret
  exact ⟨rfl, rfl⟩
set_option maxHeartbeats 4000000 in
set_option maxRecDepth 100000 in
theorem crefuse_any {w : World} {S T : Nat → Prop} {p g : Nat} {s : SM} (h : Cs w S p g s) {A : Option Addr} {n c : Nat} {l : List Ch} (hl : Chs w T A n c l) (hn : n ≤ 100000000) :
    Calls Tryz.prog 36 #[.pointer (some ⟨p, 0, none⟩), .slice A n c] w fun e w' => e = .returned (.int .i64 (refC s l)) ∧ Below w.heap.size w w' := by
  have he := cerr_any h
  obtain ⟨E, hE⟩ : ∃ E, E = s.e := ⟨_, rfl⟩
  have HR : Hid (refC s l = if E ≠ 0 then E else if l.all mayC then 0 else 1) := Lib.hid (by rw [hE]; rfl)
  rw [← hE] at he
  have HL := Lib.hid hl
  have HN := Lib.hid hl.len
  have H0 : Hid (RfR w l (.int .i64 0) w) := Lib.hid ⟨0, Nat.zero_le _, rfl, rfl, Below.refl _ _⟩
  have hzc := zero_chg
  clear h hl hE
  by_cases h0 : E = 0
  · subst h0
    go_enter Tryz.func36, Tryz.ntmps36
    go_wp2_with (go_at_call 22; refine he.mono ?_; clear he; rintro _ _ ⟨rfl, rfl⟩)
    go_loopw [15] (fun i wr => RfR w l i wr) (fun i _ => n - (intOf i).toNat)
    case atStart => exact H0.out
    case round =>
      obtain ⟨j, hj, rfl, hall, hb⟩ := hrel
      clear H0
      have HK := Lib.hid (And.intro hall hb)
      clear hall hb
      by_cases hlt : j < n
      · have hlt' : (j : Int) < (n : Int) := by omega
        obtain ⟨q, off, x, Ai, ni, ci, rfl, _, hqlt, hx, hcs, hy⟩ := HL.out.at_ hlt
        obtain rfl : ni = x.v.length := hy.len.symm
        obtain ⟨CV, hCV⟩ : ∃ CV, CV = chV Ai x.v.length ci x := ⟨_, rfl⟩
        rw [← hCV] at hcs
        have hcw : ∀ (i : Nat) (v : Value), CV[i]? = some v → wr.cell? ((⟨q, off + j * 3, none⟩ : Addr).add i) = some v := fun i v hv => by
          have h1 := hcs i v hv
          rw [add_plain] at h1 ⊢
          exact (HK.out.2.cell (p := ⟨_, _, none⟩) hqlt).trans h1
        have hadd := IntWalk.i64_in ((j : Int) + 1) (by omega)
        have HCV := Lib.hid (And.intro hCV hcw)
        have HX := Lib.hid hx
        clear hCV hcw hcs hy hx hqlt
        go_upto_region 7 with (first
          | (refine wpList_load_at (by rfl) 67 (.tmp 17) (by rfl) ⟨q, off + j * 3, none⟩ (by rfl) CV _ HCV.out.2 Tryz.underlying67 (by rfl) (by rw [HCV.out.1]; exact chg_info) ?_)
          | (refine wpList_store_row (by rfl) 67 (.tmp 7) (.tmp 18) (by rfl) wr.heap.size CV (by rfl) (by rfl) 67 _ (heap_alloc_new wr _) (by rw [HCV.out.1]; exact chg_info) (by rw [HCV.out.1]; rfl) (by rw [HCV.out.1]; exact chV_one _ _ _ _) ?_))
        have hal : Below wr.heap.size wr ((wr.alloc (.cells #[.string ⟨#[]⟩, .slice none 0 0, .bool false] 67)).setRow wr.heap.size CV) := below_setRow ((Below.refl _ _).alloc (Nat.le_refl _) _) (Nat.le_refl _) _
        have hpa : ((wr.alloc (.cells #[.string ⟨#[]⟩, .slice none 0 0, .bool false] 67)).setRow wr.heap.size CV).heap[wr.heap.size]? = some (.cells CV 67 (0, 0)) := setRow_at (heap_alloc_new wr _)
        have H5 := Lib.hid (And.intro hal hpa)
        clear hal hpa hzc
        generalize (wr.alloc (.cells #[.string ⟨#[]⟩, .slice none 0 0, .bool false] 67)).setRow wr.heap.size CV = w5 at *
        have hmb := maybe_any x Ai ci w5
        rw [← HCV.out.1] at hmb
        have HTK : Hid (l.take (j + 1) = l.take j ++ [x]) := Lib.hid (by
          obtain ⟨hjl, hxe⟩ := List.getElem?_eq_some_iff.1 HX.out
          rw [List.take_succ_eq_append_getElem hjl, hxe])
        by_cases hmay : mayC x = true
        · rw [hmay] at hmb
          have HM := Lib.hid hmay
          clear hmay
          go_wp2_with (first
            | (refine wpList_load_row (by rfl) 67 (.tmp 7) (by rfl) wr.heap.size (by rfl) 67 CV (0, 0) _ H5.out.2 Tryz.underlying67 (by rfl) (by rw [HCV.out.1]; exact chg_info) ?_)
            | (go_at_call 64; refine hmb.mono ?_; clear hmb; rintro _ w6 ⟨rfl, hb6⟩; have H6 := Lib.hid hb6; clear hb6))
          go_roundw
          case rel =>
            unfold RfR
            refine ⟨j + 1, by have := HN.out; omega, by simp, by rw [HTK.out, List.all_append, HK.out.1]; simp [HM.out], HK.out.2.trans ((H5.out.1.trans (H6.out.mono H5.out.1.size)).mono HK.out.2.size)⟩
          case measure => simp only [intOf]; omega
        · have hmay' : mayC x = false := by simpa using hmay
          rw [hmay'] at hmb
          have HM := Lib.hid hmay'
          clear hmay hmay'
          go_wp2_with (first
            | (refine wpList_load_row (by rfl) 67 (.tmp 7) (by rfl) wr.heap.size (by rfl) 67 CV (0, 0) _ H5.out.2 Tryz.underlying67 (by rfl) (by rw [HCV.out.1]; exact chg_info) ?_)
            | (go_at_call 64; refine hmb.mono ?_; clear hmb; rintro _ w6 ⟨rfl, hb6⟩; have H6 := Lib.hid hb6; clear hb6))
          go_ret
          have hr : refC s l = 1 := by
            rw [HR.out, if_neg (by simp), if_neg]
            intro h
            have := List.all_eq_true.1 h x (List.mem_of_getElem? HX.out)
            rw [HM.out] at this
            cases this
          rw [hr]
          exact ⟨rfl, HK.out.2.trans ((H5.out.1.trans (H6.out.mono H5.out.1.size)).mono HK.out.2.size)⟩
      · obtain rfl : j = n := by have := HN.out; omega
        have hnl : ¬ (j : Int) < (j : Int) := by omega
        clear hlt
        go_wp2_with fail
        go_ret
        have hr : refC s l = 0 := by
          have h1 := HK.out.1
          rw [List.take_of_length_le (by have := HN.out; omega)] at h1
          rw [HR.out, if_neg (by simp), if_pos h1]
        rw [hr]
        exact ⟨rfl, HK.out.2⟩
  · have he' : (E != 0) = true := by simpa using h0
    have HE := Lib.hid h0
    clear h0
    go_enter Tryz.func36, Tryz.ntmps36
    go_wp2_with (go_at_call 22; refine he.mono ?_; clear he; rintro _ _ ⟨rfl, rfl⟩)
    go_ret
    rw [HR.out, if_pos HE.out]
    exact ⟨rfl, Below.refl _ _⟩
end Go.Proofs.YtcgnaomffioldaaGreat

/-! Cells: Apply. -/
namespace Go.Proofs.YtcgnaomffioldaaGreat
open Go.RowKit Codec

theorem turnC_t (d : DM) (s : SM) (l : List Ch) : (turnC d s l).2.1.t = s.t ∧ (turnC d s l).2.1.e = s.e := by
  unfold turnC
  split
  · exact ⟨rfl, rfl⟩
  · split <;> exact ⟨rfl, rfl⟩
theorem writeC_t (d : DM) (s : SM) (l : List Ch) : (writeC d s l).2.1.t = s.t ∧ (writeC d s l).2.1.e = s.e := by
  unfold writeC
  split
  · exact ⟨rfl, rfl⟩
  · exact turnC_t d s l
set_option maxHeartbeats 8000000 in
set_option maxRecDepth 100000 in
theorem capply_nil (A : Option Addr) (n c : Nat) (w : World) : Calls Tryz.prog 11 #[.pointer none, .slice A n c] w fun e w' => e = .returned (.int .i64 1) ∧ w = w' := by
  have he := crefuse_nil A n c w
  go_enter Tryz.func11, Tryz.ntmps11
  go_wp2_with (go_at_call 36; refine he.mono ?_; clear he; rintro _ _ ⟨rfl, rfl⟩)
  go_ret
  exact ⟨rfl, rfl⟩
set_option maxHeartbeats 8000000 in
set_option maxRecDepth 100000 in
theorem capply_any {w : World} {S T U : Nat → Prop} {p g : Nat} {d : DM} {s : SM} (h : Cs w T p g s) (hd : Dk w S g d) (hST : ∀ k, k < w.heap.size → S k → ¬ T k) (ok : SOk s) (h1 : 1 ≤ hn d) {A : Option Addr} {n c : Nat} {l : List Ch} (hl : Chs w U A n c l) (hU : ∀ k, k < w.heap.size → U k → ¬ S k ∧ ¬ T k) (hb : wtT s.t + wtC l ≤ 800000) :
    Calls Tryz.prog 11 #[.pointer (some ⟨p, 0, none⟩), .slice A n c] w fun e w' => WrP w S T p g (applyC d s l) e w' := by
  have hnl := hl.len
  have hwc := wtC_len l
  have hrf := crefuse_any h hl (by omega)
  have hk : ∀ x ∈ l, x.k.length ≤ 1000000 ∧ x.v.length ≤ 1000000 := fun x hx => by have := wtC_mem hx; omega
  obtain ⟨E, hE⟩ : ∃ E, E = refC s l := ⟨_, rfl⟩
  rw [← hE] at hrf
  have HA : Hid (applyC d s l = if E ≠ 0 ∨ l = [] then (d, s, E) else if (writeC d s l).2.2 = 0 then ((writeC d s l).1, { (writeC d s l).2.1 with t := doL s.t l }, 0) else ((writeC d s l).1, (if (writeC d s l).2.2 = 31 then (writeC d s l).2.1 else { (writeC d s l).2.1 with e := (writeC d s l).2.2 }), (writeC d s l).2.2)) := Lib.hid (by rw [hE]; rfl)
  have HL := Lib.hid (And.intro h (And.intro hd (And.intro hl (And.intro hU (And.intro hb (And.intro hk hST))))))
  have hwr : ∀ W, Below w.heap.size w W → Calls Tryz.prog 37 #[.pointer (some ⟨p, 0, none⟩), .slice A n c] W fun e w' => e = .returned (.int .i64 (writeC d s l).2.2) ∧ Dk w' (fun k => S k ∧ k < w.heap.size) g (writeC d s l).1 ∧ Cs w' (fun k => T k ∨ w.heap.size ≤ k) p g (writeC d s l).2.1 ∧ Turned (fun k => S k ∨ T k) w w' := fun W hb2 => by
    refine (cwrite_any ((h.mono (T := fun k => T k ∧ k < w.heap.size) fun k hk h => ⟨h, hk⟩).below hb2) ((hd.mono (T := fun k => S k ∧ k < w.heap.size) fun k hk h => ⟨h, hk⟩).below hb2) (fun k _ h2 h3 => hST k h2.2 h2.1 h3.1) ok h1 (hl.below hb2) hb hk).mono ?_
    rintro e w' ⟨h2, h3, h4, h5⟩
    refine ⟨h2, h3, h4.mono fun k _ h => ?_, (Turned.of_below (S := fun k => S k ∨ T k) hb2).trans h5 fun k _ h => ?_⟩
    · rcases h with h | h
      · exact .inl h.1
      · exact .inr (Nat.le_trans hb2.size h)
    · rcases h with h | h
      · exact .inl h.1
      · exact .inr h.1
  have HWR := Lib.hid hwr
  have HN := Lib.hid (And.intro hnl hwc)
  clear h hd hST ok h1 hl hU hb hk hE hwr hwc hnl
  by_cases h0 : E = 0
  · subst h0
    rcases Nat.eq_zero_or_pos n with hn0 | hn0
    · subst hn0
      have hln : l = [] := List.eq_nil_of_length_eq_zero HN.out.1
      go_enter Tryz.func11, Tryz.ntmps11
      go_wp2_with (go_at_call 36; refine hrf.mono ?_; clear hrf; rintro _ w1 ⟨rfl, hb1⟩; have H1 := Lib.hid hb1; clear hb1)
      go_ret
      rw [HA.out, if_pos (.inr hln)]
      exact ⟨rfl, HL.out.2.1.below H1.out, (HL.out.1.below H1.out).mono fun k _ h => .inl h, Turned.of_below H1.out⟩
    · have hne : ((n : Int) == 0) = false := by simp; omega
      have HNE := Lib.hid (show ¬ ((0 : Int) ≠ 0 ∨ l = []) by
        rintro (h | h)
        · exact h rfl
        · have := HN.out.1; rw [h] at this; simp at this; omega)
      obtain ⟨E2, hE2⟩ : ∃ E2, E2 = (writeC d s l).2.2 := ⟨_, rfl⟩
      obtain ⟨d2, hd2⟩ : ∃ d2, d2 = (writeC d s l).1 := ⟨_, rfl⟩
      obtain ⟨s2, hs2⟩ : ∃ s2, s2 = (writeC d s l).2.1 := ⟨_, rfl⟩
      have HS2 : Hid (s2.t = s.t ∧ s2.e = s.e) := Lib.hid (by rw [hs2]; exact writeC_t d s l)
      have HWR2 : Hid (∀ W, Below w.heap.size w W → Calls Tryz.prog 37 #[.pointer (some ⟨p, 0, none⟩), .slice A n c] W fun e w' => e = .returned (.int .i64 E2) ∧ Dk w' (fun k => S k ∧ k < w.heap.size) g d2 ∧ Cs w' (fun k => T k ∨ w.heap.size ≤ k) p g s2 ∧ Turned (fun k => S k ∨ T k) w w') := Lib.hid (fun W hb => by rw [hE2, hd2, hs2]; exact HWR.out W hb)
      rw [← hE2, ← hd2, ← hs2] at HA
      clear hE2 hd2 hs2 hn0 HWR
      go_enter Tryz.func11, Tryz.ntmps11
      go_upto_region 4 with (go_at_call 36; refine hrf.mono ?_; clear hrf; rintro _ w1 ⟨rfl, hb1⟩)
      have hwr := HWR2.out w1 hb1
      clear hb1
      go_upto_region 5 with (go_at_call 37; refine hwr.mono ?_; clear hwr; rintro _ w2 ⟨rfl, hdk2, hcs2, ht2⟩)
      have H2 := Lib.hid (And.intro hdk2 (And.intro hcs2 ht2))
      clear hdk2 ht2
      obtain ⟨q, b, SL, SN, hTp, hrow, hlg, hnm, hSL, hSN⟩ := hcs2
      have HC := Lib.hid (And.intro hTp (And.intro hrow (And.intro hlg (And.intro hnm (And.intro hSL hSN)))))
      by_cases hz : E2 = 0
      · subst hz
        have hc3 : w2.cell? ⟨p, 3, none⟩ = some (.map (some b)) := cell_of_cells hrow 3
        rw [HS2.out.1] at hnm
        have hdo := do_any hnm ((HL.out.2.2.1.mono (T := fun k => U k ∧ k < w.heap.size) fun k hk h => ⟨h, hk⟩).turned H2.out.2.2 fun k _ h1 h2 => by
            rcases h2 with h2 | h2
            · exact (HL.out.2.2.2.1 k h1.2 h1.1).1 h2
            · exact (HL.out.2.2.2.1 k h1.2 h1.1).2 h2) (fun k _ h1 e => by
            have hsb := (hSN b hnm.lt hnm.1).1
            rcases hsb with hsb | hsb
            · exact (HL.out.2.2.2.1 k h1.2 h1.1).2 (by rw [e]; exact hsb)
            · have := h1.2; omega) ⟨by have h1 := wtT_len s.t; have h2 := HN.out; have h3 := HL.out.2.2.2.2.1; omega, by have h2 := HN.out; have h3 := HL.out.2.2.2.2.1; omega⟩ HL.out.2.2.2.2.2.1
        clear hTp hrow hlg hnm hSL hSN
        go_wp2_with (go_at_call 38; refine hdo.mono ?_; clear hdo; rintro _ w3 ⟨rfl, hn3, ht3⟩; have H3 := Lib.hid (And.intro hn3 ht3); clear hn3 ht3)
        go_ret
        rw [HA.out, if_neg HNE.out, if_pos trivial]
        have hnm := HC.out.2.2.2.1
        have hsb := HC.out.2.2.2.2.2 b hnm.lt hnm.1
        have hbd : b < w.heap.size → ¬ S b := fun hlt hs => by
          rcases hsb.1 with h | h
          · exact HL.out.2.2.2.2.2.2 b hlt hs h
          · omega
        have h2s := H2.out.2.2.size
        have h3s := H3.out.2.size
        refine ⟨rfl, ((H2.out.1.turned H3.out.2 fun k _ h1 h2 => hbd (by rw [← show k = b from h2]; exact h1.2) (by rw [← show k = b from h2]; exact h1.1)).mono fun k _ h => h.1), ?_, H2.out.2.2.trans H3.out.2 fun k hk h2 => ?_⟩
        · refine ⟨q, b, fun k => SL k ∧ k < w2.heap.size, fun k => (SN k ∧ k < w2.heap.size) ∨ (w2.heap.size ≤ k ∧ k < w3.heap.size), HC.out.1, (H3.out.2.block p (lt_of_cells HC.out.2.1) fun e => hsb.2 (show p = b from e).symm).trans HC.out.2.1, (HC.out.2.2.1.mono (T := fun k => SL k ∧ k < w2.heap.size) fun k hk h => ⟨h, hk⟩).turned H3.out.2 fun k _ h1 e => (HC.out.2.2.2.2.1 k h1.2 h1.1).2.2 (by rw [show k = b from e]; exact hnm.1), H3.out.1.mono fun k hk h => ?_, fun k _ h => ?_, fun k _ h => ?_⟩
          · rcases h with h | h
            · by_cases hk2 : k < w2.heap.size
              · exact .inl ⟨h, hk2⟩
              · exact .inr ⟨by omega, hk⟩
            · exact .inr h
          · have h5 := HC.out.2.2.2.2.1 k h.2 h.1
            exact ⟨h5.1, h5.2.1, fun h6 => by
              rcases h6 with h6 | h6
              · exact h5.2.2 h6.1
              · omega⟩
          · rcases h with h | h
            · exact HC.out.2.2.2.2.2 k h.2 h.1
            · exact ⟨.inr (by omega), by have := lt_of_cells HC.out.2.1; omega⟩
        · rw [show k = b from h2] at hk ⊢
          rcases hsb.1 with h | h
          · exact .inr h
          · omega
      · have hz' : (E2 != 0) = true := by simpa using hz
        have HZ := Lib.hid hz
        clear hz hTp hlg hnm hSL hSN
        by_cases h31 : E2 = 31
        · subst h31
          clear hz' hrow
          go_wp2_with fail
          go_ret
          rw [HA.out, if_neg HNE.out, if_neg (by decide), if_pos trivial]
          exact ⟨rfl, H2.out.1.mono fun k _ h => h.1, H2.out.2.1, H2.out.2.2⟩
        · have h31' : (E2 != 31) = true := by simpa using h31
          have H31 := Lib.hid h31
          have hc5 := cell_of_cells hrow 5
          have hf5 := free_of_cells hrow 5
          clear h31 hrow
          go_wp2_with fail
          go_ret
          rw [HA.out, if_neg HNE.out, if_neg HZ.out, if_neg H31.out]
          have hte : Turned (fun k => k = p) w2 (w2.setCell ⟨p, 5, none⟩ (.int .i64 E2)) := (Turned.refl (fun k => k = p) w2).set rfl 5 _
          have hpS : ∀ k, S k ∧ k < w.heap.size → k ≠ p := fun k h e => by
            rcases HC.out.1 with h2 | h2
            · exact HL.out.2.2.2.2.2.2 k h.2 h.1 (by rw [e]; exact h2)
            · omega
          refine ⟨rfl, (H2.out.1.turned hte fun k _ h1 h2 => hpS k h1 h2).mono fun k _ h => h.1, ?_, H2.out.2.2.trans hte fun k hk h2 => ?_⟩
          · exact ⟨q, b, SL, SN, HC.out.1, set_of_cells HC.out.2.1 5 _, HC.out.2.2.1.turned hte fun k hk h1 e => (HC.out.2.2.2.2.1 k hk h1).2.1 e, HC.out.2.2.2.1.turned hte fun k hk h1 e => (HC.out.2.2.2.2.2 k hk h1).2 e, fun k hk h => HC.out.2.2.2.2.1 k (by simpa [World.setCell] using hk) h, fun k hk h => HC.out.2.2.2.2.2 k (by simpa [World.setCell] using hk) h⟩
          · rw [show k = p from h2] at hk ⊢
            rcases HC.out.1 with h | h
            · exact .inr h
            · omega
  · have he' : (E != 0) = true := by simpa using h0
    have HE := Lib.hid h0
    clear h0
    go_enter Tryz.func11, Tryz.ntmps11
    go_wp2_with (go_at_call 36; refine hrf.mono ?_; clear hrf; rintro _ w1 ⟨rfl, hb1⟩; have H1 := Lib.hid hb1; clear hb1)
    go_ret
    rw [HA.out, if_pos (.inl HE.out)]
    exact ⟨rfl, HL.out.2.1.below H1.out, (HL.out.1.below H1.out).mono fun k _ h => .inl h, Turned.of_below H1.out⟩
end Go.Proofs.YtcgnaomffioldaaGreat

/-! A log on a disk of a call's own. -/
namespace Go.Proofs.YtcgnaomffioldaaGreat
open Go.RowKit

theorem open_zero {l : Nat} {b : Bool} {f n : Nat} (hf : f + n ≤ l) (hn : 1 ≤ n) (hup : b = false) : openErr l b (f : Int) (n : Int) = 0 := by rw [openErr, if_neg (by omega), if_neg (by simp [hup])]
section
variable {w0 W W' : World} {m g p : Nat} {d : DM} {M : LM} {T : Nat → Prop}
theorem Dsk.add (h : Dsk w0 m W g d) (hl : Lg W T p g M) (hT : ∀ k, T k → m ≤ k) (ok : M.Ok) {U : Nat → Prop} {A : Option Addr} {n c : Nat} {b : List UInt8} (hb : Byt W U A n c b) (hU : ∀ k, U k → ¬ T k ∧ (k < w0.heap.size ∨ m ≤ k)) (hn : n ≤ 1000000) :
    Calls Tryz.prog 68 #[.pointer (some ⟨p, 0, none⟩), .slice A n c] W fun e w' => e = .returned (.int .i64 (addM d M b).2.2) ∧ Dsk w0 m w' g (addM d M b).1 ∧ Lg w' (fun k => T k ∨ W.heap.size ≤ k) p g (addM d M b).2.1 ∧ Turned (fun k => (w0.heap.size ≤ k ∧ k < m) ∨ T k) W w' := by
  have hle := h.le
  refine (wadd_any hl h.dk (fun k _ h1 h2 => by have := hT k h2; omega) ok hb (fun k _ hk => ?_) hn).mono ?_
  · have := hU k hk
    exact ⟨fun h1 => by omega, this.1⟩
  · rintro _ w' ⟨rfl, h2, h3, h4⟩
    refine ⟨rfl, ⟨h2, h.bel.trans ((h4.mono fun k _ hk => ?_).below h.bel.size), Nat.le_trans h.top h4.size⟩, h3, h4⟩
    rcases hk with hk | hk
    · exact hk.1
    · have := hT k hk; omega
theorem Dsk.open (h : Dsk w0 m W g d) (f n : Nat) (hf : f + n ≤ d.l.length) (hn : 1 ≤ n) (hup : d.down = false) (hl : d.l.length ≤ 65536) :
    Calls Tryz.prog 52 #[.pointer (some ⟨g, 0, none⟩), .int .i64 (f : Int), .int .i64 (n : Int)] W fun e w' => ∃ p, e = .returned (.tuple #[.pointer (some ⟨p, 0, none⟩), .int .i64 0]) ∧ Lg w' (W.heap.size ≤ ·) p g (openM (blocksOf d.l (f : Int) (n : Int)) (f : Int) (n : Int)) ∧ Dsk w0 m w' g d ∧ Below W.heap.size W w' := by
  refine (wopen_any h.dk (f : Int) (n : Int) (by omega) (by omega)).mono ?_
  rintro _ w' ⟨h1, h2⟩
  rw [open_zero hf hn hup, if_pos rfl] at h1
  obtain ⟨p, rfl, h3⟩ := h1
  exact ⟨p, rfl, h3, h.below h2, h2⟩
theorem Dsk.begin (h : Dsk w0 m W g d) (f n least : Nat) (hf : f + n ≤ d.l.length) (hn : 1 ≤ n) (hup : d.down = false) (hl : d.l.length ≤ 65536) (hls : least < 18446744073709551616) :
    Calls Tryz.prog 56 #[.pointer (some ⟨g, 0, none⟩), .int .i64 (f : Int), .int .i64 (n : Int), .int .u64 (least : Int)] W fun e w' => ∃ p, e = .returned (.tuple #[.pointer (some ⟨p, 0, none⟩), .int .i64 0]) ∧ Lg w' (W.heap.size ≤ ·) p g (beginM (openM (blocksOf d.l (f : Int) (n : Int)) (f : Int) (n : Int)) (f : Int) (n : Int) least) ∧ Dsk w0 m w' g d ∧ Below W.heap.size W w' := by
  refine (wbegin_any h.dk (f : Int) (n : Int) (by omega) (by omega) least hls).mono ?_
  rintro _ w' ⟨h1, h2⟩
  rw [open_zero hf hn hup, if_pos rfl] at h1
  obtain ⟨p, rfl, h3⟩ := h1
  exact ⟨p, rfl, h3, h.below h2, h2⟩
end
theorem OnD.lok {d : DM} {m : LM} {f n : Nat} (h : OnD d m f n) (hf : f ≤ 65536) (h1 : 1 ≤ n) (hn : n ≤ 65536) (hx : m.next < 18446744073709551616) (hfs : m.first < 18446744073709551616) (hfew : m.l.length ≤ m.have_) : m.Ok :=
  ⟨by rw [h.from_]; omega, by rw [h.n_]; omega, by have := h.have_; rw [h.n_]; omega, hx, hfs, hfew⟩
theorem runW_few : ∀ (bs : List (List UInt8)) (i : Nat) (s : WS), s.recs.length ≤ s.have_ → s.have_ ≤ i → (runW bs i s).recs.length ≤ (runW bs i s).have_ ∧ (runW bs i s).have_ ≤ i + bs.length
  | [], i, s, h1, h2 => ⟨h1, h2⟩
  | b :: bs, i, s, h1, h2 => by
    have hs : (stepW i s b).recs.length ≤ (stepW i s b).have_ ∧ (stepW i s b).have_ ≤ i + 1 := by
      unfold stepW nextW
      split
      · simp only [List.length_append, List.length_singleton]
        omega
      · simp only
        omega
    have := runW_few bs (i + 1) _ hs.1 hs.2
    rw [runW, List.length_cons]
    omega
theorem runW_first {x : Nat} : ∀ (bs : List (List UInt8)) (i : Nat) (s : WS), s.first ≤ x → s.fst ≤ x → (∀ b ∈ bs, fL b ≤ x) → (runW bs i s).first ≤ x
  | [], _, _, h, _, _ => h
  | b :: bs, i, s, h1, h2, hb => by
    have hr := Nat.le_trans readL_le (hb b (by simp))
    rw [runW]
    refine runW_first bs (i + 1) _ ?_ ?_ fun c hc => hb c (by simp [hc])
    · unfold stepW nextW
      split
      · simp only
        split <;> omega
      · exact h1
    · unfold stepW nextW
      split
      · simp only
        split <;> omega
      · simp only
        split <;> omega
/-- A log that stands on a disk may be. -/
theorem OnD.okL {d : DM} {m : LM} {f n : Nat} (h : OnD d m f n) (hf : f ≤ 65536) (h1 : 1 ≤ n) (hn : n ≤ 65536) (hx : m.next < 18446744073709551616) : m.Ok := by
  refine h.lok hf h1 hn hx ?_ ?_
  · rw [h.fit.first]
    have := runW_first (x := m.next) ((blocksOf d.l (f : Int) (n : Int)).take m.have_) 0 ws0 (Nat.zero_le _) (Nat.zero_le _) (fun b hb => by have := (h.fit.ends b (List.mem_of_mem_take hb)).1; omega)
    omega
  · rw [h.fit.recs]
    have h2 := runW_few ((blocksOf d.l (f : Int) (n : Int)).take m.have_) 0 ws0 (Nat.le_refl _) (Nat.le_refl _)
    have h3 := h.fit.clean.have_
    omega
end Go.Proofs.YtcgnaomffioldaaGreat
