/-
  The statement CutterFront: its walk.
-/
import Derived.Test.YtcmdiclbbcdceaaCutAwake
import Derived.Test.YtcmdiclbbcdceaaGrow
import Derived.Test.YtcmdiclbbcdceaaAppend
namespace Go.Proofs.Ytcmdiclbbcdceaa
open Go.RowKit

def CFr (w2 : World) (N : Nat) (i : Value) (wr : World) : Prop := ∃ i' : Nat, i' ≤ N ∧ i = .int .i64 (i' : Int) ∧ Below w2.heap.size w2 wr

set_option maxHeartbeats 4000000 in
theorem walk_cfront {w : World} {S T : Nat → Prop} {A B : Option Addr} {na ca nb cb : Nat} {a b : List UInt8} (ha : Byt w S A na ca a) (hb : Byt w T B nb cb b) (le mo bi : Int) :
    Calls Try.prog 6 #[.slice A na ca, .slice B nb cb, .agg #[.int .i64 le, .int .i64 mo, .int .i64 bi]] w fun e w' => e = .returned (.bool true) ∧ Below w.heap.size w w' := by
  have hb0 : Below w.heap.size w (w.alloc (.cells #[.int .i64 le, .int .i64 mo, .int .i64 bi] 24)) := (Below.refl _ _).alloc (Nat.le_refl _) _
  have hx0 := heap_alloc_new w (.cells #[.int .i64 le, .int .i64 mo, .int .i64 bi] 24)
  have haw := cawake_true (w.alloc (.cells #[.int .i64 le, .int .i64 mo, .int .i64 bi] 24))
  have H0 := Lib.hid (And.intro hb0 (And.intro hx0 (And.intro ha hb)))
  have hla := ha.len
  have hlb := hb.len
  clear hb0 hx0 ha hb
  by_cases h1 : na ≤ 600
  · have h1' : ¬ (600 : Int) < (na : Int) := by omega
    by_cases h2 : nb ≤ 600
    · have h2' : ¬ (600 : Int) < (nb : Int) := by omega
      obtain ⟨V, hV⟩ : ∃ V, V = cutErr le mo bi := ⟨_, rfl⟩
      have HV := Lib.hid hV
      have HN := Lib.hid (And.intro h1 (And.intro h2 (And.intro hla hlb)))
      obtain ⟨L, hL⟩ : ∃ L, L = na + nb := ⟨_, rfl⟩
      have HL := Lib.hid hL
      clear hV h1 h2 hla hlb hL
      have HPRE : ∀ w1, Below (w.alloc (.cells #[.int .i64 le, .int .i64 mo, .int .i64 bi] 24)).heap.size (w.alloc (.cells #[.int .i64 le, .int .i64 mo, .int .i64 bi] 24)) w1 → Hid (Below w.heap.size w w1 ∧ w1.heap[w.heap.size]? = some (.cells #[.int .i64 le, .int .i64 mo, .int .i64 bi] 24 (0, 0))) := fun w1 hb1 => Lib.hid ⟨H0.out.1.trans (hb1.mono H0.out.1.size), (hb1.block _ (lt_of_cells H0.out.2.1)).trans H0.out.2.1⟩
      go_enter Try.func6, Try.ntmps6
      go_wp2_with (first
        | (go_at_call 8; refine haw.mono ?_; clear haw; rintro _ w1 ⟨rfl, hb1⟩; have H1 := HPRE _ hb1; clear HPRE
           obtain ⟨v2, w2, hrun1, hown2, hgr2⟩ := append_any (World.ownsRow_nil w1 w1.heap.size 5 1) (H0.out.2.2.1.below H1.out.1) (by have := HN.out.1; omega) (Nat.le_refl _) 22
           have hb12 := own_below_gr (World.ownsRow_nil w1 w1.heap.size 5 1) hgr2 (Below.refl _ _) (Nat.le_refl _)
           obtain ⟨v3, w3, hrun2, hown3, hgr3⟩ := append_any hown2 (H0.out.2.2.2.below (H1.out.1.trans (hb12.mono H1.out.1.size))) (by have h1 := HN.out.1; have h2 := HN.out.2.1; omega) hb12.size 22
           have hb13 := own_below_gr hown2 hgr3 hb12 hb12.size
           rw [List.nil_append, Nat.zero_add, ← HL.out] at hown3
           rw [show u8s a ++ u8s b = u8s (a ++ b) by simp [u8s]] at hown3
           obtain ⟨C, cc, rfl, hall⟩ := own_byt_any hown3
           have H3 := Lib.hid (And.intro (H1.out.1.trans (hb13.mono H1.out.1.size)) (And.intro ((hb13.block _ (lt_of_cells H1.out.2)).trans H1.out.2) hall))
           have hc0 : w3.cell? ⟨w.heap.size, 0, none⟩ = some (.int .i64 le) := cell_of_cells H3.out.2.1 0
           have hc1 : w3.cell? ⟨w.heap.size, 1, none⟩ = some (.int .i64 mo) := cell_of_cells H3.out.2.1 1
           have hc2 : w3.cell? ⟨w.heap.size, 2, none⟩ = some (.int .i64 bi) := cell_of_cells H3.out.2.1 2
           clear hb1 hown2 hgr2 hb12 hown3 hgr3 hb13 hall)
        | (at_builtin; refine wpList_app (by rfl) _ _ 22 (by rfl) (by rfl) (by rfl) hrun1 ?_; clear hrun1)
        | (at_builtin; refine wpList_app (by rfl) _ _ 22 (by rfl) (by rfl) (by rfl) hrun2 ?_; clear hrun2))
      refine (cutends_any (H0.out.2.2.1.below H3.out.1) (by have := HN.out.1; omega) le mo bi).mono ?_
      rintro _ w4 ⟨A1, N, c1, rfl, hi1, hb4⟩
      rw [← HV.out]
      have H4 := Lib.hid (And.intro (H3.out.1.trans (hb4.mono H3.out.1.size)) (And.intro ((hb4.block _ (lt_of_cells H3.out.2.1)).trans H3.out.2.1) (And.intro (H3.out.2.2.below hb4) hi1)))
      clear hb4 hi1 hc0 hc1 hc2
      have hc0 : w4.cell? ⟨w.heap.size, 0, none⟩ = some (.int .i64 le) := cell_of_cells H4.out.2.1 0
      have hc1 : w4.cell? ⟨w.heap.size, 1, none⟩ = some (.int .i64 mo) := cell_of_cells H4.out.2.1 1
      have hc2 : w4.cell? ⟨w.heap.size, 2, none⟩ = some (.int .i64 bi) := cell_of_cells H4.out.2.1 2
      go_wp2_with fail
      refine (cutends_any H4.out.2.2.1 (by have h0 := HL.out; have h1 := HN.out.1; have h2 := HN.out.2.1; omega) le mo bi).mono ?_
      rintro _ w5 ⟨A2, M, c2, rfl, hi2, hb5⟩
      rw [← HV.out]
      have H5 := Lib.hid (And.intro (H4.out.1.trans (hb5.mono H4.out.1.size)) (And.intro (H4.out.2.2.2.below hb5) hi2))
      clear hb5 hi2 hc0 hc1 hc2
      by_cases hv : V = 0
      · subst hv
        have hok : cutErr le mo bi = 0 := HV.out.symm
        have hE1 := H5.out.2.1
        have hE2 := H5.out.2.2
        rw [endV_ok hok] at hE1 hE2
        have hfr := endsC_front (cfgOf le mo bi) b a
        have hN1 := hE1.len
        have hM1 := hE2.len
        rw [endI_length] at hN1 hM1
        have hla := endsC_last (cfgOf le mo bi) (a ++ b)
        have hpo := endsC_pos (cfgOf le mo bi) (b := a ++ b)
        have hsh := endsC_short (cfgOf le mo bi) (a ++ b)
        rw [List.length_append, HN.out.2.2.1, HN.out.2.2.2, ← HL.out] at hla hpo hsh
        have HX := Lib.hid (And.intro hE1 (And.intro hE2 (And.intro hfr (And.intro hN1 (And.intro hM1 (And.intro hla (And.intro hpo hsh)))))))
        have hs1 := IntWalk.i64_in ((N : Int) - 1) (by have h0 := HL.out; have h1 := HN.out.1; have h2 := HN.out.2.1; have h3 := hfr.1; omega)
        clear hok hE1 hE2 hfr hN1 hM1 hla hpo hsh
        go_wp2_with fail
        go_loopw [13] (fun i wr => CFr w5 N i wr) (fun i _ => N - (intOf i).toNat)
        case atStart => exact ⟨0, Nat.zero_le _, rfl, Below.refl _ _⟩
        case round =>
          obtain ⟨i, hi, rfl, hbr⟩ := hrel
          have HR := Lib.hid (And.intro hi hbr)
          by_cases hlt : i + 1 < N
          · have hlt' : (i : Int) < (N : Int) - 1 := by omega
            have hfr := HX.out.2.2.1
            have hN1 := HX.out.2.2.2.1
            have hM1 := HX.out.2.2.2.2.1
            obtain ⟨q1, o1, rfl, _, hlq, hl⟩ := (HX.out.1.below hbr).row (by omega)
            obtain ⟨q3, o3, rfl, _, hmq, hm⟩ := (HX.out.2.1.below hbr).row (by omega)
            have hl := hl i (by omega)
            have hm := hm i (by omega)
            rw [endI_at _ _ (by omega)] at hl hm
            rw [hfr.2 i (by omega)] at hm
            obtain ⟨e', he⟩ : ∃ e', e' = (endsC (cfgOf le mo bi) a)[i]?.getD 0 := ⟨_, rfl⟩
            rw [← he] at hl hm
            have hiM : (i : Int) < (M : Int) := by have := hfr.1; omega
            have hiN : (i : Int) < (N : Int) := by omega
            have hj1 := IntWalk.i64_in ((i : Int) + 1) (by have h0 := HL.out; have h1 := HN.out.1; have h2 := HN.out.2.1; have h3 := hfr.1; have h4 := HX.out.2.2.2.2.2.2.2; omega)
            have HC : Hid (∀ W, Below wr.drew.heap.size wr.drew W → W.cell? ⟨q1, o1 + i, none⟩ = some (.int .i64 (e' : Int)) ∧ W.cell? ⟨q3, o3 + i, none⟩ = some (.int .i64 (e' : Int))) := Lib.hid fun W hW => by
              have hW2 : Below wr.heap.size wr W := Grow.below_of_drew hW
              exact ⟨(hW2.cell (p := ⟨_, _, none⟩) hlq).trans hl, (hW2.cell (p := ⟨_, _, none⟩) hmq).trans hm⟩
            clear hi hbr hfr hN1 hM1 hl hm he hlq hmq
            go_wp2_with fail
            refine wp_region_grow (fun W W' => Below W.heap.size W W') (Grow.nth [fun v _ => v = .int .i64 (i : Int), fun v _ => v = .slice (some ⟨q3, o3, none⟩) M c2, fun v _ => v = .int .i64 (M : Int), fun v _ => v = .bool false, fun v _ => v = .bool false, fun v _ => v = .slice (some ⟨q1, o1, none⟩) N c1, fun v _ => v = .int .i64 (i : Int), fun v _ => v = .pointer (some ⟨q1, o1 + i, none⟩), fun v _ => v = .int .i64 (e' : Int), fun v _ => v = .slice (some ⟨q3, o3, none⟩) M c2, fun v _ => v = .int .i64 (i : Int), fun v _ => v = .pointer (some ⟨q3, o3 + i, none⟩), fun v _ => v = .int .i64 (e' : Int), fun v _ => v = .bool false, fun v _ => v = .bool false]) 96 (by kernel_rfl) (by kernel_rfl) (by rfl) (fun W => Below.refl _ W) (fun _ _ _ h1 h2 => h1.trans (h2.mono h1.size)) (Grow.mono_nth ?gmono) ?gsteps ?gfin
            case gmono => exact ⟨fun _ _ _ h _ => h, fun _ _ _ h _ => h, fun _ _ _ h _ => h, fun _ _ _ h _ => h, fun _ _ _ h _ => h, fun _ _ _ h _ => h, fun _ _ _ h _ => h, fun _ _ _ h _ => h, fun _ _ _ h _ => h, fun _ _ _ h _ => h, fun _ _ _ h _ => h, fun _ _ _ h _ => h, fun _ _ _ h _ => h, fun _ _ _ h _ => h, fun _ _ _ h _ => h, trivial⟩
            case gsteps =>
              show Grow.allBelow _ 15
              refine And.intro ?_ ?s14
              refine And.intro ?_ ?s13
              refine And.intro ?_ ?s12
              refine And.intro ?_ ?s11
              refine And.intro ?_ ?s10
              refine And.intro ?_ ?s9
              refine And.intro ?_ ?s8
              refine And.intro ?_ ?s7
              refine And.intro ?_ ?s6
              refine And.intro ?_ ?s5
              refine And.intro ?_ ?s4
              refine And.intro ?_ ?s3
              refine And.intro ?_ ?s2
              refine And.intro ?_ ?s1
              refine And.intro ?_ ?s0
              exact trivial
              case s0 =>
                refine Grow.step_in (by rfl) (by rfl) ?_
                intro E W ec eg ef hG hd hu R HR
                have e13 : E (.tmp 13) = .int .i64 (i : Int) := hu 13 (by kernel_rfl)
                clear hd hu
                go_simp
                exact HR.out _ _ (Below.refl _ _) rfl
              case s1 =>
                refine Grow.step_in (by rfl) (by rfl) ?_
                intro E W ec eg ef hG hd hu R HR
                have e11 : E (.tmp 11) = .slice (some ⟨q3, o3, none⟩) M c2 := hu 11 (by kernel_rfl)
                clear hd hu
                go_simp
                exact HR.out _ _ (Below.refl _ _) rfl
              case s2 =>
                refine Grow.step_in (by rfl) (by rfl) ?_
                intro E W ec eg ef hG hd hu R HR
                have e61 : E (.tmp 61) = .slice (some ⟨q3, o3, none⟩) M c2 := hd 1 61 (by kernel_rfl)
                clear hd hu
                go_simp
                exact HR.out _ _ (Below.refl _ _) rfl
              case s3 =>
                refine Grow.step_in (by rfl) (by rfl) ?_
                intro E W ec eg ef hG hd hu R HR
                have e60 : E (.tmp 60) = .int .i64 (i : Int) := hd 0 60 (by kernel_rfl)
                have e62 : E (.tmp 62) = .int .i64 (M : Int) := hd 2 62 (by kernel_rfl)
                clear hd hu
                go_simp
                first | exact HR.out _ _ (Below.refl _ _) rfl | exact HR.out _ _ (Below.refl _ _) (congrArg Value.bool (decide_eq_false (by omega)))
              case s4 =>
                refine Grow.step_in (by rfl) (by rfl) ?_
                intro E W ec eg ef hG hd hu R HR
                have e63 : E (.tmp 63) = .bool false := hd 3 63 (by kernel_rfl)
                clear hd hu
                go_simp
                exact HR.out _ _ (Below.refl _ _) rfl
              case s5 =>
                refine Grow.step_on (g := 4) (b := false) (d := 64) (by rfl) (by rfl) (by rfl) (by kernel_rfl) (fun v W h => h) ?_
                intro E W ec eg ef hG hd hu R HR
                have e9 : E (.tmp 9) = .slice (some ⟨q1, o1, none⟩) N c1 := hu 9 (by kernel_rfl)
                clear hd hu
                go_simp
                exact HR.out _ _ (Below.refl _ _) rfl
              case s6 =>
                refine Grow.step_on (g := 4) (b := false) (d := 64) (by rfl) (by rfl) (by rfl) (by kernel_rfl) (fun v W h => h) ?_
                intro E W ec eg ef hG hd hu R HR
                have e13 : E (.tmp 13) = .int .i64 (i : Int) := hu 13 (by kernel_rfl)
                clear hd hu
                go_simp
                exact HR.out _ _ (Below.refl _ _) rfl
              case s7 =>
                refine Grow.step_on (g := 4) (b := false) (d := 64) (by rfl) (by rfl) (by rfl) (by kernel_rfl) (fun v W h => h) ?_
                intro E W ec eg ef hG hd hu R HR
                have e65 : E (.tmp 65) = .slice (some ⟨q1, o1, none⟩) N c1 := hd 5 65 (by kernel_rfl)
                have e66 : E (.tmp 66) = .int .i64 (i : Int) := hd 6 66 (by kernel_rfl)
                clear hd hu
                go_simp
                first | exact HR.out _ _ (Below.refl _ _) rfl | (rw [if_pos ⟨by omega, by omega⟩]; exact HR.out _ _ (Below.refl _ _) rfl) | (rw [if_pos (by omega)]; exact HR.out _ _ (Below.refl _ _) rfl)
              case s8 =>
                refine Grow.step_on (g := 4) (b := false) (d := 64) (by rfl) (by rfl) (by rfl) (by kernel_rfl) (fun v W h => h) ?_
                intro E W ec eg ef hG hd hu R HR
                have e67 : E (.tmp 67) = .pointer (some ⟨q1, o1 + i, none⟩) := hd 7 67 (by kernel_rfl)
                clear hd hu
                obtain ⟨k1, k2⟩ := HC.out W hG
                go_simp
                exact HR.out _ _ (Below.refl _ _) rfl
              case s9 =>
                refine Grow.step_on (g := 4) (b := false) (d := 64) (by rfl) (by rfl) (by rfl) (by kernel_rfl) (fun v W h => h) ?_
                intro E W ec eg ef hG hd hu R HR
                have e11 : E (.tmp 11) = .slice (some ⟨q3, o3, none⟩) M c2 := hu 11 (by kernel_rfl)
                clear hd hu
                go_simp
                exact HR.out _ _ (Below.refl _ _) rfl
              case s10 =>
                refine Grow.step_on (g := 4) (b := false) (d := 64) (by rfl) (by rfl) (by rfl) (by kernel_rfl) (fun v W h => h) ?_
                intro E W ec eg ef hG hd hu R HR
                have e13 : E (.tmp 13) = .int .i64 (i : Int) := hu 13 (by kernel_rfl)
                clear hd hu
                go_simp
                exact HR.out _ _ (Below.refl _ _) rfl
              case s11 =>
                refine Grow.step_on (g := 4) (b := false) (d := 64) (by rfl) (by rfl) (by rfl) (by kernel_rfl) (fun v W h => h) ?_
                intro E W ec eg ef hG hd hu R HR
                have e69 : E (.tmp 69) = .slice (some ⟨q3, o3, none⟩) M c2 := hd 9 69 (by kernel_rfl)
                have e70 : E (.tmp 70) = .int .i64 (i : Int) := hd 10 70 (by kernel_rfl)
                clear hd hu
                go_simp
                first | exact HR.out _ _ (Below.refl _ _) rfl | (rw [if_pos ⟨by omega, by omega⟩]; exact HR.out _ _ (Below.refl _ _) rfl) | (rw [if_pos (by omega)]; exact HR.out _ _ (Below.refl _ _) rfl)
              case s12 =>
                refine Grow.step_on (g := 4) (b := false) (d := 64) (by rfl) (by rfl) (by rfl) (by kernel_rfl) (fun v W h => h) ?_
                intro E W ec eg ef hG hd hu R HR
                have e71 : E (.tmp 71) = .pointer (some ⟨q3, o3 + i, none⟩) := hd 11 71 (by kernel_rfl)
                clear hd hu
                obtain ⟨k1, k2⟩ := HC.out W hG
                go_simp
                exact HR.out _ _ (Below.refl _ _) rfl
              case s13 =>
                refine Grow.step_on (g := 4) (b := false) (d := 64) (by rfl) (by rfl) (by rfl) (by kernel_rfl) (fun v W h => h) ?_
                intro E W ec eg ef hG hd hu R HR
                have e68 : E (.tmp 68) = .int .i64 (e' : Int) := hd 8 68 (by kernel_rfl)
                have e72 : E (.tmp 72) = .int .i64 (e' : Int) := hd 12 72 (by kernel_rfl)
                clear hd hu
                go_simp
                exact HR.out _ _ (Below.refl _ _) rfl
              case s14 =>
                refine Grow.step_in (by rfl) (by rfl) ?_
                intro E W ec eg ef hG hd hu R HR
                have e64 : E (.tmp 64) = .bool false := hd 4 64 (by kernel_rfl)
                have e73 : E (.tmp 73) = .bool false := hd 13 73 (by kernel_rfl)
                clear hd hu
                go_simp
                exact HR.out _ _ (Below.refl _ _) rfl
            case gfin =>
              intro W hG
              refine Grow.fin_dst (by rfl) ?_
              rintro _ rfl
              refine Grow.fin_dst (by rfl) ?_
              rintro _ rfl
              refine Grow.fin_dst (by rfl) ?_
              rintro _ rfl
              refine Grow.fin_dst (by rfl) ?_
              rintro _ rfl
              refine Grow.fin_dst (by rfl) ?_
              rintro _ rfl
              refine Grow.fin_dst (by rfl) ?_
              rintro _ rfl
              refine Grow.fin_dst (by rfl) ?_
              rintro _ rfl
              refine Grow.fin_dst (by rfl) ?_
              rintro _ rfl
              refine Grow.fin_dst (by rfl) ?_
              rintro _ rfl
              refine Grow.fin_dst (by rfl) ?_
              rintro _ rfl
              refine Grow.fin_dst (by rfl) ?_
              rintro _ rfl
              refine Grow.fin_dst (by rfl) ?_
              rintro _ rfl
              refine Grow.fin_dst (by rfl) ?_
              rintro _ rfl
              refine Grow.fin_dst (by rfl) ?_
              rintro _ rfl
              refine Grow.fin_dst (by rfl) ?_
              rintro _ rfl
              simp only [Act.put, List.setIfInBounds_toArray, List.set_cons_zero, List.set_cons_succ]
              refine Grow.fin_end ?_
              have HB2 : Hid (Below w5.heap.size w5 W) := Lib.hid (HR.out.2.trans ((Grow.below_of_drew hG).mono HR.out.2.size))
              clear hG
              go_wp2_with fail
              go_roundw
              case rel => unfold CFr; exact ⟨i + 1, by omega, by simp, HB2.out⟩
              case measure => simp only [intOf]; omega
          · have hlt' : ¬ (i : Int) < (N : Int) - 1 := by omega
            have hMN : (N : Int) ≤ (M : Int) := by have h1 := HX.out.2.2.1.1; have h2 := HX.out.2.2.2.1; have h3 := HX.out.2.2.2.2.1; omega
            have HF := Lib.hid (H5.out.1.trans (hbr.mono H5.out.1.size))
            by_cases hz : L = 0
            · have hz' : ((L : Int) == 0) = true := by simp [hz]
              clear hi hbr hz
              go_wp2_with fail
              go_ret
              exact ⟨rfl, HF.out⟩
            · have hz' : ((L : Int) == 0) = false := by simpa using hz
              have hpo := HX.out.2.2.2.2.2.2.1
              have hM1 := HX.out.2.2.2.2.1
              have hM0 : 0 < M := by omega
              obtain ⟨q3, o3, rfl, _, _, hm⟩ := (HX.out.2.1.below hbr).row hM0
              obtain ⟨M1, hMM⟩ : ∃ M1, M = M1 + 1 := ⟨M - 1, by omega⟩
              have hm := hm M1 (by omega)
              rw [endI_at _ _ (by omega)] at hm
              have hla := HX.out.2.2.2.2.2.1 (by omega)
              rw [List.getLast?_eq_getElem?, hM1, hMM, Nat.add_sub_cancel] at hla
              rw [hla, Option.getD_some] at hm
              have hs2 : IntKind.i64.wrap ((M : Int) - 1) = (M1 : Int) := by rw [IntWalk.i64_in _ (by have h1 := HN.out.1; have h2 := HN.out.2.1; have h3 := HX.out.2.2.2.2.2.2.2; have h4 := HL.out; omega)]; omega
              have hM2 : (M1 : Int) < (M : Int) := by omega
              clear hi hbr hz hpo hM1 hM0 hMM hla
              go_wp2_with fail
              go_ret
              exact ⟨rfl, HF.out⟩
      · have hv' : (V != 0) = true := by simpa using hv
        clear hv
        go_wp2_with fail
        go_ret
        exact ⟨rfl, H5.out.1⟩
    · have h2' : (600 : Int) < (nb : Int) := by omega
      clear h1 h2 hla hlb
      go_enter Try.func6, Try.ntmps6
      go_wp2_with (go_at_call 8; refine haw.mono ?_; clear haw; rintro _ w1 ⟨rfl, hb1⟩)
      go_ret
      exact ⟨rfl, H0.out.1.trans (hb1.mono H0.out.1.size)⟩
  · have h1' : (600 : Int) < (na : Int) := by omega
    clear h1 hla hlb
    go_enter Try.func6, Try.ntmps6
    go_wp2_with (go_at_call 8; refine haw.mono ?_; clear haw; rintro _ w1 ⟨rfl, hb1⟩)
    go_ret
    exact ⟨rfl, H0.out.1.trans (hb1.mono H0.out.1.size)⟩
end Go.Proofs.Ytcmdiclbbcdceaa
