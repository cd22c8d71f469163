/-
  The reference's Check.
-/
import Derived.BigQuiet
import Derived.Test.YtpcoiakdbfihlaaDoorPkChecks01
import Derived.Test.YtpcoiakdbfihlaaDoorPk08
import Derived.Test.YtpcoiakdbfihlaaDoorPk10
import Derived.Test.YtpcoiakdbfihlaaDoorPk04
/-! The reference's Check. -/
namespace Go.Proofs.YtpcoiakdbfihlaaDoor
open Go.RowKit Codec

theorem lt_front (a : List UInt8) (c : UInt8) (b : List UInt8) : a < a ++ c :: b := by
  induction a with
  | nil => simp
  | cons x a ih =>
    rw [List.cons_append, List.cons_lt_cons_iff]
    exact .inr ⟨rfl, ih⟩
/-- A file ahead of another one, where a directory of it should be. -/
theorem front_clash {l : Tb} {i k : Nat} {x y : Fi} (hx : l[i]? = some x) (hy : l[k]? = some y) (h : frontB y.1 x.1 = true) : riseB l = false ∨ clashB l = true := by
  cases hr : riseB l with
  | false => exact .inl rfl
  | true =>
    right
    have hR := rise_ris hr
    obtain ⟨r, e⟩ := frontB_iff.1 h
    have hlt : y.1 < x.1 := by rw [e]; exact lt_front _ _ _
    have hki : k < i := by
      rcases Nat.lt_trichotomy k i with h1 | h1 | h1
      · exact h1
      · subst h1
        rw [hx] at hy
        injection hy with hy
        subst hy
        exact absurd hlt (klt_irr _)
      · exact absurd hlt (klt_as (hR i k x y h1 hx hy))
    refine clash_some (i := i) (List.getElem?_eq_some_iff.1 hx).1 ((clashAt_iff hx).2 ⟨y.1, mem_fr.2 (.inr ⟨r, e⟩), ?_⟩)
    unfold aheadL
    rw [List.mem_reverse, List.mem_map]
    exact ⟨y, List.mem_of_getElem? (show (l.take i)[k]? = some y by rw [List.getElem?_take_of_lt hki]; exact hy), rfl⟩
theorem no_clash {l : Tb} (hr : riseB l = true) (h : ∀ (i k : Nat) (x y : Fi), l[i]? = some x → l[k]? = some y → frontB y.1 x.1 = false) : clashB l = false := by
  have hR := rise_ris hr
  refine clash_none fun i hi => ?_
  obtain ⟨x, hx⟩ : ∃ x, l[i]? = some x := ⟨_, List.getElem?_eq_getElem hi⟩
  cases e : clashAt l i with
  | false => rfl
  | true =>
    exfalso
    obtain ⟨q, hq, ha⟩ := (clashAt_iff hx).1 e
    unfold aheadL at ha
    rw [List.mem_reverse, List.mem_map] at ha
    obtain ⟨y, hy, rfl⟩ := ha
    obtain ⟨k, hk⟩ := List.mem_iff_getElem?.1 hy
    have hki : k < i := by
      have := (List.getElem?_eq_some_iff.1 hk).1
      rw [List.length_take] at this
      omega
    rw [List.getElem?_take_of_lt hki] at hk
    rcases mem_fr.1 hq with h1 | ⟨r, h1⟩
    · have := hR k i y x hki hk hx
      rw [h1] at this
      exact klt_irr _ this
    · have := h i k x y hx hk
      rw [frontB_iff.2 ⟨r, h1⟩] at this
      cases this
theorem fst_less (a b : List UInt8) : Op.bytesLess (st a).toList (st b).toList = decide (a < b) := by rw [st_list, st_list, bytes_less]
theorem allF_bound {l : Tb} (h : l.any (fun x => decide (1048576 < x.2.length)) = false) : allF l ≤ 1048576 * l.length := by
  induction l with
  | nil => simp [allF]
  | cons x t ih =>
    simp only [List.any_cons, Bool.or_eq_false_iff, decide_eq_false_iff_not] at h
    have h1 := ih h.2
    have h2 : allF (x :: t) = x.2.length + allF t := by simp [allF]
    rw [h2, List.length_cons]
    omega
theorem too_eq {l : Tb} (h : l.any (fun x => decide (1048576 < x.2.length)) = false) : tooB l = (decide (16777216 < allF l) || decide (65536 < l.length)) := by
  unfold tooB
  rw [h, Bool.or_false, Bool.or_comm]
/-- While they are looked at. -/
structure RkI (l : Tb) (j : Nat) : Prop where
  rise : riseB (l.take j) = true
  front : ∀ (i k : Nat) (x y : Fi), i < j → l[i]? = some x → l[k]? = some y → frontB y.1 x.1 = false
def RkR (w : World) (l : Tb) (i : Value) (wr : World) : Prop := ∃ j : Nat, j ≤ l.length ∧ i = .int .i64 (j : Int) ∧ RkI l j ∧ Below w.heap.size w wr
theorem chk_bad {l : Tb} (h : riseB l = false ∨ clashB l = true) : chkE l = 1 := by unfold chkE; rw [if_pos h]
theorem chk_fine {l : Tb} (h : riseB l = true) (h2 : clashB l = false) : chkE l = if tooB l = true then 13 else 0 := by
  unfold chkE
  rw [if_neg (by rw [h, h2]; simp)]
set_option maxHeartbeats 8000000 in
set_option maxRecDepth 100000 in
theorem rcheck_any {w : World} {S : Nat → Prop} {A : Option Addr} {n c : Nat} {l : Tb} (hl : Fms w S A n c l) (hn : n ≤ 100000000) :
    Calls Tryd.prog 17 #[.slice A n c] w fun e w' => e = .returned (.int .i64 (chkE l)) ∧ Below w.heap.size w w' := by
  have HL := Lib.hid (And.intro hl hl.len)
  have hrp := rpath_any
  clear hl
  go_enter Tryd.func17, Tryd.ntmps17
  go_wp2_with fail
  go_loopw [3] (fun i wr => RkR w l i wr) (fun i _ => n - (intOf i).toNat)
  case atStart => exact ⟨0, Nat.zero_le _, rfl, ⟨rfl, fun i k x y h => absurd h (by omega)⟩, Below.refl _ _⟩
  case round =>
    obtain ⟨j, hj, rfl, hI, hb⟩ := hrel
    by_cases hlt : j < n
    · have hlt' : (j : Int) < (n : Int) := by omega
      have hadd := IntWalk.i64_in ((j : Int) + 1) (by omega)
      obtain ⟨q, off, x, rfl, _, hqlt, hx, hc0, hc1⟩ := HL.out.1.at_ hlt
      have hp0 := (hb.cell (p := ⟨_, _, none⟩) hqlt).trans hc0
      have hpx := hrp x.1 wr
      have HX := Lib.hid (And.intro hx (And.intro hc0 (And.intro hqlt hlt)))
      have HI := Lib.hid hI
      have HB := Lib.hid hb
      clear hx hc0 hc1 hqlt hI hb hlt hrp hj
      go_upto_region 5 with (go_at_call 15; refine hpx.mono ?_; clear hpx; rintro _ w1 ⟨rfl, hb1⟩)
      clear hp0
      have HB1 := Lib.hid (HB.out.trans (hb1.mono HB.out.size))
      clear hb1
      have HCX : Hid (∀ W, Below w1.drew.heap.size w1.drew W → W.cell? ⟨q, off + j * 2, none⟩ = some (.string (st x.1))) := Lib.hid fun W hW => ((HB1.out.trans ((Grow.below_of_drew hW).mono HB1.out.size)).cell (p := ⟨_, _, none⟩) HX.out.2.2.1).trans HX.out.2.1
      have HBG : Hid (∀ W, Below w1.drew.heap.size w1.drew W → Below w.heap.size w W) := Lib.hid fun W hW => HB1.out.trans ((Grow.below_of_drew hW).mono HB1.out.size)
      have hst := rise_step HX.out.1
      rw [HI.out.rise, Bool.true_and] at hst
      by_cases hok : pathOk x.1 = true
      · rw [hok] at hst ⊢
        by_cases hpre : j = 0 ∨ ∃ m y, j = m + 1 ∧ l[m]? = some y ∧ y.1 < x.1
        · have HST : Hid (riseB (l.take (j + 1)) = true) := Lib.hid (by
            rcases hpre with rfl | ⟨m, y, rfl, hy, hyx⟩
            · simpa using hst
            · rw [rise_last hy] at hst
              simpa [hyx] using hst)
          have HF : Hid (∀ W : World, Below w.heap.size w W → ∀ k, k < n → ∃ y, l[k]? = some y ∧ W.cell? ⟨q, off + k * 2, none⟩ = some (.string (st y.1))) := Lib.hid fun W hW k hk => by
            obtain ⟨q', off', y, e, _, hq', hy, hc, _⟩ := HL.out.1.at_ hk
            injection e with e
            injection e with e1 e2 _
            subst e1 e2
            exact ⟨y, hy, (hW.cell (p := ⟨_, _, none⟩) hq').trans hc⟩
          have HGO : Hid (∀ W, Below w.heap.size w W → W.cell? ⟨q, off + j * 2, none⟩ = some (.string (st x.1))) := Lib.hid fun W hW => (hW.cell (p := ⟨_, _, none⟩) HX.out.2.2.1).trans HX.out.2.1
          have hfr := front_any
          have hjn : j < n := HX.out.2.2.2
          rcases hpre with h0 | ⟨m, y, hm, hy, hyx⟩
          · have hgt : decide (0 < j) = false := decide_eq_false (by omega)
            clear h0 hst hok
            refine wp_region_grow (fun W W' => Below W.heap.size W W') (Grow.nth [fun v _ => v = .bool true, fun v _ => v = .bool false, fun v _ => v = .bool false, fun v _ => v = .int .i64 (j : Int), fun v _ => v = .bool false, fun v _ => v = .bool false, fun v _ => v = undef, fun v _ => v = undef, fun v _ => v = undef, fun v _ => v = undef, fun v _ => v = undef, fun v _ => v = undef, fun v _ => v = undef, fun v _ => v = undef, fun v _ => v = undef, fun v _ => v = undef, fun v _ => v = undef, fun v _ => v = undef, fun v _ => v = .bool false, fun v _ => v = .bool false]) 85 (by kernel_rfl) (by kernel_rfl) (by rfl) (fun W => Below.refl _ W) (fun _ _ _ h1 h2 => h1.trans (h2.mono h1.size)) (Grow.mono_nth ?gmono) ?gsteps ?gfin
            case gmono => exact ⟨fun _ _ _ h _ => h, fun _ _ _ h _ => h, fun _ _ _ h _ => h, fun _ _ _ h _ => h, fun _ _ _ h _ => h, fun _ _ _ h _ => h, fun _ _ _ h _ => h, fun _ _ _ h _ => h, fun _ _ _ h _ => h, fun _ _ _ h _ => h, fun _ _ _ h _ => h, fun _ _ _ h _ => h, fun _ _ _ h _ => h, fun _ _ _ h _ => h, fun _ _ _ h _ => h, fun _ _ _ h _ => h, fun _ _ _ h _ => h, fun _ _ _ h _ => h, fun _ _ _ h _ => h, fun _ _ _ h _ => h, trivial⟩
            case gsteps =>
              show Grow.allBelow _ 20
              refine And.intro ?_ ?s19
              refine And.intro ?_ ?s18
              refine And.intro ?_ ?s17
              refine And.intro ?_ ?s16
              refine And.intro ?_ ?s15
              refine And.intro ?_ ?s14
              refine And.intro ?_ ?s13
              refine And.intro ?_ ?s12
              refine And.intro ?_ ?s11
              refine And.intro ?_ ?s10
              refine And.intro ?_ ?s9
              refine And.intro ?_ ?s8
              refine And.intro ?_ ?s7
              refine And.intro ?_ ?s6
              refine And.intro ?_ ?s5
              refine And.intro ?_ ?s4
              refine And.intro ?_ ?s3
              refine And.intro ?_ ?s2
              refine And.intro ?_ ?s1
              refine And.intro ?_ ?s0
              exact trivial
              case s0 =>
                refine Grow.step_in (by rfl) (by rfl) ?_
                intro E W ec eg ef hG hd hu R HR
                have e4 : E (.tmp 4) = .bool true := hu 4 (by kernel_rfl)
                clear hd hu
                go_simp
                exact HR.out _ _ (Below.refl _ _) rfl
              case s1 =>
                refine Grow.step_in (by rfl) (by rfl) ?_
                intro E W ec eg ef hG hd hu R HR
                have e20 : E (.tmp 20) = .bool true := hd 0 20 (by kernel_rfl)
                clear hd hu
                go_simp
                exact HR.out _ _ (Below.refl _ _) rfl
              case s2 =>
                refine Grow.step_in (by rfl) (by rfl) ?_
                intro E W ec eg ef hG hd hu R HR
                have e21 : E (.tmp 21) = .bool false := hd 1 21 (by kernel_rfl)
                clear hd hu
                go_simp
                exact HR.out _ _ (Below.refl _ _) rfl
              case s3 =>
                refine Grow.step_on (g := 2) (b := false) (d := 22) (by rfl) (by rfl) (by rfl) (by kernel_rfl) (fun v W h => h) ?_
                intro E W ec eg ef hG hd hu R HR
                have e3 : E (.tmp 3) = .int .i64 (j : Int) := hu 3 (by kernel_rfl)
                clear hd hu
                go_simp
                exact HR.out _ _ (Below.refl _ _) rfl
              case s4 =>
                refine Grow.step_on (g := 2) (b := false) (d := 22) (by rfl) (by rfl) (by rfl) (by kernel_rfl) (fun v W h => h) ?_
                intro E W ec eg ef hG hd hu R HR
                have e23 : E (.tmp 23) = .int .i64 (j : Int) := hd 3 23 (by kernel_rfl)
                clear hd hu
                have hg2 := hgt
                go_simp
                exact HR.out _ _ (Below.refl _ _) rfl
              case s5 =>
                refine Grow.step_on (g := 2) (b := false) (d := 22) (by rfl) (by rfl) (by rfl) (by kernel_rfl) (fun v W h => h) ?_
                intro E W ec eg ef hG hd hu R HR
                have e24 : E (.tmp 24) = .bool false := hd 4 24 (by kernel_rfl)
                clear hd hu
                go_simp
                exact HR.out _ _ (Below.refl _ _) rfl
              case s6 =>
                exact Grow.step_off (g := 5) (b := true) (b' := false) (d := 25) (by rfl) (by rfl) (by rfl) (by kernel_rfl) (fun v W h => h) (by decide) (fun _ => rfl)
              case s7 =>
                exact Grow.step_off (g := 5) (b := true) (b' := false) (d := 25) (by rfl) (by rfl) (by rfl) (by kernel_rfl) (fun v W h => h) (by decide) (fun _ => rfl)
              case s8 =>
                exact Grow.step_off (g := 5) (b := true) (b' := false) (d := 25) (by rfl) (by rfl) (by rfl) (by kernel_rfl) (fun v W h => h) (by decide) (fun _ => rfl)
              case s9 =>
                exact Grow.step_off (g := 5) (b := true) (b' := false) (d := 25) (by rfl) (by rfl) (by rfl) (by kernel_rfl) (fun v W h => h) (by decide) (fun _ => rfl)
              case s10 =>
                exact Grow.step_off (g := 5) (b := true) (b' := false) (d := 25) (by rfl) (by rfl) (by rfl) (by kernel_rfl) (fun v W h => h) (by decide) (fun _ => rfl)
              case s11 =>
                exact Grow.step_off (g := 5) (b := true) (b' := false) (d := 25) (by rfl) (by rfl) (by rfl) (by kernel_rfl) (fun v W h => h) (by decide) (fun _ => rfl)
              case s12 =>
                exact Grow.step_off (g := 5) (b := true) (b' := false) (d := 25) (by rfl) (by rfl) (by rfl) (by kernel_rfl) (fun v W h => h) (by decide) (fun _ => rfl)
              case s13 =>
                exact Grow.step_off (g := 5) (b := true) (b' := false) (d := 25) (by rfl) (by rfl) (by rfl) (by kernel_rfl) (fun v W h => h) (by decide) (fun _ => rfl)
              case s14 =>
                exact Grow.step_off (g := 5) (b := true) (b' := false) (d := 25) (by rfl) (by rfl) (by rfl) (by kernel_rfl) (fun v W h => h) (by decide) (fun _ => rfl)
              case s15 =>
                exact Grow.step_off (g := 5) (b := true) (b' := false) (d := 25) (by rfl) (by rfl) (by rfl) (by kernel_rfl) (fun v W h => h) (by decide) (fun _ => rfl)
              case s16 =>
                exact Grow.step_off (g := 5) (b := true) (b' := false) (d := 25) (by rfl) (by rfl) (by rfl) (by kernel_rfl) (fun v W h => h) (by decide) (fun _ => rfl)
              case s17 =>
                exact Grow.step_off (g := 5) (b := true) (b' := false) (d := 25) (by rfl) (by rfl) (by rfl) (by kernel_rfl) (fun v W h => h) (by decide) (fun _ => rfl)
              case s18 =>
                refine Grow.step_on (g := 2) (b := false) (d := 22) (by rfl) (by rfl) (by rfl) (by kernel_rfl) (fun v W h => h) ?_
                intro E W ec eg ef hG hd hu R HR
                have e25 : E (.tmp 25) = .bool false := hd 5 25 (by kernel_rfl)
                have e37 : E (.tmp 37) = undef := hd 17 37 (by kernel_rfl)
                clear hd hu
                go_simp
                exact HR.out _ _ (Below.refl _ _) rfl
              case s19 =>
                refine Grow.step_in (by rfl) (by rfl) ?_
                intro E W ec eg ef hG hd hu R HR
                have e22 : E (.tmp 22) = .bool false := hd 2 22 (by kernel_rfl)
                have e38 : E (.tmp 38) = .bool false := hd 18 38 (by kernel_rfl)
                clear hd hu
                go_simp
                exact HR.out _ _ (Below.refl _ _) rfl
            case gfin =>
              intro W hG
              refine Grow.fin_dst (by rfl) ?_
              rintro _ rfl
              refine Grow.fin_dst (by rfl) ?_
              rintro _ rfl
              refine Grow.fin_dst (by rfl) ?_
              rintro _ rfl
              refine Grow.fin_dst (by rfl) ?_
              rintro _ rfl
              refine Grow.fin_dst (by rfl) ?_
              rintro _ rfl
              refine Grow.fin_dst (by rfl) ?_
              rintro _ rfl
              refine Grow.fin_dst (by rfl) ?_
              rintro _ rfl
              refine Grow.fin_dst (by rfl) ?_
              rintro _ rfl
              refine Grow.fin_dst (by rfl) ?_
              rintro _ rfl
              refine Grow.fin_dst (by rfl) ?_
              rintro _ rfl
              refine Grow.fin_dst (by rfl) ?_
              rintro _ rfl
              refine Grow.fin_dst (by rfl) ?_
              rintro _ rfl
              refine Grow.fin_dst (by rfl) ?_
              rintro _ rfl
              refine Grow.fin_dst (by rfl) ?_
              rintro _ rfl
              refine Grow.fin_dst (by rfl) ?_
              rintro _ rfl
              refine Grow.fin_dst (by rfl) ?_
              rintro _ rfl
              refine Grow.fin_dst (by rfl) ?_
              rintro _ rfl
              refine Grow.fin_dst (by rfl) ?_
              rintro _ rfl
              refine Grow.fin_dst (by rfl) ?_
              rintro _ rfl
              refine Grow.fin_dst (by rfl) ?_
              rintro _ rfl
              simp only [Act.put, List.setIfInBounds_toArray, List.set_cons_zero, List.set_cons_succ]
              refine Grow.fin_end ?_
              have HB2 := Lib.hid (HBG.out _ hG)
              clear hG HB1 HBG
              go_wp2_with fail
              go_loopw [5] (fun v wr => ∃ k : Nat, k ≤ n ∧ v = .int .i64 (k : Int) ∧ (∀ (i : Nat) (y : Fi), i < k → l[i]? = some y → frontB y.1 x.1 = false) ∧ Below w.heap.size w wr) (fun v _ => n - (intOf v).toNat)
              case atStart => exact ⟨0, Nat.zero_le _, rfl, fun i y h => absurd h (by omega), HB2.out⟩
              case round =>
                obtain ⟨k, hk, rfl, hno, hb⟩ := hrel
                have HN := Lib.hid hno
                have HB3 := Lib.hid hb
                clear hno hb
                by_cases hlt : k < n
                · have hlt2 : (k : Int) < (n : Int) := by omega
                  have haddk := IntWalk.i64_in ((k : Int) + 1) (by omega)
                  obtain ⟨y, hy, hck⟩ := HF.out _ HB3.out k hlt
                  have hcj := HGO.out _ HB3.out
                  have HY := Lib.hid hy
                  have hfr2 := fun W => hfr y.1 x.1 W
                  clear hy
                  by_cases hf : frontB y.1 x.1 = true
                  · have HE : Hid (chkE l = 1) := Lib.hid (chk_bad (front_clash HX.out.1 HY.out hf))
                    rw [hf] at hfr2
                    clear hf hfr
                    go_wp2_with fail
                    go_quiet ((go_at_call 35; exact Calls.quiet_of_same (hfr2 _)))
                    go_wp2_with fail
                    go_ret
                    exact ⟨by rw [HE.out]; rfl, below_drewN HB3.out _⟩
                  · have hf0 : frontB y.1 x.1 = false := by simpa using hf
                    have HF0 := Lib.hid hf0
                    rw [hf0] at hfr2
                    clear hf hf0 hfr
                    go_wp2_with fail
                    go_quiet ((go_at_call 35; exact Calls.quiet_of_same (hfr2 _)))
                    go_wp2_with fail
                    go_roundw
                    case rel =>
                      refine ⟨k + 1, by omega, by simp, fun i z hi hz => ?_, below_drewN HB3.out _⟩
                      by_cases h : i = k
                      · subst h
                        rw [HY.out] at hz
                        injection hz with hz
                        subst hz
                        exact HF0.out
                      · exact HN.out i z (by omega) hz
                    case measure => simp only [intOf]; omega
                · have hlt2 : ¬ (k : Int) < (n : Int) := by omega
                  have HI2 : Hid (RkI l (j + 1)) := Lib.hid ⟨HST.out, fun i k' x' y hi hx' hy => by
                    by_cases h : i = j
                    · subst h
                      rw [HX.out.1] at hx'
                      injection hx' with e
                      subst e
                      exact HN.out k' y (by have := (List.getElem?_eq_some_iff.1 hy).1; have := HL.out.2; omega) hy
                    · exact HI.out.front i k' x' y (by omega) hx' hy⟩
                  clear hlt hfr
                  go_wp2_with fail
                  go_roundw
                  case rel => exact ⟨j + 1, by have := HX.out.2.2.2; have := HL.out.2; omega, by simp, HI2.out, HB3.out⟩
                  case measure => simp only [intOf]; omega
          · have hgt : decide (0 < j) = true := decide_eq_true (by omega)
            have hsub : IntKind.i64.wrap ((j : Int) - 1) = (m : Int) := by rw [IntWalk.i64_in _ (by omega)]; omega
            have HCY : Hid (∀ W, Below w1.drew.heap.size w1.drew W → W.cell? ⟨q, off + m * 2, none⟩ = some (.string (st y.1))) := Lib.hid fun W hW => by
              obtain ⟨y', hy', hc'⟩ := HF.out W (HBG.out W hW) m (by omega)
              rw [hy] at hy'
              injection hy' with hy'
              subst hy'
              exact hc'
            have hle := fst_less y.1 x.1
            rw [decide_eq_true hyx] at hle
            have hmn : m < n := by omega
            clear hst hok hm hy hyx
            refine wp_region_grow (fun W W' => Below W.heap.size W W') (Grow.nth [fun v _ => v = .bool true, fun v _ => v = .bool false, fun v _ => v = .bool false, fun v _ => v = .int .i64 (j : Int), fun v _ => v = .bool true, fun v _ => v = .bool true, fun v _ => v = .slice (some ⟨q, off, none⟩) n c, fun v _ => v = .int .i64 (j : Int), fun v _ => v = .int .i64 (m : Int), fun v _ => v = .pointer (some ⟨q, off + m * 2, none⟩), fun v _ => v = .pointer (some ⟨q, off + m * 2, none⟩), fun v _ => v = .string (st y.1), fun v _ => v = .slice (some ⟨q, off, none⟩) n c, fun v _ => v = .int .i64 (j : Int), fun v _ => v = .pointer (some ⟨q, off + j * 2, none⟩), fun v _ => v = .pointer (some ⟨q, off + j * 2, none⟩), fun v _ => v = .string (st x.1), fun v _ => v = .bool false, fun v _ => v = .bool false, fun v _ => v = .bool false]) 85 (by kernel_rfl) (by kernel_rfl) (by rfl) (fun W => Below.refl _ W) (fun _ _ _ h1 h2 => h1.trans (h2.mono h1.size)) (Grow.mono_nth ?gmono) ?gsteps ?gfin
            case gmono => exact ⟨fun _ _ _ h _ => h, fun _ _ _ h _ => h, fun _ _ _ h _ => h, fun _ _ _ h _ => h, fun _ _ _ h _ => h, fun _ _ _ h _ => h, fun _ _ _ h _ => h, fun _ _ _ h _ => h, fun _ _ _ h _ => h, fun _ _ _ h _ => h, fun _ _ _ h _ => h, fun _ _ _ h _ => h, fun _ _ _ h _ => h, fun _ _ _ h _ => h, fun _ _ _ h _ => h, fun _ _ _ h _ => h, fun _ _ _ h _ => h, fun _ _ _ h _ => h, fun _ _ _ h _ => h, fun _ _ _ h _ => h, trivial⟩
            case gsteps =>
              show Grow.allBelow _ 20
              refine And.intro ?_ ?s19
              refine And.intro ?_ ?s18
              refine And.intro ?_ ?s17
              refine And.intro ?_ ?s16
              refine And.intro ?_ ?s15
              refine And.intro ?_ ?s14
              refine And.intro ?_ ?s13
              refine And.intro ?_ ?s12
              refine And.intro ?_ ?s11
              refine And.intro ?_ ?s10
              refine And.intro ?_ ?s9
              refine And.intro ?_ ?s8
              refine And.intro ?_ ?s7
              refine And.intro ?_ ?s6
              refine And.intro ?_ ?s5
              refine And.intro ?_ ?s4
              refine And.intro ?_ ?s3
              refine And.intro ?_ ?s2
              refine And.intro ?_ ?s1
              refine And.intro ?_ ?s0
              exact trivial
              case s0 =>
                refine Grow.step_in (by rfl) (by rfl) ?_
                intro E W ec eg ef hG hd hu R HR
                have e4 : E (.tmp 4) = .bool true := hu 4 (by kernel_rfl)
                clear hd hu
                go_simp
                exact HR.out _ _ (Below.refl _ _) rfl
              case s1 =>
                refine Grow.step_in (by rfl) (by rfl) ?_
                intro E W ec eg ef hG hd hu R HR
                have e20 : E (.tmp 20) = .bool true := hd 0 20 (by kernel_rfl)
                clear hd hu
                go_simp
                exact HR.out _ _ (Below.refl _ _) rfl
              case s2 =>
                refine Grow.step_in (by rfl) (by rfl) ?_
                intro E W ec eg ef hG hd hu R HR
                have e21 : E (.tmp 21) = .bool false := hd 1 21 (by kernel_rfl)
                clear hd hu
                go_simp
                exact HR.out _ _ (Below.refl _ _) rfl
              case s3 =>
                refine Grow.step_on (g := 2) (b := false) (d := 22) (by rfl) (by rfl) (by rfl) (by kernel_rfl) (fun v W h => h) ?_
                intro E W ec eg ef hG hd hu R HR
                have e3 : E (.tmp 3) = .int .i64 (j : Int) := hu 3 (by kernel_rfl)
                clear hd hu
                go_simp
                exact HR.out _ _ (Below.refl _ _) rfl
              case s4 =>
                refine Grow.step_on (g := 2) (b := false) (d := 22) (by rfl) (by rfl) (by rfl) (by kernel_rfl) (fun v W h => h) ?_
                intro E W ec eg ef hG hd hu R HR
                have e23 : E (.tmp 23) = .int .i64 (j : Int) := hd 3 23 (by kernel_rfl)
                clear hd hu
                have hg2 := hgt
                go_simp
                exact HR.out _ _ (Below.refl _ _) rfl
              case s5 =>
                refine Grow.step_on (g := 2) (b := false) (d := 22) (by rfl) (by rfl) (by rfl) (by kernel_rfl) (fun v W h => h) ?_
                intro E W ec eg ef hG hd hu R HR
                have e24 : E (.tmp 24) = .bool true := hd 4 24 (by kernel_rfl)
                clear hd hu
                go_simp
                exact HR.out _ _ (Below.refl _ _) rfl
              case s6 =>
                refine Grow.step_on (g := 5) (b := true) (d := 25) (by rfl) (by rfl) (by rfl) (by kernel_rfl) (fun v W h => h) ?_
                intro E W ec eg ef hG hd hu R HR
                have e0 : E (.tmp 0) = .slice (some ⟨q, off, none⟩) n c := hu 0 (by kernel_rfl)
                clear hd hu
                go_simp
                exact HR.out _ _ (Below.refl _ _) rfl
              case s7 =>
                refine Grow.step_on (g := 5) (b := true) (d := 25) (by rfl) (by rfl) (by rfl) (by kernel_rfl) (fun v W h => h) ?_
                intro E W ec eg ef hG hd hu R HR
                have e3 : E (.tmp 3) = .int .i64 (j : Int) := hu 3 (by kernel_rfl)
                clear hd hu
                go_simp
                exact HR.out _ _ (Below.refl _ _) rfl
              case s8 =>
                refine Grow.step_on (g := 5) (b := true) (d := 25) (by rfl) (by rfl) (by rfl) (by kernel_rfl) (fun v W h => h) ?_
                intro E W ec eg ef hG hd hu R HR
                have e27 : E (.tmp 27) = .int .i64 (j : Int) := hd 7 27 (by kernel_rfl)
                clear hd hu
                go_simp
                exact HR.out _ _ (Below.refl _ _) rfl
              case s9 =>
                refine Grow.step_on (g := 5) (b := true) (d := 25) (by rfl) (by rfl) (by rfl) (by kernel_rfl) (fun v W h => h) ?_
                intro E W ec eg ef hG hd hu R HR
                have e26 : E (.tmp 26) = .slice (some ⟨q, off, none⟩) n c := hd 6 26 (by kernel_rfl)
                have e28 : E (.tmp 28) = .int .i64 (m : Int) := hd 8 28 (by kernel_rfl)
                clear hd hu
                have hjl := hlt'
                go_simp
                first | exact HR.out _ _ (Below.refl _ _) rfl | (rw [if_pos ⟨by omega, by omega⟩]; exact HR.out _ _ (Below.refl _ _) rfl)
              case s10 =>
                refine Grow.step_on (g := 5) (b := true) (d := 25) (by rfl) (by rfl) (by rfl) (by kernel_rfl) (fun v W h => h) ?_
                intro E W ec eg ef hG hd hu R HR
                have e29 : E (.tmp 29) = .pointer (some ⟨q, off + m * 2, none⟩) := hd 9 29 (by kernel_rfl)
                clear hd hu
                go_simp
                exact HR.out _ _ (Below.refl _ _) rfl
              case s11 =>
                refine Grow.step_on (g := 5) (b := true) (d := 25) (by rfl) (by rfl) (by rfl) (by kernel_rfl) (fun v W h => h) ?_
                intro E W ec eg ef hG hd hu R HR
                have e30 : E (.tmp 30) = .pointer (some ⟨q, off + m * 2, none⟩) := hd 10 30 (by kernel_rfl)
                clear hd hu
                have k1 := HCY.out W hG
                go_simp
                exact HR.out _ _ (Below.refl _ _) rfl
              case s12 =>
                refine Grow.step_on (g := 5) (b := true) (d := 25) (by rfl) (by rfl) (by rfl) (by kernel_rfl) (fun v W h => h) ?_
                intro E W ec eg ef hG hd hu R HR
                have e0 : E (.tmp 0) = .slice (some ⟨q, off, none⟩) n c := hu 0 (by kernel_rfl)
                clear hd hu
                go_simp
                exact HR.out _ _ (Below.refl _ _) rfl
              case s13 =>
                refine Grow.step_on (g := 5) (b := true) (d := 25) (by rfl) (by rfl) (by rfl) (by kernel_rfl) (fun v W h => h) ?_
                intro E W ec eg ef hG hd hu R HR
                have e3 : E (.tmp 3) = .int .i64 (j : Int) := hu 3 (by kernel_rfl)
                clear hd hu
                go_simp
                exact HR.out _ _ (Below.refl _ _) rfl
              case s14 =>
                refine Grow.step_on (g := 5) (b := true) (d := 25) (by rfl) (by rfl) (by rfl) (by kernel_rfl) (fun v W h => h) ?_
                intro E W ec eg ef hG hd hu R HR
                have e32 : E (.tmp 32) = .slice (some ⟨q, off, none⟩) n c := hd 12 32 (by kernel_rfl)
                have e33 : E (.tmp 33) = .int .i64 (j : Int) := hd 13 33 (by kernel_rfl)
                clear hd hu
                have hjl := hlt'
                go_simp
                first | exact HR.out _ _ (Below.refl _ _) rfl | (rw [if_pos ⟨by omega, by omega⟩]; exact HR.out _ _ (Below.refl _ _) rfl)
              case s15 =>
                refine Grow.step_on (g := 5) (b := true) (d := 25) (by rfl) (by rfl) (by rfl) (by kernel_rfl) (fun v W h => h) ?_
                intro E W ec eg ef hG hd hu R HR
                have e34 : E (.tmp 34) = .pointer (some ⟨q, off + j * 2, none⟩) := hd 14 34 (by kernel_rfl)
                clear hd hu
                go_simp
                exact HR.out _ _ (Below.refl _ _) rfl
              case s16 =>
                refine Grow.step_on (g := 5) (b := true) (d := 25) (by rfl) (by rfl) (by rfl) (by kernel_rfl) (fun v W h => h) ?_
                intro E W ec eg ef hG hd hu R HR
                have e35 : E (.tmp 35) = .pointer (some ⟨q, off + j * 2, none⟩) := hd 15 35 (by kernel_rfl)
                clear hd hu
                have k1 := HCX.out W hG
                go_simp
                exact HR.out _ _ (Below.refl _ _) rfl
              case s17 =>
                refine Grow.step_on (g := 5) (b := true) (d := 25) (by rfl) (by rfl) (by rfl) (by kernel_rfl) (fun v W h => h) ?_
                intro E W ec eg ef hG hd hu R HR
                have e31 : E (.tmp 31) = .string (st y.1) := hd 11 31 (by kernel_rfl)
                have e36 : E (.tmp 36) = .string (st x.1) := hd 16 36 (by kernel_rfl)
                clear hd hu
                go_simp
                exact HR.out _ _ (Below.refl _ _) (by first | rfl | (show Value.bool (_) = _; rw [hle]; rfl))
              case s18 =>
                refine Grow.step_on (g := 2) (b := false) (d := 22) (by rfl) (by rfl) (by rfl) (by kernel_rfl) (fun v W h => h) ?_
                intro E W ec eg ef hG hd hu R HR
                have e25 : E (.tmp 25) = .bool true := hd 5 25 (by kernel_rfl)
                have e37 : E (.tmp 37) = .bool false := hd 17 37 (by kernel_rfl)
                clear hd hu
                go_simp
                exact HR.out _ _ (Below.refl _ _) rfl
              case s19 =>
                refine Grow.step_in (by rfl) (by rfl) ?_
                intro E W ec eg ef hG hd hu R HR
                have e22 : E (.tmp 22) = .bool false := hd 2 22 (by kernel_rfl)
                have e38 : E (.tmp 38) = .bool false := hd 18 38 (by kernel_rfl)
                clear hd hu
                go_simp
                exact HR.out _ _ (Below.refl _ _) rfl
            case gfin =>
              intro W hG
              refine Grow.fin_dst (by rfl) ?_
              rintro _ rfl
              refine Grow.fin_dst (by rfl) ?_
              rintro _ rfl
              refine Grow.fin_dst (by rfl) ?_
              rintro _ rfl
              refine Grow.fin_dst (by rfl) ?_
              rintro _ rfl
              refine Grow.fin_dst (by rfl) ?_
              rintro _ rfl
              refine Grow.fin_dst (by rfl) ?_
              rintro _ rfl
              refine Grow.fin_dst (by rfl) ?_
              rintro _ rfl
              refine Grow.fin_dst (by rfl) ?_
              rintro _ rfl
              refine Grow.fin_dst (by rfl) ?_
              rintro _ rfl
              refine Grow.fin_dst (by rfl) ?_
              rintro _ rfl
              refine Grow.fin_dst (by rfl) ?_
              rintro _ rfl
              refine Grow.fin_dst (by rfl) ?_
              rintro _ rfl
              refine Grow.fin_dst (by rfl) ?_
              rintro _ rfl
              refine Grow.fin_dst (by rfl) ?_
              rintro _ rfl
              refine Grow.fin_dst (by rfl) ?_
              rintro _ rfl
              refine Grow.fin_dst (by rfl) ?_
              rintro _ rfl
              refine Grow.fin_dst (by rfl) ?_
              rintro _ rfl
              refine Grow.fin_dst (by rfl) ?_
              rintro _ rfl
              refine Grow.fin_dst (by rfl) ?_
              rintro _ rfl
              refine Grow.fin_dst (by rfl) ?_
              rintro _ rfl
              simp only [Act.put, List.setIfInBounds_toArray, List.set_cons_zero, List.set_cons_succ]
              refine Grow.fin_end ?_
              have HB2 := Lib.hid (HBG.out _ hG)
              clear hG HB1 HBG
              go_wp2_with fail
              go_loopw [5] (fun v wr => ∃ k : Nat, k ≤ n ∧ v = .int .i64 (k : Int) ∧ (∀ (i : Nat) (y : Fi), i < k → l[i]? = some y → frontB y.1 x.1 = false) ∧ Below w.heap.size w wr) (fun v _ => n - (intOf v).toNat)
              case atStart => exact ⟨0, Nat.zero_le _, rfl, fun i y h => absurd h (by omega), HB2.out⟩
              case round =>
                obtain ⟨k, hk, rfl, hno, hb⟩ := hrel
                have HN := Lib.hid hno
                have HB3 := Lib.hid hb
                clear hno hb
                by_cases hlt : k < n
                · have hlt2 : (k : Int) < (n : Int) := by omega
                  have haddk := IntWalk.i64_in ((k : Int) + 1) (by omega)
                  obtain ⟨y, hy, hck⟩ := HF.out _ HB3.out k hlt
                  have hcj := HGO.out _ HB3.out
                  have HY := Lib.hid hy
                  have hfr2 := fun W => hfr y.1 x.1 W
                  clear hy
                  by_cases hf : frontB y.1 x.1 = true
                  · have HE : Hid (chkE l = 1) := Lib.hid (chk_bad (front_clash HX.out.1 HY.out hf))
                    rw [hf] at hfr2
                    clear hf hfr
                    go_wp2_with fail
                    go_quiet ((go_at_call 35; exact Calls.quiet_of_same (hfr2 _)))
                    go_wp2_with fail
                    go_ret
                    exact ⟨by rw [HE.out]; rfl, below_drewN HB3.out _⟩
                  · have hf0 : frontB y.1 x.1 = false := by simpa using hf
                    have HF0 := Lib.hid hf0
                    rw [hf0] at hfr2
                    clear hf hf0 hfr
                    go_wp2_with fail
                    go_quiet ((go_at_call 35; exact Calls.quiet_of_same (hfr2 _)))
                    go_wp2_with fail
                    go_roundw
                    case rel =>
                      refine ⟨k + 1, by omega, by simp, fun i z hi hz => ?_, below_drewN HB3.out _⟩
                      by_cases h : i = k
                      · subst h
                        rw [HY.out] at hz
                        injection hz with hz
                        subst hz
                        exact HF0.out
                      · exact HN.out i z (by omega) hz
                    case measure => simp only [intOf]; omega
                · have hlt2 : ¬ (k : Int) < (n : Int) := by omega
                  have HI2 : Hid (RkI l (j + 1)) := Lib.hid ⟨HST.out, fun i k' x' y hi hx' hy => by
                    by_cases h : i = j
                    · subst h
                      rw [HX.out.1] at hx'
                      injection hx' with e
                      subst e
                      exact HN.out k' y (by have := (List.getElem?_eq_some_iff.1 hy).1; have := HL.out.2; omega) hy
                    · exact HI.out.front i k' x' y (by omega) hx' hy⟩
                  clear hlt hfr
                  go_wp2_with fail
                  go_roundw
                  case rel => exact ⟨j + 1, by have := HX.out.2.2.2; have := HL.out.2; omega, by simp, HI2.out, HB3.out⟩
                  case measure => simp only [intOf]; omega
        · have HE : Hid (chkE l = 1) := Lib.hid (chk_bad (.inl (rise_bad (k := j + 1) (by
            rw [hst]
            cases j with
            | zero => exact absurd (.inl rfl) hpre
            | succ m =>
              obtain ⟨y, hy⟩ : ∃ y, l[m]? = some y := ⟨_, List.getElem?_eq_getElem (by have h1 := HX.out.2.2.2; have h2 := HL.out.2; omega)⟩
              rw [rise_last hy]
              have : ¬ y.1 < x.1 := fun h => hpre (.inr ⟨m, y, rfl, hy, h⟩)
              simp [this]))))
          obtain ⟨m, rfl⟩ : ∃ m, j = m + 1 := ⟨j - 1, by have : j ≠ 0 := fun h => hpre (.inl h); omega⟩
          obtain ⟨q', off', y, e, _, hq', hy, hc, _⟩ := HL.out.1.at_ (i := m) (by have := HX.out.2.2.2; omega)
          injection e with e
          injection e with e1 e2 _
          subst e1 e2
          have HCY : Hid (∀ W, Below w1.drew.heap.size w1.drew W → W.cell? ⟨q, off + m * 2, none⟩ = some (.string (st y.1))) := Lib.hid fun W hW => ((HBG.out W hW).cell (p := ⟨_, _, none⟩) hq').trans hc
          have hle := fst_less y.1 x.1
          rw [decide_eq_false (fun h => hpre (.inr ⟨m, y, rfl, hy, h⟩))] at hle
          have hgt : decide (0 < m + 1) = true := decide_eq_true (by omega)
          have hsub : IntKind.i64.wrap (((m + 1 : Nat) : Int) - 1) = (m : Int) := by rw [IntWalk.i64_in _ (by omega)]; omega
          have hmn : m + 1 < n := HX.out.2.2.2
          obtain ⟨J, hJ⟩ : ∃ J, J = m + 1 := ⟨_, rfl⟩
          rw [← hJ] at hgt hsub HCX hlt' hadd hmn ⊢
          have hmn2 : m < n := by omega
          clear hst hok hq' hy hc hpre HI hJ
          refine wp_region_grow (fun W W' => Below W.heap.size W W') (Grow.nth [fun v _ => v = .bool true, fun v _ => v = .bool false, fun v _ => v = .bool false, fun v _ => v = .int .i64 (J : Int), fun v _ => v = .bool true, fun v _ => v = .bool true, fun v _ => v = .slice (some ⟨q, off, none⟩) n c, fun v _ => v = .int .i64 (J : Int), fun v _ => v = .int .i64 (m : Int), fun v _ => v = .pointer (some ⟨q, off + m * 2, none⟩), fun v _ => v = .pointer (some ⟨q, off + m * 2, none⟩), fun v _ => v = .string (st y.1), fun v _ => v = .slice (some ⟨q, off, none⟩) n c, fun v _ => v = .int .i64 (J : Int), fun v _ => v = .pointer (some ⟨q, off + J * 2, none⟩), fun v _ => v = .pointer (some ⟨q, off + J * 2, none⟩), fun v _ => v = .string (st x.1), fun v _ => v = .bool true, fun v _ => v = .bool true, fun v _ => v = .bool true]) 85 (by kernel_rfl) (by kernel_rfl) (by rfl) (fun W => Below.refl _ W) (fun _ _ _ h1 h2 => h1.trans (h2.mono h1.size)) (Grow.mono_nth ?gmono) ?gsteps ?gfin
          case gmono => exact ⟨fun _ _ _ h _ => h, fun _ _ _ h _ => h, fun _ _ _ h _ => h, fun _ _ _ h _ => h, fun _ _ _ h _ => h, fun _ _ _ h _ => h, fun _ _ _ h _ => h, fun _ _ _ h _ => h, fun _ _ _ h _ => h, fun _ _ _ h _ => h, fun _ _ _ h _ => h, fun _ _ _ h _ => h, fun _ _ _ h _ => h, fun _ _ _ h _ => h, fun _ _ _ h _ => h, fun _ _ _ h _ => h, fun _ _ _ h _ => h, fun _ _ _ h _ => h, fun _ _ _ h _ => h, fun _ _ _ h _ => h, trivial⟩
          case gsteps =>
            show Grow.allBelow _ 20
            refine And.intro ?_ ?s19
            refine And.intro ?_ ?s18
            refine And.intro ?_ ?s17
            refine And.intro ?_ ?s16
            refine And.intro ?_ ?s15
            refine And.intro ?_ ?s14
            refine And.intro ?_ ?s13
            refine And.intro ?_ ?s12
            refine And.intro ?_ ?s11
            refine And.intro ?_ ?s10
            refine And.intro ?_ ?s9
            refine And.intro ?_ ?s8
            refine And.intro ?_ ?s7
            refine And.intro ?_ ?s6
            refine And.intro ?_ ?s5
            refine And.intro ?_ ?s4
            refine And.intro ?_ ?s3
            refine And.intro ?_ ?s2
            refine And.intro ?_ ?s1
            refine And.intro ?_ ?s0
            exact trivial
            case s0 =>
              refine Grow.step_in (by rfl) (by rfl) ?_
              intro E W ec eg ef hG hd hu R HR
              have e4 : E (.tmp 4) = .bool true := hu 4 (by kernel_rfl)
              clear hd hu
              go_simp
              exact HR.out _ _ (Below.refl _ _) rfl
            case s1 =>
              refine Grow.step_in (by rfl) (by rfl) ?_
              intro E W ec eg ef hG hd hu R HR
              have e20 : E (.tmp 20) = .bool true := hd 0 20 (by kernel_rfl)
              clear hd hu
              go_simp
              exact HR.out _ _ (Below.refl _ _) rfl
            case s2 =>
              refine Grow.step_in (by rfl) (by rfl) ?_
              intro E W ec eg ef hG hd hu R HR
              have e21 : E (.tmp 21) = .bool false := hd 1 21 (by kernel_rfl)
              clear hd hu
              go_simp
              exact HR.out _ _ (Below.refl _ _) rfl
            case s3 =>
              refine Grow.step_on (g := 2) (b := false) (d := 22) (by rfl) (by rfl) (by rfl) (by kernel_rfl) (fun v W h => h) ?_
              intro E W ec eg ef hG hd hu R HR
              have e3 : E (.tmp 3) = .int .i64 (J : Int) := hu 3 (by kernel_rfl)
              clear hd hu
              go_simp
              exact HR.out _ _ (Below.refl _ _) rfl
            case s4 =>
              refine Grow.step_on (g := 2) (b := false) (d := 22) (by rfl) (by rfl) (by rfl) (by kernel_rfl) (fun v W h => h) ?_
              intro E W ec eg ef hG hd hu R HR
              have e23 : E (.tmp 23) = .int .i64 (J : Int) := hd 3 23 (by kernel_rfl)
              clear hd hu
              have hg2 := hgt
              go_simp
              exact HR.out _ _ (Below.refl _ _) rfl
            case s5 =>
              refine Grow.step_on (g := 2) (b := false) (d := 22) (by rfl) (by rfl) (by rfl) (by kernel_rfl) (fun v W h => h) ?_
              intro E W ec eg ef hG hd hu R HR
              have e24 : E (.tmp 24) = .bool true := hd 4 24 (by kernel_rfl)
              clear hd hu
              go_simp
              exact HR.out _ _ (Below.refl _ _) rfl
            case s6 =>
              refine Grow.step_on (g := 5) (b := true) (d := 25) (by rfl) (by rfl) (by rfl) (by kernel_rfl) (fun v W h => h) ?_
              intro E W ec eg ef hG hd hu R HR
              have e0 : E (.tmp 0) = .slice (some ⟨q, off, none⟩) n c := hu 0 (by kernel_rfl)
              clear hd hu
              go_simp
              exact HR.out _ _ (Below.refl _ _) rfl
            case s7 =>
              refine Grow.step_on (g := 5) (b := true) (d := 25) (by rfl) (by rfl) (by rfl) (by kernel_rfl) (fun v W h => h) ?_
              intro E W ec eg ef hG hd hu R HR
              have e3 : E (.tmp 3) = .int .i64 (J : Int) := hu 3 (by kernel_rfl)
              clear hd hu
              go_simp
              exact HR.out _ _ (Below.refl _ _) rfl
            case s8 =>
              refine Grow.step_on (g := 5) (b := true) (d := 25) (by rfl) (by rfl) (by rfl) (by kernel_rfl) (fun v W h => h) ?_
              intro E W ec eg ef hG hd hu R HR
              have e27 : E (.tmp 27) = .int .i64 (J : Int) := hd 7 27 (by kernel_rfl)
              clear hd hu
              go_simp
              exact HR.out _ _ (Below.refl _ _) rfl
            case s9 =>
              refine Grow.step_on (g := 5) (b := true) (d := 25) (by rfl) (by rfl) (by rfl) (by kernel_rfl) (fun v W h => h) ?_
              intro E W ec eg ef hG hd hu R HR
              have e26 : E (.tmp 26) = .slice (some ⟨q, off, none⟩) n c := hd 6 26 (by kernel_rfl)
              have e28 : E (.tmp 28) = .int .i64 (m : Int) := hd 8 28 (by kernel_rfl)
              clear hd hu
              have hjl := hlt'
              go_simp
              first | exact HR.out _ _ (Below.refl _ _) rfl | (rw [if_pos ⟨by omega, by omega⟩]; exact HR.out _ _ (Below.refl _ _) rfl)
            case s10 =>
              refine Grow.step_on (g := 5) (b := true) (d := 25) (by rfl) (by rfl) (by rfl) (by kernel_rfl) (fun v W h => h) ?_
              intro E W ec eg ef hG hd hu R HR
              have e29 : E (.tmp 29) = .pointer (some ⟨q, off + m * 2, none⟩) := hd 9 29 (by kernel_rfl)
              clear hd hu
              go_simp
              exact HR.out _ _ (Below.refl _ _) rfl
            case s11 =>
              refine Grow.step_on (g := 5) (b := true) (d := 25) (by rfl) (by rfl) (by rfl) (by kernel_rfl) (fun v W h => h) ?_
              intro E W ec eg ef hG hd hu R HR
              have e30 : E (.tmp 30) = .pointer (some ⟨q, off + m * 2, none⟩) := hd 10 30 (by kernel_rfl)
              clear hd hu
              have k1 := HCY.out W hG
              go_simp
              exact HR.out _ _ (Below.refl _ _) rfl
            case s12 =>
              refine Grow.step_on (g := 5) (b := true) (d := 25) (by rfl) (by rfl) (by rfl) (by kernel_rfl) (fun v W h => h) ?_
              intro E W ec eg ef hG hd hu R HR
              have e0 : E (.tmp 0) = .slice (some ⟨q, off, none⟩) n c := hu 0 (by kernel_rfl)
              clear hd hu
              go_simp
              exact HR.out _ _ (Below.refl _ _) rfl
            case s13 =>
              refine Grow.step_on (g := 5) (b := true) (d := 25) (by rfl) (by rfl) (by rfl) (by kernel_rfl) (fun v W h => h) ?_
              intro E W ec eg ef hG hd hu R HR
              have e3 : E (.tmp 3) = .int .i64 (J : Int) := hu 3 (by kernel_rfl)
              clear hd hu
              go_simp
              exact HR.out _ _ (Below.refl _ _) rfl
            case s14 =>
              refine Grow.step_on (g := 5) (b := true) (d := 25) (by rfl) (by rfl) (by rfl) (by kernel_rfl) (fun v W h => h) ?_
              intro E W ec eg ef hG hd hu R HR
              have e32 : E (.tmp 32) = .slice (some ⟨q, off, none⟩) n c := hd 12 32 (by kernel_rfl)
              have e33 : E (.tmp 33) = .int .i64 (J : Int) := hd 13 33 (by kernel_rfl)
              clear hd hu
              have hjl := hlt'
              go_simp
              first | exact HR.out _ _ (Below.refl _ _) rfl | (rw [if_pos ⟨by omega, by omega⟩]; exact HR.out _ _ (Below.refl _ _) rfl)
            case s15 =>
              refine Grow.step_on (g := 5) (b := true) (d := 25) (by rfl) (by rfl) (by rfl) (by kernel_rfl) (fun v W h => h) ?_
              intro E W ec eg ef hG hd hu R HR
              have e34 : E (.tmp 34) = .pointer (some ⟨q, off + J * 2, none⟩) := hd 14 34 (by kernel_rfl)
              clear hd hu
              go_simp
              exact HR.out _ _ (Below.refl _ _) rfl
            case s16 =>
              refine Grow.step_on (g := 5) (b := true) (d := 25) (by rfl) (by rfl) (by rfl) (by kernel_rfl) (fun v W h => h) ?_
              intro E W ec eg ef hG hd hu R HR
              have e35 : E (.tmp 35) = .pointer (some ⟨q, off + J * 2, none⟩) := hd 15 35 (by kernel_rfl)
              clear hd hu
              have k1 := HCX.out W hG
              go_simp
              exact HR.out _ _ (Below.refl _ _) rfl
            case s17 =>
              refine Grow.step_on (g := 5) (b := true) (d := 25) (by rfl) (by rfl) (by rfl) (by kernel_rfl) (fun v W h => h) ?_
              intro E W ec eg ef hG hd hu R HR
              have e31 : E (.tmp 31) = .string (st y.1) := hd 11 31 (by kernel_rfl)
              have e36 : E (.tmp 36) = .string (st x.1) := hd 16 36 (by kernel_rfl)
              clear hd hu
              go_simp
              exact HR.out _ _ (Below.refl _ _) (by first | rfl | (show Value.bool (_) = _; rw [hle]; rfl))
            case s18 =>
              refine Grow.step_on (g := 2) (b := false) (d := 22) (by rfl) (by rfl) (by rfl) (by kernel_rfl) (fun v W h => h) ?_
              intro E W ec eg ef hG hd hu R HR
              have e25 : E (.tmp 25) = .bool true := hd 5 25 (by kernel_rfl)
              have e37 : E (.tmp 37) = .bool true := hd 17 37 (by kernel_rfl)
              clear hd hu
              go_simp
              exact HR.out _ _ (Below.refl _ _) rfl
            case s19 =>
              refine Grow.step_in (by rfl) (by rfl) ?_
              intro E W ec eg ef hG hd hu R HR
              have e22 : E (.tmp 22) = .bool false := hd 2 22 (by kernel_rfl)
              have e38 : E (.tmp 38) = .bool true := hd 18 38 (by kernel_rfl)
              clear hd hu
              go_simp
              exact HR.out _ _ (Below.refl _ _) rfl
          case gfin =>
            intro W hG
            refine Grow.fin_dst (by rfl) ?_
            rintro _ rfl
            refine Grow.fin_dst (by rfl) ?_
            rintro _ rfl
            refine Grow.fin_dst (by rfl) ?_
            rintro _ rfl
            refine Grow.fin_dst (by rfl) ?_
            rintro _ rfl
            refine Grow.fin_dst (by rfl) ?_
            rintro _ rfl
            refine Grow.fin_dst (by rfl) ?_
            rintro _ rfl
            refine Grow.fin_dst (by rfl) ?_
            rintro _ rfl
            refine Grow.fin_dst (by rfl) ?_
            rintro _ rfl
            refine Grow.fin_dst (by rfl) ?_
            rintro _ rfl
            refine Grow.fin_dst (by rfl) ?_
            rintro _ rfl
            refine Grow.fin_dst (by rfl) ?_
            rintro _ rfl
            refine Grow.fin_dst (by rfl) ?_
            rintro _ rfl
            refine Grow.fin_dst (by rfl) ?_
            rintro _ rfl
            refine Grow.fin_dst (by rfl) ?_
            rintro _ rfl
            refine Grow.fin_dst (by rfl) ?_
            rintro _ rfl
            refine Grow.fin_dst (by rfl) ?_
            rintro _ rfl
            refine Grow.fin_dst (by rfl) ?_
            rintro _ rfl
            refine Grow.fin_dst (by rfl) ?_
            rintro _ rfl
            refine Grow.fin_dst (by rfl) ?_
            rintro _ rfl
            refine Grow.fin_dst (by rfl) ?_
            rintro _ rfl
            simp only [Act.put, List.setIfInBounds_toArray, List.set_cons_zero, List.set_cons_succ]
            refine Grow.fin_end ?_
            have HB2 := Lib.hid (HBG.out _ hG)
            clear hG
            go_wp2_with fail
            go_ret
            exact ⟨by rw [HE.out]; rfl, HB2.out⟩
      · have hno : pathOk x.1 = false := by simpa using hok
        rw [hno]
        have HE : Hid (chkE l = 1) := Lib.hid (chk_bad (.inl (rise_bad (k := j + 1) (by rw [hst, hno]; simp))))
        clear hok hno hst
        refine wp_region_grow (fun W W' => Below W.heap.size W W') (Grow.nth [fun v _ => v = .bool false, fun v _ => v = .bool true, fun v _ => v = .bool true, fun v _ => v = undef, fun v _ => v = undef, fun v _ => v = undef, fun v _ => v = undef, fun v _ => v = undef, fun v _ => v = undef, fun v _ => v = undef, fun v _ => v = undef, fun v _ => v = undef, fun v _ => v = undef, fun v _ => v = undef, fun v _ => v = undef, fun v _ => v = undef, fun v _ => v = undef, fun v _ => v = undef, fun v _ => v = undef, fun v _ => v = .bool true]) 85 (by kernel_rfl) (by kernel_rfl) (by rfl) (fun W => Below.refl _ W) (fun _ _ _ h1 h2 => h1.trans (h2.mono h1.size)) (Grow.mono_nth ?gmono) ?gsteps ?gfin
        case gmono => exact ⟨fun _ _ _ h _ => h, fun _ _ _ h _ => h, fun _ _ _ h _ => h, fun _ _ _ h _ => h, fun _ _ _ h _ => h, fun _ _ _ h _ => h, fun _ _ _ h _ => h, fun _ _ _ h _ => h, fun _ _ _ h _ => h, fun _ _ _ h _ => h, fun _ _ _ h _ => h, fun _ _ _ h _ => h, fun _ _ _ h _ => h, fun _ _ _ h _ => h, fun _ _ _ h _ => h, fun _ _ _ h _ => h, fun _ _ _ h _ => h, fun _ _ _ h _ => h, fun _ _ _ h _ => h, fun _ _ _ h _ => h, trivial⟩
        case gsteps =>
          show Grow.allBelow _ 20
          refine And.intro ?_ ?s19
          refine And.intro ?_ ?s18
          refine And.intro ?_ ?s17
          refine And.intro ?_ ?s16
          refine And.intro ?_ ?s15
          refine And.intro ?_ ?s14
          refine And.intro ?_ ?s13
          refine And.intro ?_ ?s12
          refine And.intro ?_ ?s11
          refine And.intro ?_ ?s10
          refine And.intro ?_ ?s9
          refine And.intro ?_ ?s8
          refine And.intro ?_ ?s7
          refine And.intro ?_ ?s6
          refine And.intro ?_ ?s5
          refine And.intro ?_ ?s4
          refine And.intro ?_ ?s3
          refine And.intro ?_ ?s2
          refine And.intro ?_ ?s1
          refine And.intro ?_ ?s0
          exact trivial
          case s0 =>
            refine Grow.step_in (by rfl) (by rfl) ?_
            intro E W ec eg ef hG hd hu R HR
            have e4 : E (.tmp 4) = .bool false := hu 4 (by kernel_rfl)
            clear hd hu
            go_simp
            exact HR.out _ _ (Below.refl _ _) rfl
          case s1 =>
            refine Grow.step_in (by rfl) (by rfl) ?_
            intro E W ec eg ef hG hd hu R HR
            have e20 : E (.tmp 20) = .bool false := hd 0 20 (by kernel_rfl)
            clear hd hu
            go_simp
            exact HR.out _ _ (Below.refl _ _) rfl
          case s2 =>
            refine Grow.step_in (by rfl) (by rfl) ?_
            intro E W ec eg ef hG hd hu R HR
            have e21 : E (.tmp 21) = .bool true := hd 1 21 (by kernel_rfl)
            clear hd hu
            go_simp
            exact HR.out _ _ (Below.refl _ _) rfl
          case s3 =>
            exact Grow.step_off (g := 2) (b := false) (b' := true) (d := 22) (by rfl) (by rfl) (by rfl) (by kernel_rfl) (fun v W h => h) (by decide) (fun _ => rfl)
          case s4 =>
            exact Grow.step_off (g := 2) (b := false) (b' := true) (d := 22) (by rfl) (by rfl) (by rfl) (by kernel_rfl) (fun v W h => h) (by decide) (fun _ => rfl)
          case s5 =>
            exact Grow.step_off (g := 2) (b := false) (b' := true) (d := 22) (by rfl) (by rfl) (by rfl) (by kernel_rfl) (fun v W h => h) (by decide) (fun _ => rfl)
          case s6 =>
            exact Grow.step_far (g := 5) (b := true) (d := 25) (by rfl) (by rfl) (by rfl) (by kernel_rfl) (fun v W h => h) (fun _ => rfl)
          case s7 =>
            exact Grow.step_far (g := 5) (b := true) (d := 25) (by rfl) (by rfl) (by rfl) (by kernel_rfl) (fun v W h => h) (fun _ => rfl)
          case s8 =>
            exact Grow.step_far (g := 5) (b := true) (d := 25) (by rfl) (by rfl) (by rfl) (by kernel_rfl) (fun v W h => h) (fun _ => rfl)
          case s9 =>
            exact Grow.step_far (g := 5) (b := true) (d := 25) (by rfl) (by rfl) (by rfl) (by kernel_rfl) (fun v W h => h) (fun _ => rfl)
          case s10 =>
            exact Grow.step_far (g := 5) (b := true) (d := 25) (by rfl) (by rfl) (by rfl) (by kernel_rfl) (fun v W h => h) (fun _ => rfl)
          case s11 =>
            exact Grow.step_far (g := 5) (b := true) (d := 25) (by rfl) (by rfl) (by rfl) (by kernel_rfl) (fun v W h => h) (fun _ => rfl)
          case s12 =>
            exact Grow.step_far (g := 5) (b := true) (d := 25) (by rfl) (by rfl) (by rfl) (by kernel_rfl) (fun v W h => h) (fun _ => rfl)
          case s13 =>
            exact Grow.step_far (g := 5) (b := true) (d := 25) (by rfl) (by rfl) (by rfl) (by kernel_rfl) (fun v W h => h) (fun _ => rfl)
          case s14 =>
            exact Grow.step_far (g := 5) (b := true) (d := 25) (by rfl) (by rfl) (by rfl) (by kernel_rfl) (fun v W h => h) (fun _ => rfl)
          case s15 =>
            exact Grow.step_far (g := 5) (b := true) (d := 25) (by rfl) (by rfl) (by rfl) (by kernel_rfl) (fun v W h => h) (fun _ => rfl)
          case s16 =>
            exact Grow.step_far (g := 5) (b := true) (d := 25) (by rfl) (by rfl) (by rfl) (by kernel_rfl) (fun v W h => h) (fun _ => rfl)
          case s17 =>
            exact Grow.step_far (g := 5) (b := true) (d := 25) (by rfl) (by rfl) (by rfl) (by kernel_rfl) (fun v W h => h) (fun _ => rfl)
          case s18 =>
            exact Grow.step_off (g := 2) (b := false) (b' := true) (d := 22) (by rfl) (by rfl) (by rfl) (by kernel_rfl) (fun v W h => h) (by decide) (fun _ => rfl)
          case s19 =>
            refine Grow.step_in (by rfl) (by rfl) ?_
            intro E W ec eg ef hG hd hu R HR
            have e22 : E (.tmp 22) = .bool true := hd 2 22 (by kernel_rfl)
            have e38 : E (.tmp 38) = undef := hd 18 38 (by kernel_rfl)
            clear hd hu
            go_simp
            exact HR.out _ _ (Below.refl _ _) rfl
        case gfin =>
          intro W hG
          refine Grow.fin_dst (by rfl) ?_
          rintro _ rfl
          refine Grow.fin_dst (by rfl) ?_
          rintro _ rfl
          refine Grow.fin_dst (by rfl) ?_
          rintro _ rfl
          refine Grow.fin_dst (by rfl) ?_
          rintro _ rfl
          refine Grow.fin_dst (by rfl) ?_
          rintro _ rfl
          refine Grow.fin_dst (by rfl) ?_
          rintro _ rfl
          refine Grow.fin_dst (by rfl) ?_
          rintro _ rfl
          refine Grow.fin_dst (by rfl) ?_
          rintro _ rfl
          refine Grow.fin_dst (by rfl) ?_
          rintro _ rfl
          refine Grow.fin_dst (by rfl) ?_
          rintro _ rfl
          refine Grow.fin_dst (by rfl) ?_
          rintro _ rfl
          refine Grow.fin_dst (by rfl) ?_
          rintro _ rfl
          refine Grow.fin_dst (by rfl) ?_
          rintro _ rfl
          refine Grow.fin_dst (by rfl) ?_
          rintro _ rfl
          refine Grow.fin_dst (by rfl) ?_
          rintro _ rfl
          refine Grow.fin_dst (by rfl) ?_
          rintro _ rfl
          refine Grow.fin_dst (by rfl) ?_
          rintro _ rfl
          refine Grow.fin_dst (by rfl) ?_
          rintro _ rfl
          refine Grow.fin_dst (by rfl) ?_
          rintro _ rfl
          refine Grow.fin_dst (by rfl) ?_
          rintro _ rfl
          simp only [Act.put, List.setIfInBounds_toArray, List.set_cons_zero, List.set_cons_succ]
          refine Grow.fin_end ?_
          have HB2 := Lib.hid (HBG.out _ hG)
          clear hG
          go_wp2_with fail
          go_ret
          exact ⟨by rw [HE.out]; rfl, HB2.out⟩
    · have hlt' : ¬ (j : Int) < (n : Int) := by omega
      have hfull : l.take j = l := List.take_of_length_le (by have := HL.out.2; omega)
      have HC : Hid (chkE l = if tooB l = true then 13 else 0) := Lib.hid (by
        have h1 := hI.rise
        rw [hfull] at h1
        exact chk_fine h1 (no_clash h1 fun i k x y hx hy => hI.front i k x y (by have := (List.getElem?_eq_some_iff.1 hx).1; have := HL.out.2; omega) hx hy))
      have HB := Lib.hid hb
      clear hI hb hfull hlt hj hrp
      go_wp2_with fail
      go_loopw [6, 7] (fun v i wx => ∃ k : Nat, k ≤ n ∧ i = .int .i64 (k : Int) ∧ v = .int .i64 (allF (l.take k) : Int) ∧ (l.take k).any (fun x => decide (1048576 < x.2.length)) = false ∧ wx = wr) (fun _ i _ => n - (intOf i).toNat)
      case atStart => exact ⟨0, Nat.zero_le _, rfl, by simp [allF], rfl, rfl⟩
      case round =>
        obtain ⟨k, hk, rfl, rfl, hany, rfl⟩ := hrel
        have hbd := allF_bound hany
        rw [List.length_take] at hbd
        have HA := Lib.hid hany
        obtain ⟨T, hT⟩ : ∃ T, T = allF (l.take k) := ⟨_, rfl⟩
        rw [← hT] at hbd ⊢
        have HT := Lib.hid hT
        clear hany hT
        by_cases hlt2 : k < n
        · have hlt3 : (k : Int) < (n : Int) := by omega
          have hadd := IntWalk.i64_in ((k : Int) + 1) (by omega)
          obtain ⟨q, off, x, rfl, _, hqlt, hx, _, hc1⟩ := HL.out.1.at_ hlt2
          have hp1 := (HB.out.cell (p := ⟨_, _, none⟩) hqlt).trans hc1
          have hsz := st_size x.2
          obtain ⟨V, hV⟩ : ∃ V, V = x.2.length := ⟨_, rfl⟩
          rw [← hV] at hsz
          have HX := Lib.hid (And.intro hx hV)
          clear hqlt hx hc1 hV
          by_cases hbig : 1048576 < V
          · have hb' : (V : Int) > 1048576 := by omega
            have HE : Hid (chkE l = 13) := Lib.hid (by rw [HC.out, too_one HX.out.1 (by rw [← HX.out.2]; exact hbig)]; rfl)
            clear hbig hbd
            go_wp2_with fail
            go_ret
            exact ⟨by rw [HE.out]; rfl, HB.out⟩
          · have hb' : ¬ (V : Int) > 1048576 := by omega
            have hsum := IntWalk.i64_in ((T : Int) + (V : Int)) (by omega)
            have HE : Hid ((l.take (k + 1)).any (fun x => decide (1048576 < x.2.length)) = false ∧ allF (l.take (k + 1)) = T + V) := Lib.hid ⟨by
              rw [List.take_add_one, HX.out.1, List.any_append, HA.out]
              simp
              rw [← HX.out.2]
              omega, by rw [allF_succ HX.out.1, ← HT.out, ← HX.out.2]⟩
            clear hbig hbd
            go_wp2_with fail
            go_roundw
            case rel => exact ⟨k + 1, by omega, by simp, by rw [HE.out.2]; simp, HE.out.1, by first | rfl | trivial⟩
            case measure => simp only [intOf]; omega
        · have hlt3 : ¬ (k : Int) < (n : Int) := by omega
          have hfull : l.take k = l := List.take_of_length_le (by have := HL.out.2; omega)
          have HTO : Hid (tooB l = (decide (16777216 < T) || decide (65536 < n))) := Lib.hid (by
            have h1 := HA.out
            have h2 := HT.out
            rw [hfull] at h1 h2
            rw [h2, ← HL.out.2]
            exact too_eq h1)
          clear hlt2 hfull hk hbd
          by_cases h1 : 16777216 < T
          · have h1' : (T : Int) > 16777216 := by omega
            have HE : Hid (chkE l = 13) := Lib.hid (by rw [HC.out, HTO.out, decide_eq_true h1]; rfl)
            clear h1
            go_wp2_with fail
            go_ret
            exact ⟨by rw [HE.out]; rfl, HB.out⟩
          · have h1' : ¬ (T : Int) > 16777216 := by omega
            by_cases h2 : 65536 < n
            · have h2' : (n : Int) > 65536 := by omega
              have HE : Hid (chkE l = 13) := Lib.hid (by rw [HC.out, HTO.out, decide_eq_true h2, Bool.or_true]; rfl)
              clear h1 h2
              go_wp2_with fail
              go_ret
              exact ⟨by rw [HE.out]; rfl, HB.out⟩
            · have h2' : ¬ (n : Int) > 65536 := by omega
              have HE : Hid (chkE l = 0) := Lib.hid (by rw [HC.out, HTO.out, decide_eq_false h1, decide_eq_false h2]; rfl)
              clear h1 h2
              go_wp2_with fail
              go_ret
              exact ⟨by rw [HE.out]; rfl, HB.out⟩
end Go.Proofs.YtpcoiakdbfihlaaDoor
