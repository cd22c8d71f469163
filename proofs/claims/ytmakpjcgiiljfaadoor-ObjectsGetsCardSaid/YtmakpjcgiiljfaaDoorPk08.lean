/-
  Objects: a name.
  Objects: names that rise.
-/
import Derived.Test.YtmakpjcgiiljfaaDoorPk07
import Derived.Test.YtmakpjcgiiljfaaDoorPk05
import Derived.BigQuiet
import Derived.Test.YtmakpjcgiiljfaaDoorPk01
/-! Objects: a name. -/
namespace Go.Proofs.YtmakpjcgiiljfaaDoor
open Go.RowKit Codec

theorem slash_mem (l : List UInt8) : decide (0 ≤ Lib.indexByte l 47) = decide (47 ∈ l) := by
  rcases ixb_cases l with h | ⟨k, h⟩
  · rw [decide_eq_false (ixb_none h), h]
    rfl
  · obtain ⟨h1, h2, h3⟩ := ixb_some h
    rw [h, decide_eq_true (show 47 ∈ l by rw [h3]; simp)]
    simp
theorem contains_slash (l : List UInt8) (w : World) :
    Calls Tryd.prog 60 #[.string (st l), .string ⟨#[47]⟩] w fun e w' => e = .returned (.bool (decide (47 ∈ l))) ∧ w = w' := by
  have hi := sindex_one (st l) 47 w
  rw [st_data] at hi
  rw [← slash_mem]
  generalize Lib.indexByte l 47 = z at *
  go_enter Tryd.func60, Tryd.ntmps60
  go_wp2_with (go_at_call 62; refine hi.mono ?_; rintro _ _ ⟨rfl, rfl⟩)
  go_ret
  exact ⟨rfl, rfl⟩
set_option maxRecDepth 100000 in
theorem name_any (l : List UInt8) (hl : l.length ≤ maxLen) (w : World) :
    Calls Tryd.prog 58 #[.string (st l)] w fun e w' => e = .returned (.bool (nmE l)) ∧ Below w.heap.size w w' := by
  have hp := path_any l hl w
  unfold nmE
  by_cases h : pathOk l = true
  · rw [h] at hp ⊢
    clear h hl
    go_enter Tryd.func58, Tryd.ntmps58
    go_wp2_with (first
      | (go_at_call 59; refine hp.mono ?_; clear hp; rintro _ w1 ⟨rfl, hb1⟩; have hc := contains_slash l w1)
      | (go_at_call 60; refine hc.mono ?_; clear hc; rintro _ _ ⟨rfl, rfl⟩))
    go_ret
    exact ⟨by simp, hb1⟩
  · have h' : pathOk l = false := by simpa using h
    rw [h'] at hp ⊢
    clear h h' hl
    go_enter Tryd.func58, Tryd.ntmps58
    go_wp2_with (go_at_call 59; refine hp.mono ?_; clear hp; rintro _ w1 ⟨rfl, hb1⟩)
    go_ret
    exact ⟨rfl, hb1⟩
end Go.Proofs.YtmakpjcgiiljfaaDoor

/-! Objects: names that rise. -/
namespace Go.Proofs.YtmakpjcgiiljfaaDoor
open Go.RowKit Codec

theorem ost_leq (a b : List UInt8) : (Op.bytesLess (st a).toList (st b).toList || ((st a).toList == (st b).toList)) = !decide (b < a) := by
  rw [st_list, st_list, bytes_less]
  by_cases h : b < a
  · rw [decide_eq_true h, decide_eq_false (klt_as h)]
    have := klt_ne h
    simp
    exact fun e => this e.symm
  · rw [decide_eq_false h]
    by_cases h2 : a < b
    · rw [decide_eq_true h2]; rfl
    · rw [decide_eq_false h2, klt_tri h2 h]
      simp
/-- While they are looked at. -/
def RiR (w : World) (l : List En) (i : Value) (wr : World) : Prop :=
  ∃ j : Nat, j ≤ l.length ∧ i = .int .i64 (j : Int) ∧ (∀ k, k < j → okE l k = true) ∧ Below w.heap.size w wr
set_option maxHeartbeats 16000000 in
set_option maxRecDepth 100000 in
theorem rise_any {w : World} {S : Nat → Prop} {A : Option Addr} {n c : Nat} {l : List En} (h : Ens w S A n c l) (hn : n ≤ 100000000) (hl : ∀ y ∈ l, y.1.length ≤ maxLen) :
    Calls Tryd.prog 53 #[.slice A n c] w fun e w' => e = .returned (.bool (riseE l)) ∧ Below w.heap.size w w' := by
  have HL := Lib.hid (And.intro h (And.intro h.len (And.intro hn hl)))
  have hze := zero_en
  clear h hn hl
  go_enter Tryd.func53, Tryd.ntmps53
  go_wp2_with fail
  go_loopw [7] (fun i wr => RiR w l i wr) (fun i _ => n - (intOf i).toNat)
  case atStart => exact ⟨0, Nat.zero_le _, rfl, fun k h => absurd h (by omega), Below.refl _ _⟩
  case round =>
    obtain ⟨j, hj, rfl, hok, hbel⟩ := hrel
    have HK := Lib.hid (And.intro hok hbel)
    clear hok hbel
    by_cases hlt : j < n
    · have hlt' : (j : Int) < (n : Int) := by omega
      have hadd := IntWalk.i64_in ((j : Int) + 1) (by have := HL.out.2.2.1; omega)
      obtain ⟨q, off, x, rfl, _, hqlt, hx, hx32, hcs⟩ := HL.out.1.at_ hlt
      obtain ⟨CV, hCV⟩ : ∃ CV, CV = enV x := ⟨_, rfl⟩
      rw [← hCV] at hcs
      have hcw : ∀ (i : Nat) (v : Value), CV[i]? = some v → wr.cell? ((⟨q, off + j * 34, none⟩ : Addr).add i) = some v := fun i v hv => by
        rw [add_plain]
        exact (HK.out.2.cell (p := ⟨_, _, none⟩) hqlt).trans (hcs i v hv)
      have HCV := Lib.hid (And.intro hCV (And.intro hcw (And.intro (show CV.size = 34 by rw [hCV]; exact enV_size hx32) (show CV.all (·.oneCell') = true by rw [hCV]; exact enV_all x))))
      have HX := Lib.hid (And.intro hx (And.intro hlt (And.intro hqlt (HL.out.2.2.2 x (List.mem_of_getElem? hx)))))
      obtain ⟨ZE, hZE⟩ : ∃ ZE, ZE = zeroEn := ⟨_, rfl⟩
      rw [← hZE] at hze
      have HZE := Lib.hid hZE
      clear hCV hcw hcs hx hx32 hqlt hlt hj hZE
      go_upto_region 4 with (first
        | (refine wpList_load_at (by rfl) 51 (.tmp 10) (by rfl) ⟨q, off + j * 34, none⟩ (by rfl) CV _ HCV.out.2.1 Tryd.underlying51 (by rfl) (by rw [HCV.out.2.2.1]; exact en_info) ?_)
        | (refine wpList_store_row (by rfl) 51 (.tmp 4) (.tmp 11) (by rfl) wr.heap.size CV (by rfl) (by rfl) 51 _ (heap_alloc_new wr _) (by rw [HCV.out.2.2.1]; exact en_info) (by rw [HCV.out.2.2.1, HZE.out, zeroEn_en, enV_size (by simp)]) HCV.out.2.2.2 ?_))
      have hal : Below wr.heap.size wr ((wr.alloc (.cells ZE 51)).setRow wr.heap.size CV) := below_setRow ((Below.refl _ _).alloc (Nat.le_refl _) _) (Nat.le_refl _) _
      have hpa : ((wr.alloc (.cells ZE 51)).setRow wr.heap.size CV).heap[wr.heap.size]? = some (.cells CV 51 (0, 0)) := setRow_at (heap_alloc_new wr _)
      have H5 := Lib.hid (And.intro hal hpa)
      clear hal hpa hze
      generalize (wr.alloc (.cells ZE 51)).setRow wr.heap.size CV = w5 at *
      generalize hE0 : wr.heap.size = e0 at *
      have HE0 := Lib.hid hE0
      clear hE0
      have HB5 : Hid (Below w.heap.size w w5) := Lib.hid (HK.out.2.trans (H5.out.1.mono (by have := HK.out.2.size; have := HE0.out; omega)))
      have HBG : Hid (∀ W, Below w5.drew.heap.size w5.drew W → Below w.heap.size w W) := Lib.hid fun W hW => HB5.out.trans ((Grow.below_of_drew hW).mono HB5.out.size)
      have HCX : Hid (∀ W, Below w5.drew.heap.size w5.drew W → W.cell? ⟨e0, 0, none⟩ = some (.string (st x.1))) := Lib.hid fun W hW => by
        have h1 := lt_of_cells H5.out.2
        rw [(Grow.below_of_drew hW).cell (p := ⟨e0, 0, none⟩) h1, cell_of_cells H5.out.2, HCV.out.1]
        exact enV_0 x
      by_cases hnm : nmE x.1 = true
      · by_cases hpre : j = 0 ∨ ∃ m y, j = m + 1 ∧ l[m]? = some y ∧ y.1 < x.1
        · have HST : Hid (okE l j = true) := Lib.hid (by
            rcases hpre with rfl | ⟨m, y, rfl, hy, hyx⟩
            · rw [okE_zero HX.out.1]; exact hnm
            · rw [okE_succ HX.out.1 hy, hnm, decide_eq_true hyx]; rfl)
          rcases hpre with h0 | ⟨m, y, hm, hy, hyx⟩
          · have hgt : decide (0 < j) = false := decide_eq_false (by omega)
            clear h0
            refine wp_region_grow (fun W W' => Below W.heap.size W W') (Grow.nth [fun v _ => v = .pointer (some ⟨e0, 0, none⟩), fun v _ => v = .string (st x.1), fun v _ => v = .bool true, fun v _ => v = .bool false, fun v _ => v = .bool false, fun v _ => v = .int .i64 (j : Int), fun v _ => v = .bool false, fun v _ => v = .bool false, fun v _ => v = undef, fun v _ => v = undef, fun v _ => v = undef, fun v _ => v = undef, fun v _ => v = undef, fun v _ => v = undef, fun v _ => v = undef, fun v _ => v = undef, fun v _ => v = undef, fun v _ => v = .bool false, fun v _ => v = .bool false]) 32 (by kernel_rfl) (by kernel_rfl) (by rfl) (fun W => Below.refl _ W) (fun _ _ _ h1 h2 => h1.trans (h2.mono h1.size)) (Grow.mono_nth ?gmono) ?gsteps ?gfin
            case gmono => exact ⟨fun _ _ _ h _ => h, fun _ _ _ h _ => h, fun _ _ _ h _ => h, fun _ _ _ h _ => h, fun _ _ _ h _ => h, fun _ _ _ h _ => h, fun _ _ _ h _ => h, fun _ _ _ h _ => h, fun _ _ _ h _ => h, fun _ _ _ h _ => h, fun _ _ _ h _ => h, fun _ _ _ h _ => h, fun _ _ _ h _ => h, fun _ _ _ h _ => h, fun _ _ _ h _ => h, fun _ _ _ h _ => h, fun _ _ _ h _ => h, fun _ _ _ h _ => h, fun _ _ _ h _ => h, trivial⟩
            case gsteps =>
              show Grow.allBelow _ 19
              refine And.intro ?_ ?s18
              refine And.intro ?_ ?s17
              refine And.intro ?_ ?s16
              refine And.intro ?_ ?s15
              refine And.intro ?_ ?s14
              refine And.intro ?_ ?s13
              refine And.intro ?_ ?s12
              refine And.intro ?_ ?s11
              refine And.intro ?_ ?s10
              refine And.intro ?_ ?s9
              refine And.intro ?_ ?s8
              refine And.intro ?_ ?s7
              refine And.intro ?_ ?s6
              refine And.intro ?_ ?s5
              refine And.intro ?_ ?s4
              refine And.intro ?_ ?s3
              refine And.intro ?_ ?s2
              refine And.intro ?_ ?s1
              refine And.intro ?_ ?s0
              exact trivial
              case s0 =>
                refine Grow.step_in (by rfl) (by rfl) ?_
                intro E W ec eg ef hG hd hu R HR
                have e4 : E (.tmp 4) = .pointer (some ⟨e0, 0, none⟩) := hu 4 (by kernel_rfl)
                clear hd hu
                go_simp
                exact HR.out _ _ (Below.refl _ _) rfl
              case s1 =>
                refine Grow.step_in (by rfl) (by rfl) ?_
                intro E W ec eg ef hG hd hu R HR
                have e12 : E (.tmp 12) = .pointer (some ⟨e0, 0, none⟩) := hd 0 12 (by kernel_rfl)
                clear hd hu
                have k1 := HCX.out W hG
                go_simp
                exact HR.out _ _ (Below.refl _ _) rfl
              case s2 =>
                refine Grow.step_in (by rfl) (by rfl) ?_
                intro E W ec eg ef hG hd hu R HR
                have e13 : E (.tmp 13) = .string (st x.1) := hd 1 13 (by kernel_rfl)
                clear hd hu
                go_simp
                refine (name_any x.1 HX.out.2.2.2 W).mono ?_
                rintro _ w' ⟨rfl, hb⟩
                exact ⟨_, rfl, HR.out _ _ hb (by rw [hnm]; rfl)⟩
              case s3 =>
                refine Grow.step_in (by rfl) (by rfl) ?_
                intro E W ec eg ef hG hd hu R HR
                have e14 : E (.tmp 14) = .bool true := hd 2 14 (by kernel_rfl)
                clear hd hu
                go_simp
                exact HR.out _ _ (Below.refl _ _) rfl
              case s4 =>
                refine Grow.step_in (by rfl) (by rfl) ?_
                intro E W ec eg ef hG hd hu R HR
                have e15 : E (.tmp 15) = .bool false := hd 3 15 (by kernel_rfl)
                clear hd hu
                go_simp
                exact HR.out _ _ (Below.refl _ _) rfl
              case s5 =>
                refine Grow.step_on (g := 4) (b := false) (d := 16) (by rfl) (by rfl) (by rfl) (by kernel_rfl) (fun v W h => h) ?_
                intro E W ec eg ef hG hd hu R HR
                have e3 : E (.tmp 3) = .int .i64 (j : Int) := hu 3 (by kernel_rfl)
                clear hd hu
                go_simp
                exact HR.out _ _ (Below.refl _ _) rfl
              case s6 =>
                refine Grow.step_on (g := 4) (b := false) (d := 16) (by rfl) (by rfl) (by rfl) (by kernel_rfl) (fun v W h => h) ?_
                intro E W ec eg ef hG hd hu R HR
                have e17 : E (.tmp 17) = .int .i64 (j : Int) := hd 5 17 (by kernel_rfl)
                clear hd hu
                have hg2 := hgt
                go_simp
                exact HR.out _ _ (Below.refl _ _) rfl
              case s7 =>
                refine Grow.step_on (g := 4) (b := false) (d := 16) (by rfl) (by rfl) (by rfl) (by kernel_rfl) (fun v W h => h) ?_
                intro E W ec eg ef hG hd hu R HR
                have e18 : E (.tmp 18) = .bool false := hd 6 18 (by kernel_rfl)
                clear hd hu
                go_simp
                exact HR.out _ _ (Below.refl _ _) rfl
              case s8 =>
                exact Grow.step_off (g := 7) (b := true) (b' := false) (d := 19) (by rfl) (by rfl) (by rfl) (by kernel_rfl) (fun v W h => h) (by decide) (fun _ => rfl)
              case s9 =>
                exact Grow.step_off (g := 7) (b := true) (b' := false) (d := 19) (by rfl) (by rfl) (by rfl) (by kernel_rfl) (fun v W h => h) (by decide) (fun _ => rfl)
              case s10 =>
                exact Grow.step_off (g := 7) (b := true) (b' := false) (d := 19) (by rfl) (by rfl) (by rfl) (by kernel_rfl) (fun v W h => h) (by decide) (fun _ => rfl)
              case s11 =>
                exact Grow.step_off (g := 7) (b := true) (b' := false) (d := 19) (by rfl) (by rfl) (by rfl) (by kernel_rfl) (fun v W h => h) (by decide) (fun _ => rfl)
              case s12 =>
                exact Grow.step_off (g := 7) (b := true) (b' := false) (d := 19) (by rfl) (by rfl) (by rfl) (by kernel_rfl) (fun v W h => h) (by decide) (fun _ => rfl)
              case s13 =>
                exact Grow.step_off (g := 7) (b := true) (b' := false) (d := 19) (by rfl) (by rfl) (by rfl) (by kernel_rfl) (fun v W h => h) (by decide) (fun _ => rfl)
              case s14 =>
                exact Grow.step_off (g := 7) (b := true) (b' := false) (d := 19) (by rfl) (by rfl) (by rfl) (by kernel_rfl) (fun v W h => h) (by decide) (fun _ => rfl)
              case s15 =>
                exact Grow.step_off (g := 7) (b := true) (b' := false) (d := 19) (by rfl) (by rfl) (by rfl) (by kernel_rfl) (fun v W h => h) (by decide) (fun _ => rfl)
              case s16 =>
                exact Grow.step_off (g := 7) (b := true) (b' := false) (d := 19) (by rfl) (by rfl) (by rfl) (by kernel_rfl) (fun v W h => h) (by decide) (fun _ => rfl)
              case s17 =>
                refine Grow.step_on (g := 4) (b := false) (d := 16) (by rfl) (by rfl) (by rfl) (by kernel_rfl) (fun v W h => h) ?_
                intro E W ec eg ef hG hd hu R HR
                have e19 : E (.tmp 19) = .bool false := hd 7 19 (by kernel_rfl)
                have e28 : E (.tmp 28) = undef := hd 16 28 (by kernel_rfl)
                clear hd hu
                go_simp
                exact HR.out _ _ (Below.refl _ _) rfl
              case s18 =>
                refine Grow.step_in (by rfl) (by rfl) ?_
                intro E W ec eg ef hG hd hu R HR
                have e16 : E (.tmp 16) = .bool false := hd 4 16 (by kernel_rfl)
                have e29 : E (.tmp 29) = .bool false := hd 17 29 (by kernel_rfl)
                clear hd hu
                go_simp
                exact HR.out _ _ (Below.refl _ _) rfl
            case gfin =>
              intro W hG
              refine Grow.fin_dst (by rfl) ?_
              rintro _ rfl
              refine Grow.fin_dst (by rfl) ?_
              rintro _ rfl
              refine Grow.fin_dst (by rfl) ?_
              rintro _ rfl
              refine Grow.fin_dst (by rfl) ?_
              rintro _ rfl
              refine Grow.fin_dst (by rfl) ?_
              rintro _ rfl
              refine Grow.fin_dst (by rfl) ?_
              rintro _ rfl
              refine Grow.fin_dst (by rfl) ?_
              rintro _ rfl
              refine Grow.fin_dst (by rfl) ?_
              rintro _ rfl
              refine Grow.fin_dst (by rfl) ?_
              rintro _ rfl
              refine Grow.fin_dst (by rfl) ?_
              rintro _ rfl
              refine Grow.fin_dst (by rfl) ?_
              rintro _ rfl
              refine Grow.fin_dst (by rfl) ?_
              rintro _ rfl
              refine Grow.fin_dst (by rfl) ?_
              rintro _ rfl
              refine Grow.fin_dst (by rfl) ?_
              rintro _ rfl
              refine Grow.fin_dst (by rfl) ?_
              rintro _ rfl
              refine Grow.fin_dst (by rfl) ?_
              rintro _ rfl
              refine Grow.fin_dst (by rfl) ?_
              rintro _ rfl
              refine Grow.fin_dst (by rfl) ?_
              rintro _ rfl
              refine Grow.fin_dst (by rfl) ?_
              rintro _ rfl
              simp only [Act.put, List.setIfInBounds_toArray, List.set_cons_zero, List.set_cons_succ]
              refine Grow.fin_end ?_
              have HB2 := Lib.hid (HBG.out _ hG)
              clear hG
              go_wp2_with fail
              go_roundw
              case rel =>
                unfold RiR
                refine ⟨j + 1, by have := HX.out.2.1; have := HL.out.2.1; omega, by simp, fun k hk => ?_, HB2.out⟩
                by_cases h : k = j
                · rw [h]; exact HST.out
                · exact HK.out.1 k (by omega)
              case measure => have := HX.out.2.1; simp only [intOf]; omega
          · have hgt : decide (0 < j) = true := decide_eq_true (by omega)
            have hsub : IntKind.i64.wrap ((j : Int) - 1) = (m : Int) := by rw [IntWalk.i64_in _ (by have := HL.out.2.2.1; have := HX.out.2.1; omega)]; omega
            have HCY : Hid (∀ W, Below w5.drew.heap.size w5.drew W → W.cell? ⟨q, off + m * 34, none⟩ = some (.string (st y.1))) := Lib.hid fun W hW => by
              obtain ⟨q', off', y', e, _, hq', hy', _, hc⟩ := HL.out.1.at_ (show m < n by have := HX.out.2.1; omega)
              injection e with e
              injection e with e1 e2 _
              subst e1 e2
              rw [hy] at hy'
              injection hy' with hy'
              subst hy'
              exact ((HBG.out W hW).cell (p := ⟨_, _, none⟩) hq').trans (hc 0 _ (enV_0 y))
            have hle := ost_leq x.1 y.1
            rw [decide_eq_true hyx] at hle
            have hmn : m < n := by have := HX.out.2.1; omega
            clear hm hy hyx
            refine wp_region_grow (fun W W' => Below W.heap.size W W') (Grow.nth [fun v _ => v = .pointer (some ⟨e0, 0, none⟩), fun v _ => v = .string (st x.1), fun v _ => v = .bool true, fun v _ => v = .bool false, fun v _ => v = .bool false, fun v _ => v = .int .i64 (j : Int), fun v _ => v = .bool true, fun v _ => v = .bool true, fun v _ => v = .pointer (some ⟨e0, 0, none⟩), fun v _ => v = .string (st x.1), fun v _ => v = .slice (some ⟨q, off, none⟩) n c, fun v _ => v = .int .i64 (j : Int), fun v _ => v = .int .i64 (m : Int), fun v _ => v = .pointer (some ⟨q, off + m * 34, none⟩), fun v _ => v = .pointer (some ⟨q, off + m * 34, none⟩), fun v _ => v = .string (st y.1), fun v _ => v = .bool false, fun v _ => v = .bool false, fun v _ => v = .bool false]) 32 (by kernel_rfl) (by kernel_rfl) (by rfl) (fun W => Below.refl _ W) (fun _ _ _ h1 h2 => h1.trans (h2.mono h1.size)) (Grow.mono_nth ?gmono) ?gsteps ?gfin
            case gmono => exact ⟨fun _ _ _ h _ => h, fun _ _ _ h _ => h, fun _ _ _ h _ => h, fun _ _ _ h _ => h, fun _ _ _ h _ => h, fun _ _ _ h _ => h, fun _ _ _ h _ => h, fun _ _ _ h _ => h, fun _ _ _ h _ => h, fun _ _ _ h _ => h, fun _ _ _ h _ => h, fun _ _ _ h _ => h, fun _ _ _ h _ => h, fun _ _ _ h _ => h, fun _ _ _ h _ => h, fun _ _ _ h _ => h, fun _ _ _ h _ => h, fun _ _ _ h _ => h, fun _ _ _ h _ => h, trivial⟩
            case gsteps =>
              show Grow.allBelow _ 19
              refine And.intro ?_ ?s18
              refine And.intro ?_ ?s17
              refine And.intro ?_ ?s16
              refine And.intro ?_ ?s15
              refine And.intro ?_ ?s14
              refine And.intro ?_ ?s13
              refine And.intro ?_ ?s12
              refine And.intro ?_ ?s11
              refine And.intro ?_ ?s10
              refine And.intro ?_ ?s9
              refine And.intro ?_ ?s8
              refine And.intro ?_ ?s7
              refine And.intro ?_ ?s6
              refine And.intro ?_ ?s5
              refine And.intro ?_ ?s4
              refine And.intro ?_ ?s3
              refine And.intro ?_ ?s2
              refine And.intro ?_ ?s1
              refine And.intro ?_ ?s0
              exact trivial
              case s0 =>
                refine Grow.step_in (by rfl) (by rfl) ?_
                intro E W ec eg ef hG hd hu R HR
                have e4 : E (.tmp 4) = .pointer (some ⟨e0, 0, none⟩) := hu 4 (by kernel_rfl)
                clear hd hu
                go_simp
                exact HR.out _ _ (Below.refl _ _) rfl
              case s1 =>
                refine Grow.step_in (by rfl) (by rfl) ?_
                intro E W ec eg ef hG hd hu R HR
                have e12 : E (.tmp 12) = .pointer (some ⟨e0, 0, none⟩) := hd 0 12 (by kernel_rfl)
                clear hd hu
                have k1 := HCX.out W hG
                go_simp
                exact HR.out _ _ (Below.refl _ _) rfl
              case s2 =>
                refine Grow.step_in (by rfl) (by rfl) ?_
                intro E W ec eg ef hG hd hu R HR
                have e13 : E (.tmp 13) = .string (st x.1) := hd 1 13 (by kernel_rfl)
                clear hd hu
                go_simp
                refine (name_any x.1 HX.out.2.2.2 W).mono ?_
                rintro _ w' ⟨rfl, hb⟩
                exact ⟨_, rfl, HR.out _ _ hb (by rw [hnm]; rfl)⟩
              case s3 =>
                refine Grow.step_in (by rfl) (by rfl) ?_
                intro E W ec eg ef hG hd hu R HR
                have e14 : E (.tmp 14) = .bool true := hd 2 14 (by kernel_rfl)
                clear hd hu
                go_simp
                exact HR.out _ _ (Below.refl _ _) rfl
              case s4 =>
                refine Grow.step_in (by rfl) (by rfl) ?_
                intro E W ec eg ef hG hd hu R HR
                have e15 : E (.tmp 15) = .bool false := hd 3 15 (by kernel_rfl)
                clear hd hu
                go_simp
                exact HR.out _ _ (Below.refl _ _) rfl
              case s5 =>
                refine Grow.step_on (g := 4) (b := false) (d := 16) (by rfl) (by rfl) (by rfl) (by kernel_rfl) (fun v W h => h) ?_
                intro E W ec eg ef hG hd hu R HR
                have e3 : E (.tmp 3) = .int .i64 (j : Int) := hu 3 (by kernel_rfl)
                clear hd hu
                go_simp
                exact HR.out _ _ (Below.refl _ _) rfl
              case s6 =>
                refine Grow.step_on (g := 4) (b := false) (d := 16) (by rfl) (by rfl) (by rfl) (by kernel_rfl) (fun v W h => h) ?_
                intro E W ec eg ef hG hd hu R HR
                have e17 : E (.tmp 17) = .int .i64 (j : Int) := hd 5 17 (by kernel_rfl)
                clear hd hu
                have hg2 := hgt
                go_simp
                exact HR.out _ _ (Below.refl _ _) rfl
              case s7 =>
                refine Grow.step_on (g := 4) (b := false) (d := 16) (by rfl) (by rfl) (by rfl) (by kernel_rfl) (fun v W h => h) ?_
                intro E W ec eg ef hG hd hu R HR
                have e18 : E (.tmp 18) = .bool true := hd 6 18 (by kernel_rfl)
                clear hd hu
                go_simp
                exact HR.out _ _ (Below.refl _ _) rfl
              case s8 =>
                refine Grow.step_on (g := 7) (b := true) (d := 19) (by rfl) (by rfl) (by rfl) (by kernel_rfl) (fun v W h => h) ?_
                intro E W ec eg ef hG hd hu R HR
                have e4 : E (.tmp 4) = .pointer (some ⟨e0, 0, none⟩) := hu 4 (by kernel_rfl)
                clear hd hu
                go_simp
                exact HR.out _ _ (Below.refl _ _) rfl
              case s9 =>
                refine Grow.step_on (g := 7) (b := true) (d := 19) (by rfl) (by rfl) (by rfl) (by kernel_rfl) (fun v W h => h) ?_
                intro E W ec eg ef hG hd hu R HR
                have e20 : E (.tmp 20) = .pointer (some ⟨e0, 0, none⟩) := hd 8 20 (by kernel_rfl)
                clear hd hu
                have k1 := HCX.out W hG
                go_simp
                exact HR.out _ _ (Below.refl _ _) rfl
              case s10 =>
                refine Grow.step_on (g := 7) (b := true) (d := 19) (by rfl) (by rfl) (by rfl) (by kernel_rfl) (fun v W h => h) ?_
                intro E W ec eg ef hG hd hu R HR
                have e0 : E (.tmp 0) = .slice (some ⟨q, off, none⟩) n c := hu 0 (by kernel_rfl)
                clear hd hu
                go_simp
                exact HR.out _ _ (Below.refl _ _) rfl
              case s11 =>
                refine Grow.step_on (g := 7) (b := true) (d := 19) (by rfl) (by rfl) (by rfl) (by kernel_rfl) (fun v W h => h) ?_
                intro E W ec eg ef hG hd hu R HR
                have e3 : E (.tmp 3) = .int .i64 (j : Int) := hu 3 (by kernel_rfl)
                clear hd hu
                go_simp
                exact HR.out _ _ (Below.refl _ _) rfl
              case s12 =>
                refine Grow.step_on (g := 7) (b := true) (d := 19) (by rfl) (by rfl) (by rfl) (by kernel_rfl) (fun v W h => h) ?_
                intro E W ec eg ef hG hd hu R HR
                have e23 : E (.tmp 23) = .int .i64 (j : Int) := hd 11 23 (by kernel_rfl)
                clear hd hu
                go_simp
                exact HR.out _ _ (Below.refl _ _) rfl
              case s13 =>
                refine Grow.step_on (g := 7) (b := true) (d := 19) (by rfl) (by rfl) (by rfl) (by kernel_rfl) (fun v W h => h) ?_
                intro E W ec eg ef hG hd hu R HR
                have e22 : E (.tmp 22) = .slice (some ⟨q, off, none⟩) n c := hd 10 22 (by kernel_rfl)
                have e24 : E (.tmp 24) = .int .i64 (m : Int) := hd 12 24 (by kernel_rfl)
                clear hd hu
                have hjl := hmn
                go_simp
                first | exact HR.out _ _ (Below.refl _ _) rfl | (rw [if_pos ⟨by omega, by omega⟩]; exact HR.out _ _ (Below.refl _ _) rfl)
              case s14 =>
                refine Grow.step_on (g := 7) (b := true) (d := 19) (by rfl) (by rfl) (by rfl) (by kernel_rfl) (fun v W h => h) ?_
                intro E W ec eg ef hG hd hu R HR
                have e25 : E (.tmp 25) = .pointer (some ⟨q, off + m * 34, none⟩) := hd 13 25 (by kernel_rfl)
                clear hd hu
                go_simp
                exact HR.out _ _ (Below.refl _ _) rfl
              case s15 =>
                refine Grow.step_on (g := 7) (b := true) (d := 19) (by rfl) (by rfl) (by rfl) (by kernel_rfl) (fun v W h => h) ?_
                intro E W ec eg ef hG hd hu R HR
                have e26 : E (.tmp 26) = .pointer (some ⟨q, off + m * 34, none⟩) := hd 14 26 (by kernel_rfl)
                clear hd hu
                have k1 := HCY.out W hG
                go_simp
                exact HR.out _ _ (Below.refl _ _) rfl
              case s16 =>
                refine Grow.step_on (g := 7) (b := true) (d := 19) (by rfl) (by rfl) (by rfl) (by kernel_rfl) (fun v W h => h) ?_
                intro E W ec eg ef hG hd hu R HR
                have e21 : E (.tmp 21) = .string (st x.1) := hd 9 21 (by kernel_rfl)
                have e27 : E (.tmp 27) = .string (st y.1) := hd 15 27 (by kernel_rfl)
                clear hd hu
                go_simp
                exact HR.out _ _ (Below.refl _ _) (by first | rfl | (show Value.bool (_) = _; rw [hle]; rfl))
              case s17 =>
                refine Grow.step_on (g := 4) (b := false) (d := 16) (by rfl) (by rfl) (by rfl) (by kernel_rfl) (fun v W h => h) ?_
                intro E W ec eg ef hG hd hu R HR
                have e19 : E (.tmp 19) = .bool true := hd 7 19 (by kernel_rfl)
                have e28 : E (.tmp 28) = .bool false := hd 16 28 (by kernel_rfl)
                clear hd hu
                go_simp
                exact HR.out _ _ (Below.refl _ _) rfl
              case s18 =>
                refine Grow.step_in (by rfl) (by rfl) ?_
                intro E W ec eg ef hG hd hu R HR
                have e16 : E (.tmp 16) = .bool false := hd 4 16 (by kernel_rfl)
                have e29 : E (.tmp 29) = .bool false := hd 17 29 (by kernel_rfl)
                clear hd hu
                go_simp
                exact HR.out _ _ (Below.refl _ _) rfl
            case gfin =>
              intro W hG
              refine Grow.fin_dst (by rfl) ?_
              rintro _ rfl
              refine Grow.fin_dst (by rfl) ?_
              rintro _ rfl
              refine Grow.fin_dst (by rfl) ?_
              rintro _ rfl
              refine Grow.fin_dst (by rfl) ?_
              rintro _ rfl
              refine Grow.fin_dst (by rfl) ?_
              rintro _ rfl
              refine Grow.fin_dst (by rfl) ?_
              rintro _ rfl
              refine Grow.fin_dst (by rfl) ?_
              rintro _ rfl
              refine Grow.fin_dst (by rfl) ?_
              rintro _ rfl
              refine Grow.fin_dst (by rfl) ?_
              rintro _ rfl
              refine Grow.fin_dst (by rfl) ?_
              rintro _ rfl
              refine Grow.fin_dst (by rfl) ?_
              rintro _ rfl
              refine Grow.fin_dst (by rfl) ?_
              rintro _ rfl
              refine Grow.fin_dst (by rfl) ?_
              rintro _ rfl
              refine Grow.fin_dst (by rfl) ?_
              rintro _ rfl
              refine Grow.fin_dst (by rfl) ?_
              rintro _ rfl
              refine Grow.fin_dst (by rfl) ?_
              rintro _ rfl
              refine Grow.fin_dst (by rfl) ?_
              rintro _ rfl
              refine Grow.fin_dst (by rfl) ?_
              rintro _ rfl
              refine Grow.fin_dst (by rfl) ?_
              rintro _ rfl
              simp only [Act.put, List.setIfInBounds_toArray, List.set_cons_zero, List.set_cons_succ]
              refine Grow.fin_end ?_
              have HB2 := Lib.hid (HBG.out _ hG)
              clear hG
              go_wp2_with fail
              go_roundw
              case rel =>
                unfold RiR
                refine ⟨j + 1, by have := HX.out.2.1; have := HL.out.2.1; omega, by simp, fun k hk => ?_, HB2.out⟩
                by_cases h : k = j
                · rw [h]; exact HST.out
                · exact HK.out.1 k (by omega)
              case measure => have := HX.out.2.1; simp only [intOf]; omega
        · obtain ⟨m, hm⟩ : ∃ m, j = m + 1 := ⟨j - 1, by have : j ≠ 0 := fun h => hpre (.inl h); omega⟩
          obtain ⟨y, hy⟩ : ∃ y, l[m]? = some y := ⟨_, List.getElem?_eq_getElem (by have := HL.out.2.1; have := HX.out.2.1; omega)⟩
          have hyx : ¬ y.1 < x.1 := fun h => hpre (.inr ⟨m, y, hm, hy, h⟩)
          have HST : Hid (riseE l = false) := Lib.hid (by
            refine rise_not (i := j) (List.getElem?_eq_some_iff.1 HX.out.1).1 ?_
            have h1 := HX.out.1
            subst hm
            rw [okE_succ h1 hy, decide_eq_false hyx, Bool.and_false])
          have hgt : decide (0 < j) = true := decide_eq_true (by omega)
          have hsub : IntKind.i64.wrap ((j : Int) - 1) = (m : Int) := by rw [IntWalk.i64_in _ (by have := HL.out.2.2.1; have := HX.out.2.1; omega)]; omega
          have HCY : Hid (∀ W, Below w5.drew.heap.size w5.drew W → W.cell? ⟨q, off + m * 34, none⟩ = some (.string (st y.1))) := Lib.hid fun W hW => by
            obtain ⟨q', off', y', e, _, hq', hy', _, hc⟩ := HL.out.1.at_ (show m < n by have := HX.out.2.1; omega)
            injection e with e
            injection e with e1 e2 _
            subst e1 e2
            rw [hy] at hy'
            injection hy' with hy'
            subst hy'
            exact ((HBG.out W hW).cell (p := ⟨_, _, none⟩) hq').trans (hc 0 _ (enV_0 y))
          have hle := ost_leq x.1 y.1
          rw [decide_eq_false hyx] at hle
          have hmn : m < n := by have := HX.out.2.1; omega
          clear hm hy hyx hpre
          refine wp_region_grow (fun W W' => Below W.heap.size W W') (Grow.nth [fun v _ => v = .pointer (some ⟨e0, 0, none⟩), fun v _ => v = .string (st x.1), fun v _ => v = .bool true, fun v _ => v = .bool false, fun v _ => v = .bool false, fun v _ => v = .int .i64 (j : Int), fun v _ => v = .bool true, fun v _ => v = .bool true, fun v _ => v = .pointer (some ⟨e0, 0, none⟩), fun v _ => v = .string (st x.1), fun v _ => v = .slice (some ⟨q, off, none⟩) n c, fun v _ => v = .int .i64 (j : Int), fun v _ => v = .int .i64 (m : Int), fun v _ => v = .pointer (some ⟨q, off + m * 34, none⟩), fun v _ => v = .pointer (some ⟨q, off + m * 34, none⟩), fun v _ => v = .string (st y.1), fun v _ => v = .bool true, fun v _ => v = .bool true, fun v _ => v = .bool true]) 32 (by kernel_rfl) (by kernel_rfl) (by rfl) (fun W => Below.refl _ W) (fun _ _ _ h1 h2 => h1.trans (h2.mono h1.size)) (Grow.mono_nth ?gmono) ?gsteps ?gfin
          case gmono => exact ⟨fun _ _ _ h _ => h, fun _ _ _ h _ => h, fun _ _ _ h _ => h, fun _ _ _ h _ => h, fun _ _ _ h _ => h, fun _ _ _ h _ => h, fun _ _ _ h _ => h, fun _ _ _ h _ => h, fun _ _ _ h _ => h, fun _ _ _ h _ => h, fun _ _ _ h _ => h, fun _ _ _ h _ => h, fun _ _ _ h _ => h, fun _ _ _ h _ => h, fun _ _ _ h _ => h, fun _ _ _ h _ => h, fun _ _ _ h _ => h, fun _ _ _ h _ => h, fun _ _ _ h _ => h, trivial⟩
          case gsteps =>
            show Grow.allBelow _ 19
            refine And.intro ?_ ?s18
            refine And.intro ?_ ?s17
            refine And.intro ?_ ?s16
            refine And.intro ?_ ?s15
            refine And.intro ?_ ?s14
            refine And.intro ?_ ?s13
            refine And.intro ?_ ?s12
            refine And.intro ?_ ?s11
            refine And.intro ?_ ?s10
            refine And.intro ?_ ?s9
            refine And.intro ?_ ?s8
            refine And.intro ?_ ?s7
            refine And.intro ?_ ?s6
            refine And.intro ?_ ?s5
            refine And.intro ?_ ?s4
            refine And.intro ?_ ?s3
            refine And.intro ?_ ?s2
            refine And.intro ?_ ?s1
            refine And.intro ?_ ?s0
            exact trivial
            case s0 =>
              refine Grow.step_in (by rfl) (by rfl) ?_
              intro E W ec eg ef hG hd hu R HR
              have e4 : E (.tmp 4) = .pointer (some ⟨e0, 0, none⟩) := hu 4 (by kernel_rfl)
              clear hd hu
              go_simp
              exact HR.out _ _ (Below.refl _ _) rfl
            case s1 =>
              refine Grow.step_in (by rfl) (by rfl) ?_
              intro E W ec eg ef hG hd hu R HR
              have e12 : E (.tmp 12) = .pointer (some ⟨e0, 0, none⟩) := hd 0 12 (by kernel_rfl)
              clear hd hu
              have k1 := HCX.out W hG
              go_simp
              exact HR.out _ _ (Below.refl _ _) rfl
            case s2 =>
              refine Grow.step_in (by rfl) (by rfl) ?_
              intro E W ec eg ef hG hd hu R HR
              have e13 : E (.tmp 13) = .string (st x.1) := hd 1 13 (by kernel_rfl)
              clear hd hu
              go_simp
              refine (name_any x.1 HX.out.2.2.2 W).mono ?_
              rintro _ w' ⟨rfl, hb⟩
              exact ⟨_, rfl, HR.out _ _ hb (by rw [hnm]; rfl)⟩
            case s3 =>
              refine Grow.step_in (by rfl) (by rfl) ?_
              intro E W ec eg ef hG hd hu R HR
              have e14 : E (.tmp 14) = .bool true := hd 2 14 (by kernel_rfl)
              clear hd hu
              go_simp
              exact HR.out _ _ (Below.refl _ _) rfl
            case s4 =>
              refine Grow.step_in (by rfl) (by rfl) ?_
              intro E W ec eg ef hG hd hu R HR
              have e15 : E (.tmp 15) = .bool false := hd 3 15 (by kernel_rfl)
              clear hd hu
              go_simp
              exact HR.out _ _ (Below.refl _ _) rfl
            case s5 =>
              refine Grow.step_on (g := 4) (b := false) (d := 16) (by rfl) (by rfl) (by rfl) (by kernel_rfl) (fun v W h => h) ?_
              intro E W ec eg ef hG hd hu R HR
              have e3 : E (.tmp 3) = .int .i64 (j : Int) := hu 3 (by kernel_rfl)
              clear hd hu
              go_simp
              exact HR.out _ _ (Below.refl _ _) rfl
            case s6 =>
              refine Grow.step_on (g := 4) (b := false) (d := 16) (by rfl) (by rfl) (by rfl) (by kernel_rfl) (fun v W h => h) ?_
              intro E W ec eg ef hG hd hu R HR
              have e17 : E (.tmp 17) = .int .i64 (j : Int) := hd 5 17 (by kernel_rfl)
              clear hd hu
              have hg2 := hgt
              go_simp
              exact HR.out _ _ (Below.refl _ _) rfl
            case s7 =>
              refine Grow.step_on (g := 4) (b := false) (d := 16) (by rfl) (by rfl) (by rfl) (by kernel_rfl) (fun v W h => h) ?_
              intro E W ec eg ef hG hd hu R HR
              have e18 : E (.tmp 18) = .bool true := hd 6 18 (by kernel_rfl)
              clear hd hu
              go_simp
              exact HR.out _ _ (Below.refl _ _) rfl
            case s8 =>
              refine Grow.step_on (g := 7) (b := true) (d := 19) (by rfl) (by rfl) (by rfl) (by kernel_rfl) (fun v W h => h) ?_
              intro E W ec eg ef hG hd hu R HR
              have e4 : E (.tmp 4) = .pointer (some ⟨e0, 0, none⟩) := hu 4 (by kernel_rfl)
              clear hd hu
              go_simp
              exact HR.out _ _ (Below.refl _ _) rfl
            case s9 =>
              refine Grow.step_on (g := 7) (b := true) (d := 19) (by rfl) (by rfl) (by rfl) (by kernel_rfl) (fun v W h => h) ?_
              intro E W ec eg ef hG hd hu R HR
              have e20 : E (.tmp 20) = .pointer (some ⟨e0, 0, none⟩) := hd 8 20 (by kernel_rfl)
              clear hd hu
              have k1 := HCX.out W hG
              go_simp
              exact HR.out _ _ (Below.refl _ _) rfl
            case s10 =>
              refine Grow.step_on (g := 7) (b := true) (d := 19) (by rfl) (by rfl) (by rfl) (by kernel_rfl) (fun v W h => h) ?_
              intro E W ec eg ef hG hd hu R HR
              have e0 : E (.tmp 0) = .slice (some ⟨q, off, none⟩) n c := hu 0 (by kernel_rfl)
              clear hd hu
              go_simp
              exact HR.out _ _ (Below.refl _ _) rfl
            case s11 =>
              refine Grow.step_on (g := 7) (b := true) (d := 19) (by rfl) (by rfl) (by rfl) (by kernel_rfl) (fun v W h => h) ?_
              intro E W ec eg ef hG hd hu R HR
              have e3 : E (.tmp 3) = .int .i64 (j : Int) := hu 3 (by kernel_rfl)
              clear hd hu
              go_simp
              exact HR.out _ _ (Below.refl _ _) rfl
            case s12 =>
              refine Grow.step_on (g := 7) (b := true) (d := 19) (by rfl) (by rfl) (by rfl) (by kernel_rfl) (fun v W h => h) ?_
              intro E W ec eg ef hG hd hu R HR
              have e23 : E (.tmp 23) = .int .i64 (j : Int) := hd 11 23 (by kernel_rfl)
              clear hd hu
              go_simp
              exact HR.out _ _ (Below.refl _ _) rfl
            case s13 =>
              refine Grow.step_on (g := 7) (b := true) (d := 19) (by rfl) (by rfl) (by rfl) (by kernel_rfl) (fun v W h => h) ?_
              intro E W ec eg ef hG hd hu R HR
              have e22 : E (.tmp 22) = .slice (some ⟨q, off, none⟩) n c := hd 10 22 (by kernel_rfl)
              have e24 : E (.tmp 24) = .int .i64 (m : Int) := hd 12 24 (by kernel_rfl)
              clear hd hu
              have hjl := hmn
              go_simp
              first | exact HR.out _ _ (Below.refl _ _) rfl | (rw [if_pos ⟨by omega, by omega⟩]; exact HR.out _ _ (Below.refl _ _) rfl)
            case s14 =>
              refine Grow.step_on (g := 7) (b := true) (d := 19) (by rfl) (by rfl) (by rfl) (by kernel_rfl) (fun v W h => h) ?_
              intro E W ec eg ef hG hd hu R HR
              have e25 : E (.tmp 25) = .pointer (some ⟨q, off + m * 34, none⟩) := hd 13 25 (by kernel_rfl)
              clear hd hu
              go_simp
              exact HR.out _ _ (Below.refl _ _) rfl
            case s15 =>
              refine Grow.step_on (g := 7) (b := true) (d := 19) (by rfl) (by rfl) (by rfl) (by kernel_rfl) (fun v W h => h) ?_
              intro E W ec eg ef hG hd hu R HR
              have e26 : E (.tmp 26) = .pointer (some ⟨q, off + m * 34, none⟩) := hd 14 26 (by kernel_rfl)
              clear hd hu
              have k1 := HCY.out W hG
              go_simp
              exact HR.out _ _ (Below.refl _ _) rfl
            case s16 =>
              refine Grow.step_on (g := 7) (b := true) (d := 19) (by rfl) (by rfl) (by rfl) (by kernel_rfl) (fun v W h => h) ?_
              intro E W ec eg ef hG hd hu R HR
              have e21 : E (.tmp 21) = .string (st x.1) := hd 9 21 (by kernel_rfl)
              have e27 : E (.tmp 27) = .string (st y.1) := hd 15 27 (by kernel_rfl)
              clear hd hu
              go_simp
              exact HR.out _ _ (Below.refl _ _) (by first | rfl | (show Value.bool (_) = _; rw [hle]; rfl))
            case s17 =>
              refine Grow.step_on (g := 4) (b := false) (d := 16) (by rfl) (by rfl) (by rfl) (by kernel_rfl) (fun v W h => h) ?_
              intro E W ec eg ef hG hd hu R HR
              have e19 : E (.tmp 19) = .bool true := hd 7 19 (by kernel_rfl)
              have e28 : E (.tmp 28) = .bool true := hd 16 28 (by kernel_rfl)
              clear hd hu
              go_simp
              exact HR.out _ _ (Below.refl _ _) rfl
            case s18 =>
              refine Grow.step_in (by rfl) (by rfl) ?_
              intro E W ec eg ef hG hd hu R HR
              have e16 : E (.tmp 16) = .bool false := hd 4 16 (by kernel_rfl)
              have e29 : E (.tmp 29) = .bool true := hd 17 29 (by kernel_rfl)
              clear hd hu
              go_simp
              exact HR.out _ _ (Below.refl _ _) rfl
          case gfin =>
            intro W hG
            refine Grow.fin_dst (by rfl) ?_
            rintro _ rfl
            refine Grow.fin_dst (by rfl) ?_
            rintro _ rfl
            refine Grow.fin_dst (by rfl) ?_
            rintro _ rfl
            refine Grow.fin_dst (by rfl) ?_
            rintro _ rfl
            refine Grow.fin_dst (by rfl) ?_
            rintro _ rfl
            refine Grow.fin_dst (by rfl) ?_
            rintro _ rfl
            refine Grow.fin_dst (by rfl) ?_
            rintro _ rfl
            refine Grow.fin_dst (by rfl) ?_
            rintro _ rfl
            refine Grow.fin_dst (by rfl) ?_
            rintro _ rfl
            refine Grow.fin_dst (by rfl) ?_
            rintro _ rfl
            refine Grow.fin_dst (by rfl) ?_
            rintro _ rfl
            refine Grow.fin_dst (by rfl) ?_
            rintro _ rfl
            refine Grow.fin_dst (by rfl) ?_
            rintro _ rfl
            refine Grow.fin_dst (by rfl) ?_
            rintro _ rfl
            refine Grow.fin_dst (by rfl) ?_
            rintro _ rfl
            refine Grow.fin_dst (by rfl) ?_
            rintro _ rfl
            refine Grow.fin_dst (by rfl) ?_
            rintro _ rfl
            refine Grow.fin_dst (by rfl) ?_
            rintro _ rfl
            refine Grow.fin_dst (by rfl) ?_
            rintro _ rfl
            simp only [Act.put, List.setIfInBounds_toArray, List.set_cons_zero, List.set_cons_succ]
            refine Grow.fin_end ?_
            have HB2 := Lib.hid (HBG.out _ hG)
            clear hG
            go_wp2_with fail
            go_ret
            exact ⟨by rw [HST.out]; rfl, HB2.out⟩
      · have HST : Hid (riseE l = false) := Lib.hid (rise_not (i := j) (List.getElem?_eq_some_iff.1 HX.out.1).1 (okE_bad HX.out.1 (by simpa using hnm)))
        refine wp_region_grow (fun W W' => Below W.heap.size W W') (Grow.nth [fun v _ => v = .pointer (some ⟨e0, 0, none⟩), fun v _ => v = .string (st x.1), fun v _ => v = .bool false, fun v _ => v = .bool true, fun v _ => v = .bool true, fun v _ => v = undef, fun v _ => v = undef, fun v _ => v = undef, fun v _ => v = undef, fun v _ => v = undef, fun v _ => v = undef, fun v _ => v = undef, fun v _ => v = undef, fun v _ => v = undef, fun v _ => v = undef, fun v _ => v = undef, fun v _ => v = undef, fun v _ => v = undef, fun v _ => v = .bool true]) 32 (by kernel_rfl) (by kernel_rfl) (by rfl) (fun W => Below.refl _ W) (fun _ _ _ h1 h2 => h1.trans (h2.mono h1.size)) (Grow.mono_nth ?gmono) ?gsteps ?gfin
        case gmono => exact ⟨fun _ _ _ h _ => h, fun _ _ _ h _ => h, fun _ _ _ h _ => h, fun _ _ _ h _ => h, fun _ _ _ h _ => h, fun _ _ _ h _ => h, fun _ _ _ h _ => h, fun _ _ _ h _ => h, fun _ _ _ h _ => h, fun _ _ _ h _ => h, fun _ _ _ h _ => h, fun _ _ _ h _ => h, fun _ _ _ h _ => h, fun _ _ _ h _ => h, fun _ _ _ h _ => h, fun _ _ _ h _ => h, fun _ _ _ h _ => h, fun _ _ _ h _ => h, fun _ _ _ h _ => h, trivial⟩
        case gsteps =>
          show Grow.allBelow _ 19
          refine And.intro ?_ ?s18
          refine And.intro ?_ ?s17
          refine And.intro ?_ ?s16
          refine And.intro ?_ ?s15
          refine And.intro ?_ ?s14
          refine And.intro ?_ ?s13
          refine And.intro ?_ ?s12
          refine And.intro ?_ ?s11
          refine And.intro ?_ ?s10
          refine And.intro ?_ ?s9
          refine And.intro ?_ ?s8
          refine And.intro ?_ ?s7
          refine And.intro ?_ ?s6
          refine And.intro ?_ ?s5
          refine And.intro ?_ ?s4
          refine And.intro ?_ ?s3
          refine And.intro ?_ ?s2
          refine And.intro ?_ ?s1
          refine And.intro ?_ ?s0
          exact trivial
          case s0 =>
            refine Grow.step_in (by rfl) (by rfl) ?_
            intro E W ec eg ef hG hd hu R HR
            have e4 : E (.tmp 4) = .pointer (some ⟨e0, 0, none⟩) := hu 4 (by kernel_rfl)
            clear hd hu
            go_simp
            exact HR.out _ _ (Below.refl _ _) rfl
          case s1 =>
            refine Grow.step_in (by rfl) (by rfl) ?_
            intro E W ec eg ef hG hd hu R HR
            have e12 : E (.tmp 12) = .pointer (some ⟨e0, 0, none⟩) := hd 0 12 (by kernel_rfl)
            clear hd hu
            have k1 := HCX.out W hG
            go_simp
            exact HR.out _ _ (Below.refl _ _) rfl
          case s2 =>
            refine Grow.step_in (by rfl) (by rfl) ?_
            intro E W ec eg ef hG hd hu R HR
            have e13 : E (.tmp 13) = .string (st x.1) := hd 1 13 (by kernel_rfl)
            clear hd hu
            go_simp
            refine (name_any x.1 HX.out.2.2.2 W).mono ?_
            rintro _ w' ⟨rfl, hb⟩
            exact ⟨_, rfl, HR.out _ _ hb (by rw [show nmE x.1 = false by simpa using hnm]; rfl)⟩
          case s3 =>
            refine Grow.step_in (by rfl) (by rfl) ?_
            intro E W ec eg ef hG hd hu R HR
            have e14 : E (.tmp 14) = .bool false := hd 2 14 (by kernel_rfl)
            clear hd hu
            go_simp
            exact HR.out _ _ (Below.refl _ _) rfl
          case s4 =>
            refine Grow.step_in (by rfl) (by rfl) ?_
            intro E W ec eg ef hG hd hu R HR
            have e15 : E (.tmp 15) = .bool true := hd 3 15 (by kernel_rfl)
            clear hd hu
            go_simp
            exact HR.out _ _ (Below.refl _ _) rfl
          case s5 =>
            exact Grow.step_off (g := 4) (b := false) (b' := true) (d := 16) (by rfl) (by rfl) (by rfl) (by kernel_rfl) (fun v W h => h) (by decide) (fun _ => rfl)
          case s6 =>
            exact Grow.step_off (g := 4) (b := false) (b' := true) (d := 16) (by rfl) (by rfl) (by rfl) (by kernel_rfl) (fun v W h => h) (by decide) (fun _ => rfl)
          case s7 =>
            exact Grow.step_off (g := 4) (b := false) (b' := true) (d := 16) (by rfl) (by rfl) (by rfl) (by kernel_rfl) (fun v W h => h) (by decide) (fun _ => rfl)
          case s8 =>
            exact Grow.step_far (g := 7) (b := true) (d := 19) (by rfl) (by rfl) (by rfl) (by kernel_rfl) (fun v W h => h) (fun _ => rfl)
          case s9 =>
            exact Grow.step_far (g := 7) (b := true) (d := 19) (by rfl) (by rfl) (by rfl) (by kernel_rfl) (fun v W h => h) (fun _ => rfl)
          case s10 =>
            exact Grow.step_far (g := 7) (b := true) (d := 19) (by rfl) (by rfl) (by rfl) (by kernel_rfl) (fun v W h => h) (fun _ => rfl)
          case s11 =>
            exact Grow.step_far (g := 7) (b := true) (d := 19) (by rfl) (by rfl) (by rfl) (by kernel_rfl) (fun v W h => h) (fun _ => rfl)
          case s12 =>
            exact Grow.step_far (g := 7) (b := true) (d := 19) (by rfl) (by rfl) (by rfl) (by kernel_rfl) (fun v W h => h) (fun _ => rfl)
          case s13 =>
            exact Grow.step_far (g := 7) (b := true) (d := 19) (by rfl) (by rfl) (by rfl) (by kernel_rfl) (fun v W h => h) (fun _ => rfl)
          case s14 =>
            exact Grow.step_far (g := 7) (b := true) (d := 19) (by rfl) (by rfl) (by rfl) (by kernel_rfl) (fun v W h => h) (fun _ => rfl)
          case s15 =>
            exact Grow.step_far (g := 7) (b := true) (d := 19) (by rfl) (by rfl) (by rfl) (by kernel_rfl) (fun v W h => h) (fun _ => rfl)
          case s16 =>
            exact Grow.step_far (g := 7) (b := true) (d := 19) (by rfl) (by rfl) (by rfl) (by kernel_rfl) (fun v W h => h) (fun _ => rfl)
          case s17 =>
            exact Grow.step_off (g := 4) (b := false) (b' := true) (d := 16) (by rfl) (by rfl) (by rfl) (by kernel_rfl) (fun v W h => h) (by decide) (fun _ => rfl)
          case s18 =>
            refine Grow.step_in (by rfl) (by rfl) ?_
            intro E W ec eg ef hG hd hu R HR
            have e16 : E (.tmp 16) = .bool true := hd 4 16 (by kernel_rfl)
            have e29 : E (.tmp 29) = undef := hd 17 29 (by kernel_rfl)
            clear hd hu
            go_simp
            exact HR.out _ _ (Below.refl _ _) rfl
        case gfin =>
          intro W hG
          refine Grow.fin_dst (by rfl) ?_
          rintro _ rfl
          refine Grow.fin_dst (by rfl) ?_
          rintro _ rfl
          refine Grow.fin_dst (by rfl) ?_
          rintro _ rfl
          refine Grow.fin_dst (by rfl) ?_
          rintro _ rfl
          refine Grow.fin_dst (by rfl) ?_
          rintro _ rfl
          refine Grow.fin_dst (by rfl) ?_
          rintro _ rfl
          refine Grow.fin_dst (by rfl) ?_
          rintro _ rfl
          refine Grow.fin_dst (by rfl) ?_
          rintro _ rfl
          refine Grow.fin_dst (by rfl) ?_
          rintro _ rfl
          refine Grow.fin_dst (by rfl) ?_
          rintro _ rfl
          refine Grow.fin_dst (by rfl) ?_
          rintro _ rfl
          refine Grow.fin_dst (by rfl) ?_
          rintro _ rfl
          refine Grow.fin_dst (by rfl) ?_
          rintro _ rfl
          refine Grow.fin_dst (by rfl) ?_
          rintro _ rfl
          refine Grow.fin_dst (by rfl) ?_
          rintro _ rfl
          refine Grow.fin_dst (by rfl) ?_
          rintro _ rfl
          refine Grow.fin_dst (by rfl) ?_
          rintro _ rfl
          refine Grow.fin_dst (by rfl) ?_
          rintro _ rfl
          refine Grow.fin_dst (by rfl) ?_
          rintro _ rfl
          simp only [Act.put, List.setIfInBounds_toArray, List.set_cons_zero, List.set_cons_succ]
          refine Grow.fin_end ?_
          have HB2 := Lib.hid (HBG.out _ hG)
          clear hG
          go_wp2_with fail
          go_ret
          exact ⟨by rw [HST.out]; rfl, HB2.out⟩
    · have hlt' : ¬ (j : Int) < (n : Int) := by omega
      have HE : Hid (riseE l = true) := Lib.hid (rise_all HL.out.2.1 fun i hi => HK.out.1 i (by omega))
      clear hlt hj
      go_wp2_with fail
      go_ret
      exact ⟨by rw [HE.out]; rfl, HK.out.2⟩
end Go.Proofs.YtmakpjcgiiljfaaDoor
