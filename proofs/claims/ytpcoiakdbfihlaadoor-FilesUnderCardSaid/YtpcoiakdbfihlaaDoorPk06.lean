/-
  Files: do paths rise?
  Files: a set of strings: map[string]struct{}.
-/
import Derived.Test.YtpcoiakdbfihlaaDoorPk03
import Derived.Test.YtpcoiakdbfihlaaDoorPk05
import Derived.Test.YtpcoiakdbfihlaaDoorPk04
import Derived.Maps.OwnIn
/-! Files: do paths rise? -/
namespace Go.Proofs.YtpcoiakdbfihlaaDoor
open Go.RowKit Codec

theorem st_leq (a b : List UInt8) : (Op.bytesLess (st a).toList (st b).toList || (st a).toList == (st b).toList) = !decide (b < a) := by
  rw [st_list, st_list, bytes_less]
  by_cases h : a < b
  · simp [h, klt_as h]
  · by_cases e : a = b
    · subst e
      simp [klt_irr]
    · have : b < a := Classical.byContradiction fun h2 => e (klt_tri h h2)
      simp [h, e, this]
/-- While they are looked at. -/
def RsR (w : World) (l : Tb) (i : Value) (wr : World) : Prop :=
  ∃ j : Nat, j ≤ l.length ∧ i = .int .i64 (j : Int) ∧ riseB (l.take j) = true ∧ Below w.heap.size w wr
theorem rise_step {l : Tb} {j : Nat} {x : Fi} (hx : l[j]? = some x) : riseB (l.take (j + 1)) = (riseB (l.take j) && pathOk x.1 && (match (l.take j).getLast? with | none => true | some y => decide (y.1 < x.1))) := by
  rw [List.take_add_one, hx]
  exact rise_snoc _ _
theorem rise_last {l : Tb} {m : Nat} {y : Fi} (hy : l[m]? = some y) : (l.take (m + 1)).getLast? = some y := by
  rw [List.take_add_one, hy]
  simp
theorem rise_bad {l : Tb} {k : Nat} (h : riseB (l.take k) = false) : riseB l = false := by
  cases e : riseB l with
  | false => rfl
  | true => rw [rise_take e] at h; cases h
set_option maxHeartbeats 8000000 in
set_option maxRecDepth 100000 in
theorem rise_any {w : World} {S : Nat → Prop} {A : Option Addr} {n c : Nat} {l : Tb} (hl : Fls w S A n c l) (hn : n ≤ 100000000) (hp : ∀ x ∈ l, x.1.length ≤ maxLen) :
    Calls Tryd.prog 32 #[.slice A n c] w fun e w' => e = .returned (.bool (riseB l)) ∧ Below w.heap.size w w' := by
  have HL := Lib.hid (And.intro hl (And.intro hl.len hp))
  have H0 : Hid (RsR w l (.int .i64 0) w) := Lib.hid ⟨0, Nat.zero_le _, rfl, rfl, Below.refl _ _⟩
  have hzc := zero_fi
  clear hl hp
  go_enter Tryd.func32, Tryd.ntmps32
  go_wp2_with fail
  go_loopw [7] (fun i wr => RsR w l i wr) (fun i _ => n - (intOf i).toNat)
  case atStart => exact H0.out
  case round =>
    obtain ⟨j, hj, rfl, hall, hb⟩ := hrel
    clear H0
    have HK := Lib.hid (And.intro hall hb)
    clear hall hb
    by_cases hlt : j < n
    · have hlt' : (j : Int) < (n : Int) := by omega
      obtain ⟨q, off, x, Ai, ni, ci, rfl, _, hqlt, hx, hcs, hy⟩ := HL.out.1.at_ hlt
      obtain ⟨CV, hCV⟩ : ∃ CV, CV = fiV Ai ni ci x := ⟨_, rfl⟩
      rw [← hCV] at hcs
      have hcw : ∀ (i : Nat) (v : Value), CV[i]? = some v → wr.cell? ((⟨q, off + j * 2, none⟩ : Addr).add i) = some v := fun i v hv => by
        have h1 := hcs i v hv
        rw [add_plain] at h1 ⊢
        exact (HK.out.2.cell (p := ⟨_, _, none⟩) hqlt).trans h1
      have hadd := IntWalk.i64_in ((j : Int) + 1) (by omega)
      have HCV := Lib.hid (And.intro hCV hcw)
      have HX := Lib.hid (And.intro hx (And.intro hlt hqlt))
      clear hCV hcw hcs hy hx hqlt
      go_upto_region 4 with (first
        | (refine wpList_load_at (by rfl) 50 (.tmp 10) (by rfl) ⟨q, off + j * 2, none⟩ (by rfl) CV _ HCV.out.2 Tryd.underlying50 (by rfl) (by rw [HCV.out.1]; exact fi_info) ?_)
        | (refine wpList_store_row (by rfl) 50 (.tmp 4) (.tmp 11) (by rfl) wr.heap.size CV (by rfl) (by rfl) 50 _ (heap_alloc_new wr _) (by rw [HCV.out.1]; exact fi_info) (by rw [HCV.out.1]; rfl) (by rw [HCV.out.1]; exact fiV_one _ _ _ _) ?_))
      have hal : Below wr.heap.size wr ((wr.alloc (.cells #[.string ⟨#[]⟩, .slice none 0 0] 50)).setRow wr.heap.size CV) := below_setRow ((Below.refl _ _).alloc (Nat.le_refl _) _) (Nat.le_refl _) _
      have hpa : ((wr.alloc (.cells #[.string ⟨#[]⟩, .slice none 0 0] 50)).setRow wr.heap.size CV).heap[wr.heap.size]? = some (.cells CV 50 (0, 0)) := setRow_at (heap_alloc_new wr _)
      obtain ⟨X, hX⟩ : ∃ X, X = x.1 := ⟨_, rfl⟩
      have hpx : ((wr.alloc (.cells #[.string ⟨#[]⟩, .slice none 0 0] 50)).setRow wr.heap.size CV).cell? ⟨wr.heap.size, 0, none⟩ = some (.string (st X)) := by rw [cell_of_cells hpa, HCV.out.1, hX]; rfl
      have hpl := lt_of_cells hpa
      have hst := rise_step HX.out.1
      rw [HK.out.1, Bool.true_and, ← hX] at hst
      have HV : Hid (X.length ≤ maxLen) := Lib.hid (by rw [hX]; exact HL.out.2.2 _ (List.mem_of_getElem? HX.out.1))
      have H5 := Lib.hid (And.intro hal (And.intro hpx hpl))
      have HST := Lib.hid hst
      clear hal hpa hzc hpx hpl hst hX
      generalize (wr.alloc (.cells #[.string ⟨#[]⟩, .slice none 0 0] 50)).setRow wr.heap.size CV = w5 at *
      have HBX : Hid (∀ W, Below w5.drew.heap.size w5.drew W → W.cell? ⟨wr.heap.size, 0, none⟩ = some (.string (st X))) := Lib.hid fun W hW => ((Grow.below_of_drew hW).cell (p := ⟨_, _, none⟩) H5.out.2.2).trans H5.out.2.1
      by_cases hok : pathOk X = true
      · cases j with
        | zero =>
          have HST : Hid (riseB (l.take 1) = true) := Lib.hid (by have := HST.out; rw [hok] at this; simpa using this)
          have HOK := Lib.hid hok
          clear hok
          refine wp_region_grow (fun W W' => Below W.heap.size W W') (Grow.nth [fun v _ => v = .pointer (some ⟨wr.heap.size, 0, none⟩), fun v _ => v = .string (st X), fun v _ => v = .bool true, fun v _ => v = .bool false, fun v _ => v = .bool false, fun v _ => v = .int .i64 0, fun v _ => v = .bool false, fun v _ => v = .bool false, fun v _ => v = undef, fun v _ => v = undef, fun v _ => v = undef, fun v _ => v = undef, fun v _ => v = undef, fun v _ => v = undef, fun v _ => v = undef, fun v _ => v = undef, fun v _ => v = undef, fun v _ => v = .bool false, fun v _ => v = .bool false]) 32 (by kernel_rfl) (by kernel_rfl) (by rfl) (fun W => Below.refl _ W) (fun _ _ _ h1 h2 => h1.trans (h2.mono h1.size)) (Grow.mono_nth ?gmono) ?gsteps ?gfin
          case gmono => exact ⟨fun _ _ _ h _ => h, fun _ _ _ h _ => h, fun _ _ _ h _ => h, fun _ _ _ h _ => h, fun _ _ _ h _ => h, fun _ _ _ h _ => h, fun _ _ _ h _ => h, fun _ _ _ h _ => h, fun _ _ _ h _ => h, fun _ _ _ h _ => h, fun _ _ _ h _ => h, fun _ _ _ h _ => h, fun _ _ _ h _ => h, fun _ _ _ h _ => h, fun _ _ _ h _ => h, fun _ _ _ h _ => h, fun _ _ _ h _ => h, fun _ _ _ h _ => h, fun _ _ _ h _ => h, trivial⟩
          case gsteps =>
            show Grow.allBelow _ 19
            refine And.intro ?_ ?s18
            refine And.intro ?_ ?s17
            refine And.intro ?_ ?s16
            refine And.intro ?_ ?s15
            refine And.intro ?_ ?s14
            refine And.intro ?_ ?s13
            refine And.intro ?_ ?s12
            refine And.intro ?_ ?s11
            refine And.intro ?_ ?s10
            refine And.intro ?_ ?s9
            refine And.intro ?_ ?s8
            refine And.intro ?_ ?s7
            refine And.intro ?_ ?s6
            refine And.intro ?_ ?s5
            refine And.intro ?_ ?s4
            refine And.intro ?_ ?s3
            refine And.intro ?_ ?s2
            refine And.intro ?_ ?s1
            refine And.intro ?_ ?s0
            exact trivial
            case s0 =>
              refine Grow.step_in (by rfl) (by rfl) ?_
              intro E W ec eg ef hG hd hu R HR
              have e4 : E (.tmp 4) = .pointer (some ⟨wr.heap.size, 0, none⟩) := hu 4 (by kernel_rfl)
              clear hd hu
              go_simp
              exact HR.out _ _ (Below.refl _ _) rfl
            case s1 =>
              refine Grow.step_in (by rfl) (by rfl) ?_
              intro E W ec eg ef hG hd hu R HR
              have e12 : E (.tmp 12) = .pointer (some ⟨wr.heap.size, 0, none⟩) := hd 0 12 (by kernel_rfl)
              clear hd hu
              have k1 := HBX.out W hG
              go_simp
              exact HR.out _ _ (Below.refl _ _) rfl
            case s2 =>
              refine Grow.step_in (by rfl) (by rfl) ?_
              intro E W ec eg ef hG hd hu R HR
              have e13 : E (.tmp 13) = .string (st X) := hd 1 13 (by kernel_rfl)
              clear hd hu
              have hpc := path_any X HV.out W
              rw [HOK.out] at hpc
              go_simp
              refine hpc.mono ?_
              rintro _ _ ⟨rfl, hbb⟩
              exact ⟨_, rfl, HR.out _ _ hbb rfl⟩
            case s3 =>
              refine Grow.step_in (by rfl) (by rfl) ?_
              intro E W ec eg ef hG hd hu R HR
              have e14 : E (.tmp 14) = .bool true := hd 2 14 (by kernel_rfl)
              clear hd hu
              go_simp
              exact HR.out _ _ (Below.refl _ _) rfl
            case s4 =>
              refine Grow.step_in (by rfl) (by rfl) ?_
              intro E W ec eg ef hG hd hu R HR
              have e15 : E (.tmp 15) = .bool false := hd 3 15 (by kernel_rfl)
              clear hd hu
              go_simp
              exact HR.out _ _ (Below.refl _ _) rfl
            case s5 =>
              refine Grow.step_on (g := 4) (b := false) (d := 16) (by rfl) (by rfl) (by rfl) (by kernel_rfl) (fun v W h => h) ?_
              intro E W ec eg ef hG hd hu R HR
              have e3 : E (.tmp 3) = .int .i64 0 := hu 3 (by kernel_rfl)
              clear hd hu
              go_simp
              exact HR.out _ _ (Below.refl _ _) rfl
            case s6 =>
              refine Grow.step_on (g := 4) (b := false) (d := 16) (by rfl) (by rfl) (by rfl) (by kernel_rfl) (fun v W h => h) ?_
              intro E W ec eg ef hG hd hu R HR
              have e17 : E (.tmp 17) = .int .i64 0 := hd 5 17 (by kernel_rfl)
              clear hd hu
              go_simp
              exact HR.out _ _ (Below.refl _ _) rfl
            case s7 =>
              refine Grow.step_on (g := 4) (b := false) (d := 16) (by rfl) (by rfl) (by rfl) (by kernel_rfl) (fun v W h => h) ?_
              intro E W ec eg ef hG hd hu R HR
              have e18 : E (.tmp 18) = .bool false := hd 6 18 (by kernel_rfl)
              clear hd hu
              go_simp
              exact HR.out _ _ (Below.refl _ _) rfl
            case s8 =>
              exact Grow.step_off (g := 7) (b := true) (b' := false) (d := 19) (by rfl) (by rfl) (by rfl) (by kernel_rfl) (fun v W h => h) (by decide) (fun _ => rfl)
            case s9 =>
              exact Grow.step_off (g := 7) (b := true) (b' := false) (d := 19) (by rfl) (by rfl) (by rfl) (by kernel_rfl) (fun v W h => h) (by decide) (fun _ => rfl)
            case s10 =>
              exact Grow.step_off (g := 7) (b := true) (b' := false) (d := 19) (by rfl) (by rfl) (by rfl) (by kernel_rfl) (fun v W h => h) (by decide) (fun _ => rfl)
            case s11 =>
              exact Grow.step_off (g := 7) (b := true) (b' := false) (d := 19) (by rfl) (by rfl) (by rfl) (by kernel_rfl) (fun v W h => h) (by decide) (fun _ => rfl)
            case s12 =>
              exact Grow.step_off (g := 7) (b := true) (b' := false) (d := 19) (by rfl) (by rfl) (by rfl) (by kernel_rfl) (fun v W h => h) (by decide) (fun _ => rfl)
            case s13 =>
              exact Grow.step_off (g := 7) (b := true) (b' := false) (d := 19) (by rfl) (by rfl) (by rfl) (by kernel_rfl) (fun v W h => h) (by decide) (fun _ => rfl)
            case s14 =>
              exact Grow.step_off (g := 7) (b := true) (b' := false) (d := 19) (by rfl) (by rfl) (by rfl) (by kernel_rfl) (fun v W h => h) (by decide) (fun _ => rfl)
            case s15 =>
              exact Grow.step_off (g := 7) (b := true) (b' := false) (d := 19) (by rfl) (by rfl) (by rfl) (by kernel_rfl) (fun v W h => h) (by decide) (fun _ => rfl)
            case s16 =>
              exact Grow.step_off (g := 7) (b := true) (b' := false) (d := 19) (by rfl) (by rfl) (by rfl) (by kernel_rfl) (fun v W h => h) (by decide) (fun _ => rfl)
            case s17 =>
              refine Grow.step_on (g := 4) (b := false) (d := 16) (by rfl) (by rfl) (by rfl) (by kernel_rfl) (fun v W h => h) ?_
              intro E W ec eg ef hG hd hu R HR
              have e19 : E (.tmp 19) = .bool false := hd 7 19 (by kernel_rfl)
              have e28 : E (.tmp 28) = undef := hd 16 28 (by kernel_rfl)
              clear hd hu
              go_simp
              exact HR.out _ _ (Below.refl _ _) rfl
            case s18 =>
              refine Grow.step_in (by rfl) (by rfl) ?_
              intro E W ec eg ef hG hd hu R HR
              have e16 : E (.tmp 16) = .bool false := hd 4 16 (by kernel_rfl)
              have e29 : E (.tmp 29) = .bool false := hd 17 29 (by kernel_rfl)
              clear hd hu
              go_simp
              exact HR.out _ _ (Below.refl _ _) rfl
          case gfin =>
            intro W hG
            refine Grow.fin_dst (by rfl) ?_
            rintro _ rfl
            refine Grow.fin_dst (by rfl) ?_
            rintro _ rfl
            refine Grow.fin_dst (by rfl) ?_
            rintro _ rfl
            refine Grow.fin_dst (by rfl) ?_
            rintro _ rfl
            refine Grow.fin_dst (by rfl) ?_
            rintro _ rfl
            refine Grow.fin_dst (by rfl) ?_
            rintro _ rfl
            refine Grow.fin_dst (by rfl) ?_
            rintro _ rfl
            refine Grow.fin_dst (by rfl) ?_
            rintro _ rfl
            refine Grow.fin_dst (by rfl) ?_
            rintro _ rfl
            refine Grow.fin_dst (by rfl) ?_
            rintro _ rfl
            refine Grow.fin_dst (by rfl) ?_
            rintro _ rfl
            refine Grow.fin_dst (by rfl) ?_
            rintro _ rfl
            refine Grow.fin_dst (by rfl) ?_
            rintro _ rfl
            refine Grow.fin_dst (by rfl) ?_
            rintro _ rfl
            refine Grow.fin_dst (by rfl) ?_
            rintro _ rfl
            refine Grow.fin_dst (by rfl) ?_
            rintro _ rfl
            refine Grow.fin_dst (by rfl) ?_
            rintro _ rfl
            refine Grow.fin_dst (by rfl) ?_
            rintro _ rfl
            refine Grow.fin_dst (by rfl) ?_
            rintro _ rfl
            simp only [Act.put, List.setIfInBounds_toArray, List.set_cons_zero, List.set_cons_succ]
            refine Grow.fin_end ?_
            have HB3 := Lib.hid (H5.out.1.trans ((Grow.below_of_drew hG).mono H5.out.1.size))
            clear hG
            go_wp2_with fail
            go_roundw
            case rel => exact ⟨1, by have h1 := HX.out.2.1; have h2 := HL.out.2.1; omega, by simp, HST.out, HK.out.2.trans (HB3.out.mono HK.out.2.size)⟩
            case measure => simp only [intOf]; omega
        | succ m =>
          obtain ⟨y, hy⟩ : ∃ y, l[m]? = some y := ⟨_, List.getElem?_eq_getElem (by omega)⟩
          have hst := HST.out
          rw [hok, Bool.true_and, rise_last hy] at hst
          simp only at hst
          obtain ⟨q2, off2, y2, A2, n2, c2, e2, _, _, hy2, hcs2, _⟩ := HL.out.1.at_ (show m < n by omega)
          injection e2 with e2
          injection e2 with e2 e3
          subst e2 e3
          obtain rfl : y2 = y := by rw [hy] at hy2; exact (Option.some.inj hy2).symm
          obtain ⟨Y, hY⟩ : ∃ Y, Y = y2.1 := ⟨_, rfl⟩
          have HBY : Hid (∀ W, Below w5.drew.heap.size w5.drew W → W.cell? ⟨q, off + m * 2, none⟩ = some (.string (st Y))) := Lib.hid fun W hW => by
            have h1 := hcs2 0 (.string (st Y)) (by rw [hY]; rfl)
            rw [add_plain, Nat.add_zero] at h1
            have h2 := HK.out.2.trans ((H5.out.1.trans ((Grow.below_of_drew hW).mono H5.out.1.size)).mono HK.out.2.size)
            exact (h2.cell (p := ⟨_, _, none⟩) HX.out.2.2).trans h1
          rw [← hY] at hst
          have HOK := Lib.hid (And.intro hok (show m < n by omega))
          have hle := st_leq X Y
          have hgt : decide (((m + 1 : Nat) : Int) > 0) = true := decide_eq_true (by omega)
          obtain ⟨J, hJ⟩ : ∃ J : Int, J = ((m + 1 : Nat) : Int) := ⟨_, rfl⟩
          have hsub : IntKind.i64.wrap (J - 1) = (m : Int) := by rw [IntWalk.i64_in (J - 1) (by omega)]; omega
          have hJ0 : (0 : Int) < J := by omega
          rw [← hJ] at hlt' hadd hgt ⊢
          have HJ := Lib.hid (And.intro hJ hj)
          clear hok hy hy2 hcs2 hY hJ hj
          by_cases hlt2 : Y < X
          · rw [decide_eq_true hlt2] at hle hst
            have HST := Lib.hid hst
            clear hst hlt2 hlt
            refine wp_region_grow (fun W W' => Below W.heap.size W W') (Grow.nth [fun v _ => v = .pointer (some ⟨wr.heap.size, 0, none⟩), fun v _ => v = .string (st X), fun v _ => v = .bool true, fun v _ => v = .bool false, fun v _ => v = .bool false, fun v _ => v = .int .i64 J, fun v _ => v = .bool true, fun v _ => v = .bool true, fun v _ => v = .pointer (some ⟨wr.heap.size, 0, none⟩), fun v _ => v = .string (st X), fun v _ => v = .slice (some ⟨q, off, none⟩) n c, fun v _ => v = .int .i64 J, fun v _ => v = .int .i64 (m : Int), fun v _ => v = .pointer (some ⟨q, off + m * 2, none⟩), fun v _ => v = .pointer (some ⟨q, off + m * 2, none⟩), fun v _ => v = .string (st Y), fun v _ => v = .bool false, fun v _ => v = .bool false, fun v _ => v = .bool false]) 32 (by kernel_rfl) (by kernel_rfl) (by rfl) (fun W => Below.refl _ W) (fun _ _ _ h1 h2 => h1.trans (h2.mono h1.size)) (Grow.mono_nth ?gmono) ?gsteps ?gfin
            case gmono => exact ⟨fun _ _ _ h _ => h, fun _ _ _ h _ => h, fun _ _ _ h _ => h, fun _ _ _ h _ => h, fun _ _ _ h _ => h, fun _ _ _ h _ => h, fun _ _ _ h _ => h, fun _ _ _ h _ => h, fun _ _ _ h _ => h, fun _ _ _ h _ => h, fun _ _ _ h _ => h, fun _ _ _ h _ => h, fun _ _ _ h _ => h, fun _ _ _ h _ => h, fun _ _ _ h _ => h, fun _ _ _ h _ => h, fun _ _ _ h _ => h, fun _ _ _ h _ => h, fun _ _ _ h _ => h, trivial⟩
            case gsteps =>
              show Grow.allBelow _ 19
              refine And.intro ?_ ?s18
              refine And.intro ?_ ?s17
              refine And.intro ?_ ?s16
              refine And.intro ?_ ?s15
              refine And.intro ?_ ?s14
              refine And.intro ?_ ?s13
              refine And.intro ?_ ?s12
              refine And.intro ?_ ?s11
              refine And.intro ?_ ?s10
              refine And.intro ?_ ?s9
              refine And.intro ?_ ?s8
              refine And.intro ?_ ?s7
              refine And.intro ?_ ?s6
              refine And.intro ?_ ?s5
              refine And.intro ?_ ?s4
              refine And.intro ?_ ?s3
              refine And.intro ?_ ?s2
              refine And.intro ?_ ?s1
              refine And.intro ?_ ?s0
              exact trivial
              case s0 =>
                refine Grow.step_in (by rfl) (by rfl) ?_
                intro E W ec eg ef hG hd hu R HR
                have e4 : E (.tmp 4) = .pointer (some ⟨wr.heap.size, 0, none⟩) := hu 4 (by kernel_rfl)
                clear hd hu
                go_simp
                exact HR.out _ _ (Below.refl _ _) rfl
              case s1 =>
                refine Grow.step_in (by rfl) (by rfl) ?_
                intro E W ec eg ef hG hd hu R HR
                have e12 : E (.tmp 12) = .pointer (some ⟨wr.heap.size, 0, none⟩) := hd 0 12 (by kernel_rfl)
                clear hd hu
                have k1 := HBX.out W hG
                go_simp
                exact HR.out _ _ (Below.refl _ _) rfl
              case s2 =>
                refine Grow.step_in (by rfl) (by rfl) ?_
                intro E W ec eg ef hG hd hu R HR
                have e13 : E (.tmp 13) = .string (st X) := hd 1 13 (by kernel_rfl)
                clear hd hu
                have hpc := path_any X HV.out W
                rw [HOK.out.1] at hpc
                go_simp
                refine hpc.mono ?_
                rintro _ _ ⟨rfl, hbb⟩
                exact ⟨_, rfl, HR.out _ _ hbb rfl⟩
              case s3 =>
                refine Grow.step_in (by rfl) (by rfl) ?_
                intro E W ec eg ef hG hd hu R HR
                have e14 : E (.tmp 14) = .bool true := hd 2 14 (by kernel_rfl)
                clear hd hu
                go_simp
                exact HR.out _ _ (Below.refl _ _) rfl
              case s4 =>
                refine Grow.step_in (by rfl) (by rfl) ?_
                intro E W ec eg ef hG hd hu R HR
                have e15 : E (.tmp 15) = .bool false := hd 3 15 (by kernel_rfl)
                clear hd hu
                go_simp
                exact HR.out _ _ (Below.refl _ _) rfl
              case s5 =>
                refine Grow.step_on (g := 4) (b := false) (d := 16) (by rfl) (by rfl) (by rfl) (by kernel_rfl) (fun v W h => h) ?_
                intro E W ec eg ef hG hd hu R HR
                have e3 : E (.tmp 3) = .int .i64 J := hu 3 (by kernel_rfl)
                clear hd hu
                go_simp
                exact HR.out _ _ (Below.refl _ _) rfl
              case s6 =>
                refine Grow.step_on (g := 4) (b := false) (d := 16) (by rfl) (by rfl) (by rfl) (by kernel_rfl) (fun v W h => h) ?_
                intro E W ec eg ef hG hd hu R HR
                have e17 : E (.tmp 17) = .int .i64 J := hd 5 17 (by kernel_rfl)
                clear hd hu
                have hgt := HJ.out.1
                go_simp
                exact HR.out _ _ (Below.refl _ _) rfl
              case s7 =>
                refine Grow.step_on (g := 4) (b := false) (d := 16) (by rfl) (by rfl) (by rfl) (by kernel_rfl) (fun v W h => h) ?_
                intro E W ec eg ef hG hd hu R HR
                have e18 : E (.tmp 18) = .bool true := hd 6 18 (by kernel_rfl)
                clear hd hu
                go_simp
                exact HR.out _ _ (Below.refl _ _) rfl
              case s8 =>
                refine Grow.step_on (g := 7) (b := true) (d := 19) (by rfl) (by rfl) (by rfl) (by kernel_rfl) (fun v W h => h) ?_
                intro E W ec eg ef hG hd hu R HR
                have e4 : E (.tmp 4) = .pointer (some ⟨wr.heap.size, 0, none⟩) := hu 4 (by kernel_rfl)
                clear hd hu
                go_simp
                exact HR.out _ _ (Below.refl _ _) rfl
              case s9 =>
                refine Grow.step_on (g := 7) (b := true) (d := 19) (by rfl) (by rfl) (by rfl) (by kernel_rfl) (fun v W h => h) ?_
                intro E W ec eg ef hG hd hu R HR
                have e20 : E (.tmp 20) = .pointer (some ⟨wr.heap.size, 0, none⟩) := hd 8 20 (by kernel_rfl)
                clear hd hu
                have k1 := HBX.out W hG
                go_simp
                exact HR.out _ _ (Below.refl _ _) rfl
              case s10 =>
                refine Grow.step_on (g := 7) (b := true) (d := 19) (by rfl) (by rfl) (by rfl) (by kernel_rfl) (fun v W h => h) ?_
                intro E W ec eg ef hG hd hu R HR
                have e0 : E (.tmp 0) = .slice (some ⟨q, off, none⟩) n c := hu 0 (by kernel_rfl)
                clear hd hu
                go_simp
                exact HR.out _ _ (Below.refl _ _) rfl
              case s11 =>
                refine Grow.step_on (g := 7) (b := true) (d := 19) (by rfl) (by rfl) (by rfl) (by kernel_rfl) (fun v W h => h) ?_
                intro E W ec eg ef hG hd hu R HR
                have e3 : E (.tmp 3) = .int .i64 J := hu 3 (by kernel_rfl)
                clear hd hu
                go_simp
                exact HR.out _ _ (Below.refl _ _) rfl
              case s12 =>
                refine Grow.step_on (g := 7) (b := true) (d := 19) (by rfl) (by rfl) (by rfl) (by kernel_rfl) (fun v W h => h) ?_
                intro E W ec eg ef hG hd hu R HR
                have e23 : E (.tmp 23) = .int .i64 J := hd 11 23 (by kernel_rfl)
                clear hd hu
                go_simp
                exact HR.out _ _ (Below.refl _ _) rfl
              case s13 =>
                refine Grow.step_on (g := 7) (b := true) (d := 19) (by rfl) (by rfl) (by rfl) (by kernel_rfl) (fun v W h => h) ?_
                intro E W ec eg ef hG hd hu R HR
                have e22 : E (.tmp 22) = .slice (some ⟨q, off, none⟩) n c := hd 10 22 (by kernel_rfl)
                have e24 : E (.tmp 24) = .int .i64 (m : Int) := hd 12 24 (by kernel_rfl)
                clear hd hu
                have hjl := HOK.out.2
                go_simp
                first | exact HR.out _ _ (Below.refl _ _) rfl | (rw [if_pos ⟨by omega, by omega⟩]; exact HR.out _ _ (Below.refl _ _) rfl)
              case s14 =>
                refine Grow.step_on (g := 7) (b := true) (d := 19) (by rfl) (by rfl) (by rfl) (by kernel_rfl) (fun v W h => h) ?_
                intro E W ec eg ef hG hd hu R HR
                have e25 : E (.tmp 25) = .pointer (some ⟨q, off + m * 2, none⟩) := hd 13 25 (by kernel_rfl)
                clear hd hu
                go_simp
                exact HR.out _ _ (Below.refl _ _) rfl
              case s15 =>
                refine Grow.step_on (g := 7) (b := true) (d := 19) (by rfl) (by rfl) (by rfl) (by kernel_rfl) (fun v W h => h) ?_
                intro E W ec eg ef hG hd hu R HR
                have e26 : E (.tmp 26) = .pointer (some ⟨q, off + m * 2, none⟩) := hd 14 26 (by kernel_rfl)
                clear hd hu
                have k1 := HBY.out W hG
                go_simp
                exact HR.out _ _ (Below.refl _ _) rfl
              case s16 =>
                refine Grow.step_on (g := 7) (b := true) (d := 19) (by rfl) (by rfl) (by rfl) (by kernel_rfl) (fun v W h => h) ?_
                intro E W ec eg ef hG hd hu R HR
                have e21 : E (.tmp 21) = .string (st X) := hd 9 21 (by kernel_rfl)
                have e27 : E (.tmp 27) = .string (st Y) := hd 15 27 (by kernel_rfl)
                clear hd hu
                go_simp
                exact HR.out _ _ (Below.refl _ _) (by show Value.bool (_) = _; rw [hle]; rfl)
              case s17 =>
                refine Grow.step_on (g := 4) (b := false) (d := 16) (by rfl) (by rfl) (by rfl) (by kernel_rfl) (fun v W h => h) ?_
                intro E W ec eg ef hG hd hu R HR
                have e19 : E (.tmp 19) = .bool true := hd 7 19 (by kernel_rfl)
                have e28 : E (.tmp 28) = .bool false := hd 16 28 (by kernel_rfl)
                clear hd hu
                go_simp
                exact HR.out _ _ (Below.refl _ _) rfl
              case s18 =>
                refine Grow.step_in (by rfl) (by rfl) ?_
                intro E W ec eg ef hG hd hu R HR
                have e16 : E (.tmp 16) = .bool false := hd 4 16 (by kernel_rfl)
                have e29 : E (.tmp 29) = .bool false := hd 17 29 (by kernel_rfl)
                clear hd hu
                go_simp
                exact HR.out _ _ (Below.refl _ _) rfl
            case gfin =>
              intro W hG
              refine Grow.fin_dst (by rfl) ?_
              rintro _ rfl
              refine Grow.fin_dst (by rfl) ?_
              rintro _ rfl
              refine Grow.fin_dst (by rfl) ?_
              rintro _ rfl
              refine Grow.fin_dst (by rfl) ?_
              rintro _ rfl
              refine Grow.fin_dst (by rfl) ?_
              rintro _ rfl
              refine Grow.fin_dst (by rfl) ?_
              rintro _ rfl
              refine Grow.fin_dst (by rfl) ?_
              rintro _ rfl
              refine Grow.fin_dst (by rfl) ?_
              rintro _ rfl
              refine Grow.fin_dst (by rfl) ?_
              rintro _ rfl
              refine Grow.fin_dst (by rfl) ?_
              rintro _ rfl
              refine Grow.fin_dst (by rfl) ?_
              rintro _ rfl
              refine Grow.fin_dst (by rfl) ?_
              rintro _ rfl
              refine Grow.fin_dst (by rfl) ?_
              rintro _ rfl
              refine Grow.fin_dst (by rfl) ?_
              rintro _ rfl
              refine Grow.fin_dst (by rfl) ?_
              rintro _ rfl
              refine Grow.fin_dst (by rfl) ?_
              rintro _ rfl
              refine Grow.fin_dst (by rfl) ?_
              rintro _ rfl
              refine Grow.fin_dst (by rfl) ?_
              rintro _ rfl
              refine Grow.fin_dst (by rfl) ?_
              rintro _ rfl
              simp only [Act.put, List.setIfInBounds_toArray, List.set_cons_zero, List.set_cons_succ]
              refine Grow.fin_end ?_
              have HB3 := Lib.hid (H5.out.1.trans ((Grow.below_of_drew hG).mono H5.out.1.size))
              clear hG
              go_wp2_with fail
              go_roundw
              case rel => exact ⟨m + 1 + 1, by have h1 := HX.out.2.1; have h2 := HL.out.2.1; omega, by rw [HJ.out.1]; rfl, HST.out, HK.out.2.trans (HB3.out.mono HK.out.2.size)⟩
              case measure => simp only [intOf]; have := HX.out.2.1; have := HJ.out.1; omega
          · rw [decide_eq_false hlt2] at hle hst
            have HST := Lib.hid hst
            clear hst hlt2 hlt
            refine wp_region_grow (fun W W' => Below W.heap.size W W') (Grow.nth [fun v _ => v = .pointer (some ⟨wr.heap.size, 0, none⟩), fun v _ => v = .string (st X), fun v _ => v = .bool true, fun v _ => v = .bool false, fun v _ => v = .bool false, fun v _ => v = .int .i64 J, fun v _ => v = .bool true, fun v _ => v = .bool true, fun v _ => v = .pointer (some ⟨wr.heap.size, 0, none⟩), fun v _ => v = .string (st X), fun v _ => v = .slice (some ⟨q, off, none⟩) n c, fun v _ => v = .int .i64 J, fun v _ => v = .int .i64 (m : Int), fun v _ => v = .pointer (some ⟨q, off + m * 2, none⟩), fun v _ => v = .pointer (some ⟨q, off + m * 2, none⟩), fun v _ => v = .string (st Y), fun v _ => v = .bool true, fun v _ => v = .bool true, fun v _ => v = .bool true]) 32 (by kernel_rfl) (by kernel_rfl) (by rfl) (fun W => Below.refl _ W) (fun _ _ _ h1 h2 => h1.trans (h2.mono h1.size)) (Grow.mono_nth ?gmono) ?gsteps ?gfin
            case gmono => exact ⟨fun _ _ _ h _ => h, fun _ _ _ h _ => h, fun _ _ _ h _ => h, fun _ _ _ h _ => h, fun _ _ _ h _ => h, fun _ _ _ h _ => h, fun _ _ _ h _ => h, fun _ _ _ h _ => h, fun _ _ _ h _ => h, fun _ _ _ h _ => h, fun _ _ _ h _ => h, fun _ _ _ h _ => h, fun _ _ _ h _ => h, fun _ _ _ h _ => h, fun _ _ _ h _ => h, fun _ _ _ h _ => h, fun _ _ _ h _ => h, fun _ _ _ h _ => h, fun _ _ _ h _ => h, trivial⟩
            case gsteps =>
              show Grow.allBelow _ 19
              refine And.intro ?_ ?s18
              refine And.intro ?_ ?s17
              refine And.intro ?_ ?s16
              refine And.intro ?_ ?s15
              refine And.intro ?_ ?s14
              refine And.intro ?_ ?s13
              refine And.intro ?_ ?s12
              refine And.intro ?_ ?s11
              refine And.intro ?_ ?s10
              refine And.intro ?_ ?s9
              refine And.intro ?_ ?s8
              refine And.intro ?_ ?s7
              refine And.intro ?_ ?s6
              refine And.intro ?_ ?s5
              refine And.intro ?_ ?s4
              refine And.intro ?_ ?s3
              refine And.intro ?_ ?s2
              refine And.intro ?_ ?s1
              refine And.intro ?_ ?s0
              exact trivial
              case s0 =>
                refine Grow.step_in (by rfl) (by rfl) ?_
                intro E W ec eg ef hG hd hu R HR
                have e4 : E (.tmp 4) = .pointer (some ⟨wr.heap.size, 0, none⟩) := hu 4 (by kernel_rfl)
                clear hd hu
                go_simp
                exact HR.out _ _ (Below.refl _ _) rfl
              case s1 =>
                refine Grow.step_in (by rfl) (by rfl) ?_
                intro E W ec eg ef hG hd hu R HR
                have e12 : E (.tmp 12) = .pointer (some ⟨wr.heap.size, 0, none⟩) := hd 0 12 (by kernel_rfl)
                clear hd hu
                have k1 := HBX.out W hG
                go_simp
                exact HR.out _ _ (Below.refl _ _) rfl
              case s2 =>
                refine Grow.step_in (by rfl) (by rfl) ?_
                intro E W ec eg ef hG hd hu R HR
                have e13 : E (.tmp 13) = .string (st X) := hd 1 13 (by kernel_rfl)
                clear hd hu
                have hpc := path_any X HV.out W
                rw [HOK.out.1] at hpc
                go_simp
                refine hpc.mono ?_
                rintro _ _ ⟨rfl, hbb⟩
                exact ⟨_, rfl, HR.out _ _ hbb rfl⟩
              case s3 =>
                refine Grow.step_in (by rfl) (by rfl) ?_
                intro E W ec eg ef hG hd hu R HR
                have e14 : E (.tmp 14) = .bool true := hd 2 14 (by kernel_rfl)
                clear hd hu
                go_simp
                exact HR.out _ _ (Below.refl _ _) rfl
              case s4 =>
                refine Grow.step_in (by rfl) (by rfl) ?_
                intro E W ec eg ef hG hd hu R HR
                have e15 : E (.tmp 15) = .bool false := hd 3 15 (by kernel_rfl)
                clear hd hu
                go_simp
                exact HR.out _ _ (Below.refl _ _) rfl
              case s5 =>
                refine Grow.step_on (g := 4) (b := false) (d := 16) (by rfl) (by rfl) (by rfl) (by kernel_rfl) (fun v W h => h) ?_
                intro E W ec eg ef hG hd hu R HR
                have e3 : E (.tmp 3) = .int .i64 J := hu 3 (by kernel_rfl)
                clear hd hu
                go_simp
                exact HR.out _ _ (Below.refl _ _) rfl
              case s6 =>
                refine Grow.step_on (g := 4) (b := false) (d := 16) (by rfl) (by rfl) (by rfl) (by kernel_rfl) (fun v W h => h) ?_
                intro E W ec eg ef hG hd hu R HR
                have e17 : E (.tmp 17) = .int .i64 J := hd 5 17 (by kernel_rfl)
                clear hd hu
                have hgt := HJ.out.1
                go_simp
                exact HR.out _ _ (Below.refl _ _) rfl
              case s7 =>
                refine Grow.step_on (g := 4) (b := false) (d := 16) (by rfl) (by rfl) (by rfl) (by kernel_rfl) (fun v W h => h) ?_
                intro E W ec eg ef hG hd hu R HR
                have e18 : E (.tmp 18) = .bool true := hd 6 18 (by kernel_rfl)
                clear hd hu
                go_simp
                exact HR.out _ _ (Below.refl _ _) rfl
              case s8 =>
                refine Grow.step_on (g := 7) (b := true) (d := 19) (by rfl) (by rfl) (by rfl) (by kernel_rfl) (fun v W h => h) ?_
                intro E W ec eg ef hG hd hu R HR
                have e4 : E (.tmp 4) = .pointer (some ⟨wr.heap.size, 0, none⟩) := hu 4 (by kernel_rfl)
                clear hd hu
                go_simp
                exact HR.out _ _ (Below.refl _ _) rfl
              case s9 =>
                refine Grow.step_on (g := 7) (b := true) (d := 19) (by rfl) (by rfl) (by rfl) (by kernel_rfl) (fun v W h => h) ?_
                intro E W ec eg ef hG hd hu R HR
                have e20 : E (.tmp 20) = .pointer (some ⟨wr.heap.size, 0, none⟩) := hd 8 20 (by kernel_rfl)
                clear hd hu
                have k1 := HBX.out W hG
                go_simp
                exact HR.out _ _ (Below.refl _ _) rfl
              case s10 =>
                refine Grow.step_on (g := 7) (b := true) (d := 19) (by rfl) (by rfl) (by rfl) (by kernel_rfl) (fun v W h => h) ?_
                intro E W ec eg ef hG hd hu R HR
                have e0 : E (.tmp 0) = .slice (some ⟨q, off, none⟩) n c := hu 0 (by kernel_rfl)
                clear hd hu
                go_simp
                exact HR.out _ _ (Below.refl _ _) rfl
              case s11 =>
                refine Grow.step_on (g := 7) (b := true) (d := 19) (by rfl) (by rfl) (by rfl) (by kernel_rfl) (fun v W h => h) ?_
                intro E W ec eg ef hG hd hu R HR
                have e3 : E (.tmp 3) = .int .i64 J := hu 3 (by kernel_rfl)
                clear hd hu
                go_simp
                exact HR.out _ _ (Below.refl _ _) rfl
              case s12 =>
                refine Grow.step_on (g := 7) (b := true) (d := 19) (by rfl) (by rfl) (by rfl) (by kernel_rfl) (fun v W h => h) ?_
                intro E W ec eg ef hG hd hu R HR
                have e23 : E (.tmp 23) = .int .i64 J := hd 11 23 (by kernel_rfl)
                clear hd hu
                go_simp
                exact HR.out _ _ (Below.refl _ _) rfl
              case s13 =>
                refine Grow.step_on (g := 7) (b := true) (d := 19) (by rfl) (by rfl) (by rfl) (by kernel_rfl) (fun v W h => h) ?_
                intro E W ec eg ef hG hd hu R HR
                have e22 : E (.tmp 22) = .slice (some ⟨q, off, none⟩) n c := hd 10 22 (by kernel_rfl)
                have e24 : E (.tmp 24) = .int .i64 (m : Int) := hd 12 24 (by kernel_rfl)
                clear hd hu
                have hjl := HOK.out.2
                go_simp
                first | exact HR.out _ _ (Below.refl _ _) rfl | (rw [if_pos ⟨by omega, by omega⟩]; exact HR.out _ _ (Below.refl _ _) rfl)
              case s14 =>
                refine Grow.step_on (g := 7) (b := true) (d := 19) (by rfl) (by rfl) (by rfl) (by kernel_rfl) (fun v W h => h) ?_
                intro E W ec eg ef hG hd hu R HR
                have e25 : E (.tmp 25) = .pointer (some ⟨q, off + m * 2, none⟩) := hd 13 25 (by kernel_rfl)
                clear hd hu
                go_simp
                exact HR.out _ _ (Below.refl _ _) rfl
              case s15 =>
                refine Grow.step_on (g := 7) (b := true) (d := 19) (by rfl) (by rfl) (by rfl) (by kernel_rfl) (fun v W h => h) ?_
                intro E W ec eg ef hG hd hu R HR
                have e26 : E (.tmp 26) = .pointer (some ⟨q, off + m * 2, none⟩) := hd 14 26 (by kernel_rfl)
                clear hd hu
                have k1 := HBY.out W hG
                go_simp
                exact HR.out _ _ (Below.refl _ _) rfl
              case s16 =>
                refine Grow.step_on (g := 7) (b := true) (d := 19) (by rfl) (by rfl) (by rfl) (by kernel_rfl) (fun v W h => h) ?_
                intro E W ec eg ef hG hd hu R HR
                have e21 : E (.tmp 21) = .string (st X) := hd 9 21 (by kernel_rfl)
                have e27 : E (.tmp 27) = .string (st Y) := hd 15 27 (by kernel_rfl)
                clear hd hu
                go_simp
                exact HR.out _ _ (Below.refl _ _) (by show Value.bool (_) = _; rw [hle]; rfl)
              case s17 =>
                refine Grow.step_on (g := 4) (b := false) (d := 16) (by rfl) (by rfl) (by rfl) (by kernel_rfl) (fun v W h => h) ?_
                intro E W ec eg ef hG hd hu R HR
                have e19 : E (.tmp 19) = .bool true := hd 7 19 (by kernel_rfl)
                have e28 : E (.tmp 28) = .bool true := hd 16 28 (by kernel_rfl)
                clear hd hu
                go_simp
                exact HR.out _ _ (Below.refl _ _) rfl
              case s18 =>
                refine Grow.step_in (by rfl) (by rfl) ?_
                intro E W ec eg ef hG hd hu R HR
                have e16 : E (.tmp 16) = .bool false := hd 4 16 (by kernel_rfl)
                have e29 : E (.tmp 29) = .bool true := hd 17 29 (by kernel_rfl)
                clear hd hu
                go_simp
                exact HR.out _ _ (Below.refl _ _) rfl
            case gfin =>
              intro W hG
              refine Grow.fin_dst (by rfl) ?_
              rintro _ rfl
              refine Grow.fin_dst (by rfl) ?_
              rintro _ rfl
              refine Grow.fin_dst (by rfl) ?_
              rintro _ rfl
              refine Grow.fin_dst (by rfl) ?_
              rintro _ rfl
              refine Grow.fin_dst (by rfl) ?_
              rintro _ rfl
              refine Grow.fin_dst (by rfl) ?_
              rintro _ rfl
              refine Grow.fin_dst (by rfl) ?_
              rintro _ rfl
              refine Grow.fin_dst (by rfl) ?_
              rintro _ rfl
              refine Grow.fin_dst (by rfl) ?_
              rintro _ rfl
              refine Grow.fin_dst (by rfl) ?_
              rintro _ rfl
              refine Grow.fin_dst (by rfl) ?_
              rintro _ rfl
              refine Grow.fin_dst (by rfl) ?_
              rintro _ rfl
              refine Grow.fin_dst (by rfl) ?_
              rintro _ rfl
              refine Grow.fin_dst (by rfl) ?_
              rintro _ rfl
              refine Grow.fin_dst (by rfl) ?_
              rintro _ rfl
              refine Grow.fin_dst (by rfl) ?_
              rintro _ rfl
              refine Grow.fin_dst (by rfl) ?_
              rintro _ rfl
              refine Grow.fin_dst (by rfl) ?_
              rintro _ rfl
              refine Grow.fin_dst (by rfl) ?_
              rintro _ rfl
              simp only [Act.put, List.setIfInBounds_toArray, List.set_cons_zero, List.set_cons_succ]
              refine Grow.fin_end ?_
              have HB3 := Lib.hid (H5.out.1.trans ((Grow.below_of_drew hG).mono H5.out.1.size))
              clear hG
              go_wp2_with fail
              go_ret
              exact ⟨by rw [rise_bad HST.out]; rfl, HK.out.2.trans (HB3.out.mono HK.out.2.size)⟩
      · have hno : pathOk X = false := by simpa using hok
        have HST : Hid (riseB (l.take (j + 1)) = false) := Lib.hid (by have := HST.out; rw [hno] at this; simpa using this)
        have HOK := Lib.hid hno
        clear hok hno
        refine wp_region_grow (fun W W' => Below W.heap.size W W') (Grow.nth [fun v _ => v = .pointer (some ⟨wr.heap.size, 0, none⟩), fun v _ => v = .string (st X), fun v _ => v = .bool false, fun v _ => v = .bool true, fun v _ => v = .bool true, fun v _ => v = undef, fun v _ => v = undef, fun v _ => v = undef, fun v _ => v = undef, fun v _ => v = undef, fun v _ => v = undef, fun v _ => v = undef, fun v _ => v = undef, fun v _ => v = undef, fun v _ => v = undef, fun v _ => v = undef, fun v _ => v = undef, fun v _ => v = undef, fun v _ => v = .bool true]) 32 (by kernel_rfl) (by kernel_rfl) (by rfl) (fun W => Below.refl _ W) (fun _ _ _ h1 h2 => h1.trans (h2.mono h1.size)) (Grow.mono_nth ?gmono) ?gsteps ?gfin
        case gmono => exact ⟨fun _ _ _ h _ => h, fun _ _ _ h _ => h, fun _ _ _ h _ => h, fun _ _ _ h _ => h, fun _ _ _ h _ => h, fun _ _ _ h _ => h, fun _ _ _ h _ => h, fun _ _ _ h _ => h, fun _ _ _ h _ => h, fun _ _ _ h _ => h, fun _ _ _ h _ => h, fun _ _ _ h _ => h, fun _ _ _ h _ => h, fun _ _ _ h _ => h, fun _ _ _ h _ => h, fun _ _ _ h _ => h, fun _ _ _ h _ => h, fun _ _ _ h _ => h, fun _ _ _ h _ => h, trivial⟩
        case gsteps =>
          show Grow.allBelow _ 19
          refine And.intro ?_ ?s18
          refine And.intro ?_ ?s17
          refine And.intro ?_ ?s16
          refine And.intro ?_ ?s15
          refine And.intro ?_ ?s14
          refine And.intro ?_ ?s13
          refine And.intro ?_ ?s12
          refine And.intro ?_ ?s11
          refine And.intro ?_ ?s10
          refine And.intro ?_ ?s9
          refine And.intro ?_ ?s8
          refine And.intro ?_ ?s7
          refine And.intro ?_ ?s6
          refine And.intro ?_ ?s5
          refine And.intro ?_ ?s4
          refine And.intro ?_ ?s3
          refine And.intro ?_ ?s2
          refine And.intro ?_ ?s1
          refine And.intro ?_ ?s0
          exact trivial
          case s0 =>
            refine Grow.step_in (by rfl) (by rfl) ?_
            intro E W ec eg ef hG hd hu R HR
            have e4 : E (.tmp 4) = .pointer (some ⟨wr.heap.size, 0, none⟩) := hu 4 (by kernel_rfl)
            clear hd hu
            go_simp
            exact HR.out _ _ (Below.refl _ _) rfl
          case s1 =>
            refine Grow.step_in (by rfl) (by rfl) ?_
            intro E W ec eg ef hG hd hu R HR
            have e12 : E (.tmp 12) = .pointer (some ⟨wr.heap.size, 0, none⟩) := hd 0 12 (by kernel_rfl)
            clear hd hu
            have k1 := HBX.out W hG
            go_simp
            exact HR.out _ _ (Below.refl _ _) rfl
          case s2 =>
            refine Grow.step_in (by rfl) (by rfl) ?_
            intro E W ec eg ef hG hd hu R HR
            have e13 : E (.tmp 13) = .string (st X) := hd 1 13 (by kernel_rfl)
            clear hd hu
            have hpc := path_any X HV.out W
            rw [HOK.out] at hpc
            go_simp
            refine hpc.mono ?_
            rintro _ _ ⟨rfl, hbb⟩
            exact ⟨_, rfl, HR.out _ _ hbb rfl⟩
          case s3 =>
            refine Grow.step_in (by rfl) (by rfl) ?_
            intro E W ec eg ef hG hd hu R HR
            have e14 : E (.tmp 14) = .bool false := hd 2 14 (by kernel_rfl)
            clear hd hu
            go_simp
            exact HR.out _ _ (Below.refl _ _) rfl
          case s4 =>
            refine Grow.step_in (by rfl) (by rfl) ?_
            intro E W ec eg ef hG hd hu R HR
            have e15 : E (.tmp 15) = .bool true := hd 3 15 (by kernel_rfl)
            clear hd hu
            go_simp
            exact HR.out _ _ (Below.refl _ _) rfl
          case s5 =>
            exact Grow.step_off (g := 4) (b := false) (b' := true) (d := 16) (by rfl) (by rfl) (by rfl) (by kernel_rfl) (fun v W h => h) (by decide) (fun _ => rfl)
          case s6 =>
            exact Grow.step_off (g := 4) (b := false) (b' := true) (d := 16) (by rfl) (by rfl) (by rfl) (by kernel_rfl) (fun v W h => h) (by decide) (fun _ => rfl)
          case s7 =>
            exact Grow.step_off (g := 4) (b := false) (b' := true) (d := 16) (by rfl) (by rfl) (by rfl) (by kernel_rfl) (fun v W h => h) (by decide) (fun _ => rfl)
          case s8 =>
            exact Grow.step_far (g := 7) (b := true) (d := 19) (by rfl) (by rfl) (by rfl) (by kernel_rfl) (fun v W h => h) (fun _ => rfl)
          case s9 =>
            exact Grow.step_far (g := 7) (b := true) (d := 19) (by rfl) (by rfl) (by rfl) (by kernel_rfl) (fun v W h => h) (fun _ => rfl)
          case s10 =>
            exact Grow.step_far (g := 7) (b := true) (d := 19) (by rfl) (by rfl) (by rfl) (by kernel_rfl) (fun v W h => h) (fun _ => rfl)
          case s11 =>
            exact Grow.step_far (g := 7) (b := true) (d := 19) (by rfl) (by rfl) (by rfl) (by kernel_rfl) (fun v W h => h) (fun _ => rfl)
          case s12 =>
            exact Grow.step_far (g := 7) (b := true) (d := 19) (by rfl) (by rfl) (by rfl) (by kernel_rfl) (fun v W h => h) (fun _ => rfl)
          case s13 =>
            exact Grow.step_far (g := 7) (b := true) (d := 19) (by rfl) (by rfl) (by rfl) (by kernel_rfl) (fun v W h => h) (fun _ => rfl)
          case s14 =>
            exact Grow.step_far (g := 7) (b := true) (d := 19) (by rfl) (by rfl) (by rfl) (by kernel_rfl) (fun v W h => h) (fun _ => rfl)
          case s15 =>
            exact Grow.step_far (g := 7) (b := true) (d := 19) (by rfl) (by rfl) (by rfl) (by kernel_rfl) (fun v W h => h) (fun _ => rfl)
          case s16 =>
            exact Grow.step_far (g := 7) (b := true) (d := 19) (by rfl) (by rfl) (by rfl) (by kernel_rfl) (fun v W h => h) (fun _ => rfl)
          case s17 =>
            exact Grow.step_off (g := 4) (b := false) (b' := true) (d := 16) (by rfl) (by rfl) (by rfl) (by kernel_rfl) (fun v W h => h) (by decide) (fun _ => rfl)
          case s18 =>
            refine Grow.step_in (by rfl) (by rfl) ?_
            intro E W ec eg ef hG hd hu R HR
            have e16 : E (.tmp 16) = .bool true := hd 4 16 (by kernel_rfl)
            have e29 : E (.tmp 29) = undef := hd 17 29 (by kernel_rfl)
            clear hd hu
            go_simp
            exact HR.out _ _ (Below.refl _ _) rfl
        case gfin =>
          intro W hG
          refine Grow.fin_dst (by rfl) ?_
          rintro _ rfl
          refine Grow.fin_dst (by rfl) ?_
          rintro _ rfl
          refine Grow.fin_dst (by rfl) ?_
          rintro _ rfl
          refine Grow.fin_dst (by rfl) ?_
          rintro _ rfl
          refine Grow.fin_dst (by rfl) ?_
          rintro _ rfl
          refine Grow.fin_dst (by rfl) ?_
          rintro _ rfl
          refine Grow.fin_dst (by rfl) ?_
          rintro _ rfl
          refine Grow.fin_dst (by rfl) ?_
          rintro _ rfl
          refine Grow.fin_dst (by rfl) ?_
          rintro _ rfl
          refine Grow.fin_dst (by rfl) ?_
          rintro _ rfl
          refine Grow.fin_dst (by rfl) ?_
          rintro _ rfl
          refine Grow.fin_dst (by rfl) ?_
          rintro _ rfl
          refine Grow.fin_dst (by rfl) ?_
          rintro _ rfl
          refine Grow.fin_dst (by rfl) ?_
          rintro _ rfl
          refine Grow.fin_dst (by rfl) ?_
          rintro _ rfl
          refine Grow.fin_dst (by rfl) ?_
          rintro _ rfl
          refine Grow.fin_dst (by rfl) ?_
          rintro _ rfl
          refine Grow.fin_dst (by rfl) ?_
          rintro _ rfl
          refine Grow.fin_dst (by rfl) ?_
          rintro _ rfl
          simp only [Act.put, List.setIfInBounds_toArray, List.set_cons_zero, List.set_cons_succ]
          refine Grow.fin_end ?_
          have HB3 := Lib.hid (H5.out.1.trans ((Grow.below_of_drew hG).mono H5.out.1.size))
          clear hG
          go_wp2_with fail
          go_ret
          exact ⟨by rw [rise_bad HST.out]; rfl, HK.out.2.trans (HB3.out.mono HK.out.2.size)⟩
    · have HE : Hid (riseB l = true) := Lib.hid (by
        have h1 := HK.out.1
        rwa [List.take_of_length_le (by have := HL.out.2.1; omega)] at h1)
      have hlt' : ¬ (j : Int) < (n : Int) := by omega
      clear hlt
      go_wp2_with fail
      go_ret
      exact ⟨by rw [HE.out]; rfl, HK.out.2⟩
end Go.Proofs.YtpcoiakdbfihlaaDoor

/-! Files: a set of strings: map[string]struct{}. -/
namespace Go.Proofs.YtpcoiakdbfihlaaDoor
open Go.RowKit Go.Maps Codec

theorem zero_unit (w : World) : (zeroValue 91).run Tryd.prog w = .ok (.agg #[]) w := by kernel_rfl
/-- BLOCK b IS A SET OF JUST THESE NAMES. -/
def Sts (w : World) (b : Nat) (t : List (List UInt8)) : Prop :=
  ∃ D, w.ownsMap Tryd.prog 9 rv b t.length D ∧ (∀ k, Maps.has D (.string k) = decide (k ∈ t)) ∧ ∀ k, k ∈ t → ∀ z, D.atKey (.string k) z = .held (.agg #[])
variable {w w' : World} {b : Nat} {t : List (List UInt8)}
theorem Sts.lt (h : Sts w b t) : b < w.heap.size := by
  obtain ⟨D, ho, _⟩ := h
  exact ho.lt
theorem Sts.kept (h : Sts w b t) (hb : w'.heap[b]? = w.heap[b]?) : Sts w' b t := by
  obtain ⟨D, ho, h1, h2⟩ := h
  exact ⟨D, ownsMap_kept ho hb, h1, h2⟩
theorem made_set (w : World) : Sts (w.alloc (.map #[] 0)) w.heap.size [] :=
  ⟨.map [], World.ownsMap_made _ _ _ _, fun _ => rfl, fun _ h => by simp at h⟩
theorem str_key9 (k : List UInt8) (h : k.length ≤ maxLen) : keyOf Tryd.prog 9 (.string (st k)) = some (.string k) := by
  have h1 := Go.WideMaps.keyOf_string_mk (P := Tryd.prog) (k := 9) Tryd.underlying9 (s := st k) (by rw [st_size]; exact h)
  simpa [st] using h1
/-- 'm[k] = struct{}{}'. -/
theorem Sts.put (h : Sts w b t) {k : List UInt8} (hk : k.length ≤ maxLen) (hl : t.length ≤ 10000000000000) :
    ∃ w', (Instr.mapUpdate 90 (.map (some b)) (.string (st k)) (.agg #[])).run Tryd.prog w = .ok () w' ∧ Sts w' b (k :: t) ∧ w.mapTurned w' b := by
  obtain ⟨D, ho, h1, h2⟩ := h
  obtain ⟨w', hrun, ho', hm⟩ := ho.store (t := 90) (e := 91) mlaw Tryd.underlying90 (by unfold maxLen; omega) (str_key9 k hk) (d := .held (.agg #[])) (ps := []) rfl
  have him := ho.isMap
  refine ⟨w', hrun, ⟨_, ho', fun x => ?_, fun x hx z => ?_⟩, hm⟩
  · by_cases e : x = k
    · subst e
      rw [has_put_same him (str_lit x)]
      simp
    · rw [has_put_other (by simpa using e), h1]
      simp [e]
  · by_cases e : x = k
    · subst e
      exact atKey_put_same him (str_lit x) _ _
    · rw [atKey_put_other (by simpa using e)]
      exact h2 x ((List.mem_cons.1 hx).resolve_left e) z
/-- '_, ok := m[k]'. -/
theorem Sts.look (h : Sts w b t) {k : List UInt8} (hk : k.length ≤ maxLen) :
    (Instr.lookup 90 (.map (some b)) (.string (st k)) true).run Tryd.prog w = .ok (.tuple #[.agg #[], .bool (decide (k ∈ t))]) w := by
  obtain ⟨D, ho, h1, h2⟩ := h
  obtain ⟨v, ps, hrun, hv⟩ := ho.look_ok (t := 90) (e := 91) mlaw Tryd.underlying90 (zero_unit w) (zd := .held (.agg #[])) (zp := []) rfl (str_key9 k hk)
  rw [h1] at hrun
  have hve : v = .agg #[] := by
    unfold rv at hv
    simp only [Option.some.injEq, Prod.mk.injEq] at hv
    by_cases hm : k ∈ t
    · rw [h2 k hm] at hv
      have e1 := hv.1
      simpa only [DataW.held.injEq] using e1
    · have hno : Maps.has D (.string k) = false := by rw [h1]; exact decide_eq_false hm
      rw [atKey_of_not_has hno] at hv
      have e1 := hv.1
      simpa only [DataW.held.injEq] using e1
  rw [hve] at hrun
  exact hrun
theorem store_unit (W : World) (g : Nat) : (Instr.storeAt 91 (.pointer (some ⟨g, 0, none⟩)) (.agg #[])).run Tryd.prog W = .ok () W := by kernel_rfl
end Go.Proofs.YtpcoiakdbfihlaaDoor
