/-
  The statement CutterAlone: its walk.
-/
import Derived.Test.YtcmdiclbbcdceaaCutAwake
import Derived.Test.YtcmdiclbbcdceaaGrow
namespace Go.Proofs.Ytcmdiclbbcdceaa
open Go.RowKit

def CLo (w2 : World) (N : Nat) (i : Value) (wr : World) : Prop := ∃ i' : Nat, i' ≤ N ∧ i = .int .i64 (i' : Int) ∧ Below w2.heap.size w2 wr

set_option maxHeartbeats 4000000 in
theorem walk_calone {w : World} {S : Nat → Prop} {A : Option Addr} {n c : Nat} {b : List UInt8} (h : Byt w S A n c b) {x z : Int} (hx : (Lit.int .u8 x).wf = true) (hz : (Lit.int .u8 z).wf = true) :
    Calls Try.prog 7 #[.slice A n c, .int .u8 x, .int .u8 z] w fun e w' => e = .returned (.bool true) ∧ Below w.heap.size w w' := by
  have hxb := bounds_u8 hx
  have hzb := bounds_u8 hz
  have haw := cawake_true w
  have hln := h.len
  have H0 := Lib.hid (And.intro h (And.intro hxb hzb))
  clear h hx hz
  by_cases h1 : n ≤ 1000
  · have h1' : ¬ (1000 : Int) < (n : Int) := by omega
    have HN := Lib.hid (And.intro h1 hln)
    obtain ⟨KK, hKK⟩ : ∃ KK : Nat, x + 1 = (KK : Int) := ⟨(x + 1).toNat, by omega⟩
    have hw1 := IntWalk.i64_in x (by omega)
    have hw2 : IntKind.i64.wrap (x + 1) = (KK : Int) := by rw [IntWalk.i64_in (x + 1) (by omega)]; exact hKK
    have hw5 : z.tmod 24 = z % 24 := Int.tmod_eq_emod_of_nonneg (by omega)
    have hw6 := IntWalk.wrap64_in (z % 24) (by omega)
    have hw7 := IntWalk.wrap64_in (z % 24 + 1) (by omega)
    obtain ⟨BI, hBI⟩ : ∃ BI, BI = z % 24 + 1 := ⟨_, rfl⟩
    have HOK : Hid (cutErr (KK : Int) (KK : Int) BI = 0 ∧ 1 ≤ KK ∧ KK ≤ 256) := Lib.hid ⟨by unfold cutErr; rw [if_neg (by omega)], by omega, by omega⟩
    have HBI := Lib.hid hBI
    clear h1 hln hxb hzb hKK hBI
    go_enter Try.func7, Try.ntmps7
    go_wp2_with (go_at_call 8; refine haw.mono ?_; clear haw; rintro _ w1 ⟨rfl, hb1⟩; have HB1 := Lib.hid hb1; clear hb1)
    simp only [← HBI.out]
    have hba : Below w1.heap.size w1 (w1.alloc (.cells #[.int .i64 (KK : Int), .int .i64 (KK : Int), .int .i64 BI] 24)) := (Below.refl _ _).alloc (Nat.le_refl _) _
    have hxa := heap_alloc_new w1 (.cells #[.int .i64 (KK : Int), .int .i64 (KK : Int), .int .i64 BI] 24)
    have hbw := HB1.out.trans (hba.mono HB1.out.size)
    refine (cutpieces_any (H0.out.1.below hbw) (by have := HN.out.1; omega) (KK : Int) (KK : Int) BI).mono ?_
    rintro _ w2 ⟨A2, N, c2, rfl, hr, hb2⟩
    have hok := HOK.out.1
    obtain ⟨PP, hPP⟩ : ∃ PP, PP = pieV (KK : Int) (KK : Int) BI b := ⟨_, rfl⟩
    rw [← hPP] at hr
    rw [hok]
    have hx2 := (hb2.block _ (lt_of_cells hxa)).trans hxa
    have H2 := Lib.hid (And.intro (hbw.trans (hb2.mono hbw.size)) hr)
    have hc0 : w2.cell? ⟨w1.heap.size, 0, none⟩ = some (.int .i64 (KK : Int)) := cell_of_cells hx2 0
    have hc1 : w2.cell? ⟨w1.heap.size, 1, none⟩ = some (.int .i64 (KK : Int)) := cell_of_cells hx2 1
    have hc2 : w2.cell? ⟨w1.heap.size, 2, none⟩ = some (.int .i64 BI) := cell_of_cells hx2 2
    have hal := alone_at (k := KK) (bits := BI.toNat) (by have := cfgOf_ok hok; unfold cfgOf at this; rwa [Int.toNat_natCast] at this) b
    have HP : Hid (PP.length = N ∧ N = (n + KK - 1) / KK ∧ N ≤ 1000 ∧ ∀ i, i + 1 < N → (PP[i]?.getD []).length = KK) := Lib.hid (by
      have hl := hr.len
      have h4 := HN.out.1
      have h5 := HN.out.2
      have h7 := endsC_short (cfgOf (KK : Int) (KK : Int) BI) b
      rw [hPP, pieV_ok hok] at hl ⊢
      unfold cfgOf at hl h7 ⊢
      rw [Int.toNat_natCast] at hl h7 ⊢
      rw [piecesC_count] at hl ⊢
      rw [← h5]
      exact ⟨hl, by rw [← hl]; exact hal.1, by omega, fun i hi => hal.2 i (by omega)⟩)
    have hp2 := cutpieces_any (H0.out.1.below H2.out.1) (by have := HN.out.1; omega) (KK : Int) (KK : Int) BI
    rw [hok, ← hPP] at hp2
    clear hba hxa hbw hr hb2 hok hPP hx2 hal hw1 hw2 hw5 hw6 hw7
    generalize w1.heap.size = q at *
    go_wp2_with fail
    refine hp2.mono ?_
    rintro _ w3 ⟨A3, N3, c3, rfl, hr3, hb3⟩
    obtain rfl : N = N3 := by have h1 := hr3.len; have h2 := HP.out.1; omega
    have H3 := Lib.hid (And.intro (H2.out.1.trans (hb3.mono H2.out.1.size)) (And.intro (H2.out.2.below hb3) hr3))
    clear hp2 hb3 hr3 hc0 hc1 hc2
    obtain ⟨SK, hSK⟩ : ∃ SK : Nat, SK = n + KK := ⟨_, rfl⟩
    obtain ⟨TK, hTK⟩ : ∃ TK : Nat, TK = n + KK - 1 := ⟨_, rfl⟩
    have hs1 : IntKind.i64.wrap ((n : Int) + (KK : Int)) = (SK : Int) := by rw [IntWalk.i64_in _ (by have := HN.out.1; have := HOK.out.2.2; omega)]; omega
    have hs2 : IntKind.i64.wrap ((SK : Int) - 1) = (TK : Int) := by rw [IntWalk.i64_in _ (by have := HN.out.1; have := HOK.out.2.1; have := HOK.out.2.2; omega)]; have := HOK.out.2.1; omega
    have hk0 : ((KK : Int) == 0) = false := by have := HOK.out.2.1; simp; omega
    have hk1 : ¬ (KK : Int) = 0 := by have := HOK.out.2.1; omega
    have hdv : wrap64 ((TK : Int) / (KK : Int)) = (N : Int) := by
      rw [IntWalk.wrap64_in _ (by
        have h1 : (TK : Int) / (KK : Int) = (N : Int) := by rw [HP.out.2.1, hTK]; simp
        have h2 := HP.out.2.2.1
        omega), HP.out.2.1, hTK]
      simp
    clear hSK hTK
    go_wp2_with fail
    clear hs1 hs2 hk0 hk1 hdv
    go_loopw [14] (fun i wr => CLo w3 N i wr) (fun i _ => N - (intOf i).toNat)
    case atStart => exact ⟨0, Nat.zero_le _, rfl, Below.refl _ _⟩
    case round =>
      obtain ⟨i', hi', rfl, hbr⟩ := hrel
      have HR := Lib.hid (And.intro hi' hbr)
      by_cases hlt : i' < N
      · have hlt' : (i' : Int) < (N : Int) := by omega
        obtain ⟨q2, o2, rfl, _, hpq, hp⟩ := (H3.out.2.1.below hbr).row (by omega)
        obtain ⟨q3, o3, rfl, _, hrq, hr⟩ := (H3.out.2.2.below hbr).row (by omega)
        obtain ⟨A5, n5, c5, hp, hpb⟩ := hp i' hlt
        obtain ⟨A6, n6, c6, hr, hrb⟩ := hr i' hlt
        have hz3 := HP.out.2.2.2 i'
        obtain ⟨PC, hPC⟩ : ∃ PC, PC = PP[i']?.getD [] := ⟨_, rfl⟩
        rw [← hPC] at hpb hrb hz3
        have hl5 := hpb.len
        rw [hl5] at hz3
        have HC : Hid (∀ W, Below wr.drew.heap.size wr.drew W → W.cell? ⟨q2, o2 + i', none⟩ = some (.slice A5 n5 c5) ∧ W.cell? ⟨q3, o3 + i', none⟩ = some (.slice A6 n6 c6) ∧ (convert 22 9 (.slice A5 n5 c5)).run Try.prog W = .ok (.string (st PC)) W ∧ (convert 22 9 (.slice A6 n6 c6)).run Try.prog W = .ok (.string (st PC)) W) := Lib.hid fun W hW => by
          have hW2 : Below wr.heap.size wr W := Grow.below_of_drew hW
          exact ⟨(hW2.cell (p := ⟨_, _, none⟩) hpq).trans hp, (hW2.cell (p := ⟨_, _, none⟩) hrq).trans hr, byt_string (hpb.below hW2), byt_string (hrb.below hW2)⟩
        have hadd := IntWalk.i64_in ((i' : Int) + 1) (by have := HP.out.2.2.1; omega)
        have hsub := IntWalk.i64_in ((N : Int) - 1) (by have := HP.out.2.2.1; omega)
        by_cases hlast : i' + 1 < N
        · have hg : decide ((i' : Int) < (N : Int) - 1) = true := decide_eq_true (by omega)
          have hne5 : ((n5 : Int) != (KK : Int)) = false := by rw [hz3 hlast]; simp
          clear hi' hbr hp hr hpb hrb hz3 hPC hl5 hpq hrq hlast
          go_wp2_with fail
          refine wp_region_grow (fun W W' => Below W.heap.size W W') (Grow.nth [fun v _ => v = .int .i64 (i' : Int), fun v _ => v = .slice (some ⟨q2, o2, none⟩) N c2, fun v _ => v = .int .i64 (N : Int), fun v _ => v = .int .i64 ((N : Int) - 1), fun v _ => v = .bool true, fun v _ => v = .bool true, fun v _ => v = .slice (some ⟨q2, o2, none⟩) N c2, fun v _ => v = .int .i64 (i' : Int), fun v _ => v = .pointer (some ⟨q2, o2 + i', none⟩), fun v _ => v = .slice A5 n5 c5, fun v _ => v = .int .i64 (n5 : Int), fun v _ => v = .int .i64 (KK : Int), fun v _ => v = .bool false, fun v _ => v = .bool false, fun v _ => v = .bool false, fun v _ => v = .slice (some ⟨q2, o2, none⟩) N c2, fun v _ => v = .int .i64 (i' : Int), fun v _ => v = .pointer (some ⟨q2, o2 + i', none⟩), fun v _ => v = .slice A5 n5 c5, fun v _ => v = .string (st PC), fun v _ => v = .slice (some ⟨q3, o3, none⟩) N c3, fun v _ => v = .int .i64 (i' : Int), fun v _ => v = .pointer (some ⟨q3, o3 + i', none⟩), fun v _ => v = .slice A6 n6 c6, fun v _ => v = .string (st PC), fun v _ => v = .bool false, fun v _ => v = .bool false]) 101 (by kernel_rfl) (by kernel_rfl) (by rfl) (fun W => Below.refl _ W) (fun _ _ _ h1 h2 => h1.trans (h2.mono h1.size)) (Grow.mono_nth ?gmono) ?gsteps ?gfin
          case gmono => exact ⟨fun _ _ _ h _ => h, fun _ _ _ h _ => h, fun _ _ _ h _ => h, fun _ _ _ h _ => h, fun _ _ _ h _ => h, fun _ _ _ h _ => h, fun _ _ _ h _ => h, fun _ _ _ h _ => h, fun _ _ _ h _ => h, fun _ _ _ h _ => h, fun _ _ _ h _ => h, fun _ _ _ h _ => h, fun _ _ _ h _ => h, fun _ _ _ h _ => h, fun _ _ _ h _ => h, fun _ _ _ h _ => h, fun _ _ _ h _ => h, fun _ _ _ h _ => h, fun _ _ _ h _ => h, fun _ _ _ h _ => h, fun _ _ _ h _ => h, fun _ _ _ h _ => h, fun _ _ _ h _ => h, fun _ _ _ h _ => h, fun _ _ _ h _ => h, fun _ _ _ h _ => h, fun _ _ _ h _ => h, trivial⟩
          case gsteps =>
            show Grow.allBelow _ 27
            refine And.intro ?_ ?s26
            refine And.intro ?_ ?s25
            refine And.intro ?_ ?s24
            refine And.intro ?_ ?s23
            refine And.intro ?_ ?s22
            refine And.intro ?_ ?s21
            refine And.intro ?_ ?s20
            refine And.intro ?_ ?s19
            refine And.intro ?_ ?s18
            refine And.intro ?_ ?s17
            refine And.intro ?_ ?s16
            refine And.intro ?_ ?s15
            refine And.intro ?_ ?s14
            refine And.intro ?_ ?s13
            refine And.intro ?_ ?s12
            refine And.intro ?_ ?s11
            refine And.intro ?_ ?s10
            refine And.intro ?_ ?s9
            refine And.intro ?_ ?s8
            refine And.intro ?_ ?s7
            refine And.intro ?_ ?s6
            refine And.intro ?_ ?s5
            refine And.intro ?_ ?s4
            refine And.intro ?_ ?s3
            refine And.intro ?_ ?s2
            refine And.intro ?_ ?s1
            refine And.intro ?_ ?s0
            exact trivial
            case s0 =>
              refine Grow.step_in (by rfl) (by rfl) ?_
              intro E W ec eg ef hG hd hu R HR
              have e14 : E (.tmp 14) = .int .i64 (i' : Int) := hu 14 (by kernel_rfl)
              clear hd hu
              go_simp
              exact HR.out _ _ (Below.refl _ _) rfl
            case s1 =>
              refine Grow.step_in (by rfl) (by rfl) ?_
              intro E W ec eg ef hG hd hu R HR
              have e10 : E (.tmp 10) = .slice (some ⟨q2, o2, none⟩) N c2 := hu 10 (by kernel_rfl)
              clear hd hu
              go_simp
              exact HR.out _ _ (Below.refl _ _) rfl
            case s2 =>
              refine Grow.step_in (by rfl) (by rfl) ?_
              intro E W ec eg ef hG hd hu R HR
              have e75 : E (.tmp 75) = .slice (some ⟨q2, o2, none⟩) N c2 := hd 1 75 (by kernel_rfl)
              clear hd hu
              go_simp
              exact HR.out _ _ (Below.refl _ _) rfl
            case s3 =>
              refine Grow.step_in (by rfl) (by rfl) ?_
              intro E W ec eg ef hG hd hu R HR
              have e76 : E (.tmp 76) = .int .i64 (N : Int) := hd 2 76 (by kernel_rfl)
              clear hd hu
              go_simp
              exact HR.out _ _ (Below.refl _ _) rfl
            case s4 =>
              refine Grow.step_in (by rfl) (by rfl) ?_
              intro E W ec eg ef hG hd hu R HR
              have e74 : E (.tmp 74) = .int .i64 (i' : Int) := hd 0 74 (by kernel_rfl)
              have e77 : E (.tmp 77) = .int .i64 ((N : Int) - 1) := hd 3 77 (by kernel_rfl)
              clear hd hu
              go_simp
              first | exact HR.out _ _ (Below.refl _ _) rfl | exact HR.out _ _ (Below.refl _ _) (show Value.bool _ = Value.bool true by rw [hg])
            case s5 =>
              refine Grow.step_in (by rfl) (by rfl) ?_
              intro E W ec eg ef hG hd hu R HR
              have e78 : E (.tmp 78) = .bool true := hd 4 78 (by kernel_rfl)
              clear hd hu
              go_simp
              exact HR.out _ _ (Below.refl _ _) rfl
            case s6 =>
              refine Grow.step_on (g := 5) (b := true) (d := 79) (by rfl) (by rfl) (by rfl) (by kernel_rfl) (fun v W h => h) ?_
              intro E W ec eg ef hG hd hu R HR
              have e10 : E (.tmp 10) = .slice (some ⟨q2, o2, none⟩) N c2 := hu 10 (by kernel_rfl)
              clear hd hu
              go_simp
              exact HR.out _ _ (Below.refl _ _) rfl
            case s7 =>
              refine Grow.step_on (g := 5) (b := true) (d := 79) (by rfl) (by rfl) (by rfl) (by kernel_rfl) (fun v W h => h) ?_
              intro E W ec eg ef hG hd hu R HR
              have e14 : E (.tmp 14) = .int .i64 (i' : Int) := hu 14 (by kernel_rfl)
              clear hd hu
              go_simp
              exact HR.out _ _ (Below.refl _ _) rfl
            case s8 =>
              refine Grow.step_on (g := 5) (b := true) (d := 79) (by rfl) (by rfl) (by rfl) (by kernel_rfl) (fun v W h => h) ?_
              intro E W ec eg ef hG hd hu R HR
              have e80 : E (.tmp 80) = .slice (some ⟨q2, o2, none⟩) N c2 := hd 6 80 (by kernel_rfl)
              have e81 : E (.tmp 81) = .int .i64 (i' : Int) := hd 7 81 (by kernel_rfl)
              clear hd hu
              go_simp
              first | exact HR.out _ _ (Below.refl _ _) rfl | (rw [if_pos ⟨by omega, by omega⟩]; exact HR.out _ _ (Below.refl _ _) rfl) | (rw [if_pos (by omega)]; exact HR.out _ _ (Below.refl _ _) rfl)
            case s9 =>
              refine Grow.step_on (g := 5) (b := true) (d := 79) (by rfl) (by rfl) (by rfl) (by kernel_rfl) (fun v W h => h) ?_
              intro E W ec eg ef hG hd hu R HR
              have e82 : E (.tmp 82) = .pointer (some ⟨q2, o2 + i', none⟩) := hd 8 82 (by kernel_rfl)
              clear hd hu
              obtain ⟨k1, k2, k3, k4⟩ := HC.out W hG
              go_simp
              exact HR.out _ _ (Below.refl _ _) rfl
            case s10 =>
              refine Grow.step_on (g := 5) (b := true) (d := 79) (by rfl) (by rfl) (by rfl) (by kernel_rfl) (fun v W h => h) ?_
              intro E W ec eg ef hG hd hu R HR
              have e83 : E (.tmp 83) = .slice A5 n5 c5 := hd 9 83 (by kernel_rfl)
              clear hd hu
              go_simp
              exact HR.out _ _ (Below.refl _ _) rfl
            case s11 =>
              refine Grow.step_on (g := 5) (b := true) (d := 79) (by rfl) (by rfl) (by rfl) (by kernel_rfl) (fun v W h => h) ?_
              intro E W ec eg ef hG hd hu R HR
              have e8 : E (.tmp 8) = .int .i64 (KK : Int) := hu 8 (by kernel_rfl)
              clear hd hu
              go_simp
              exact HR.out _ _ (Below.refl _ _) rfl
            case s12 =>
              refine Grow.step_on (g := 5) (b := true) (d := 79) (by rfl) (by rfl) (by rfl) (by kernel_rfl) (fun v W h => h) ?_
              intro E W ec eg ef hG hd hu R HR
              have e84 : E (.tmp 84) = .int .i64 (n5 : Int) := hd 10 84 (by kernel_rfl)
              have e85 : E (.tmp 85) = .int .i64 (KK : Int) := hd 11 85 (by kernel_rfl)
              clear hd hu
              go_simp
              exact HR.out _ _ (Below.refl _ _) rfl
            case s13 =>
              refine Grow.step_in (by rfl) (by rfl) ?_
              intro E W ec eg ef hG hd hu R HR
              have e79 : E (.tmp 79) = .bool true := hd 5 79 (by kernel_rfl)
              have e86 : E (.tmp 86) = .bool false := hd 12 86 (by kernel_rfl)
              clear hd hu
              go_simp
              exact HR.out _ _ (Below.refl _ _) rfl
            case s14 =>
              refine Grow.step_in (by rfl) (by rfl) ?_
              intro E W ec eg ef hG hd hu R HR
              have e87 : E (.tmp 87) = .bool false := hd 13 87 (by kernel_rfl)
              clear hd hu
              go_simp
              exact HR.out _ _ (Below.refl _ _) rfl
            case s15 =>
              refine Grow.step_on (g := 14) (b := false) (d := 88) (by rfl) (by rfl) (by rfl) (by kernel_rfl) (fun v W h => h) ?_
              intro E W ec eg ef hG hd hu R HR
              have e10 : E (.tmp 10) = .slice (some ⟨q2, o2, none⟩) N c2 := hu 10 (by kernel_rfl)
              clear hd hu
              go_simp
              exact HR.out _ _ (Below.refl _ _) rfl
            case s16 =>
              refine Grow.step_on (g := 14) (b := false) (d := 88) (by rfl) (by rfl) (by rfl) (by kernel_rfl) (fun v W h => h) ?_
              intro E W ec eg ef hG hd hu R HR
              have e14 : E (.tmp 14) = .int .i64 (i' : Int) := hu 14 (by kernel_rfl)
              clear hd hu
              go_simp
              exact HR.out _ _ (Below.refl _ _) rfl
            case s17 =>
              refine Grow.step_on (g := 14) (b := false) (d := 88) (by rfl) (by rfl) (by rfl) (by kernel_rfl) (fun v W h => h) ?_
              intro E W ec eg ef hG hd hu R HR
              have e89 : E (.tmp 89) = .slice (some ⟨q2, o2, none⟩) N c2 := hd 15 89 (by kernel_rfl)
              have e90 : E (.tmp 90) = .int .i64 (i' : Int) := hd 16 90 (by kernel_rfl)
              clear hd hu
              go_simp
              first | exact HR.out _ _ (Below.refl _ _) rfl | (rw [if_pos ⟨by omega, by omega⟩]; exact HR.out _ _ (Below.refl _ _) rfl) | (rw [if_pos (by omega)]; exact HR.out _ _ (Below.refl _ _) rfl)
            case s18 =>
              refine Grow.step_on (g := 14) (b := false) (d := 88) (by rfl) (by rfl) (by rfl) (by kernel_rfl) (fun v W h => h) ?_
              intro E W ec eg ef hG hd hu R HR
              have e91 : E (.tmp 91) = .pointer (some ⟨q2, o2 + i', none⟩) := hd 17 91 (by kernel_rfl)
              clear hd hu
              obtain ⟨k1, k2, k3, k4⟩ := HC.out W hG
              go_simp
              exact HR.out _ _ (Below.refl _ _) rfl
            case s19 =>
              refine Grow.step_on (g := 14) (b := false) (d := 88) (by rfl) (by rfl) (by rfl) (by kernel_rfl) (fun v W h => h) ?_
              intro E W ec eg ef hG hd hu R HR
              have e92 : E (.tmp 92) = .slice A5 n5 c5 := hd 18 92 (by kernel_rfl)
              clear hd hu
              obtain ⟨k1, k2, k3, k4⟩ := HC.out W hG
              go_simp
              exact HR.out _ _ (Below.refl _ _) rfl
            case s20 =>
              refine Grow.step_on (g := 14) (b := false) (d := 88) (by rfl) (by rfl) (by rfl) (by kernel_rfl) (fun v W h => h) ?_
              intro E W ec eg ef hG hd hu R HR
              have e12 : E (.tmp 12) = .slice (some ⟨q3, o3, none⟩) N c3 := hu 12 (by kernel_rfl)
              clear hd hu
              go_simp
              exact HR.out _ _ (Below.refl _ _) rfl
            case s21 =>
              refine Grow.step_on (g := 14) (b := false) (d := 88) (by rfl) (by rfl) (by rfl) (by kernel_rfl) (fun v W h => h) ?_
              intro E W ec eg ef hG hd hu R HR
              have e14 : E (.tmp 14) = .int .i64 (i' : Int) := hu 14 (by kernel_rfl)
              clear hd hu
              go_simp
              exact HR.out _ _ (Below.refl _ _) rfl
            case s22 =>
              refine Grow.step_on (g := 14) (b := false) (d := 88) (by rfl) (by rfl) (by rfl) (by kernel_rfl) (fun v W h => h) ?_
              intro E W ec eg ef hG hd hu R HR
              have e94 : E (.tmp 94) = .slice (some ⟨q3, o3, none⟩) N c3 := hd 20 94 (by kernel_rfl)
              have e95 : E (.tmp 95) = .int .i64 (i' : Int) := hd 21 95 (by kernel_rfl)
              clear hd hu
              go_simp
              first | exact HR.out _ _ (Below.refl _ _) rfl | (rw [if_pos ⟨by omega, by omega⟩]; exact HR.out _ _ (Below.refl _ _) rfl) | (rw [if_pos (by omega)]; exact HR.out _ _ (Below.refl _ _) rfl)
            case s23 =>
              refine Grow.step_on (g := 14) (b := false) (d := 88) (by rfl) (by rfl) (by rfl) (by kernel_rfl) (fun v W h => h) ?_
              intro E W ec eg ef hG hd hu R HR
              have e96 : E (.tmp 96) = .pointer (some ⟨q3, o3 + i', none⟩) := hd 22 96 (by kernel_rfl)
              clear hd hu
              obtain ⟨k1, k2, k3, k4⟩ := HC.out W hG
              go_simp
              exact HR.out _ _ (Below.refl _ _) rfl
            case s24 =>
              refine Grow.step_on (g := 14) (b := false) (d := 88) (by rfl) (by rfl) (by rfl) (by kernel_rfl) (fun v W h => h) ?_
              intro E W ec eg ef hG hd hu R HR
              have e97 : E (.tmp 97) = .slice A6 n6 c6 := hd 23 97 (by kernel_rfl)
              clear hd hu
              obtain ⟨k1, k2, k3, k4⟩ := HC.out W hG
              go_simp
              exact HR.out _ _ (Below.refl _ _) rfl
            case s25 =>
              refine Grow.step_on (g := 14) (b := false) (d := 88) (by rfl) (by rfl) (by rfl) (by kernel_rfl) (fun v W h => h) ?_
              intro E W ec eg ef hG hd hu R HR
              have e93 : E (.tmp 93) = .string (st PC) := hd 19 93 (by kernel_rfl)
              have e98 : E (.tmp 98) = .string (st PC) := hd 24 98 (by kernel_rfl)
              clear hd hu
              go_simp
              exact HR.out _ _ (Below.refl _ _) rfl
            case s26 =>
              refine Grow.step_in (by rfl) (by rfl) ?_
              intro E W ec eg ef hG hd hu R HR
              have e88 : E (.tmp 88) = .bool false := hd 14 88 (by kernel_rfl)
              have e99 : E (.tmp 99) = .bool false := hd 25 99 (by kernel_rfl)
              clear hd hu
              go_simp
              exact HR.out _ _ (Below.refl _ _) rfl
          case gfin =>
            intro W hG
            refine Grow.fin_dst (by rfl) ?_
            rintro _ rfl
            refine Grow.fin_dst (by rfl) ?_
            rintro _ rfl
            refine Grow.fin_dst (by rfl) ?_
            rintro _ rfl
            refine Grow.fin_dst (by rfl) ?_
            rintro _ rfl
            refine Grow.fin_dst (by rfl) ?_
            rintro _ rfl
            refine Grow.fin_dst (by rfl) ?_
            rintro _ rfl
            refine Grow.fin_dst (by rfl) ?_
            rintro _ rfl
            refine Grow.fin_dst (by rfl) ?_
            rintro _ rfl
            refine Grow.fin_dst (by rfl) ?_
            rintro _ rfl
            refine Grow.fin_dst (by rfl) ?_
            rintro _ rfl
            refine Grow.fin_dst (by rfl) ?_
            rintro _ rfl
            refine Grow.fin_dst (by rfl) ?_
            rintro _ rfl
            refine Grow.fin_dst (by rfl) ?_
            rintro _ rfl
            refine Grow.fin_dst (by rfl) ?_
            rintro _ rfl
            refine Grow.fin_dst (by rfl) ?_
            rintro _ rfl
            refine Grow.fin_dst (by rfl) ?_
            rintro _ rfl
            refine Grow.fin_dst (by rfl) ?_
            rintro _ rfl
            refine Grow.fin_dst (by rfl) ?_
            rintro _ rfl
            refine Grow.fin_dst (by rfl) ?_
            rintro _ rfl
            refine Grow.fin_dst (by rfl) ?_
            rintro _ rfl
            refine Grow.fin_dst (by rfl) ?_
            rintro _ rfl
            refine Grow.fin_dst (by rfl) ?_
            rintro _ rfl
            refine Grow.fin_dst (by rfl) ?_
            rintro _ rfl
            refine Grow.fin_dst (by rfl) ?_
            rintro _ rfl
            refine Grow.fin_dst (by rfl) ?_
            rintro _ rfl
            refine Grow.fin_dst (by rfl) ?_
            rintro _ rfl
            refine Grow.fin_dst (by rfl) ?_
            rintro _ rfl
            simp only [Act.put, List.setIfInBounds_toArray, List.set_cons_zero, List.set_cons_succ]
            refine Grow.fin_end ?_
            have HB2 : Hid (Below w3.heap.size w3 W) := Lib.hid (HR.out.2.trans ((Grow.below_of_drew hG).mono HR.out.2.size))
            clear hG
            go_wp2_with fail
            go_roundw
            case rel => unfold CLo; exact ⟨i' + 1, by omega, by simp, HB2.out⟩
            case measure => simp only [intOf]; omega
        · have hg : decide ((i' : Int) < (N : Int) - 1) = false := decide_eq_false (by omega)
          clear hi' hbr hp hr hpb hrb hz3 hPC hl5 hpq hrq hlast
          go_wp2_with fail
          refine wp_region_grow (fun W W' => Below W.heap.size W W') (Grow.nth [fun v _ => v = .int .i64 (i' : Int), fun v _ => v = .slice (some ⟨q2, o2, none⟩) N c2, fun v _ => v = .int .i64 (N : Int), fun v _ => v = .int .i64 ((N : Int) - 1), fun v _ => v = .bool false, fun v _ => v = .bool false, fun v _ => v = undef, fun v _ => v = undef, fun v _ => v = undef, fun v _ => v = undef, fun v _ => v = undef, fun v _ => v = undef, fun v _ => v = undef, fun v _ => v = .bool false, fun v _ => v = .bool false, fun v _ => v = .slice (some ⟨q2, o2, none⟩) N c2, fun v _ => v = .int .i64 (i' : Int), fun v _ => v = .pointer (some ⟨q2, o2 + i', none⟩), fun v _ => v = .slice A5 n5 c5, fun v _ => v = .string (st PC), fun v _ => v = .slice (some ⟨q3, o3, none⟩) N c3, fun v _ => v = .int .i64 (i' : Int), fun v _ => v = .pointer (some ⟨q3, o3 + i', none⟩), fun v _ => v = .slice A6 n6 c6, fun v _ => v = .string (st PC), fun v _ => v = .bool false, fun v _ => v = .bool false]) 101 (by kernel_rfl) (by kernel_rfl) (by rfl) (fun W => Below.refl _ W) (fun _ _ _ h1 h2 => h1.trans (h2.mono h1.size)) (Grow.mono_nth ?gmono) ?gsteps ?gfin
          case gmono => exact ⟨fun _ _ _ h _ => h, fun _ _ _ h _ => h, fun _ _ _ h _ => h, fun _ _ _ h _ => h, fun _ _ _ h _ => h, fun _ _ _ h _ => h, fun _ _ _ h _ => h, fun _ _ _ h _ => h, fun _ _ _ h _ => h, fun _ _ _ h _ => h, fun _ _ _ h _ => h, fun _ _ _ h _ => h, fun _ _ _ h _ => h, fun _ _ _ h _ => h, fun _ _ _ h _ => h, fun _ _ _ h _ => h, fun _ _ _ h _ => h, fun _ _ _ h _ => h, fun _ _ _ h _ => h, fun _ _ _ h _ => h, fun _ _ _ h _ => h, fun _ _ _ h _ => h, fun _ _ _ h _ => h, fun _ _ _ h _ => h, fun _ _ _ h _ => h, fun _ _ _ h _ => h, fun _ _ _ h _ => h, trivial⟩
          case gsteps =>
            show Grow.allBelow _ 27
            refine And.intro ?_ ?s26
            refine And.intro ?_ ?s25
            refine And.intro ?_ ?s24
            refine And.intro ?_ ?s23
            refine And.intro ?_ ?s22
            refine And.intro ?_ ?s21
            refine And.intro ?_ ?s20
            refine And.intro ?_ ?s19
            refine And.intro ?_ ?s18
            refine And.intro ?_ ?s17
            refine And.intro ?_ ?s16
            refine And.intro ?_ ?s15
            refine And.intro ?_ ?s14
            refine And.intro ?_ ?s13
            refine And.intro ?_ ?s12
            refine And.intro ?_ ?s11
            refine And.intro ?_ ?s10
            refine And.intro ?_ ?s9
            refine And.intro ?_ ?s8
            refine And.intro ?_ ?s7
            refine And.intro ?_ ?s6
            refine And.intro ?_ ?s5
            refine And.intro ?_ ?s4
            refine And.intro ?_ ?s3
            refine And.intro ?_ ?s2
            refine And.intro ?_ ?s1
            refine And.intro ?_ ?s0
            exact trivial
            case s0 =>
              refine Grow.step_in (by rfl) (by rfl) ?_
              intro E W ec eg ef hG hd hu R HR
              have e14 : E (.tmp 14) = .int .i64 (i' : Int) := hu 14 (by kernel_rfl)
              clear hd hu
              go_simp
              exact HR.out _ _ (Below.refl _ _) rfl
            case s1 =>
              refine Grow.step_in (by rfl) (by rfl) ?_
              intro E W ec eg ef hG hd hu R HR
              have e10 : E (.tmp 10) = .slice (some ⟨q2, o2, none⟩) N c2 := hu 10 (by kernel_rfl)
              clear hd hu
              go_simp
              exact HR.out _ _ (Below.refl _ _) rfl
            case s2 =>
              refine Grow.step_in (by rfl) (by rfl) ?_
              intro E W ec eg ef hG hd hu R HR
              have e75 : E (.tmp 75) = .slice (some ⟨q2, o2, none⟩) N c2 := hd 1 75 (by kernel_rfl)
              clear hd hu
              go_simp
              exact HR.out _ _ (Below.refl _ _) rfl
            case s3 =>
              refine Grow.step_in (by rfl) (by rfl) ?_
              intro E W ec eg ef hG hd hu R HR
              have e76 : E (.tmp 76) = .int .i64 (N : Int) := hd 2 76 (by kernel_rfl)
              clear hd hu
              go_simp
              exact HR.out _ _ (Below.refl _ _) rfl
            case s4 =>
              refine Grow.step_in (by rfl) (by rfl) ?_
              intro E W ec eg ef hG hd hu R HR
              have e74 : E (.tmp 74) = .int .i64 (i' : Int) := hd 0 74 (by kernel_rfl)
              have e77 : E (.tmp 77) = .int .i64 ((N : Int) - 1) := hd 3 77 (by kernel_rfl)
              clear hd hu
              go_simp
              first | exact HR.out _ _ (Below.refl _ _) rfl | exact HR.out _ _ (Below.refl _ _) (show Value.bool _ = Value.bool false by rw [hg])
            case s5 =>
              refine Grow.step_in (by rfl) (by rfl) ?_
              intro E W ec eg ef hG hd hu R HR
              have e78 : E (.tmp 78) = .bool false := hd 4 78 (by kernel_rfl)
              clear hd hu
              go_simp
              exact HR.out _ _ (Below.refl _ _) rfl
            case s6 =>
              exact Grow.step_off (g := 5) (b := true) (b' := false) (d := 79) (by rfl) (by rfl) (by rfl) (by kernel_rfl) (fun v W h => h) (by decide) (fun _ => rfl)
            case s7 =>
              exact Grow.step_off (g := 5) (b := true) (b' := false) (d := 79) (by rfl) (by rfl) (by rfl) (by kernel_rfl) (fun v W h => h) (by decide) (fun _ => rfl)
            case s8 =>
              exact Grow.step_off (g := 5) (b := true) (b' := false) (d := 79) (by rfl) (by rfl) (by rfl) (by kernel_rfl) (fun v W h => h) (by decide) (fun _ => rfl)
            case s9 =>
              exact Grow.step_off (g := 5) (b := true) (b' := false) (d := 79) (by rfl) (by rfl) (by rfl) (by kernel_rfl) (fun v W h => h) (by decide) (fun _ => rfl)
            case s10 =>
              exact Grow.step_off (g := 5) (b := true) (b' := false) (d := 79) (by rfl) (by rfl) (by rfl) (by kernel_rfl) (fun v W h => h) (by decide) (fun _ => rfl)
            case s11 =>
              exact Grow.step_off (g := 5) (b := true) (b' := false) (d := 79) (by rfl) (by rfl) (by rfl) (by kernel_rfl) (fun v W h => h) (by decide) (fun _ => rfl)
            case s12 =>
              exact Grow.step_off (g := 5) (b := true) (b' := false) (d := 79) (by rfl) (by rfl) (by rfl) (by kernel_rfl) (fun v W h => h) (by decide) (fun _ => rfl)
            case s13 =>
              refine Grow.step_in (by rfl) (by rfl) ?_
              intro E W ec eg ef hG hd hu R HR
              have e79 : E (.tmp 79) = .bool false := hd 5 79 (by kernel_rfl)
              have e86 : E (.tmp 86) = undef := hd 12 86 (by kernel_rfl)
              clear hd hu
              go_simp
              exact HR.out _ _ (Below.refl _ _) rfl
            case s14 =>
              refine Grow.step_in (by rfl) (by rfl) ?_
              intro E W ec eg ef hG hd hu R HR
              have e87 : E (.tmp 87) = .bool false := hd 13 87 (by kernel_rfl)
              clear hd hu
              go_simp
              exact HR.out _ _ (Below.refl _ _) rfl
            case s15 =>
              refine Grow.step_on (g := 14) (b := false) (d := 88) (by rfl) (by rfl) (by rfl) (by kernel_rfl) (fun v W h => h) ?_
              intro E W ec eg ef hG hd hu R HR
              have e10 : E (.tmp 10) = .slice (some ⟨q2, o2, none⟩) N c2 := hu 10 (by kernel_rfl)
              clear hd hu
              go_simp
              exact HR.out _ _ (Below.refl _ _) rfl
            case s16 =>
              refine Grow.step_on (g := 14) (b := false) (d := 88) (by rfl) (by rfl) (by rfl) (by kernel_rfl) (fun v W h => h) ?_
              intro E W ec eg ef hG hd hu R HR
              have e14 : E (.tmp 14) = .int .i64 (i' : Int) := hu 14 (by kernel_rfl)
              clear hd hu
              go_simp
              exact HR.out _ _ (Below.refl _ _) rfl
            case s17 =>
              refine Grow.step_on (g := 14) (b := false) (d := 88) (by rfl) (by rfl) (by rfl) (by kernel_rfl) (fun v W h => h) ?_
              intro E W ec eg ef hG hd hu R HR
              have e89 : E (.tmp 89) = .slice (some ⟨q2, o2, none⟩) N c2 := hd 15 89 (by kernel_rfl)
              have e90 : E (.tmp 90) = .int .i64 (i' : Int) := hd 16 90 (by kernel_rfl)
              clear hd hu
              go_simp
              first | exact HR.out _ _ (Below.refl _ _) rfl | (rw [if_pos ⟨by omega, by omega⟩]; exact HR.out _ _ (Below.refl _ _) rfl) | (rw [if_pos (by omega)]; exact HR.out _ _ (Below.refl _ _) rfl)
            case s18 =>
              refine Grow.step_on (g := 14) (b := false) (d := 88) (by rfl) (by rfl) (by rfl) (by kernel_rfl) (fun v W h => h) ?_
              intro E W ec eg ef hG hd hu R HR
              have e91 : E (.tmp 91) = .pointer (some ⟨q2, o2 + i', none⟩) := hd 17 91 (by kernel_rfl)
              clear hd hu
              obtain ⟨k1, k2, k3, k4⟩ := HC.out W hG
              go_simp
              exact HR.out _ _ (Below.refl _ _) rfl
            case s19 =>
              refine Grow.step_on (g := 14) (b := false) (d := 88) (by rfl) (by rfl) (by rfl) (by kernel_rfl) (fun v W h => h) ?_
              intro E W ec eg ef hG hd hu R HR
              have e92 : E (.tmp 92) = .slice A5 n5 c5 := hd 18 92 (by kernel_rfl)
              clear hd hu
              obtain ⟨k1, k2, k3, k4⟩ := HC.out W hG
              go_simp
              exact HR.out _ _ (Below.refl _ _) rfl
            case s20 =>
              refine Grow.step_on (g := 14) (b := false) (d := 88) (by rfl) (by rfl) (by rfl) (by kernel_rfl) (fun v W h => h) ?_
              intro E W ec eg ef hG hd hu R HR
              have e12 : E (.tmp 12) = .slice (some ⟨q3, o3, none⟩) N c3 := hu 12 (by kernel_rfl)
              clear hd hu
              go_simp
              exact HR.out _ _ (Below.refl _ _) rfl
            case s21 =>
              refine Grow.step_on (g := 14) (b := false) (d := 88) (by rfl) (by rfl) (by rfl) (by kernel_rfl) (fun v W h => h) ?_
              intro E W ec eg ef hG hd hu R HR
              have e14 : E (.tmp 14) = .int .i64 (i' : Int) := hu 14 (by kernel_rfl)
              clear hd hu
              go_simp
              exact HR.out _ _ (Below.refl _ _) rfl
            case s22 =>
              refine Grow.step_on (g := 14) (b := false) (d := 88) (by rfl) (by rfl) (by rfl) (by kernel_rfl) (fun v W h => h) ?_
              intro E W ec eg ef hG hd hu R HR
              have e94 : E (.tmp 94) = .slice (some ⟨q3, o3, none⟩) N c3 := hd 20 94 (by kernel_rfl)
              have e95 : E (.tmp 95) = .int .i64 (i' : Int) := hd 21 95 (by kernel_rfl)
              clear hd hu
              go_simp
              first | exact HR.out _ _ (Below.refl _ _) rfl | (rw [if_pos ⟨by omega, by omega⟩]; exact HR.out _ _ (Below.refl _ _) rfl) | (rw [if_pos (by omega)]; exact HR.out _ _ (Below.refl _ _) rfl)
            case s23 =>
              refine Grow.step_on (g := 14) (b := false) (d := 88) (by rfl) (by rfl) (by rfl) (by kernel_rfl) (fun v W h => h) ?_
              intro E W ec eg ef hG hd hu R HR
              have e96 : E (.tmp 96) = .pointer (some ⟨q3, o3 + i', none⟩) := hd 22 96 (by kernel_rfl)
              clear hd hu
              obtain ⟨k1, k2, k3, k4⟩ := HC.out W hG
              go_simp
              exact HR.out _ _ (Below.refl _ _) rfl
            case s24 =>
              refine Grow.step_on (g := 14) (b := false) (d := 88) (by rfl) (by rfl) (by rfl) (by kernel_rfl) (fun v W h => h) ?_
              intro E W ec eg ef hG hd hu R HR
              have e97 : E (.tmp 97) = .slice A6 n6 c6 := hd 23 97 (by kernel_rfl)
              clear hd hu
              obtain ⟨k1, k2, k3, k4⟩ := HC.out W hG
              go_simp
              exact HR.out _ _ (Below.refl _ _) rfl
            case s25 =>
              refine Grow.step_on (g := 14) (b := false) (d := 88) (by rfl) (by rfl) (by rfl) (by kernel_rfl) (fun v W h => h) ?_
              intro E W ec eg ef hG hd hu R HR
              have e93 : E (.tmp 93) = .string (st PC) := hd 19 93 (by kernel_rfl)
              have e98 : E (.tmp 98) = .string (st PC) := hd 24 98 (by kernel_rfl)
              clear hd hu
              go_simp
              exact HR.out _ _ (Below.refl _ _) rfl
            case s26 =>
              refine Grow.step_in (by rfl) (by rfl) ?_
              intro E W ec eg ef hG hd hu R HR
              have e88 : E (.tmp 88) = .bool false := hd 14 88 (by kernel_rfl)
              have e99 : E (.tmp 99) = .bool false := hd 25 99 (by kernel_rfl)
              clear hd hu
              go_simp
              exact HR.out _ _ (Below.refl _ _) rfl
          case gfin =>
            intro W hG
            refine Grow.fin_dst (by rfl) ?_
            rintro _ rfl
            refine Grow.fin_dst (by rfl) ?_
            rintro _ rfl
            refine Grow.fin_dst (by rfl) ?_
            rintro _ rfl
            refine Grow.fin_dst (by rfl) ?_
            rintro _ rfl
            refine Grow.fin_dst (by rfl) ?_
            rintro _ rfl
            refine Grow.fin_dst (by rfl) ?_
            rintro _ rfl
            refine Grow.fin_dst (by rfl) ?_
            rintro _ rfl
            refine Grow.fin_dst (by rfl) ?_
            rintro _ rfl
            refine Grow.fin_dst (by rfl) ?_
            rintro _ rfl
            refine Grow.fin_dst (by rfl) ?_
            rintro _ rfl
            refine Grow.fin_dst (by rfl) ?_
            rintro _ rfl
            refine Grow.fin_dst (by rfl) ?_
            rintro _ rfl
            refine Grow.fin_dst (by rfl) ?_
            rintro _ rfl
            refine Grow.fin_dst (by rfl) ?_
            rintro _ rfl
            refine Grow.fin_dst (by rfl) ?_
            rintro _ rfl
            refine Grow.fin_dst (by rfl) ?_
            rintro _ rfl
            refine Grow.fin_dst (by rfl) ?_
            rintro _ rfl
            refine Grow.fin_dst (by rfl) ?_
            rintro _ rfl
            refine Grow.fin_dst (by rfl) ?_
            rintro _ rfl
            refine Grow.fin_dst (by rfl) ?_
            rintro _ rfl
            refine Grow.fin_dst (by rfl) ?_
            rintro _ rfl
            refine Grow.fin_dst (by rfl) ?_
            rintro _ rfl
            refine Grow.fin_dst (by rfl) ?_
            rintro _ rfl
            refine Grow.fin_dst (by rfl) ?_
            rintro _ rfl
            refine Grow.fin_dst (by rfl) ?_
            rintro _ rfl
            refine Grow.fin_dst (by rfl) ?_
            rintro _ rfl
            refine Grow.fin_dst (by rfl) ?_
            rintro _ rfl
            simp only [Act.put, List.setIfInBounds_toArray, List.set_cons_zero, List.set_cons_succ]
            refine Grow.fin_end ?_
            have HB2 : Hid (Below w3.heap.size w3 W) := Lib.hid (HR.out.2.trans ((Grow.below_of_drew hG).mono HR.out.2.size))
            clear hG
            go_wp2_with fail
            go_roundw
            case rel => unfold CLo; exact ⟨i' + 1, by omega, by simp, HB2.out⟩
            case measure => simp only [intOf]; omega
      · have hlt' : ¬ (i' : Int) < (N : Int) := by omega
        have HF := Lib.hid (H3.out.1.trans (hbr.mono H3.out.1.size))
        clear hi' hbr
        go_wp2_with fail
        go_ret
        exact ⟨rfl, HF.out⟩
  · have h1' : (1000 : Int) < (n : Int) := by omega
    clear h1 hln hxb hzb
    go_enter Try.func7, Try.ntmps7
    go_wp2_with (go_at_call 8; refine haw.mono ?_; clear haw; rintro _ w1 ⟨rfl, hb1⟩)
    go_ret
    exact ⟨rfl, hb1⟩
end Go.Proofs.Ytcmdiclbbcdceaa
