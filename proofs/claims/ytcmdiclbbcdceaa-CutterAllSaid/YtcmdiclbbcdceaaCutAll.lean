/-
  The statement CutterAll: its walk.
-/
import Derived.Test.YtcmdiclbbcdceaaCutAwake
import Derived.Test.YtcmdiclbbcdceaaGrow
namespace Go.Proofs.Ytcmdiclbbcdceaa
open Go.RowKit

def CAl (w2 : World) (P : List (List UInt8)) (s i : Value) (wr : World) : Prop := ∃ i' : Nat, i' ≤ P.length ∧ i = .int .i64 (i' : Int) ∧ s = .string (st (P.take i').flatten) ∧ Below w2.heap.size w2 wr

set_option maxHeartbeats 4000000 in
theorem walk_call {w : World} {S : Nat → Prop} {A : Option Addr} {n c : Nat} {b : List UInt8} (h : Byt w S A n c b) {x y z : Int} (hx : (Lit.int .u8 x).wf = true) (hy : (Lit.int .u8 y).wf = true) (hz : (Lit.int .u8 z).wf = true) :
    Calls Try.prog 4 #[.slice A n c, .int .u8 x, .int .u8 y, .int .u8 z] w fun e w' => e = .returned (.bool true) ∧ Below w.heap.size w w' := by
  have hxb := bounds_u8 hx
  have hyb := bounds_u8 hy
  have hzb := bounds_u8 hz
  have haw := cawake_true w
  have hln := h.len
  have H0 := Lib.hid (And.intro h (And.intro hxb (And.intro hyb hzb)))
  clear h hx hy hz
  by_cases h1 : n ≤ 2000
  · have h1' : ¬ (2000 : Int) < (n : Int) := by omega
    have HN := Lib.hid (And.intro h1 hln)
    have hw1 := IntWalk.i64_in x (by omega)
    have hw2 := IntWalk.i64_in (x + 1) (by omega)
    have hw3 := IntWalk.i64_in y (by omega)
    have hw4 := IntWalk.i64_in (x + 1 + y) (by omega)
    have hw5 : z.tmod 24 = z % 24 := Int.tmod_eq_emod_of_nonneg (by omega)
    have hw6 := IntWalk.wrap64_in (z % 24) (by omega)
    have hw7 := IntWalk.wrap64_in (z % 24 + 1) (by omega)
    have HOK : Hid (cutErr (x + 1) (x + 1 + y) (z % 24 + 1) = 0) := Lib.hid (by unfold cutErr; rw [if_neg (by omega)])
    clear h1 hln hxb hyb hzb
    go_enter Try.func4, Try.ntmps4
    go_wp2_with (go_at_call 8; refine haw.mono ?_; clear haw; rintro _ w1 ⟨rfl, hb1⟩; have HB1 := Lib.hid hb1; clear hb1)
    obtain ⟨BI, hBI⟩ : ∃ BI, BI = z % 24 + 1 := ⟨_, rfl⟩
    simp only [← hBI]
    have hba : Below w1.heap.size w1 (w1.alloc (.cells #[.int .i64 (x + 1), .int .i64 (x + 1 + y), .int .i64 BI] 24)) := (Below.refl _ _).alloc (Nat.le_refl _) _
    have hxa := heap_alloc_new w1 (.cells #[.int .i64 (x + 1), .int .i64 (x + 1 + y), .int .i64 BI] 24)
    have hbw := HB1.out.trans (hba.mono HB1.out.size)
    refine (cutpieces_any (H0.out.1.below hbw) (by have := HN.out.1; omega) (x + 1) (x + 1 + y) BI).mono ?_
    rintro _ w2 ⟨A2, N, c2, rfl, hr, hb2⟩
    have hok := HOK.out
    rw [← hBI] at hok
    have hcf := cfgOf_ok hok
    obtain ⟨PP, hPP⟩ : ∃ PP, PP = pieV (x + 1) (x + 1 + y) BI b := ⟨_, rfl⟩
    rw [← hPP] at hr
    rw [hok]
    have H2 : Hid (Below w.heap.size w w2 ∧ w2.heap[w1.heap.size]? = some (.cells #[.int .i64 (x + 1), .int .i64 (x + 1 + y), .int .i64 BI] 24 (0, 0)) ∧ Rws w2 ((w1.alloc (.cells #[.int .i64 (x + 1), .int .i64 (x + 1 + y), .int .i64 BI] 24)).heap.size ≤ ·) A2 N c2 PP) := Lib.hid ⟨hbw.trans (hb2.mono hbw.size), (hb2.block _ (lt_of_cells hxa)).trans hxa, hr⟩
    have HP : Hid (PP.flatten = b ∧ PP.length = N ∧ N ≤ 2000 ∧ ∀ i, i < N → 1 ≤ ((PP[i]?.getD []).length : Int) ∧ ((PP[i]?.getD []).length : Int) ≤ x + 1 + y ∧ (i + 1 < N → x + 1 ≤ ((PP[i]?.getD []).length : Int))) := Lib.hid (by
      have hl := hr.len
      have h2 := piecesC_sizes hcf b
      have h3 := HN.out.2
      have h4 := HN.out.1
      have h5 := H0.out.2.1
      have h6 := H0.out.2.2.1
      have h7 := endsC_short (cfgOf (x + 1) (x + 1 + y) BI) b
      rw [hPP, pieV_ok hok] at hl ⊢
      refine ⟨piecesC_join _ _, hl, by rw [← piecesC_count] at h7; omega, fun i hi => ?_⟩
      obtain ⟨k1, k2, k3⟩ := h2 i (by omega)
      have e1 : ((cfgOf (x + 1) (x + 1 + y) BI).most : Int) = x + 1 + y := by show ((x + 1 + y).toNat : Int) = _; omega
      have e2 : ((cfgOf (x + 1) (x + 1 + y) BI).least : Int) = x + 1 := by show ((x + 1).toNat : Int) = _; omega
      exact ⟨by omega, by omega, fun h => by have := k3 (by omega); omega⟩)
    clear hba hxa hbw hr hb2 hok hcf hPP hBI hw1 hw2 hw3 hw4 hw5 hw6 hw7
    generalize w1.heap.size = q at *
    go_wp2_with fail
    go_loopw [13, 14] (fun s i wr => CAl w2 PP s i wr) (fun _ i _ => N - (intOf i).toNat)
    case atStart => exact ⟨0, Nat.zero_le _, rfl, rfl, Below.refl _ _⟩
    case round =>
      obtain ⟨i', hi', rfl, rfl, hbr⟩ := hrel
      have HR := Lib.hid (And.intro hi' hbr)
      by_cases hlt : i' < N
      · have hlt' : (i' : Int) < (N : Int) := by omega
        obtain ⟨q2, o2, rfl, _, hpq, hp⟩ := (H2.out.2.2.below hbr).row (by omega)
        obtain ⟨A5, n5, c5, hp, hpb⟩ := hp i' hlt
        obtain ⟨hz1, hz2, hz3⟩ := HP.out.2.2.2 i' hlt
        have hft := flat_take PP i' (by rw [HP.out.2.1]; exact hlt)
        have hfl := flat_le PP (i' + 1)
        rw [HP.out.1, HN.out.2] at hfl
        obtain ⟨PC, hPC⟩ : ∃ PC, PC = PP[i']?.getD [] := ⟨_, rfl⟩
        rw [← hPC] at hpb hz1 hz2 hz3 hft
        have hl5 := hpb.len
        rw [hl5] at hz1 hz2 hz3
        have HC : Hid (∀ W, Below wr.drew.heap.size wr.drew W → W.cell? ⟨q2, o2 + i', none⟩ = some (.slice A5 n5 c5) ∧ W.cell? ⟨q, 0, none⟩ = some (.int .i64 (x + 1)) ∧ W.cell? ⟨q, 1, none⟩ = some (.int .i64 (x + 1 + y)) ∧ (convert 22 9 (.slice A5 n5 c5)).run Try.prog W = .ok (.string (st PC)) W) := Lib.hid fun W hW => by
          have hW2 : Below wr.heap.size wr W := Grow.below_of_drew hW
          have hx2 := ((hW2.block _ (lt_of_cells ((hbr.block _ (lt_of_cells H2.out.2.1)).trans H2.out.2.1))).trans (hbr.block _ (lt_of_cells H2.out.2.1))).trans H2.out.2.1
          exact ⟨(hW2.cell (p := ⟨_, _, none⟩) hpq).trans hp, cell_of_cells hx2 0, cell_of_cells hx2 1, byt_string (hpb.below hW2)⟩
        have h1'' : ¬ (n5 : Int) < 1 := by omega
        have h2'' : ¬ x + 1 + y < (n5 : Int) := by omega
        have hadd := IntWalk.i64_in ((i' : Int) + 1) (by have := HP.out.2.2.1; omega)
        have hsub := IntWalk.i64_in ((N : Int) - 1) (by have := HP.out.2.2.1; omega)
        have hap := (st_app (PP.take i').flatten PC).trans (by rw [← hft])
        have s1 := st_size (PP.take i').flatten
        have s2 := st_size PC
        have hsum : ¬ (9223372036854775807 : Int) < (((PP.take i').flatten.length : Nat) : Int) + ((PC.length : Nat) : Int) := by
          rw [hft, List.length_append] at hfl
          have := HN.out.1
          omega
        obtain ⟨F1, hF1⟩ : ∃ F1, F1 = (PP.take (i' + 1)).flatten := ⟨_, rfl⟩
        rw [← hF1] at hap
        have HF1 := Lib.hid hF1
        generalize (PP.take i').flatten = F at *
        by_cases hlast : i' + 1 < N
        · have hg : decide ((i' : Int) < (N : Int) - 1) = true := decide_eq_true (by omega)
          have hz3' : ¬ (n5 : Int) < x + 1 := by have := hz3 hlast; omega
          clear hi' hbr hp hpb hz1 hz2 hz3 hft hfl hPC hl5 hF1 hpq hlast
          go_wp2_with fail
          refine wp_region_grow (fun W W' => Below W.heap.size W W') (Grow.nth [fun v _ => v = .slice (some ⟨q2, o2, none⟩) N c2, fun v _ => v = .int .i64 (i' : Int), fun v _ => v = .pointer (some ⟨q2, o2 + i', none⟩), fun v _ => v = .slice A5 n5 c5, fun v _ => v = .int .i64 (n5 : Int), fun v _ => v = .bool false, fun v _ => v = .bool false, fun v _ => v = .slice (some ⟨q2, o2, none⟩) N c2, fun v _ => v = .int .i64 (i' : Int), fun v _ => v = .pointer (some ⟨q2, o2 + i', none⟩), fun v _ => v = .slice A5 n5 c5, fun v _ => v = .int .i64 (n5 : Int), fun v _ => v = .pointer (some ⟨q, 1, none⟩), fun v _ => v = .int .i64 (x + 1 + y), fun v _ => v = .bool false, fun v _ => v = .bool false, fun v _ => v = .bool false, fun v _ => v = .int .i64 (i' : Int), fun v _ => v = .slice (some ⟨q2, o2, none⟩) N c2, fun v _ => v = .int .i64 (N : Int), fun v _ => v = .int .i64 ((N : Int) - 1), fun v _ => v = .bool true, fun v _ => v = .bool true, fun v _ => v = .slice (some ⟨q2, o2, none⟩) N c2, fun v _ => v = .int .i64 (i' : Int), fun v _ => v = .pointer (some ⟨q2, o2 + i', none⟩), fun v _ => v = .slice A5 n5 c5, fun v _ => v = .int .i64 (n5 : Int), fun v _ => v = .pointer (some ⟨q, 0, none⟩), fun v _ => v = .int .i64 (x + 1), fun v _ => v = .bool false, fun v _ => v = .bool false, fun v _ => v = .bool false]) 95 (by kernel_rfl) (by kernel_rfl) (by rfl) (fun W => Below.refl _ W) (fun _ _ _ h1 h2 => h1.trans (h2.mono h1.size)) (Grow.mono_nth ?gmono) ?gsteps ?gfin
          case gmono => exact ⟨fun _ _ _ h _ => h, fun _ _ _ h _ => h, fun _ _ _ h _ => h, fun _ _ _ h _ => h, fun _ _ _ h _ => h, fun _ _ _ h _ => h, fun _ _ _ h _ => h, fun _ _ _ h _ => h, fun _ _ _ h _ => h, fun _ _ _ h _ => h, fun _ _ _ h _ => h, fun _ _ _ h _ => h, fun _ _ _ h _ => h, fun _ _ _ h _ => h, fun _ _ _ h _ => h, fun _ _ _ h _ => h, fun _ _ _ h _ => h, fun _ _ _ h _ => h, fun _ _ _ h _ => h, fun _ _ _ h _ => h, fun _ _ _ h _ => h, fun _ _ _ h _ => h, fun _ _ _ h _ => h, fun _ _ _ h _ => h, fun _ _ _ h _ => h, fun _ _ _ h _ => h, fun _ _ _ h _ => h, fun _ _ _ h _ => h, fun _ _ _ h _ => h, fun _ _ _ h _ => h, fun _ _ _ h _ => h, fun _ _ _ h _ => h, fun _ _ _ h _ => h, trivial⟩
          case gsteps =>
            show Grow.allBelow _ 33
            refine And.intro ?_ ?s32
            refine And.intro ?_ ?s31
            refine And.intro ?_ ?s30
            refine And.intro ?_ ?s29
            refine And.intro ?_ ?s28
            refine And.intro ?_ ?s27
            refine And.intro ?_ ?s26
            refine And.intro ?_ ?s25
            refine And.intro ?_ ?s24
            refine And.intro ?_ ?s23
            refine And.intro ?_ ?s22
            refine And.intro ?_ ?s21
            refine And.intro ?_ ?s20
            refine And.intro ?_ ?s19
            refine And.intro ?_ ?s18
            refine And.intro ?_ ?s17
            refine And.intro ?_ ?s16
            refine And.intro ?_ ?s15
            refine And.intro ?_ ?s14
            refine And.intro ?_ ?s13
            refine And.intro ?_ ?s12
            refine And.intro ?_ ?s11
            refine And.intro ?_ ?s10
            refine And.intro ?_ ?s9
            refine And.intro ?_ ?s8
            refine And.intro ?_ ?s7
            refine And.intro ?_ ?s6
            refine And.intro ?_ ?s5
            refine And.intro ?_ ?s4
            refine And.intro ?_ ?s3
            refine And.intro ?_ ?s2
            refine And.intro ?_ ?s1
            refine And.intro ?_ ?s0
            exact trivial
            case s0 =>
              refine Grow.step_in (by rfl) (by rfl) ?_
              intro E W ec eg ef hG hd hu R HR
              have e11 : E (.tmp 11) = .slice (some ⟨q2, o2, none⟩) N c2 := hu 11 (by kernel_rfl)
              clear hd hu
              go_simp
              exact HR.out _ _ (Below.refl _ _) rfl
            case s1 =>
              refine Grow.step_in (by rfl) (by rfl) ?_
              intro E W ec eg ef hG hd hu R HR
              have e14 : E (.tmp 14) = .int .i64 (i' : Int) := hu 14 (by kernel_rfl)
              clear hd hu
              go_simp
              exact HR.out _ _ (Below.refl _ _) rfl
            case s2 =>
              refine Grow.step_in (by rfl) (by rfl) ?_
              intro E W ec eg ef hG hd hu R HR
              have e47 : E (.tmp 47) = .slice (some ⟨q2, o2, none⟩) N c2 := hd 0 47 (by kernel_rfl)
              have e48 : E (.tmp 48) = .int .i64 (i' : Int) := hd 1 48 (by kernel_rfl)
              clear hd hu
              go_simp
              first | exact HR.out _ _ (Below.refl _ _) rfl | (rw [if_pos ⟨by omega, by omega⟩]; exact HR.out _ _ (Below.refl _ _) rfl) | (rw [if_pos (by omega)]; exact HR.out _ _ (Below.refl _ _) rfl)
            case s3 =>
              refine Grow.step_in (by rfl) (by rfl) ?_
              intro E W ec eg ef hG hd hu R HR
              have e49 : E (.tmp 49) = .pointer (some ⟨q2, o2 + i', none⟩) := hd 2 49 (by kernel_rfl)
              clear hd hu
              obtain ⟨k1, k2, k3, k4⟩ := HC.out W hG
              go_simp
              exact HR.out _ _ (Below.refl _ _) rfl
            case s4 =>
              refine Grow.step_in (by rfl) (by rfl) ?_
              intro E W ec eg ef hG hd hu R HR
              have e50 : E (.tmp 50) = .slice A5 n5 c5 := hd 3 50 (by kernel_rfl)
              clear hd hu
              go_simp
              exact HR.out _ _ (Below.refl _ _) rfl
            case s5 =>
              refine Grow.step_in (by rfl) (by rfl) ?_
              intro E W ec eg ef hG hd hu R HR
              have e51 : E (.tmp 51) = .int .i64 (n5 : Int) := hd 4 51 (by kernel_rfl)
              clear hd hu
              go_simp
              first | exact HR.out _ _ (Below.refl _ _) rfl | exact HR.out _ _ (Below.refl _ _) (congrArg Value.bool (decide_eq_false (by omega)))
            case s6 =>
              refine Grow.step_in (by rfl) (by rfl) ?_
              intro E W ec eg ef hG hd hu R HR
              have e52 : E (.tmp 52) = .bool false := hd 5 52 (by kernel_rfl)
              clear hd hu
              go_simp
              exact HR.out _ _ (Below.refl _ _) rfl
            case s7 =>
              refine Grow.step_on (g := 6) (b := false) (d := 53) (by rfl) (by rfl) (by rfl) (by kernel_rfl) (fun v W h => h) ?_
              intro E W ec eg ef hG hd hu R HR
              have e11 : E (.tmp 11) = .slice (some ⟨q2, o2, none⟩) N c2 := hu 11 (by kernel_rfl)
              clear hd hu
              go_simp
              exact HR.out _ _ (Below.refl _ _) rfl
            case s8 =>
              refine Grow.step_on (g := 6) (b := false) (d := 53) (by rfl) (by rfl) (by rfl) (by kernel_rfl) (fun v W h => h) ?_
              intro E W ec eg ef hG hd hu R HR
              have e14 : E (.tmp 14) = .int .i64 (i' : Int) := hu 14 (by kernel_rfl)
              clear hd hu
              go_simp
              exact HR.out _ _ (Below.refl _ _) rfl
            case s9 =>
              refine Grow.step_on (g := 6) (b := false) (d := 53) (by rfl) (by rfl) (by rfl) (by kernel_rfl) (fun v W h => h) ?_
              intro E W ec eg ef hG hd hu R HR
              have e54 : E (.tmp 54) = .slice (some ⟨q2, o2, none⟩) N c2 := hd 7 54 (by kernel_rfl)
              have e55 : E (.tmp 55) = .int .i64 (i' : Int) := hd 8 55 (by kernel_rfl)
              clear hd hu
              go_simp
              first | exact HR.out _ _ (Below.refl _ _) rfl | (rw [if_pos ⟨by omega, by omega⟩]; exact HR.out _ _ (Below.refl _ _) rfl) | (rw [if_pos (by omega)]; exact HR.out _ _ (Below.refl _ _) rfl)
            case s10 =>
              refine Grow.step_on (g := 6) (b := false) (d := 53) (by rfl) (by rfl) (by rfl) (by kernel_rfl) (fun v W h => h) ?_
              intro E W ec eg ef hG hd hu R HR
              have e56 : E (.tmp 56) = .pointer (some ⟨q2, o2 + i', none⟩) := hd 9 56 (by kernel_rfl)
              clear hd hu
              obtain ⟨k1, k2, k3, k4⟩ := HC.out W hG
              go_simp
              exact HR.out _ _ (Below.refl _ _) rfl
            case s11 =>
              refine Grow.step_on (g := 6) (b := false) (d := 53) (by rfl) (by rfl) (by rfl) (by kernel_rfl) (fun v W h => h) ?_
              intro E W ec eg ef hG hd hu R HR
              have e57 : E (.tmp 57) = .slice A5 n5 c5 := hd 10 57 (by kernel_rfl)
              clear hd hu
              go_simp
              exact HR.out _ _ (Below.refl _ _) rfl
            case s12 =>
              refine Grow.step_on (g := 6) (b := false) (d := 53) (by rfl) (by rfl) (by rfl) (by kernel_rfl) (fun v W h => h) ?_
              intro E W ec eg ef hG hd hu R HR
              have e10 : E (.tmp 10) = .pointer (some ⟨q, 0, none⟩) := hu 10 (by kernel_rfl)
              clear hd hu
              go_simp
              exact HR.out _ _ (Below.refl _ _) rfl
            case s13 =>
              refine Grow.step_on (g := 6) (b := false) (d := 53) (by rfl) (by rfl) (by rfl) (by kernel_rfl) (fun v W h => h) ?_
              intro E W ec eg ef hG hd hu R HR
              have e59 : E (.tmp 59) = .pointer (some ⟨q, 1, none⟩) := hd 12 59 (by kernel_rfl)
              clear hd hu
              obtain ⟨k1, k2, k3, k4⟩ := HC.out W hG
              go_simp
              exact HR.out _ _ (Below.refl _ _) rfl
            case s14 =>
              refine Grow.step_on (g := 6) (b := false) (d := 53) (by rfl) (by rfl) (by rfl) (by kernel_rfl) (fun v W h => h) ?_
              intro E W ec eg ef hG hd hu R HR
              have e58 : E (.tmp 58) = .int .i64 (n5 : Int) := hd 11 58 (by kernel_rfl)
              have e60 : E (.tmp 60) = .int .i64 (x + 1 + y) := hd 13 60 (by kernel_rfl)
              clear hd hu
              go_simp
              first | exact HR.out _ _ (Below.refl _ _) rfl | exact HR.out _ _ (Below.refl _ _) (congrArg Value.bool (decide_eq_false (by omega)))
            case s15 =>
              refine Grow.step_in (by rfl) (by rfl) ?_
              intro E W ec eg ef hG hd hu R HR
              have e53 : E (.tmp 53) = .bool false := hd 6 53 (by kernel_rfl)
              have e61 : E (.tmp 61) = .bool false := hd 14 61 (by kernel_rfl)
              clear hd hu
              go_simp
              exact HR.out _ _ (Below.refl _ _) rfl
            case s16 =>
              refine Grow.step_in (by rfl) (by rfl) ?_
              intro E W ec eg ef hG hd hu R HR
              have e62 : E (.tmp 62) = .bool false := hd 15 62 (by kernel_rfl)
              clear hd hu
              go_simp
              exact HR.out _ _ (Below.refl _ _) rfl
            case s17 =>
              refine Grow.step_on (g := 16) (b := false) (d := 63) (by rfl) (by rfl) (by rfl) (by kernel_rfl) (fun v W h => h) ?_
              intro E W ec eg ef hG hd hu R HR
              have e14 : E (.tmp 14) = .int .i64 (i' : Int) := hu 14 (by kernel_rfl)
              clear hd hu
              go_simp
              exact HR.out _ _ (Below.refl _ _) rfl
            case s18 =>
              refine Grow.step_on (g := 16) (b := false) (d := 63) (by rfl) (by rfl) (by rfl) (by kernel_rfl) (fun v W h => h) ?_
              intro E W ec eg ef hG hd hu R HR
              have e11 : E (.tmp 11) = .slice (some ⟨q2, o2, none⟩) N c2 := hu 11 (by kernel_rfl)
              clear hd hu
              go_simp
              exact HR.out _ _ (Below.refl _ _) rfl
            case s19 =>
              refine Grow.step_on (g := 16) (b := false) (d := 63) (by rfl) (by rfl) (by rfl) (by kernel_rfl) (fun v W h => h) ?_
              intro E W ec eg ef hG hd hu R HR
              have e65 : E (.tmp 65) = .slice (some ⟨q2, o2, none⟩) N c2 := hd 18 65 (by kernel_rfl)
              clear hd hu
              go_simp
              exact HR.out _ _ (Below.refl _ _) rfl
            case s20 =>
              refine Grow.step_on (g := 16) (b := false) (d := 63) (by rfl) (by rfl) (by rfl) (by kernel_rfl) (fun v W h => h) ?_
              intro E W ec eg ef hG hd hu R HR
              have e66 : E (.tmp 66) = .int .i64 (N : Int) := hd 19 66 (by kernel_rfl)
              clear hd hu
              go_simp
              exact HR.out _ _ (Below.refl _ _) rfl
            case s21 =>
              refine Grow.step_on (g := 16) (b := false) (d := 63) (by rfl) (by rfl) (by rfl) (by kernel_rfl) (fun v W h => h) ?_
              intro E W ec eg ef hG hd hu R HR
              have e64 : E (.tmp 64) = .int .i64 (i' : Int) := hd 17 64 (by kernel_rfl)
              have e67 : E (.tmp 67) = .int .i64 ((N : Int) - 1) := hd 20 67 (by kernel_rfl)
              clear hd hu
              go_simp
              first | exact HR.out _ _ (Below.refl _ _) rfl | exact HR.out _ _ (Below.refl _ _) (show Value.bool _ = Value.bool true by rw [hg])
            case s22 =>
              refine Grow.step_on (g := 16) (b := false) (d := 63) (by rfl) (by rfl) (by rfl) (by kernel_rfl) (fun v W h => h) ?_
              intro E W ec eg ef hG hd hu R HR
              have e68 : E (.tmp 68) = .bool true := hd 21 68 (by kernel_rfl)
              clear hd hu
              go_simp
              exact HR.out _ _ (Below.refl _ _) rfl
            case s23 =>
              refine Grow.step_on (g := 22) (b := true) (d := 69) (by rfl) (by rfl) (by rfl) (by kernel_rfl) (fun v W h => h) ?_
              intro E W ec eg ef hG hd hu R HR
              have e11 : E (.tmp 11) = .slice (some ⟨q2, o2, none⟩) N c2 := hu 11 (by kernel_rfl)
              clear hd hu
              go_simp
              exact HR.out _ _ (Below.refl _ _) rfl
            case s24 =>
              refine Grow.step_on (g := 22) (b := true) (d := 69) (by rfl) (by rfl) (by rfl) (by kernel_rfl) (fun v W h => h) ?_
              intro E W ec eg ef hG hd hu R HR
              have e14 : E (.tmp 14) = .int .i64 (i' : Int) := hu 14 (by kernel_rfl)
              clear hd hu
              go_simp
              exact HR.out _ _ (Below.refl _ _) rfl
            case s25 =>
              refine Grow.step_on (g := 22) (b := true) (d := 69) (by rfl) (by rfl) (by rfl) (by kernel_rfl) (fun v W h => h) ?_
              intro E W ec eg ef hG hd hu R HR
              have e70 : E (.tmp 70) = .slice (some ⟨q2, o2, none⟩) N c2 := hd 23 70 (by kernel_rfl)
              have e71 : E (.tmp 71) = .int .i64 (i' : Int) := hd 24 71 (by kernel_rfl)
              clear hd hu
              go_simp
              first | exact HR.out _ _ (Below.refl _ _) rfl | (rw [if_pos ⟨by omega, by omega⟩]; exact HR.out _ _ (Below.refl _ _) rfl) | (rw [if_pos (by omega)]; exact HR.out _ _ (Below.refl _ _) rfl)
            case s26 =>
              refine Grow.step_on (g := 22) (b := true) (d := 69) (by rfl) (by rfl) (by rfl) (by kernel_rfl) (fun v W h => h) ?_
              intro E W ec eg ef hG hd hu R HR
              have e72 : E (.tmp 72) = .pointer (some ⟨q2, o2 + i', none⟩) := hd 25 72 (by kernel_rfl)
              clear hd hu
              obtain ⟨k1, k2, k3, k4⟩ := HC.out W hG
              go_simp
              exact HR.out _ _ (Below.refl _ _) rfl
            case s27 =>
              refine Grow.step_on (g := 22) (b := true) (d := 69) (by rfl) (by rfl) (by rfl) (by kernel_rfl) (fun v W h => h) ?_
              intro E W ec eg ef hG hd hu R HR
              have e73 : E (.tmp 73) = .slice A5 n5 c5 := hd 26 73 (by kernel_rfl)
              clear hd hu
              go_simp
              exact HR.out _ _ (Below.refl _ _) rfl
            case s28 =>
              refine Grow.step_on (g := 22) (b := true) (d := 69) (by rfl) (by rfl) (by rfl) (by kernel_rfl) (fun v W h => h) ?_
              intro E W ec eg ef hG hd hu R HR
              have e10 : E (.tmp 10) = .pointer (some ⟨q, 0, none⟩) := hu 10 (by kernel_rfl)
              clear hd hu
              go_simp
              exact HR.out _ _ (Below.refl _ _) rfl
            case s29 =>
              refine Grow.step_on (g := 22) (b := true) (d := 69) (by rfl) (by rfl) (by rfl) (by kernel_rfl) (fun v W h => h) ?_
              intro E W ec eg ef hG hd hu R HR
              have e75 : E (.tmp 75) = .pointer (some ⟨q, 0, none⟩) := hd 28 75 (by kernel_rfl)
              clear hd hu
              obtain ⟨k1, k2, k3, k4⟩ := HC.out W hG
              go_simp
              exact HR.out _ _ (Below.refl _ _) rfl
            case s30 =>
              refine Grow.step_on (g := 22) (b := true) (d := 69) (by rfl) (by rfl) (by rfl) (by kernel_rfl) (fun v W h => h) ?_
              intro E W ec eg ef hG hd hu R HR
              have e74 : E (.tmp 74) = .int .i64 (n5 : Int) := hd 27 74 (by kernel_rfl)
              have e76 : E (.tmp 76) = .int .i64 (x + 1) := hd 29 76 (by kernel_rfl)
              clear hd hu
              go_simp
              first | exact HR.out _ _ (Below.refl _ _) rfl | exact HR.out _ _ (Below.refl _ _) (congrArg Value.bool (decide_eq_false (by omega)))
            case s31 =>
              refine Grow.step_on (g := 16) (b := false) (d := 63) (by rfl) (by rfl) (by rfl) (by kernel_rfl) (fun v W h => h) ?_
              intro E W ec eg ef hG hd hu R HR
              have e69 : E (.tmp 69) = .bool true := hd 22 69 (by kernel_rfl)
              have e77 : E (.tmp 77) = .bool false := hd 30 77 (by kernel_rfl)
              clear hd hu
              go_simp
              exact HR.out _ _ (Below.refl _ _) rfl
            case s32 =>
              refine Grow.step_in (by rfl) (by rfl) ?_
              intro E W ec eg ef hG hd hu R HR
              have e63 : E (.tmp 63) = .bool false := hd 16 63 (by kernel_rfl)
              have e78 : E (.tmp 78) = .bool false := hd 31 78 (by kernel_rfl)
              clear hd hu
              go_simp
              exact HR.out _ _ (Below.refl _ _) rfl
          case gfin =>
            intro W hG
            refine Grow.fin_dst (by rfl) ?_
            rintro _ rfl
            refine Grow.fin_dst (by rfl) ?_
            rintro _ rfl
            refine Grow.fin_dst (by rfl) ?_
            rintro _ rfl
            refine Grow.fin_dst (by rfl) ?_
            rintro _ rfl
            refine Grow.fin_dst (by rfl) ?_
            rintro _ rfl
            refine Grow.fin_dst (by rfl) ?_
            rintro _ rfl
            refine Grow.fin_dst (by rfl) ?_
            rintro _ rfl
            refine Grow.fin_dst (by rfl) ?_
            rintro _ rfl
            refine Grow.fin_dst (by rfl) ?_
            rintro _ rfl
            refine Grow.fin_dst (by rfl) ?_
            rintro _ rfl
            refine Grow.fin_dst (by rfl) ?_
            rintro _ rfl
            refine Grow.fin_dst (by rfl) ?_
            rintro _ rfl
            refine Grow.fin_dst (by rfl) ?_
            rintro _ rfl
            refine Grow.fin_dst (by rfl) ?_
            rintro _ rfl
            refine Grow.fin_dst (by rfl) ?_
            rintro _ rfl
            refine Grow.fin_dst (by rfl) ?_
            rintro _ rfl
            refine Grow.fin_dst (by rfl) ?_
            rintro _ rfl
            refine Grow.fin_dst (by rfl) ?_
            rintro _ rfl
            refine Grow.fin_dst (by rfl) ?_
            rintro _ rfl
            refine Grow.fin_dst (by rfl) ?_
            rintro _ rfl
            refine Grow.fin_dst (by rfl) ?_
            rintro _ rfl
            refine Grow.fin_dst (by rfl) ?_
            rintro _ rfl
            refine Grow.fin_dst (by rfl) ?_
            rintro _ rfl
            refine Grow.fin_dst (by rfl) ?_
            rintro _ rfl
            refine Grow.fin_dst (by rfl) ?_
            rintro _ rfl
            refine Grow.fin_dst (by rfl) ?_
            rintro _ rfl
            refine Grow.fin_dst (by rfl) ?_
            rintro _ rfl
            refine Grow.fin_dst (by rfl) ?_
            rintro _ rfl
            refine Grow.fin_dst (by rfl) ?_
            rintro _ rfl
            refine Grow.fin_dst (by rfl) ?_
            rintro _ rfl
            refine Grow.fin_dst (by rfl) ?_
            rintro _ rfl
            refine Grow.fin_dst (by rfl) ?_
            rintro _ rfl
            refine Grow.fin_dst (by rfl) ?_
            rintro _ rfl
            simp only [Act.put, List.setIfInBounds_toArray, List.set_cons_zero, List.set_cons_succ]
            refine Grow.fin_end ?_
            obtain ⟨k1, k2, k3, k4⟩ := HC.out W hG
            have HB2 : Hid (Below w2.heap.size w2 W) := Lib.hid (HR.out.2.trans ((Grow.below_of_drew hG).mono HR.out.2.size))
            clear hG
            go_wp2_with fail
            go_roundw
            case rel => unfold CAl; exact ⟨i' + 1, by have := HP.out.2.1; omega, by simp, by rw [← HF1.out], HB2.out⟩
            case measure => simp only [intOf]; omega
        · have hg : decide ((i' : Int) < (N : Int) - 1) = false := decide_eq_false (by omega)
          clear hi' hbr hp hpb hz1 hz2 hz3 hft hfl hPC hl5 hF1 hpq hlast
          go_wp2_with fail
          refine wp_region_grow (fun W W' => Below W.heap.size W W') (Grow.nth [fun v _ => v = .slice (some ⟨q2, o2, none⟩) N c2, fun v _ => v = .int .i64 (i' : Int), fun v _ => v = .pointer (some ⟨q2, o2 + i', none⟩), fun v _ => v = .slice A5 n5 c5, fun v _ => v = .int .i64 (n5 : Int), fun v _ => v = .bool false, fun v _ => v = .bool false, fun v _ => v = .slice (some ⟨q2, o2, none⟩) N c2, fun v _ => v = .int .i64 (i' : Int), fun v _ => v = .pointer (some ⟨q2, o2 + i', none⟩), fun v _ => v = .slice A5 n5 c5, fun v _ => v = .int .i64 (n5 : Int), fun v _ => v = .pointer (some ⟨q, 1, none⟩), fun v _ => v = .int .i64 (x + 1 + y), fun v _ => v = .bool false, fun v _ => v = .bool false, fun v _ => v = .bool false, fun v _ => v = .int .i64 (i' : Int), fun v _ => v = .slice (some ⟨q2, o2, none⟩) N c2, fun v _ => v = .int .i64 (N : Int), fun v _ => v = .int .i64 ((N : Int) - 1), fun v _ => v = .bool false, fun v _ => v = .bool false, fun v _ => v = undef, fun v _ => v = undef, fun v _ => v = undef, fun v _ => v = undef, fun v _ => v = undef, fun v _ => v = undef, fun v _ => v = undef, fun v _ => v = undef, fun v _ => v = .bool false, fun v _ => v = .bool false]) 95 (by kernel_rfl) (by kernel_rfl) (by rfl) (fun W => Below.refl _ W) (fun _ _ _ h1 h2 => h1.trans (h2.mono h1.size)) (Grow.mono_nth ?gmono) ?gsteps ?gfin
          case gmono => exact ⟨fun _ _ _ h _ => h, fun _ _ _ h _ => h, fun _ _ _ h _ => h, fun _ _ _ h _ => h, fun _ _ _ h _ => h, fun _ _ _ h _ => h, fun _ _ _ h _ => h, fun _ _ _ h _ => h, fun _ _ _ h _ => h, fun _ _ _ h _ => h, fun _ _ _ h _ => h, fun _ _ _ h _ => h, fun _ _ _ h _ => h, fun _ _ _ h _ => h, fun _ _ _ h _ => h, fun _ _ _ h _ => h, fun _ _ _ h _ => h, fun _ _ _ h _ => h, fun _ _ _ h _ => h, fun _ _ _ h _ => h, fun _ _ _ h _ => h, fun _ _ _ h _ => h, fun _ _ _ h _ => h, fun _ _ _ h _ => h, fun _ _ _ h _ => h, fun _ _ _ h _ => h, fun _ _ _ h _ => h, fun _ _ _ h _ => h, fun _ _ _ h _ => h, fun _ _ _ h _ => h, fun _ _ _ h _ => h, fun _ _ _ h _ => h, fun _ _ _ h _ => h, trivial⟩
          case gsteps =>
            show Grow.allBelow _ 33
            refine And.intro ?_ ?s32
            refine And.intro ?_ ?s31
            refine And.intro ?_ ?s30
            refine And.intro ?_ ?s29
            refine And.intro ?_ ?s28
            refine And.intro ?_ ?s27
            refine And.intro ?_ ?s26
            refine And.intro ?_ ?s25
            refine And.intro ?_ ?s24
            refine And.intro ?_ ?s23
            refine And.intro ?_ ?s22
            refine And.intro ?_ ?s21
            refine And.intro ?_ ?s20
            refine And.intro ?_ ?s19
            refine And.intro ?_ ?s18
            refine And.intro ?_ ?s17
            refine And.intro ?_ ?s16
            refine And.intro ?_ ?s15
            refine And.intro ?_ ?s14
            refine And.intro ?_ ?s13
            refine And.intro ?_ ?s12
            refine And.intro ?_ ?s11
            refine And.intro ?_ ?s10
            refine And.intro ?_ ?s9
            refine And.intro ?_ ?s8
            refine And.intro ?_ ?s7
            refine And.intro ?_ ?s6
            refine And.intro ?_ ?s5
            refine And.intro ?_ ?s4
            refine And.intro ?_ ?s3
            refine And.intro ?_ ?s2
            refine And.intro ?_ ?s1
            refine And.intro ?_ ?s0
            exact trivial
            case s0 =>
              refine Grow.step_in (by rfl) (by rfl) ?_
              intro E W ec eg ef hG hd hu R HR
              have e11 : E (.tmp 11) = .slice (some ⟨q2, o2, none⟩) N c2 := hu 11 (by kernel_rfl)
              clear hd hu
              go_simp
              exact HR.out _ _ (Below.refl _ _) rfl
            case s1 =>
              refine Grow.step_in (by rfl) (by rfl) ?_
              intro E W ec eg ef hG hd hu R HR
              have e14 : E (.tmp 14) = .int .i64 (i' : Int) := hu 14 (by kernel_rfl)
              clear hd hu
              go_simp
              exact HR.out _ _ (Below.refl _ _) rfl
            case s2 =>
              refine Grow.step_in (by rfl) (by rfl) ?_
              intro E W ec eg ef hG hd hu R HR
              have e47 : E (.tmp 47) = .slice (some ⟨q2, o2, none⟩) N c2 := hd 0 47 (by kernel_rfl)
              have e48 : E (.tmp 48) = .int .i64 (i' : Int) := hd 1 48 (by kernel_rfl)
              clear hd hu
              go_simp
              first | exact HR.out _ _ (Below.refl _ _) rfl | (rw [if_pos ⟨by omega, by omega⟩]; exact HR.out _ _ (Below.refl _ _) rfl) | (rw [if_pos (by omega)]; exact HR.out _ _ (Below.refl _ _) rfl)
            case s3 =>
              refine Grow.step_in (by rfl) (by rfl) ?_
              intro E W ec eg ef hG hd hu R HR
              have e49 : E (.tmp 49) = .pointer (some ⟨q2, o2 + i', none⟩) := hd 2 49 (by kernel_rfl)
              clear hd hu
              obtain ⟨k1, k2, k3, k4⟩ := HC.out W hG
              go_simp
              exact HR.out _ _ (Below.refl _ _) rfl
            case s4 =>
              refine Grow.step_in (by rfl) (by rfl) ?_
              intro E W ec eg ef hG hd hu R HR
              have e50 : E (.tmp 50) = .slice A5 n5 c5 := hd 3 50 (by kernel_rfl)
              clear hd hu
              go_simp
              exact HR.out _ _ (Below.refl _ _) rfl
            case s5 =>
              refine Grow.step_in (by rfl) (by rfl) ?_
              intro E W ec eg ef hG hd hu R HR
              have e51 : E (.tmp 51) = .int .i64 (n5 : Int) := hd 4 51 (by kernel_rfl)
              clear hd hu
              go_simp
              first | exact HR.out _ _ (Below.refl _ _) rfl | exact HR.out _ _ (Below.refl _ _) (congrArg Value.bool (decide_eq_false (by omega)))
            case s6 =>
              refine Grow.step_in (by rfl) (by rfl) ?_
              intro E W ec eg ef hG hd hu R HR
              have e52 : E (.tmp 52) = .bool false := hd 5 52 (by kernel_rfl)
              clear hd hu
              go_simp
              exact HR.out _ _ (Below.refl _ _) rfl
            case s7 =>
              refine Grow.step_on (g := 6) (b := false) (d := 53) (by rfl) (by rfl) (by rfl) (by kernel_rfl) (fun v W h => h) ?_
              intro E W ec eg ef hG hd hu R HR
              have e11 : E (.tmp 11) = .slice (some ⟨q2, o2, none⟩) N c2 := hu 11 (by kernel_rfl)
              clear hd hu
              go_simp
              exact HR.out _ _ (Below.refl _ _) rfl
            case s8 =>
              refine Grow.step_on (g := 6) (b := false) (d := 53) (by rfl) (by rfl) (by rfl) (by kernel_rfl) (fun v W h => h) ?_
              intro E W ec eg ef hG hd hu R HR
              have e14 : E (.tmp 14) = .int .i64 (i' : Int) := hu 14 (by kernel_rfl)
              clear hd hu
              go_simp
              exact HR.out _ _ (Below.refl _ _) rfl
            case s9 =>
              refine Grow.step_on (g := 6) (b := false) (d := 53) (by rfl) (by rfl) (by rfl) (by kernel_rfl) (fun v W h => h) ?_
              intro E W ec eg ef hG hd hu R HR
              have e54 : E (.tmp 54) = .slice (some ⟨q2, o2, none⟩) N c2 := hd 7 54 (by kernel_rfl)
              have e55 : E (.tmp 55) = .int .i64 (i' : Int) := hd 8 55 (by kernel_rfl)
              clear hd hu
              go_simp
              first | exact HR.out _ _ (Below.refl _ _) rfl | (rw [if_pos ⟨by omega, by omega⟩]; exact HR.out _ _ (Below.refl _ _) rfl) | (rw [if_pos (by omega)]; exact HR.out _ _ (Below.refl _ _) rfl)
            case s10 =>
              refine Grow.step_on (g := 6) (b := false) (d := 53) (by rfl) (by rfl) (by rfl) (by kernel_rfl) (fun v W h => h) ?_
              intro E W ec eg ef hG hd hu R HR
              have e56 : E (.tmp 56) = .pointer (some ⟨q2, o2 + i', none⟩) := hd 9 56 (by kernel_rfl)
              clear hd hu
              obtain ⟨k1, k2, k3, k4⟩ := HC.out W hG
              go_simp
              exact HR.out _ _ (Below.refl _ _) rfl
            case s11 =>
              refine Grow.step_on (g := 6) (b := false) (d := 53) (by rfl) (by rfl) (by rfl) (by kernel_rfl) (fun v W h => h) ?_
              intro E W ec eg ef hG hd hu R HR
              have e57 : E (.tmp 57) = .slice A5 n5 c5 := hd 10 57 (by kernel_rfl)
              clear hd hu
              go_simp
              exact HR.out _ _ (Below.refl _ _) rfl
            case s12 =>
              refine Grow.step_on (g := 6) (b := false) (d := 53) (by rfl) (by rfl) (by rfl) (by kernel_rfl) (fun v W h => h) ?_
              intro E W ec eg ef hG hd hu R HR
              have e10 : E (.tmp 10) = .pointer (some ⟨q, 0, none⟩) := hu 10 (by kernel_rfl)
              clear hd hu
              go_simp
              exact HR.out _ _ (Below.refl _ _) rfl
            case s13 =>
              refine Grow.step_on (g := 6) (b := false) (d := 53) (by rfl) (by rfl) (by rfl) (by kernel_rfl) (fun v W h => h) ?_
              intro E W ec eg ef hG hd hu R HR
              have e59 : E (.tmp 59) = .pointer (some ⟨q, 1, none⟩) := hd 12 59 (by kernel_rfl)
              clear hd hu
              obtain ⟨k1, k2, k3, k4⟩ := HC.out W hG
              go_simp
              exact HR.out _ _ (Below.refl _ _) rfl
            case s14 =>
              refine Grow.step_on (g := 6) (b := false) (d := 53) (by rfl) (by rfl) (by rfl) (by kernel_rfl) (fun v W h => h) ?_
              intro E W ec eg ef hG hd hu R HR
              have e58 : E (.tmp 58) = .int .i64 (n5 : Int) := hd 11 58 (by kernel_rfl)
              have e60 : E (.tmp 60) = .int .i64 (x + 1 + y) := hd 13 60 (by kernel_rfl)
              clear hd hu
              go_simp
              first | exact HR.out _ _ (Below.refl _ _) rfl | exact HR.out _ _ (Below.refl _ _) (congrArg Value.bool (decide_eq_false (by omega)))
            case s15 =>
              refine Grow.step_in (by rfl) (by rfl) ?_
              intro E W ec eg ef hG hd hu R HR
              have e53 : E (.tmp 53) = .bool false := hd 6 53 (by kernel_rfl)
              have e61 : E (.tmp 61) = .bool false := hd 14 61 (by kernel_rfl)
              clear hd hu
              go_simp
              exact HR.out _ _ (Below.refl _ _) rfl
            case s16 =>
              refine Grow.step_in (by rfl) (by rfl) ?_
              intro E W ec eg ef hG hd hu R HR
              have e62 : E (.tmp 62) = .bool false := hd 15 62 (by kernel_rfl)
              clear hd hu
              go_simp
              exact HR.out _ _ (Below.refl _ _) rfl
            case s17 =>
              refine Grow.step_on (g := 16) (b := false) (d := 63) (by rfl) (by rfl) (by rfl) (by kernel_rfl) (fun v W h => h) ?_
              intro E W ec eg ef hG hd hu R HR
              have e14 : E (.tmp 14) = .int .i64 (i' : Int) := hu 14 (by kernel_rfl)
              clear hd hu
              go_simp
              exact HR.out _ _ (Below.refl _ _) rfl
            case s18 =>
              refine Grow.step_on (g := 16) (b := false) (d := 63) (by rfl) (by rfl) (by rfl) (by kernel_rfl) (fun v W h => h) ?_
              intro E W ec eg ef hG hd hu R HR
              have e11 : E (.tmp 11) = .slice (some ⟨q2, o2, none⟩) N c2 := hu 11 (by kernel_rfl)
              clear hd hu
              go_simp
              exact HR.out _ _ (Below.refl _ _) rfl
            case s19 =>
              refine Grow.step_on (g := 16) (b := false) (d := 63) (by rfl) (by rfl) (by rfl) (by kernel_rfl) (fun v W h => h) ?_
              intro E W ec eg ef hG hd hu R HR
              have e65 : E (.tmp 65) = .slice (some ⟨q2, o2, none⟩) N c2 := hd 18 65 (by kernel_rfl)
              clear hd hu
              go_simp
              exact HR.out _ _ (Below.refl _ _) rfl
            case s20 =>
              refine Grow.step_on (g := 16) (b := false) (d := 63) (by rfl) (by rfl) (by rfl) (by kernel_rfl) (fun v W h => h) ?_
              intro E W ec eg ef hG hd hu R HR
              have e66 : E (.tmp 66) = .int .i64 (N : Int) := hd 19 66 (by kernel_rfl)
              clear hd hu
              go_simp
              exact HR.out _ _ (Below.refl _ _) rfl
            case s21 =>
              refine Grow.step_on (g := 16) (b := false) (d := 63) (by rfl) (by rfl) (by rfl) (by kernel_rfl) (fun v W h => h) ?_
              intro E W ec eg ef hG hd hu R HR
              have e64 : E (.tmp 64) = .int .i64 (i' : Int) := hd 17 64 (by kernel_rfl)
              have e67 : E (.tmp 67) = .int .i64 ((N : Int) - 1) := hd 20 67 (by kernel_rfl)
              clear hd hu
              go_simp
              first | exact HR.out _ _ (Below.refl _ _) rfl | exact HR.out _ _ (Below.refl _ _) (show Value.bool _ = Value.bool false by rw [hg])
            case s22 =>
              refine Grow.step_on (g := 16) (b := false) (d := 63) (by rfl) (by rfl) (by rfl) (by kernel_rfl) (fun v W h => h) ?_
              intro E W ec eg ef hG hd hu R HR
              have e68 : E (.tmp 68) = .bool false := hd 21 68 (by kernel_rfl)
              clear hd hu
              go_simp
              exact HR.out _ _ (Below.refl _ _) rfl
            case s23 =>
              exact Grow.step_off (g := 22) (b := true) (b' := false) (d := 69) (by rfl) (by rfl) (by rfl) (by kernel_rfl) (fun v W h => h) (by decide) (fun _ => rfl)
            case s24 =>
              exact Grow.step_off (g := 22) (b := true) (b' := false) (d := 69) (by rfl) (by rfl) (by rfl) (by kernel_rfl) (fun v W h => h) (by decide) (fun _ => rfl)
            case s25 =>
              exact Grow.step_off (g := 22) (b := true) (b' := false) (d := 69) (by rfl) (by rfl) (by rfl) (by kernel_rfl) (fun v W h => h) (by decide) (fun _ => rfl)
            case s26 =>
              exact Grow.step_off (g := 22) (b := true) (b' := false) (d := 69) (by rfl) (by rfl) (by rfl) (by kernel_rfl) (fun v W h => h) (by decide) (fun _ => rfl)
            case s27 =>
              exact Grow.step_off (g := 22) (b := true) (b' := false) (d := 69) (by rfl) (by rfl) (by rfl) (by kernel_rfl) (fun v W h => h) (by decide) (fun _ => rfl)
            case s28 =>
              exact Grow.step_off (g := 22) (b := true) (b' := false) (d := 69) (by rfl) (by rfl) (by rfl) (by kernel_rfl) (fun v W h => h) (by decide) (fun _ => rfl)
            case s29 =>
              exact Grow.step_off (g := 22) (b := true) (b' := false) (d := 69) (by rfl) (by rfl) (by rfl) (by kernel_rfl) (fun v W h => h) (by decide) (fun _ => rfl)
            case s30 =>
              exact Grow.step_off (g := 22) (b := true) (b' := false) (d := 69) (by rfl) (by rfl) (by rfl) (by kernel_rfl) (fun v W h => h) (by decide) (fun _ => rfl)
            case s31 =>
              refine Grow.step_on (g := 16) (b := false) (d := 63) (by rfl) (by rfl) (by rfl) (by kernel_rfl) (fun v W h => h) ?_
              intro E W ec eg ef hG hd hu R HR
              have e69 : E (.tmp 69) = .bool false := hd 22 69 (by kernel_rfl)
              have e77 : E (.tmp 77) = undef := hd 30 77 (by kernel_rfl)
              clear hd hu
              go_simp
              exact HR.out _ _ (Below.refl _ _) rfl
            case s32 =>
              refine Grow.step_in (by rfl) (by rfl) ?_
              intro E W ec eg ef hG hd hu R HR
              have e63 : E (.tmp 63) = .bool false := hd 16 63 (by kernel_rfl)
              have e78 : E (.tmp 78) = .bool false := hd 31 78 (by kernel_rfl)
              clear hd hu
              go_simp
              exact HR.out _ _ (Below.refl _ _) rfl
          case gfin =>
            intro W hG
            refine Grow.fin_dst (by rfl) ?_
            rintro _ rfl
            refine Grow.fin_dst (by rfl) ?_
            rintro _ rfl
            refine Grow.fin_dst (by rfl) ?_
            rintro _ rfl
            refine Grow.fin_dst (by rfl) ?_
            rintro _ rfl
            refine Grow.fin_dst (by rfl) ?_
            rintro _ rfl
            refine Grow.fin_dst (by rfl) ?_
            rintro _ rfl
            refine Grow.fin_dst (by rfl) ?_
            rintro _ rfl
            refine Grow.fin_dst (by rfl) ?_
            rintro _ rfl
            refine Grow.fin_dst (by rfl) ?_
            rintro _ rfl
            refine Grow.fin_dst (by rfl) ?_
            rintro _ rfl
            refine Grow.fin_dst (by rfl) ?_
            rintro _ rfl
            refine Grow.fin_dst (by rfl) ?_
            rintro _ rfl
            refine Grow.fin_dst (by rfl) ?_
            rintro _ rfl
            refine Grow.fin_dst (by rfl) ?_
            rintro _ rfl
            refine Grow.fin_dst (by rfl) ?_
            rintro _ rfl
            refine Grow.fin_dst (by rfl) ?_
            rintro _ rfl
            refine Grow.fin_dst (by rfl) ?_
            rintro _ rfl
            refine Grow.fin_dst (by rfl) ?_
            rintro _ rfl
            refine Grow.fin_dst (by rfl) ?_
            rintro _ rfl
            refine Grow.fin_dst (by rfl) ?_
            rintro _ rfl
            refine Grow.fin_dst (by rfl) ?_
            rintro _ rfl
            refine Grow.fin_dst (by rfl) ?_
            rintro _ rfl
            refine Grow.fin_dst (by rfl) ?_
            rintro _ rfl
            refine Grow.fin_dst (by rfl) ?_
            rintro _ rfl
            refine Grow.fin_dst (by rfl) ?_
            rintro _ rfl
            refine Grow.fin_dst (by rfl) ?_
            rintro _ rfl
            refine Grow.fin_dst (by rfl) ?_
            rintro _ rfl
            refine Grow.fin_dst (by rfl) ?_
            rintro _ rfl
            refine Grow.fin_dst (by rfl) ?_
            rintro _ rfl
            refine Grow.fin_dst (by rfl) ?_
            rintro _ rfl
            refine Grow.fin_dst (by rfl) ?_
            rintro _ rfl
            refine Grow.fin_dst (by rfl) ?_
            rintro _ rfl
            refine Grow.fin_dst (by rfl) ?_
            rintro _ rfl
            simp only [Act.put, List.setIfInBounds_toArray, List.set_cons_zero, List.set_cons_succ]
            refine Grow.fin_end ?_
            obtain ⟨k1, k2, k3, k4⟩ := HC.out W hG
            have HB2 : Hid (Below w2.heap.size w2 W) := Lib.hid (HR.out.2.trans ((Grow.below_of_drew hG).mono HR.out.2.size))
            clear hG
            go_wp2_with fail
            go_roundw
            case rel => unfold CAl; exact ⟨i' + 1, by have := HP.out.2.1; omega, by simp, by rw [← HF1.out], HB2.out⟩
            case measure => simp only [intOf]; omega
      · have hlt' : ¬ (i' : Int) < (N : Int) := by omega
        obtain rfl : N = i' := by have := HP.out.2.1; omega
        have hs := byt_string (H0.out.1.below (H2.out.1.trans (hbr.mono H2.out.1.size)))
        have hall : (PP.take N).flatten = b := by rw [← HP.out.2.1, List.take_length]; exact HP.out.1
        rw [hall]
        have hse : ((st b).toList == b) = true := by rw [st_list]; simp
        clear hi' hbr hall
        go_wp2_with fail
        go_ret
        exact ⟨rfl, H2.out.1.trans (HR.out.2.mono H2.out.1.size)⟩
  · have h1' : (2000 : Int) < (n : Int) := by omega
    clear h1 hln hxb hyb hzb
    go_enter Try.func4, Try.ntmps4
    go_wp2_with (go_at_call 8; refine haw.mono ?_; clear haw; rintro _ w1 ⟨rfl, hb1⟩)
    go_ret
    exact ⟨rfl, hb1⟩
end Go.Proofs.Ytcmdiclbbcdceaa
