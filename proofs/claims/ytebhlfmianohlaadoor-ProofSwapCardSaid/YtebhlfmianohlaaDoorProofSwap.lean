/-
  The statement ProofSwap: its walk.
-/
import Derived.Test.YtebhlfmianohlaaDoorProofAwake
import Derived.Test.YtebhlfmianohlaaDoorProofRefCheck
namespace Go.Proofs.YtebhlfmianohlaaDoor
open Go.RowKit

set_option maxHeartbeats 8000000 in
set_option maxRecDepth 100000 in
theorem walk_swap {w : World} {S : Nat → Prop} {A : Option Addr} {n c : Nat} {b : List UInt8} (h : Byt w S A n c b) {i0 k0 : Int} (hi0 : (Lit.int .u16 i0).wf = true) (hk0 : (Lit.int .u16 k0).wf = true) (own : Bool) (ht : Tab w) :
    Calls Tryd.prog 8 #[.slice A n c, .int .u16 i0, .int .u16 k0, .bool own] w fun e w' => e = .returned (.bool true) ∧ Below w.heap.size w w' := by
  have hib := bounds_u16 hi0
  have hkb := bounds_u16 hk0
  obtain ⟨i, rfl⟩ := Int.eq_ofNat_of_zero_le hib.1
  obtain ⟨k, rfl⟩ := Int.eq_ofNat_of_zero_le hkb.1
  have hi : i < 65536 := by omega
  have hk : k < 65536 := by omega
  clear hib hkb hi0 hk0
  have haw := pawake_true ht
  have HH0 := Lib.hid (And.intro h ht)
  by_cases hn : n ≤ 800
  · have hz := zero_id
    have hn' : ¬ (800 : Int) < (n : Int) := by omega
    obtain ⟨RS, hRS⟩ : ∃ RS, RS = row8 (rootL b) := ⟨_, rfl⟩
    have HRS : Hid (RS = row8 (rootL b) ∧ RS.size = 32 ∧ RS.all (·.oneCell') = true) := Lib.hid ⟨hRS, by rw [hRS, row8_size]; exact crownD_length _ _, by rw [hRS]; exact row8_one _⟩
    obtain ⟨N, hN⟩ : ∃ N, N = (splitL b).length := ⟨_, rfl⟩
    have hlb := leaves_at b
    rw [h.len] at hlb
    have hN6 : N ≤ 1000 := by rw [hN]; split at hlb <;> omega
    have hNp : 0 < N := by rw [hN]; exact splitL_pos b
    have HN := Lib.hid (And.intro hN (And.intro hN6 hNp))
    have hne : ¬ (N : Int) = 0 := by omega
    have hi64 := IntWalk.wrap64_in (i : Int) (by omega)
    have hk64 := IntWalk.wrap64_in (k : Int) (by omega)
    clear hRS h ht hlb hN hN6 hNp
    go_enter Tryd.func8, Tryd.ntmps8
    go_wp2_with (first
      | (go_at_call 9; refine haw.mono ?_; clear haw; rintro _ w1 ⟨rfl, hb1⟩
         have hlv := leaves_any (HH0.out.1.below hb1)
         rw [← HN.out.1] at hlv
         have HB1 := Lib.hid hb1
         clear hb1)
      | (go_at_call 14; refine hlv.mono ?_; clear hlv; rintro _ _ ⟨rfl, rfl⟩))
    obtain ⟨p, hp, hpN⟩ : ∃ p : Nat, (i : Int) % (N : Int) = (p : Int) ∧ p < N := ⟨i % N, by omega, Nat.mod_lt _ HN.out.2.2⟩
    obtain ⟨q, hq, hqN⟩ : ∃ q : Nat, (k : Int) % (N : Int) = (q : Int) ∧ q < N := ⟨k % N, by omega, Nat.mod_lt _ HN.out.2.2⟩
    simp only [hp, hq]
    have HP := Lib.hid (And.intro hpN hqN)
    clear hp hq hpN hqN hi64 hk64 hne hi hk
    have hro := root_any (HH0.out.1.below HB1.out) (by omega) (HH0.out.2.below HB1.out)
    rw [← HRS.out.1] at hro
    refine hro.mono ?_
    clear hro
    rintro _ w2 ⟨rfl, hb2⟩
    have HG := Lib.hid (heap_alloc_new w2 (.cells zerosId 31))
    have hb23 : Below w2.heap.size w2 ((w2.alloc (.cells zerosId 31)).setRow w2.heap.size RS) := below_setRow ((Below.refl _ _).alloc (Nat.le_refl _) _) (Nat.le_refl _) _
    have hb02 := HB1.out.trans (hb2.mono HB1.out.size)
    have hb03 := hb02.trans (hb23.mono hb02.size)
    have hset := setRow_at (new := RS) HG.out
    have H3 : Hid (((w2.alloc (.cells zerosId 31)).setRow w2.heap.size RS).heap[w2.heap.size]? = some (.cells RS 31 (0, 0)) ∧ Below w.heap.size w ((w2.alloc (.cells zerosId 31)).setRow w2.heap.size RS)) := Lib.hid ⟨hset, hb03⟩
    obtain ⟨l1, hl1⟩ : ∃ l1, l1 = (splitL b)[p]?.getD [] := ⟨_, rfl⟩
    obtain ⟨l2, hl2⟩ : ∃ l2, l2 = (splitL b)[q]?.getD [] := ⟨_, rfl⟩
    obtain ⟨y1, hy1⟩ : ∃ y1, y1 = wayL (digs b) p := ⟨_, rfl⟩
    obtain ⟨y2, hy2⟩ : ∃ y2, y2 = wayL (digs b) q := ⟨_, rfl⟩
    have HLL := Lib.hid (And.intro hl1 (And.intro hl2 (And.intro hy1 hy2)))
    have hps : p < (splitL b).length := by have h1 := HP.out; have h2 := HN.out.1; omega
    have hqs : q < (splitL b).length := by have h1 := HP.out; have h2 := HN.out.1; omega
    have HLE : Hid (l1.length ≤ 1000 ∧ l2.length ≤ 1000) := Lib.hid ⟨by
      rw [hl1, List.getElem?_eq_getElem hps]
      exact Nat.le_trans (splitL_le b _ (List.getElem_mem hps)) (by omega), by
      rw [hl2, List.getElem?_eq_getElem hqs]
      exact Nat.le_trans (splitL_le b _ (List.getElem_mem hqs)) (by omega)⟩
    have HPV : Hid (∀ W, Below w.heap.size w W → Calls Tryd.prog 10 #[.slice A n c, .int .i64 (p : Int)] W fun e w' => ∃ A1 n1 c1 A2 n2 c2, e = .returned (.tuple #[.slice A1 n1 c1, .slice A2 n2 c2, .int .i64 0]) ∧ Byt w' (W.heap.size ≤ ·) A1 n1 c1 l1 ∧ Ids w' (W.heap.size ≤ ·) A2 n2 c2 y1 ∧ Below W.heap.size W w') := Lib.hid fun W hW => by
      have hrg : (0 : Int) ≤ (p : Int) ∧ (p : Int) < ((splitL b).length : Int) := by omega
      have hpv := prove_any (HH0.out.1.below hW) (by omega) (HH0.out.2.below hW) (p : Int)
      rw [proveErr, if_pos hrg, proveLeaf, if_pos hrg, proveWay, if_pos hrg, Int.toNat_natCast, ← hl1, ← hy1] at hpv
      exact hpv
    have HQV : Hid (∀ W, Below w.heap.size w W → Calls Tryd.prog 10 #[.slice A n c, .int .i64 (q : Int)] W fun e w' => ∃ A1 n1 c1 A2 n2 c2, e = .returned (.tuple #[.slice A1 n1 c1, .slice A2 n2 c2, .int .i64 0]) ∧ Byt w' (W.heap.size ≤ ·) A1 n1 c1 l2 ∧ Ids w' (W.heap.size ≤ ·) A2 n2 c2 y2 ∧ Below W.heap.size W w') := Lib.hid fun W hW => by
      have hrg : (0 : Int) ≤ (q : Int) ∧ (q : Int) < ((splitL b).length : Int) := by omega
      have hpv := prove_any (HH0.out.1.below hW) (by omega) (HH0.out.2.below hW) (q : Int)
      rw [proveErr, if_pos hrg, proveLeaf, if_pos hrg, proveWay, if_pos hrg, Int.toNat_natCast, ← hl2, ← hy2] at hpv
      exact hpv
    clear hb2 hb23 hb02 hb03 hset hl1 hl2 hy1 hy2 hps hqs
    go_wp2_with (first
      | (refine wpList_store_row (by rfl) 31 (.tmp 13) (.tmp 37) (by rfl) w2.heap.size RS (by rfl) (by rfl) 31 zerosId HG.out (by rw [HRS.out.2.1]; exact id_info) (by rw [HRS.out.2.1]; rfl) HRS.out.2.2 ?_
         generalize (w2.alloc (.cells zerosId 31)).setRow w2.heap.size RS = w3 at H3 ⊢
         have hpv := HPV.out w3 H3.out.2)
      | (go_at_call 10; refine hpv.mono ?_; clear hpv; rintro _ w4 ⟨A1, n1, c1, A2, n2, c2, rfl, hy1, hi1, hb4⟩
         have hb04 := H3.out.2.trans (hb4.mono H3.out.2.size)
         have hqv := HQV.out w4 hb04
         have H4 := Lib.hid (And.intro hy1 (And.intro hi1 (And.intro hb04 ((hb4.block _ (lt_of_cells H3.out.1)).trans H3.out.1))))
         clear hy1 hi1 hb4 hb04)
      | (go_at_call 10; refine hqv.mono ?_; clear hqv; rintro _ w5 ⟨B1, m1, d1, B2, m2, d2, rfl, hy2, hi2, hb5⟩
         have hb05 := H4.out.2.2.1.trans (hb5.mono H4.out.2.2.1.size)
         have H5 : Hid (Byt w5 (w3.heap.size ≤ ·) A1 n1 c1 l1 ∧ Ids w5 (w3.heap.size ≤ ·) A2 n2 c2 y1 ∧ Byt w5 (w4.heap.size ≤ ·) B1 m1 d1 l2 ∧ Ids w5 (w4.heap.size ≤ ·) B2 m2 d2 y2 ∧ Below w.heap.size w w5 ∧ w5.heap[w2.heap.size]? = some (.cells RS 31 (0, 0)) ∧ Tab w5) := Lib.hid ⟨H4.out.1.below hb5, H4.out.2.1.below hb5, hy2, hi2, hb05, (hb5.block _ (lt_of_cells H4.out.2.2.2)).trans H4.out.2.2.2, HH0.out.2.below hb05⟩
         clear hy2 hi2 hb5 hb05
         cases own))
    · skip
      obtain ⟨V1, hV1⟩ : ∃ V, V = checkL (rootL b) (N : Int) (q : Int) l1 y2 := ⟨_, rfl⟩
      obtain ⟨V2, hV2⟩ : ∃ V, V = checkL (rootL b) (N : Int) (p : Int) l2 y2 := ⟨_, rfl⟩
      have HV1 := Lib.hid hV1
      have HV2 := Lib.hid hV2
      have HD : Hid (w5.drew.heap[w2.heap.size]? = some (.cells RS 31 (0, 0)) ∧ Byt w5.drew (w3.heap.size ≤ ·) A1 n1 c1 l1 ∧ Ids w5.drew (w3.heap.size ≤ ·) A2 n2 c2 y1 ∧ Byt w5.drew (w4.heap.size ≤ ·) B1 m1 d1 l2 ∧ Ids w5.drew (w4.heap.size ≤ ·) B2 m2 d2 y2 ∧ Tab w5.drew) := Lib.hid ⟨H5.out.2.2.2.2.2.1, H5.out.1.drew, H5.out.2.1.drew, H5.out.2.2.1.drew, H5.out.2.2.2.1.drew, H5.out.2.2.2.2.2.2.drew⟩
      clear hV1 hV2
      refine wp_region_grow (fun W W' => Below W.heap.size W W') (Grow.nth [fun v _ => v = .agg RS, fun v _ => v = .int .i64 (N : Int), fun v _ => v = .int .i64 (q : Int), fun v _ => v = .slice A1 n1 c1, fun v _ => v = .slice B2 m2 d2, fun v _ => v = .int .i64 V1, fun v _ => v = .agg RS, fun v _ => v = .int .i64 (N : Int), fun v _ => v = .int .i64 (q : Int), fun v _ => v = .slice A1 n1 c1, fun v _ => v = .string (st l1), fun v _ => v = .slice B2 m2 d2, fun v _ => v = .int .i64 V1, fun v _ => v = .bool true, fun v _ => v = .bool true, fun v _ => v = .agg RS, fun v _ => v = .int .i64 (N : Int), fun v _ => v = .int .i64 (p : Int), fun v _ => v = .slice B1 m1 d1, fun v _ => v = .slice B2 m2 d2, fun v _ => v = .int .i64 V2, fun v _ => v = .agg RS, fun v _ => v = .int .i64 (N : Int), fun v _ => v = .int .i64 (p : Int), fun v _ => v = .slice B1 m1 d1, fun v _ => v = .string (st l2), fun v _ => v = .slice B2 m2 d2, fun v _ => v = .int .i64 V2, fun v _ => v = .bool true, fun v _ => v = .bool true, fun v _ => v = .bool true]) 90 (by kernel_rfl) (by kernel_rfl) (by rfl) (fun W => Below.refl _ W) (fun _ _ _ h1 h2 => h1.trans (h2.mono h1.size)) (Grow.mono_nth ?gmono) ?gsteps ?gfin
      case gmono => exact ⟨fun _ _ _ h _ => h, fun _ _ _ h _ => h, fun _ _ _ h _ => h, fun _ _ _ h _ => h, fun _ _ _ h _ => h, fun _ _ _ h _ => h, fun _ _ _ h _ => h, fun _ _ _ h _ => h, fun _ _ _ h _ => h, fun _ _ _ h _ => h, fun _ _ _ h _ => h, fun _ _ _ h _ => h, fun _ _ _ h _ => h, fun _ _ _ h _ => h, fun _ _ _ h _ => h, fun _ _ _ h _ => h, fun _ _ _ h _ => h, fun _ _ _ h _ => h, fun _ _ _ h _ => h, fun _ _ _ h _ => h, fun _ _ _ h _ => h, fun _ _ _ h _ => h, fun _ _ _ h _ => h, fun _ _ _ h _ => h, fun _ _ _ h _ => h, fun _ _ _ h _ => h, fun _ _ _ h _ => h, fun _ _ _ h _ => h, fun _ _ _ h _ => h, fun _ _ _ h _ => h, fun _ _ _ h _ => h, trivial⟩
      case gsteps =>
        show Grow.allBelow _ 31
        refine And.intro ?_ ?s30
        refine And.intro ?_ ?s29
        refine And.intro ?_ ?s28
        refine And.intro ?_ ?s27
        refine And.intro ?_ ?s26
        refine And.intro ?_ ?s25
        refine And.intro ?_ ?s24
        refine And.intro ?_ ?s23
        refine And.intro ?_ ?s22
        refine And.intro ?_ ?s21
        refine And.intro ?_ ?s20
        refine And.intro ?_ ?s19
        refine And.intro ?_ ?s18
        refine And.intro ?_ ?s17
        refine And.intro ?_ ?s16
        refine And.intro ?_ ?s15
        refine And.intro ?_ ?s14
        refine And.intro ?_ ?s13
        refine And.intro ?_ ?s12
        refine And.intro ?_ ?s11
        refine And.intro ?_ ?s10
        refine And.intro ?_ ?s9
        refine And.intro ?_ ?s8
        refine And.intro ?_ ?s7
        refine And.intro ?_ ?s6
        refine And.intro ?_ ?s5
        refine And.intro ?_ ?s4
        refine And.intro ?_ ?s3
        refine And.intro ?_ ?s2
        refine And.intro ?_ ?s1
        refine And.intro ?_ ?s0
        exact trivial
        case s0 =>
          refine Grow.step_in (by rfl) (by rfl) ?_
          intro E W ec eg ef hG hd hu R HR
          have e13 : E (.tmp 13) = .pointer (some ⟨w2.heap.size, 0, none⟩) := hu 13 (by kernel_rfl)
          clear hd hu
          exact runs_load 31 (.tmp 13) rfl (w2.heap.size) e13 RS (0, 0) ((hG.block _ (lt_of_cells HD.out.1)).trans HD.out.1) Tryd.underlying31 (by rw [HRS.out.2.1]; exact id_info) (HR.out _ _ (Below.refl _ _) rfl)
        case s1 =>
          refine Grow.step_in (by rfl) (by rfl) ?_
          intro E W ec eg ef hG hd hu R HR
          have e10 : E (.tmp 10) = .int .i64 (N : Int) := hu 10 (by kernel_rfl)
          clear hd hu
          go_simp
          exact HR.out _ _ (Below.refl _ _) rfl
        case s2 =>
          refine Grow.step_in (by rfl) (by rfl) ?_
          intro E W ec eg ef hG hd hu R HR
          have e12 : E (.tmp 12) = .int .i64 (q : Int) := hu 12 (by kernel_rfl)
          clear hd hu
          go_simp
          exact HR.out _ _ (Below.refl _ _) rfl
        case s3 =>
          refine Grow.step_in (by rfl) (by rfl) ?_
          intro E W ec eg ef hG hd hu R HR
          have e14 : E (.tmp 14) = .slice A1 n1 c1 := hu 14 (by kernel_rfl)
          clear hd hu
          go_simp
          exact HR.out _ _ (Below.refl _ _) rfl
        case s4 =>
          refine Grow.step_in (by rfl) (by rfl) ?_
          intro E W ec eg ef hG hd hu R HR
          have e18 : E (.tmp 18) = .slice B2 m2 d2 := hu 18 (by kernel_rfl)
          clear hd hu
          go_simp
          exact HR.out _ _ (Below.refl _ _) rfl
        case s5 =>
          refine Grow.step_in (by rfl) (by rfl) ?_
          intro E W ec eg ef hG hd hu R HR
          have e60 : E (.tmp 60) = .agg RS := hd 0 60 (by kernel_rfl)
          have e61 : E (.tmp 61) = .int .i64 (N : Int) := hd 1 61 (by kernel_rfl)
          have e62 : E (.tmp 62) = .int .i64 (q : Int) := hd 2 62 (by kernel_rfl)
          have e63 : E (.tmp 63) = .slice A1 n1 c1 := hd 3 63 (by kernel_rfl)
          have e64 : E (.tmp 64) = .slice B2 m2 d2 := hd 4 64 (by kernel_rfl)
          clear hd hu
          go_simp
          rw [HRS.out.1]
          refine (check_any (rootL b) (crownD_length _ _) (N : Int) (q : Int) (by have := HN.out.2.1; omega) (HD.out.2.1.below hG) (HD.out.2.2.2.2.1.below hG) (HD.out.2.2.2.2.2.below hG)).mono ?_
          rintro _ w' ⟨rfl, hb⟩
          exact ⟨_, rfl, HR.out _ _ hb (show Value.int _ _ = Value.int _ V1 by rw [HV1.out])⟩
        case s6 =>
          refine Grow.step_in (by rfl) (by rfl) ?_
          intro E W ec eg ef hG hd hu R HR
          have e13 : E (.tmp 13) = .pointer (some ⟨w2.heap.size, 0, none⟩) := hu 13 (by kernel_rfl)
          clear hd hu
          exact runs_load 31 (.tmp 13) rfl (w2.heap.size) e13 RS (0, 0) ((hG.block _ (lt_of_cells HD.out.1)).trans HD.out.1) Tryd.underlying31 (by rw [HRS.out.2.1]; exact id_info) (HR.out _ _ (Below.refl _ _) rfl)
        case s7 =>
          refine Grow.step_in (by rfl) (by rfl) ?_
          intro E W ec eg ef hG hd hu R HR
          have e10 : E (.tmp 10) = .int .i64 (N : Int) := hu 10 (by kernel_rfl)
          clear hd hu
          go_simp
          exact HR.out _ _ (Below.refl _ _) rfl
        case s8 =>
          refine Grow.step_in (by rfl) (by rfl) ?_
          intro E W ec eg ef hG hd hu R HR
          have e12 : E (.tmp 12) = .int .i64 (q : Int) := hu 12 (by kernel_rfl)
          clear hd hu
          go_simp
          exact HR.out _ _ (Below.refl _ _) rfl
        case s9 =>
          refine Grow.step_in (by rfl) (by rfl) ?_
          intro E W ec eg ef hG hd hu R HR
          have e14 : E (.tmp 14) = .slice A1 n1 c1 := hu 14 (by kernel_rfl)
          clear hd hu
          go_simp
          exact HR.out _ _ (Below.refl _ _) rfl
        case s10 =>
          refine Grow.step_in (by rfl) (by rfl) ?_
          intro E W ec eg ef hG hd hu R HR
          have e69 : E (.tmp 69) = .slice A1 n1 c1 := hd 9 69 (by kernel_rfl)
          clear hd hu
          have hs := byt_string (HD.out.2.1.below hG)
          go_simp
          exact HR.out _ _ (Below.refl _ _) rfl
        case s11 =>
          refine Grow.step_in (by rfl) (by rfl) ?_
          intro E W ec eg ef hG hd hu R HR
          have e18 : E (.tmp 18) = .slice B2 m2 d2 := hu 18 (by kernel_rfl)
          clear hd hu
          go_simp
          exact HR.out _ _ (Below.refl _ _) rfl
        case s12 =>
          refine Grow.step_in (by rfl) (by rfl) ?_
          intro E W ec eg ef hG hd hu R HR
          have e66 : E (.tmp 66) = .agg RS := hd 6 66 (by kernel_rfl)
          have e67 : E (.tmp 67) = .int .i64 (N : Int) := hd 7 67 (by kernel_rfl)
          have e68 : E (.tmp 68) = .int .i64 (q : Int) := hd 8 68 (by kernel_rfl)
          have e70 : E (.tmp 70) = .string (st l1) := hd 10 70 (by kernel_rfl)
          have e71 : E (.tmp 71) = .slice B2 m2 d2 := hd 11 71 (by kernel_rfl)
          clear hd hu
          go_simp
          rw [HRS.out.1]
          refine (rcheck_any (rootL b) (crownD_length _ _) (N : Int) (q : Int) (by have := HN.out.2.1; omega) HLE.out.1 (HD.out.2.2.2.2.1.below hG)).mono ?_
          rintro _ w' ⟨rfl, hb⟩
          exact ⟨_, rfl, HR.out _ _ hb (show Value.int _ _ = Value.int _ V1 by rw [HV1.out])⟩
        case s13 =>
          refine Grow.step_in (by rfl) (by rfl) ?_
          intro E W ec eg ef hG hd hu R HR
          have e65 : E (.tmp 65) = .int .i64 V1 := hd 5 65 (by kernel_rfl)
          have e72 : E (.tmp 72) = .int .i64 V1 := hd 12 72 (by kernel_rfl)
          clear hd hu
          go_simp
          exact HR.out _ _ (Below.refl _ _) rfl
        case s14 =>
          refine Grow.step_in (by rfl) (by rfl) ?_
          intro E W ec eg ef hG hd hu R HR
          have e73 : E (.tmp 73) = .bool true := hd 13 73 (by kernel_rfl)
          clear hd hu
          go_simp
          exact HR.out _ _ (Below.refl _ _) rfl
        case s15 =>
          refine Grow.step_on (g := 14) (b := true) (d := 74) (by rfl) (by rfl) (by rfl) (by kernel_rfl) (fun v W h => h) ?_
          intro E W ec eg ef hG hd hu R HR
          have e13 : E (.tmp 13) = .pointer (some ⟨w2.heap.size, 0, none⟩) := hu 13 (by kernel_rfl)
          clear hd hu
          exact runs_load 31 (.tmp 13) rfl (w2.heap.size) e13 RS (0, 0) ((hG.block _ (lt_of_cells HD.out.1)).trans HD.out.1) Tryd.underlying31 (by rw [HRS.out.2.1]; exact id_info) (HR.out _ _ (Below.refl _ _) rfl)
        case s16 =>
          refine Grow.step_on (g := 14) (b := true) (d := 74) (by rfl) (by rfl) (by rfl) (by kernel_rfl) (fun v W h => h) ?_
          intro E W ec eg ef hG hd hu R HR
          have e10 : E (.tmp 10) = .int .i64 (N : Int) := hu 10 (by kernel_rfl)
          clear hd hu
          go_simp
          exact HR.out _ _ (Below.refl _ _) rfl
        case s17 =>
          refine Grow.step_on (g := 14) (b := true) (d := 74) (by rfl) (by rfl) (by rfl) (by kernel_rfl) (fun v W h => h) ?_
          intro E W ec eg ef hG hd hu R HR
          have e11 : E (.tmp 11) = .int .i64 (p : Int) := hu 11 (by kernel_rfl)
          clear hd hu
          go_simp
          exact HR.out _ _ (Below.refl _ _) rfl
        case s18 =>
          refine Grow.step_on (g := 14) (b := true) (d := 74) (by rfl) (by rfl) (by rfl) (by kernel_rfl) (fun v W h => h) ?_
          intro E W ec eg ef hG hd hu R HR
          have e17 : E (.tmp 17) = .slice B1 m1 d1 := hu 17 (by kernel_rfl)
          clear hd hu
          go_simp
          exact HR.out _ _ (Below.refl _ _) rfl
        case s19 =>
          refine Grow.step_on (g := 14) (b := true) (d := 74) (by rfl) (by rfl) (by rfl) (by kernel_rfl) (fun v W h => h) ?_
          intro E W ec eg ef hG hd hu R HR
          have e18 : E (.tmp 18) = .slice B2 m2 d2 := hu 18 (by kernel_rfl)
          clear hd hu
          go_simp
          exact HR.out _ _ (Below.refl _ _) rfl
        case s20 =>
          refine Grow.step_on (g := 14) (b := true) (d := 74) (by rfl) (by rfl) (by rfl) (by kernel_rfl) (fun v W h => h) ?_
          intro E W ec eg ef hG hd hu R HR
          have e75 : E (.tmp 75) = .agg RS := hd 15 75 (by kernel_rfl)
          have e76 : E (.tmp 76) = .int .i64 (N : Int) := hd 16 76 (by kernel_rfl)
          have e77 : E (.tmp 77) = .int .i64 (p : Int) := hd 17 77 (by kernel_rfl)
          have e78 : E (.tmp 78) = .slice B1 m1 d1 := hd 18 78 (by kernel_rfl)
          have e79 : E (.tmp 79) = .slice B2 m2 d2 := hd 19 79 (by kernel_rfl)
          clear hd hu
          go_simp
          rw [HRS.out.1]
          refine (check_any (rootL b) (crownD_length _ _) (N : Int) (p : Int) (by have := HN.out.2.1; omega) (HD.out.2.2.2.1.below hG) (HD.out.2.2.2.2.1.below hG) (HD.out.2.2.2.2.2.below hG)).mono ?_
          rintro _ w' ⟨rfl, hb⟩
          exact ⟨_, rfl, HR.out _ _ hb (show Value.int _ _ = Value.int _ V2 by rw [HV2.out])⟩
        case s21 =>
          refine Grow.step_on (g := 14) (b := true) (d := 74) (by rfl) (by rfl) (by rfl) (by kernel_rfl) (fun v W h => h) ?_
          intro E W ec eg ef hG hd hu R HR
          have e13 : E (.tmp 13) = .pointer (some ⟨w2.heap.size, 0, none⟩) := hu 13 (by kernel_rfl)
          clear hd hu
          exact runs_load 31 (.tmp 13) rfl (w2.heap.size) e13 RS (0, 0) ((hG.block _ (lt_of_cells HD.out.1)).trans HD.out.1) Tryd.underlying31 (by rw [HRS.out.2.1]; exact id_info) (HR.out _ _ (Below.refl _ _) rfl)
        case s22 =>
          refine Grow.step_on (g := 14) (b := true) (d := 74) (by rfl) (by rfl) (by rfl) (by kernel_rfl) (fun v W h => h) ?_
          intro E W ec eg ef hG hd hu R HR
          have e10 : E (.tmp 10) = .int .i64 (N : Int) := hu 10 (by kernel_rfl)
          clear hd hu
          go_simp
          exact HR.out _ _ (Below.refl _ _) rfl
        case s23 =>
          refine Grow.step_on (g := 14) (b := true) (d := 74) (by rfl) (by rfl) (by rfl) (by kernel_rfl) (fun v W h => h) ?_
          intro E W ec eg ef hG hd hu R HR
          have e11 : E (.tmp 11) = .int .i64 (p : Int) := hu 11 (by kernel_rfl)
          clear hd hu
          go_simp
          exact HR.out _ _ (Below.refl _ _) rfl
        case s24 =>
          refine Grow.step_on (g := 14) (b := true) (d := 74) (by rfl) (by rfl) (by rfl) (by kernel_rfl) (fun v W h => h) ?_
          intro E W ec eg ef hG hd hu R HR
          have e17 : E (.tmp 17) = .slice B1 m1 d1 := hu 17 (by kernel_rfl)
          clear hd hu
          go_simp
          exact HR.out _ _ (Below.refl _ _) rfl
        case s25 =>
          refine Grow.step_on (g := 14) (b := true) (d := 74) (by rfl) (by rfl) (by rfl) (by kernel_rfl) (fun v W h => h) ?_
          intro E W ec eg ef hG hd hu R HR
          have e84 : E (.tmp 84) = .slice B1 m1 d1 := hd 24 84 (by kernel_rfl)
          clear hd hu
          have hs := byt_string (HD.out.2.2.2.1.below hG)
          go_simp
          exact HR.out _ _ (Below.refl _ _) rfl
        case s26 =>
          refine Grow.step_on (g := 14) (b := true) (d := 74) (by rfl) (by rfl) (by rfl) (by kernel_rfl) (fun v W h => h) ?_
          intro E W ec eg ef hG hd hu R HR
          have e18 : E (.tmp 18) = .slice B2 m2 d2 := hu 18 (by kernel_rfl)
          clear hd hu
          go_simp
          exact HR.out _ _ (Below.refl _ _) rfl
        case s27 =>
          refine Grow.step_on (g := 14) (b := true) (d := 74) (by rfl) (by rfl) (by rfl) (by kernel_rfl) (fun v W h => h) ?_
          intro E W ec eg ef hG hd hu R HR
          have e81 : E (.tmp 81) = .agg RS := hd 21 81 (by kernel_rfl)
          have e82 : E (.tmp 82) = .int .i64 (N : Int) := hd 22 82 (by kernel_rfl)
          have e83 : E (.tmp 83) = .int .i64 (p : Int) := hd 23 83 (by kernel_rfl)
          have e85 : E (.tmp 85) = .string (st l2) := hd 25 85 (by kernel_rfl)
          have e86 : E (.tmp 86) = .slice B2 m2 d2 := hd 26 86 (by kernel_rfl)
          clear hd hu
          go_simp
          rw [HRS.out.1]
          refine (rcheck_any (rootL b) (crownD_length _ _) (N : Int) (p : Int) (by have := HN.out.2.1; omega) HLE.out.2 (HD.out.2.2.2.2.1.below hG)).mono ?_
          rintro _ w' ⟨rfl, hb⟩
          exact ⟨_, rfl, HR.out _ _ hb (show Value.int _ _ = Value.int _ V2 by rw [HV2.out])⟩
        case s28 =>
          refine Grow.step_on (g := 14) (b := true) (d := 74) (by rfl) (by rfl) (by rfl) (by kernel_rfl) (fun v W h => h) ?_
          intro E W ec eg ef hG hd hu R HR
          have e80 : E (.tmp 80) = .int .i64 V2 := hd 20 80 (by kernel_rfl)
          have e87 : E (.tmp 87) = .int .i64 V2 := hd 27 87 (by kernel_rfl)
          clear hd hu
          go_simp
          exact HR.out _ _ (Below.refl _ _) rfl
        case s29 =>
          refine Grow.step_in (by rfl) (by rfl) ?_
          intro E W ec eg ef hG hd hu R HR
          have e74 : E (.tmp 74) = .bool true := hd 14 74 (by kernel_rfl)
          have e88 : E (.tmp 88) = .bool true := hd 28 88 (by kernel_rfl)
          clear hd hu
          go_simp
          exact HR.out _ _ (Below.refl _ _) rfl
        case s30 =>
          refine Grow.step_in (by rfl) (by rfl) ?_
          intro E W ec eg ef hG hd hu R HR
          have e89 : E (.tmp 89) = .bool true := hd 29 89 (by kernel_rfl)
          clear hd hu
          go_simp
          exact HR.out _ _ (Below.refl _ _) rfl
      case gfin =>
        intro W hG
        refine Grow.fin_dst (by rfl) ?_
        rintro _ rfl
        refine Grow.fin_dst (by rfl) ?_
        rintro _ rfl
        refine Grow.fin_dst (by rfl) ?_
        rintro _ rfl
        refine Grow.fin_dst (by rfl) ?_
        rintro _ rfl
        refine Grow.fin_dst (by rfl) ?_
        rintro _ rfl
        refine Grow.fin_dst (by rfl) ?_
        rintro _ rfl
        refine Grow.fin_dst (by rfl) ?_
        rintro _ rfl
        refine Grow.fin_dst (by rfl) ?_
        rintro _ rfl
        refine Grow.fin_dst (by rfl) ?_
        rintro _ rfl
        refine Grow.fin_dst (by rfl) ?_
        rintro _ rfl
        refine Grow.fin_dst (by rfl) ?_
        rintro _ rfl
        refine Grow.fin_dst (by rfl) ?_
        rintro _ rfl
        refine Grow.fin_dst (by rfl) ?_
        rintro _ rfl
        refine Grow.fin_dst (by rfl) ?_
        rintro _ rfl
        refine Grow.fin_dst (by rfl) ?_
        rintro _ rfl
        refine Grow.fin_dst (by rfl) ?_
        rintro _ rfl
        refine Grow.fin_dst (by rfl) ?_
        rintro _ rfl
        refine Grow.fin_dst (by rfl) ?_
        rintro _ rfl
        refine Grow.fin_dst (by rfl) ?_
        rintro _ rfl
        refine Grow.fin_dst (by rfl) ?_
        rintro _ rfl
        refine Grow.fin_dst (by rfl) ?_
        rintro _ rfl
        refine Grow.fin_dst (by rfl) ?_
        rintro _ rfl
        refine Grow.fin_dst (by rfl) ?_
        rintro _ rfl
        refine Grow.fin_dst (by rfl) ?_
        rintro _ rfl
        refine Grow.fin_dst (by rfl) ?_
        rintro _ rfl
        refine Grow.fin_dst (by rfl) ?_
        rintro _ rfl
        refine Grow.fin_dst (by rfl) ?_
        rintro _ rfl
        refine Grow.fin_dst (by rfl) ?_
        rintro _ rfl
        refine Grow.fin_dst (by rfl) ?_
        rintro _ rfl
        refine Grow.fin_dst (by rfl) ?_
        rintro _ rfl
        refine Grow.fin_dst (by rfl) ?_
        rintro _ rfl
        simp only [Act.put, List.setIfInBounds_toArray, List.set_cons_zero, List.set_cons_succ]
        refine Grow.fin_end ?_
        have HBW := Lib.hid (H5.out.2.2.2.2.1.trans ((Grow.below_of_drew hG).mono H5.out.2.2.2.2.1.size))
        clear hG
        go_wp2_with fail
        go_ret
        exact ⟨rfl, HBW.out⟩
    · skip
      obtain ⟨V1, hV1⟩ : ∃ V, V = checkL (rootL b) (N : Int) (q : Int) l1 y1 := ⟨_, rfl⟩
      obtain ⟨V2, hV2⟩ : ∃ V, V = checkL (rootL b) (N : Int) (p : Int) l2 y1 := ⟨_, rfl⟩
      have HV1 := Lib.hid hV1
      have HV2 := Lib.hid hV2
      have HD : Hid (w5.drew.heap[w2.heap.size]? = some (.cells RS 31 (0, 0)) ∧ Byt w5.drew (w3.heap.size ≤ ·) A1 n1 c1 l1 ∧ Ids w5.drew (w3.heap.size ≤ ·) A2 n2 c2 y1 ∧ Byt w5.drew (w4.heap.size ≤ ·) B1 m1 d1 l2 ∧ Ids w5.drew (w4.heap.size ≤ ·) B2 m2 d2 y2 ∧ Tab w5.drew) := Lib.hid ⟨H5.out.2.2.2.2.2.1, H5.out.1.drew, H5.out.2.1.drew, H5.out.2.2.1.drew, H5.out.2.2.2.1.drew, H5.out.2.2.2.2.2.2.drew⟩
      clear hV1 hV2
      refine wp_region_grow (fun W W' => Below W.heap.size W W') (Grow.nth [fun v _ => v = .agg RS, fun v _ => v = .int .i64 (N : Int), fun v _ => v = .int .i64 (q : Int), fun v _ => v = .slice A1 n1 c1, fun v _ => v = .slice A2 n2 c2, fun v _ => v = .int .i64 V1, fun v _ => v = .agg RS, fun v _ => v = .int .i64 (N : Int), fun v _ => v = .int .i64 (q : Int), fun v _ => v = .slice A1 n1 c1, fun v _ => v = .string (st l1), fun v _ => v = .slice A2 n2 c2, fun v _ => v = .int .i64 V1, fun v _ => v = .bool true, fun v _ => v = .bool true, fun v _ => v = .agg RS, fun v _ => v = .int .i64 (N : Int), fun v _ => v = .int .i64 (p : Int), fun v _ => v = .slice B1 m1 d1, fun v _ => v = .slice A2 n2 c2, fun v _ => v = .int .i64 V2, fun v _ => v = .agg RS, fun v _ => v = .int .i64 (N : Int), fun v _ => v = .int .i64 (p : Int), fun v _ => v = .slice B1 m1 d1, fun v _ => v = .string (st l2), fun v _ => v = .slice A2 n2 c2, fun v _ => v = .int .i64 V2, fun v _ => v = .bool true, fun v _ => v = .bool true, fun v _ => v = .bool true]) 90 (by kernel_rfl) (by kernel_rfl) (by rfl) (fun W => Below.refl _ W) (fun _ _ _ h1 h2 => h1.trans (h2.mono h1.size)) (Grow.mono_nth ?gmono) ?gsteps ?gfin
      case gmono => exact ⟨fun _ _ _ h _ => h, fun _ _ _ h _ => h, fun _ _ _ h _ => h, fun _ _ _ h _ => h, fun _ _ _ h _ => h, fun _ _ _ h _ => h, fun _ _ _ h _ => h, fun _ _ _ h _ => h, fun _ _ _ h _ => h, fun _ _ _ h _ => h, fun _ _ _ h _ => h, fun _ _ _ h _ => h, fun _ _ _ h _ => h, fun _ _ _ h _ => h, fun _ _ _ h _ => h, fun _ _ _ h _ => h, fun _ _ _ h _ => h, fun _ _ _ h _ => h, fun _ _ _ h _ => h, fun _ _ _ h _ => h, fun _ _ _ h _ => h, fun _ _ _ h _ => h, fun _ _ _ h _ => h, fun _ _ _ h _ => h, fun _ _ _ h _ => h, fun _ _ _ h _ => h, fun _ _ _ h _ => h, fun _ _ _ h _ => h, fun _ _ _ h _ => h, fun _ _ _ h _ => h, fun _ _ _ h _ => h, trivial⟩
      case gsteps =>
        show Grow.allBelow _ 31
        refine And.intro ?_ ?s30
        refine And.intro ?_ ?s29
        refine And.intro ?_ ?s28
        refine And.intro ?_ ?s27
        refine And.intro ?_ ?s26
        refine And.intro ?_ ?s25
        refine And.intro ?_ ?s24
        refine And.intro ?_ ?s23
        refine And.intro ?_ ?s22
        refine And.intro ?_ ?s21
        refine And.intro ?_ ?s20
        refine And.intro ?_ ?s19
        refine And.intro ?_ ?s18
        refine And.intro ?_ ?s17
        refine And.intro ?_ ?s16
        refine And.intro ?_ ?s15
        refine And.intro ?_ ?s14
        refine And.intro ?_ ?s13
        refine And.intro ?_ ?s12
        refine And.intro ?_ ?s11
        refine And.intro ?_ ?s10
        refine And.intro ?_ ?s9
        refine And.intro ?_ ?s8
        refine And.intro ?_ ?s7
        refine And.intro ?_ ?s6
        refine And.intro ?_ ?s5
        refine And.intro ?_ ?s4
        refine And.intro ?_ ?s3
        refine And.intro ?_ ?s2
        refine And.intro ?_ ?s1
        refine And.intro ?_ ?s0
        exact trivial
        case s0 =>
          refine Grow.step_in (by rfl) (by rfl) ?_
          intro E W ec eg ef hG hd hu R HR
          have e13 : E (.tmp 13) = .pointer (some ⟨w2.heap.size, 0, none⟩) := hu 13 (by kernel_rfl)
          clear hd hu
          exact runs_load 31 (.tmp 13) rfl (w2.heap.size) e13 RS (0, 0) ((hG.block _ (lt_of_cells HD.out.1)).trans HD.out.1) Tryd.underlying31 (by rw [HRS.out.2.1]; exact id_info) (HR.out _ _ (Below.refl _ _) rfl)
        case s1 =>
          refine Grow.step_in (by rfl) (by rfl) ?_
          intro E W ec eg ef hG hd hu R HR
          have e10 : E (.tmp 10) = .int .i64 (N : Int) := hu 10 (by kernel_rfl)
          clear hd hu
          go_simp
          exact HR.out _ _ (Below.refl _ _) rfl
        case s2 =>
          refine Grow.step_in (by rfl) (by rfl) ?_
          intro E W ec eg ef hG hd hu R HR
          have e12 : E (.tmp 12) = .int .i64 (q : Int) := hu 12 (by kernel_rfl)
          clear hd hu
          go_simp
          exact HR.out _ _ (Below.refl _ _) rfl
        case s3 =>
          refine Grow.step_in (by rfl) (by rfl) ?_
          intro E W ec eg ef hG hd hu R HR
          have e14 : E (.tmp 14) = .slice A1 n1 c1 := hu 14 (by kernel_rfl)
          clear hd hu
          go_simp
          exact HR.out _ _ (Below.refl _ _) rfl
        case s4 =>
          refine Grow.step_in (by rfl) (by rfl) ?_
          intro E W ec eg ef hG hd hu R HR
          have e18 : E (.tmp 18) = .slice A2 n2 c2 := hu 18 (by kernel_rfl)
          clear hd hu
          go_simp
          exact HR.out _ _ (Below.refl _ _) rfl
        case s5 =>
          refine Grow.step_in (by rfl) (by rfl) ?_
          intro E W ec eg ef hG hd hu R HR
          have e60 : E (.tmp 60) = .agg RS := hd 0 60 (by kernel_rfl)
          have e61 : E (.tmp 61) = .int .i64 (N : Int) := hd 1 61 (by kernel_rfl)
          have e62 : E (.tmp 62) = .int .i64 (q : Int) := hd 2 62 (by kernel_rfl)
          have e63 : E (.tmp 63) = .slice A1 n1 c1 := hd 3 63 (by kernel_rfl)
          have e64 : E (.tmp 64) = .slice A2 n2 c2 := hd 4 64 (by kernel_rfl)
          clear hd hu
          go_simp
          rw [HRS.out.1]
          refine (check_any (rootL b) (crownD_length _ _) (N : Int) (q : Int) (by have := HN.out.2.1; omega) (HD.out.2.1.below hG) (HD.out.2.2.1.below hG) (HD.out.2.2.2.2.2.below hG)).mono ?_
          rintro _ w' ⟨rfl, hb⟩
          exact ⟨_, rfl, HR.out _ _ hb (show Value.int _ _ = Value.int _ V1 by rw [HV1.out])⟩
        case s6 =>
          refine Grow.step_in (by rfl) (by rfl) ?_
          intro E W ec eg ef hG hd hu R HR
          have e13 : E (.tmp 13) = .pointer (some ⟨w2.heap.size, 0, none⟩) := hu 13 (by kernel_rfl)
          clear hd hu
          exact runs_load 31 (.tmp 13) rfl (w2.heap.size) e13 RS (0, 0) ((hG.block _ (lt_of_cells HD.out.1)).trans HD.out.1) Tryd.underlying31 (by rw [HRS.out.2.1]; exact id_info) (HR.out _ _ (Below.refl _ _) rfl)
        case s7 =>
          refine Grow.step_in (by rfl) (by rfl) ?_
          intro E W ec eg ef hG hd hu R HR
          have e10 : E (.tmp 10) = .int .i64 (N : Int) := hu 10 (by kernel_rfl)
          clear hd hu
          go_simp
          exact HR.out _ _ (Below.refl _ _) rfl
        case s8 =>
          refine Grow.step_in (by rfl) (by rfl) ?_
          intro E W ec eg ef hG hd hu R HR
          have e12 : E (.tmp 12) = .int .i64 (q : Int) := hu 12 (by kernel_rfl)
          clear hd hu
          go_simp
          exact HR.out _ _ (Below.refl _ _) rfl
        case s9 =>
          refine Grow.step_in (by rfl) (by rfl) ?_
          intro E W ec eg ef hG hd hu R HR
          have e14 : E (.tmp 14) = .slice A1 n1 c1 := hu 14 (by kernel_rfl)
          clear hd hu
          go_simp
          exact HR.out _ _ (Below.refl _ _) rfl
        case s10 =>
          refine Grow.step_in (by rfl) (by rfl) ?_
          intro E W ec eg ef hG hd hu R HR
          have e69 : E (.tmp 69) = .slice A1 n1 c1 := hd 9 69 (by kernel_rfl)
          clear hd hu
          have hs := byt_string (HD.out.2.1.below hG)
          go_simp
          exact HR.out _ _ (Below.refl _ _) rfl
        case s11 =>
          refine Grow.step_in (by rfl) (by rfl) ?_
          intro E W ec eg ef hG hd hu R HR
          have e18 : E (.tmp 18) = .slice A2 n2 c2 := hu 18 (by kernel_rfl)
          clear hd hu
          go_simp
          exact HR.out _ _ (Below.refl _ _) rfl
        case s12 =>
          refine Grow.step_in (by rfl) (by rfl) ?_
          intro E W ec eg ef hG hd hu R HR
          have e66 : E (.tmp 66) = .agg RS := hd 6 66 (by kernel_rfl)
          have e67 : E (.tmp 67) = .int .i64 (N : Int) := hd 7 67 (by kernel_rfl)
          have e68 : E (.tmp 68) = .int .i64 (q : Int) := hd 8 68 (by kernel_rfl)
          have e70 : E (.tmp 70) = .string (st l1) := hd 10 70 (by kernel_rfl)
          have e71 : E (.tmp 71) = .slice A2 n2 c2 := hd 11 71 (by kernel_rfl)
          clear hd hu
          go_simp
          rw [HRS.out.1]
          refine (rcheck_any (rootL b) (crownD_length _ _) (N : Int) (q : Int) (by have := HN.out.2.1; omega) HLE.out.1 (HD.out.2.2.1.below hG)).mono ?_
          rintro _ w' ⟨rfl, hb⟩
          exact ⟨_, rfl, HR.out _ _ hb (show Value.int _ _ = Value.int _ V1 by rw [HV1.out])⟩
        case s13 =>
          refine Grow.step_in (by rfl) (by rfl) ?_
          intro E W ec eg ef hG hd hu R HR
          have e65 : E (.tmp 65) = .int .i64 V1 := hd 5 65 (by kernel_rfl)
          have e72 : E (.tmp 72) = .int .i64 V1 := hd 12 72 (by kernel_rfl)
          clear hd hu
          go_simp
          exact HR.out _ _ (Below.refl _ _) rfl
        case s14 =>
          refine Grow.step_in (by rfl) (by rfl) ?_
          intro E W ec eg ef hG hd hu R HR
          have e73 : E (.tmp 73) = .bool true := hd 13 73 (by kernel_rfl)
          clear hd hu
          go_simp
          exact HR.out _ _ (Below.refl _ _) rfl
        case s15 =>
          refine Grow.step_on (g := 14) (b := true) (d := 74) (by rfl) (by rfl) (by rfl) (by kernel_rfl) (fun v W h => h) ?_
          intro E W ec eg ef hG hd hu R HR
          have e13 : E (.tmp 13) = .pointer (some ⟨w2.heap.size, 0, none⟩) := hu 13 (by kernel_rfl)
          clear hd hu
          exact runs_load 31 (.tmp 13) rfl (w2.heap.size) e13 RS (0, 0) ((hG.block _ (lt_of_cells HD.out.1)).trans HD.out.1) Tryd.underlying31 (by rw [HRS.out.2.1]; exact id_info) (HR.out _ _ (Below.refl _ _) rfl)
        case s16 =>
          refine Grow.step_on (g := 14) (b := true) (d := 74) (by rfl) (by rfl) (by rfl) (by kernel_rfl) (fun v W h => h) ?_
          intro E W ec eg ef hG hd hu R HR
          have e10 : E (.tmp 10) = .int .i64 (N : Int) := hu 10 (by kernel_rfl)
          clear hd hu
          go_simp
          exact HR.out _ _ (Below.refl _ _) rfl
        case s17 =>
          refine Grow.step_on (g := 14) (b := true) (d := 74) (by rfl) (by rfl) (by rfl) (by kernel_rfl) (fun v W h => h) ?_
          intro E W ec eg ef hG hd hu R HR
          have e11 : E (.tmp 11) = .int .i64 (p : Int) := hu 11 (by kernel_rfl)
          clear hd hu
          go_simp
          exact HR.out _ _ (Below.refl _ _) rfl
        case s18 =>
          refine Grow.step_on (g := 14) (b := true) (d := 74) (by rfl) (by rfl) (by rfl) (by kernel_rfl) (fun v W h => h) ?_
          intro E W ec eg ef hG hd hu R HR
          have e17 : E (.tmp 17) = .slice B1 m1 d1 := hu 17 (by kernel_rfl)
          clear hd hu
          go_simp
          exact HR.out _ _ (Below.refl _ _) rfl
        case s19 =>
          refine Grow.step_on (g := 14) (b := true) (d := 74) (by rfl) (by rfl) (by rfl) (by kernel_rfl) (fun v W h => h) ?_
          intro E W ec eg ef hG hd hu R HR
          have e18 : E (.tmp 18) = .slice A2 n2 c2 := hu 18 (by kernel_rfl)
          clear hd hu
          go_simp
          exact HR.out _ _ (Below.refl _ _) rfl
        case s20 =>
          refine Grow.step_on (g := 14) (b := true) (d := 74) (by rfl) (by rfl) (by rfl) (by kernel_rfl) (fun v W h => h) ?_
          intro E W ec eg ef hG hd hu R HR
          have e75 : E (.tmp 75) = .agg RS := hd 15 75 (by kernel_rfl)
          have e76 : E (.tmp 76) = .int .i64 (N : Int) := hd 16 76 (by kernel_rfl)
          have e77 : E (.tmp 77) = .int .i64 (p : Int) := hd 17 77 (by kernel_rfl)
          have e78 : E (.tmp 78) = .slice B1 m1 d1 := hd 18 78 (by kernel_rfl)
          have e79 : E (.tmp 79) = .slice A2 n2 c2 := hd 19 79 (by kernel_rfl)
          clear hd hu
          go_simp
          rw [HRS.out.1]
          refine (check_any (rootL b) (crownD_length _ _) (N : Int) (p : Int) (by have := HN.out.2.1; omega) (HD.out.2.2.2.1.below hG) (HD.out.2.2.1.below hG) (HD.out.2.2.2.2.2.below hG)).mono ?_
          rintro _ w' ⟨rfl, hb⟩
          exact ⟨_, rfl, HR.out _ _ hb (show Value.int _ _ = Value.int _ V2 by rw [HV2.out])⟩
        case s21 =>
          refine Grow.step_on (g := 14) (b := true) (d := 74) (by rfl) (by rfl) (by rfl) (by kernel_rfl) (fun v W h => h) ?_
          intro E W ec eg ef hG hd hu R HR
          have e13 : E (.tmp 13) = .pointer (some ⟨w2.heap.size, 0, none⟩) := hu 13 (by kernel_rfl)
          clear hd hu
          exact runs_load 31 (.tmp 13) rfl (w2.heap.size) e13 RS (0, 0) ((hG.block _ (lt_of_cells HD.out.1)).trans HD.out.1) Tryd.underlying31 (by rw [HRS.out.2.1]; exact id_info) (HR.out _ _ (Below.refl _ _) rfl)
        case s22 =>
          refine Grow.step_on (g := 14) (b := true) (d := 74) (by rfl) (by rfl) (by rfl) (by kernel_rfl) (fun v W h => h) ?_
          intro E W ec eg ef hG hd hu R HR
          have e10 : E (.tmp 10) = .int .i64 (N : Int) := hu 10 (by kernel_rfl)
          clear hd hu
          go_simp
          exact HR.out _ _ (Below.refl _ _) rfl
        case s23 =>
          refine Grow.step_on (g := 14) (b := true) (d := 74) (by rfl) (by rfl) (by rfl) (by kernel_rfl) (fun v W h => h) ?_
          intro E W ec eg ef hG hd hu R HR
          have e11 : E (.tmp 11) = .int .i64 (p : Int) := hu 11 (by kernel_rfl)
          clear hd hu
          go_simp
          exact HR.out _ _ (Below.refl _ _) rfl
        case s24 =>
          refine Grow.step_on (g := 14) (b := true) (d := 74) (by rfl) (by rfl) (by rfl) (by kernel_rfl) (fun v W h => h) ?_
          intro E W ec eg ef hG hd hu R HR
          have e17 : E (.tmp 17) = .slice B1 m1 d1 := hu 17 (by kernel_rfl)
          clear hd hu
          go_simp
          exact HR.out _ _ (Below.refl _ _) rfl
        case s25 =>
          refine Grow.step_on (g := 14) (b := true) (d := 74) (by rfl) (by rfl) (by rfl) (by kernel_rfl) (fun v W h => h) ?_
          intro E W ec eg ef hG hd hu R HR
          have e84 : E (.tmp 84) = .slice B1 m1 d1 := hd 24 84 (by kernel_rfl)
          clear hd hu
          have hs := byt_string (HD.out.2.2.2.1.below hG)
          go_simp
          exact HR.out _ _ (Below.refl _ _) rfl
        case s26 =>
          refine Grow.step_on (g := 14) (b := true) (d := 74) (by rfl) (by rfl) (by rfl) (by kernel_rfl) (fun v W h => h) ?_
          intro E W ec eg ef hG hd hu R HR
          have e18 : E (.tmp 18) = .slice A2 n2 c2 := hu 18 (by kernel_rfl)
          clear hd hu
          go_simp
          exact HR.out _ _ (Below.refl _ _) rfl
        case s27 =>
          refine Grow.step_on (g := 14) (b := true) (d := 74) (by rfl) (by rfl) (by rfl) (by kernel_rfl) (fun v W h => h) ?_
          intro E W ec eg ef hG hd hu R HR
          have e81 : E (.tmp 81) = .agg RS := hd 21 81 (by kernel_rfl)
          have e82 : E (.tmp 82) = .int .i64 (N : Int) := hd 22 82 (by kernel_rfl)
          have e83 : E (.tmp 83) = .int .i64 (p : Int) := hd 23 83 (by kernel_rfl)
          have e85 : E (.tmp 85) = .string (st l2) := hd 25 85 (by kernel_rfl)
          have e86 : E (.tmp 86) = .slice A2 n2 c2 := hd 26 86 (by kernel_rfl)
          clear hd hu
          go_simp
          rw [HRS.out.1]
          refine (rcheck_any (rootL b) (crownD_length _ _) (N : Int) (p : Int) (by have := HN.out.2.1; omega) HLE.out.2 (HD.out.2.2.1.below hG)).mono ?_
          rintro _ w' ⟨rfl, hb⟩
          exact ⟨_, rfl, HR.out _ _ hb (show Value.int _ _ = Value.int _ V2 by rw [HV2.out])⟩
        case s28 =>
          refine Grow.step_on (g := 14) (b := true) (d := 74) (by rfl) (by rfl) (by rfl) (by kernel_rfl) (fun v W h => h) ?_
          intro E W ec eg ef hG hd hu R HR
          have e80 : E (.tmp 80) = .int .i64 V2 := hd 20 80 (by kernel_rfl)
          have e87 : E (.tmp 87) = .int .i64 V2 := hd 27 87 (by kernel_rfl)
          clear hd hu
          go_simp
          exact HR.out _ _ (Below.refl _ _) rfl
        case s29 =>
          refine Grow.step_in (by rfl) (by rfl) ?_
          intro E W ec eg ef hG hd hu R HR
          have e74 : E (.tmp 74) = .bool true := hd 14 74 (by kernel_rfl)
          have e88 : E (.tmp 88) = .bool true := hd 28 88 (by kernel_rfl)
          clear hd hu
          go_simp
          exact HR.out _ _ (Below.refl _ _) rfl
        case s30 =>
          refine Grow.step_in (by rfl) (by rfl) ?_
          intro E W ec eg ef hG hd hu R HR
          have e89 : E (.tmp 89) = .bool true := hd 29 89 (by kernel_rfl)
          clear hd hu
          go_simp
          exact HR.out _ _ (Below.refl _ _) rfl
      case gfin =>
        intro W hG
        refine Grow.fin_dst (by rfl) ?_
        rintro _ rfl
        refine Grow.fin_dst (by rfl) ?_
        rintro _ rfl
        refine Grow.fin_dst (by rfl) ?_
        rintro _ rfl
        refine Grow.fin_dst (by rfl) ?_
        rintro _ rfl
        refine Grow.fin_dst (by rfl) ?_
        rintro _ rfl
        refine Grow.fin_dst (by rfl) ?_
        rintro _ rfl
        refine Grow.fin_dst (by rfl) ?_
        rintro _ rfl
        refine Grow.fin_dst (by rfl) ?_
        rintro _ rfl
        refine Grow.fin_dst (by rfl) ?_
        rintro _ rfl
        refine Grow.fin_dst (by rfl) ?_
        rintro _ rfl
        refine Grow.fin_dst (by rfl) ?_
        rintro _ rfl
        refine Grow.fin_dst (by rfl) ?_
        rintro _ rfl
        refine Grow.fin_dst (by rfl) ?_
        rintro _ rfl
        refine Grow.fin_dst (by rfl) ?_
        rintro _ rfl
        refine Grow.fin_dst (by rfl) ?_
        rintro _ rfl
        refine Grow.fin_dst (by rfl) ?_
        rintro _ rfl
        refine Grow.fin_dst (by rfl) ?_
        rintro _ rfl
        refine Grow.fin_dst (by rfl) ?_
        rintro _ rfl
        refine Grow.fin_dst (by rfl) ?_
        rintro _ rfl
        refine Grow.fin_dst (by rfl) ?_
        rintro _ rfl
        refine Grow.fin_dst (by rfl) ?_
        rintro _ rfl
        refine Grow.fin_dst (by rfl) ?_
        rintro _ rfl
        refine Grow.fin_dst (by rfl) ?_
        rintro _ rfl
        refine Grow.fin_dst (by rfl) ?_
        rintro _ rfl
        refine Grow.fin_dst (by rfl) ?_
        rintro _ rfl
        refine Grow.fin_dst (by rfl) ?_
        rintro _ rfl
        refine Grow.fin_dst (by rfl) ?_
        rintro _ rfl
        refine Grow.fin_dst (by rfl) ?_
        rintro _ rfl
        refine Grow.fin_dst (by rfl) ?_
        rintro _ rfl
        refine Grow.fin_dst (by rfl) ?_
        rintro _ rfl
        refine Grow.fin_dst (by rfl) ?_
        rintro _ rfl
        simp only [Act.put, List.setIfInBounds_toArray, List.set_cons_zero, List.set_cons_succ]
        refine Grow.fin_end ?_
        have HBW := Lib.hid (H5.out.2.2.2.2.1.trans ((Grow.below_of_drew hG).mono H5.out.2.2.2.2.1.size))
        clear hG
        go_wp2_with fail
        go_ret
        exact ⟨rfl, HBW.out⟩
  · have hn' : (800 : Int) < (n : Int) := by omega
    clear h ht
    go_enter Tryd.func8, Tryd.ntmps8
    go_wp2_with (go_at_call 9; refine haw.mono ?_; clear haw; rintro _ w1 ⟨rfl, hb1⟩)
    go_ret
    exact ⟨rfl, hb1⟩
end Go.Proofs.YtebhlfmianohlaaDoor
