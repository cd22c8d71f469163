/-
  The statement SealMakes: its walk.
-/
import Derived.Test.YtlkkocgjpljibaaDoorSealAwake
namespace Go.Proofs.YtlkkocgjpljibaaDoor
open Go.RowKit

set_option maxHeartbeats 8000000 in
set_option maxRecDepth 100000 in
theorem walk_makes {w : World} (k : List UInt8) (hk : k.length = 32) {kx : Int} (hkd0 : (Lit.int .u8 kx).wf = true) {nx : Int} (hnx0 : (Lit.int .u64 nx).wf = true) {S : Nat → Prop} {A : Option Addr} {n c : Nat} {l : List UInt8} (h : Byt w S A n c l) (ht : Tab w ∧ QTab w) :
    Calls Tryd.prog 3 #[.agg (row8 k), .int .u8 kx, .int .u64 nx, .slice A n c] w fun e w' => e = .returned (.bool true) ∧ Below w.heap.size w w' := by
  have hkd := bounds_u8 hkd0
  obtain ⟨kd, rfl⟩ : ∃ kd : UInt8, kx = (kd.toNat : Int) := ⟨UInt8.ofNat kx.toNat, by simp; omega⟩
  have hnx := bounds_u64 hnx0
  obtain ⟨N, rfl⟩ : ∃ N : Nat, nx = (N : Int) := ⟨nx.toNat, by omega⟩
  have HN64 : Hid (N < 18446744073709551616) := Lib.hid (by omega)
  clear hkd hnx hkd0 hnx0
  obtain ⟨KS, hKS⟩ : ∃ KS, KS = row8 k := ⟨_, rfl⟩
  rw [← hKS]
  have HZKS : Hid (KS.size = 32) := Lib.hid (by rw [hKS, row8_size, hk])
  have HBX : Hid (Below w.heap.size w (w.alloc (.cells KS 23)) ∧ (w.alloc (.cells KS 23)).heap[w.heap.size]? = some (.cells KS 23 (0, 0))) := Lib.hid ⟨(Below.refl _ _).alloc (Nat.le_refl _) _, heap_alloc_new w _⟩
  by_cases hn : n ≤ 300
  · have hl := h.len
    obtain ⟨BL, hBL⟩ : ∃ BL, BL = sealL k kd N l := ⟨_, rfl⟩
    have hbl : BL.length = n + 41 := by rw [hBL, sealL_length, hl]; omega
    obtain ⟨SB, hSB⟩ : ∃ SB, SB = st BL := ⟨_, rfl⟩
    obtain ⟨SP, hSP⟩ : ∃ SP, SP = st l := ⟨_, rfl⟩
    obtain ⟨MS, hMS⟩ : ∃ MS, MS = row8 (macL (drvL k nameB 0) l) := ⟨_, rfl⟩
    have HQ : Hid (∀ w, (Op.equalIn 10000 34 (.agg MS) (.agg MS)).run Tryd.prog w = .ok true w) := Lib.hid fun w => by
      rw [hMS]
      exact (id_eql _ _ (macL_length _ _) (macL_length _ _) w).trans (by simp)
    have HSE : Hid (∀ W {S : Nat → Prop} {A : Option Addr} {c : Nat}, Byt W S A n c l → Tab W → QTab W → Calls Tryd.prog 9 #[.agg KS, .int .u8 (kd.toNat : Int), .int .u64 (N : Int), .slice A n c] W fun e w' => ∃ g, e = .returned (.tuple #[.slice (some ⟨g, 0, none⟩) (n + 41) (n + 41), .int .i64 0]) ∧ w'.ownsRow W.heap.size 5 1 (.slice (some ⟨g, 0, none⟩) (n + 41) (n + 41)) (n + 41) (u8s BL) ∧ Below W.heap.size W w') := Lib.hid fun W S A c h1 h2 h3 => by
      rw [hKS, hBL]
      exact sseal_any h1 h2 h3 k hk kd N (by omega)
    have HOP : Hid (∀ W {S : Nat → Prop} {A : Option Addr} {c : Nat}, Byt W S A (n + 41) c BL → Tab W → QTab W → Calls Tryd.prog 11 #[.agg KS, .slice A (n + 41) c] W fun e w' => ∃ A' c', e = .returned (.tuple #[.slice A' n c', .int .u8 (kd.toNat : Int), .int .u64 (N : Int), .int .i64 0]) ∧ Byt w' (W.heap.size ≤ ·) A' n c' l ∧ Below W.heap.size W w') := Lib.hid fun W S A c h1 h2 h3 => by
      rw [hKS]
      refine (sopen_any h1 h2 h3 k hk).mono ?_
      rintro _ w' ⟨A', c', rfl, hY, hb⟩
      have hll : l.length ≤ 65536 := by omega
      rw [hBL, openP_seal hll, hl] at hY
      exact ⟨A', c', by rw [hBL, openP_seal hll, openK_seal hll, openN_seal hll HN64.out, openE_seal hll, hl]; rfl, hY, hb⟩
    have HRS : Hid (∀ W, Calls Tryd.prog 10 #[.agg KS, .int .u8 (kd.toNat : Int), .int .u64 (N : Int), .string SP] W fun e w' => e = .returned (.tuple #[.string SB, .int .i64 0]) ∧ Below W.heap.size W w') := Lib.hid fun W => by
      rw [hKS, hSP, hSB, hBL]
      exact rsseal_any l (by omega) k hk kd N HN64.out W
    have HNA : Hid (∀ W {S : Nat → Prop} {A : Option Addr} {c : Nat}, Byt W S A n c l → Tab W → Calls Tryd.prog 12 #[.agg KS, .slice A n c] W fun e w' => e = .returned (.agg MS) ∧ Below W.heap.size W w') := Lib.hid fun W S A c h1 h2 => by
      rw [hKS, hMS]
      exact sname_any h1 h2 k hk (by omega)
    have HRN : Hid (∀ W, Calls Tryd.prog 13 #[.agg KS, .string SP] W fun e w' => e = .returned (.agg MS) ∧ Below W.heap.size W w') := Lib.hid fun W => by
      rw [hKS, hMS, hSP]
      exact rsname_any l (by omega) k hk W
    have HSS := Lib.hid (And.intro hSB hSP)
    have HH := Lib.hid h
    clear hBL hSB hSP hMS hKS hk h hl hbl
    go_enter Tryd.func3, Tryd.ntmps3
    go_wp2_with fail
    refine (lawake_true (ht.1.below HBX.out.1) (ht.2.below HBX.out.1)).mono ?_
    rintro _ w1 ⟨rfl, hb1⟩
    have HB1 : Hid (Below w.heap.size w w1 ∧ w1.heap[w.heap.size]? = some (.cells KS 23 (0, 0))) := Lib.hid ⟨HBX.out.1.trans (hb1.mono HBX.out.1.size), (hb1.block _ (lt_of_cells HBX.out.2)).trans HBX.out.2⟩
    have HT := Lib.hid ht
    clear hb1 ht HBX
    go_wp2_with (refine wpList_load_row (by rfl) 23 (.tmp 4) (by rfl) w.heap.size (by rfl) 23 KS (0, 0) _ HB1.out.2 Tryd.underlying23 (by rfl) (by rw [HZKS.out]; exact key_info) ?_)
    refine (HSE.out _ (HH.out.below HB1.out.1) (HT.out.1.below HB1.out.1) (HT.out.2.below HB1.out.1)).mono ?_
    rintro _ w2 ⟨g, rfl, hown2, hb2⟩
    have HB2 : Hid (Below w.heap.size w w2 ∧ w2.heap[w.heap.size]? = some (.cells KS 23 (0, 0))) := Lib.hid ⟨HB1.out.1.trans (hb2.mono HB1.out.1.size), (hb2.block _ (lt_of_cells HB1.out.2)).trans HB1.out.2⟩
    have HY2 := Lib.hid (own_byt_at hown2)
    have hcv2 := byt_string (HH.out.below HB2.out.1)
    rw [show (⟨l.toArray⟩ : ByteArray) = st l from rfl, ← HSS.out.2] at hcv2
    clear hown2 hb2 HB1 HSE
    go_wp2_with (refine wpList_load_row (by rfl) 23 (.tmp 4) (by rfl) w.heap.size (by rfl) 23 KS (0, 0) _ HB2.out.2 Tryd.underlying23 (by rfl) (by rw [HZKS.out]; exact key_info) ?_)
    refine (HRS.out _).mono ?_
    rintro _ w3 ⟨rfl, hb3⟩
    have HB3 : Hid (Below w.heap.size w w3 ∧ w3.heap[w.heap.size]? = some (.cells KS 23 (0, 0))) := Lib.hid ⟨HB2.out.1.trans (hb3.mono HB2.out.1.size), (hb3.block _ (lt_of_cells HB2.out.2)).trans HB2.out.2⟩
    have HY3 := Lib.hid (HY2.out.below hb3)
    clear hb3 hcv2 HB2 HRS HY2
    go_wp2_with (refine wpList_load_row (by rfl) 23 (.tmp 4) (by rfl) w.heap.size (by rfl) 23 KS (0, 0) _ HB3.out.2 Tryd.underlying23 (by rfl) (by rw [HZKS.out]; exact key_info) ?_)
    refine (HOP.out _ HY3.out (HT.out.1.below HB3.out.1) (HT.out.2.below HB3.out.1)).mono ?_
    rintro _ w4 ⟨A4, c4, rfl, hY4, hb4⟩
    have HB4 : Hid (Below w.heap.size w w4 ∧ w4.heap[w.heap.size]? = some (.cells KS 23 (0, 0))) := Lib.hid ⟨HB3.out.1.trans (hb4.mono HB3.out.1.size), (hb4.block _ (lt_of_cells HB3.out.2)).trans HB3.out.2⟩
    have HY4 := Lib.hid (And.intro (HY3.out.below hb4) hY4)
    clear hb4 hY4 HB3 HOP HY3
    go_upto_region 9 with fail
    have HBL4 : Hid (∀ W, Below w4.drew.heap.size w4.drew W → Below w4.heap.size w4 W) := Lib.hid fun W hW => Grow.below_of_drew hW
    have HCB : Hid (∀ W, Below w4.drew.heap.size w4.drew W → (convert 25 9 (.slice (some ⟨g, 0, none⟩) (n + 41) (n + 41))).run Tryd.prog W = .ok (.string SB) W) := Lib.hid fun W hW => by
      rw [HSS.out.1]
      exact byt_string (HY4.out.1.below (HBL4.out W hW))
    have HCP : Hid (∀ W, Below w4.drew.heap.size w4.drew W → (convert 25 9 (.slice A4 n c4)).run Tryd.prog W = .ok (.string SP) W) := Lib.hid fun W hW => by
      rw [HSS.out.2]
      exact byt_string (HY4.out.2.below (HBL4.out W hW))
    have HY : Hid (∀ W, Below w4.drew.heap.size w4.drew W → Byt W S A n c l) := Lib.hid fun W hW => (HH.out.below HB4.out.1).below (HBL4.out W hW)
    have HCL : Hid (∀ W, Below w4.drew.heap.size w4.drew W → (convert 25 9 (.slice A n c)).run Tryd.prog W = .ok (.string SP) W) := Lib.hid fun W hW => by
      rw [HSS.out.2]
      exact byt_string (HY.out W hW)
    have HTT : Hid (∀ W, Below w4.drew.heap.size w4.drew W → Tab W) := Lib.hid fun W hW => (HT.out.1.below HB4.out.1).below (HBL4.out W hW)
    have HBKS : Hid (w.heap.size < w4.drew.heap.size ∧ w4.drew.heap[w.heap.size]? = some (.cells KS 23 (0, 0))) := Lib.hid ⟨lt_of_cells HB4.out.2, HB4.out.2⟩
    refine wp_region_grow (fun W W' => Below W.heap.size W W') (Grow.nth [fun v _ => v = .slice (some ⟨g, 0, none⟩) (n + 41) (n + 41), fun v _ => v = .string SB, fun v _ => v = .string SB, fun v _ => v = .bool true, fun v _ => v = .bool true, fun v _ => v = .int .i64 0, fun v _ => v = .int .i64 0, fun v _ => v = .bool true, fun v _ => v = .bool true, fun v _ => v = .bool true, fun v _ => v = .int .i64 0, fun v _ => v = .bool true, fun v _ => v = .bool true, fun v _ => v = .bool true, fun v _ => v = .int .i64 0, fun v _ => v = .bool true, fun v _ => v = .bool true, fun v _ => v = .bool true, fun v _ => v = .slice A4 n c4, fun v _ => v = .string SP, fun v _ => v = .slice A n c, fun v _ => v = .string SP, fun v _ => v = .bool true, fun v _ => v = .bool true, fun v _ => v = .bool true, fun v _ => v = .int .u8 (kd.toNat : Int), fun v _ => v = .int .u8 (kd.toNat : Int), fun v _ => v = .bool true, fun v _ => v = .bool true, fun v _ => v = .bool true, fun v _ => v = .int .u64 (N : Int), fun v _ => v = .int .u64 (N : Int), fun v _ => v = .bool true, fun v _ => v = .bool true, fun v _ => v = .bool true, fun v _ => v = .agg KS, fun v _ => v = .slice A n c, fun v _ => v = .agg MS, fun v _ => v = .agg KS, fun v _ => v = .slice A n c, fun v _ => v = .string SP, fun v _ => v = .agg MS, fun v _ => v = .bool true, fun v _ => v = .bool true, fun v _ => v = .bool true]) 93 (by kernel_rfl) (by kernel_rfl) (by rfl) (fun W => Below.refl _ W) (fun _ _ _ h1 h2 => h1.trans (h2.mono h1.size)) (Grow.mono_nth ?gmono) ?gsteps ?gfin
    case gmono => exact ⟨fun _ _ _ h _ => h, fun _ _ _ h _ => h, fun _ _ _ h _ => h, fun _ _ _ h _ => h, fun _ _ _ h _ => h, fun _ _ _ h _ => h, fun _ _ _ h _ => h, fun _ _ _ h _ => h, fun _ _ _ h _ => h, fun _ _ _ h _ => h, fun _ _ _ h _ => h, fun _ _ _ h _ => h, fun _ _ _ h _ => h, fun _ _ _ h _ => h, fun _ _ _ h _ => h, fun _ _ _ h _ => h, fun _ _ _ h _ => h, fun _ _ _ h _ => h, fun _ _ _ h _ => h, fun _ _ _ h _ => h, fun _ _ _ h _ => h, fun _ _ _ h _ => h, fun _ _ _ h _ => h, fun _ _ _ h _ => h, fun _ _ _ h _ => h, fun _ _ _ h _ => h, fun _ _ _ h _ => h, fun _ _ _ h _ => h, fun _ _ _ h _ => h, fun _ _ _ h _ => h, fun _ _ _ h _ => h, fun _ _ _ h _ => h, fun _ _ _ h _ => h, fun _ _ _ h _ => h, fun _ _ _ h _ => h, fun _ _ _ h _ => h, fun _ _ _ h _ => h, fun _ _ _ h _ => h, fun _ _ _ h _ => h, fun _ _ _ h _ => h, fun _ _ _ h _ => h, fun _ _ _ h _ => h, fun _ _ _ h _ => h, fun _ _ _ h _ => h, fun _ _ _ h _ => h, trivial⟩
    case gsteps =>
      show Grow.allBelow _ 45
      refine And.intro ?_ ?s44
      refine And.intro ?_ ?s43
      refine And.intro ?_ ?s42
      refine And.intro ?_ ?s41
      refine And.intro ?_ ?s40
      refine And.intro ?_ ?s39
      refine And.intro ?_ ?s38
      refine And.intro ?_ ?s37
      refine And.intro ?_ ?s36
      refine And.intro ?_ ?s35
      refine And.intro ?_ ?s34
      refine And.intro ?_ ?s33
      refine And.intro ?_ ?s32
      refine And.intro ?_ ?s31
      refine And.intro ?_ ?s30
      refine And.intro ?_ ?s29
      refine And.intro ?_ ?s28
      refine And.intro ?_ ?s27
      refine And.intro ?_ ?s26
      refine And.intro ?_ ?s25
      refine And.intro ?_ ?s24
      refine And.intro ?_ ?s23
      refine And.intro ?_ ?s22
      refine And.intro ?_ ?s21
      refine And.intro ?_ ?s20
      refine And.intro ?_ ?s19
      refine And.intro ?_ ?s18
      refine And.intro ?_ ?s17
      refine And.intro ?_ ?s16
      refine And.intro ?_ ?s15
      refine And.intro ?_ ?s14
      refine And.intro ?_ ?s13
      refine And.intro ?_ ?s12
      refine And.intro ?_ ?s11
      refine And.intro ?_ ?s10
      refine And.intro ?_ ?s9
      refine And.intro ?_ ?s8
      refine And.intro ?_ ?s7
      refine And.intro ?_ ?s6
      refine And.intro ?_ ?s5
      refine And.intro ?_ ?s4
      refine And.intro ?_ ?s3
      refine And.intro ?_ ?s2
      refine And.intro ?_ ?s1
      refine And.intro ?_ ?s0
      exact trivial
      case s0 =>
        refine Grow.step_in (by rfl) (by rfl) ?_
        intro E W ec eg ef hG hd hu R HR
        have e10 : E (.tmp 10) = .slice (some ⟨g, 0, none⟩) (n + 41) (n + 41) := hu 10 (by kernel_rfl)
        clear hd hu
        go_simp
        exact HR.out _ _ (Below.refl _ _) rfl
      case s1 =>
        refine Grow.step_in (by rfl) (by rfl) ?_
        intro E W ec eg ef hG hd hu R HR
        have e49 : E (.tmp 49) = .slice (some ⟨g, 0, none⟩) (n + 41) (n + 41) := hd 0 49 (by kernel_rfl)
        clear hd hu
        have hcv := HCB.out W hG
        go_simp
        exact HR.out _ _ (Below.refl _ _) rfl
      case s2 =>
        refine Grow.step_in (by rfl) (by rfl) ?_
        intro E W ec eg ef hG hd hu R HR
        have e12 : E (.tmp 12) = .string SB := hu 12 (by kernel_rfl)
        clear hd hu
        go_simp
        exact HR.out _ _ (Below.refl _ _) rfl
      case s3 =>
        refine Grow.step_in (by rfl) (by rfl) ?_
        intro E W ec eg ef hG hd hu R HR
        have e50 : E (.tmp 50) = .string SB := hd 1 50 (by kernel_rfl)
        have e51 : E (.tmp 51) = .string SB := hd 2 51 (by kernel_rfl)
        clear hd hu
        go_simp
        exact HR.out _ _ (Below.refl _ _) rfl
      case s4 =>
        refine Grow.step_in (by rfl) (by rfl) ?_
        intro E W ec eg ef hG hd hu R HR
        have e52 : E (.tmp 52) = .bool true := hd 3 52 (by kernel_rfl)
        clear hd hu
        go_simp
        exact HR.out _ _ (Below.refl _ _) rfl
      case s5 =>
        refine Grow.step_on (g := 4) (b := true) (d := 53) (by rfl) (by rfl) (by rfl) (by kernel_rfl) (fun v W h => h) ?_
        intro E W ec eg ef hG hd hu R HR
        have e11 : E (.tmp 11) = .int .i64 0 := hu 11 (by kernel_rfl)
        clear hd hu
        go_simp
        exact HR.out _ _ (Below.refl _ _) rfl
      case s6 =>
        refine Grow.step_on (g := 4) (b := true) (d := 53) (by rfl) (by rfl) (by rfl) (by kernel_rfl) (fun v W h => h) ?_
        intro E W ec eg ef hG hd hu R HR
        have e13 : E (.tmp 13) = .int .i64 0 := hu 13 (by kernel_rfl)
        clear hd hu
        go_simp
        exact HR.out _ _ (Below.refl _ _) rfl
      case s7 =>
        refine Grow.step_on (g := 4) (b := true) (d := 53) (by rfl) (by rfl) (by rfl) (by kernel_rfl) (fun v W h => h) ?_
        intro E W ec eg ef hG hd hu R HR
        have e54 : E (.tmp 54) = .int .i64 0 := hd 5 54 (by kernel_rfl)
        have e55 : E (.tmp 55) = .int .i64 0 := hd 6 55 (by kernel_rfl)
        clear hd hu
        go_simp
        exact HR.out _ _ (Below.refl _ _) rfl
      case s8 =>
        refine Grow.step_in (by rfl) (by rfl) ?_
        intro E W ec eg ef hG hd hu R HR
        have e53 : E (.tmp 53) = .bool true := hd 4 53 (by kernel_rfl)
        have e56 : E (.tmp 56) = .bool true := hd 7 56 (by kernel_rfl)
        clear hd hu
        go_simp
        exact HR.out _ _ (Below.refl _ _) rfl
      case s9 =>
        refine Grow.step_in (by rfl) (by rfl) ?_
        intro E W ec eg ef hG hd hu R HR
        have e57 : E (.tmp 57) = .bool true := hd 8 57 (by kernel_rfl)
        clear hd hu
        go_simp
        exact HR.out _ _ (Below.refl _ _) rfl
      case s10 =>
        refine Grow.step_on (g := 9) (b := true) (d := 58) (by rfl) (by rfl) (by rfl) (by kernel_rfl) (fun v W h => h) ?_
        intro E W ec eg ef hG hd hu R HR
        have e11 : E (.tmp 11) = .int .i64 0 := hu 11 (by kernel_rfl)
        clear hd hu
        go_simp
        exact HR.out _ _ (Below.refl _ _) rfl
      case s11 =>
        refine Grow.step_on (g := 9) (b := true) (d := 58) (by rfl) (by rfl) (by rfl) (by kernel_rfl) (fun v W h => h) ?_
        intro E W ec eg ef hG hd hu R HR
        have e59 : E (.tmp 59) = .int .i64 0 := hd 10 59 (by kernel_rfl)
        clear hd hu
        go_simp
        exact HR.out _ _ (Below.refl _ _) rfl
      case s12 =>
        refine Grow.step_in (by rfl) (by rfl) ?_
        intro E W ec eg ef hG hd hu R HR
        have e58 : E (.tmp 58) = .bool true := hd 9 58 (by kernel_rfl)
        have e60 : E (.tmp 60) = .bool true := hd 11 60 (by kernel_rfl)
        clear hd hu
        go_simp
        exact HR.out _ _ (Below.refl _ _) rfl
      case s13 =>
        refine Grow.step_in (by rfl) (by rfl) ?_
        intro E W ec eg ef hG hd hu R HR
        have e61 : E (.tmp 61) = .bool true := hd 12 61 (by kernel_rfl)
        clear hd hu
        go_simp
        exact HR.out _ _ (Below.refl _ _) rfl
      case s14 =>
        refine Grow.step_on (g := 13) (b := true) (d := 62) (by rfl) (by rfl) (by rfl) (by kernel_rfl) (fun v W h => h) ?_
        intro E W ec eg ef hG hd hu R HR
        have e17 : E (.tmp 17) = .int .i64 0 := hu 17 (by kernel_rfl)
        clear hd hu
        go_simp
        exact HR.out _ _ (Below.refl _ _) rfl
      case s15 =>
        refine Grow.step_on (g := 13) (b := true) (d := 62) (by rfl) (by rfl) (by rfl) (by kernel_rfl) (fun v W h => h) ?_
        intro E W ec eg ef hG hd hu R HR
        have e63 : E (.tmp 63) = .int .i64 0 := hd 14 63 (by kernel_rfl)
        clear hd hu
        go_simp
        exact HR.out _ _ (Below.refl _ _) rfl
      case s16 =>
        refine Grow.step_in (by rfl) (by rfl) ?_
        intro E W ec eg ef hG hd hu R HR
        have e62 : E (.tmp 62) = .bool true := hd 13 62 (by kernel_rfl)
        have e64 : E (.tmp 64) = .bool true := hd 15 64 (by kernel_rfl)
        clear hd hu
        go_simp
        exact HR.out _ _ (Below.refl _ _) rfl
      case s17 =>
        refine Grow.step_in (by rfl) (by rfl) ?_
        intro E W ec eg ef hG hd hu R HR
        have e65 : E (.tmp 65) = .bool true := hd 16 65 (by kernel_rfl)
        clear hd hu
        go_simp
        exact HR.out _ _ (Below.refl _ _) rfl
      case s18 =>
        refine Grow.step_on (g := 17) (b := true) (d := 66) (by rfl) (by rfl) (by rfl) (by kernel_rfl) (fun v W h => h) ?_
        intro E W ec eg ef hG hd hu R HR
        have e14 : E (.tmp 14) = .slice A4 n c4 := hu 14 (by kernel_rfl)
        clear hd hu
        go_simp
        exact HR.out _ _ (Below.refl _ _) rfl
      case s19 =>
        refine Grow.step_on (g := 17) (b := true) (d := 66) (by rfl) (by rfl) (by rfl) (by kernel_rfl) (fun v W h => h) ?_
        intro E W ec eg ef hG hd hu R HR
        have e67 : E (.tmp 67) = .slice A4 n c4 := hd 18 67 (by kernel_rfl)
        clear hd hu
        have hcv := HCP.out W hG
        go_simp
        exact HR.out _ _ (Below.refl _ _) rfl
      case s20 =>
        refine Grow.step_on (g := 17) (b := true) (d := 66) (by rfl) (by rfl) (by rfl) (by kernel_rfl) (fun v W h => h) ?_
        intro E W ec eg ef hG hd hu R HR
        have e3 : E (.tmp 3) = .slice A n c := hu 3 (by kernel_rfl)
        clear hd hu
        go_simp
        exact HR.out _ _ (Below.refl _ _) rfl
      case s21 =>
        refine Grow.step_on (g := 17) (b := true) (d := 66) (by rfl) (by rfl) (by rfl) (by kernel_rfl) (fun v W h => h) ?_
        intro E W ec eg ef hG hd hu R HR
        have e69 : E (.tmp 69) = .slice A n c := hd 20 69 (by kernel_rfl)
        clear hd hu
        have hcv := HCL.out W hG
        go_simp
        exact HR.out _ _ (Below.refl _ _) rfl
      case s22 =>
        refine Grow.step_on (g := 17) (b := true) (d := 66) (by rfl) (by rfl) (by rfl) (by kernel_rfl) (fun v W h => h) ?_
        intro E W ec eg ef hG hd hu R HR
        have e68 : E (.tmp 68) = .string SP := hd 19 68 (by kernel_rfl)
        have e70 : E (.tmp 70) = .string SP := hd 21 70 (by kernel_rfl)
        clear hd hu
        go_simp
        exact HR.out _ _ (Below.refl _ _) rfl
      case s23 =>
        refine Grow.step_in (by rfl) (by rfl) ?_
        intro E W ec eg ef hG hd hu R HR
        have e66 : E (.tmp 66) = .bool true := hd 17 66 (by kernel_rfl)
        have e71 : E (.tmp 71) = .bool true := hd 22 71 (by kernel_rfl)
        clear hd hu
        go_simp
        exact HR.out _ _ (Below.refl _ _) rfl
      case s24 =>
        refine Grow.step_in (by rfl) (by rfl) ?_
        intro E W ec eg ef hG hd hu R HR
        have e72 : E (.tmp 72) = .bool true := hd 23 72 (by kernel_rfl)
        clear hd hu
        go_simp
        exact HR.out _ _ (Below.refl _ _) rfl
      case s25 =>
        refine Grow.step_on (g := 24) (b := true) (d := 73) (by rfl) (by rfl) (by rfl) (by kernel_rfl) (fun v W h => h) ?_
        intro E W ec eg ef hG hd hu R HR
        have e15 : E (.tmp 15) = .int .u8 (kd.toNat : Int) := hu 15 (by kernel_rfl)
        clear hd hu
        go_simp
        exact HR.out _ _ (Below.refl _ _) rfl
      case s26 =>
        refine Grow.step_on (g := 24) (b := true) (d := 73) (by rfl) (by rfl) (by rfl) (by kernel_rfl) (fun v W h => h) ?_
        intro E W ec eg ef hG hd hu R HR
        have e1 : E (.tmp 1) = .int .u8 (kd.toNat : Int) := hu 1 (by kernel_rfl)
        clear hd hu
        go_simp
        exact HR.out _ _ (Below.refl _ _) rfl
      case s27 =>
        refine Grow.step_on (g := 24) (b := true) (d := 73) (by rfl) (by rfl) (by rfl) (by kernel_rfl) (fun v W h => h) ?_
        intro E W ec eg ef hG hd hu R HR
        have e74 : E (.tmp 74) = .int .u8 (kd.toNat : Int) := hd 25 74 (by kernel_rfl)
        have e75 : E (.tmp 75) = .int .u8 (kd.toNat : Int) := hd 26 75 (by kernel_rfl)
        clear hd hu
        go_simp
        exact HR.out _ _ (Below.refl _ _) rfl
      case s28 =>
        refine Grow.step_in (by rfl) (by rfl) ?_
        intro E W ec eg ef hG hd hu R HR
        have e73 : E (.tmp 73) = .bool true := hd 24 73 (by kernel_rfl)
        have e76 : E (.tmp 76) = .bool true := hd 27 76 (by kernel_rfl)
        clear hd hu
        go_simp
        exact HR.out _ _ (Below.refl _ _) rfl
      case s29 =>
        refine Grow.step_in (by rfl) (by rfl) ?_
        intro E W ec eg ef hG hd hu R HR
        have e77 : E (.tmp 77) = .bool true := hd 28 77 (by kernel_rfl)
        clear hd hu
        go_simp
        exact HR.out _ _ (Below.refl _ _) rfl
      case s30 =>
        refine Grow.step_on (g := 29) (b := true) (d := 78) (by rfl) (by rfl) (by rfl) (by kernel_rfl) (fun v W h => h) ?_
        intro E W ec eg ef hG hd hu R HR
        have e16 : E (.tmp 16) = .int .u64 (N : Int) := hu 16 (by kernel_rfl)
        clear hd hu
        go_simp
        exact HR.out _ _ (Below.refl _ _) rfl
      case s31 =>
        refine Grow.step_on (g := 29) (b := true) (d := 78) (by rfl) (by rfl) (by rfl) (by kernel_rfl) (fun v W h => h) ?_
        intro E W ec eg ef hG hd hu R HR
        have e2 : E (.tmp 2) = .int .u64 (N : Int) := hu 2 (by kernel_rfl)
        clear hd hu
        go_simp
        exact HR.out _ _ (Below.refl _ _) rfl
      case s32 =>
        refine Grow.step_on (g := 29) (b := true) (d := 78) (by rfl) (by rfl) (by rfl) (by kernel_rfl) (fun v W h => h) ?_
        intro E W ec eg ef hG hd hu R HR
        have e79 : E (.tmp 79) = .int .u64 (N : Int) := hd 30 79 (by kernel_rfl)
        have e80 : E (.tmp 80) = .int .u64 (N : Int) := hd 31 80 (by kernel_rfl)
        clear hd hu
        go_simp
        exact HR.out _ _ (Below.refl _ _) rfl
      case s33 =>
        refine Grow.step_in (by rfl) (by rfl) ?_
        intro E W ec eg ef hG hd hu R HR
        have e78 : E (.tmp 78) = .bool true := hd 29 78 (by kernel_rfl)
        have e81 : E (.tmp 81) = .bool true := hd 32 81 (by kernel_rfl)
        clear hd hu
        go_simp
        exact HR.out _ _ (Below.refl _ _) rfl
      case s34 =>
        refine Grow.step_in (by rfl) (by rfl) ?_
        intro E W ec eg ef hG hd hu R HR
        have e82 : E (.tmp 82) = .bool true := hd 33 82 (by kernel_rfl)
        clear hd hu
        go_simp
        exact HR.out _ _ (Below.refl _ _) rfl
      case s35 =>
        refine Grow.step_on (g := 34) (b := true) (d := 83) (by rfl) (by rfl) (by rfl) (by kernel_rfl) (fun v W h => h) ?_
        intro E W ec eg ef hG hd hu R HR
        have e4 : E (.tmp 4) = .pointer (some ⟨w.heap.size, 0, none⟩) := hu 4 (by kernel_rfl)
        clear hd hu
        exact runs_load 23 (.tmp 4) rfl (w.heap.size) e4 KS (0, 0) ((hG.block _ HBKS.out.1).trans HBKS.out.2) Tryd.underlying23 (by rw [HZKS.out]; exact key_info) (HR.out _ _ (Below.refl _ _) rfl)
      case s36 =>
        refine Grow.step_on (g := 34) (b := true) (d := 83) (by rfl) (by rfl) (by rfl) (by kernel_rfl) (fun v W h => h) ?_
        intro E W ec eg ef hG hd hu R HR
        have e3 : E (.tmp 3) = .slice A n c := hu 3 (by kernel_rfl)
        clear hd hu
        go_simp
        exact HR.out _ _ (Below.refl _ _) rfl
      case s37 =>
        refine Grow.step_on (g := 34) (b := true) (d := 83) (by rfl) (by rfl) (by rfl) (by kernel_rfl) (fun v W h => h) ?_
        intro E W ec eg ef hG hd hu R HR
        have e84 : E (.tmp 84) = .agg KS := hd 35 84 (by kernel_rfl)
        have e85 : E (.tmp 85) = .slice A n c := hd 36 85 (by kernel_rfl)
        clear hd hu
        go_simp
        refine (HNA.out W (HY.out W hG) (HTT.out W hG)).mono ?_
        rintro _ w' ⟨rfl, hb⟩
        exact ⟨_, rfl, HR.out _ _ hb (rfl)⟩
      case s38 =>
        refine Grow.step_on (g := 34) (b := true) (d := 83) (by rfl) (by rfl) (by rfl) (by kernel_rfl) (fun v W h => h) ?_
        intro E W ec eg ef hG hd hu R HR
        have e4 : E (.tmp 4) = .pointer (some ⟨w.heap.size, 0, none⟩) := hu 4 (by kernel_rfl)
        clear hd hu
        exact runs_load 23 (.tmp 4) rfl (w.heap.size) e4 KS (0, 0) ((hG.block _ HBKS.out.1).trans HBKS.out.2) Tryd.underlying23 (by rw [HZKS.out]; exact key_info) (HR.out _ _ (Below.refl _ _) rfl)
      case s39 =>
        refine Grow.step_on (g := 34) (b := true) (d := 83) (by rfl) (by rfl) (by rfl) (by kernel_rfl) (fun v W h => h) ?_
        intro E W ec eg ef hG hd hu R HR
        have e3 : E (.tmp 3) = .slice A n c := hu 3 (by kernel_rfl)
        clear hd hu
        go_simp
        exact HR.out _ _ (Below.refl _ _) rfl
      case s40 =>
        refine Grow.step_on (g := 34) (b := true) (d := 83) (by rfl) (by rfl) (by rfl) (by kernel_rfl) (fun v W h => h) ?_
        intro E W ec eg ef hG hd hu R HR
        have e88 : E (.tmp 88) = .slice A n c := hd 39 88 (by kernel_rfl)
        clear hd hu
        have hcv := HCL.out W hG
        go_simp
        exact HR.out _ _ (Below.refl _ _) rfl
      case s41 =>
        refine Grow.step_on (g := 34) (b := true) (d := 83) (by rfl) (by rfl) (by rfl) (by kernel_rfl) (fun v W h => h) ?_
        intro E W ec eg ef hG hd hu R HR
        have e87 : E (.tmp 87) = .agg KS := hd 38 87 (by kernel_rfl)
        have e89 : E (.tmp 89) = .string SP := hd 40 89 (by kernel_rfl)
        clear hd hu
        go_simp
        refine (HRN.out W).mono ?_
        rintro _ w' ⟨rfl, hb⟩
        exact ⟨_, rfl, HR.out _ _ hb (rfl)⟩
      case s42 =>
        refine Grow.step_on (g := 34) (b := true) (d := 83) (by rfl) (by rfl) (by rfl) (by kernel_rfl) (fun v W h => h) ?_
        intro E W ec eg ef hG hd hu R HR
        have e86 : E (.tmp 86) = .agg MS := hd 37 86 (by kernel_rfl)
        have e90 : E (.tmp 90) = .agg MS := hd 41 90 (by kernel_rfl)
        clear hd hu
        have hq := HQ.out
        go_simp
        exact HR.out _ _ (Below.refl _ _) rfl
      case s43 =>
        refine Grow.step_in (by rfl) (by rfl) ?_
        intro E W ec eg ef hG hd hu R HR
        have e83 : E (.tmp 83) = .bool true := hd 34 83 (by kernel_rfl)
        have e91 : E (.tmp 91) = .bool true := hd 42 91 (by kernel_rfl)
        clear hd hu
        go_simp
        exact HR.out _ _ (Below.refl _ _) rfl
      case s44 =>
        refine Grow.step_in (by rfl) (by rfl) ?_
        intro E W ec eg ef hG hd hu R HR
        have e92 : E (.tmp 92) = .bool true := hd 43 92 (by kernel_rfl)
        clear hd hu
        go_simp
        exact HR.out _ _ (Below.refl _ _) rfl
    case gfin =>
      intro W hG
      refine Grow.fin_dst (by rfl) ?_
      rintro _ rfl
      refine Grow.fin_dst (by rfl) ?_
      rintro _ rfl
      refine Grow.fin_dst (by rfl) ?_
      rintro _ rfl
      refine Grow.fin_dst (by rfl) ?_
      rintro _ rfl
      refine Grow.fin_dst (by rfl) ?_
      rintro _ rfl
      refine Grow.fin_dst (by rfl) ?_
      rintro _ rfl
      refine Grow.fin_dst (by rfl) ?_
      rintro _ rfl
      refine Grow.fin_dst (by rfl) ?_
      rintro _ rfl
      refine Grow.fin_dst (by rfl) ?_
      rintro _ rfl
      refine Grow.fin_dst (by rfl) ?_
      rintro _ rfl
      refine Grow.fin_dst (by rfl) ?_
      rintro _ rfl
      refine Grow.fin_dst (by rfl) ?_
      rintro _ rfl
      refine Grow.fin_dst (by rfl) ?_
      rintro _ rfl
      refine Grow.fin_dst (by rfl) ?_
      rintro _ rfl
      refine Grow.fin_dst (by rfl) ?_
      rintro _ rfl
      refine Grow.fin_dst (by rfl) ?_
      rintro _ rfl
      refine Grow.fin_dst (by rfl) ?_
      rintro _ rfl
      refine Grow.fin_dst (by rfl) ?_
      rintro _ rfl
      refine Grow.fin_dst (by rfl) ?_
      rintro _ rfl
      refine Grow.fin_dst (by rfl) ?_
      rintro _ rfl
      refine Grow.fin_dst (by rfl) ?_
      rintro _ rfl
      refine Grow.fin_dst (by rfl) ?_
      rintro _ rfl
      refine Grow.fin_dst (by rfl) ?_
      rintro _ rfl
      refine Grow.fin_dst (by rfl) ?_
      rintro _ rfl
      refine Grow.fin_dst (by rfl) ?_
      rintro _ rfl
      refine Grow.fin_dst (by rfl) ?_
      rintro _ rfl
      refine Grow.fin_dst (by rfl) ?_
      rintro _ rfl
      refine Grow.fin_dst (by rfl) ?_
      rintro _ rfl
      refine Grow.fin_dst (by rfl) ?_
      rintro _ rfl
      refine Grow.fin_dst (by rfl) ?_
      rintro _ rfl
      refine Grow.fin_dst (by rfl) ?_
      rintro _ rfl
      refine Grow.fin_dst (by rfl) ?_
      rintro _ rfl
      refine Grow.fin_dst (by rfl) ?_
      rintro _ rfl
      refine Grow.fin_dst (by rfl) ?_
      rintro _ rfl
      refine Grow.fin_dst (by rfl) ?_
      rintro _ rfl
      refine Grow.fin_dst (by rfl) ?_
      rintro _ rfl
      refine Grow.fin_dst (by rfl) ?_
      rintro _ rfl
      refine Grow.fin_dst (by rfl) ?_
      rintro _ rfl
      refine Grow.fin_dst (by rfl) ?_
      rintro _ rfl
      refine Grow.fin_dst (by rfl) ?_
      rintro _ rfl
      refine Grow.fin_dst (by rfl) ?_
      rintro _ rfl
      refine Grow.fin_dst (by rfl) ?_
      rintro _ rfl
      refine Grow.fin_dst (by rfl) ?_
      rintro _ rfl
      refine Grow.fin_dst (by rfl) ?_
      rintro _ rfl
      refine Grow.fin_dst (by rfl) ?_
      rintro _ rfl
      simp only [Act.put, List.setIfInBounds_toArray, List.set_cons_zero, List.set_cons_succ]
      refine Grow.fin_end ?_
      have HF : Hid (Below w.heap.size w W) := Lib.hid (HB4.out.1.trans ((Grow.below_of_drew hG).mono HB4.out.1.size))
      clear hG
      go_wp2_with fail
      go_ret
      exact ⟨rfl, HF.out⟩
  · clear hKS
    go_enter Tryd.func3, Tryd.ntmps3
    go_wp2_with (go_at_call 8; refine (lawake_true (ht.1.below HBX.out.1) (ht.2.below HBX.out.1)).mono ?_; rintro _ w1 ⟨rfl, hb1⟩)
    go_ret
    exact ⟨rfl, HBX.out.1.trans (hb1.mono HBX.out.1.size)⟩
end Go.Proofs.YtlkkocgjpljibaaDoor
