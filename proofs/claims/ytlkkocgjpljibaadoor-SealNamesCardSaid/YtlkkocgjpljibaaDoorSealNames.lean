/-
  The statement SealNames: its walk.
-/
import Derived.Test.YtlkkocgjpljibaaDoorSealAwake
namespace Go.Proofs.YtlkkocgjpljibaaDoor
open Go.RowKit

set_option maxHeartbeats 8000000 in
set_option maxRecDepth 100000 in
theorem walk_names {w : World} (k : List UInt8) (hk : k.length = 32) (j : List UInt8) (hj : j.length = 32) {S : Nat → Prop} {A : Option Addr} {n c : Nat} {l : List UInt8} (h : Byt w S A n c l) {kx : Int} (hkd0 : (Lit.int .u8 kx).wf = true) (ht : Tab w ∧ QTab w) :
    Calls Tryd.prog 7 #[.agg (row8 k), .agg (row8 j), .slice A n c, .int .u8 kx] w fun e w' => e = .returned (.bool true) ∧ Below w.heap.size w w' := by
  have hkd := bounds_u8 hkd0
  obtain ⟨kd, rfl⟩ : ∃ kd : UInt8, kx = (kd.toNat : Int) := ⟨UInt8.ofNat kx.toNat, by simp; omega⟩
  obtain ⟨N, hN1⟩ : ∃ N : Nat, N = 1 := ⟨_, rfl⟩
  clear hkd hkd0
  obtain ⟨KS, hKS⟩ : ∃ KS, KS = row8 k := ⟨_, rfl⟩
  rw [← hKS]
  have HZKS : Hid (KS.size = 32) := Lib.hid (by rw [hKS, row8_size, hk])
  obtain ⟨JS, hJS⟩ : ∃ JS, JS = row8 j := ⟨_, rfl⟩
  rw [← hJS]
  have HZJS : Hid (JS.size = 32) := Lib.hid (by rw [hJS, row8_size, hj])
  have HBX : Hid (Below w.heap.size w ((w.alloc (.cells KS 23)).alloc (.cells JS 23)) ∧ ((w.alloc (.cells KS 23)).alloc (.cells JS 23)).heap[w.heap.size]? = some (.cells KS 23 (0, 0)) ∧ ((w.alloc (.cells KS 23)).alloc (.cells JS 23)).heap[w.heap.size + 1]? = some (.cells JS 23 (0, 0))) := Lib.hid (by
    refine ⟨((Below.refl _ _).alloc (Nat.le_refl _) _).alloc (by simp) _, (Below.heap_alloc _ _ _ (by simp)).trans (heap_alloc_new w _), ?_⟩
    have := heap_alloc_new (w.alloc (.cells KS 23)) (.cells JS 23)
    simpa using this)
  by_cases hn : n ≤ 200
  · have hl := h.len
    obtain ⟨BL, hBL⟩ : ∃ BL, BL = sealL k kd N l := ⟨_, rfl⟩
    have hbl : BL.length = n + 41 := by rw [hBL, sealL_length, hl]; omega
    obtain ⟨SB, hSB⟩ : ∃ SB, SB = st BL := ⟨_, rfl⟩
    obtain ⟨SP, hSP⟩ : ∃ SP, SP = st l := ⟨_, rfl⟩
    obtain ⟨MS, hMS⟩ : ∃ MS, MS = row8 (macL (drvL k nameB 0) l) := ⟨_, rfl⟩
    obtain ⟨OS, hOS⟩ : ∃ OS, OS = row8 (macL (drvL j nameB 0) l) := ⟨_, rfl⟩
    obtain ⟨P, hP⟩ : ∃ P, P = openP j BL := ⟨_, rfl⟩
    obtain ⟨SQ, hSQ⟩ : ∃ SQ, SQ = st P := ⟨_, rfl⟩
    obtain ⟨KK, hKK⟩ : ∃ KK, KK = ((openK j BL).toNat : Int) := ⟨_, rfl⟩
    obtain ⟨NN, hNN⟩ : ∃ NN, NN = (openN j BL : Int) := ⟨_, rfl⟩
    obtain ⟨EE, hEE⟩ : ∃ EE, EE = (openE j BL : Int) := ⟨_, rfl⟩
    have HQ : Hid (∀ w, (Op.equalIn 10000 34 (.agg MS) (.agg MS)).run Tryd.prog w = .ok true w) := Lib.hid fun w => by
      rw [hMS]
      exact (id_eql _ _ (macL_length _ _) (macL_length _ _) w).trans (by simp)
    have HQ2 : Hid (∀ w, (Op.equalIn 10000 34 (.agg OS) (.agg OS)).run Tryd.prog w = .ok true w) := Lib.hid fun w => by
      rw [hOS]
      exact (id_eql _ _ (macL_length _ _) (macL_length _ _) w).trans (by simp)
    have HSE : Hid (∀ W {S : Nat → Prop} {A : Option Addr} {c : Nat}, Byt W S A n c l → Tab W → QTab W → Calls Tryd.prog 9 #[.agg KS, .int .u8 (kd.toNat : Int), .int .u64 1, .slice A n c] W fun e w' => ∃ g, e = .returned (.tuple #[.slice (some ⟨g, 0, none⟩) (n + 41) (n + 41), .int .i64 0]) ∧ w'.ownsRow W.heap.size 5 1 (.slice (some ⟨g, 0, none⟩) (n + 41) (n + 41)) (n + 41) (u8s BL) ∧ Below W.heap.size W w') := Lib.hid fun W S A c h1 h2 h3 => by
      rw [hKS, hBL, hN1]
      exact sseal_any h1 h2 h3 k hk kd 1 (by omega)
    have HOP : Hid (∀ W {S : Nat → Prop} {A : Option Addr} {c : Nat}, Byt W S A (n + 41) c BL → Tab W → QTab W → Calls Tryd.prog 11 #[.agg JS, .slice A (n + 41) c] W fun e w' => ∃ A' c', e = .returned (.tuple #[.slice A' P.length c', .int .u8 KK, .int .u64 NN, .int .i64 EE]) ∧ Byt w' (W.heap.size ≤ ·) A' P.length c' P ∧ Below W.heap.size W w') := Lib.hid fun W S A c h1 h2 h3 => by
      rw [hJS, hP, hKK, hNN, hEE]
      exact sopen_any h1 h2 h3 j hj
    have HRO : Hid (∀ W, Calls Tryd.prog 14 #[.agg JS, .string SB] W fun e w' => e = .returned (.tuple #[.string SQ, .int .u8 KK, .int .u64 NN, .int .i64 EE]) ∧ Below W.heap.size W w') := Lib.hid fun W => by
      rw [hJS, hSQ, hP, hKK, hNN, hEE, hSB]
      exact rsopen_any (by omega) j hj
    have HNA : Hid (∀ W {S : Nat → Prop} {A : Option Addr} {c : Nat}, Byt W S A n c l → Tab W → Calls Tryd.prog 12 #[.agg KS, .slice A n c] W fun e w' => e = .returned (.agg MS) ∧ Below W.heap.size W w') := Lib.hid fun W S A c h1 h2 => by
      rw [hKS, hMS]
      exact sname_any h1 h2 k hk (by omega)
    have RHNA : Hid (∀ W, Calls Tryd.prog 13 #[.agg KS, .string SP] W fun e w' => e = .returned (.agg MS) ∧ Below W.heap.size W w') := Lib.hid fun W => by
      rw [hKS, hMS, hSP]
      exact rsname_any l (by omega) k hk W
    have HNB : Hid (∀ W {S : Nat → Prop} {A : Option Addr} {c : Nat}, Byt W S A n c l → Tab W → Calls Tryd.prog 12 #[.agg JS, .slice A n c] W fun e w' => e = .returned (.agg OS) ∧ Below W.heap.size W w') := Lib.hid fun W S A c h1 h2 => by
      rw [hJS, hOS]
      exact sname_any h1 h2 j hj (by omega)
    have RHNB : Hid (∀ W, Calls Tryd.prog 13 #[.agg JS, .string SP] W fun e w' => e = .returned (.agg OS) ∧ Below W.heap.size W w') := Lib.hid fun W => by
      rw [hJS, hOS, hSP]
      exact rsname_any l (by omega) j hj W
    have HSS := Lib.hid (And.intro hSB hSP)
    have HH := Lib.hid h
    clear hBL hSB hSP hMS hOS hKS hJS hk hj h hl hbl hP hSQ hKK hNN hEE hN1
    go_enter Tryd.func7, Tryd.ntmps7
    go_wp2_with fail
    refine (lawake_true (ht.1.below HBX.out.1) (ht.2.below HBX.out.1)).mono ?_
    rintro _ w1 ⟨rfl, hb1⟩
    have HB1 : Hid (Below w.heap.size w w1 ∧ w1.heap[w.heap.size]? = some (.cells KS 23 (0, 0)) ∧ w1.heap[w.heap.size + 1]? = some (.cells JS 23 (0, 0))) := Lib.hid ⟨HBX.out.1.trans (hb1.mono HBX.out.1.size), (hb1.block _ (lt_of_cells HBX.out.2.1)).trans HBX.out.2.1, (hb1.block _ (lt_of_cells HBX.out.2.2)).trans HBX.out.2.2⟩
    have HT := Lib.hid ht
    clear hb1 ht HBX
    go_wp2_with (refine wpList_load_row (by rfl) 23 (.tmp 4) (by rfl) w.heap.size (by rfl) 23 KS (0, 0) _ HB1.out.2.1 Tryd.underlying23 (by rfl) (by rw [HZKS.out]; exact key_info) ?_)
    refine (HSE.out _ (HH.out.below HB1.out.1) (HT.out.1.below HB1.out.1) (HT.out.2.below HB1.out.1)).mono ?_
    rintro _ w2 ⟨g, rfl, hown2, hb2⟩
    have HB2 : Hid (Below w.heap.size w w2 ∧ w2.heap[w.heap.size]? = some (.cells KS 23 (0, 0)) ∧ w2.heap[w.heap.size + 1]? = some (.cells JS 23 (0, 0))) := Lib.hid ⟨HB1.out.1.trans (hb2.mono HB1.out.1.size), (hb2.block _ (lt_of_cells HB1.out.2.1)).trans HB1.out.2.1, (hb2.block _ (lt_of_cells HB1.out.2.2)).trans HB1.out.2.2⟩
    have HY2 := Lib.hid (own_byt_at hown2)
    clear hown2 hb2 HB1 HSE
    go_wp2_with (refine wpList_load_row (by rfl) 23 (.tmp 5) (by rfl) (w.heap.size + 1) (by rfl) 23 JS (0, 0) _ HB2.out.2.2 Tryd.underlying23 (by rfl) (by rw [HZJS.out]; exact key_info) ?_)
    refine (HOP.out _ HY2.out (HT.out.1.below HB2.out.1) (HT.out.2.below HB2.out.1)).mono ?_
    rintro _ w3 ⟨A3, c3, rfl, _, hb3⟩
    have HB3 : Hid (Below w.heap.size w w3 ∧ w3.heap[w.heap.size]? = some (.cells KS 23 (0, 0)) ∧ w3.heap[w.heap.size + 1]? = some (.cells JS 23 (0, 0))) := Lib.hid ⟨HB2.out.1.trans (hb3.mono HB2.out.1.size), (hb3.block _ (lt_of_cells HB2.out.2.1)).trans HB2.out.2.1, (hb3.block _ (lt_of_cells HB2.out.2.2)).trans HB2.out.2.2⟩
    have hcv3 := byt_string (HY2.out.below hb3)
    rw [show (⟨BL.toArray⟩ : ByteArray) = st BL from rfl, ← HSS.out.1] at hcv3
    clear hb3 HB2 HOP HY2
    go_wp2_with (refine wpList_load_row (by rfl) 23 (.tmp 5) (by rfl) (w.heap.size + 1) (by rfl) 23 JS (0, 0) _ HB3.out.2.2 Tryd.underlying23 (by rfl) (by rw [HZJS.out]; exact key_info) ?_)
    refine (HRO.out _).mono ?_
    rintro _ w4 ⟨rfl, hb4⟩
    have HB4 : Hid (Below w.heap.size w w4 ∧ w4.heap[w.heap.size]? = some (.cells KS 23 (0, 0)) ∧ w4.heap[w.heap.size + 1]? = some (.cells JS 23 (0, 0))) := Lib.hid ⟨HB3.out.1.trans (hb4.mono HB3.out.1.size), (hb4.block _ (lt_of_cells HB3.out.2.1)).trans HB3.out.2.1, (hb4.block _ (lt_of_cells HB3.out.2.2)).trans HB3.out.2.2⟩
    clear hb4 HB3 HRO hcv3
    go_upto_region 9 with fail
    have HBL4 : Hid (∀ W, Below w4.drew.heap.size w4.drew W → Below w4.heap.size w4 W) := Lib.hid fun W hW => Grow.below_of_drew hW
    have HY : Hid (∀ W, Below w4.drew.heap.size w4.drew W → Byt W S A n c l) := Lib.hid fun W hW => (HH.out.below HB4.out.1).below (HBL4.out W hW)
    have HCL : Hid (∀ W, Below w4.drew.heap.size w4.drew W → (convert 25 9 (.slice A n c)).run Tryd.prog W = .ok (.string SP) W) := Lib.hid fun W hW => by
      rw [HSS.out.2]
      exact byt_string (HY.out W hW)
    have HTT : Hid (∀ W, Below w4.drew.heap.size w4.drew W → Tab W) := Lib.hid fun W hW => (HT.out.1.below HB4.out.1).below (HBL4.out W hW)
    have HBKS : Hid (w.heap.size < w4.drew.heap.size ∧ w4.drew.heap[w.heap.size]? = some (.cells KS 23 (0, 0))) := Lib.hid ⟨lt_of_cells HB4.out.2.1, HB4.out.2.1⟩
    have HBJS : Hid (w.heap.size + 1 < w4.drew.heap.size ∧ w4.drew.heap[w.heap.size + 1]? = some (.cells JS 23 (0, 0))) := Lib.hid ⟨lt_of_cells HB4.out.2.2, HB4.out.2.2⟩
    refine wp_region_grow (fun W W' => Below W.heap.size W W') (Grow.nth [fun v _ => v = .int .i64 0, fun v _ => v = .bool true, fun v _ => v = .bool true, fun v _ => v = .int .i64 EE, fun v _ => v = .int .i64 EE, fun v _ => v = .bool true, fun v _ => v = .bool true, fun v _ => v = .bool true, fun v _ => v = .agg KS, fun v _ => v = .slice A n c, fun v _ => v = .agg MS, fun v _ => v = .agg KS, fun v _ => v = .slice A n c, fun v _ => v = .string SP, fun v _ => v = .agg MS, fun v _ => v = .bool true, fun v _ => v = .bool true, fun v _ => v = .bool true, fun v _ => v = .agg JS, fun v _ => v = .slice A n c, fun v _ => v = .agg OS, fun v _ => v = .agg JS, fun v _ => v = .slice A n c, fun v _ => v = .string SP, fun v _ => v = .agg OS, fun v _ => v = .bool true, fun v _ => v = .bool true, fun v _ => v = .bool true]) 77 (by kernel_rfl) (by kernel_rfl) (by rfl) (fun W => Below.refl _ W) (fun _ _ _ h1 h2 => h1.trans (h2.mono h1.size)) (Grow.mono_nth ?gmono) ?gsteps ?gfin
    case gmono => exact ⟨fun _ _ _ h _ => h, fun _ _ _ h _ => h, fun _ _ _ h _ => h, fun _ _ _ h _ => h, fun _ _ _ h _ => h, fun _ _ _ h _ => h, fun _ _ _ h _ => h, fun _ _ _ h _ => h, fun _ _ _ h _ => h, fun _ _ _ h _ => h, fun _ _ _ h _ => h, fun _ _ _ h _ => h, fun _ _ _ h _ => h, fun _ _ _ h _ => h, fun _ _ _ h _ => h, fun _ _ _ h _ => h, fun _ _ _ h _ => h, fun _ _ _ h _ => h, fun _ _ _ h _ => h, fun _ _ _ h _ => h, fun _ _ _ h _ => h, fun _ _ _ h _ => h, fun _ _ _ h _ => h, fun _ _ _ h _ => h, fun _ _ _ h _ => h, fun _ _ _ h _ => h, fun _ _ _ h _ => h, fun _ _ _ h _ => h, trivial⟩
    case gsteps =>
      show Grow.allBelow _ 28
      refine And.intro ?_ ?s27
      refine And.intro ?_ ?s26
      refine And.intro ?_ ?s25
      refine And.intro ?_ ?s24
      refine And.intro ?_ ?s23
      refine And.intro ?_ ?s22
      refine And.intro ?_ ?s21
      refine And.intro ?_ ?s20
      refine And.intro ?_ ?s19
      refine And.intro ?_ ?s18
      refine And.intro ?_ ?s17
      refine And.intro ?_ ?s16
      refine And.intro ?_ ?s15
      refine And.intro ?_ ?s14
      refine And.intro ?_ ?s13
      refine And.intro ?_ ?s12
      refine And.intro ?_ ?s11
      refine And.intro ?_ ?s10
      refine And.intro ?_ ?s9
      refine And.intro ?_ ?s8
      refine And.intro ?_ ?s7
      refine And.intro ?_ ?s6
      refine And.intro ?_ ?s5
      refine And.intro ?_ ?s4
      refine And.intro ?_ ?s3
      refine And.intro ?_ ?s2
      refine And.intro ?_ ?s1
      refine And.intro ?_ ?s0
      exact trivial
      case s0 =>
        refine Grow.step_in (by rfl) (by rfl) ?_
        intro E W ec eg ef hG hd hu R HR
        have e11 : E (.tmp 11) = .int .i64 0 := hu 11 (by kernel_rfl)
        clear hd hu
        go_simp
        exact HR.out _ _ (Below.refl _ _) rfl
      case s1 =>
        refine Grow.step_in (by rfl) (by rfl) ?_
        intro E W ec eg ef hG hd hu R HR
        have e50 : E (.tmp 50) = .int .i64 0 := hd 0 50 (by kernel_rfl)
        clear hd hu
        go_simp
        exact HR.out _ _ (Below.refl _ _) rfl
      case s2 =>
        refine Grow.step_in (by rfl) (by rfl) ?_
        intro E W ec eg ef hG hd hu R HR
        have e51 : E (.tmp 51) = .bool true := hd 1 51 (by kernel_rfl)
        clear hd hu
        go_simp
        exact HR.out _ _ (Below.refl _ _) rfl
      case s3 =>
        refine Grow.step_on (g := 2) (b := true) (d := 52) (by rfl) (by rfl) (by rfl) (by kernel_rfl) (fun v W h => h) ?_
        intro E W ec eg ef hG hd hu R HR
        have e15 : E (.tmp 15) = .int .i64 EE := hu 15 (by kernel_rfl)
        clear hd hu
        go_simp
        exact HR.out _ _ (Below.refl _ _) rfl
      case s4 =>
        refine Grow.step_on (g := 2) (b := true) (d := 52) (by rfl) (by rfl) (by rfl) (by kernel_rfl) (fun v W h => h) ?_
        intro E W ec eg ef hG hd hu R HR
        have e19 : E (.tmp 19) = .int .i64 EE := hu 19 (by kernel_rfl)
        clear hd hu
        go_simp
        exact HR.out _ _ (Below.refl _ _) rfl
      case s5 =>
        refine Grow.step_on (g := 2) (b := true) (d := 52) (by rfl) (by rfl) (by rfl) (by kernel_rfl) (fun v W h => h) ?_
        intro E W ec eg ef hG hd hu R HR
        have e53 : E (.tmp 53) = .int .i64 EE := hd 3 53 (by kernel_rfl)
        have e54 : E (.tmp 54) = .int .i64 EE := hd 4 54 (by kernel_rfl)
        clear hd hu
        go_simp
        exact HR.out _ _ (Below.refl _ _) rfl
      case s6 =>
        refine Grow.step_in (by rfl) (by rfl) ?_
        intro E W ec eg ef hG hd hu R HR
        have e52 : E (.tmp 52) = .bool true := hd 2 52 (by kernel_rfl)
        have e55 : E (.tmp 55) = .bool true := hd 5 55 (by kernel_rfl)
        clear hd hu
        go_simp
        exact HR.out _ _ (Below.refl _ _) rfl
      case s7 =>
        refine Grow.step_in (by rfl) (by rfl) ?_
        intro E W ec eg ef hG hd hu R HR
        have e56 : E (.tmp 56) = .bool true := hd 6 56 (by kernel_rfl)
        clear hd hu
        go_simp
        exact HR.out _ _ (Below.refl _ _) rfl
      case s8 =>
        refine Grow.step_on (g := 7) (b := true) (d := 57) (by rfl) (by rfl) (by rfl) (by kernel_rfl) (fun v W h => h) ?_
        intro E W ec eg ef hG hd hu R HR
        have e4 : E (.tmp 4) = .pointer (some ⟨w.heap.size, 0, none⟩) := hu 4 (by kernel_rfl)
        clear hd hu
        exact runs_load 23 (.tmp 4) rfl (w.heap.size) e4 KS (0, 0) ((hG.block _ HBKS.out.1).trans HBKS.out.2) Tryd.underlying23 (by rw [HZKS.out]; exact key_info) (HR.out _ _ (Below.refl _ _) rfl)
      case s9 =>
        refine Grow.step_on (g := 7) (b := true) (d := 57) (by rfl) (by rfl) (by rfl) (by kernel_rfl) (fun v W h => h) ?_
        intro E W ec eg ef hG hd hu R HR
        have e2 : E (.tmp 2) = .slice A n c := hu 2 (by kernel_rfl)
        clear hd hu
        go_simp
        exact HR.out _ _ (Below.refl _ _) rfl
      case s10 =>
        refine Grow.step_on (g := 7) (b := true) (d := 57) (by rfl) (by rfl) (by rfl) (by kernel_rfl) (fun v W h => h) ?_
        intro E W ec eg ef hG hd hu R HR
        have e58 : E (.tmp 58) = .agg KS := hd 8 58 (by kernel_rfl)
        have e59 : E (.tmp 59) = .slice A n c := hd 9 59 (by kernel_rfl)
        clear hd hu
        go_simp
        refine (HNA.out W (HY.out W hG) (HTT.out W hG)).mono ?_
        rintro _ w' ⟨rfl, hb⟩
        exact ⟨_, rfl, HR.out _ _ hb (rfl)⟩
      case s11 =>
        refine Grow.step_on (g := 7) (b := true) (d := 57) (by rfl) (by rfl) (by rfl) (by kernel_rfl) (fun v W h => h) ?_
        intro E W ec eg ef hG hd hu R HR
        have e4 : E (.tmp 4) = .pointer (some ⟨w.heap.size, 0, none⟩) := hu 4 (by kernel_rfl)
        clear hd hu
        exact runs_load 23 (.tmp 4) rfl (w.heap.size) e4 KS (0, 0) ((hG.block _ HBKS.out.1).trans HBKS.out.2) Tryd.underlying23 (by rw [HZKS.out]; exact key_info) (HR.out _ _ (Below.refl _ _) rfl)
      case s12 =>
        refine Grow.step_on (g := 7) (b := true) (d := 57) (by rfl) (by rfl) (by rfl) (by kernel_rfl) (fun v W h => h) ?_
        intro E W ec eg ef hG hd hu R HR
        have e2 : E (.tmp 2) = .slice A n c := hu 2 (by kernel_rfl)
        clear hd hu
        go_simp
        exact HR.out _ _ (Below.refl _ _) rfl
      case s13 =>
        refine Grow.step_on (g := 7) (b := true) (d := 57) (by rfl) (by rfl) (by rfl) (by kernel_rfl) (fun v W h => h) ?_
        intro E W ec eg ef hG hd hu R HR
        have e62 : E (.tmp 62) = .slice A n c := hd 12 62 (by kernel_rfl)
        clear hd hu
        have hcv := HCL.out W hG
        go_simp
        exact HR.out _ _ (Below.refl _ _) rfl
      case s14 =>
        refine Grow.step_on (g := 7) (b := true) (d := 57) (by rfl) (by rfl) (by rfl) (by kernel_rfl) (fun v W h => h) ?_
        intro E W ec eg ef hG hd hu R HR
        have e61 : E (.tmp 61) = .agg KS := hd 11 61 (by kernel_rfl)
        have e63 : E (.tmp 63) = .string SP := hd 13 63 (by kernel_rfl)
        clear hd hu
        go_simp
        refine (RHNA.out W).mono ?_
        rintro _ w' ⟨rfl, hb⟩
        exact ⟨_, rfl, HR.out _ _ hb (rfl)⟩
      case s15 =>
        refine Grow.step_on (g := 7) (b := true) (d := 57) (by rfl) (by rfl) (by rfl) (by kernel_rfl) (fun v W h => h) ?_
        intro E W ec eg ef hG hd hu R HR
        have e60 : E (.tmp 60) = .agg MS := hd 10 60 (by kernel_rfl)
        have e64 : E (.tmp 64) = .agg MS := hd 14 64 (by kernel_rfl)
        clear hd hu
        have hq := HQ.out
        go_simp
        exact HR.out _ _ (Below.refl _ _) rfl
      case s16 =>
        refine Grow.step_in (by rfl) (by rfl) ?_
        intro E W ec eg ef hG hd hu R HR
        have e57 : E (.tmp 57) = .bool true := hd 7 57 (by kernel_rfl)
        have e65 : E (.tmp 65) = .bool true := hd 15 65 (by kernel_rfl)
        clear hd hu
        go_simp
        exact HR.out _ _ (Below.refl _ _) rfl
      case s17 =>
        refine Grow.step_in (by rfl) (by rfl) ?_
        intro E W ec eg ef hG hd hu R HR
        have e66 : E (.tmp 66) = .bool true := hd 16 66 (by kernel_rfl)
        clear hd hu
        go_simp
        exact HR.out _ _ (Below.refl _ _) rfl
      case s18 =>
        refine Grow.step_on (g := 17) (b := true) (d := 67) (by rfl) (by rfl) (by rfl) (by kernel_rfl) (fun v W h => h) ?_
        intro E W ec eg ef hG hd hu R HR
        have e5 : E (.tmp 5) = .pointer (some ⟨w.heap.size + 1, 0, none⟩) := hu 5 (by kernel_rfl)
        clear hd hu
        exact runs_load 23 (.tmp 5) rfl (w.heap.size + 1) e5 JS (0, 0) ((hG.block _ HBJS.out.1).trans HBJS.out.2) Tryd.underlying23 (by rw [HZJS.out]; exact key_info) (HR.out _ _ (Below.refl _ _) rfl)
      case s19 =>
        refine Grow.step_on (g := 17) (b := true) (d := 67) (by rfl) (by rfl) (by rfl) (by kernel_rfl) (fun v W h => h) ?_
        intro E W ec eg ef hG hd hu R HR
        have e2 : E (.tmp 2) = .slice A n c := hu 2 (by kernel_rfl)
        clear hd hu
        go_simp
        exact HR.out _ _ (Below.refl _ _) rfl
      case s20 =>
        refine Grow.step_on (g := 17) (b := true) (d := 67) (by rfl) (by rfl) (by rfl) (by kernel_rfl) (fun v W h => h) ?_
        intro E W ec eg ef hG hd hu R HR
        have e68 : E (.tmp 68) = .agg JS := hd 18 68 (by kernel_rfl)
        have e69 : E (.tmp 69) = .slice A n c := hd 19 69 (by kernel_rfl)
        clear hd hu
        go_simp
        refine (HNB.out W (HY.out W hG) (HTT.out W hG)).mono ?_
        rintro _ w' ⟨rfl, hb⟩
        exact ⟨_, rfl, HR.out _ _ hb (rfl)⟩
      case s21 =>
        refine Grow.step_on (g := 17) (b := true) (d := 67) (by rfl) (by rfl) (by rfl) (by kernel_rfl) (fun v W h => h) ?_
        intro E W ec eg ef hG hd hu R HR
        have e5 : E (.tmp 5) = .pointer (some ⟨w.heap.size + 1, 0, none⟩) := hu 5 (by kernel_rfl)
        clear hd hu
        exact runs_load 23 (.tmp 5) rfl (w.heap.size + 1) e5 JS (0, 0) ((hG.block _ HBJS.out.1).trans HBJS.out.2) Tryd.underlying23 (by rw [HZJS.out]; exact key_info) (HR.out _ _ (Below.refl _ _) rfl)
      case s22 =>
        refine Grow.step_on (g := 17) (b := true) (d := 67) (by rfl) (by rfl) (by rfl) (by kernel_rfl) (fun v W h => h) ?_
        intro E W ec eg ef hG hd hu R HR
        have e2 : E (.tmp 2) = .slice A n c := hu 2 (by kernel_rfl)
        clear hd hu
        go_simp
        exact HR.out _ _ (Below.refl _ _) rfl
      case s23 =>
        refine Grow.step_on (g := 17) (b := true) (d := 67) (by rfl) (by rfl) (by rfl) (by kernel_rfl) (fun v W h => h) ?_
        intro E W ec eg ef hG hd hu R HR
        have e72 : E (.tmp 72) = .slice A n c := hd 22 72 (by kernel_rfl)
        clear hd hu
        have hcv := HCL.out W hG
        go_simp
        exact HR.out _ _ (Below.refl _ _) rfl
      case s24 =>
        refine Grow.step_on (g := 17) (b := true) (d := 67) (by rfl) (by rfl) (by rfl) (by kernel_rfl) (fun v W h => h) ?_
        intro E W ec eg ef hG hd hu R HR
        have e71 : E (.tmp 71) = .agg JS := hd 21 71 (by kernel_rfl)
        have e73 : E (.tmp 73) = .string SP := hd 23 73 (by kernel_rfl)
        clear hd hu
        go_simp
        refine (RHNB.out W).mono ?_
        rintro _ w' ⟨rfl, hb⟩
        exact ⟨_, rfl, HR.out _ _ hb (rfl)⟩
      case s25 =>
        refine Grow.step_on (g := 17) (b := true) (d := 67) (by rfl) (by rfl) (by rfl) (by kernel_rfl) (fun v W h => h) ?_
        intro E W ec eg ef hG hd hu R HR
        have e70 : E (.tmp 70) = .agg OS := hd 20 70 (by kernel_rfl)
        have e74 : E (.tmp 74) = .agg OS := hd 24 74 (by kernel_rfl)
        clear hd hu
        have hq := HQ2.out
        go_simp
        exact HR.out _ _ (Below.refl _ _) rfl
      case s26 =>
        refine Grow.step_in (by rfl) (by rfl) ?_
        intro E W ec eg ef hG hd hu R HR
        have e67 : E (.tmp 67) = .bool true := hd 17 67 (by kernel_rfl)
        have e75 : E (.tmp 75) = .bool true := hd 25 75 (by kernel_rfl)
        clear hd hu
        go_simp
        exact HR.out _ _ (Below.refl _ _) rfl
      case s27 =>
        refine Grow.step_in (by rfl) (by rfl) ?_
        intro E W ec eg ef hG hd hu R HR
        have e76 : E (.tmp 76) = .bool true := hd 26 76 (by kernel_rfl)
        clear hd hu
        go_simp
        exact HR.out _ _ (Below.refl _ _) rfl
    case gfin =>
      intro W hG
      refine Grow.fin_dst (by rfl) ?_
      rintro _ rfl
      refine Grow.fin_dst (by rfl) ?_
      rintro _ rfl
      refine Grow.fin_dst (by rfl) ?_
      rintro _ rfl
      refine Grow.fin_dst (by rfl) ?_
      rintro _ rfl
      refine Grow.fin_dst (by rfl) ?_
      rintro _ rfl
      refine Grow.fin_dst (by rfl) ?_
      rintro _ rfl
      refine Grow.fin_dst (by rfl) ?_
      rintro _ rfl
      refine Grow.fin_dst (by rfl) ?_
      rintro _ rfl
      refine Grow.fin_dst (by rfl) ?_
      rintro _ rfl
      refine Grow.fin_dst (by rfl) ?_
      rintro _ rfl
      refine Grow.fin_dst (by rfl) ?_
      rintro _ rfl
      refine Grow.fin_dst (by rfl) ?_
      rintro _ rfl
      refine Grow.fin_dst (by rfl) ?_
      rintro _ rfl
      refine Grow.fin_dst (by rfl) ?_
      rintro _ rfl
      refine Grow.fin_dst (by rfl) ?_
      rintro _ rfl
      refine Grow.fin_dst (by rfl) ?_
      rintro _ rfl
      refine Grow.fin_dst (by rfl) ?_
      rintro _ rfl
      refine Grow.fin_dst (by rfl) ?_
      rintro _ rfl
      refine Grow.fin_dst (by rfl) ?_
      rintro _ rfl
      refine Grow.fin_dst (by rfl) ?_
      rintro _ rfl
      refine Grow.fin_dst (by rfl) ?_
      rintro _ rfl
      refine Grow.fin_dst (by rfl) ?_
      rintro _ rfl
      refine Grow.fin_dst (by rfl) ?_
      rintro _ rfl
      refine Grow.fin_dst (by rfl) ?_
      rintro _ rfl
      refine Grow.fin_dst (by rfl) ?_
      rintro _ rfl
      refine Grow.fin_dst (by rfl) ?_
      rintro _ rfl
      refine Grow.fin_dst (by rfl) ?_
      rintro _ rfl
      refine Grow.fin_dst (by rfl) ?_
      rintro _ rfl
      simp only [Act.put, List.setIfInBounds_toArray, List.set_cons_zero, List.set_cons_succ]
      refine Grow.fin_end ?_
      have HF : Hid (Below w.heap.size w W) := Lib.hid (HB4.out.1.trans ((Grow.below_of_drew hG).mono HB4.out.1.size))
      clear hG
      go_wp2_with fail
      go_ret
      exact ⟨rfl, HF.out⟩
  · clear hKS hJS hN1
    go_enter Tryd.func7, Tryd.ntmps7
    go_wp2_with (go_at_call 8; refine (lawake_true (ht.1.below HBX.out.1) (ht.2.below HBX.out.1)).mono ?_; rintro _ w1 ⟨rfl, hb1⟩)
    go_ret
    exact ⟨rfl, HBX.out.1.trans (hb1.mono HBX.out.1.size)⟩
end Go.Proofs.YtlkkocgjpljibaaDoor
