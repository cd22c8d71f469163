/-
  The document's example at the head of each statement.
-/
import Derived.Test.YtckgibeiikhaaaaDoorMacRefOf
import Derived.Test.YtckgibeiikhaaaaDoorGrowCel
namespace Go.Proofs.YtckgibeiikhaaaaDoor
open Go.RowKit

theorem key_eql (l m : List UInt8) (hl : l.length = 32) (hm : m.length = 32) (w : World) : (Op.equalIn 10000 23 (.agg (row8 l)) (.agg (row8 m))).run Tryd.prog w = .ok (decide (l = m)) w := by
  obtain ⟨i0, hi, hz0, hz1, hz2⟩ := info_parts u8_info
  exact run_equalIn_bytes w Tryd.underlying23 Tryd.underlying5 hi (by kernel_rfl) 9998 l m hl hm
def k1 : List UInt8 := 1 :: List.replicate 31 0
theorem build_key1 : (Tryd.prog.built 23 [(0, .int .u8 1)]) = some (row8 k1) := by unfold k1 row8; kernel_rfl
theorem build_id : (Tryd.prog.built 27 []) = some zerosId := by unfold zerosId; kernel_rfl
theorem mac_some : macL k1 [97, 98] ≠ List.replicate 32 0 := by decide +kernel
theorem mac_unlike : macL k1 ([97] ++ [0] ++ le8 1 8) ≠ macL k1 ([97] ++ [0] ++ le8 2 8) := by decide +kernel

set_option maxHeartbeats 4000000 in
set_option maxRecDepth 100000 in
theorem mawake_true {w : World} (ht : Tab w) : Calls Tryd.prog 8 #[] w fun e w' => e = .returned (.bool true) ∧ Below w.heap.size w w' := by
  have h2 := ht.lt2
  have hz := zero_key
  have hzi := zero_id
  obtain ⟨KS, hKS⟩ : ∃ KS, KS = row8 k1 := ⟨_, rfl⟩
  have hbk := build_key1
  rw [← hKS] at hbk
  have HBK := Lib.hid hbk
  have HKS : Hid (KS.size = 32 ∧ KS = row8 k1 ∧ k1.length = 32) := Lib.hid ⟨by rw [hKS]; rfl, hKS, rfl⟩
  have HKA : Hid (KS.all (·.oneCell') = true) := Lib.hid (by rw [hKS]; exact row8_one _)
  obtain ⟨X0, hX0⟩ : ∃ X0, X0 = macL k1 [97, 98] := ⟨_, rfl⟩
  have hxl : X0.length = 32 := by rw [hX0]; exact macL_length _ _
  obtain ⟨XS, hXS⟩ : ∃ XS, XS = row8 X0 := ⟨_, rfl⟩
  have HXS : Hid (XS.size = 32 ∧ XS = row8 X0 ∧ X0.length = 32) := Lib.hid ⟨by rw [hXS, row8_size, hxl], hXS, hxl⟩
  have HXA : Hid (XS.all (·.oneCell') = true) := Lib.hid (by rw [hXS]; exact row8_one _)
  obtain ⟨D1, hD1⟩ : ∃ D1, D1 = row8 (macL k1 ([97] ++ [0] ++ le8 1 8)) := ⟨_, rfl⟩
  obtain ⟨D2, hD2⟩ : ∃ D2, D2 = row8 (macL k1 ([97] ++ [0] ++ le8 2 8)) := ⟨_, rfl⟩
  have HQ : Hid ((∀ w, (Op.equalIn 10000 27 (.agg XS) (.agg XS)).run Tryd.prog w = .ok true w) ∧ (∀ w, (Op.equalIn 10000 27 (.agg XS) (.agg zerosId)).run Tryd.prog w = .ok false w) ∧ decide (X0 = List.replicate 32 0) = false ∧ (∀ w, (Op.equalIn 10000 23 (.agg D1) (.agg D2)).run Tryd.prog w = .ok false w)) := Lib.hid (by
    have hne : decide (X0 = List.replicate 32 0) = false := by rw [hX0]; exact decide_eq_false mac_some
    refine ⟨fun w => ?_, fun w => ?_, hne, fun w => ?_⟩
    · rw [hXS]
      exact (id_eql X0 X0 hxl hxl w).trans (by simp)
    · rw [hXS]
      exact (id_eql X0 (List.replicate 32 0) hxl (by simp) w).trans (by rw [hne])
    · rw [hD1, hD2, key_eql _ _ (macL_length _ _) (macL_length _ _), decide_eq_false mac_unlike])
  have HD : Hid ((∀ W, Tab W → Calls Tryd.prog 11 #[.agg KS, .string { data := #[97] }, .int .u64 1] W fun e w' => e = .returned (.agg D1) ∧ Below W.heap.size W w') ∧
      (∀ W, Tab W → Calls Tryd.prog 11 #[.agg KS, .string { data := #[97] }, .int .u64 2] W fun e w' => e = .returned (.agg D2) ∧ Below W.heap.size W w')) := Lib.hid (by
    rw [hKS, hD1, hD2]
    exact ⟨fun W hT => mderive_any hT k1 rfl [97] (by simp) 1, fun W hT => mderive_any hT k1 rfl [97] (by simp) 2⟩)
  have HT := Lib.hid ht
  have HX0 := Lib.hid hX0
  clear hKS hbk hX0 hxl hXS hD1 hD2 ht
  have kc := fun (w : World) (C : Array Value) (n c : Nat) => Lib.run_convert_bytes_const (P := Tryd.prog) w 26 5 C n c Tryd.underlying26 Tryd.underlying5
  have HG1 := Lib.hid (heap_alloc_new w (.cells zerosId 23))
  go_enter Tryd.func8, Tryd.ntmps8
  go_upto_region 2 with (first | (refine wpList_built (by rfl) 23 #[(0, .const (.int .u8 1))] (by rfl) [(0, .int .u8 1)] (by simp [Act.eval]) KS HBK.out ?_) | (refine wpList_store_row (by rfl) 23 (.tmp 1) (.tmp 3) (by rfl) w.heap.size KS (by rfl) (by rfl) 23 _ HG1.out (by rw [HKS.out.1]; exact key_info) (by rw [HKS.out.1]; rfl) HKA.out ?_))
  have hb1 : Below w.heap.size w ((w.alloc (.cells zerosId 23)).setRow w.heap.size KS) := below_setRow ((Below.refl _ _).alloc (Nat.le_refl _) _) (Nat.le_refl _) _
  have hr1 := setRow_at (new := KS) HG1.out
  generalize (w.alloc (.cells zerosId 23)).setRow w.heap.size KS = w1 at *
  obtain ⟨g1, hg1⟩ : ∃ g1, g1 = w.heap.size := ⟨_, rfl⟩
  rw [← hg1] at hr1 ⊢
  have HR1 := Lib.hid (And.intro hr1 (And.intro hb1 hg1))
  have hlt1 := lt_of_cells hr1
  have hab := byt_new (w := w1) [97, 98] 5 (2, 3) (by simp)
  have hof := mof_any (rws_one hab) (HT.out.below (hb1.trans ((((Below.refl _ _).alloc (Nat.le_refl _) _).alloc (by simp) _).mono hb1.size))) (by omega) (by simp) k1 rfl
  rw [show ([[97, 98]] : List (List UInt8)).flatten = [97, 98] from rfl, ← HX0.out, ← HXS.out.2.1, ← HKS.out.2.1] at hof
  simp only [World.size_alloc] at hof
  clear hr1 hb1 hg1 hab HG1
  have HB1 : Hid (Below w1.heap.size w1 ((w1.alloc (.cells (u8s [97, 98]).toArray 5 (2, 3))).alloc (.cells #[.slice (some ⟨w1.heap.size, 0, none⟩) 2 2] 26))) := Lib.hid (((Below.refl _ _).alloc (Nat.le_refl _) _).alloc (by simp) _)
  go_wp2_with (refine wpList_load_row (by rfl) 23 (.tmp 1) (by rfl) g1 (by rfl) 23 KS (0, 0) _ HR1.out.1 Tryd.underlying23 (by rfl) (by rw [HKS.out.1]; exact key_info) ?_)
  refine hof.mono ?_
  rintro _ w2 ⟨rfl, hb2⟩
  have hb2 := HB1.out.trans (hb2.mono (by have := HB1.out.size; simpa using this))
  have HB2 : Hid (Below w.heap.size w w2) := Lib.hid (HR1.out.2.1.trans (hb2.mono HR1.out.2.1.size))
  have HR2 : Hid (w2.heap[g1]? = some (.cells KS 23 (0, 0))) := Lib.hid ((hb2.block _ hlt1).trans HR1.out.1)
  clear hb2 hof hz hlt1 HB1
  have HG3 := Lib.hid (heap_alloc_new w2 (.cells zerosId 27))
  go_wp2_with (refine wpList_store_row (by rfl) 27 (.tmp 2) (.tmp 8) (by rfl) w2.heap.size XS (by rfl) (by rfl) 27 _ HG3.out (by rw [HXS.out.1]; exact id_info) (by rw [HXS.out.1]; rfl) HXA.out ?_)
  have e3 : ∀ b, b < w2.heap.size → ((w2.alloc (.cells zerosId 27)).setRow w2.heap.size XS).heap[b]? = w2.heap[b]? := fun b hb => by
    simp only [World.setRow, Array.getElem?_modify]
    rw [if_neg (by omega)]
    exact Below.heap_alloc _ _ _ hb
  have e4 := setRow_at (new := XS) HG3.out
  have HB3 : Hid (Below w.heap.size w ((w2.alloc (.cells zerosId 27)).setRow w2.heap.size XS)) := Lib.hid (below_setRow (HB2.out.alloc HB2.out.size _) HB2.out.size _)
  have h01 := (e3 _ (lt_of_cells HR2.out)).trans HR2.out
  clear e3 HG3 HR2 HB2 hzi
  generalize (w2.alloc (.cells zerosId 27)).setRow w2.heap.size XS = w3 at *
  generalize w2.heap.size = g2 at *
  have HY : Hid (g1 < w3.drew.heap.size ∧ w3.drew.heap[g1]? = some (.cells KS 23 (0, 0)) ∧ g2 < w3.drew.heap.size ∧ w3.drew.heap[g2]? = some (.cells XS 27 (0, 0)) ∧ Tab w3.drew) := Lib.hid ⟨lt_of_cells h01, h01, lt_of_cells e4, e4, (HT.out.below HB3.out).drew⟩
  clear e4 h01 kc HR1
  refine wp_region_grow (Cel w3.drew.heap.size) (Grow.nth [fun v _ => v = .agg XS, fun v _ => v = .agg KS, fun v W => ∃ q, v = .slice (some ⟨q, 0, none⟩) 1 1 ∧ w3.drew.heap.size ≤ q ∧ Byt W (fun _ => True) (some ⟨q, 0, none⟩) 1 1 [97], fun v W => ∃ q, v = .slice (some ⟨q, 0, none⟩) 1 1 ∧ w3.drew.heap.size ≤ q ∧ Byt W (fun _ => True) (some ⟨q, 0, none⟩) 1 1 [97], fun v W => ∃ q, v = .slice (some ⟨q, 0, none⟩) 1 1 ∧ w3.drew.heap.size ≤ q ∧ Byt W (fun _ => True) (some ⟨q, 0, none⟩) 1 1 [98], fun v W => ∃ q, v = .slice (some ⟨q, 0, none⟩) 1 1 ∧ w3.drew.heap.size ≤ q ∧ Byt W (fun _ => True) (some ⟨q, 0, none⟩) 1 1 [98], fun v W => ∃ q, v = .slice (some ⟨q, 0, none⟩) 2 2 ∧ Rws W (fun _ => True) (some ⟨q, 0, none⟩) 2 2 [[97], [98]], fun v _ => v = .agg XS, fun v _ => v = .bool true, fun v _ => v = .bool true, fun v _ => v = .agg XS, fun v _ => v = .agg zerosId, fun v _ => v = .bool true, fun v _ => v = .bool true, fun v _ => v = .bool true, fun v _ => v = .agg XS, fun v _ => v = .agg XS, fun v _ => v = .bool true, fun v _ => v = .bool true, fun v _ => v = .bool true, fun v _ => v = .agg XS, fun v _ => v = .agg zerosId, fun v _ => v = .bool false, fun v _ => v = .bool true, fun v _ => v = .bool true, fun v _ => v = .bool true, fun v _ => v = .agg KS, fun v _ => v = .agg D1, fun v _ => v = .agg KS, fun v _ => v = .agg D2, fun v _ => v = .bool true, fun v _ => v = .bool true, fun v _ => v = .bool true]) 41 (by kernel_rfl) (by kernel_rfl) (by rfl) (Cel.refl _) (fun _ _ _ h1 h2 => h1.trans h2) (Grow.mono_nth ?gmono) ?gsteps ?gfin
  case gmono => exact ⟨fun _ _ _ h _ => h, fun _ _ _ h _ => h, fun _ _ _ ⟨q, h1, h2, h3⟩ hg => ⟨q, h1, h2, h3.cel hg⟩, fun _ _ _ ⟨q, h1, h2, h3⟩ hg => ⟨q, h1, h2, h3.cel hg⟩, fun _ _ _ ⟨q, h1, h2, h3⟩ hg => ⟨q, h1, h2, h3.cel hg⟩, fun _ _ _ ⟨q, h1, h2, h3⟩ hg => ⟨q, h1, h2, h3.cel hg⟩, fun _ _ _ ⟨q, h1, h2⟩ hg => ⟨q, h1, h2.cel hg⟩, fun _ _ _ h _ => h, fun _ _ _ h _ => h, fun _ _ _ h _ => h, fun _ _ _ h _ => h, fun _ _ _ h _ => h, fun _ _ _ h _ => h, fun _ _ _ h _ => h, fun _ _ _ h _ => h, fun _ _ _ h _ => h, fun _ _ _ h _ => h, fun _ _ _ h _ => h, fun _ _ _ h _ => h, fun _ _ _ h _ => h, fun _ _ _ h _ => h, fun _ _ _ h _ => h, fun _ _ _ h _ => h, fun _ _ _ h _ => h, fun _ _ _ h _ => h, fun _ _ _ h _ => h, fun _ _ _ h _ => h, fun _ _ _ h _ => h, fun _ _ _ h _ => h, fun _ _ _ h _ => h, fun _ _ _ h _ => h, fun _ _ _ h _ => h, fun _ _ _ h _ => h, trivial⟩
  case gsteps =>
    show Grow.allBelow _ 33
    refine And.intro ?_ ?s32
    refine And.intro ?_ ?s31
    refine And.intro ?_ ?s30
    refine And.intro ?_ ?s29
    refine And.intro ?_ ?s28
    refine And.intro ?_ ?s27
    refine And.intro ?_ ?s26
    refine And.intro ?_ ?s25
    refine And.intro ?_ ?s24
    refine And.intro ?_ ?s23
    refine And.intro ?_ ?s22
    refine And.intro ?_ ?s21
    refine And.intro ?_ ?s20
    refine And.intro ?_ ?s19
    refine And.intro ?_ ?s18
    refine And.intro ?_ ?s17
    refine And.intro ?_ ?s16
    refine And.intro ?_ ?s15
    refine And.intro ?_ ?s14
    refine And.intro ?_ ?s13
    refine And.intro ?_ ?s12
    refine And.intro ?_ ?s11
    refine And.intro ?_ ?s10
    refine And.intro ?_ ?s9
    refine And.intro ?_ ?s8
    refine And.intro ?_ ?s7
    refine And.intro ?_ ?s6
    refine And.intro ?_ ?s5
    refine And.intro ?_ ?s4
    refine And.intro ?_ ?s3
    refine And.intro ?_ ?s2
    refine And.intro ?_ ?s1
    refine And.intro ?_ ?s0
    exact trivial
    case s0 =>
      refine Grow.step_in (by rfl) (by rfl) ?_
      intro E W ec eg ef hG hd hu R HR
      have e2 : E (.tmp 2) = .pointer (some ⟨g2, 0, none⟩) := hu 2 (by kernel_rfl)
      clear hd hu
      exact runs_load 27 (.tmp 2) rfl (g2) e2 XS (0, 0) ((hG.block _ HY.out.2.2.1 HY.out.2.2.1).trans HY.out.2.2.2.1) Tryd.underlying27 (by rw [HXS.out.1]; exact id_info) (HR.out _ _ (Cel.refl _ _) rfl)
    case s1 =>
      refine Grow.step_in (by rfl) (by rfl) ?_
      intro E W ec eg ef hG hd hu R HR
      have e1 : E (.tmp 1) = .pointer (some ⟨g1, 0, none⟩) := hu 1 (by kernel_rfl)
      clear hd hu
      exact runs_load 23 (.tmp 1) rfl (g1) e1 KS (0, 0) ((hG.block _ HY.out.1 HY.out.1).trans HY.out.2.1) Tryd.underlying23 (by rw [HKS.out.1]; exact key_info) (HR.out _ _ (Cel.refl _ _) rfl)
    case s2 =>
      refine Grow.step_in (by rfl) (by rfl) ?_
      intro E W ec eg ef hG hd hu R HR
      clear hd hu
      go_simp
      exact HR.out _ _ (Cel.of_below ((Below.refl _ _).alloc (Nat.le_refl _) _)) ⟨W.heap.size, rfl, hG.size, byt_new (w := W) [97] 5 (0, 0) (by simp)⟩
    case s3 =>
      refine Grow.step_in (by rfl) (by rfl) ?_
      intro E W ec eg ef hG hd hu R HR
      have h11 := hd 2 11 (by kernel_rfl)
      clear hd hu
      obtain ⟨q, eq, hq, hY⟩ := h11
      obtain ⟨W', hcv, hce⟩ := conv_mark (P := Tryd.prog) W 26 5 Tryd.underlying26 Tryd.underlying5 q 1 1 hq
      go_simp
      exact HR.out _ _ hce ⟨q, rfl, hq, hY.cel hce⟩
    case s4 =>
      refine Grow.step_in (by rfl) (by rfl) ?_
      intro E W ec eg ef hG hd hu R HR
      clear hd hu
      go_simp
      exact HR.out _ _ (Cel.of_below ((Below.refl _ _).alloc (Nat.le_refl _) _)) ⟨W.heap.size, rfl, hG.size, byt_new (w := W) [98] 5 (0, 0) (by simp)⟩
    case s5 =>
      refine Grow.step_in (by rfl) (by rfl) ?_
      intro E W ec eg ef hG hd hu R HR
      have h13 := hd 4 13 (by kernel_rfl)
      clear hd hu
      obtain ⟨q, eq, hq, hY⟩ := h13
      obtain ⟨W', hcv, hce⟩ := conv_mark (P := Tryd.prog) W 26 5 Tryd.underlying26 Tryd.underlying5 q 1 1 hq
      go_simp
      exact HR.out _ _ hce ⟨q, rfl, hq, hY.cel hce⟩
    case s6 =>
      refine Grow.step_in (by rfl) (by rfl) ?_
      intro E W ec eg ef hG hd hu R HR
      have h12 := hd 3 12 (by kernel_rfl)
      have h14 := hd 5 14 (by kernel_rfl)
      clear hd hu
      obtain ⟨q1, e12, _, hY1⟩ := h12
      obtain ⟨q2, e14, _, hY2⟩ := h14
      go_simp
      exact HR.out _ _ (Cel.of_below ((Below.refl _ _).alloc (Nat.le_refl _) _)) ⟨W.heap.size, rfl, rws_two hY1 hY2⟩
    case s7 =>
      refine Grow.step_in (by rfl) (by rfl) ?_
      intro E W ec eg ef hG hd hu R HR
      have e10 : E (.tmp 10) = .agg KS := hd 1 10 (by kernel_rfl)
      have h15 := hd 6 15 (by kernel_rfl)
      clear hd hu
      obtain ⟨q, eq, hR⟩ := h15
      go_simp
      rw [HKS.out.2.1]
      refine (mof_any hR (HY.out.2.2.2.2.cel hG) (by omega) (by simp) k1 HKS.out.2.2).mono ?_
      rintro _ w' ⟨rfl, hb⟩
      exact ⟨_, rfl, HR.out _ _ (Cel.of_below hb) (show _ = _ by rw [HXS.out.2.1, HX0.out]; rfl)⟩
    case s8 =>
      refine Grow.step_in (by rfl) (by rfl) ?_
      intro E W ec eg ef hG hd hu R HR
      have e9 : E (.tmp 9) = .agg XS := hd 0 9 (by kernel_rfl)
      have e16 : E (.tmp 16) = .agg XS := hd 7 16 (by kernel_rfl)
      clear hd hu
      have hq := HQ.out.1
      go_simp
      exact HR.out _ _ (Cel.refl _ _) rfl
    case s9 =>
      refine Grow.step_in (by rfl) (by rfl) ?_
      intro E W ec eg ef hG hd hu R HR
      have e17 : E (.tmp 17) = .bool true := hd 8 17 (by kernel_rfl)
      clear hd hu
      go_simp
      exact HR.out _ _ (Cel.refl _ _) rfl
    case s10 =>
      refine Grow.step_on (g := 9) (b := true) (d := 18) (by rfl) (by rfl) (by rfl) (by kernel_rfl) (fun v W h => h) ?_
      intro E W ec eg ef hG hd hu R HR
      have e2 : E (.tmp 2) = .pointer (some ⟨g2, 0, none⟩) := hu 2 (by kernel_rfl)
      clear hd hu
      exact runs_load 27 (.tmp 2) rfl (g2) e2 XS (0, 0) ((hG.block _ HY.out.2.2.1 HY.out.2.2.1).trans HY.out.2.2.2.1) Tryd.underlying27 (by rw [HXS.out.1]; exact id_info) (HR.out _ _ (Cel.refl _ _) rfl)
    case s11 =>
      refine Grow.step_on (g := 9) (b := true) (d := 18) (by rfl) (by rfl) (by rfl) (by kernel_rfl) (fun v W h => h) ?_
      intro E W ec eg ef hG hd hu R HR
      clear hd hu
      have hz := build_id
      go_simp
      exact HR.out _ _ (Cel.refl _ _) rfl
    case s12 =>
      refine Grow.step_on (g := 9) (b := true) (d := 18) (by rfl) (by rfl) (by rfl) (by kernel_rfl) (fun v W h => h) ?_
      intro E W ec eg ef hG hd hu R HR
      have e19 : E (.tmp 19) = .agg XS := hd 10 19 (by kernel_rfl)
      have e20 : E (.tmp 20) = .agg zerosId := hd 11 20 (by kernel_rfl)
      clear hd hu
      have hq := HQ.out.2.1
      go_simp
      exact HR.out _ _ (Cel.refl _ _) rfl
    case s13 =>
      refine Grow.step_in (by rfl) (by rfl) ?_
      intro E W ec eg ef hG hd hu R HR
      have e18 : E (.tmp 18) = .bool true := hd 9 18 (by kernel_rfl)
      have e21 : E (.tmp 21) = .bool true := hd 12 21 (by kernel_rfl)
      clear hd hu
      go_simp
      exact HR.out _ _ (Cel.refl _ _) rfl
    case s14 =>
      refine Grow.step_in (by rfl) (by rfl) ?_
      intro E W ec eg ef hG hd hu R HR
      have e22 : E (.tmp 22) = .bool true := hd 13 22 (by kernel_rfl)
      clear hd hu
      go_simp
      exact HR.out _ _ (Cel.refl _ _) rfl
    case s15 =>
      refine Grow.step_on (g := 14) (b := true) (d := 23) (by rfl) (by rfl) (by rfl) (by kernel_rfl) (fun v W h => h) ?_
      intro E W ec eg ef hG hd hu R HR
      have e2 : E (.tmp 2) = .pointer (some ⟨g2, 0, none⟩) := hu 2 (by kernel_rfl)
      clear hd hu
      exact runs_load 27 (.tmp 2) rfl (g2) e2 XS (0, 0) ((hG.block _ HY.out.2.2.1 HY.out.2.2.1).trans HY.out.2.2.2.1) Tryd.underlying27 (by rw [HXS.out.1]; exact id_info) (HR.out _ _ (Cel.refl _ _) rfl)
    case s16 =>
      refine Grow.step_on (g := 14) (b := true) (d := 23) (by rfl) (by rfl) (by rfl) (by kernel_rfl) (fun v W h => h) ?_
      intro E W ec eg ef hG hd hu R HR
      have e2 : E (.tmp 2) = .pointer (some ⟨g2, 0, none⟩) := hu 2 (by kernel_rfl)
      clear hd hu
      exact runs_load 27 (.tmp 2) rfl (g2) e2 XS (0, 0) ((hG.block _ HY.out.2.2.1 HY.out.2.2.1).trans HY.out.2.2.2.1) Tryd.underlying27 (by rw [HXS.out.1]; exact id_info) (HR.out _ _ (Cel.refl _ _) rfl)
    case s17 =>
      refine Grow.step_on (g := 14) (b := true) (d := 23) (by rfl) (by rfl) (by rfl) (by kernel_rfl) (fun v W h => h) ?_
      intro E W ec eg ef hG hd hu R HR
      have e24 : E (.tmp 24) = .agg XS := hd 15 24 (by kernel_rfl)
      have e25 : E (.tmp 25) = .agg XS := hd 16 25 (by kernel_rfl)
      clear hd hu
      go_simp
      rw [HXS.out.2.1]
      refine (same_any X0 X0 HXS.out.2.2 HXS.out.2.2 W).mono ?_
      rintro _ w' ⟨rfl, hb⟩
      exact ⟨_, rfl, HR.out _ _ (Cel.of_below hb) (show _ = _ by simp)⟩
    case s18 =>
      refine Grow.step_in (by rfl) (by rfl) ?_
      intro E W ec eg ef hG hd hu R HR
      have e23 : E (.tmp 23) = .bool true := hd 14 23 (by kernel_rfl)
      have e26 : E (.tmp 26) = .bool true := hd 17 26 (by kernel_rfl)
      clear hd hu
      go_simp
      exact HR.out _ _ (Cel.refl _ _) rfl
    case s19 =>
      refine Grow.step_in (by rfl) (by rfl) ?_
      intro E W ec eg ef hG hd hu R HR
      have e27 : E (.tmp 27) = .bool true := hd 18 27 (by kernel_rfl)
      clear hd hu
      go_simp
      exact HR.out _ _ (Cel.refl _ _) rfl
    case s20 =>
      refine Grow.step_on (g := 19) (b := true) (d := 28) (by rfl) (by rfl) (by rfl) (by kernel_rfl) (fun v W h => h) ?_
      intro E W ec eg ef hG hd hu R HR
      have e2 : E (.tmp 2) = .pointer (some ⟨g2, 0, none⟩) := hu 2 (by kernel_rfl)
      clear hd hu
      exact runs_load 27 (.tmp 2) rfl (g2) e2 XS (0, 0) ((hG.block _ HY.out.2.2.1 HY.out.2.2.1).trans HY.out.2.2.2.1) Tryd.underlying27 (by rw [HXS.out.1]; exact id_info) (HR.out _ _ (Cel.refl _ _) rfl)
    case s21 =>
      refine Grow.step_on (g := 19) (b := true) (d := 28) (by rfl) (by rfl) (by rfl) (by kernel_rfl) (fun v W h => h) ?_
      intro E W ec eg ef hG hd hu R HR
      clear hd hu
      have hz := build_id
      go_simp
      exact HR.out _ _ (Cel.refl _ _) rfl
    case s22 =>
      refine Grow.step_on (g := 19) (b := true) (d := 28) (by rfl) (by rfl) (by rfl) (by kernel_rfl) (fun v W h => h) ?_
      intro E W ec eg ef hG hd hu R HR
      have e29 : E (.tmp 29) = .agg XS := hd 20 29 (by kernel_rfl)
      have e30 : E (.tmp 30) = .agg zerosId := hd 21 30 (by kernel_rfl)
      clear hd hu
      go_simp
      rw [HXS.out.2.1]
      refine (same_any X0 (List.replicate 32 0) HXS.out.2.2 (by simp) W).mono ?_
      rintro _ w' ⟨rfl, hb⟩
      exact ⟨_, rfl, HR.out _ _ (Cel.of_below hb) (show _ = _ by rw [HQ.out.2.2.1])⟩
    case s23 =>
      refine Grow.step_on (g := 19) (b := true) (d := 28) (by rfl) (by rfl) (by rfl) (by kernel_rfl) (fun v W h => h) ?_
      intro E W ec eg ef hG hd hu R HR
      have e31 : E (.tmp 31) = .bool false := hd 22 31 (by kernel_rfl)
      clear hd hu
      go_simp
      exact HR.out _ _ (Cel.refl _ _) rfl
    case s24 =>
      refine Grow.step_in (by rfl) (by rfl) ?_
      intro E W ec eg ef hG hd hu R HR
      have e28 : E (.tmp 28) = .bool true := hd 19 28 (by kernel_rfl)
      have e32 : E (.tmp 32) = .bool true := hd 23 32 (by kernel_rfl)
      clear hd hu
      go_simp
      exact HR.out _ _ (Cel.refl _ _) rfl
    case s25 =>
      refine Grow.step_in (by rfl) (by rfl) ?_
      intro E W ec eg ef hG hd hu R HR
      have e33 : E (.tmp 33) = .bool true := hd 24 33 (by kernel_rfl)
      clear hd hu
      go_simp
      exact HR.out _ _ (Cel.refl _ _) rfl
    case s26 =>
      refine Grow.step_on (g := 25) (b := true) (d := 34) (by rfl) (by rfl) (by rfl) (by kernel_rfl) (fun v W h => h) ?_
      intro E W ec eg ef hG hd hu R HR
      have e1 : E (.tmp 1) = .pointer (some ⟨g1, 0, none⟩) := hu 1 (by kernel_rfl)
      clear hd hu
      exact runs_load 23 (.tmp 1) rfl (g1) e1 KS (0, 0) ((hG.block _ HY.out.1 HY.out.1).trans HY.out.2.1) Tryd.underlying23 (by rw [HKS.out.1]; exact key_info) (HR.out _ _ (Cel.refl _ _) rfl)
    case s27 =>
      refine Grow.step_on (g := 25) (b := true) (d := 34) (by rfl) (by rfl) (by rfl) (by kernel_rfl) (fun v W h => h) ?_
      intro E W ec eg ef hG hd hu R HR
      have e35 : E (.tmp 35) = .agg KS := hd 26 35 (by kernel_rfl)
      clear hd hu
      go_simp
      refine (HD.out.1 W (HY.out.2.2.2.2.cel hG)).mono ?_
      rintro _ w' ⟨rfl, hb⟩
      exact ⟨_, rfl, HR.out _ _ (Cel.of_below hb) (rfl)⟩
    case s28 =>
      refine Grow.step_on (g := 25) (b := true) (d := 34) (by rfl) (by rfl) (by rfl) (by kernel_rfl) (fun v W h => h) ?_
      intro E W ec eg ef hG hd hu R HR
      have e1 : E (.tmp 1) = .pointer (some ⟨g1, 0, none⟩) := hu 1 (by kernel_rfl)
      clear hd hu
      exact runs_load 23 (.tmp 1) rfl (g1) e1 KS (0, 0) ((hG.block _ HY.out.1 HY.out.1).trans HY.out.2.1) Tryd.underlying23 (by rw [HKS.out.1]; exact key_info) (HR.out _ _ (Cel.refl _ _) rfl)
    case s29 =>
      refine Grow.step_on (g := 25) (b := true) (d := 34) (by rfl) (by rfl) (by rfl) (by kernel_rfl) (fun v W h => h) ?_
      intro E W ec eg ef hG hd hu R HR
      have e37 : E (.tmp 37) = .agg KS := hd 28 37 (by kernel_rfl)
      clear hd hu
      go_simp
      refine (HD.out.2 W (HY.out.2.2.2.2.cel hG)).mono ?_
      rintro _ w' ⟨rfl, hb⟩
      exact ⟨_, rfl, HR.out _ _ (Cel.of_below hb) (rfl)⟩
    case s30 =>
      refine Grow.step_on (g := 25) (b := true) (d := 34) (by rfl) (by rfl) (by rfl) (by kernel_rfl) (fun v W h => h) ?_
      intro E W ec eg ef hG hd hu R HR
      have e36 : E (.tmp 36) = .agg D1 := hd 27 36 (by kernel_rfl)
      have e38 : E (.tmp 38) = .agg D2 := hd 29 38 (by kernel_rfl)
      clear hd hu
      have hq := HQ.out.2.2.2
      go_simp
      exact HR.out _ _ (Cel.refl _ _) rfl
    case s31 =>
      refine Grow.step_in (by rfl) (by rfl) ?_
      intro E W ec eg ef hG hd hu R HR
      have e34 : E (.tmp 34) = .bool true := hd 25 34 (by kernel_rfl)
      have e39 : E (.tmp 39) = .bool true := hd 30 39 (by kernel_rfl)
      clear hd hu
      go_simp
      exact HR.out _ _ (Cel.refl _ _) rfl
    case s32 =>
      refine Grow.step_in (by rfl) (by rfl) ?_
      intro E W ec eg ef hG hd hu R HR
      have e40 : E (.tmp 40) = .bool true := hd 31 40 (by kernel_rfl)
      clear hd hu
      go_simp
      exact HR.out _ _ (Cel.refl _ _) rfl
  case gfin =>
    intro W hG
    refine Grow.fin_dst (by rfl) ?_
    rintro _ rfl
    refine Grow.fin_dst (by rfl) ?_
    rintro _ rfl
    refine Grow.fin_dst (by rfl) ?_
    rintro _ ⟨_, rfl, _, _⟩
    refine Grow.fin_dst (by rfl) ?_
    rintro _ ⟨_, rfl, _, _⟩
    refine Grow.fin_dst (by rfl) ?_
    rintro _ ⟨_, rfl, _, _⟩
    refine Grow.fin_dst (by rfl) ?_
    rintro _ ⟨_, rfl, _, _⟩
    refine Grow.fin_dst (by rfl) ?_
    rintro _ ⟨_, rfl, _⟩
    refine Grow.fin_dst (by rfl) ?_
    rintro _ rfl
    refine Grow.fin_dst (by rfl) ?_
    rintro _ rfl
    refine Grow.fin_dst (by rfl) ?_
    rintro _ rfl
    refine Grow.fin_dst (by rfl) ?_
    rintro _ rfl
    refine Grow.fin_dst (by rfl) ?_
    rintro _ rfl
    refine Grow.fin_dst (by rfl) ?_
    rintro _ rfl
    refine Grow.fin_dst (by rfl) ?_
    rintro _ rfl
    refine Grow.fin_dst (by rfl) ?_
    rintro _ rfl
    refine Grow.fin_dst (by rfl) ?_
    rintro _ rfl
    refine Grow.fin_dst (by rfl) ?_
    rintro _ rfl
    refine Grow.fin_dst (by rfl) ?_
    rintro _ rfl
    refine Grow.fin_dst (by rfl) ?_
    rintro _ rfl
    refine Grow.fin_dst (by rfl) ?_
    rintro _ rfl
    refine Grow.fin_dst (by rfl) ?_
    rintro _ rfl
    refine Grow.fin_dst (by rfl) ?_
    rintro _ rfl
    refine Grow.fin_dst (by rfl) ?_
    rintro _ rfl
    refine Grow.fin_dst (by rfl) ?_
    rintro _ rfl
    refine Grow.fin_dst (by rfl) ?_
    rintro _ rfl
    refine Grow.fin_dst (by rfl) ?_
    rintro _ rfl
    refine Grow.fin_dst (by rfl) ?_
    rintro _ rfl
    refine Grow.fin_dst (by rfl) ?_
    rintro _ rfl
    refine Grow.fin_dst (by rfl) ?_
    rintro _ rfl
    refine Grow.fin_dst (by rfl) ?_
    rintro _ rfl
    refine Grow.fin_dst (by rfl) ?_
    rintro _ rfl
    refine Grow.fin_dst (by rfl) ?_
    rintro _ rfl
    refine Grow.fin_dst (by rfl) ?_
    rintro _ rfl
    simp only [Act.put, List.setIfInBounds_toArray, List.set_cons_zero, List.set_cons_succ]
    refine Grow.fin_end ?_
    have HG : Hid (Below w.heap.size w W) := Lib.hid (HB3.out.trans ((Grow.below_of_drew hG.below).mono HB3.out.size))
    clear hG
    go_wp2_with fail
    go_ret
    exact ⟨rfl, HG.out⟩
end Go.Proofs.YtckgibeiikhaaaaDoor
