/-
  The statement StreamParts: its walk.
-/
import Derived.Test.YtmgglcllfpikcaaDoorStreamAwake
import Derived.Test.YtmgglcllfpikcaaDoorArrEq
import Derived.Test.YtmgglcllfpikcaaDoorGrow
namespace Go.Proofs.YtmgglcllfpikcaaDoor
open Go.RowKit
theorem part_eql (l m : List UInt8) (hl : l.length = 64) (hm : m.length = 64) (w : World) : (Op.equalIn 10000 27 (.agg (row8 l)) (.agg (row8 m))).run Tryd.prog w = .ok (decide (l = m)) w := by
  obtain ⟨i0, hi, hz0, hz1, hz2⟩ := info_parts u8_info
  exact run_equalIn_bytes w Tryd.underlying27 Tryd.underlying5 hi (by kernel_rfl) 9998 l m hl hm

set_option maxHeartbeats 8000000 in
set_option maxRecDepth 100000 in
theorem walk_parts {w : World} (k : List UInt8) (hk : k.length = 32) (no : List UInt8) (hno : no.length = 12) {n : Int} (hn : (Lit.int .u32 n).wf = true) (ht : QTab w) :
    Calls Tryd.prog 3 #[.agg (row8 k), .agg (row8 no), .int .u32 n] w fun e w' => e = .returned (.bool true) ∧ Below w.heap.size w w' := by
  have hbn := bounds_u32 hn
  obtain ⟨x, rfl⟩ : ∃ x : BitVec 32, n = nv x := ⟨BitVec.ofNat 32 n.toNat, by
    unfold nv
    rw [BitVec.toNat_ofNat, Nat.mod_eq_of_lt (by omega)]
    omega⟩
  obtain ⟨PS, hPS⟩ : ∃ PS, PS = row8 (partL k no x) := ⟨_, rfl⟩
  have HQ : Hid (∀ w, (Op.equalIn 10000 27 (.agg PS) (.agg PS)).run Tryd.prog w = .ok true w) := Lib.hid fun w => by rw [hPS]; exact (part_eql _ _ (partL_length _ _ _) (partL_length _ _ _) w).trans (by simp)
  have HPS := Lib.hid hPS
  clear hn hbn hPS
  obtain ⟨KS, hKS⟩ : ∃ KS, KS = row8 k := ⟨_, rfl⟩
  obtain ⟨NS, hNS⟩ : ∃ NS, NS = row8 no := ⟨_, rfl⟩
  rw [← hKS, ← hNS]
  have HKN : Hid (KS.size = 32 ∧ NS.size = 12) := Lib.hid ⟨by rw [hKS, row8_size, hk], by rw [hNS, row8_size, hno]⟩
  have HOV : Hid (∀ W {S : Nat → Prop} {A : Option Addr} {n c : Nat} {b : List UInt8}, Byt W S A n c b → QTab W → n ≤ 100000 → Calls Tryd.prog 11 #[.agg KS, .agg NS, .slice A n c] W fun e w' => ∃ A' c', e = .returned (.slice A' n c') ∧ Byt w' (W.heap.size ≤ ·) A' n c' (overL k no b) ∧ Below W.heap.size W w') := Lib.hid fun W S A n c b h1 h2 h3 => by
    rw [hKS, hNS]
    exact over_any h1 k no hk hno h2 (by omega)
  have HPA : Hid (∀ (x : BitVec 32) W, QTab W → Calls Tryd.prog 9 #[.agg KS, .agg NS, .int .u32 (nv x)] W fun e w' => e = .returned (.agg (row8 (partL k no x))) ∧ Below W.heap.size W w') := Lib.hid fun x W h => by
    rw [hKS, hNS]
    exact part_any k no hk hno x h
  have HRP : Hid (∀ (x : BitVec 32) W, Calls Tryd.prog 10 #[.agg KS, .agg NS, .int .u32 (nv x)] W fun e w' => e = .returned (.agg (row8 (partL k no x))) ∧ Below W.heap.size W w') := Lib.hid fun x W => by
    rw [hKS, hNS]
    exact rpart_any k no hk hno x W
  have HRO : Hid (∀ (b : List UInt8) W, b.length ≤ 100000 → Calls Tryd.prog 12 #[.agg KS, .agg NS, .string (st b)] W fun e w' => e = .returned (.string (st (overL k no b))) ∧ Below W.heap.size W w') := Lib.hid fun b W h => by
    rw [hKS, hNS]
    exact rover_any k no b hk hno (by omega) W
  clear hKS hNS hk hno
  have HBX : Hid (Below w.heap.size w ((w.alloc (.cells KS 23)).alloc (.cells NS 24)) ∧ ((w.alloc (.cells KS 23)).alloc (.cells NS 24)).heap[w.heap.size]? = some (.cells KS 23 (0, 0)) ∧ ((w.alloc (.cells KS 23)).alloc (.cells NS 24)).heap[w.heap.size + 1]? = some (.cells NS 24 (0, 0))) := Lib.hid (by
    refine ⟨((Below.refl _ _).alloc (Nat.le_refl _) _).alloc (by simp) _, (Below.heap_alloc _ _ _ (by simp)).trans (heap_alloc_new w _), ?_⟩
    have := heap_alloc_new (w.alloc (.cells KS 23)) (.cells NS 24)
    simpa using this)
  go_enter Tryd.func3, Tryd.ntmps3
  go_wp2_with fail
  refine (awake_true (ht.below HBX.out.1)).mono ?_
  rintro _ w1 ⟨rfl, hb1⟩
  have HB1 : Hid (Below w.heap.size w w1 ∧ w1.heap[w.heap.size]? = some (.cells KS 23 (0, 0)) ∧ w1.heap[w.heap.size + 1]? = some (.cells NS 24 (0, 0))) := Lib.hid ⟨HBX.out.1.trans (hb1.mono HBX.out.1.size), (hb1.block _ (lt_of_cells HBX.out.2.1)).trans HBX.out.2.1, (hb1.block _ (lt_of_cells HBX.out.2.2)).trans HBX.out.2.2⟩
  go_wp2_with fail
  have HT : Hid (∀ W, Below w1.drew.heap.size w1.drew W → QTab W) := Lib.hid fun W hW => (ht.below HB1.out.1).below (Grow.below_of_drew hW)
  have HBKS : Hid (w.heap.size < w1.drew.heap.size ∧ w1.drew.heap[w.heap.size]? = some (.cells KS 23 (0, 0))) := Lib.hid ⟨lt_of_cells HB1.out.2.1, HB1.out.2.1⟩
  have HBNS : Hid (w.heap.size + 1 < w1.drew.heap.size ∧ w1.drew.heap[w.heap.size + 1]? = some (.cells NS 24 (0, 0))) := Lib.hid ⟨lt_of_cells HB1.out.2.2, HB1.out.2.2⟩
  clear ht hb1 HBX
  refine wp_region_grow (fun W W' => Below W.heap.size W W') (Grow.nth [fun v _ => v = .agg KS, fun v _ => v = .agg NS, fun v _ => v = .int .u32 (nv x), fun v _ => v = .agg PS, fun v _ => v = .agg KS, fun v _ => v = .agg NS, fun v _ => v = .int .u32 (nv x), fun v _ => v = .agg PS, fun v _ => v = .bool true, fun v _ => v = .bool true]) 20 (by kernel_rfl) (by kernel_rfl) (by rfl) (fun W => Below.refl _ W) (fun _ _ _ h1 h2 => h1.trans (h2.mono h1.size)) (Grow.mono_nth ?gmono) ?gsteps ?gfin
  case gmono => exact ⟨fun _ _ _ h _ => h, fun _ _ _ h _ => h, fun _ _ _ h _ => h, fun _ _ _ h _ => h, fun _ _ _ h _ => h, fun _ _ _ h _ => h, fun _ _ _ h _ => h, fun _ _ _ h _ => h, fun _ _ _ h _ => h, fun _ _ _ h _ => h, trivial⟩
  case gsteps =>
    show Grow.allBelow _ 10
    refine And.intro ?_ ?s9
    refine And.intro ?_ ?s8
    refine And.intro ?_ ?s7
    refine And.intro ?_ ?s6
    refine And.intro ?_ ?s5
    refine And.intro ?_ ?s4
    refine And.intro ?_ ?s3
    refine And.intro ?_ ?s2
    refine And.intro ?_ ?s1
    refine And.intro ?_ ?s0
    exact trivial
    case s0 =>
      refine Grow.step_in (by rfl) (by rfl) ?_
      intro E W ec eg ef hG hd hu R HR
      have e3 : E (.tmp 3) = .pointer (some ⟨w.heap.size, 0, none⟩) := hu 3 (by kernel_rfl)
      clear hd hu
      exact runs_load 23 (.tmp 3) rfl (w.heap.size) e3 KS (0, 0) ((hG.block _ HBKS.out.1).trans HBKS.out.2) Tryd.underlying23 (by rw [HKN.out.1]; exact info32s) (HR.out _ _ (Below.refl _ _) rfl)
    case s1 =>
      refine Grow.step_in (by rfl) (by rfl) ?_
      intro E W ec eg ef hG hd hu R HR
      have e4 : E (.tmp 4) = .pointer (some ⟨w.heap.size + 1, 0, none⟩) := hu 4 (by kernel_rfl)
      clear hd hu
      exact runs_load 24 (.tmp 4) rfl (w.heap.size + 1) e4 NS (0, 0) ((hG.block _ HBNS.out.1).trans HBNS.out.2) Tryd.underlying24 (by rw [HKN.out.2]; exact info12s) (HR.out _ _ (Below.refl _ _) rfl)
    case s2 =>
      refine Grow.step_in (by rfl) (by rfl) ?_
      intro E W ec eg ef hG hd hu R HR
      have e2 : E (.tmp 2) = .int .u32 (nv x) := hu 2 (by kernel_rfl)
      clear hd hu
      go_simp
      exact HR.out _ _ (Below.refl _ _) rfl
    case s3 =>
      refine Grow.step_in (by rfl) (by rfl) ?_
      intro E W ec eg ef hG hd hu R HR
      have e11 : E (.tmp 11) = .agg KS := hd 0 11 (by kernel_rfl)
      have e12 : E (.tmp 12) = .agg NS := hd 1 12 (by kernel_rfl)
      have e13 : E (.tmp 13) = .int .u32 (nv x) := hd 2 13 (by kernel_rfl)
      clear hd hu
      go_simp
      refine (HPA.out x W (HT.out W hG)).mono ?_
      rintro _ w' ⟨rfl, hb⟩
      exact ⟨_, rfl, HR.out _ _ hb (show _ = _ by rw [HPS.out])⟩
    case s4 =>
      refine Grow.step_in (by rfl) (by rfl) ?_
      intro E W ec eg ef hG hd hu R HR
      have e3 : E (.tmp 3) = .pointer (some ⟨w.heap.size, 0, none⟩) := hu 3 (by kernel_rfl)
      clear hd hu
      exact runs_load 23 (.tmp 3) rfl (w.heap.size) e3 KS (0, 0) ((hG.block _ HBKS.out.1).trans HBKS.out.2) Tryd.underlying23 (by rw [HKN.out.1]; exact info32s) (HR.out _ _ (Below.refl _ _) rfl)
    case s5 =>
      refine Grow.step_in (by rfl) (by rfl) ?_
      intro E W ec eg ef hG hd hu R HR
      have e4 : E (.tmp 4) = .pointer (some ⟨w.heap.size + 1, 0, none⟩) := hu 4 (by kernel_rfl)
      clear hd hu
      exact runs_load 24 (.tmp 4) rfl (w.heap.size + 1) e4 NS (0, 0) ((hG.block _ HBNS.out.1).trans HBNS.out.2) Tryd.underlying24 (by rw [HKN.out.2]; exact info12s) (HR.out _ _ (Below.refl _ _) rfl)
    case s6 =>
      refine Grow.step_in (by rfl) (by rfl) ?_
      intro E W ec eg ef hG hd hu R HR
      have e2 : E (.tmp 2) = .int .u32 (nv x) := hu 2 (by kernel_rfl)
      clear hd hu
      go_simp
      exact HR.out _ _ (Below.refl _ _) rfl
    case s7 =>
      refine Grow.step_in (by rfl) (by rfl) ?_
      intro E W ec eg ef hG hd hu R HR
      have e15 : E (.tmp 15) = .agg KS := hd 4 15 (by kernel_rfl)
      have e16 : E (.tmp 16) = .agg NS := hd 5 16 (by kernel_rfl)
      have e17 : E (.tmp 17) = .int .u32 (nv x) := hd 6 17 (by kernel_rfl)
      clear hd hu
      go_simp
      refine (HRP.out x W).mono ?_
      rintro _ w' ⟨rfl, hb⟩
      exact ⟨_, rfl, HR.out _ _ hb (show _ = _ by rw [HPS.out])⟩
    case s8 =>
      refine Grow.step_in (by rfl) (by rfl) ?_
      intro E W ec eg ef hG hd hu R HR
      have e14 : E (.tmp 14) = .agg PS := hd 3 14 (by kernel_rfl)
      have e18 : E (.tmp 18) = .agg PS := hd 7 18 (by kernel_rfl)
      clear hd hu
      have hq := HQ.out
      go_simp
      exact HR.out _ _ (Below.refl _ _) rfl
    case s9 =>
      refine Grow.step_in (by rfl) (by rfl) ?_
      intro E W ec eg ef hG hd hu R HR
      have e19 : E (.tmp 19) = .bool true := hd 8 19 (by kernel_rfl)
      clear hd hu
      go_simp
      exact HR.out _ _ (Below.refl _ _) rfl
  case gfin =>
    intro W hG
    refine Grow.fin_dst (by rfl) ?_
    rintro _ rfl
    refine Grow.fin_dst (by rfl) ?_
    rintro _ rfl
    refine Grow.fin_dst (by rfl) ?_
    rintro _ rfl
    refine Grow.fin_dst (by rfl) ?_
    rintro _ rfl
    refine Grow.fin_dst (by rfl) ?_
    rintro _ rfl
    refine Grow.fin_dst (by rfl) ?_
    rintro _ rfl
    refine Grow.fin_dst (by rfl) ?_
    rintro _ rfl
    refine Grow.fin_dst (by rfl) ?_
    rintro _ rfl
    refine Grow.fin_dst (by rfl) ?_
    rintro _ rfl
    refine Grow.fin_dst (by rfl) ?_
    rintro _ rfl
    simp only [Act.put, List.setIfInBounds_toArray, List.set_cons_zero, List.set_cons_succ]
    refine Grow.fin_end ?_
    have HBW := Lib.hid (HB1.out.1.trans ((Grow.below_of_drew hG).mono HB1.out.1.size))
    clear hG
    go_wp2_with fail
    go_ret
    exact ⟨rfl, HBW.out⟩
end Go.Proofs.YtmgglcllfpikcaaDoor
