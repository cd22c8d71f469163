/-
  The statement StreamOver: its walk.
-/
import Derived.Test.YtmgglcllfpikcaaDoorStreamAwake
import Derived.Test.YtmgglcllfpikcaaDoorGrow
namespace Go.Proofs.YtmgglcllfpikcaaDoor
open Go.RowKit

set_option maxHeartbeats 8000000 in
set_option maxRecDepth 100000 in
theorem walk_over {w : World} (k : List UInt8) (hk : k.length = 32) (no : List UInt8) (hno : no.length = 12) {S : Nat → Prop} {A : Option Addr} {n c : Nat} {l : List UInt8} (h : Byt w S A n c l) (ht : QTab w) :
    Calls Tryd.prog 4 #[.agg (row8 k), .agg (row8 no), .slice A n c] w fun e w' => e = .returned (.bool true) ∧ Below w.heap.size w w' := by
  have HL := Lib.hid h.len
  obtain ⟨KS, hKS⟩ : ∃ KS, KS = row8 k := ⟨_, rfl⟩
  obtain ⟨NS, hNS⟩ : ∃ NS, NS = row8 no := ⟨_, rfl⟩
  rw [← hKS, ← hNS]
  have HKN : Hid (KS.size = 32 ∧ NS.size = 12) := Lib.hid ⟨by rw [hKS, row8_size, hk], by rw [hNS, row8_size, hno]⟩
  have HOV : Hid (∀ W {S : Nat → Prop} {A : Option Addr} {n c : Nat} {b : List UInt8}, Byt W S A n c b → QTab W → n ≤ 100000 → Calls Tryd.prog 11 #[.agg KS, .agg NS, .slice A n c] W fun e w' => ∃ A' c', e = .returned (.slice A' n c') ∧ Byt w' (W.heap.size ≤ ·) A' n c' (overL k no b) ∧ Below W.heap.size W w') := Lib.hid fun W S A n c b h1 h2 h3 => by
    rw [hKS, hNS]
    exact over_any h1 k no hk hno h2 (by omega)
  have HPA : Hid (∀ (x : BitVec 32) W, QTab W → Calls Tryd.prog 9 #[.agg KS, .agg NS, .int .u32 (nv x)] W fun e w' => e = .returned (.agg (row8 (partL k no x))) ∧ Below W.heap.size W w') := Lib.hid fun x W h => by
    rw [hKS, hNS]
    exact part_any k no hk hno x h
  have HRP : Hid (∀ (x : BitVec 32) W, Calls Tryd.prog 10 #[.agg KS, .agg NS, .int .u32 (nv x)] W fun e w' => e = .returned (.agg (row8 (partL k no x))) ∧ Below W.heap.size W w') := Lib.hid fun x W => by
    rw [hKS, hNS]
    exact rpart_any k no hk hno x W
  have HRO : Hid (∀ (b : List UInt8) W, b.length ≤ 100000 → Calls Tryd.prog 12 #[.agg KS, .agg NS, .string (st b)] W fun e w' => e = .returned (.string (st (overL k no b))) ∧ Below W.heap.size W w') := Lib.hid fun b W h => by
    rw [hKS, hNS]
    exact rover_any k no b hk hno (by omega) W
  clear hKS hNS hk hno
  have HBX : Hid (Below w.heap.size w ((w.alloc (.cells KS 23)).alloc (.cells NS 24)) ∧ ((w.alloc (.cells KS 23)).alloc (.cells NS 24)).heap[w.heap.size]? = some (.cells KS 23 (0, 0)) ∧ ((w.alloc (.cells KS 23)).alloc (.cells NS 24)).heap[w.heap.size + 1]? = some (.cells NS 24 (0, 0))) := Lib.hid (by
    refine ⟨((Below.refl _ _).alloc (Nat.le_refl _) _).alloc (by simp) _, (Below.heap_alloc _ _ _ (by simp)).trans (heap_alloc_new w _), ?_⟩
    have := heap_alloc_new (w.alloc (.cells KS 23)) (.cells NS 24)
    simpa using this)
  by_cases hn : n ≤ 500
  · go_enter Tryd.func4, Tryd.ntmps4
    go_wp2_with fail
    refine (awake_true (ht.below HBX.out.1)).mono ?_
    rintro _ w1 ⟨rfl, hb1⟩
    have HB1 : Hid (Below w.heap.size w w1 ∧ w1.heap[w.heap.size]? = some (.cells KS 23 (0, 0)) ∧ w1.heap[w.heap.size + 1]? = some (.cells NS 24 (0, 0))) := Lib.hid ⟨HBX.out.1.trans (hb1.mono HBX.out.1.size), (hb1.block _ (lt_of_cells HBX.out.2.1)).trans HBX.out.2.1, (hb1.block _ (lt_of_cells HBX.out.2.2)).trans HBX.out.2.2⟩
    have hcv := byt_string ((h.below HBX.out.1).below hb1)
    go_wp2_with fail
    have hst : (⟨l.toArray⟩ : ByteArray) = st l := rfl
    rw [hst]
    have HT : Hid (∀ W, Below w1.drew.heap.size w1.drew W → QTab W) := Lib.hid fun W hW => (ht.below HB1.out.1).below (Grow.below_of_drew hW)
    have HY : Hid (∀ W, Below w1.drew.heap.size w1.drew W → Byt W S A n c l) := Lib.hid fun W hW => (h.below HB1.out.1).below (Grow.below_of_drew hW)
    have HBKS : Hid (w.heap.size < w1.drew.heap.size ∧ w1.drew.heap[w.heap.size]? = some (.cells KS 23 (0, 0))) := Lib.hid ⟨lt_of_cells HB1.out.2.1, HB1.out.2.1⟩
    have HBNS : Hid (w.heap.size + 1 < w1.drew.heap.size ∧ w1.drew.heap[w.heap.size + 1]? = some (.cells NS 24 (0, 0))) := Lib.hid ⟨lt_of_cells HB1.out.2.2, HB1.out.2.2⟩
    clear ht hb1 HBX h hcv hst
    refine wp_region_grow (fun W W' => Below W.heap.size W W') (Grow.nth [fun v _ => v = .agg KS, fun v _ => v = .agg NS, fun v _ => v = .slice A n c, fun v V => ∃ A' c', v = .slice A' n c' ∧ Byt V (fun _ => True) A' n c' (overL k no l), fun v _ => v = .string (st (overL k no l)), fun v _ => v = .agg KS, fun v _ => v = .agg NS, fun v _ => v = .string (st l), fun v _ => v = .string (st (overL k no l)), fun v _ => v = .bool true, fun v _ => v = .bool true, fun v _ => v = .slice A n c, fun v _ => v = .string (st l), fun v _ => v = .string (st l), fun v _ => v = .bool true, fun v _ => v = .bool true, fun v _ => v = .bool true]) 33 (by kernel_rfl) (by kernel_rfl) (by rfl) (fun W => Below.refl _ W) (fun _ _ _ h1 h2 => h1.trans (h2.mono h1.size)) (Grow.mono_nth ?gmono) ?gsteps ?gfin
    case gmono => exact ⟨fun _ _ _ h _ => h, fun _ _ _ h _ => h, fun _ _ _ h _ => h, fun _ _ _ ⟨a, b, h1, h2⟩ hg => ⟨a, b, h1, h2.below hg⟩, fun _ _ _ h _ => h, fun _ _ _ h _ => h, fun _ _ _ h _ => h, fun _ _ _ h _ => h, fun _ _ _ h _ => h, fun _ _ _ h _ => h, fun _ _ _ h _ => h, fun _ _ _ h _ => h, fun _ _ _ h _ => h, fun _ _ _ h _ => h, fun _ _ _ h _ => h, fun _ _ _ h _ => h, fun _ _ _ h _ => h, trivial⟩
    case gsteps =>
      show Grow.allBelow _ 17
      refine And.intro ?_ ?s16
      refine And.intro ?_ ?s15
      refine And.intro ?_ ?s14
      refine And.intro ?_ ?s13
      refine And.intro ?_ ?s12
      refine And.intro ?_ ?s11
      refine And.intro ?_ ?s10
      refine And.intro ?_ ?s9
      refine And.intro ?_ ?s8
      refine And.intro ?_ ?s7
      refine And.intro ?_ ?s6
      refine And.intro ?_ ?s5
      refine And.intro ?_ ?s4
      refine And.intro ?_ ?s3
      refine And.intro ?_ ?s2
      refine And.intro ?_ ?s1
      refine And.intro ?_ ?s0
      exact trivial
      case s0 =>
        refine Grow.step_in (by rfl) (by rfl) ?_
        intro E W ec eg ef hG hd hu R HR
        have e3 : E (.tmp 3) = .pointer (some ⟨w.heap.size, 0, none⟩) := hu 3 (by kernel_rfl)
        clear hd hu
        exact runs_load 23 (.tmp 3) rfl (w.heap.size) e3 KS (0, 0) ((hG.block _ HBKS.out.1).trans HBKS.out.2) Tryd.underlying23 (by rw [HKN.out.1]; exact info32s) (HR.out _ _ (Below.refl _ _) rfl)
      case s1 =>
        refine Grow.step_in (by rfl) (by rfl) ?_
        intro E W ec eg ef hG hd hu R HR
        have e4 : E (.tmp 4) = .pointer (some ⟨w.heap.size + 1, 0, none⟩) := hu 4 (by kernel_rfl)
        clear hd hu
        exact runs_load 24 (.tmp 4) rfl (w.heap.size + 1) e4 NS (0, 0) ((hG.block _ HBNS.out.1).trans HBNS.out.2) Tryd.underlying24 (by rw [HKN.out.2]; exact info12s) (HR.out _ _ (Below.refl _ _) rfl)
      case s2 =>
        refine Grow.step_in (by rfl) (by rfl) ?_
        intro E W ec eg ef hG hd hu R HR
        have e2 : E (.tmp 2) = .slice A n c := hu 2 (by kernel_rfl)
        clear hd hu
        go_simp
        exact HR.out _ _ (Below.refl _ _) rfl
      case s3 =>
        refine Grow.step_in (by rfl) (by rfl) ?_
        intro E W ec eg ef hG hd hu R HR
        have e17 : E (.tmp 17) = .agg KS := hd 0 17 (by kernel_rfl)
        have e18 : E (.tmp 18) = .agg NS := hd 1 18 (by kernel_rfl)
        have e19 : E (.tmp 19) = .slice A n c := hd 2 19 (by kernel_rfl)
        clear hd hu
        go_simp
        refine (HOV.out W (HY.out W hG) (HT.out W hG) (by omega)).mono ?_
        rintro _ w' ⟨A', c', rfl, hY, hb⟩
        exact ⟨_, rfl, HR.out _ _ hb ⟨A', c', rfl, hY.mono fun _ _ _ => trivial⟩⟩
      case s4 =>
        refine Grow.step_in (by rfl) (by rfl) ?_
        intro E W ec eg ef hG hd hu R HR
        have h20 := hd 3 20 (by kernel_rfl)
        clear hd hu
        obtain ⟨A', c', e20, hY⟩ := h20
        have hcv := byt_string hY
        go_simp
        exact HR.out _ _ (Below.refl _ _) rfl
      case s5 =>
        refine Grow.step_in (by rfl) (by rfl) ?_
        intro E W ec eg ef hG hd hu R HR
        have e3 : E (.tmp 3) = .pointer (some ⟨w.heap.size, 0, none⟩) := hu 3 (by kernel_rfl)
        clear hd hu
        exact runs_load 23 (.tmp 3) rfl (w.heap.size) e3 KS (0, 0) ((hG.block _ HBKS.out.1).trans HBKS.out.2) Tryd.underlying23 (by rw [HKN.out.1]; exact info32s) (HR.out _ _ (Below.refl _ _) rfl)
      case s6 =>
        refine Grow.step_in (by rfl) (by rfl) ?_
        intro E W ec eg ef hG hd hu R HR
        have e4 : E (.tmp 4) = .pointer (some ⟨w.heap.size + 1, 0, none⟩) := hu 4 (by kernel_rfl)
        clear hd hu
        exact runs_load 24 (.tmp 4) rfl (w.heap.size + 1) e4 NS (0, 0) ((hG.block _ HBNS.out.1).trans HBNS.out.2) Tryd.underlying24 (by rw [HKN.out.2]; exact info12s) (HR.out _ _ (Below.refl _ _) rfl)
      case s7 =>
        refine Grow.step_in (by rfl) (by rfl) ?_
        intro E W ec eg ef hG hd hu R HR
        have e8 : E (.tmp 8) = .string (st l) := hu 8 (by kernel_rfl)
        clear hd hu
        go_simp
        exact HR.out _ _ (Below.refl _ _) rfl
      case s8 =>
        refine Grow.step_in (by rfl) (by rfl) ?_
        intro E W ec eg ef hG hd hu R HR
        have e22 : E (.tmp 22) = .agg KS := hd 5 22 (by kernel_rfl)
        have e23 : E (.tmp 23) = .agg NS := hd 6 23 (by kernel_rfl)
        have e24 : E (.tmp 24) = .string (st l) := hd 7 24 (by kernel_rfl)
        clear hd hu
        go_simp
        refine (HRO.out l W (by rw [HL.out]; omega)).mono ?_
        rintro _ w' ⟨rfl, hb⟩
        exact ⟨_, rfl, HR.out _ _ hb (rfl)⟩
      case s9 =>
        refine Grow.step_in (by rfl) (by rfl) ?_
        intro E W ec eg ef hG hd hu R HR
        have e21 : E (.tmp 21) = .string (st (overL k no l)) := hd 4 21 (by kernel_rfl)
        have e25 : E (.tmp 25) = .string (st (overL k no l)) := hd 8 25 (by kernel_rfl)
        clear hd hu
        go_simp
        exact HR.out _ _ (Below.refl _ _) rfl
      case s10 =>
        refine Grow.step_in (by rfl) (by rfl) ?_
        intro E W ec eg ef hG hd hu R HR
        have e26 : E (.tmp 26) = .bool true := hd 9 26 (by kernel_rfl)
        clear hd hu
        go_simp
        exact HR.out _ _ (Below.refl _ _) rfl
      case s11 =>
        refine Grow.step_on (g := 10) (b := true) (d := 27) (by rfl) (by rfl) (by rfl) (by kernel_rfl) (fun v W h => h) ?_
        intro E W ec eg ef hG hd hu R HR
        have e2 : E (.tmp 2) = .slice A n c := hu 2 (by kernel_rfl)
        clear hd hu
        go_simp
        exact HR.out _ _ (Below.refl _ _) rfl
      case s12 =>
        refine Grow.step_on (g := 10) (b := true) (d := 27) (by rfl) (by rfl) (by rfl) (by kernel_rfl) (fun v W h => h) ?_
        intro E W ec eg ef hG hd hu R HR
        have e28 : E (.tmp 28) = .slice A n c := hd 11 28 (by kernel_rfl)
        clear hd hu
        have hcv := byt_string (HY.out W hG)
        go_simp
        exact HR.out _ _ (Below.refl _ _) rfl
      case s13 =>
        refine Grow.step_on (g := 10) (b := true) (d := 27) (by rfl) (by rfl) (by rfl) (by kernel_rfl) (fun v W h => h) ?_
        intro E W ec eg ef hG hd hu R HR
        have e8 : E (.tmp 8) = .string (st l) := hu 8 (by kernel_rfl)
        clear hd hu
        go_simp
        exact HR.out _ _ (Below.refl _ _) rfl
      case s14 =>
        refine Grow.step_on (g := 10) (b := true) (d := 27) (by rfl) (by rfl) (by rfl) (by kernel_rfl) (fun v W h => h) ?_
        intro E W ec eg ef hG hd hu R HR
        have e29 : E (.tmp 29) = .string (st l) := hd 12 29 (by kernel_rfl)
        have e30 : E (.tmp 30) = .string (st l) := hd 13 30 (by kernel_rfl)
        clear hd hu
        go_simp
        exact HR.out _ _ (Below.refl _ _) rfl
      case s15 =>
        refine Grow.step_in (by rfl) (by rfl) ?_
        intro E W ec eg ef hG hd hu R HR
        have e27 : E (.tmp 27) = .bool true := hd 10 27 (by kernel_rfl)
        have e31 : E (.tmp 31) = .bool true := hd 14 31 (by kernel_rfl)
        clear hd hu
        go_simp
        exact HR.out _ _ (Below.refl _ _) rfl
      case s16 =>
        refine Grow.step_in (by rfl) (by rfl) ?_
        intro E W ec eg ef hG hd hu R HR
        have e32 : E (.tmp 32) = .bool true := hd 15 32 (by kernel_rfl)
        clear hd hu
        go_simp
        exact HR.out _ _ (Below.refl _ _) rfl
    case gfin =>
      intro W hG
      refine Grow.fin_dst (by rfl) ?_
      rintro _ rfl
      refine Grow.fin_dst (by rfl) ?_
      rintro _ rfl
      refine Grow.fin_dst (by rfl) ?_
      rintro _ rfl
      refine Grow.fin_dst (by rfl) ?_
      rintro _ ⟨A', c', rfl, hYY⟩
      refine Grow.fin_dst (by rfl) ?_
      rintro _ rfl
      refine Grow.fin_dst (by rfl) ?_
      rintro _ rfl
      refine Grow.fin_dst (by rfl) ?_
      rintro _ rfl
      refine Grow.fin_dst (by rfl) ?_
      rintro _ rfl
      refine Grow.fin_dst (by rfl) ?_
      rintro _ rfl
      refine Grow.fin_dst (by rfl) ?_
      rintro _ rfl
      refine Grow.fin_dst (by rfl) ?_
      rintro _ rfl
      refine Grow.fin_dst (by rfl) ?_
      rintro _ rfl
      refine Grow.fin_dst (by rfl) ?_
      rintro _ rfl
      refine Grow.fin_dst (by rfl) ?_
      rintro _ rfl
      refine Grow.fin_dst (by rfl) ?_
      rintro _ rfl
      refine Grow.fin_dst (by rfl) ?_
      rintro _ rfl
      refine Grow.fin_dst (by rfl) ?_
      rintro _ rfl
      simp only [Act.put, List.setIfInBounds_toArray, List.set_cons_zero, List.set_cons_succ]
      refine Grow.fin_end ?_
      have HBW := Lib.hid (HB1.out.1.trans ((Grow.below_of_drew hG).mono HB1.out.1.size))
      clear hG
      go_wp2_with fail
      go_ret
      exact ⟨rfl, HBW.out⟩
  · go_enter Tryd.func4, Tryd.ntmps4
    go_wp2_with (go_at_call 8; refine (awake_true (ht.below HBX.out.1)).mono ?_; rintro _ w1 ⟨rfl, hb1⟩)
    go_ret
    exact ⟨rfl, HBX.out.1.trans (hb1.mono HBX.out.1.size)⟩
end Go.Proofs.YtmgglcllfpikcaaDoor
