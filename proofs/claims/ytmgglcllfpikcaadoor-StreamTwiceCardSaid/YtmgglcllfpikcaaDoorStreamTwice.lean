/-
  The statement StreamTwice: its walk.
-/
import Derived.Test.YtmgglcllfpikcaaDoorStreamAwake
import Derived.Test.YtmgglcllfpikcaaDoorGrow
namespace Go.Proofs.YtmgglcllfpikcaaDoor
open Go.RowKit

set_option maxHeartbeats 8000000 in
set_option maxRecDepth 100000 in
theorem walk_twice {w : World} (k : List UInt8) (hk : k.length = 32) (no : List UInt8) (hno : no.length = 12) {S : Nat → Prop} {A : Option Addr} {n c : Nat} {l : List UInt8} (h : Byt w S A n c l) {at_ : Int} (hat : (Lit.int .u16 at_).wf = true) (ht : QTab w) :
    Calls Tryd.prog 5 #[.agg (row8 k), .agg (row8 no), .slice A n c, .int .u16 at_] w fun e w' => e = .returned (.bool true) ∧ Below w.heap.size w w' := by
  have hb16 := bounds_u16 hat
  have HL := Lib.hid h.len
  obtain ⟨KS, hKS⟩ : ∃ KS, KS = row8 k := ⟨_, rfl⟩
  obtain ⟨NS, hNS⟩ : ∃ NS, NS = row8 no := ⟨_, rfl⟩
  rw [← hKS, ← hNS]
  have HKN : Hid (KS.size = 32 ∧ NS.size = 12) := Lib.hid ⟨by rw [hKS, row8_size, hk], by rw [hNS, row8_size, hno]⟩
  have HOV : Hid (∀ W {S : Nat → Prop} {A : Option Addr} {n c : Nat} {b : List UInt8}, Byt W S A n c b → QTab W → n ≤ 100000 → Calls Tryd.prog 11 #[.agg KS, .agg NS, .slice A n c] W fun e w' => ∃ A' c', e = .returned (.slice A' n c') ∧ Byt w' (W.heap.size ≤ ·) A' n c' (overL k no b) ∧ Below W.heap.size W w') := Lib.hid fun W S A n c b h1 h2 h3 => by
    rw [hKS, hNS]
    exact over_any h1 k no hk hno h2 (by omega)
  have HPA : Hid (∀ (x : BitVec 32) W, QTab W → Calls Tryd.prog 9 #[.agg KS, .agg NS, .int .u32 (nv x)] W fun e w' => e = .returned (.agg (row8 (partL k no x))) ∧ Below W.heap.size W w') := Lib.hid fun x W h => by
    rw [hKS, hNS]
    exact part_any k no hk hno x h
  have HRP : Hid (∀ (x : BitVec 32) W, Calls Tryd.prog 10 #[.agg KS, .agg NS, .int .u32 (nv x)] W fun e w' => e = .returned (.agg (row8 (partL k no x))) ∧ Below W.heap.size W w') := Lib.hid fun x W => by
    rw [hKS, hNS]
    exact rpart_any k no hk hno x W
  have HRO : Hid (∀ (b : List UInt8) W, b.length ≤ 100000 → Calls Tryd.prog 12 #[.agg KS, .agg NS, .string (st b)] W fun e w' => e = .returned (.string (st (overL k no b))) ∧ Below W.heap.size W w') := Lib.hid fun b W h => by
    rw [hKS, hNS]
    exact rover_any k no b hk hno (by omega) W
  clear hKS hNS hk hno
  have HBX : Hid (Below w.heap.size w ((w.alloc (.cells KS 23)).alloc (.cells NS 24)) ∧ ((w.alloc (.cells KS 23)).alloc (.cells NS 24)).heap[w.heap.size]? = some (.cells KS 23 (0, 0)) ∧ ((w.alloc (.cells KS 23)).alloc (.cells NS 24)).heap[w.heap.size + 1]? = some (.cells NS 24 (0, 0))) := Lib.hid (by
    refine ⟨((Below.refl _ _).alloc (Nat.le_refl _) _).alloc (by simp) _, (Below.heap_alloc _ _ _ (by simp)).trans (heap_alloc_new w _), ?_⟩
    have := heap_alloc_new (w.alloc (.cells KS 23)) (.cells NS 24)
    simpa using this)
  by_cases hn : n ≤ 800
  · obtain ⟨K, hk0⟩ : ∃ K : Nat, (K : Int) = at_ % ((n : Int) + 1) := ⟨(at_ % ((n : Int) + 1)).toNat, by have := Int.emod_nonneg at_ (show (n : Int) + 1 ≠ 0 by omega); omega⟩
    have hkn : K ≤ n := by have := Int.emod_lt_of_pos at_ (show 0 < (n : Int) + 1 by omega); omega
    have HKN2 := Lib.hid (And.intro hkn h.cap)
    have HK0 := Lib.hid hk0.symm
    clear hk0 hkn
    go_enter Tryd.func5, Tryd.ntmps5
    go_wp2_with fail
    refine (awake_true (ht.below HBX.out.1)).mono ?_
    rintro _ w1 ⟨rfl, hb1⟩
    have HB1 : Hid (Below w.heap.size w w1 ∧ w1.heap[w.heap.size]? = some (.cells KS 23 (0, 0)) ∧ w1.heap[w.heap.size + 1]? = some (.cells NS 24 (0, 0))) := Lib.hid ⟨HBX.out.1.trans (hb1.mono HBX.out.1.size), (hb1.block _ (lt_of_cells HBX.out.2.1)).trans HBX.out.2.1, (hb1.block _ (lt_of_cells HBX.out.2.2)).trans HBX.out.2.2⟩
    go_wp2_with (first | (refine wpList_load_row (by rfl) 23 (.tmp 4) (by rfl) w.heap.size (by rfl) 23 KS (0, 0) _ HB1.out.2.1 Tryd.underlying23 (by rfl) (by rw [HKN.out.1]; exact info32s) ?_) | (refine wpList_load_row (by rfl) 24 (.tmp 5) (by rfl) (w.heap.size + 1) (by rfl) 24 NS (0, 0) _ HB1.out.2.2 Tryd.underlying24 (by rfl) (by rw [HKN.out.2]; exact info12s) ?_))
    refine (HOV.out w1 ((h.below HBX.out.1).below hb1) ((ht.below HBX.out.1).below hb1) (by omega)).mono ?_
    rintro _ w2 ⟨A1, c1, rfl, hy1, hb2⟩
    have HC1 := Lib.hid hy1.cap
    have HB2 : Hid (Below w.heap.size w w2 ∧ w2.heap[w.heap.size]? = some (.cells KS 23 (0, 0)) ∧ w2.heap[w.heap.size + 1]? = some (.cells NS 24 (0, 0))) := Lib.hid ⟨HB1.out.1.trans (hb2.mono HB1.out.1.size), (hb2.block _ (lt_of_cells HB1.out.2.1)).trans HB1.out.2.1, (hb2.block _ (lt_of_cells HB1.out.2.2)).trans HB1.out.2.2⟩
    have HT : Hid (∀ W, Below w2.drew.heap.size w2.drew W → QTab W) := Lib.hid fun W hW => (ht.below HB2.out.1).below (Grow.below_of_drew hW)
    have HY : Hid (∀ W, Below w2.drew.heap.size w2.drew W → Byt W S A n c l ∧ Byt W (fun _ => True) A1 n c1 (overL k no l)) := Lib.hid fun W hW => ⟨(h.below HB2.out.1).below (Grow.below_of_drew hW), (hy1.mono (T := fun _ => True) fun _ _ _ => trivial).below (Grow.below_of_drew hW)⟩
    have HBKS : Hid (w.heap.size < w2.drew.heap.size ∧ w2.drew.heap[w.heap.size]? = some (.cells KS 23 (0, 0))) := Lib.hid ⟨lt_of_cells HB2.out.2.1, HB2.out.2.1⟩
    have HBNS : Hid (w.heap.size + 1 < w2.drew.heap.size ∧ w2.drew.heap[w.heap.size + 1]? = some (.cells NS 24 (0, 0))) := Lib.hid ⟨lt_of_cells HB2.out.2.2, HB2.out.2.2⟩
    have HT0 := Lib.hid ht
    have HH := Lib.hid h
    have HY1 := Lib.hid hy1
    clear hb1 hb2 HBX HB1 h hy1 ht hat
    go_wp2_with fail
    simp only [HK0.out]
    refine wp_region_grow (fun W W' => Below W.heap.size W W') (Grow.nth [fun v _ => v = .agg KS, fun v _ => v = .agg NS, fun v _ => v = .slice A n c, fun v _ => v = .int .i64 (K : Int), fun v _ => v = .slice A K c, fun v V => ∃ A' c', v = .slice A' K c' ∧ Byt V (fun _ => True) A' K c' (overL k no (l.take K)), fun v V => ∃ A' c', v = .slice A' K c' ∧ Byt V (fun _ => True) A' K c' (overL k no (l.take K))]) 59 (by kernel_rfl) (by kernel_rfl) (by rfl) (fun W => Below.refl _ W) (fun _ _ _ h1 h2 => h1.trans (h2.mono h1.size)) (Grow.mono_nth ?gmono) ?gsteps ?gfin
    case gmono => exact ⟨fun _ _ _ h _ => h, fun _ _ _ h _ => h, fun _ _ _ h _ => h, fun _ _ _ h _ => h, fun _ _ _ h _ => h, fun _ _ _ ⟨a, b, h1, h2⟩ hg => ⟨a, b, h1, h2.below hg⟩, fun _ _ _ ⟨a, b, h1, h2⟩ hg => ⟨a, b, h1, h2.below hg⟩, trivial⟩
    case gsteps =>
      show Grow.allBelow _ 7
      refine And.intro ?_ ?s6
      refine And.intro ?_ ?s5
      refine And.intro ?_ ?s4
      refine And.intro ?_ ?s3
      refine And.intro ?_ ?s2
      refine And.intro ?_ ?s1
      refine And.intro ?_ ?s0
      exact trivial
      case s0 =>
        refine Grow.step_in (by rfl) (by rfl) ?_
        intro E W ec eg ef hG hd hu R HR
        have e4 : E (.tmp 4) = .pointer (some ⟨w.heap.size, 0, none⟩) := hu 4 (by kernel_rfl)
        clear hd hu
        exact runs_load 23 (.tmp 4) rfl (w.heap.size) e4 KS (0, 0) ((hG.block _ HBKS.out.1).trans HBKS.out.2) Tryd.underlying23 (by rw [HKN.out.1]; exact info32s) (HR.out _ _ (Below.refl _ _) rfl)
      case s1 =>
        refine Grow.step_in (by rfl) (by rfl) ?_
        intro E W ec eg ef hG hd hu R HR
        have e5 : E (.tmp 5) = .pointer (some ⟨w.heap.size + 1, 0, none⟩) := hu 5 (by kernel_rfl)
        clear hd hu
        exact runs_load 24 (.tmp 5) rfl (w.heap.size + 1) e5 NS (0, 0) ((hG.block _ HBNS.out.1).trans HBNS.out.2) Tryd.underlying24 (by rw [HKN.out.2]; exact info12s) (HR.out _ _ (Below.refl _ _) rfl)
      case s2 =>
        refine Grow.step_in (by rfl) (by rfl) ?_
        intro E W ec eg ef hG hd hu R HR
        have e2 : E (.tmp 2) = .slice A n c := hu 2 (by kernel_rfl)
        clear hd hu
        go_simp
        exact HR.out _ _ (Below.refl _ _) rfl
      case s3 =>
        refine Grow.step_in (by rfl) (by rfl) ?_
        intro E W ec eg ef hG hd hu R HR
        have e10 : E (.tmp 10) = .int .i64 (K : Int) := hu 10 (by kernel_rfl)
        clear hd hu
        go_simp
        exact HR.out _ _ (Below.refl _ _) rfl
      case s4 =>
        refine Grow.step_in (by rfl) (by rfl) ?_
        intro E W ec eg ef hG hd hu R HR
        have e31 : E (.tmp 31) = .slice A n c := hd 2 31 (by kernel_rfl)
        have e32 : E (.tmp 32) = .int .i64 (K : Int) := hd 3 32 (by kernel_rfl)
        clear hd hu
        have hsl := run_to (P := Tryd.prog) 30 5 Tryd.underlying30 u8_size A n c K (by have h1 := HKN2.out.1; have h2 := HKN2.out.2; omega) W
        go_simp
        exact HR.out _ _ (Below.refl _ _) rfl
      case s5 =>
        refine Grow.step_in (by rfl) (by rfl) ?_
        intro E W ec eg ef hG hd hu R HR
        have e29 : E (.tmp 29) = .agg KS := hd 0 29 (by kernel_rfl)
        have e30 : E (.tmp 30) = .agg NS := hd 1 30 (by kernel_rfl)
        have e33 : E (.tmp 33) = .slice A K c := hd 4 33 (by kernel_rfl)
        clear hd hu
        go_simp
        refine (HOV.out W ((HY.out W hG).1.to HKN2.out.1) (HT.out W hG) (by have := HKN2.out.1; omega)).mono ?_
        rintro _ w' ⟨A', c', rfl, hY, hb⟩
        exact ⟨_, rfl, HR.out _ _ hb ⟨A', c', rfl, hY.mono fun _ _ _ => trivial⟩⟩
      case s6 =>
        refine Grow.step_in (by rfl) (by rfl) ?_
        intro E W ec eg ef hG hd hu R HR
        have h34 := hd 5 34 (by kernel_rfl)
        clear hd hu
        obtain ⟨A', c', e34, hY⟩ := h34
        go_simp
        exact HR.out _ _ (Below.refl _ _) ⟨A', c', rfl, hY⟩
    case gfin =>
      intro W hG
      refine Grow.fin_dst (by rfl) ?_
      rintro _ rfl
      refine Grow.fin_dst (by rfl) ?_
      rintro _ rfl
      refine Grow.fin_dst (by rfl) ?_
      rintro _ rfl
      refine Grow.fin_dst (by rfl) ?_
      rintro _ rfl
      refine Grow.fin_dst (by rfl) ?_
      rintro _ rfl
      refine Grow.fin_dst (by rfl) ?_
      rintro _ ⟨A', c', rfl, hYY⟩
      refine Grow.fin_dst (by rfl) ?_
      rintro _ ⟨A', c', rfl, hYY⟩
      simp only [Act.put, List.setIfInBounds_toArray, List.set_cons_zero, List.set_cons_succ]
      refine Grow.fin_end ?_
      have HB3 : Hid (Below w.heap.size w W ∧ W.heap[w.heap.size]? = some (.cells KS 23 (0, 0)) ∧ W.heap[w.heap.size + 1]? = some (.cells NS 24 (0, 0))) := Lib.hid ⟨HB2.out.1.trans ((Grow.below_of_drew hG).mono HB2.out.1.size), (hG.block _ HBKS.out.1).trans HBKS.out.2, (hG.block _ HBNS.out.1).trans HBNS.out.2⟩
      have HY : Hid (∀ V, Below W.drew.heap.size W.drew V → Byt V S A n c l ∧ Byt V (fun _ => True) A1 n c1 (overL k no l) ∧ Byt V (fun _ => True) A' K c' (overL k no (l.take K))) := Lib.hid fun V hV => ⟨(HY.out W hG).1.below (Grow.below_of_drew hV), (HY.out W hG).2.below (Grow.below_of_drew hV), hYY.below (Grow.below_of_drew hV)⟩
      have HT : Hid (∀ V, Below W.drew.heap.size W.drew V → QTab V) := Lib.hid fun V hV => (HT0.out.below HB3.out.1).below (Grow.below_of_drew hV)
      have HBKS : Hid (w.heap.size < W.drew.heap.size ∧ W.drew.heap[w.heap.size]? = some (.cells KS 23 (0, 0))) := Lib.hid ⟨lt_of_cells HB3.out.2.1, HB3.out.2.1⟩
      have HBNS : Hid (w.heap.size + 1 < W.drew.heap.size ∧ W.drew.heap[w.heap.size + 1]? = some (.cells NS 24 (0, 0))) := Lib.hid ⟨lt_of_cells HB3.out.2.2, HB3.out.2.2⟩
      clear hYY hG HB2 HH HY1
      go_wp2_with fail
      refine wp_region_grow (fun W W' => Below W.heap.size W W') (Grow.nth [fun v _ => v = .agg KS, fun v _ => v = .agg NS, fun v _ => v = .slice A1 n c1, fun v V => ∃ A' c', v = .slice A' n c' ∧ Byt V (fun _ => True) A' n c' (overL k no (overL k no l)), fun v _ => v = .string (st l), fun v _ => v = .slice A n c, fun v _ => v = .string (st l), fun v _ => v = .bool true, fun v _ => v = .bool true, fun v _ => v = .slice A1 n c1, fun v _ => v = .int .i64 (n : Int), fun v _ => v = .slice A n c, fun v _ => v = .int .i64 (n : Int), fun v _ => v = .bool true, fun v _ => v = .bool true, fun v _ => v = .bool true, fun v _ => v = .slice A1 n c1, fun v _ => v = .int .i64 (K : Int), fun v _ => v = .slice A1 K c1, fun v _ => v = .string (st (overL k no (l.take K))), fun v _ => v = .slice A' K c', fun v _ => v = .string (st (overL k no (l.take K))), fun v _ => v = .bool true, fun v _ => v = .bool true, fun v _ => v = .bool true]) 59 (by kernel_rfl) (by kernel_rfl) (by rfl) (fun W => Below.refl _ W) (fun _ _ _ h1 h2 => h1.trans (h2.mono h1.size)) (Grow.mono_nth ?gmono2) ?gsteps2 ?gfin2
      case gmono2 => exact ⟨fun _ _ _ h _ => h, fun _ _ _ h _ => h, fun _ _ _ h _ => h, fun _ _ _ ⟨a, b, h1, h2⟩ hg => ⟨a, b, h1, h2.below hg⟩, fun _ _ _ h _ => h, fun _ _ _ h _ => h, fun _ _ _ h _ => h, fun _ _ _ h _ => h, fun _ _ _ h _ => h, fun _ _ _ h _ => h, fun _ _ _ h _ => h, fun _ _ _ h _ => h, fun _ _ _ h _ => h, fun _ _ _ h _ => h, fun _ _ _ h _ => h, fun _ _ _ h _ => h, fun _ _ _ h _ => h, fun _ _ _ h _ => h, fun _ _ _ h _ => h, fun _ _ _ h _ => h, fun _ _ _ h _ => h, fun _ _ _ h _ => h, fun _ _ _ h _ => h, fun _ _ _ h _ => h, fun _ _ _ h _ => h, trivial⟩
      case gsteps2 =>
        show Grow.allBelow _ 25
        refine And.intro ?_ ?s24
        refine And.intro ?_ ?s23
        refine And.intro ?_ ?s22
        refine And.intro ?_ ?s21
        refine And.intro ?_ ?s20
        refine And.intro ?_ ?s19
        refine And.intro ?_ ?s18
        refine And.intro ?_ ?s17
        refine And.intro ?_ ?s16
        refine And.intro ?_ ?s15
        refine And.intro ?_ ?s14
        refine And.intro ?_ ?s13
        refine And.intro ?_ ?s12
        refine And.intro ?_ ?s11
        refine And.intro ?_ ?s10
        refine And.intro ?_ ?s9
        refine And.intro ?_ ?s8
        refine And.intro ?_ ?s7
        refine And.intro ?_ ?s6
        refine And.intro ?_ ?s5
        refine And.intro ?_ ?s4
        refine And.intro ?_ ?s3
        refine And.intro ?_ ?s2
        refine And.intro ?_ ?s1
        refine And.intro ?_ ?s0
        exact trivial
        case s0 =>
          refine Grow.step_in (by rfl) (by rfl) ?_
          intro E W' ec eg ef hG hd hu R HR
          have e4 : E (.tmp 4) = .pointer (some ⟨w.heap.size, 0, none⟩) := hu 4 (by kernel_rfl)
          clear hd hu
          exact runs_load 23 (.tmp 4) rfl (w.heap.size) e4 KS (0, 0) ((hG.block _ HBKS.out.1).trans HBKS.out.2) Tryd.underlying23 (by rw [HKN.out.1]; exact info32s) (HR.out _ _ (Below.refl _ _) rfl)
        case s1 =>
          refine Grow.step_in (by rfl) (by rfl) ?_
          intro E W' ec eg ef hG hd hu R HR
          have e5 : E (.tmp 5) = .pointer (some ⟨w.heap.size + 1, 0, none⟩) := hu 5 (by kernel_rfl)
          clear hd hu
          exact runs_load 24 (.tmp 5) rfl (w.heap.size + 1) e5 NS (0, 0) ((hG.block _ HBNS.out.1).trans HBNS.out.2) Tryd.underlying24 (by rw [HKN.out.2]; exact info12s) (HR.out _ _ (Below.refl _ _) rfl)
        case s2 =>
          refine Grow.step_in (by rfl) (by rfl) ?_
          intro E W' ec eg ef hG hd hu R HR
          have e11 : E (.tmp 11) = .slice A1 n c1 := hu 11 (by kernel_rfl)
          clear hd hu
          go_simp
          exact HR.out _ _ (Below.refl _ _) rfl
        case s3 =>
          refine Grow.step_in (by rfl) (by rfl) ?_
          intro E W' ec eg ef hG hd hu R HR
          have e35 : E (.tmp 35) = .agg KS := hd 0 35 (by kernel_rfl)
          have e36 : E (.tmp 36) = .agg NS := hd 1 36 (by kernel_rfl)
          have e37 : E (.tmp 37) = .slice A1 n c1 := hd 2 37 (by kernel_rfl)
          clear hd hu
          go_simp
          refine (HOV.out W' (HY.out W' hG).2.1 (HT.out W' hG) (by omega)).mono ?_
          rintro _ w9 ⟨A4, c4, rfl, hY, hb⟩
          exact ⟨_, rfl, HR.out _ _ hb ⟨A4, c4, rfl, hY.mono fun _ _ _ => trivial⟩⟩
        case s4 =>
          refine Grow.step_in (by rfl) (by rfl) ?_
          intro E W' ec eg ef hG hd hu R HR
          have h38 := hd 3 38 (by kernel_rfl)
          clear hd hu
          obtain ⟨A3, c3, e38, hY⟩ := h38
          rw [over_twice] at hY
          have hcv := byt_string hY
          go_simp
          exact HR.out _ _ (Below.refl _ _) rfl
        case s5 =>
          refine Grow.step_in (by rfl) (by rfl) ?_
          intro E W' ec eg ef hG hd hu R HR
          have e2 : E (.tmp 2) = .slice A n c := hu 2 (by kernel_rfl)
          clear hd hu
          go_simp
          exact HR.out _ _ (Below.refl _ _) rfl
        case s6 =>
          refine Grow.step_in (by rfl) (by rfl) ?_
          intro E W' ec eg ef hG hd hu R HR
          have e40 : E (.tmp 40) = .slice A n c := hd 5 40 (by kernel_rfl)
          clear hd hu
          have hcv := byt_string (HY.out W' hG).1
          go_simp
          exact HR.out _ _ (Below.refl _ _) rfl
        case s7 =>
          refine Grow.step_in (by rfl) (by rfl) ?_
          intro E W' ec eg ef hG hd hu R HR
          have e39 : E (.tmp 39) = .string (st l) := hd 4 39 (by kernel_rfl)
          have e41 : E (.tmp 41) = .string (st l) := hd 6 41 (by kernel_rfl)
          clear hd hu
          go_simp
          exact HR.out _ _ (Below.refl _ _) rfl
        case s8 =>
          refine Grow.step_in (by rfl) (by rfl) ?_
          intro E W' ec eg ef hG hd hu R HR
          have e42 : E (.tmp 42) = .bool true := hd 7 42 (by kernel_rfl)
          clear hd hu
          go_simp
          exact HR.out _ _ (Below.refl _ _) rfl
        case s9 =>
          refine Grow.step_on (g := 8) (b := true) (d := 43) (by rfl) (by rfl) (by rfl) (by kernel_rfl) (fun v W h => h) ?_
          intro E W' ec eg ef hG hd hu R HR
          have e11 : E (.tmp 11) = .slice A1 n c1 := hu 11 (by kernel_rfl)
          clear hd hu
          go_simp
          exact HR.out _ _ (Below.refl _ _) rfl
        case s10 =>
          refine Grow.step_on (g := 8) (b := true) (d := 43) (by rfl) (by rfl) (by rfl) (by kernel_rfl) (fun v W h => h) ?_
          intro E W' ec eg ef hG hd hu R HR
          have e44 : E (.tmp 44) = .slice A1 n c1 := hd 9 44 (by kernel_rfl)
          clear hd hu
          go_simp
          exact HR.out _ _ (Below.refl _ _) rfl
        case s11 =>
          refine Grow.step_on (g := 8) (b := true) (d := 43) (by rfl) (by rfl) (by rfl) (by kernel_rfl) (fun v W h => h) ?_
          intro E W' ec eg ef hG hd hu R HR
          have e2 : E (.tmp 2) = .slice A n c := hu 2 (by kernel_rfl)
          clear hd hu
          go_simp
          exact HR.out _ _ (Below.refl _ _) rfl
        case s12 =>
          refine Grow.step_on (g := 8) (b := true) (d := 43) (by rfl) (by rfl) (by rfl) (by kernel_rfl) (fun v W h => h) ?_
          intro E W' ec eg ef hG hd hu R HR
          have e46 : E (.tmp 46) = .slice A n c := hd 11 46 (by kernel_rfl)
          clear hd hu
          go_simp
          exact HR.out _ _ (Below.refl _ _) rfl
        case s13 =>
          refine Grow.step_on (g := 8) (b := true) (d := 43) (by rfl) (by rfl) (by rfl) (by kernel_rfl) (fun v W h => h) ?_
          intro E W' ec eg ef hG hd hu R HR
          have e45 : E (.tmp 45) = .int .i64 (n : Int) := hd 10 45 (by kernel_rfl)
          have e47 : E (.tmp 47) = .int .i64 (n : Int) := hd 12 47 (by kernel_rfl)
          clear hd hu
          go_simp
          exact HR.out _ _ (Below.refl _ _) rfl
        case s14 =>
          refine Grow.step_in (by rfl) (by rfl) ?_
          intro E W' ec eg ef hG hd hu R HR
          have e43 : E (.tmp 43) = .bool true := hd 8 43 (by kernel_rfl)
          have e48 : E (.tmp 48) = .bool true := hd 13 48 (by kernel_rfl)
          clear hd hu
          go_simp
          exact HR.out _ _ (Below.refl _ _) rfl
        case s15 =>
          refine Grow.step_in (by rfl) (by rfl) ?_
          intro E W' ec eg ef hG hd hu R HR
          have e49 : E (.tmp 49) = .bool true := hd 14 49 (by kernel_rfl)
          clear hd hu
          go_simp
          exact HR.out _ _ (Below.refl _ _) rfl
        case s16 =>
          refine Grow.step_on (g := 15) (b := true) (d := 50) (by rfl) (by rfl) (by rfl) (by kernel_rfl) (fun v W h => h) ?_
          intro E W' ec eg ef hG hd hu R HR
          have e11 : E (.tmp 11) = .slice A1 n c1 := hu 11 (by kernel_rfl)
          clear hd hu
          go_simp
          exact HR.out _ _ (Below.refl _ _) rfl
        case s17 =>
          refine Grow.step_on (g := 15) (b := true) (d := 50) (by rfl) (by rfl) (by rfl) (by kernel_rfl) (fun v W h => h) ?_
          intro E W' ec eg ef hG hd hu R HR
          have e10 : E (.tmp 10) = .int .i64 (K : Int) := hu 10 (by kernel_rfl)
          clear hd hu
          go_simp
          exact HR.out _ _ (Below.refl _ _) rfl
        case s18 =>
          refine Grow.step_on (g := 15) (b := true) (d := 50) (by rfl) (by rfl) (by rfl) (by kernel_rfl) (fun v W h => h) ?_
          intro E W' ec eg ef hG hd hu R HR
          have e51 : E (.tmp 51) = .slice A1 n c1 := hd 16 51 (by kernel_rfl)
          have e52 : E (.tmp 52) = .int .i64 (K : Int) := hd 17 52 (by kernel_rfl)
          clear hd hu
          have hsl := run_to (P := Tryd.prog) 30 5 Tryd.underlying30 u8_size A1 n c1 K (by have := HKN2.out.1; have := HC1.out; omega) W'
          go_simp
          exact HR.out _ _ (Below.refl _ _) rfl
        case s19 =>
          refine Grow.step_on (g := 15) (b := true) (d := 50) (by rfl) (by rfl) (by rfl) (by kernel_rfl) (fun v W h => h) ?_
          intro E W' ec eg ef hG hd hu R HR
          have e53 : E (.tmp 53) = .slice A1 K c1 := hd 18 53 (by kernel_rfl)
          clear hd hu
          have hcv := byt_string ((HY.out W' hG).2.1.to HKN2.out.1)
          rw [over_front k no l K (by rw [HL.out]; exact HKN2.out.1)] at hcv
          go_simp
          exact HR.out _ _ (Below.refl _ _) rfl
        case s20 =>
          refine Grow.step_on (g := 15) (b := true) (d := 50) (by rfl) (by rfl) (by rfl) (by kernel_rfl) (fun v W h => h) ?_
          intro E W' ec eg ef hG hd hu R HR
          have e12 : E (.tmp 12) = .slice A' K c' := hu 12 (by kernel_rfl)
          clear hd hu
          go_simp
          exact HR.out _ _ (Below.refl _ _) rfl
        case s21 =>
          refine Grow.step_on (g := 15) (b := true) (d := 50) (by rfl) (by rfl) (by rfl) (by kernel_rfl) (fun v W h => h) ?_
          intro E W' ec eg ef hG hd hu R HR
          have e55 : E (.tmp 55) = .slice A' K c' := hd 20 55 (by kernel_rfl)
          clear hd hu
          have hcv := byt_string (HY.out W' hG).2.2
          go_simp
          exact HR.out _ _ (Below.refl _ _) rfl
        case s22 =>
          refine Grow.step_on (g := 15) (b := true) (d := 50) (by rfl) (by rfl) (by rfl) (by kernel_rfl) (fun v W h => h) ?_
          intro E W' ec eg ef hG hd hu R HR
          have e54 : E (.tmp 54) = .string (st (overL k no (l.take K))) := hd 19 54 (by kernel_rfl)
          have e56 : E (.tmp 56) = .string (st (overL k no (l.take K))) := hd 21 56 (by kernel_rfl)
          clear hd hu
          go_simp
          exact HR.out _ _ (Below.refl _ _) rfl
        case s23 =>
          refine Grow.step_in (by rfl) (by rfl) ?_
          intro E W' ec eg ef hG hd hu R HR
          have e50 : E (.tmp 50) = .bool true := hd 15 50 (by kernel_rfl)
          have e57 : E (.tmp 57) = .bool true := hd 22 57 (by kernel_rfl)
          clear hd hu
          go_simp
          exact HR.out _ _ (Below.refl _ _) rfl
        case s24 =>
          refine Grow.step_in (by rfl) (by rfl) ?_
          intro E W' ec eg ef hG hd hu R HR
          have e58 : E (.tmp 58) = .bool true := hd 23 58 (by kernel_rfl)
          clear hd hu
          go_simp
          exact HR.out _ _ (Below.refl _ _) rfl
      case gfin2 =>
        intro W' hG
        refine Grow.fin_dst (by rfl) ?_
        rintro _ rfl
        refine Grow.fin_dst (by rfl) ?_
        rintro _ rfl
        refine Grow.fin_dst (by rfl) ?_
        rintro _ rfl
        refine Grow.fin_dst (by rfl) ?_
        rintro _ ⟨A5, c5, rfl, hYY⟩
        refine Grow.fin_dst (by rfl) ?_
        rintro _ rfl
        refine Grow.fin_dst (by rfl) ?_
        rintro _ rfl
        refine Grow.fin_dst (by rfl) ?_
        rintro _ rfl
        refine Grow.fin_dst (by rfl) ?_
        rintro _ rfl
        refine Grow.fin_dst (by rfl) ?_
        rintro _ rfl
        refine Grow.fin_dst (by rfl) ?_
        rintro _ rfl
        refine Grow.fin_dst (by rfl) ?_
        rintro _ rfl
        refine Grow.fin_dst (by rfl) ?_
        rintro _ rfl
        refine Grow.fin_dst (by rfl) ?_
        rintro _ rfl
        refine Grow.fin_dst (by rfl) ?_
        rintro _ rfl
        refine Grow.fin_dst (by rfl) ?_
        rintro _ rfl
        refine Grow.fin_dst (by rfl) ?_
        rintro _ rfl
        refine Grow.fin_dst (by rfl) ?_
        rintro _ rfl
        refine Grow.fin_dst (by rfl) ?_
        rintro _ rfl
        refine Grow.fin_dst (by rfl) ?_
        rintro _ rfl
        refine Grow.fin_dst (by rfl) ?_
        rintro _ rfl
        refine Grow.fin_dst (by rfl) ?_
        rintro _ rfl
        refine Grow.fin_dst (by rfl) ?_
        rintro _ rfl
        refine Grow.fin_dst (by rfl) ?_
        rintro _ rfl
        refine Grow.fin_dst (by rfl) ?_
        rintro _ rfl
        refine Grow.fin_dst (by rfl) ?_
        rintro _ rfl
        simp only [Act.put, List.setIfInBounds_toArray, List.set_cons_zero, List.set_cons_succ]
        refine Grow.fin_end ?_
        have HBW := Lib.hid (HB3.out.1.trans ((Grow.below_of_drew hG).mono HB3.out.1.size))
        clear hG
        go_wp2_with fail
        go_ret
        exact ⟨rfl, HBW.out⟩
  · go_enter Tryd.func5, Tryd.ntmps5
    go_wp2_with (go_at_call 8; refine (awake_true (ht.below HBX.out.1)).mono ?_; rintro _ w1 ⟨rfl, hb1⟩)
    go_ret
    exact ⟨rfl, HBX.out.1.trans (hb1.mono HBX.out.1.size)⟩
end Go.Proofs.YtmgglcllfpikcaaDoor
