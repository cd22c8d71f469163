/-
  The statement MacCuts: its walk.
-/
import Derived.Test.YtckgibeiikhaaaaDoorMacAwake
namespace Go.Proofs.YtckgibeiikhaaaaDoor
open Go.RowKit

/-- s[:k] -/
theorem run_to {P : Program} (t e : TypeId) (ht : P.underlying t = some (.slice e)) (hz : ∀ w, (Go.sizeOf e).run P w = .ok 1 w) (A : Option Addr) (n c k : Nat) (hk : k ≤ c) (W : World) :
    (Instr.slice t (.slice A n c) none (some (.int .i64 (k : Int))) none).run P W = .ok (.slice A k c) W := by
  have ht' : P.underlying t = some (.slice (P.elem t)) := by simp [Program.elem, ht]
  have he : P.elem t = e := by simp [Program.elem, ht]
  rw [run_slice_h W t A n c ht' .i64 (k : Int) (by omega) (by omega), he, hz]
  have h0 : ∀ a : Addr, a.add 0 = a := fun a => by simp [Addr.add]
  cases A <;> simp [Result.andThen, sliced, h0]
theorem Byt.to {w : World} {S : Nat → Prop} {A : Option Addr} {n c k : Nat} {l : List UInt8} (h : Byt w S A n c l) (hk : k ≤ n) : Byt w S A k c (l.take k) :=
  ⟨by rw [List.length_take, h.len]; omega, by have := h.cap; omega, h.max, fun h0 => by
    obtain ⟨b, off, rfl, hB, hb, hc⟩ := h.row (by omega)
    refine ⟨b, off, rfl, hB, hb, fun i hi => ?_⟩
    rw [hc i (by omega), List.getElem?_take_of_lt hi]⟩

set_option maxHeartbeats 8000000 in
set_option maxRecDepth 100000 in
theorem walk_cuts {w : World} {S : Nat → Prop} {A : Option Addr} {n c : Nat} {l : List UInt8} (k : List UInt8) (hk : k.length = 32) (h : Byt w S A n c l) {at_ : Int} (hat : (Lit.int .u16 at_).wf = true) (ht : Tab w) :
    Calls Tryd.prog 6 #[.agg (row8 k), .slice A n c, .int .u16 at_] w fun e w' => e = .returned (.bool true) ∧ Below w.heap.size w w' := by
  have hb16 := bounds_u16 hat
  obtain ⟨KS, hKS⟩ : ∃ KS, KS = row8 k := ⟨_, rfl⟩
  rw [← hKS]
  have HKS : Hid (KS.size = 32 ∧ KS = row8 k ∧ k.length = 32) := Lib.hid ⟨by rw [hKS, row8_size, hk], hKS, hk⟩
  clear hKS hk
  by_cases hn : n ≤ 300
  · obtain ⟨m, hm0⟩ : ∃ m : Nat, (m : Int) = at_ % ((n : Int) + 1) := ⟨(at_ % ((n : Int) + 1)).toNat, by have := Int.emod_nonneg at_ (show (n : Int) + 1 ≠ 0 by omega); omega⟩
    have hmn : m ≤ n := by have := Int.emod_lt_of_pos at_ (show 0 < (n : Int) + 1 by omega); omega
    have HK := Lib.hid (And.intro hmn (Nat.le_trans hmn h.cap))
    have hm := hm0.symm
    clear hm0
    have hlen := h.len
    obtain ⟨RS, hRS⟩ : ∃ RS, RS = row8 (macL k l) := ⟨_, rfl⟩
    have HQ : Hid (∀ w, (Op.equalIn 10000 27 (.agg RS) (.agg RS)).run Tryd.prog w = .ok true w) := Lib.hid fun w => by rw [hRS]; exact (id_eql _ _ (macL_length _ _) (macL_length _ _) w).trans (by simp)
    have HRS := Lib.hid hRS
    clear hRS hat
    have HBX : Hid (Below w.heap.size w (w.alloc (.cells KS 23)) ∧ (w.alloc (.cells KS 23)).heap[w.heap.size]? = some (.cells KS 23 (0, 0))) := Lib.hid ⟨(Below.refl _ _).alloc (Nat.le_refl _) _, heap_alloc_new w _⟩
    go_enter Tryd.func6, Tryd.ntmps6
    go_wp2_with fail
    refine (mawake_true (ht.below HBX.out.1)).mono ?_
    rintro _ w1 ⟨rfl, hb1⟩
    have HB1 : Hid (Below w.heap.size w w1 ∧ w1.heap[w.heap.size]? = some (.cells KS 23 (0, 0))) := Lib.hid ⟨HBX.out.1.trans (hb1.mono HBX.out.1.size), (hb1.block _ (lt_of_cells HBX.out.2)).trans HBX.out.2⟩
    have hs1 : (convert 26 9 (.slice A n c)).run Tryd.prog w1 = .ok (.string (st l)) w1 := byt_string (h.below HB1.out.1)
    have HH := Lib.hid (And.intro (h.below HB1.out.1) (ht.below HB1.out.1))
    clear hb1 h ht HBX
    go_wp2_with fail
    clear hs1
    simp only [hm]
    clear hm
    have HBKS : Hid (w.heap.size < w1.drew.heap.size ∧ w1.drew.heap[w.heap.size]? = some (.cells KS 23 (0, 0))) := Lib.hid ⟨lt_of_cells HB1.out.2, HB1.out.2⟩
    have HY : Hid (∀ W, Below w1.drew.heap.size w1.drew W → Byt W S A n c l ∧ Tab W) := Lib.hid fun W hW => ⟨HH.out.1.below (Grow.below_of_drew hW), HH.out.2.below (Grow.below_of_drew hW)⟩
    refine wp_region_grow (fun W W' => Below W.heap.size W W') (Grow.nth [fun v _ => v = .agg KS, fun v _ => v = .slice A n c, fun v _ => v = .int .i64 (m : Int), fun v _ => v = .slice A m c, fun v _ => v = .slice A n c, fun v _ => v = .int .i64 (m : Int), fun v _ => v = .slice (cutA A c m) (n - m) (c - m), fun v W => ∃ q, v = .slice (some ⟨q, 0, none⟩) 2 2 ∧ Rws W (fun _ => True) (some ⟨q, 0, none⟩) 2 2 [l.take m, l.drop m], fun v _ => v = .agg RS, fun v _ => v = .agg KS, fun v _ => v = .slice A n c, fun v W => ∃ q, v = .slice (some ⟨q, 0, none⟩) 1 1 ∧ Rws W (fun _ => True) (some ⟨q, 0, none⟩) 1 1 [l], fun v _ => v = .agg RS, fun v _ => v = .bool true, fun v _ => v = .bool true, fun v _ => v = .agg KS, fun v _ => v = .slice A n c, fun v W => ∃ q, v = .slice (some ⟨q, 0, none⟩) 2 2 ∧ Rws W (fun _ => True) (some ⟨q, 0, none⟩) 2 2 [[], l], fun v _ => v = .agg RS, fun v _ => v = .agg KS, fun v _ => v = .slice A n c, fun v W => ∃ q, v = .slice (some ⟨q, 0, none⟩) 1 1 ∧ Rws W (fun _ => True) (some ⟨q, 0, none⟩) 1 1 [l], fun v _ => v = .agg RS, fun v _ => v = .bool true, fun v _ => v = .bool true, fun v _ => v = .bool true, fun v _ => v = .slice A n c, fun v _ => v = .string (st l), fun v _ => v = .string (st l), fun v _ => v = .bool true, fun v _ => v = .bool true, fun v _ => v = .bool true]) 55 (by kernel_rfl) (by kernel_rfl) (by rfl) (fun W => Below.refl _ W) (fun _ _ _ h1 h2 => h1.trans (h2.mono h1.size)) (Grow.mono_nth ?gmono) ?gsteps ?gfin
    case gmono => exact ⟨fun _ _ _ h _ => h, fun _ _ _ h _ => h, fun _ _ _ h _ => h, fun _ _ _ h _ => h, fun _ _ _ h _ => h, fun _ _ _ h _ => h, fun _ _ _ h _ => h, fun _ _ _ ⟨q, h1, h2⟩ hg => ⟨q, h1, h2.below hg⟩, fun _ _ _ h _ => h, fun _ _ _ h _ => h, fun _ _ _ h _ => h, fun _ _ _ ⟨q, h1, h2⟩ hg => ⟨q, h1, h2.below hg⟩, fun _ _ _ h _ => h, fun _ _ _ h _ => h, fun _ _ _ h _ => h, fun _ _ _ h _ => h, fun _ _ _ h _ => h, fun _ _ _ ⟨q, h1, h2⟩ hg => ⟨q, h1, h2.below hg⟩, fun _ _ _ h _ => h, fun _ _ _ h _ => h, fun _ _ _ h _ => h, fun _ _ _ ⟨q, h1, h2⟩ hg => ⟨q, h1, h2.below hg⟩, fun _ _ _ h _ => h, fun _ _ _ h _ => h, fun _ _ _ h _ => h, fun _ _ _ h _ => h, fun _ _ _ h _ => h, fun _ _ _ h _ => h, fun _ _ _ h _ => h, fun _ _ _ h _ => h, fun _ _ _ h _ => h, fun _ _ _ h _ => h, trivial⟩
    case gsteps =>
      show Grow.allBelow _ 32
      refine And.intro ?_ ?s31
      refine And.intro ?_ ?s30
      refine And.intro ?_ ?s29
      refine And.intro ?_ ?s28
      refine And.intro ?_ ?s27
      refine And.intro ?_ ?s26
      refine And.intro ?_ ?s25
      refine And.intro ?_ ?s24
      refine And.intro ?_ ?s23
      refine And.intro ?_ ?s22
      refine And.intro ?_ ?s21
      refine And.intro ?_ ?s20
      refine And.intro ?_ ?s19
      refine And.intro ?_ ?s18
      refine And.intro ?_ ?s17
      refine And.intro ?_ ?s16
      refine And.intro ?_ ?s15
      refine And.intro ?_ ?s14
      refine And.intro ?_ ?s13
      refine And.intro ?_ ?s12
      refine And.intro ?_ ?s11
      refine And.intro ?_ ?s10
      refine And.intro ?_ ?s9
      refine And.intro ?_ ?s8
      refine And.intro ?_ ?s7
      refine And.intro ?_ ?s6
      refine And.intro ?_ ?s5
      refine And.intro ?_ ?s4
      refine And.intro ?_ ?s3
      refine And.intro ?_ ?s2
      refine And.intro ?_ ?s1
      refine And.intro ?_ ?s0
      exact trivial
      case s0 =>
        refine Grow.step_in (by rfl) (by rfl) ?_
        intro E W ec eg ef hG hd hu R HR
        have e3 : E (.tmp 3) = .pointer (some ⟨w.heap.size, 0, none⟩) := hu 3 (by kernel_rfl)
        clear hd hu
        exact runs_load 23 (.tmp 3) rfl (w.heap.size) e3 KS (0, 0) ((hG.block _ HBKS.out.1).trans HBKS.out.2) Tryd.underlying23 (by rw [HKS.out.1]; exact key_info) (HR.out _ _ (Below.refl _ _) rfl)
      case s1 =>
        refine Grow.step_in (by rfl) (by rfl) ?_
        intro E W ec eg ef hG hd hu R HR
        have e1 : E (.tmp 1) = .slice A n c := hu 1 (by kernel_rfl)
        clear hd hu
        go_simp
        exact HR.out _ _ (Below.refl _ _) rfl
      case s2 =>
        refine Grow.step_in (by rfl) (by rfl) ?_
        intro E W ec eg ef hG hd hu R HR
        have e9 : E (.tmp 9) = .int .i64 (m : Int) := hu 9 (by kernel_rfl)
        clear hd hu
        go_simp
        exact HR.out _ _ (Below.refl _ _) rfl
      case s3 =>
        refine Grow.step_in (by rfl) (by rfl) ?_
        intro E W ec eg ef hG hd hu R HR
        have e25 : E (.tmp 25) = .slice A n c := hd 1 25 (by kernel_rfl)
        have e26 : E (.tmp 26) = .int .i64 (m : Int) := hd 2 26 (by kernel_rfl)
        clear hd hu
        have hr := run_to (P := Tryd.prog) 26 5 Tryd.underlying26 u8_size A n c m HK.out.2
        go_simp
        exact HR.out _ _ (Below.refl _ _) rfl
      case s4 =>
        refine Grow.step_in (by rfl) (by rfl) ?_
        intro E W ec eg ef hG hd hu R HR
        have e1 : E (.tmp 1) = .slice A n c := hu 1 (by kernel_rfl)
        clear hd hu
        go_simp
        exact HR.out _ _ (Below.refl _ _) rfl
      case s5 =>
        refine Grow.step_in (by rfl) (by rfl) ?_
        intro E W ec eg ef hG hd hu R HR
        have e9 : E (.tmp 9) = .int .i64 (m : Int) := hu 9 (by kernel_rfl)
        clear hd hu
        go_simp
        exact HR.out _ _ (Below.refl _ _) rfl
      case s6 =>
        refine Grow.step_in (by rfl) (by rfl) ?_
        intro E W ec eg ef hG hd hu R HR
        have e28 : E (.tmp 28) = .slice A n c := hd 4 28 (by kernel_rfl)
        have e29 : E (.tmp 29) = .int .i64 (m : Int) := hd 5 29 (by kernel_rfl)
        clear hd hu
        have hr := run_cut (P := Tryd.prog) 26 5 Tryd.underlying26 u8_size A n c m HK.out.1
        go_simp
        exact HR.out _ _ (Below.refl _ _) rfl
      case s7 =>
        refine Grow.step_in (by rfl) (by rfl) ?_
        intro E W ec eg ef hG hd hu R HR
        have e27 : E (.tmp 27) = .slice A m c := hd 3 27 (by kernel_rfl)
        have e30 : E (.tmp 30) = .slice (cutA A c m) (n - m) (c - m) := hd 6 30 (by kernel_rfl)
        clear hd hu
        go_simp
        exact HR.out _ _ ((Below.refl _ _).alloc (Nat.le_refl _) _) ⟨W.heap.size, rfl, rws_two ((HY.out W hG).1.to HK.out.1) ((HY.out W hG).1.cut HK.out.1)⟩
      case s8 =>
        refine Grow.step_in (by rfl) (by rfl) ?_
        intro E W ec eg ef hG hd hu R HR
        have e24 : E (.tmp 24) = .agg KS := hd 0 24 (by kernel_rfl)
        have h31 := hd 7 31 (by kernel_rfl)
        clear hd hu
        obtain ⟨q, eq, hR⟩ := h31
        go_simp
        rw [HKS.out.2.1]
        refine (mof_any hR (HY.out W hG).2 (by omega) (by simp; omega) k HKS.out.2.2).mono ?_
        rintro _ w' ⟨rfl, hb⟩
        exact ⟨_, rfl, HR.out _ _ hb (show _ = _ by rw [HRS.out, show [l.take m, l.drop m].flatten = l by simp])⟩
      case s9 =>
        refine Grow.step_in (by rfl) (by rfl) ?_
        intro E W ec eg ef hG hd hu R HR
        have e3 : E (.tmp 3) = .pointer (some ⟨w.heap.size, 0, none⟩) := hu 3 (by kernel_rfl)
        clear hd hu
        exact runs_load 23 (.tmp 3) rfl (w.heap.size) e3 KS (0, 0) ((hG.block _ HBKS.out.1).trans HBKS.out.2) Tryd.underlying23 (by rw [HKS.out.1]; exact key_info) (HR.out _ _ (Below.refl _ _) rfl)
      case s10 =>
        refine Grow.step_in (by rfl) (by rfl) ?_
        intro E W ec eg ef hG hd hu R HR
        have e1 : E (.tmp 1) = .slice A n c := hu 1 (by kernel_rfl)
        clear hd hu
        go_simp
        exact HR.out _ _ (Below.refl _ _) rfl
      case s11 =>
        refine Grow.step_in (by rfl) (by rfl) ?_
        intro E W ec eg ef hG hd hu R HR
        have e34 : E (.tmp 34) = .slice A n c := hd 10 34 (by kernel_rfl)
        clear hd hu
        go_simp
        exact HR.out _ _ ((Below.refl _ _).alloc (Nat.le_refl _) _) ⟨W.heap.size, rfl, rws_one (HY.out W hG).1⟩
      case s12 =>
        refine Grow.step_in (by rfl) (by rfl) ?_
        intro E W ec eg ef hG hd hu R HR
        have e33 : E (.tmp 33) = .agg KS := hd 9 33 (by kernel_rfl)
        have h35 := hd 11 35 (by kernel_rfl)
        clear hd hu
        obtain ⟨q, eq, hR⟩ := h35
        go_simp
        rw [HKS.out.2.1]
        refine (mof_any hR (HY.out W hG).2 (by omega) (by simp; omega) k HKS.out.2.2).mono ?_
        rintro _ w' ⟨rfl, hb⟩
        exact ⟨_, rfl, HR.out _ _ hb (show _ = _ by rw [HRS.out, show [l].flatten = l by simp])⟩
      case s13 =>
        refine Grow.step_in (by rfl) (by rfl) ?_
        intro E W ec eg ef hG hd hu R HR
        have e32 : E (.tmp 32) = .agg RS := hd 8 32 (by kernel_rfl)
        have e36 : E (.tmp 36) = .agg RS := hd 12 36 (by kernel_rfl)
        clear hd hu
        have hq := HQ.out
        go_simp
        exact HR.out _ _ (Below.refl _ _) rfl
      case s14 =>
        refine Grow.step_in (by rfl) (by rfl) ?_
        intro E W ec eg ef hG hd hu R HR
        have e37 : E (.tmp 37) = .bool true := hd 13 37 (by kernel_rfl)
        clear hd hu
        go_simp
        exact HR.out _ _ (Below.refl _ _) rfl
      case s15 =>
        refine Grow.step_on (g := 14) (b := true) (d := 38) (by rfl) (by rfl) (by rfl) (by kernel_rfl) (fun v W h => h) ?_
        intro E W ec eg ef hG hd hu R HR
        have e3 : E (.tmp 3) = .pointer (some ⟨w.heap.size, 0, none⟩) := hu 3 (by kernel_rfl)
        clear hd hu
        exact runs_load 23 (.tmp 3) rfl (w.heap.size) e3 KS (0, 0) ((hG.block _ HBKS.out.1).trans HBKS.out.2) Tryd.underlying23 (by rw [HKS.out.1]; exact key_info) (HR.out _ _ (Below.refl _ _) rfl)
      case s16 =>
        refine Grow.step_on (g := 14) (b := true) (d := 38) (by rfl) (by rfl) (by rfl) (by kernel_rfl) (fun v W h => h) ?_
        intro E W ec eg ef hG hd hu R HR
        have e1 : E (.tmp 1) = .slice A n c := hu 1 (by kernel_rfl)
        clear hd hu
        go_simp
        exact HR.out _ _ (Below.refl _ _) rfl
      case s17 =>
        refine Grow.step_on (g := 14) (b := true) (d := 38) (by rfl) (by rfl) (by rfl) (by kernel_rfl) (fun v W h => h) ?_
        intro E W ec eg ef hG hd hu R HR
        have e40 : E (.tmp 40) = .slice A n c := hd 16 40 (by kernel_rfl)
        clear hd hu
        go_simp
        exact HR.out _ _ ((Below.refl _ _).alloc (Nat.le_refl _) _) ⟨W.heap.size, rfl, rws_two (Byt.nil _ _ _ _ (Nat.zero_le _)) (HY.out W hG).1⟩
      case s18 =>
        refine Grow.step_on (g := 14) (b := true) (d := 38) (by rfl) (by rfl) (by rfl) (by kernel_rfl) (fun v W h => h) ?_
        intro E W ec eg ef hG hd hu R HR
        have e39 : E (.tmp 39) = .agg KS := hd 15 39 (by kernel_rfl)
        have h41 := hd 17 41 (by kernel_rfl)
        clear hd hu
        obtain ⟨q, eq, hR⟩ := h41
        go_simp
        rw [HKS.out.2.1]
        refine (mof_any hR (HY.out W hG).2 (by omega) (by simp; omega) k HKS.out.2.2).mono ?_
        rintro _ w' ⟨rfl, hb⟩
        exact ⟨_, rfl, HR.out _ _ hb (show _ = _ by rw [HRS.out, show [[], l].flatten = l by simp])⟩
      case s19 =>
        refine Grow.step_on (g := 14) (b := true) (d := 38) (by rfl) (by rfl) (by rfl) (by kernel_rfl) (fun v W h => h) ?_
        intro E W ec eg ef hG hd hu R HR
        have e3 : E (.tmp 3) = .pointer (some ⟨w.heap.size, 0, none⟩) := hu 3 (by kernel_rfl)
        clear hd hu
        exact runs_load 23 (.tmp 3) rfl (w.heap.size) e3 KS (0, 0) ((hG.block _ HBKS.out.1).trans HBKS.out.2) Tryd.underlying23 (by rw [HKS.out.1]; exact key_info) (HR.out _ _ (Below.refl _ _) rfl)
      case s20 =>
        refine Grow.step_on (g := 14) (b := true) (d := 38) (by rfl) (by rfl) (by rfl) (by kernel_rfl) (fun v W h => h) ?_
        intro E W ec eg ef hG hd hu R HR
        have e1 : E (.tmp 1) = .slice A n c := hu 1 (by kernel_rfl)
        clear hd hu
        go_simp
        exact HR.out _ _ (Below.refl _ _) rfl
      case s21 =>
        refine Grow.step_on (g := 14) (b := true) (d := 38) (by rfl) (by rfl) (by rfl) (by kernel_rfl) (fun v W h => h) ?_
        intro E W ec eg ef hG hd hu R HR
        have e44 : E (.tmp 44) = .slice A n c := hd 20 44 (by kernel_rfl)
        clear hd hu
        go_simp
        exact HR.out _ _ ((Below.refl _ _).alloc (Nat.le_refl _) _) ⟨W.heap.size, rfl, rws_one (HY.out W hG).1⟩
      case s22 =>
        refine Grow.step_on (g := 14) (b := true) (d := 38) (by rfl) (by rfl) (by rfl) (by kernel_rfl) (fun v W h => h) ?_
        intro E W ec eg ef hG hd hu R HR
        have e43 : E (.tmp 43) = .agg KS := hd 19 43 (by kernel_rfl)
        have h45 := hd 21 45 (by kernel_rfl)
        clear hd hu
        obtain ⟨q, eq, hR⟩ := h45
        go_simp
        rw [HKS.out.2.1]
        refine (mof_any hR (HY.out W hG).2 (by omega) (by simp; omega) k HKS.out.2.2).mono ?_
        rintro _ w' ⟨rfl, hb⟩
        exact ⟨_, rfl, HR.out _ _ hb (show _ = _ by rw [HRS.out, show [l].flatten = l by simp])⟩
      case s23 =>
        refine Grow.step_on (g := 14) (b := true) (d := 38) (by rfl) (by rfl) (by rfl) (by kernel_rfl) (fun v W h => h) ?_
        intro E W ec eg ef hG hd hu R HR
        have e42 : E (.tmp 42) = .agg RS := hd 18 42 (by kernel_rfl)
        have e46 : E (.tmp 46) = .agg RS := hd 22 46 (by kernel_rfl)
        clear hd hu
        have hq := HQ.out
        go_simp
        exact HR.out _ _ (Below.refl _ _) rfl
      case s24 =>
        refine Grow.step_in (by rfl) (by rfl) ?_
        intro E W ec eg ef hG hd hu R HR
        have e38 : E (.tmp 38) = .bool true := hd 14 38 (by kernel_rfl)
        have e47 : E (.tmp 47) = .bool true := hd 23 47 (by kernel_rfl)
        clear hd hu
        go_simp
        exact HR.out _ _ (Below.refl _ _) rfl
      case s25 =>
        refine Grow.step_in (by rfl) (by rfl) ?_
        intro E W ec eg ef hG hd hu R HR
        have e48 : E (.tmp 48) = .bool true := hd 24 48 (by kernel_rfl)
        clear hd hu
        go_simp
        exact HR.out _ _ (Below.refl _ _) rfl
      case s26 =>
        refine Grow.step_on (g := 25) (b := true) (d := 49) (by rfl) (by rfl) (by rfl) (by kernel_rfl) (fun v W h => h) ?_
        intro E W ec eg ef hG hd hu R HR
        have e1 : E (.tmp 1) = .slice A n c := hu 1 (by kernel_rfl)
        clear hd hu
        go_simp
        exact HR.out _ _ (Below.refl _ _) rfl
      case s27 =>
        refine Grow.step_on (g := 25) (b := true) (d := 49) (by rfl) (by rfl) (by rfl) (by kernel_rfl) (fun v W h => h) ?_
        intro E W ec eg ef hG hd hu R HR
        have e50 : E (.tmp 50) = .slice A n c := hd 26 50 (by kernel_rfl)
        clear hd hu
        have hs := byt_string (HY.out W hG).1
        go_simp
        exact HR.out _ _ (Below.refl _ _) rfl
      case s28 =>
        refine Grow.step_on (g := 25) (b := true) (d := 49) (by rfl) (by rfl) (by rfl) (by kernel_rfl) (fun v W h => h) ?_
        intro E W ec eg ef hG hd hu R HR
        have e8 : E (.tmp 8) = .string (st l) := hu 8 (by kernel_rfl)
        clear hd hu
        go_simp
        exact HR.out _ _ (Below.refl _ _) rfl
      case s29 =>
        refine Grow.step_on (g := 25) (b := true) (d := 49) (by rfl) (by rfl) (by rfl) (by kernel_rfl) (fun v W h => h) ?_
        intro E W ec eg ef hG hd hu R HR
        have e51 : E (.tmp 51) = .string (st l) := hd 27 51 (by kernel_rfl)
        have e52 : E (.tmp 52) = .string (st l) := hd 28 52 (by kernel_rfl)
        clear hd hu
        go_simp
        exact HR.out _ _ (Below.refl _ _) rfl
      case s30 =>
        refine Grow.step_in (by rfl) (by rfl) ?_
        intro E W ec eg ef hG hd hu R HR
        have e49 : E (.tmp 49) = .bool true := hd 25 49 (by kernel_rfl)
        have e53 : E (.tmp 53) = .bool true := hd 29 53 (by kernel_rfl)
        clear hd hu
        go_simp
        exact HR.out _ _ (Below.refl _ _) rfl
      case s31 =>
        refine Grow.step_in (by rfl) (by rfl) ?_
        intro E W ec eg ef hG hd hu R HR
        have e54 : E (.tmp 54) = .bool true := hd 30 54 (by kernel_rfl)
        clear hd hu
        go_simp
        exact HR.out _ _ (Below.refl _ _) rfl
    case gfin =>
      intro W hG
      refine Grow.fin_dst (by rfl) ?_
      rintro _ rfl
      refine Grow.fin_dst (by rfl) ?_
      rintro _ rfl
      refine Grow.fin_dst (by rfl) ?_
      rintro _ rfl
      refine Grow.fin_dst (by rfl) ?_
      rintro _ rfl
      refine Grow.fin_dst (by rfl) ?_
      rintro _ rfl
      refine Grow.fin_dst (by rfl) ?_
      rintro _ rfl
      refine Grow.fin_dst (by rfl) ?_
      rintro _ rfl
      refine Grow.fin_dst (by rfl) ?_
      rintro _ ⟨_, rfl, _⟩
      refine Grow.fin_dst (by rfl) ?_
      rintro _ rfl
      refine Grow.fin_dst (by rfl) ?_
      rintro _ rfl
      refine Grow.fin_dst (by rfl) ?_
      rintro _ rfl
      refine Grow.fin_dst (by rfl) ?_
      rintro _ ⟨_, rfl, _⟩
      refine Grow.fin_dst (by rfl) ?_
      rintro _ rfl
      refine Grow.fin_dst (by rfl) ?_
      rintro _ rfl
      refine Grow.fin_dst (by rfl) ?_
      rintro _ rfl
      refine Grow.fin_dst (by rfl) ?_
      rintro _ rfl
      refine Grow.fin_dst (by rfl) ?_
      rintro _ rfl
      refine Grow.fin_dst (by rfl) ?_
      rintro _ ⟨_, rfl, _⟩
      refine Grow.fin_dst (by rfl) ?_
      rintro _ rfl
      refine Grow.fin_dst (by rfl) ?_
      rintro _ rfl
      refine Grow.fin_dst (by rfl) ?_
      rintro _ rfl
      refine Grow.fin_dst (by rfl) ?_
      rintro _ ⟨_, rfl, _⟩
      refine Grow.fin_dst (by rfl) ?_
      rintro _ rfl
      refine Grow.fin_dst (by rfl) ?_
      rintro _ rfl
      refine Grow.fin_dst (by rfl) ?_
      rintro _ rfl
      refine Grow.fin_dst (by rfl) ?_
      rintro _ rfl
      refine Grow.fin_dst (by rfl) ?_
      rintro _ rfl
      refine Grow.fin_dst (by rfl) ?_
      rintro _ rfl
      refine Grow.fin_dst (by rfl) ?_
      rintro _ rfl
      refine Grow.fin_dst (by rfl) ?_
      rintro _ rfl
      refine Grow.fin_dst (by rfl) ?_
      rintro _ rfl
      refine Grow.fin_dst (by rfl) ?_
      rintro _ rfl
      simp only [Act.put, List.setIfInBounds_toArray, List.set_cons_zero, List.set_cons_succ]
      refine Grow.fin_end ?_
      have HBW := Lib.hid (HB1.out.1.trans ((Grow.below_of_drew hG).mono HB1.out.1.size))
      clear hG
      go_wp2_with fail
      go_ret
      exact ⟨rfl, HBW.out⟩
  · go_enter Tryd.func6, Tryd.ntmps6
    have HBX : Hid (Below w.heap.size w (w.alloc (.cells KS 23))) := Lib.hid ((Below.refl _ _).alloc (Nat.le_refl _) _)
    go_wp2_with (go_at_call 8; refine (mawake_true (ht.below HBX.out)).mono ?_; rintro _ w1 ⟨rfl, hb1⟩)
    go_ret
    exact ⟨rfl, HBX.out.trans (hb1.mono HBX.out.size)⟩
end Go.Proofs.YtckgibeiikhaaaaDoor
