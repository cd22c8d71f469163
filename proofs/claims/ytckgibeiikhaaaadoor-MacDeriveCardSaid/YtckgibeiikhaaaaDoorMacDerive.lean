/-
  The statement MacDerive: its walk.
-/
import Derived.Test.YtckgibeiikhaaaaDoorMacAwake
namespace Go.Proofs.YtckgibeiikhaaaaDoor
open Go.RowKit

set_option maxHeartbeats 8000000 in
set_option maxRecDepth 100000 in
theorem walk_derive {w : World} (k : List UInt8) (hk : k.length = 32) {s : ByteArray} (_hs : s.size ≤ maxLen) {n : Int} (hn : (Lit.int .u64 n).wf = true) (ht : Tab w) :
    Calls Tryd.prog 4 #[.agg (row8 k), .string s, .int .u64 n] w fun e w' => e = .returned (.bool true) ∧ Below w.heap.size w w' := by
  have hbn := bounds_u64 hn
  obtain ⟨N, rfl⟩ : ∃ N : Nat, n = (N : Int) := ⟨n.toNat, by omega⟩
  have HNB : Hid (N < 18446744073709551616) := Lib.hid (by omega)
  obtain ⟨l, rfl⟩ : ∃ l, s = st l := ⟨s.data.toList, by cases s; simp [st]⟩
  have hsz := st_size l
  obtain ⟨KS, hKS⟩ : ∃ KS, KS = row8 k := ⟨_, rfl⟩
  rw [← hKS]
  have HKS : Hid (KS.size = 32 ∧ KS = row8 k ∧ k.length = 32) := Lib.hid ⟨by rw [hKS, row8_size, hk], hKS, hk⟩
  clear hn hbn hKS hk
  by_cases hl : l.length ≤ 200
  · obtain ⟨RS, hRS⟩ : ∃ RS, RS = row8 (macL k (l ++ [0] ++ le8 N 8)) := ⟨_, rfl⟩
    have HQ : Hid (∀ w, (Op.equalIn 10000 23 (.agg RS) (.agg RS)).run Tryd.prog w = .ok true w) := Lib.hid fun w => by rw [hRS]; exact (key_eql _ _ (macL_length _ _) (macL_length _ _) w).trans (by simp)
    have HRS := Lib.hid hRS
    clear hRS
    have HBX : Hid (Below w.heap.size w (w.alloc (.cells KS 23)) ∧ (w.alloc (.cells KS 23)).heap[w.heap.size]? = some (.cells KS 23 (0, 0))) := Lib.hid ⟨(Below.refl _ _).alloc (Nat.le_refl _) _, heap_alloc_new w _⟩
    go_enter Tryd.func4, Tryd.ntmps4
    go_wp2_with fail
    refine (mawake_true (ht.below HBX.out.1)).mono ?_
    rintro _ w1 ⟨rfl, hb1⟩
    have HB1 : Hid (Below w.heap.size w w1 ∧ w1.heap[w.heap.size]? = some (.cells KS 23 (0, 0))) := Lib.hid ⟨HBX.out.1.trans (hb1.mono HBX.out.1.size), (hb1.block _ (lt_of_cells HBX.out.2)).trans HBX.out.2⟩
    have HT : Hid (∀ W, Below w1.drew.heap.size w1.drew W → Tab W) := Lib.hid fun W hW => (ht.below HB1.out.1).below (Grow.below_of_drew hW)
    clear ht hb1 HBX
    go_wp2_with fail
    have HBKS : Hid (w.heap.size < w1.drew.heap.size ∧ w1.drew.heap[w.heap.size]? = some (.cells KS 23 (0, 0))) := Lib.hid ⟨lt_of_cells HB1.out.2, HB1.out.2⟩
    refine wp_region_grow (fun W W' => Below W.heap.size W W') (Grow.nth [fun v _ => v = .agg KS, fun v _ => v = .string (st l), fun v _ => v = .int .u64 (N : Int), fun v _ => v = .agg RS, fun v _ => v = .agg KS, fun v _ => v = .string (st l), fun v _ => v = .int .u64 (N : Int), fun v _ => v = .agg RS, fun v _ => v = .bool true, fun v _ => v = .bool true]) 23 (by kernel_rfl) (by kernel_rfl) (by rfl) (fun W => Below.refl _ W) (fun _ _ _ h1 h2 => h1.trans (h2.mono h1.size)) (Grow.mono_nth ?gmono) ?gsteps ?gfin
    case gmono => exact ⟨fun _ _ _ h _ => h, fun _ _ _ h _ => h, fun _ _ _ h _ => h, fun _ _ _ h _ => h, fun _ _ _ h _ => h, fun _ _ _ h _ => h, fun _ _ _ h _ => h, fun _ _ _ h _ => h, fun _ _ _ h _ => h, fun _ _ _ h _ => h, trivial⟩
    case gsteps =>
      show Grow.allBelow _ 10
      refine And.intro ?_ ?s9
      refine And.intro ?_ ?s8
      refine And.intro ?_ ?s7
      refine And.intro ?_ ?s6
      refine And.intro ?_ ?s5
      refine And.intro ?_ ?s4
      refine And.intro ?_ ?s3
      refine And.intro ?_ ?s2
      refine And.intro ?_ ?s1
      refine And.intro ?_ ?s0
      exact trivial
      case s0 =>
        refine Grow.step_in (by rfl) (by rfl) ?_
        intro E W ec eg ef hG hd hu R HR
        have e3 : E (.tmp 3) = .pointer (some ⟨w.heap.size, 0, none⟩) := hu 3 (by kernel_rfl)
        clear hd hu
        exact runs_load 23 (.tmp 3) rfl (w.heap.size) e3 KS (0, 0) ((hG.block _ HBKS.out.1).trans HBKS.out.2) Tryd.underlying23 (by rw [HKS.out.1]; exact key_info) (HR.out _ _ (Below.refl _ _) rfl)
      case s1 =>
        refine Grow.step_in (by rfl) (by rfl) ?_
        intro E W ec eg ef hG hd hu R HR
        have e1 : E (.tmp 1) = .string (st l) := hu 1 (by kernel_rfl)
        clear hd hu
        go_simp
        exact HR.out _ _ (Below.refl _ _) rfl
      case s2 =>
        refine Grow.step_in (by rfl) (by rfl) ?_
        intro E W ec eg ef hG hd hu R HR
        have e2 : E (.tmp 2) = .int .u64 (N : Int) := hu 2 (by kernel_rfl)
        clear hd hu
        go_simp
        exact HR.out _ _ (Below.refl _ _) rfl
      case s3 =>
        refine Grow.step_in (by rfl) (by rfl) ?_
        intro E W ec eg ef hG hd hu R HR
        have e14 : E (.tmp 14) = .agg KS := hd 0 14 (by kernel_rfl)
        have e15 : E (.tmp 15) = .string (st l) := hd 1 15 (by kernel_rfl)
        have e16 : E (.tmp 16) = .int .u64 (N : Int) := hd 2 16 (by kernel_rfl)
        clear hd hu
        go_simp
        rw [HKS.out.2.1]
        refine (mderive_any (HT.out W hG) k HKS.out.2.2 l (by omega) N).mono ?_
        rintro _ w' ⟨rfl, hb⟩
        exact ⟨_, rfl, HR.out _ _ hb (show _ = _ by rw [HRS.out])⟩
      case s4 =>
        refine Grow.step_in (by rfl) (by rfl) ?_
        intro E W ec eg ef hG hd hu R HR
        have e3 : E (.tmp 3) = .pointer (some ⟨w.heap.size, 0, none⟩) := hu 3 (by kernel_rfl)
        clear hd hu
        exact runs_load 23 (.tmp 3) rfl (w.heap.size) e3 KS (0, 0) ((hG.block _ HBKS.out.1).trans HBKS.out.2) Tryd.underlying23 (by rw [HKS.out.1]; exact key_info) (HR.out _ _ (Below.refl _ _) rfl)
      case s5 =>
        refine Grow.step_in (by rfl) (by rfl) ?_
        intro E W ec eg ef hG hd hu R HR
        have e1 : E (.tmp 1) = .string (st l) := hu 1 (by kernel_rfl)
        clear hd hu
        go_simp
        exact HR.out _ _ (Below.refl _ _) rfl
      case s6 =>
        refine Grow.step_in (by rfl) (by rfl) ?_
        intro E W ec eg ef hG hd hu R HR
        have e2 : E (.tmp 2) = .int .u64 (N : Int) := hu 2 (by kernel_rfl)
        clear hd hu
        go_simp
        exact HR.out _ _ (Below.refl _ _) rfl
      case s7 =>
        refine Grow.step_in (by rfl) (by rfl) ?_
        intro E W ec eg ef hG hd hu R HR
        have e18 : E (.tmp 18) = .agg KS := hd 4 18 (by kernel_rfl)
        have e19 : E (.tmp 19) = .string (st l) := hd 5 19 (by kernel_rfl)
        have e20 : E (.tmp 20) = .int .u64 (N : Int) := hd 6 20 (by kernel_rfl)
        clear hd hu
        go_simp
        rw [HKS.out.2.1]
        refine (rderive_any k HKS.out.2.2 l (by omega) N HNB.out W).mono ?_
        rintro _ w' ⟨rfl, hb⟩
        exact ⟨_, rfl, HR.out _ _ hb (show _ = _ by rw [HRS.out])⟩
      case s8 =>
        refine Grow.step_in (by rfl) (by rfl) ?_
        intro E W ec eg ef hG hd hu R HR
        have e17 : E (.tmp 17) = .agg RS := hd 3 17 (by kernel_rfl)
        have e21 : E (.tmp 21) = .agg RS := hd 7 21 (by kernel_rfl)
        clear hd hu
        have hq := HQ.out
        go_simp
        exact HR.out _ _ (Below.refl _ _) rfl
      case s9 =>
        refine Grow.step_in (by rfl) (by rfl) ?_
        intro E W ec eg ef hG hd hu R HR
        have e22 : E (.tmp 22) = .bool true := hd 8 22 (by kernel_rfl)
        clear hd hu
        go_simp
        exact HR.out _ _ (Below.refl _ _) rfl
    case gfin =>
      intro W hG
      refine Grow.fin_dst (by rfl) ?_
      rintro _ rfl
      refine Grow.fin_dst (by rfl) ?_
      rintro _ rfl
      refine Grow.fin_dst (by rfl) ?_
      rintro _ rfl
      refine Grow.fin_dst (by rfl) ?_
      rintro _ rfl
      refine Grow.fin_dst (by rfl) ?_
      rintro _ rfl
      refine Grow.fin_dst (by rfl) ?_
      rintro _ rfl
      refine Grow.fin_dst (by rfl) ?_
      rintro _ rfl
      refine Grow.fin_dst (by rfl) ?_
      rintro _ rfl
      refine Grow.fin_dst (by rfl) ?_
      rintro _ rfl
      refine Grow.fin_dst (by rfl) ?_
      rintro _ rfl
      simp only [Act.put, List.setIfInBounds_toArray, List.set_cons_zero, List.set_cons_succ]
      refine Grow.fin_end ?_
      have HBW := Lib.hid (HB1.out.1.trans ((Grow.below_of_drew hG).mono HB1.out.1.size))
      clear hG
      go_wp2_with fail
      go_ret
      exact ⟨rfl, HBW.out⟩
  · go_enter Tryd.func4, Tryd.ntmps4
    have HBX : Hid (Below w.heap.size w (w.alloc (.cells KS 23))) := Lib.hid ((Below.refl _ _).alloc (Nat.le_refl _) _)
    go_wp2_with (go_at_call 8; refine (mawake_true (ht.below HBX.out)).mono ?_; rintro _ w1 ⟨rfl, hb1⟩)
    go_ret
    exact ⟨rfl, HBX.out.trans (hb1.mono HBX.out.size)⟩
end Go.Proofs.YtckgibeiikhaaaaDoor
