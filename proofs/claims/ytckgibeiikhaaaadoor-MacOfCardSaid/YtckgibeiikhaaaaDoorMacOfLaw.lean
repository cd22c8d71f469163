/-
  The statement MacOf: its walk.
-/
import Derived.Test.YtckgibeiikhaaaaDoorMacAwake
namespace Go.Proofs.YtckgibeiikhaaaaDoor
open Go.RowKit

theorem flat_lenB (B : Nat) : ∀ (ls : List (List UInt8)) (k : Nat), (∀ i, i < k → (ls[i]?.getD []).length ≤ B) → (ls.take k).flatten.length ≤ B * k
  | [], k, _ => by simp
  | l :: ls, 0, _ => by simp
  | l :: ls, k + 1, h => by
    have h0 := h 0 (by omega)
    have h1 := flat_lenB B ls k fun i hi => by have := h (i + 1) (by omega); simpa using this
    simp [Nat.mul_add] at h0 h1 ⊢
    omega

def Cat (n : Nat) (ls : List (List UInt8)) (s i : Value) : Prop := ∃ k : Nat, k ≤ n ∧ i = .int .i64 k ∧ s = .string (st (ls.take k).flatten) ∧ ∀ i, i < k → (ls[i]?.getD []).length ≤ 200

set_option maxHeartbeats 8000000 in
set_option maxRecDepth 100000 in
theorem walk_of {w : World} {S : Nat → Prop} {A : Option Addr} {n c : Nat} {ls : List (List UInt8)} (k : List UInt8) (hk : k.length = 32) (h : Rws w S A n c ls) (ht : Tab w) :
    Calls Tryd.prog 3 #[.agg (row8 k), .slice A n c] w fun e w' => e = .returned (.bool true) ∧ Below w.heap.size w w' := by
  obtain ⟨KS, hKS⟩ : ∃ KS, KS = row8 k := ⟨_, rfl⟩
  rw [← hKS]
  have HKS : Hid (KS.size = 32 ∧ KS = row8 k ∧ k.length = 32) := Lib.hid ⟨by rw [hKS, row8_size, hk], hKS, hk⟩
  clear hKS hk
  by_cases hn : n ≤ 8
  · have HBX : Hid (Below w.heap.size w (w.alloc (.cells KS 23)) ∧ (w.alloc (.cells KS 23)).heap[w.heap.size]? = some (.cells KS 23 (0, 0))) := Lib.hid ⟨(Below.refl _ _).alloc (Nat.le_refl _) _, heap_alloc_new w _⟩
    go_enter Tryd.func3, Tryd.ntmps3
    go_wp2_with fail
    refine (mawake_true (ht.below HBX.out.1)).mono ?_
    rintro _ w1 ⟨rfl, hb1⟩
    have HB1 : Hid (Below w.heap.size w w1 ∧ w1.heap[w.heap.size]? = some (.cells KS 23 (0, 0))) := Lib.hid ⟨HBX.out.1.trans (hb1.mono HBX.out.1.size), (hb1.block _ (lt_of_cells HBX.out.2)).trans HBX.out.2⟩
    have HH := Lib.hid (And.intro (h.below HB1.out.1) (ht.below HB1.out.1))
    have HL := Lib.hid h.len
    clear hb1 h ht HBX
    go_wp2_with fail
    go_loop [6, 7] (fun s i => Cat n ls s i) (fun _ i => n - (intOf i).toNat)
    case atStart => unfold Cat; exact ⟨0, Nat.zero_le _, rfl, rfl, fun i hi => by omega⟩
    case round =>
      obtain ⟨m, hm, rfl, rfl, hall⟩ := hrel
      have hfl := flat_lenB 200 ls m hall
      have HALL := Lib.hid hall
      by_cases hlt : m < n
      · obtain ⟨b, off, rfl, _, _, hc⟩ := HH.out.1.row (by omega)
        obtain ⟨Ai, ni, ci, hci, hyi⟩ := hc m hlt
        have hft := flat_take ls m (by rw [HL.out]; exact hlt)
        have hli := hyi.len
        have hs : (convert 26 9 (.slice Ai ni ci)).run Tryd.prog w1 = .ok (.string (st (ls[m]?.getD []))) w1 := byt_string hyi
        have hap := (st_app (ls.take m).flatten (ls[m]?.getD [])).trans (by rw [← hft])
        have s1 := st_size (ls.take m).flatten
        have s2 := st_size (ls[m]?.getD [])
        generalize hLk : ls[m]?.getD [] = Lk at *
        have HLk := Lib.hid hLk
        generalize hF1 : (ls.take (m + 1)).flatten = F1 at *
        have HF1 := Lib.hid hF1
        generalize (ls.take m).flatten = F at *
        clear hall hc hyi hft hLk hF1
        by_cases h3 : ni ≤ 200
        · have hsum : ¬ (9223372036854775807 : Int) < (F.length : Int) + (Lk.length : Int) := by omega
          go_wp2_with fail
          go_round
          case rel =>
            unfold Cat
            refine ⟨m + 1, by omega, by go_num, by rw [HF1.out], fun i hi => ?_⟩
            rcases Nat.lt_succ_iff_lt_or_eq.1 hi with h1 | rfl
            · exact HALL.out i h1
            · rw [HLk.out]; omega
          case measure => simp [intOf]; omega
        · go_wp2_with fail
          go_ret
          exact ⟨rfl, HB1.out.1⟩
      · obtain rfl : m = n := by omega
        have hall2 : ls.take m = ls := by rw [← HL.out, List.take_length]
        rw [hall2] at hfl ⊢
        obtain ⟨L, hL⟩ : ∃ L, L = ls.flatten := ⟨_, rfl⟩
        rw [← hL] at hfl ⊢
        have HLL := Lib.hid hL
        obtain ⟨RS, hRS⟩ : ∃ RS, RS = row8 (macL k L) := ⟨_, rfl⟩
        have HQ : Hid (∀ w, (Op.equalIn 10000 27 (.agg RS) (.agg RS)).run Tryd.prog w = .ok true w) := Lib.hid fun w => by rw [hRS]; exact (id_eql _ _ (macL_length _ _) (macL_length _ _) w).trans (by simp)
        have HRS := Lib.hid hRS
        clear hRS hL hall2 hall hlt
        go_wp2_with fail
        have HBKS : Hid (w.heap.size < w1.drew.heap.size ∧ w1.drew.heap[w.heap.size]? = some (.cells KS 23 (0, 0))) := Lib.hid ⟨lt_of_cells HB1.out.2, HB1.out.2⟩
        have HY : Hid (∀ W, Below w1.drew.heap.size w1.drew W → Rws W S A m c ls ∧ Tab W) := Lib.hid fun W hW => ⟨HH.out.1.below (Grow.below_of_drew hW), HH.out.2.below (Grow.below_of_drew hW)⟩
        refine wp_region_grow (fun W W' => Below W.heap.size W W') (Grow.nth [fun v _ => v = .agg KS, fun v _ => v = .slice A m c, fun v _ => v = .agg RS, fun v _ => v = .agg KS, fun v _ => v = .string (st L), fun v _ => v = .agg RS, fun v _ => v = .bool true, fun v _ => v = .bool true]) 40 (by kernel_rfl) (by kernel_rfl) (by rfl) (fun W => Below.refl _ W) (fun _ _ _ h1 h2 => h1.trans (h2.mono h1.size)) (Grow.mono_nth ?gmono) ?gsteps ?gfin
        case gmono => exact ⟨fun _ _ _ h _ => h, fun _ _ _ h _ => h, fun _ _ _ h _ => h, fun _ _ _ h _ => h, fun _ _ _ h _ => h, fun _ _ _ h _ => h, fun _ _ _ h _ => h, fun _ _ _ h _ => h, trivial⟩
        case gsteps =>
          show Grow.allBelow _ 8
          refine And.intro ?_ ?s7
          refine And.intro ?_ ?s6
          refine And.intro ?_ ?s5
          refine And.intro ?_ ?s4
          refine And.intro ?_ ?s3
          refine And.intro ?_ ?s2
          refine And.intro ?_ ?s1
          refine And.intro ?_ ?s0
          exact trivial
          case s0 =>
            refine Grow.step_in (by rfl) (by rfl) ?_
            intro E W ec eg ef hG hd hu R HR
            have e2 : E (.tmp 2) = .pointer (some ⟨w.heap.size, 0, none⟩) := hu 2 (by kernel_rfl)
            clear hd hu
            exact runs_load 23 (.tmp 2) rfl (w.heap.size) e2 KS (0, 0) ((hG.block _ HBKS.out.1).trans HBKS.out.2) Tryd.underlying23 (by rw [HKS.out.1]; exact key_info) (HR.out _ _ (Below.refl _ _) rfl)
          case s1 =>
            refine Grow.step_in (by rfl) (by rfl) ?_
            intro E W ec eg ef hG hd hu R HR
            have e1 : E (.tmp 1) = .slice A m c := hu 1 (by kernel_rfl)
            clear hd hu
            go_simp
            exact HR.out _ _ (Below.refl _ _) rfl
          case s2 =>
            refine Grow.step_in (by rfl) (by rfl) ?_
            intro E W ec eg ef hG hd hu R HR
            have e33 : E (.tmp 33) = .agg KS := hd 0 33 (by kernel_rfl)
            have e34 : E (.tmp 34) = .slice A m c := hd 1 34 (by kernel_rfl)
            clear hd hu
            go_simp
            rw [HKS.out.2.1]
            refine (mof_any (HY.out W hG).1 (HY.out W hG).2 (by omega) (by rw [← HLL.out]; omega) k HKS.out.2.2).mono ?_
            rintro _ w' ⟨rfl, hb⟩
            exact ⟨_, rfl, HR.out _ _ hb (show _ = _ by rw [HRS.out, HLL.out])⟩
          case s3 =>
            refine Grow.step_in (by rfl) (by rfl) ?_
            intro E W ec eg ef hG hd hu R HR
            have e2 : E (.tmp 2) = .pointer (some ⟨w.heap.size, 0, none⟩) := hu 2 (by kernel_rfl)
            clear hd hu
            exact runs_load 23 (.tmp 2) rfl (w.heap.size) e2 KS (0, 0) ((hG.block _ HBKS.out.1).trans HBKS.out.2) Tryd.underlying23 (by rw [HKS.out.1]; exact key_info) (HR.out _ _ (Below.refl _ _) rfl)
          case s4 =>
            refine Grow.step_in (by rfl) (by rfl) ?_
            intro E W ec eg ef hG hd hu R HR
            have e6 : E (.tmp 6) = .string (st L) := hu 6 (by kernel_rfl)
            clear hd hu
            go_simp
            exact HR.out _ _ (Below.refl _ _) rfl
          case s5 =>
            refine Grow.step_in (by rfl) (by rfl) ?_
            intro E W ec eg ef hG hd hu R HR
            have e36 : E (.tmp 36) = .agg KS := hd 3 36 (by kernel_rfl)
            have e37 : E (.tmp 37) = .string (st L) := hd 4 37 (by kernel_rfl)
            clear hd hu
            go_simp
            rw [HKS.out.2.1]
            refine (rofm_any k HKS.out.2.2 L (by omega) W).mono ?_
            rintro _ w' ⟨rfl, hb⟩
            exact ⟨_, rfl, HR.out _ _ hb (show _ = _ by rw [HRS.out])⟩
          case s6 =>
            refine Grow.step_in (by rfl) (by rfl) ?_
            intro E W ec eg ef hG hd hu R HR
            have e35 : E (.tmp 35) = .agg RS := hd 2 35 (by kernel_rfl)
            have e38 : E (.tmp 38) = .agg RS := hd 5 38 (by kernel_rfl)
            clear hd hu
            have hq := HQ.out
            go_simp
            exact HR.out _ _ (Below.refl _ _) rfl
          case s7 =>
            refine Grow.step_in (by rfl) (by rfl) ?_
            intro E W ec eg ef hG hd hu R HR
            have e39 : E (.tmp 39) = .bool true := hd 6 39 (by kernel_rfl)
            clear hd hu
            go_simp
            exact HR.out _ _ (Below.refl _ _) rfl
        case gfin =>
          intro W hG
          refine Grow.fin_dst (by rfl) ?_
          rintro _ rfl
          refine Grow.fin_dst (by rfl) ?_
          rintro _ rfl
          refine Grow.fin_dst (by rfl) ?_
          rintro _ rfl
          refine Grow.fin_dst (by rfl) ?_
          rintro _ rfl
          refine Grow.fin_dst (by rfl) ?_
          rintro _ rfl
          refine Grow.fin_dst (by rfl) ?_
          rintro _ rfl
          refine Grow.fin_dst (by rfl) ?_
          rintro _ rfl
          refine Grow.fin_dst (by rfl) ?_
          rintro _ rfl
          simp only [Act.put, List.setIfInBounds_toArray, List.set_cons_zero, List.set_cons_succ]
          refine Grow.fin_end ?_
          have HBW := Lib.hid (HB1.out.1.trans ((Grow.below_of_drew hG).mono HB1.out.1.size))
          clear hG
          go_wp2_with fail
          go_ret
          exact ⟨rfl, HBW.out⟩
  · go_enter Tryd.func3, Tryd.ntmps3
    have HBX : Hid (Below w.heap.size w (w.alloc (.cells KS 23))) := Lib.hid ((Below.refl _ _).alloc (Nat.le_refl _) _)
    go_wp2_with (go_at_call 8; refine (mawake_true (ht.below HBX.out)).mono ?_; rintro _ w1 ⟨rfl, hb1⟩)
    go_ret
    exact ⟨rfl, HBX.out.trans (hb1.mono HBX.out.size)⟩
end Go.Proofs.YtckgibeiikhaaaaDoor
