/-
  The statement DigestNoughts: its walk.
-/
import Derived.Test.YtjingbichgpfaaaDoorRefOf
import Derived.Test.YtjingbichgpfaaaDoorGrow
import Derived.Test.YtjingbichgpfaaaDoorDigestMade
namespace Go.Proofs.YtjingbichgpfaaaDoor
open Go.RowKit

theorem fill_set (c : UInt8) (N k : Nat) (h : k < N) : (List.replicate k c ++ List.replicate (N - k) 0).set k c = List.replicate (k + 1) c ++ List.replicate (N - (k + 1)) 0 := by
  rw [List.set_append_right _ _ (by simp), List.length_replicate, Nat.sub_self, show N - k = (N - (k + 1)) + 1 by omega, List.replicate_succ, List.set_cons_zero, List.replicate_succ', List.append_assoc]
  rfl
def Fil (w : World) (q0 N : Nat) (c : UInt8) (i : Value) (wr : World) : Prop := ∃ k : Nat, k ≤ N ∧ i = .int .i64 k ∧ Below w.heap.size w wr ∧ wr.heap[q0]? = some (.cells (u8s (List.replicate k c ++ List.replicate (N - k) 0)).toArray 5 (0, 0))

set_option maxHeartbeats 8000000 in
set_option maxRecDepth 100000 in
theorem walk_noughts {w : World} {c0 n0 : Int} (hc0 : (Lit.int .u8 c0).wf = true) (hn0 : (Lit.int .u8 n0).wf = true) (ht : Tab w) :
    Calls Tryd.prog 6 #[.int .u8 c0, .int .u8 n0] w fun e w' => e = .returned (.bool true) ∧ Below w.heap.size w w' := by
  have hb1 := bounds_u8 hc0
  have hb2 := bounds_u8 hn0
  obtain ⟨c, rfl⟩ : ∃ c : UInt8, c0 = (c.toNat : Int) := ⟨UInt8.ofNat c0.toNat, by simp; omega⟩
  obtain ⟨N, rfl⟩ : ∃ N : Nat, n0 = (N : Int) := ⟨n0.toNat, by omega⟩
  have hN : N < 256 := by omega
  clear hc0 hn0 hb1 hb2
  go_enter Tryd.func6, Tryd.ntmps6
  go_wp2_with fail
  refine (awake_true ht).mono ?_
  rintro _ w1 ⟨rfl, hb1⟩
  have HB1 := Lib.hid hb1
  have HT := Lib.hid (ht.below hb1)
  have hmk := make_bytes w1 N (by omega)
  have hnew := heap_alloc_new w1 (.cells (u8s (List.replicate N 0)).toArray 5)
  have hbl : Below w1.heap.size w1 (w1.alloc (.cells (u8s (List.replicate N 0)).toArray 5)) := (Below.refl _ _).alloc (Nat.le_refl _) _
  have HN := Lib.hid (And.intro hnew hbl)
  clear hnew hbl hb1 ht
  go_wp2_with fail
  generalize w1.alloc (.cells (u8s (List.replicate N 0)).toArray 5) = w2 at *
  obtain ⟨q0, hq0⟩ : ∃ q0, q0 = w1.heap.size := ⟨_, rfl⟩
  rw [← hq0] at HN ⊢
  have HQ0 := Lib.hid hq0
  clear hq0 hmk
  go_loopw [7] (fun i wr => Fil w1 q0 N c i wr) (fun i _ => N - (intOf i).toNat)
  case atStart => unfold Fil; exact ⟨0, Nat.zero_le _, rfl, HQ0.out ▸ HN.out.2, by simpa using HN.out.1⟩
  case round =>
    obtain ⟨k, hk, rfl, hbr, hcl⟩ := hrel
    have HC := Lib.hid hcl
    by_cases hlt : k < N
    · have hcell := u8s_cell hcl k (by simp; omega)
      have hfree := free_of_cells hcl k
      clear hcl
      go_wp2_with fail
      go_roundw
      case rel =>
        have h1 := u8s_cells_set HC.out k c
        rw [fill_set c N k hlt] at h1
        unfold Fil
        exact ⟨k + 1, by omega, by go_num, hbr.setCell (by rw [← HQ0.out]; exact Nat.le_refl _) _, h1⟩
      case measure => simp [intOf]; omega
    · obtain rfl : k = N := by omega
      obtain ⟨L, hL⟩ : ∃ L, L = List.replicate k c ++ List.replicate (k - k) (0 : UInt8) := ⟨_, rfl⟩
      have hLl : L.length = k := by rw [hL]; simp
      rw [← hL] at HC
      have HW := Lib.hid (byt_whole HC.out (by omega))
      rw [hLl] at HW
      obtain ⟨X, hX⟩ : ∃ X, X = (u8s (shaL L)).toArray := ⟨_, rfl⟩
      have HQ : Hid (∀ w, (Op.equalIn 10000 26 (.agg X) (.agg X)).run Tryd.prog w = .ok true w) := Lib.hid fun w => by rw [hX, id_eql _ _ (shaL_length L) (shaL_length L)]; simp
      have HX := Lib.hid hX
      clear hX
      obtain ⟨Y, hY⟩ : ∃ Y, Y = (u8s (shaL [])).toArray := ⟨_, rfl⟩
      have HQ2 : Hid (∀ w, (Op.equalIn 10000 26 (.agg Y) (.agg Y)).run Tryd.prog w = .ok true w) := Lib.hid fun w => by rw [hY, id_eql _ _ (shaL_length []) (shaL_length [])]; simp
      have HX2 := Lib.hid hY
      have HBR := Lib.hid hbr
      clear hY hcl hL hbr hlt hk
      go_wp2_with fail
      have HY : Hid (∀ W, Below wr.drew.heap.size wr.drew W → Byt W (fun _ => True) (some ⟨q0, 0, none⟩) k k L ∧ Tab W) := Lib.hid fun W hW => ⟨HW.out.below (Grow.below_of_drew hW), (HT.out.below HBR.out).below (Grow.below_of_drew hW)⟩
      refine wp_region_grow (fun W W' => Below W.heap.size W W') (Grow.nth [fun v _ => v = .slice (some ⟨q0, 0, none⟩) k k, fun v W => ∃ q, v = .slice (some ⟨q, 0, none⟩) 1 1 ∧ Rws W (fun _ => True) (some ⟨q, 0, none⟩) 1 1 [L], fun v _ => v = .agg X, fun v _ => v = .slice (some ⟨q0, 0, none⟩) k k, fun v _ => v = .string ⟨L.toArray⟩, fun v _ => v = .agg X, fun v _ => v = .bool true, fun v _ => v = .bool true, fun v _ => v = .agg Y, fun v _ => v = .agg Y, fun v _ => v = .bool true, fun v _ => v = .bool true, fun v _ => v = .bool true]) 36 (by kernel_rfl) (by kernel_rfl) (by rfl) (fun W => Below.refl _ W) (fun _ _ _ h1 h2 => h1.trans (h2.mono h1.size)) (Grow.mono_nth ?gmono) ?gsteps ?gfin
      case gmono => exact ⟨fun _ _ _ h _ => h, fun _ _ _ ⟨q, h1, h2⟩ hg => ⟨q, h1, h2.below hg⟩, fun _ _ _ h _ => h, fun _ _ _ h _ => h, fun _ _ _ h _ => h, fun _ _ _ h _ => h, fun _ _ _ h _ => h, fun _ _ _ h _ => h, fun _ _ _ h _ => h, fun _ _ _ h _ => h, fun _ _ _ h _ => h, fun _ _ _ h _ => h, fun _ _ _ h _ => h, trivial⟩
      case gsteps =>
        show Grow.allBelow _ 13
        refine And.intro ?_ ?s12
        refine And.intro ?_ ?s11
        refine And.intro ?_ ?s10
        refine And.intro ?_ ?s9
        refine And.intro ?_ ?s8
        refine And.intro ?_ ?s7
        refine And.intro ?_ ?s6
        refine And.intro ?_ ?s5
        refine And.intro ?_ ?s4
        refine And.intro ?_ ?s3
        refine And.intro ?_ ?s2
        refine And.intro ?_ ?s1
        refine And.intro ?_ ?s0
        exact trivial
        case s0 =>
          refine Grow.step_in (by rfl) (by rfl) ?_
          intro E W ec eg ef hG hd hu R HR
          have e6 : E (.tmp 6) = .slice (some ⟨q0, 0, none⟩) k k := hu 6 (by kernel_rfl)
          clear hd hu
          go_simp
          exact HR.out _ _ (Below.refl _ _) rfl
        case s1 =>
          refine Grow.step_in (by rfl) (by rfl) ?_
          intro E W ec eg ef hG hd hu R HR
          have e24 : E (.tmp 24) = .slice (some ⟨q0, 0, none⟩) k k := hd 0 24 (by kernel_rfl)
          clear hd hu
          go_simp
          exact HR.out _ _ ((Below.refl _ _).alloc (Nat.le_refl _) _) ⟨W.heap.size, rfl, rws_one (HY.out W hG).1⟩
        case s2 =>
          refine Grow.step_in (by rfl) (by rfl) ?_
          intro E W ec eg ef hG hd hu R HR
          have h25 := hd 1 25 (by kernel_rfl)
          clear hd hu
          obtain ⟨q, eq, hR⟩ := h25
          go_simp
          refine (of_any hR (HY.out W hG).2 (by simp; omega)).mono ?_
          rintro _ w' ⟨rfl, hb⟩
          exact ⟨_, rfl, HR.out _ _ hb (show _ = _ by rw [HX.out, show [L].flatten = L by simp])⟩
        case s3 =>
          refine Grow.step_in (by rfl) (by rfl) ?_
          intro E W ec eg ef hG hd hu R HR
          have e6 : E (.tmp 6) = .slice (some ⟨q0, 0, none⟩) k k := hu 6 (by kernel_rfl)
          clear hd hu
          go_simp
          exact HR.out _ _ (Below.refl _ _) rfl
        case s4 =>
          refine Grow.step_in (by rfl) (by rfl) ?_
          intro E W ec eg ef hG hd hu R HR
          have e27 : E (.tmp 27) = .slice (some ⟨q0, 0, none⟩) k k := hd 3 27 (by kernel_rfl)
          clear hd hu
          have hs := byt_string (HY.out W hG).1
          go_simp
          exact HR.out _ _ (Below.refl _ _) rfl
        case s5 =>
          refine Grow.step_in (by rfl) (by rfl) ?_
          intro E W ec eg ef hG hd hu R HR
          have e28 : E (.tmp 28) = .string ⟨L.toArray⟩ := hd 4 28 (by kernel_rfl)
          clear hd hu
          go_simp
          refine (rof_any L (by omega) _).mono ?_
          rintro _ w' ⟨rfl, hb⟩
          exact ⟨_, rfl, HR.out _ _ hb (show _ = _ by rw [HX.out])⟩
        case s6 =>
          refine Grow.step_in (by rfl) (by rfl) ?_
          intro E W ec eg ef hG hd hu R HR
          have e26 : E (.tmp 26) = .agg X := hd 2 26 (by kernel_rfl)
          have e29 : E (.tmp 29) = .agg X := hd 5 29 (by kernel_rfl)
          clear hd hu
          have hq := HQ.out
          go_simp
          exact HR.out _ _ (Below.refl _ _) rfl
        case s7 =>
          refine Grow.step_in (by rfl) (by rfl) ?_
          intro E W ec eg ef hG hd hu R HR
          have e30 : E (.tmp 30) = .bool true := hd 6 30 (by kernel_rfl)
          clear hd hu
          go_simp
          exact HR.out _ _ (Below.refl _ _) rfl
        case s8 =>
          refine Grow.step_on (g := 7) (b := true) (d := 31) (by rfl) (by rfl) (by rfl) (by kernel_rfl) (fun v W h => h) ?_
          intro E W ec eg ef hG hd hu R HR
          clear hd hu
          go_simp
          refine (of_any (ls := []) (S := fun _ => True) ⟨rfl, Nat.le_refl _, Nat.zero_le _, fun h => absurd h (by simp)⟩ (HY.out W hG).2 (by simp)).mono ?_
          rintro _ w' ⟨rfl, hb⟩
          exact ⟨_, rfl, HR.out _ _ hb (show _ = _ by rw [HX2.out]; rfl)⟩
        case s9 =>
          refine Grow.step_on (g := 7) (b := true) (d := 31) (by rfl) (by rfl) (by rfl) (by kernel_rfl) (fun v W h => h) ?_
          intro E W ec eg ef hG hd hu R HR
          clear hd hu
          go_simp
          refine (rof_any [] (by simp) _).mono ?_
          rintro _ w' ⟨rfl, hb⟩
          exact ⟨_, rfl, HR.out _ _ hb (show _ = _ by rw [HX2.out])⟩
        case s10 =>
          refine Grow.step_on (g := 7) (b := true) (d := 31) (by rfl) (by rfl) (by rfl) (by kernel_rfl) (fun v W h => h) ?_
          intro E W ec eg ef hG hd hu R HR
          have e32 : E (.tmp 32) = .agg Y := hd 8 32 (by kernel_rfl)
          have e33 : E (.tmp 33) = .agg Y := hd 9 33 (by kernel_rfl)
          clear hd hu
          have hq := HQ2.out
          go_simp
          exact HR.out _ _ (Below.refl _ _) rfl
        case s11 =>
          refine Grow.step_in (by rfl) (by rfl) ?_
          intro E W ec eg ef hG hd hu R HR
          have e31 : E (.tmp 31) = .bool true := hd 7 31 (by kernel_rfl)
          have e34 : E (.tmp 34) = .bool true := hd 10 34 (by kernel_rfl)
          clear hd hu
          go_simp
          exact HR.out _ _ (Below.refl _ _) rfl
        case s12 =>
          refine Grow.step_in (by rfl) (by rfl) ?_
          intro E W ec eg ef hG hd hu R HR
          have e35 : E (.tmp 35) = .bool true := hd 11 35 (by kernel_rfl)
          clear hd hu
          go_simp
          exact HR.out _ _ (Below.refl _ _) rfl
      case gfin =>
        intro W hG
        refine Grow.fin_dst (by rfl) ?_
        rintro _ rfl
        refine Grow.fin_dst (by rfl) ?_
        rintro _ ⟨_, rfl, _⟩
        refine Grow.fin_dst (by rfl) ?_
        rintro _ rfl
        refine Grow.fin_dst (by rfl) ?_
        rintro _ rfl
        refine Grow.fin_dst (by rfl) ?_
        rintro _ rfl
        refine Grow.fin_dst (by rfl) ?_
        rintro _ rfl
        refine Grow.fin_dst (by rfl) ?_
        rintro _ rfl
        refine Grow.fin_dst (by rfl) ?_
        rintro _ rfl
        refine Grow.fin_dst (by rfl) ?_
        rintro _ rfl
        refine Grow.fin_dst (by rfl) ?_
        rintro _ rfl
        refine Grow.fin_dst (by rfl) ?_
        rintro _ rfl
        refine Grow.fin_dst (by rfl) ?_
        rintro _ rfl
        refine Grow.fin_dst (by rfl) ?_
        rintro _ rfl
        simp only [Act.put, List.setIfInBounds_toArray, List.set_cons_zero, List.set_cons_succ]
        refine Grow.fin_end ?_
        have HBW := Lib.hid ((HB1.out.trans (HBR.out.mono HB1.out.size)).trans ((Grow.below_of_drew hG).mono (Nat.le_trans HB1.out.size HBR.out.size)))
        clear hG
        go_wp2_with fail
        go_ret
        exact ⟨rfl, HBW.out⟩
end Go.Proofs.YtjingbichgpfaaaDoor
