/-
  The statement DigestBits: its walk.
-/
import Derived.Test.YtjingbichgpfaaaDoorRefOf
import Derived.Test.YtjingbichgpfaaaDoorGrow
import Derived.Test.YtjingbichgpfaaaDoorDigestMade
namespace Go.Proofs.YtjingbichgpfaaaDoor
open Go.RowKit

set_option maxHeartbeats 8000000 in
set_option maxRecDepth 100000 in
theorem walk_bits {w : World} {n0 at_ : Int} (hn0 : (Lit.int .u8 n0).wf = true) (hat : (Lit.int .u16 at_).wf = true) (ht : Tab w) :
    Calls Tryd.prog 8 #[.int .u8 n0, .int .u16 at_] w fun e w' => e = .returned (.bool true) ∧ Below w.heap.size w w' := by
  have hb1 := bounds_u8 hn0
  have hb2 := bounds_u16 hat
  obtain ⟨N, hN⟩ : ∃ N : Nat, n0 % 140 + 1 = (N : Int) := ⟨(n0 % 140 + 1).toNat, by omega⟩
  have hN1 : 1 ≤ N ∧ N ≤ 140 := by omega
  obtain ⟨k, hk⟩ : ∃ k : Nat, at_ % (8 * (N : Int)) = (k : Int) := ⟨(at_ % (8 * (N : Int))).toNat, by have := Int.emod_nonneg at_ (show 8 * (N : Int) ≠ 0 by omega); omega⟩
  have hk8 : k < 8 * N := by have := Int.emod_lt_of_pos at_ (show 0 < 8 * (N : Int) by omega); omega
  obtain ⟨v, hv⟩ : ∃ v : UInt8, (2 ^ (k % 8) % 256 : Int) = (v.toNat : Int) := ⟨UInt8.ofNat (2 ^ (k % 8) % 256), by simp⟩
  have HV := Lib.hid hv
  clear hn0 hat hv
  go_enter Tryd.func8, Tryd.ntmps8
  go_wp2_with fail
  refine (awake_true ht).mono ?_
  rintro _ w1 ⟨rfl, hb1⟩
  have HB1 := Lib.hid hb1
  have HT := Lib.hid (ht.below hb1)
  have hmk := make_bytes w1 N (by omega)
  have hnew := heap_alloc_new w1 (.cells (u8s (List.replicate N 0)).toArray 5)
  have hcell := u8s_cell hnew (k / 8) (by simp; omega)
  have hfree := free_of_cells hnew (k / 8)
  have hkk : k / 8 < N := by omega
  have hbl : Below w1.heap.size w1 (w1.alloc (.cells (u8s (List.replicate N 0)).toArray 5)) := (Below.refl _ _).alloc (Nat.le_refl _) _
  have HN := Lib.hid (And.intro hnew hbl)
  clear hnew hbl hb1 ht
  go_wp2_with fail
  obtain ⟨L, hL⟩ : ∃ L, L = (List.replicate N (0 : UInt8)).set (k / 8) v := ⟨_, rfl⟩
  have hLl : L.length = N := by rw [hL]; simp
  rw [HV.out, u8s_set, ← hL]
  have hcl := heap_alloc_new w1 (.cells (u8s L).toArray 5)
  have HW := Lib.hid (byt_whole hcl (by omega))
  rw [hLl] at HW
  have HBR : Hid (Below w1.heap.size w1 (w1.alloc (.cells (u8s L).toArray 5))) := Lib.hid ((Below.refl _ _).alloc (Nat.le_refl _) _)
  obtain ⟨X, hX⟩ : ∃ X, X = (u8s (shaL L)).toArray := ⟨_, rfl⟩
  have HQ : Hid (∀ w, (Op.equalIn 10000 26 (.agg X) (.agg X)).run Tryd.prog w = .ok true w) := Lib.hid fun w => by rw [hX, id_eql _ _ (shaL_length L) (shaL_length L)]; simp
  have HX := Lib.hid hX
  clear hX
  clear hcl hL hmk hcell hfree hkk HN
  generalize w1.alloc (.cells (u8s L).toArray 5) = wr at *
  obtain ⟨q0, hq0⟩ : ∃ q0, q0 = w1.heap.size := ⟨_, rfl⟩
  rw [← hq0] at HW ⊢
  clear hq0
  have HY : Hid (∀ W, Below wr.drew.heap.size wr.drew W → Byt W (fun _ => True) (some ⟨q0, 0, none⟩) N N L ∧ Tab W) := Lib.hid fun W hW => ⟨HW.out.below (Grow.below_of_drew hW), (HT.out.below HBR.out).below (Grow.below_of_drew hW)⟩
  refine wp_region_grow (fun W W' => Below W.heap.size W W') (Grow.nth [fun v _ => v = .slice (some ⟨q0, 0, none⟩) N N, fun v W => ∃ q, v = .slice (some ⟨q, 0, none⟩) 1 1 ∧ Rws W (fun _ => True) (some ⟨q, 0, none⟩) 1 1 [L], fun v _ => v = .agg X, fun v _ => v = .slice (some ⟨q0, 0, none⟩) N N, fun v _ => v = .string ⟨L.toArray⟩, fun v _ => v = .agg X, fun v _ => v = .bool true, fun v _ => v = .bool true]) 37 (by kernel_rfl) (by kernel_rfl) (by rfl) (fun W => Below.refl _ W) (fun _ _ _ h1 h2 => h1.trans (h2.mono h1.size)) (Grow.mono_nth ?gmono) ?gsteps ?gfin
  case gmono => exact ⟨fun _ _ _ h _ => h, fun _ _ _ ⟨q, h1, h2⟩ hg => ⟨q, h1, h2.below hg⟩, fun _ _ _ h _ => h, fun _ _ _ h _ => h, fun _ _ _ h _ => h, fun _ _ _ h _ => h, fun _ _ _ h _ => h, fun _ _ _ h _ => h, trivial⟩
  case gsteps =>
    show Grow.allBelow _ 8
    refine And.intro ?_ ?s7
    refine And.intro ?_ ?s6
    refine And.intro ?_ ?s5
    refine And.intro ?_ ?s4
    refine And.intro ?_ ?s3
    refine And.intro ?_ ?s2
    refine And.intro ?_ ?s1
    refine And.intro ?_ ?s0
    exact trivial
    case s0 =>
      refine Grow.step_in (by rfl) (by rfl) ?_
      intro E W ec eg ef hG hd hu R HR
      have e6 : E (.tmp 6) = .slice (some ⟨q0, 0, none⟩) N N := hu 6 (by kernel_rfl)
      clear hd hu
      go_simp
      exact HR.out _ _ (Below.refl _ _) rfl
    case s1 =>
      refine Grow.step_in (by rfl) (by rfl) ?_
      intro E W ec eg ef hG hd hu R HR
      have e30 : E (.tmp 30) = .slice (some ⟨q0, 0, none⟩) N N := hd 0 30 (by kernel_rfl)
      clear hd hu
      go_simp
      exact HR.out _ _ ((Below.refl _ _).alloc (Nat.le_refl _) _) ⟨W.heap.size, rfl, rws_one (HY.out W hG).1⟩
    case s2 =>
      refine Grow.step_in (by rfl) (by rfl) ?_
      intro E W ec eg ef hG hd hu R HR
      have h31 := hd 1 31 (by kernel_rfl)
      clear hd hu
      obtain ⟨q, eq, hR⟩ := h31
      go_simp
      refine (of_any hR (HY.out W hG).2 (by simp; omega)).mono ?_
      rintro _ w' ⟨rfl, hb⟩
      exact ⟨_, rfl, HR.out _ _ hb (show _ = _ by rw [HX.out, show [L].flatten = L by simp])⟩
    case s3 =>
      refine Grow.step_in (by rfl) (by rfl) ?_
      intro E W ec eg ef hG hd hu R HR
      have e6 : E (.tmp 6) = .slice (some ⟨q0, 0, none⟩) N N := hu 6 (by kernel_rfl)
      clear hd hu
      go_simp
      exact HR.out _ _ (Below.refl _ _) rfl
    case s4 =>
      refine Grow.step_in (by rfl) (by rfl) ?_
      intro E W ec eg ef hG hd hu R HR
      have e33 : E (.tmp 33) = .slice (some ⟨q0, 0, none⟩) N N := hd 3 33 (by kernel_rfl)
      clear hd hu
      have hs := byt_string (HY.out W hG).1
      go_simp
      exact HR.out _ _ (Below.refl _ _) rfl
    case s5 =>
      refine Grow.step_in (by rfl) (by rfl) ?_
      intro E W ec eg ef hG hd hu R HR
      have e34 : E (.tmp 34) = .string ⟨L.toArray⟩ := hd 4 34 (by kernel_rfl)
      clear hd hu
      go_simp
      refine (rof_any L (by omega) _).mono ?_
      rintro _ w' ⟨rfl, hb⟩
      exact ⟨_, rfl, HR.out _ _ hb (show _ = _ by rw [HX.out])⟩
    case s6 =>
      refine Grow.step_in (by rfl) (by rfl) ?_
      intro E W ec eg ef hG hd hu R HR
      have e32 : E (.tmp 32) = .agg X := hd 2 32 (by kernel_rfl)
      have e35 : E (.tmp 35) = .agg X := hd 5 35 (by kernel_rfl)
      clear hd hu
      have hq := HQ.out
      go_simp
      exact HR.out _ _ (Below.refl _ _) rfl
    case s7 =>
      refine Grow.step_in (by rfl) (by rfl) ?_
      intro E W ec eg ef hG hd hu R HR
      have e36 : E (.tmp 36) = .bool true := hd 6 36 (by kernel_rfl)
      clear hd hu
      go_simp
      exact HR.out _ _ (Below.refl _ _) rfl
  case gfin =>
    intro W hG
    refine Grow.fin_dst (by rfl) ?_
    rintro _ rfl
    refine Grow.fin_dst (by rfl) ?_
    rintro _ ⟨_, rfl, _⟩
    refine Grow.fin_dst (by rfl) ?_
    rintro _ rfl
    refine Grow.fin_dst (by rfl) ?_
    rintro _ rfl
    refine Grow.fin_dst (by rfl) ?_
    rintro _ rfl
    refine Grow.fin_dst (by rfl) ?_
    rintro _ rfl
    refine Grow.fin_dst (by rfl) ?_
    rintro _ rfl
    refine Grow.fin_dst (by rfl) ?_
    rintro _ rfl
    simp only [Act.put, List.setIfInBounds_toArray, List.set_cons_zero, List.set_cons_succ]
    refine Grow.fin_end ?_
    have HBW := Lib.hid ((HB1.out.trans (HBR.out.mono HB1.out.size)).trans ((Grow.below_of_drew hG).mono (Nat.le_trans HB1.out.size HBR.out.size)))
    clear hG
    go_wp2_with fail
    go_ret
    exact ⟨rfl, HBW.out⟩
end Go.Proofs.YtjingbichgpfaaaDoor
