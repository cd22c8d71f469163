/-
  The statement DigestCuts: its walk.
-/
import Derived.Test.YtjingbichgpfaaaDoorShaTwo
import Derived.Test.YtjingbichgpfaaaDoorGrow
namespace Go.Proofs.YtjingbichgpfaaaDoor
open Go.RowKit

/-- s[:k] -/
theorem run_to {P : Program} (t e : TypeId) (ht : P.underlying t = some (.slice e)) (hz : ∀ w, (Go.sizeOf e).run P w = .ok 1 w) (A : Option Addr) (n c k : Nat) (hk : k ≤ c) (W : World) :
    (Instr.slice t (.slice A n c) none (some (.int .i64 (k : Int))) none).run P W = .ok (.slice A k c) W := by
  have ht' : P.underlying t = some (.slice (P.elem t)) := by simp [Program.elem, ht]
  have he : P.elem t = e := by simp [Program.elem, ht]
  rw [run_slice_h W t A n c ht' .i64 (k : Int) (by omega) (by omega), he, hz]
  have h0 : ∀ a : Addr, a.add 0 = a := fun a => by simp [Addr.add]
  cases A <;> simp [Result.andThen, sliced, h0]
theorem Byt.to {w : World} {S : Nat → Prop} {A : Option Addr} {n c k : Nat} {l : List UInt8} (h : Byt w S A n c l) (hk : k ≤ n) : Byt w S A k c (l.take k) :=
  ⟨by rw [List.length_take, h.len]; omega, by have := h.cap; omega, h.max, fun h0 => by
    obtain ⟨b, off, rfl, hB, hb, hc⟩ := h.row (by omega)
    refine ⟨b, off, rfl, hB, hb, fun i hi => ?_⟩
    rw [hc i (by omega), List.getElem?_take_of_lt hi]⟩
theorem rws_three {w : World} {S : Nat → Prop} {r1 r2 r3 : Option Addr × Nat × Nat} {l1 l2 l3 : List UInt8} (h1 : Byt w S r1.1 r1.2.1 r1.2.2 l1) (h2 : Byt w S r2.1 r2.2.1 r2.2.2 l2) (h3 : Byt w S r3.1 r3.2.1 r3.2.2 l3) :
    ∀ (i : Nat) (r : Option Addr × Nat × Nat), [r1, r2, r3][i]? = some r → Byt w S r.1 r.2.1 r.2.2 ([l1, l2, l3][i]?.getD []) := fun i r hr => by
  match i, hr with
  | 0, hr => simp at hr; subst hr; exact h1
  | 1, hr => simp at hr; subst hr; exact h2
  | 2, hr => simp at hr; subst hr; exact h3

set_option maxHeartbeats 4000000 in
set_option maxRecDepth 100000 in
theorem walk_cuts {w : World} {S : Nat → Prop} {A : Option Addr} {n c : Nat} {l : List UInt8} (h : Byt w S A n c l) {at_ : Int} (hat : (Lit.int .u16 at_).wf = true) (ht : Tab w) :
    Calls Tryd.prog 4 #[.slice A n c, .int .u16 at_] w fun e w' => e = .returned (.bool true) ∧ Below w.heap.size w w' := by
  have hb16 := bounds_u16 hat
  by_cases hn : n ≤ 500
  · obtain ⟨k, hk0⟩ : ∃ k : Nat, (k : Int) = at_ % ((n : Int) + 1) := ⟨(at_ % ((n : Int) + 1)).toNat, by have := Int.emod_nonneg at_ (show (n : Int) + 1 ≠ 0 by omega); omega⟩
    have hkn : k ≤ n := by have := Int.emod_lt_of_pos at_ (show 0 < (n : Int) + 1 by omega); omega
    have HK := Lib.hid (And.intro hkn (Nat.le_trans hkn h.cap))
    have hk := hk0.symm
    clear hk0
    have hlen := h.len
    obtain ⟨X, hX⟩ : ∃ X, X = (u8s (shaL l)).toArray := ⟨_, rfl⟩
    have hqq : ∀ w, (Op.equalIn 10000 26 (.agg X) (.agg X)).run Tryd.prog w = .ok true w := fun w => by
      rw [hX, id_eql _ _ (shaL_length l) (shaL_length l)]; simp
    have HX := Lib.hid hX
    go_enter Tryd.func4, Tryd.ntmps4
    go_wp2_with fail
    refine (awake_true ht).mono ?_
    rintro _ w1 ⟨rfl, hb1⟩
    have hs1 := byt_string (h.below hb1)
    have HB1 := Lib.hid hb1
    have HH := Lib.hid (And.intro (h.below hb1) (ht.below hb1))
    clear hX hb1 h ht
    go_wp2_with fail
    clear hs1
    simp only [hk]
    clear hk
    have HY : Hid (∀ W, Below w1.drew.heap.size w1.drew W → Byt W S A n c l ∧ Tab W) := Lib.hid fun W hW => ⟨HH.out.1.below (Grow.below_of_drew hW), HH.out.2.below (Grow.below_of_drew hW)⟩
    refine wp_region_grow (fun W W' => Below W.heap.size W W') (Grow.nth [fun v _ => v = .slice A n c, fun v _ => v = .int .i64 (k : Int), fun v _ => v = .slice A k c, fun v _ => v = .slice A n c, fun v _ => v = .int .i64 (k : Int), fun v _ => v = .slice (cutA A c k) (n - k) (c - k), fun v W => ∃ q, v = .slice (some ⟨q, 0, none⟩) 2 2 ∧ Rws W (fun _ => True) (some ⟨q, 0, none⟩) 2 2 [l.take k, l.drop k], fun v _ => v = .agg X, fun v _ => v = .slice A n c, fun v W => ∃ q, v = .slice (some ⟨q, 0, none⟩) 1 1 ∧ Rws W (fun _ => True) (some ⟨q, 0, none⟩) 1 1 [l], fun v _ => v = .agg X, fun v _ => v = .bool true, fun v _ => v = .bool true, fun v _ => v = .slice A n c, fun v W => ∃ q, v = .slice (some ⟨q, 0, none⟩) 3 3 ∧ Rws W (fun _ => True) (some ⟨q, 0, none⟩) 3 3 [[], l, []], fun v _ => v = .agg X, fun v _ => v = .slice A n c, fun v W => ∃ q, v = .slice (some ⟨q, 0, none⟩) 1 1 ∧ Rws W (fun _ => True) (some ⟨q, 0, none⟩) 1 1 [l], fun v _ => v = .agg X, fun v _ => v = .bool true, fun v _ => v = .bool true, fun v _ => v = .bool true, fun v _ => v = .slice A n c, fun v _ => v = .string ⟨l.toArray⟩, fun v _ => v = .string ⟨l.toArray⟩, fun v _ => v = .bool true, fun v _ => v = .bool true, fun v _ => v = .bool true]) 49 (by kernel_rfl) (by kernel_rfl) (by rfl) (fun W => Below.refl _ W) (fun _ _ _ h1 h2 => h1.trans (h2.mono h1.size)) (Grow.mono_nth ?gmono) ?gsteps ?gfin
    case gmono => exact ⟨fun _ _ _ h _ => h, fun _ _ _ h _ => h, fun _ _ _ h _ => h, fun _ _ _ h _ => h, fun _ _ _ h _ => h, fun _ _ _ h _ => h, fun _ _ _ ⟨q, h1, h2⟩ hg => ⟨q, h1, h2.below hg⟩, fun _ _ _ h _ => h, fun _ _ _ h _ => h, fun _ _ _ ⟨q, h1, h2⟩ hg => ⟨q, h1, h2.below hg⟩, fun _ _ _ h _ => h, fun _ _ _ h _ => h, fun _ _ _ h _ => h, fun _ _ _ h _ => h, fun _ _ _ ⟨q, h1, h2⟩ hg => ⟨q, h1, h2.below hg⟩, fun _ _ _ h _ => h, fun _ _ _ h _ => h, fun _ _ _ ⟨q, h1, h2⟩ hg => ⟨q, h1, h2.below hg⟩, fun _ _ _ h _ => h, fun _ _ _ h _ => h, fun _ _ _ h _ => h, fun _ _ _ h _ => h, fun _ _ _ h _ => h, fun _ _ _ h _ => h, fun _ _ _ h _ => h, fun _ _ _ h _ => h, fun _ _ _ h _ => h, fun _ _ _ h _ => h, trivial⟩
    case gsteps =>
      show Grow.allBelow _ 28
      refine And.intro ?_ ?s27
      refine And.intro ?_ ?s26
      refine And.intro ?_ ?s25
      refine And.intro ?_ ?s24
      refine And.intro ?_ ?s23
      refine And.intro ?_ ?s22
      refine And.intro ?_ ?s21
      refine And.intro ?_ ?s20
      refine And.intro ?_ ?s19
      refine And.intro ?_ ?s18
      refine And.intro ?_ ?s17
      refine And.intro ?_ ?s16
      refine And.intro ?_ ?s15
      refine And.intro ?_ ?s14
      refine And.intro ?_ ?s13
      refine And.intro ?_ ?s12
      refine And.intro ?_ ?s11
      refine And.intro ?_ ?s10
      refine And.intro ?_ ?s9
      refine And.intro ?_ ?s8
      refine And.intro ?_ ?s7
      refine And.intro ?_ ?s6
      refine And.intro ?_ ?s5
      refine And.intro ?_ ?s4
      refine And.intro ?_ ?s3
      refine And.intro ?_ ?s2
      refine And.intro ?_ ?s1
      refine And.intro ?_ ?s0
      exact trivial
      case s0 =>
        refine Grow.step_in (by rfl) (by rfl) ?_
        intro E W ec eg ef hG hd hu R HR
        have e0 : E (.tmp 0) = .slice A n c := hu 0 (by kernel_rfl)
        clear hd hu
        go_simp
        exact HR.out _ _ (Below.refl _ _) rfl
      case s1 =>
        refine Grow.step_in (by rfl) (by rfl) ?_
        intro E W ec eg ef hG hd hu R HR
        have e7 : E (.tmp 7) = .int .i64 (k : Int) := hu 7 (by kernel_rfl)
        clear hd hu
        go_simp
        exact HR.out _ _ (Below.refl _ _) rfl
      case s2 =>
        refine Grow.step_in (by rfl) (by rfl) ?_
        intro E W ec eg ef hG hd hu R HR
        have e22 : E (.tmp 22) = .slice A n c := hd 0 22 (by kernel_rfl)
        have e23 : E (.tmp 23) = .int .i64 (k : Int) := hd 1 23 (by kernel_rfl)
        clear hd hu
        have hr := run_to (P := Tryd.prog) 24 5 Tryd.underlying24 u8_size A n c k HK.out.2
        go_simp
        exact HR.out _ _ (Below.refl _ _) rfl
      case s3 =>
        refine Grow.step_in (by rfl) (by rfl) ?_
        intro E W ec eg ef hG hd hu R HR
        have e0 : E (.tmp 0) = .slice A n c := hu 0 (by kernel_rfl)
        clear hd hu
        go_simp
        exact HR.out _ _ (Below.refl _ _) rfl
      case s4 =>
        refine Grow.step_in (by rfl) (by rfl) ?_
        intro E W ec eg ef hG hd hu R HR
        have e7 : E (.tmp 7) = .int .i64 (k : Int) := hu 7 (by kernel_rfl)
        clear hd hu
        go_simp
        exact HR.out _ _ (Below.refl _ _) rfl
      case s5 =>
        refine Grow.step_in (by rfl) (by rfl) ?_
        intro E W ec eg ef hG hd hu R HR
        have e25 : E (.tmp 25) = .slice A n c := hd 3 25 (by kernel_rfl)
        have e26 : E (.tmp 26) = .int .i64 (k : Int) := hd 4 26 (by kernel_rfl)
        clear hd hu
        have hr := run_cut (P := Tryd.prog) 24 5 Tryd.underlying24 u8_size A n c k HK.out.1
        go_simp
        exact HR.out _ _ (Below.refl _ _) rfl
      case s6 =>
        refine Grow.step_in (by rfl) (by rfl) ?_
        intro E W ec eg ef hG hd hu R HR
        have e24 : E (.tmp 24) = .slice A k c := hd 2 24 (by kernel_rfl)
        have e27 : E (.tmp 27) = .slice (cutA A c k) (n - k) (c - k) := hd 5 27 (by kernel_rfl)
        clear hd hu
        go_simp
        exact HR.out _ _ ((Below.refl _ _).alloc (Nat.le_refl _) _) ⟨W.heap.size, rfl, rws_two ((HY.out W hG).1.to HK.out.1) ((HY.out W hG).1.cut HK.out.1)⟩
      case s7 =>
        refine Grow.step_in (by rfl) (by rfl) ?_
        intro E W ec eg ef hG hd hu R HR
        have h28 := hd 6 28 (by kernel_rfl)
        clear hd hu
        obtain ⟨q, eq, hR⟩ := h28
        go_simp
        refine (of_any hR (HY.out W hG).2 (by simp; omega)).mono ?_
        rintro _ w' ⟨rfl, hb⟩
        exact ⟨_, rfl, HR.out _ _ hb (show _ = _ by rw [HX.out, show [l.take k, l.drop k].flatten = l by simp])⟩
      case s8 =>
        refine Grow.step_in (by rfl) (by rfl) ?_
        intro E W ec eg ef hG hd hu R HR
        have e0 : E (.tmp 0) = .slice A n c := hu 0 (by kernel_rfl)
        clear hd hu
        go_simp
        exact HR.out _ _ (Below.refl _ _) rfl
      case s9 =>
        refine Grow.step_in (by rfl) (by rfl) ?_
        intro E W ec eg ef hG hd hu R HR
        have e30 : E (.tmp 30) = .slice A n c := hd 8 30 (by kernel_rfl)
        clear hd hu
        go_simp
        exact HR.out _ _ ((Below.refl _ _).alloc (Nat.le_refl _) _) ⟨W.heap.size, rfl, rws_one (HY.out W hG).1⟩
      case s10 =>
        refine Grow.step_in (by rfl) (by rfl) ?_
        intro E W ec eg ef hG hd hu R HR
        have h31 := hd 9 31 (by kernel_rfl)
        clear hd hu
        obtain ⟨q, eq, hR⟩ := h31
        go_simp
        refine (of_any hR (HY.out W hG).2 (by simp; omega)).mono ?_
        rintro _ w' ⟨rfl, hb⟩
        exact ⟨_, rfl, HR.out _ _ hb (show _ = _ by rw [HX.out, show [l].flatten = l by simp])⟩
      case s11 =>
        refine Grow.step_in (by rfl) (by rfl) ?_
        intro E W ec eg ef hG hd hu R HR
        have e29 : E (.tmp 29) = .agg X := hd 7 29 (by kernel_rfl)
        have e32 : E (.tmp 32) = .agg X := hd 10 32 (by kernel_rfl)
        clear hd hu
        have hq := hqq
        go_simp
        exact HR.out _ _ (Below.refl _ _) rfl
      case s12 =>
        refine Grow.step_in (by rfl) (by rfl) ?_
        intro E W ec eg ef hG hd hu R HR
        have e33 : E (.tmp 33) = .bool true := hd 11 33 (by kernel_rfl)
        clear hd hu
        go_simp
        exact HR.out _ _ (Below.refl _ _) rfl
      case s13 =>
        refine Grow.step_on (g := 12) (b := true) (d := 34) (by rfl) (by rfl) (by rfl) (by kernel_rfl) (fun v W h => h) ?_
        intro E W ec eg ef hG hd hu R HR
        have e0 : E (.tmp 0) = .slice A n c := hu 0 (by kernel_rfl)
        clear hd hu
        go_simp
        exact HR.out _ _ (Below.refl _ _) rfl
      case s14 =>
        refine Grow.step_on (g := 12) (b := true) (d := 34) (by rfl) (by rfl) (by rfl) (by kernel_rfl) (fun v W h => h) ?_
        intro E W ec eg ef hG hd hu R HR
        have e35 : E (.tmp 35) = .slice A n c := hd 13 35 (by kernel_rfl)
        clear hd hu
        go_simp
        exact HR.out _ _ ((Below.refl _ _).alloc (Nat.le_refl _) _) ⟨W.heap.size, rfl, rws_new [(none, 0, 0), (A, n, c), (none, 0, 0)] [[], l, []] rfl (by simp) (rws_three (Byt.nil _ _ _ _ (Nat.zero_le _)) (HY.out W hG).1 (Byt.nil _ _ _ _ (Nat.zero_le _)))⟩
      case s15 =>
        refine Grow.step_on (g := 12) (b := true) (d := 34) (by rfl) (by rfl) (by rfl) (by kernel_rfl) (fun v W h => h) ?_
        intro E W ec eg ef hG hd hu R HR
        have h36 := hd 14 36 (by kernel_rfl)
        clear hd hu
        obtain ⟨q, eq, hR⟩ := h36
        go_simp
        refine (of_any hR (HY.out W hG).2 (by simp; omega)).mono ?_
        rintro _ w' ⟨rfl, hb⟩
        exact ⟨_, rfl, HR.out _ _ hb (show _ = _ by rw [HX.out, show [[], l, []].flatten = l by simp])⟩
      case s16 =>
        refine Grow.step_on (g := 12) (b := true) (d := 34) (by rfl) (by rfl) (by rfl) (by kernel_rfl) (fun v W h => h) ?_
        intro E W ec eg ef hG hd hu R HR
        have e0 : E (.tmp 0) = .slice A n c := hu 0 (by kernel_rfl)
        clear hd hu
        go_simp
        exact HR.out _ _ (Below.refl _ _) rfl
      case s17 =>
        refine Grow.step_on (g := 12) (b := true) (d := 34) (by rfl) (by rfl) (by rfl) (by kernel_rfl) (fun v W h => h) ?_
        intro E W ec eg ef hG hd hu R HR
        have e38 : E (.tmp 38) = .slice A n c := hd 16 38 (by kernel_rfl)
        clear hd hu
        go_simp
        exact HR.out _ _ ((Below.refl _ _).alloc (Nat.le_refl _) _) ⟨W.heap.size, rfl, rws_one (HY.out W hG).1⟩
      case s18 =>
        refine Grow.step_on (g := 12) (b := true) (d := 34) (by rfl) (by rfl) (by rfl) (by kernel_rfl) (fun v W h => h) ?_
        intro E W ec eg ef hG hd hu R HR
        have h39 := hd 17 39 (by kernel_rfl)
        clear hd hu
        obtain ⟨q, eq, hR⟩ := h39
        go_simp
        refine (of_any hR (HY.out W hG).2 (by simp; omega)).mono ?_
        rintro _ w' ⟨rfl, hb⟩
        exact ⟨_, rfl, HR.out _ _ hb (show _ = _ by rw [HX.out, show [l].flatten = l by simp])⟩
      case s19 =>
        refine Grow.step_on (g := 12) (b := true) (d := 34) (by rfl) (by rfl) (by rfl) (by kernel_rfl) (fun v W h => h) ?_
        intro E W ec eg ef hG hd hu R HR
        have e37 : E (.tmp 37) = .agg X := hd 15 37 (by kernel_rfl)
        have e40 : E (.tmp 40) = .agg X := hd 18 40 (by kernel_rfl)
        clear hd hu
        have hq := hqq
        go_simp
        exact HR.out _ _ (Below.refl _ _) rfl
      case s20 =>
        refine Grow.step_in (by rfl) (by rfl) ?_
        intro E W ec eg ef hG hd hu R HR
        have e34 : E (.tmp 34) = .bool true := hd 12 34 (by kernel_rfl)
        have e41 : E (.tmp 41) = .bool true := hd 19 41 (by kernel_rfl)
        clear hd hu
        go_simp
        exact HR.out _ _ (Below.refl _ _) rfl
      case s21 =>
        refine Grow.step_in (by rfl) (by rfl) ?_
        intro E W ec eg ef hG hd hu R HR
        have e42 : E (.tmp 42) = .bool true := hd 20 42 (by kernel_rfl)
        clear hd hu
        go_simp
        exact HR.out _ _ (Below.refl _ _) rfl
      case s22 =>
        refine Grow.step_on (g := 21) (b := true) (d := 43) (by rfl) (by rfl) (by rfl) (by kernel_rfl) (fun v W h => h) ?_
        intro E W ec eg ef hG hd hu R HR
        have e0 : E (.tmp 0) = .slice A n c := hu 0 (by kernel_rfl)
        clear hd hu
        go_simp
        exact HR.out _ _ (Below.refl _ _) rfl
      case s23 =>
        refine Grow.step_on (g := 21) (b := true) (d := 43) (by rfl) (by rfl) (by rfl) (by kernel_rfl) (fun v W h => h) ?_
        intro E W ec eg ef hG hd hu R HR
        have e44 : E (.tmp 44) = .slice A n c := hd 22 44 (by kernel_rfl)
        clear hd hu
        have hs := byt_string (HY.out W hG).1
        go_simp
        exact HR.out _ _ (Below.refl _ _) rfl
      case s24 =>
        refine Grow.step_on (g := 21) (b := true) (d := 43) (by rfl) (by rfl) (by rfl) (by kernel_rfl) (fun v W h => h) ?_
        intro E W ec eg ef hG hd hu R HR
        have e6 : E (.tmp 6) = .string ⟨l.toArray⟩ := hu 6 (by kernel_rfl)
        clear hd hu
        go_simp
        exact HR.out _ _ (Below.refl _ _) rfl
      case s25 =>
        refine Grow.step_on (g := 21) (b := true) (d := 43) (by rfl) (by rfl) (by rfl) (by kernel_rfl) (fun v W h => h) ?_
        intro E W ec eg ef hG hd hu R HR
        have e45 : E (.tmp 45) = .string ⟨l.toArray⟩ := hd 23 45 (by kernel_rfl)
        have e46 : E (.tmp 46) = .string ⟨l.toArray⟩ := hd 24 46 (by kernel_rfl)
        clear hd hu
        go_simp
        exact HR.out _ _ (Below.refl _ _) rfl
      case s26 =>
        refine Grow.step_in (by rfl) (by rfl) ?_
        intro E W ec eg ef hG hd hu R HR
        have e43 : E (.tmp 43) = .bool true := hd 21 43 (by kernel_rfl)
        have e47 : E (.tmp 47) = .bool true := hd 25 47 (by kernel_rfl)
        clear hd hu
        go_simp
        exact HR.out _ _ (Below.refl _ _) rfl
      case s27 =>
        refine Grow.step_in (by rfl) (by rfl) ?_
        intro E W ec eg ef hG hd hu R HR
        have e48 : E (.tmp 48) = .bool true := hd 26 48 (by kernel_rfl)
        clear hd hu
        go_simp
        exact HR.out _ _ (Below.refl _ _) rfl
    case gfin =>
      intro W hG
      refine Grow.fin_dst (by rfl) ?_
      rintro _ rfl
      refine Grow.fin_dst (by rfl) ?_
      rintro _ rfl
      refine Grow.fin_dst (by rfl) ?_
      rintro _ rfl
      refine Grow.fin_dst (by rfl) ?_
      rintro _ rfl
      refine Grow.fin_dst (by rfl) ?_
      rintro _ rfl
      refine Grow.fin_dst (by rfl) ?_
      rintro _ rfl
      refine Grow.fin_dst (by rfl) ?_
      rintro _ ⟨_, rfl, _⟩
      refine Grow.fin_dst (by rfl) ?_
      rintro _ rfl
      refine Grow.fin_dst (by rfl) ?_
      rintro _ rfl
      refine Grow.fin_dst (by rfl) ?_
      rintro _ ⟨_, rfl, _⟩
      refine Grow.fin_dst (by rfl) ?_
      rintro _ rfl
      refine Grow.fin_dst (by rfl) ?_
      rintro _ rfl
      refine Grow.fin_dst (by rfl) ?_
      rintro _ rfl
      refine Grow.fin_dst (by rfl) ?_
      rintro _ rfl
      refine Grow.fin_dst (by rfl) ?_
      rintro _ ⟨_, rfl, _⟩
      refine Grow.fin_dst (by rfl) ?_
      rintro _ rfl
      refine Grow.fin_dst (by rfl) ?_
      rintro _ rfl
      refine Grow.fin_dst (by rfl) ?_
      rintro _ ⟨_, rfl, _⟩
      refine Grow.fin_dst (by rfl) ?_
      rintro _ rfl
      refine Grow.fin_dst (by rfl) ?_
      rintro _ rfl
      refine Grow.fin_dst (by rfl) ?_
      rintro _ rfl
      refine Grow.fin_dst (by rfl) ?_
      rintro _ rfl
      refine Grow.fin_dst (by rfl) ?_
      rintro _ rfl
      refine Grow.fin_dst (by rfl) ?_
      rintro _ rfl
      refine Grow.fin_dst (by rfl) ?_
      rintro _ rfl
      refine Grow.fin_dst (by rfl) ?_
      rintro _ rfl
      refine Grow.fin_dst (by rfl) ?_
      rintro _ rfl
      refine Grow.fin_dst (by rfl) ?_
      rintro _ rfl
      simp only [Act.put, List.setIfInBounds_toArray, List.set_cons_zero, List.set_cons_succ]
      refine Grow.fin_end ?_
      have HBW := Lib.hid (HB1.out.trans ((Grow.below_of_drew hG).mono HB1.out.size))
      clear hG
      go_wp2_with fail
      go_ret
      exact ⟨rfl, HBW.out⟩
  · go_enter Tryd.func4, Tryd.ntmps4
    go_wp2_with (go_at_call 9; refine (awake_true ht).mono ?_; rintro _ w1 ⟨rfl, hb1⟩)
    go_ret
    exact ⟨rfl, hb1⟩
end Go.Proofs.YtjingbichgpfaaaDoor
