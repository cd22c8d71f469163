/-
  The reference's Same, of two ways that are the same.
-/
import Derived.Test.YtebhlfmianohlaaDoorProofRefRow
import Derived.Test.YtebhlfmianohlaaDoorProofRows
import Derived.Test.YtebhlfmianohlaaDoorGrow
namespace Go.Proofs.YtebhlfmianohlaaDoor
open Go.RowKit

def RSm (w : World) (n : Nat) (i : Value) (wr : World) : Prop := ∃ j : Nat, j ≤ n ∧ i = .int .i64 (j : Int) ∧ Below w.heap.size w wr

set_option maxHeartbeats 4000000 in
set_option maxRecDepth 100000 in
theorem rsame_any {w : World} {S T : Nat → Prop} {A B : Option Addr} {n c d : Nat} {l : List (List UInt8)} (h : Ids w S A n c l) (h2 : Ids w T B n d l) :
    Calls Tryd.prog 16 #[.slice A n c, .slice B n d] w fun e w' => e = .returned (.bool true) ∧ Below w.heap.size w w' := by
  have hmax := h.max
  have hcap := h.cap
  have HH := Lib.hid (And.intro h h2)
  clear h h2
  go_enter Tryd.func16, Tryd.ntmps16
  go_wp2_with fail
  go_loopw [5] (fun i wr => RSm w n i wr) (fun i _ => n - (intOf i).toNat)
  case atStart => unfold RSm; exact ⟨0, Nat.zero_le _, rfl, Below.refl _ _⟩
  case round =>
    obtain ⟨j, hj, rfl, hbr⟩ := hrel
    have HBR := Lib.hid hbr
    clear hbr
    by_cases hlt : j < n
    · obtain ⟨b1, o1, rfl, _⟩ := HH.out.1.row (by omega)
      obtain ⟨b2, o2, rfl, _⟩ := HH.out.2.row (by omega)
      obtain ⟨X, hX⟩ : ∃ X, X = l[j]?.getD [] := ⟨_, rfl⟩
      obtain ⟨XS, hXS⟩ : ∃ XS, XS = row8 (l[j]?.getD []) := ⟨_, rfl⟩
      have h32 : (l[j]?.getD []).length = 32 := get32 HH.out.1.each (by rw [HH.out.1.len]; exact hlt)
      have hq := id_eql _ _ h32 h32
      rw [show (u8s (l[j]?.getD [])).toArray = XS from hXS.symm, decide_eq_true rfl] at hq
      have HX := Lib.hid (And.intro hXS hq)
      have HD : Hid (Ids wr.drew S (some ⟨b1, o1, none⟩) n c l ∧ Ids wr.drew T (some ⟨b2, o2, none⟩) n d l) := Lib.hid ⟨(HH.out.1.below HBR.out).drew, (HH.out.2.below HBR.out).drew⟩
      have hw1 := IntWalk.i64_in ((j : Int) + 1) (by unfold maxLen at hmax; omega)
      clear hX hXS h32 hq
      go_wp2_with fail
      refine wp_region_grow (fun W W' => Below W.heap.size W W') (Grow.nth [fun v _ => v = .slice (some ⟨b1, o1, none⟩) n c, fun v _ => v = .int .i64 (j : Int), fun v _ => v = .pointer (some ⟨b1, o1 + j * 32, none⟩), fun v _ => v = .agg XS, fun v _ => v = .slice (some ⟨b2, o2, none⟩) n d, fun v _ => v = .int .i64 (j : Int), fun v _ => v = .pointer (some ⟨b2, o2 + j * 32, none⟩), fun v _ => v = .agg XS, fun v _ => v = .bool false]) 26 (by kernel_rfl) (by kernel_rfl) (by rfl) (fun W => Below.refl _ W) (fun _ _ _ h1 h2 => h1.trans (h2.mono h1.size)) (Grow.mono_nth ?gmono) ?gsteps ?gfin
      case gmono => exact ⟨fun _ _ _ h _ => h, fun _ _ _ h _ => h, fun _ _ _ h _ => h, fun _ _ _ h _ => h, fun _ _ _ h _ => h, fun _ _ _ h _ => h, fun _ _ _ h _ => h, fun _ _ _ h _ => h, fun _ _ _ h _ => h, trivial⟩
      case gsteps =>
        show Grow.allBelow _ 9
        refine And.intro ?_ ?s8
        refine And.intro ?_ ?s7
        refine And.intro ?_ ?s6
        refine And.intro ?_ ?s5
        refine And.intro ?_ ?s4
        refine And.intro ?_ ?s3
        refine And.intro ?_ ?s2
        refine And.intro ?_ ?s1
        refine And.intro ?_ ?s0
        exact trivial
        case s0 =>
          refine Grow.step_in (by rfl) (by rfl) ?_
          intro E W ec eg ef hG hd hu R HR
          have e0 : E (.tmp 0) = .slice (some ⟨b1, o1, none⟩) n c := hu 0 (by kernel_rfl)
          clear hd hu
          go_simp
          exact HR.out _ _ (Below.refl _ _) rfl
        case s1 =>
          refine Grow.step_in (by rfl) (by rfl) ?_
          intro E W ec eg ef hG hd hu R HR
          have e5 : E (.tmp 5) = .int .i64 (j : Int) := hu 5 (by kernel_rfl)
          clear hd hu
          go_simp
          exact HR.out _ _ (Below.refl _ _) rfl
        case s2 =>
          refine Grow.step_in (by rfl) (by rfl) ?_
          intro E W ec eg ef hG hd hu R HR
          have e17 : E (.tmp 17) = .slice (some ⟨b1, o1, none⟩) n c := hd 0 17 (by kernel_rfl)
          have e18 : E (.tmp 18) = .int .i64 (j : Int) := hd 1 18 (by kernel_rfl)
          clear hd hu
          go_simp
          first | exact HR.out _ _ (Below.refl _ _) rfl | (rw [if_pos ⟨by omega, by omega⟩]; exact HR.out _ _ (Below.refl _ _) rfl) | (rw [if_pos (by omega)]; exact HR.out _ _ (Below.refl _ _) rfl)
        case s3 =>
          refine Grow.step_in (by rfl) (by rfl) ?_
          intro E W ec eg ef hG hd hu R HR
          have e19 : E (.tmp 19) = .pointer (some ⟨b1, o1 + j * 32, none⟩) := hd 2 19 (by kernel_rfl)
          clear hd hu
          exact runs_load_id (.tmp 19) rfl (HD.out.1.below hG) j hlt XS HX.out.1 _ rfl e19 (HR.out _ _ (Below.refl _ _) rfl)
        case s4 =>
          refine Grow.step_in (by rfl) (by rfl) ?_
          intro E W ec eg ef hG hd hu R HR
          have e1 : E (.tmp 1) = .slice (some ⟨b2, o2, none⟩) n d := hu 1 (by kernel_rfl)
          clear hd hu
          go_simp
          exact HR.out _ _ (Below.refl _ _) rfl
        case s5 =>
          refine Grow.step_in (by rfl) (by rfl) ?_
          intro E W ec eg ef hG hd hu R HR
          have e5 : E (.tmp 5) = .int .i64 (j : Int) := hu 5 (by kernel_rfl)
          clear hd hu
          go_simp
          exact HR.out _ _ (Below.refl _ _) rfl
        case s6 =>
          refine Grow.step_in (by rfl) (by rfl) ?_
          intro E W ec eg ef hG hd hu R HR
          have e21 : E (.tmp 21) = .slice (some ⟨b2, o2, none⟩) n d := hd 4 21 (by kernel_rfl)
          have e22 : E (.tmp 22) = .int .i64 (j : Int) := hd 5 22 (by kernel_rfl)
          clear hd hu
          go_simp
          first | exact HR.out _ _ (Below.refl _ _) rfl | (rw [if_pos ⟨by omega, by omega⟩]; exact HR.out _ _ (Below.refl _ _) rfl) | (rw [if_pos (by omega)]; exact HR.out _ _ (Below.refl _ _) rfl)
        case s7 =>
          refine Grow.step_in (by rfl) (by rfl) ?_
          intro E W ec eg ef hG hd hu R HR
          have e23 : E (.tmp 23) = .pointer (some ⟨b2, o2 + j * 32, none⟩) := hd 6 23 (by kernel_rfl)
          clear hd hu
          exact runs_load_id (.tmp 23) rfl (HD.out.2.below hG) j hlt XS HX.out.1 _ rfl e23 (HR.out _ _ (Below.refl _ _) rfl)
        case s8 =>
          refine Grow.step_in (by rfl) (by rfl) ?_
          intro E W ec eg ef hG hd hu R HR
          have e20 : E (.tmp 20) = .agg XS := hd 3 20 (by kernel_rfl)
          have e24 : E (.tmp 24) = .agg XS := hd 7 24 (by kernel_rfl)
          clear hd hu
          have hq := HX.out.2
          go_simp
          exact HR.out _ _ (Below.refl _ _) rfl
      case gfin =>
        intro W hG
        refine Grow.fin_dst (by rfl) ?_
        rintro _ rfl
        refine Grow.fin_dst (by rfl) ?_
        rintro _ rfl
        refine Grow.fin_dst (by rfl) ?_
        rintro _ rfl
        refine Grow.fin_dst (by rfl) ?_
        rintro _ rfl
        refine Grow.fin_dst (by rfl) ?_
        rintro _ rfl
        refine Grow.fin_dst (by rfl) ?_
        rintro _ rfl
        refine Grow.fin_dst (by rfl) ?_
        rintro _ rfl
        refine Grow.fin_dst (by rfl) ?_
        rintro _ rfl
        refine Grow.fin_dst (by rfl) ?_
        rintro _ rfl
        simp only [Act.put, List.setIfInBounds_toArray, List.set_cons_zero, List.set_cons_succ]
        refine Grow.fin_end ?_
        have HB3 : Hid (Below w.heap.size w W) := Lib.hid (HBR.out.trans ((Grow.below_of_drew hG).mono HBR.out.size))
        clear hG
        go_wp2_with fail
        go_roundw
        case rel => unfold RSm; exact ⟨j + 1, by omega, by go_num, HB3.out⟩
        case measure => simp [intOf]; omega
    · obtain rfl : n = j := by omega
      clear hlt hj
      go_wp2_with fail
      go_ret
      exact ⟨rfl, HBR.out⟩
end Go.Proofs.YtebhlfmianohlaaDoor
