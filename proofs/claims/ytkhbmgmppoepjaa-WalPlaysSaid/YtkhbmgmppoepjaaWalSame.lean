/-
  same: are rows the document's?
-/
import Derived.Test.YtkhbmgmppoepjaaStrs
import Derived.Test.YtkhbmgmppoepjaaGrow
namespace Go.Proofs.Ytkhbmgmppoepjaa
open Go.RowKit

def RSm (w0 : World) (ls ms : List (List UInt8)) (i : Value) (wr : World) : Prop :=
  ∃ i' : Nat, i' ≤ ls.length ∧ i = .int .i64 (i' : Int) ∧ ls.take i' = ms.take i' ∧ Below w0.heap.size w0 wr
theorem take_same {ls ms : List (List UInt8)} {i : Nat} (h : ls.take i = ms.take i) (h1 : i < ls.length) (h2 : i < ms.length) (e : ls[i]?.getD [] = ms[i]?.getD []) : ls.take (i + 1) = ms.take (i + 1) := by
  rw [List.getElem?_eq_getElem h1, List.getElem?_eq_getElem h2] at e
  rw [List.take_succ_eq_append_getElem h1, List.take_succ_eq_append_getElem h2, h]
  simp only [Option.getD_some] at e
  rw [e]
theorem rows_unlike {ls ms : List (List UInt8)} {i : Nat} (e : ls[i]?.getD [] ≠ ms[i]?.getD []) : ls ≠ ms := fun h => e (by rw [h])
set_option maxHeartbeats 4000000 in
set_option maxRecDepth 100000 in
theorem same_any {w : World} {S T : Nat → Prop} {A A2 : Option Addr} {n c n2 c2 : Nat} {ls ms : List (List UInt8)} (h : Rws w S A n c ls) (h2 : Strs w T A2 n2 c2 ms) (hn : n ≤ 1000000) :
    Calls Try.prog 25 #[.slice A n c, .slice A2 n2 c2] w fun e w' => e = .returned (.bool (decide (ls = ms))) ∧ Below w.heap.size w w' := by
  have hl1 := h.len
  have hl2 := h2.len
  by_cases hnn : n = n2
  · subst hnn
    have H := Lib.hid (And.intro h (And.intro h2 (And.intro hl1 (And.intro hl2 hn))))
    clear h h2 hl1 hl2 hn
    go_enter Try.func25, Try.ntmps25
    go_wp2_with fail
    go_loopw [5] (fun i wr => RSm w ls ms i wr) (fun i _ => n - (intOf i).toNat)
    case atStart => exact ⟨0, Nat.zero_le _, rfl, rfl, Below.refl _ _⟩
    case round =>
      obtain ⟨i', hi', rfl, htk, hbr⟩ := hrel
      have HR := Lib.hid (And.intro hbr (And.intro htk hi'))
      clear hbr htk hi'
      by_cases hlt : i' < n
      · have hlt' : (i' : Int) < (n : Int) := by omega
        have hadd := IntWalk.i64_in ((i' : Int) + 1) (by have h1 := H.out.2.2.2.2; omega)
        obtain ⟨q, o, rfl, _, hq, hc⟩ := (H.out.1.below HR.out.1).row (by omega)
        obtain ⟨Ai, ni, ci, hci, hyi⟩ := hc i' hlt
        obtain ⟨q2, o2, rfl, _, hq2, hst⟩ := (H.out.2.1.below HR.out.1).row (by omega)
        have hsc := hst i' hlt
        have HC : Hid (∀ W, Below wr.drew.heap.size wr.drew W → W.cell? ⟨q, o + i', none⟩ = some (.slice Ai ni ci) ∧ W.cell? ⟨q2, o2 + i', none⟩ = some (.string (st (ms[i']?.getD []))) ∧ (convert 41 9 (.slice Ai ni ci)).run Try.prog W = .ok (.string (st (ls[i']?.getD []))) W) := Lib.hid fun W hW => by
          have hW2 : Below wr.heap.size wr W := Grow.below_of_drew hW
          exact ⟨(hW2.cell (p := ⟨_, _, none⟩) hq).trans hci, (hW2.cell (p := ⟨_, _, none⟩) hq2).trans hsc, byt_string (hyi.below hW2)⟩
        clear hc hst hci hsc hyi hq hq2
        go_upto_region 6 with fail
        obtain ⟨X, hX⟩ : ∃ X, X = ls[i']?.getD [] := ⟨_, rfl⟩
        obtain ⟨Y, hY⟩ : ∃ Y, Y = ms[i']?.getD [] := ⟨_, rfl⟩
        rw [← hX, ← hY] at HC
        have HXY := Lib.hid (And.intro hX hY)
        clear hX hY
        have hbq := st_beq X Y
        by_cases he : X = Y
        · rw [decide_eq_true he] at hbq
          have HEQ := Lib.hid he
          clear he
          refine wp_region_grow (fun W W' => Below W.heap.size W W') (Grow.nth [fun v _ => v = .slice (some ⟨q, o, none⟩) n c, fun v _ => v = .int .i64 (i' : Int), fun v _ => v = .pointer (some ⟨q, o + i', none⟩), fun v _ => v = .slice Ai ni ci, fun v _ => v = .string (st X), fun v _ => v = .slice (some ⟨q2, o2, none⟩) n c2, fun v _ => v = .int .i64 (i' : Int), fun v _ => v = .pointer (some ⟨q2, o2 + i', none⟩), fun v _ => v = .string (st Y), fun v _ => v = .bool false]) 27 (by kernel_rfl) (by kernel_rfl) (by rfl) (fun W => Below.refl _ W) (fun _ _ _ h1 h2 => h1.trans (h2.mono h1.size)) (Grow.mono_nth ?gmono) ?gsteps ?gfin
          case gmono => exact ⟨fun _ _ _ h _ => h, fun _ _ _ h _ => h, fun _ _ _ h _ => h, fun _ _ _ h _ => h, fun _ _ _ h _ => h, fun _ _ _ h _ => h, fun _ _ _ h _ => h, fun _ _ _ h _ => h, fun _ _ _ h _ => h, fun _ _ _ h _ => h, trivial⟩
          case gsteps =>
            show Grow.allBelow _ 10
            refine And.intro ?_ ?s9
            refine And.intro ?_ ?s8
            refine And.intro ?_ ?s7
            refine And.intro ?_ ?s6
            refine And.intro ?_ ?s5
            refine And.intro ?_ ?s4
            refine And.intro ?_ ?s3
            refine And.intro ?_ ?s2
            refine And.intro ?_ ?s1
            refine And.intro ?_ ?s0
            exact trivial
            case s0 =>
              refine Grow.step_in (by rfl) (by rfl) ?_
              intro E W ec eg ef hG hd hu R HR1
              have e0 : E (.tmp 0) = .slice (some ⟨q, o, none⟩) n c := hu 0 (by kernel_rfl)
              clear hd hu
              go_simp
              exact HR1.out _ _ (Below.refl _ _) rfl
            case s1 =>
              refine Grow.step_in (by rfl) (by rfl) ?_
              intro E W ec eg ef hG hd hu R HR1
              have e5 : E (.tmp 5) = .int .i64 (i' : Int) := hu 5 (by kernel_rfl)
              clear hd hu
              go_simp
              exact HR1.out _ _ (Below.refl _ _) rfl
            case s2 =>
              refine Grow.step_in (by rfl) (by rfl) ?_
              intro E W ec eg ef hG hd hu R HR1
              have e17 : E (.tmp 17) = .slice (some ⟨q, o, none⟩) n c := hd 0 17 (by kernel_rfl)
              have e18 : E (.tmp 18) = .int .i64 (i' : Int) := hd 1 18 (by kernel_rfl)
              clear hd hu
              go_simp
              first | exact HR1.out _ _ (Below.refl _ _) rfl | (rw [if_pos ⟨by omega, by omega⟩]; exact HR1.out _ _ (Below.refl _ _) rfl) | (rw [if_pos (by omega)]; exact HR1.out _ _ (Below.refl _ _) rfl)
            case s3 =>
              refine Grow.step_in (by rfl) (by rfl) ?_
              intro E W ec eg ef hG hd hu R HR1
              have e19 : E (.tmp 19) = .pointer (some ⟨q, o + i', none⟩) := hd 2 19 (by kernel_rfl)
              clear hd hu
              obtain ⟨k1, k2, k3⟩ := HC.out W hG
              go_simp
              first | exact HR1.out _ _ (Below.refl _ _) rfl | (rw [if_pos ⟨by omega, by omega⟩]; exact HR1.out _ _ (Below.refl _ _) rfl)
            case s4 =>
              refine Grow.step_in (by rfl) (by rfl) ?_
              intro E W ec eg ef hG hd hu R HR1
              have e20 : E (.tmp 20) = .slice Ai ni ci := hd 3 20 (by kernel_rfl)
              clear hd hu
              obtain ⟨k1, k2, k3⟩ := HC.out W hG
              go_simp
              first | exact HR1.out _ _ (Below.refl _ _) rfl | (rw [if_pos ⟨by omega, by omega⟩]; exact HR1.out _ _ (Below.refl _ _) rfl)
            case s5 =>
              refine Grow.step_in (by rfl) (by rfl) ?_
              intro E W ec eg ef hG hd hu R HR1
              have e1 : E (.tmp 1) = .slice (some ⟨q2, o2, none⟩) n c2 := hu 1 (by kernel_rfl)
              clear hd hu
              go_simp
              exact HR1.out _ _ (Below.refl _ _) rfl
            case s6 =>
              refine Grow.step_in (by rfl) (by rfl) ?_
              intro E W ec eg ef hG hd hu R HR1
              have e5 : E (.tmp 5) = .int .i64 (i' : Int) := hu 5 (by kernel_rfl)
              clear hd hu
              go_simp
              exact HR1.out _ _ (Below.refl _ _) rfl
            case s7 =>
              refine Grow.step_in (by rfl) (by rfl) ?_
              intro E W ec eg ef hG hd hu R HR1
              have e22 : E (.tmp 22) = .slice (some ⟨q2, o2, none⟩) n c2 := hd 5 22 (by kernel_rfl)
              have e23 : E (.tmp 23) = .int .i64 (i' : Int) := hd 6 23 (by kernel_rfl)
              clear hd hu
              go_simp
              first | exact HR1.out _ _ (Below.refl _ _) rfl | (rw [if_pos ⟨by omega, by omega⟩]; exact HR1.out _ _ (Below.refl _ _) rfl) | (rw [if_pos (by omega)]; exact HR1.out _ _ (Below.refl _ _) rfl)
            case s8 =>
              refine Grow.step_in (by rfl) (by rfl) ?_
              intro E W ec eg ef hG hd hu R HR1
              have e24 : E (.tmp 24) = .pointer (some ⟨q2, o2 + i', none⟩) := hd 7 24 (by kernel_rfl)
              clear hd hu
              obtain ⟨k1, k2, k3⟩ := HC.out W hG
              go_simp
              first | exact HR1.out _ _ (Below.refl _ _) rfl | (rw [if_pos ⟨by omega, by omega⟩]; exact HR1.out _ _ (Below.refl _ _) rfl)
            case s9 =>
              refine Grow.step_in (by rfl) (by rfl) ?_
              intro E W ec eg ef hG hd hu R HR1
              have e21 : E (.tmp 21) = .string (st X) := hd 4 21 (by kernel_rfl)
              have e25 : E (.tmp 25) = .string (st Y) := hd 8 25 (by kernel_rfl)
              clear hd hu
              go_simp
              exact HR1.out _ _ (Below.refl _ _) rfl
          case gfin =>
            intro W hG
            refine Grow.fin_dst (by rfl) ?_
            rintro _ rfl
            refine Grow.fin_dst (by rfl) ?_
            rintro _ rfl
            refine Grow.fin_dst (by rfl) ?_
            rintro _ rfl
            refine Grow.fin_dst (by rfl) ?_
            rintro _ rfl
            refine Grow.fin_dst (by rfl) ?_
            rintro _ rfl
            refine Grow.fin_dst (by rfl) ?_
            rintro _ rfl
            refine Grow.fin_dst (by rfl) ?_
            rintro _ rfl
            refine Grow.fin_dst (by rfl) ?_
            rintro _ rfl
            refine Grow.fin_dst (by rfl) ?_
            rintro _ rfl
            refine Grow.fin_dst (by rfl) ?_
            rintro _ rfl
            simp only [Act.put, List.setIfInBounds_toArray, List.set_cons_zero, List.set_cons_succ]
            refine Grow.fin_end ?_
            have HB3 := Lib.hid (Grow.below_of_drew hG)
            clear hG
            go_wp2_with fail
            go_roundw
            case rel => unfold RSm; exact ⟨i' + 1, by have := H.out.2.2.1; omega, by simp, take_same HR.out.2.1 (by have := H.out.2.2.1; omega) (by have := H.out.2.2.2.1; omega) (by rw [← HXY.out.1, ← HXY.out.2]; exact HEQ.out), HR.out.1.trans (HB3.out.mono HR.out.1.size)⟩
            case measure => simp only [intOf]; omega
        · rw [decide_eq_false he] at hbq
          have HEQ := Lib.hid he
          clear he
          refine wp_region_grow (fun W W' => Below W.heap.size W W') (Grow.nth [fun v _ => v = .slice (some ⟨q, o, none⟩) n c, fun v _ => v = .int .i64 (i' : Int), fun v _ => v = .pointer (some ⟨q, o + i', none⟩), fun v _ => v = .slice Ai ni ci, fun v _ => v = .string (st X), fun v _ => v = .slice (some ⟨q2, o2, none⟩) n c2, fun v _ => v = .int .i64 (i' : Int), fun v _ => v = .pointer (some ⟨q2, o2 + i', none⟩), fun v _ => v = .string (st Y), fun v _ => v = .bool true]) 27 (by kernel_rfl) (by kernel_rfl) (by rfl) (fun W => Below.refl _ W) (fun _ _ _ h1 h2 => h1.trans (h2.mono h1.size)) (Grow.mono_nth ?gmono) ?gsteps ?gfin
          case gmono => exact ⟨fun _ _ _ h _ => h, fun _ _ _ h _ => h, fun _ _ _ h _ => h, fun _ _ _ h _ => h, fun _ _ _ h _ => h, fun _ _ _ h _ => h, fun _ _ _ h _ => h, fun _ _ _ h _ => h, fun _ _ _ h _ => h, fun _ _ _ h _ => h, trivial⟩
          case gsteps =>
            show Grow.allBelow _ 10
            refine And.intro ?_ ?s9
            refine And.intro ?_ ?s8
            refine And.intro ?_ ?s7
            refine And.intro ?_ ?s6
            refine And.intro ?_ ?s5
            refine And.intro ?_ ?s4
            refine And.intro ?_ ?s3
            refine And.intro ?_ ?s2
            refine And.intro ?_ ?s1
            refine And.intro ?_ ?s0
            exact trivial
            case s0 =>
              refine Grow.step_in (by rfl) (by rfl) ?_
              intro E W ec eg ef hG hd hu R HR1
              have e0 : E (.tmp 0) = .slice (some ⟨q, o, none⟩) n c := hu 0 (by kernel_rfl)
              clear hd hu
              go_simp
              exact HR1.out _ _ (Below.refl _ _) rfl
            case s1 =>
              refine Grow.step_in (by rfl) (by rfl) ?_
              intro E W ec eg ef hG hd hu R HR1
              have e5 : E (.tmp 5) = .int .i64 (i' : Int) := hu 5 (by kernel_rfl)
              clear hd hu
              go_simp
              exact HR1.out _ _ (Below.refl _ _) rfl
            case s2 =>
              refine Grow.step_in (by rfl) (by rfl) ?_
              intro E W ec eg ef hG hd hu R HR1
              have e17 : E (.tmp 17) = .slice (some ⟨q, o, none⟩) n c := hd 0 17 (by kernel_rfl)
              have e18 : E (.tmp 18) = .int .i64 (i' : Int) := hd 1 18 (by kernel_rfl)
              clear hd hu
              go_simp
              first | exact HR1.out _ _ (Below.refl _ _) rfl | (rw [if_pos ⟨by omega, by omega⟩]; exact HR1.out _ _ (Below.refl _ _) rfl) | (rw [if_pos (by omega)]; exact HR1.out _ _ (Below.refl _ _) rfl)
            case s3 =>
              refine Grow.step_in (by rfl) (by rfl) ?_
              intro E W ec eg ef hG hd hu R HR1
              have e19 : E (.tmp 19) = .pointer (some ⟨q, o + i', none⟩) := hd 2 19 (by kernel_rfl)
              clear hd hu
              obtain ⟨k1, k2, k3⟩ := HC.out W hG
              go_simp
              first | exact HR1.out _ _ (Below.refl _ _) rfl | (rw [if_pos ⟨by omega, by omega⟩]; exact HR1.out _ _ (Below.refl _ _) rfl)
            case s4 =>
              refine Grow.step_in (by rfl) (by rfl) ?_
              intro E W ec eg ef hG hd hu R HR1
              have e20 : E (.tmp 20) = .slice Ai ni ci := hd 3 20 (by kernel_rfl)
              clear hd hu
              obtain ⟨k1, k2, k3⟩ := HC.out W hG
              go_simp
              first | exact HR1.out _ _ (Below.refl _ _) rfl | (rw [if_pos ⟨by omega, by omega⟩]; exact HR1.out _ _ (Below.refl _ _) rfl)
            case s5 =>
              refine Grow.step_in (by rfl) (by rfl) ?_
              intro E W ec eg ef hG hd hu R HR1
              have e1 : E (.tmp 1) = .slice (some ⟨q2, o2, none⟩) n c2 := hu 1 (by kernel_rfl)
              clear hd hu
              go_simp
              exact HR1.out _ _ (Below.refl _ _) rfl
            case s6 =>
              refine Grow.step_in (by rfl) (by rfl) ?_
              intro E W ec eg ef hG hd hu R HR1
              have e5 : E (.tmp 5) = .int .i64 (i' : Int) := hu 5 (by kernel_rfl)
              clear hd hu
              go_simp
              exact HR1.out _ _ (Below.refl _ _) rfl
            case s7 =>
              refine Grow.step_in (by rfl) (by rfl) ?_
              intro E W ec eg ef hG hd hu R HR1
              have e22 : E (.tmp 22) = .slice (some ⟨q2, o2, none⟩) n c2 := hd 5 22 (by kernel_rfl)
              have e23 : E (.tmp 23) = .int .i64 (i' : Int) := hd 6 23 (by kernel_rfl)
              clear hd hu
              go_simp
              first | exact HR1.out _ _ (Below.refl _ _) rfl | (rw [if_pos ⟨by omega, by omega⟩]; exact HR1.out _ _ (Below.refl _ _) rfl) | (rw [if_pos (by omega)]; exact HR1.out _ _ (Below.refl _ _) rfl)
            case s8 =>
              refine Grow.step_in (by rfl) (by rfl) ?_
              intro E W ec eg ef hG hd hu R HR1
              have e24 : E (.tmp 24) = .pointer (some ⟨q2, o2 + i', none⟩) := hd 7 24 (by kernel_rfl)
              clear hd hu
              obtain ⟨k1, k2, k3⟩ := HC.out W hG
              go_simp
              first | exact HR1.out _ _ (Below.refl _ _) rfl | (rw [if_pos ⟨by omega, by omega⟩]; exact HR1.out _ _ (Below.refl _ _) rfl)
            case s9 =>
              refine Grow.step_in (by rfl) (by rfl) ?_
              intro E W ec eg ef hG hd hu R HR1
              have e21 : E (.tmp 21) = .string (st X) := hd 4 21 (by kernel_rfl)
              have e25 : E (.tmp 25) = .string (st Y) := hd 8 25 (by kernel_rfl)
              clear hd hu
              go_simp
              exact HR1.out _ _ (Below.refl _ _) rfl
          case gfin =>
            intro W hG
            refine Grow.fin_dst (by rfl) ?_
            rintro _ rfl
            refine Grow.fin_dst (by rfl) ?_
            rintro _ rfl
            refine Grow.fin_dst (by rfl) ?_
            rintro _ rfl
            refine Grow.fin_dst (by rfl) ?_
            rintro _ rfl
            refine Grow.fin_dst (by rfl) ?_
            rintro _ rfl
            refine Grow.fin_dst (by rfl) ?_
            rintro _ rfl
            refine Grow.fin_dst (by rfl) ?_
            rintro _ rfl
            refine Grow.fin_dst (by rfl) ?_
            rintro _ rfl
            refine Grow.fin_dst (by rfl) ?_
            rintro _ rfl
            refine Grow.fin_dst (by rfl) ?_
            rintro _ rfl
            simp only [Act.put, List.setIfInBounds_toArray, List.set_cons_zero, List.set_cons_succ]
            refine Grow.fin_end ?_
            have HB3 := Lib.hid (Grow.below_of_drew hG)
            clear hG
            have HNE : Hid (decide (ls = ms) = false) := Lib.hid (decide_eq_false (rows_unlike (by rw [← HXY.out.1, ← HXY.out.2]; exact HEQ.out)))
            go_wp2_with fail
            go_ret
            exact ⟨by rw [HNE.out]; rfl, HR.out.1.trans (HB3.out.mono HR.out.1.size)⟩
      · have hlt' : ¬ (i' : Int) < (n : Int) := by omega
        have HE : Hid (decide (ls = ms) = true) := Lib.hid (decide_eq_true (by
          have h1 := HR.out.2.1
          rwa [List.take_of_length_le (by have := H.out.2.2.1; omega), List.take_of_length_le (by have := H.out.2.2.2.1; omega)] at h1))
        clear hlt
        go_wp2_with fail
        go_ret
        exact ⟨by rw [HE.out]; rfl, HR.out.1⟩
  · have hne : ((n : Int) != (n2 : Int)) = true := by simp; omega
    have HNE : Hid (decide (ls = ms) = false) := Lib.hid (decide_eq_false fun e => hnn (by rw [← hl1, ← hl2, e]))
    clear h h2 hl1 hl2 hn hnn
    go_enter Try.func25, Try.ntmps25
    go_wp2_with fail
    go_ret
    exact ⟨by rw [HNE.out]; rfl, Below.refl _ _⟩
end Go.Proofs.Ytkhbmgmppoepjaa
