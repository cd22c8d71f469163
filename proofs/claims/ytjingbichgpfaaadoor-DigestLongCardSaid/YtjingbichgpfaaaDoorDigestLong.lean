/-
  The statement DigestLong: its walk.
-/
import Derived.Test.YtjingbichgpfaaaDoorRefOf
import Derived.Test.YtjingbichgpfaaaDoorGrow
namespace Go.Proofs.YtjingbichgpfaaaDoor
open Go.RowKit

theorem own_rws {w : World} {S : Nat → Prop} {B : Nat} {e : TypeId} {v : Value} {n : Nat} {rs : List (Option Addr × Nat × Nat)} {ls : List (List UInt8)} (h : w.ownsRow B e 1 v n (rs.map fun r => Value.slice r.1 r.2.1 r.2.2)) (hl : ls.length = rs.length)
    (hb : ∀ (i : Nat) (r : Option Addr × Nat × Nat), rs[i]? = some r → Byt w S r.1 r.2.1 r.2.2 (ls[i]?.getD [])) : ∃ A c, v = .slice A n c ∧ Rws w (fun _ => True) A n c ls := by
  have hn : ls.length = n := by have := h.1; rw [List.length_map] at this; omega
  rcases h.2 with ⟨rfl, rfl⟩ | ⟨g, cap, cur, rfl, _, hg, hnc, hm, _, _⟩
  · exact ⟨none, 0, rfl, hn, Nat.le_refl _, Nat.zero_le _, fun h => absurd h (by omega)⟩
  · refine ⟨_, cap, rfl, hn, hnc, hm, fun _ => ⟨g, 0, rfl, trivial, (Array.getElem?_eq_some_iff.1 hg).1, fun i hi => ?_⟩⟩
    have hir : i < rs.length := by omega
    have := h.cells (g := g) rfl i (.slice rs[i].1 rs[i].2.1 rs[i].2.2) (by simp [List.getElem?_map, List.getElem?_eq_getElem hir])
    rw [add_plain] at this
    exact ⟨_, _, _, this, (hb i rs[i] (List.getElem?_eq_getElem hir)).mono fun _ _ _ => trivial⟩

theorem sl_info : (Tryd.prog.info? 24).map (fun i => (i.zero, i.size, i.bytes)) = some (some (.slice none 0 0), 1, 24) := by kernel_rfl
def rep (l : List UInt8) (i : Nat) : List UInt8 := (List.replicate i l).flatten
theorem rep_succ (l : List UInt8) (i : Nat) : rep l i ++ l = rep l (i + 1) := by simp [rep, List.replicate_succ']
theorem rep_len (l : List UInt8) (i : Nat) : (rep l i).length = i * l.length := by simp [rep]
def Lng (w1 : World) (A : Option Addr) (n c : Nat) (l : List UInt8) (N : Nat) (v s i : Value) (wr : World) : Prop := ∃ j : Nat, j ≤ N ∧ i = .int .i64 j ∧ s = .string (st (rep l j)) ∧
  wr.ownsRow w1.heap.size 24 1 v j (List.replicate j (.slice A n c)) ∧ Below w1.heap.size w1 wr

set_option maxHeartbeats 8000000 in
set_option maxRecDepth 100000 in
theorem walk_long {w : World} {S : Nat → Prop} {A B : Option Addr} {n c k d : Nat} {l m : List UInt8} (h1 : Byt w S A n c l) {nn : Int} (hnn : (Lit.int .u8 nn).wf = true) (h2 : Byt w S B k d m) (ht : Tab w) :
    Calls Tryd.prog 7 #[.slice A n c, .int .u8 nn, .slice B k d] w fun e w' => e = .returned (.bool true) ∧ Below w.heap.size w w' := by
  have hb8 := bounds_u8 hnn
  have hl1 := h1.len
  have hl2 := h2.len
  obtain ⟨N, hN⟩ : ∃ N : Nat, nn % 40 = (N : Int) := ⟨(nn % 40).toNat, by omega⟩
  have hN40 : N < 40 := by omega
  obtain ⟨i0, hi, hz0, hz1, hz2⟩ := info_parts sl_info
  have HI := Lib.hid (And.intro hi (And.intro hz0 (And.intro hz1 hz2)))
  clear hi hz0 hz1 hz2
  by_cases hn : n ≤ 20
  · by_cases hk : k ≤ 70
    · go_enter Tryd.func7, Tryd.ntmps7
      go_wp2_with fail
      refine (awake_true ht).mono ?_
      rintro _ w1 ⟨rfl, hb1⟩
      have HB1 := Lib.hid hb1
      have HH := Lib.hid (And.intro (h1.below hb1) (And.intro (h2.below hb1) (ht.below hb1)))
      clear hb1 h1 h2 ht hnn
      go_wp2_with fail
      go_loopw [8, 9, 10] (fun v s i wr => Lng w1 A n c l N v s i wr) (fun _ _ i _ => N - (intOf i).toNat)
      case atStart => unfold Lng; exact ⟨0, Nat.zero_le _, rfl, rfl, World.ownsRow_nil _ _ _ _, Below.refl _ _⟩
      case round =>
        obtain ⟨j, hj, rfl, rfl, hown, hbr⟩ := hrel
        have HO := Lib.hid hown
        have HBR := Lib.hid hbr
        have hszr := hbr.size
        have hrl := rep_len l j
        have hrb : j * l.length ≤ 40 * 20 := Nat.mul_le_mul (by omega) (by omega)
        have HJN : Hid ((j : Int) * (n : Int) ≤ 800) := Lib.hid (by have h := hrb; simp only [hl1] at h; exact_mod_cast h)
        by_cases hlt : j < N
        · have hap := (st_app (rep l j) l).trans (by rw [rep_succ])
          have s1 := st_size (rep l j)
          have s2 := st_size l
          have hsum : ¬ (9223372036854775807 : Int) < ((rep l j).length : Int) + (l.length : Int) := by omega
          generalize hRR : rep l (j + 1) = RR at *
          have HRR := Lib.hid hRR
          generalize hRj : rep l j = Rj at *
          clear hown hbr hRR hRj
          go_wp2_with (at_builtin; refine wpList_append_own_at _ rfl _ _ 22 rfl w1.heap.size 24 i0 (.slice none 0 0) 1 24 Tryd.underlying22 HI.out.1 HI.out.2.1 HI.out.2.2.1 HI.out.2.2.2 rfl (by decide) _ j (List.replicate j (.slice A n c)) rfl (HO.out.alloc _) ⟨wr.heap.size, 0, none⟩ 1 1 _ rfl rfl (cell_one_new _ _ _) (one_of rfl) (by unfold maxLen; omega) (by omega) (by simp; omega) ?_)
          intro v' w2 hown2 hgrow hnz hat
          have hlt' := HO.out.lt
          have HB2 : Hid (Below w1.heap.size w1 w2) := Lib.hid ((HBR.out.alloc hszr _).grown hgrow (by simp; omega) (fun b hb => (hlt' b hb).1))
          have HO2 : Hid (w2.ownsRow w1.heap.size 24 1 v' (j + 1) (List.replicate (j + 1) (.slice A n c))) := Lib.hid (by rw [List.replicate_succ']; exact hown2)
          have hs : (convert 24 9 (.slice A n c)).run Tryd.prog w2 = .ok (.string (st l)) w2 := byt_string (HH.out.1.below HB2.out)
          clear hown2 hgrow hnz hat hlt'
          go_wp2_with fail
          go_roundw
          case rel => unfold Lng; exact ⟨j + 1, by omega, by go_num, by rw [HRR.out], HO2.out, HB2.out⟩
          case measure => simp [intOf]; omega
        · obtain rfl : j = N := by omega
          obtain ⟨L, hL⟩ : ∃ L, L = rep l j ++ m := ⟨_, rfl⟩
          have hap := (st_app (rep l j) m).trans (by rw [← hL])
          have HAP : Hid (st (rep l j) ++ st m = st L ∧ (st (rep l j)).size = (rep l j).length ∧ (st m).size = m.length ∧ ¬ (9223372036854775807 : Int) < ((rep l j).length : Int) + (m.length : Int)) := Lib.hid ⟨hap, st_size _, st_size _, by omega⟩
          have HLB : Hid (L.length < 576460752303423488) := Lib.hid (by rw [hL, List.length_append]; omega)
          have HLL := Lib.hid hL
          generalize hRj : rep l j = Rj at *
          have HRj := Lib.hid hRj
          clear hown hbr hlt hap hL hRj
          go_wp2_with (at_builtin; refine wpList_append_own_at _ rfl _ _ 22 rfl w1.heap.size 24 i0 (.slice none 0 0) 1 24 Tryd.underlying22 HI.out.1 HI.out.2.1 HI.out.2.2.1 HI.out.2.2.2 rfl (by decide) _ j (List.replicate j (.slice A n c)) rfl (HO.out.alloc _) ⟨wr.heap.size, 0, none⟩ 1 1 _ rfl rfl (cell_one_new _ _ _) (one_of rfl) (by unfold maxLen; omega) (by omega) (by simp; omega) ?_)
          intro v' w2 hown2 hgrow hnz hat
          have hlt' := HO.out.lt
          have HB2 : Hid (Below w1.heap.size w1 w2) := Lib.hid ((HBR.out.alloc hszr _).grown hgrow (by simp; omega) (fun b hb => (hlt' b hb).1))
          obtain ⟨A', c', rfl, hrws⟩ := own_rws (rs := List.replicate j (A, n, c) ++ [(B, k, d)]) (ls := List.replicate j l ++ [m]) (S := S) (by simpa using hown2) (by simp) (fun i r hr => by
            by_cases hij : i < j
            · rw [List.getElem?_append_left (by simpa using hij)] at hr ⊢
              simp [hij] at hr ⊢
              subst hr
              exact HH.out.1.below HB2.out
            · rw [List.getElem?_append_right (by simpa using hij)] at hr ⊢
              simp only [List.length_replicate] at hr ⊢
              match hi2 : i - j, hr with
              | 0, hr =>
                simp at hr ⊢
                subst hr
                exact HH.out.2.1.below HB2.out)
          have HF : Hid ((List.replicate j l ++ [m]).flatten = L) := Lib.hid (by rw [HLL.out, ← HRj.out, rep, List.flatten_append]; simp)
          have HW := Lib.hid (And.intro hrws (And.intro (HH.out.2.1.below HB2.out) (HH.out.2.2.below HB2.out)))
          obtain ⟨X, hX⟩ : ∃ X, X = (u8s (shaL L)).toArray := ⟨_, rfl⟩
          have HQ : Hid (∀ w, (Op.equalIn 10000 26 (.agg X) (.agg X)).run Tryd.prog w = .ok true w) := Lib.hid fun w => by rw [hX, id_eql _ _ (shaL_length L) (shaL_length L)]; simp
          have HX := Lib.hid hX
          clear hX
          clear hown2 hgrow hnz hat hlt' hrws
          go_wp2_with fail
          have HY : Hid (∀ W, Below w2.drew.heap.size w2.drew W → Rws W (fun _ => True) A' (j + 1) c' (List.replicate j l ++ [m]) ∧ Byt W S B k d m ∧ Tab W) := Lib.hid fun W hW => ⟨HW.out.1.below (Grow.below_of_drew hW), HW.out.2.1.below (Grow.below_of_drew hW), HW.out.2.2.below (Grow.below_of_drew hW)⟩
          refine wp_region_grow (fun W W' => Below W.heap.size W W') (Grow.nth [fun v _ => v = .slice A' (j + 1) c', fun v _ => v = .agg X, fun v _ => v = .string (st Rj), fun v _ => v = .slice B k d, fun v _ => v = .string (st m), fun v _ => v = .string (st L), fun v _ => v = .agg X, fun v _ => v = .bool true, fun v _ => v = .bool true]) 49 (by kernel_rfl) (by kernel_rfl) (by rfl) (fun W => Below.refl _ W) (fun _ _ _ h1 h2 => h1.trans (h2.mono h1.size)) (Grow.mono_nth ?gmono) ?gsteps ?gfin
          case gmono => exact ⟨fun _ _ _ h _ => h, fun _ _ _ h _ => h, fun _ _ _ h _ => h, fun _ _ _ h _ => h, fun _ _ _ h _ => h, fun _ _ _ h _ => h, fun _ _ _ h _ => h, fun _ _ _ h _ => h, fun _ _ _ h _ => h, trivial⟩
          case gsteps =>
            show Grow.allBelow _ 9
            refine And.intro ?_ ?s8
            refine And.intro ?_ ?s7
            refine And.intro ?_ ?s6
            refine And.intro ?_ ?s5
            refine And.intro ?_ ?s4
            refine And.intro ?_ ?s3
            refine And.intro ?_ ?s2
            refine And.intro ?_ ?s1
            refine And.intro ?_ ?s0
            exact trivial
            case s0 =>
              refine Grow.step_in (by rfl) (by rfl) ?_
              intro E W ec eg ef hG hd hu R HR
              have e8 : E (.tmp 8) = .slice A' (j + 1) c' := hu 8 (by kernel_rfl)
              clear hd hu
              go_simp
              exact HR.out _ _ (Below.refl _ _) rfl
            case s1 =>
              refine Grow.step_in (by rfl) (by rfl) ?_
              intro E W ec eg ef hG hd hu R HR
              have e41 : E (.tmp 41) = .slice A' (j + 1) c' := hd 0 41 (by kernel_rfl)
              clear hd hu
              go_simp
              refine (of_any (HY.out W hG).1 (HY.out W hG).2.2 (by rw [HF.out]; exact HLB.out)).mono ?_
              rintro _ w' ⟨rfl, hb⟩
              exact ⟨_, rfl, HR.out _ _ hb (show _ = _ by rw [HX.out, HF.out])⟩
            case s2 =>
              refine Grow.step_in (by rfl) (by rfl) ?_
              intro E W ec eg ef hG hd hu R HR
              have e9 : E (.tmp 9) = .string (st Rj) := hu 9 (by kernel_rfl)
              clear hd hu
              go_simp
              exact HR.out _ _ (Below.refl _ _) rfl
            case s3 =>
              refine Grow.step_in (by rfl) (by rfl) ?_
              intro E W ec eg ef hG hd hu R HR
              have e2 : E (.tmp 2) = .slice B k d := hu 2 (by kernel_rfl)
              clear hd hu
              go_simp
              exact HR.out _ _ (Below.refl _ _) rfl
            case s4 =>
              refine Grow.step_in (by rfl) (by rfl) ?_
              intro E W ec eg ef hG hd hu R HR
              have e44 : E (.tmp 44) = .slice B k d := hd 3 44 (by kernel_rfl)
              clear hd hu
              have hs : (convert 24 9 (.slice B k d)).run Tryd.prog W = .ok (.string (st m)) W := byt_string (HY.out W hG).2.1
              go_simp
              exact HR.out _ _ (Below.refl _ _) rfl
            case s5 =>
              refine Grow.step_in (by rfl) (by rfl) ?_
              intro E W ec eg ef hG hd hu R HR
              have e43 : E (.tmp 43) = .string (st Rj) := hd 2 43 (by kernel_rfl)
              have e45 : E (.tmp 45) = .string (st m) := hd 4 45 (by kernel_rfl)
              clear hd hu
              have ha := HAP.out.1
              have hs1 := HAP.out.2.1
              have hs2 := HAP.out.2.2.1
              have hs3 := HAP.out.2.2.2
              go_simp
              first | exact HR.out _ _ (Below.refl _ _) rfl | (have hjn := HJN.out; rw [if_neg (by omega)]; exact HR.out _ _ (Below.refl _ _) rfl)
            case s6 =>
              refine Grow.step_in (by rfl) (by rfl) ?_
              intro E W ec eg ef hG hd hu R HR
              have e46 : E (.tmp 46) = .string (st L) := hd 5 46 (by kernel_rfl)
              clear hd hu
              go_simp
              refine (rof_any L HLB.out _).mono ?_
              rintro _ w' ⟨rfl, hb⟩
              exact ⟨_, rfl, HR.out _ _ hb (show _ = _ by rw [HX.out])⟩
            case s7 =>
              refine Grow.step_in (by rfl) (by rfl) ?_
              intro E W ec eg ef hG hd hu R HR
              have e42 : E (.tmp 42) = .agg X := hd 1 42 (by kernel_rfl)
              have e47 : E (.tmp 47) = .agg X := hd 6 47 (by kernel_rfl)
              clear hd hu
              have hq := HQ.out
              go_simp
              exact HR.out _ _ (Below.refl _ _) rfl
            case s8 =>
              refine Grow.step_in (by rfl) (by rfl) ?_
              intro E W ec eg ef hG hd hu R HR
              have e48 : E (.tmp 48) = .bool true := hd 7 48 (by kernel_rfl)
              clear hd hu
              go_simp
              exact HR.out _ _ (Below.refl _ _) rfl
          case gfin =>
            intro W hG
            refine Grow.fin_dst (by rfl) ?_
            rintro _ rfl
            refine Grow.fin_dst (by rfl) ?_
            rintro _ rfl
            refine Grow.fin_dst (by rfl) ?_
            rintro _ rfl
            refine Grow.fin_dst (by rfl) ?_
            rintro _ rfl
            refine Grow.fin_dst (by rfl) ?_
            rintro _ rfl
            refine Grow.fin_dst (by rfl) ?_
            rintro _ rfl
            refine Grow.fin_dst (by rfl) ?_
            rintro _ rfl
            refine Grow.fin_dst (by rfl) ?_
            rintro _ rfl
            refine Grow.fin_dst (by rfl) ?_
            rintro _ rfl
            simp only [Act.put, List.setIfInBounds_toArray, List.set_cons_zero, List.set_cons_succ]
            refine Grow.fin_end ?_
            have HBW := Lib.hid ((HB1.out.trans (HB2.out.mono HB1.out.size)).trans ((Grow.below_of_drew hG).mono (Nat.le_trans HB1.out.size HB2.out.size)))
            clear hG
            go_wp2_with fail
            go_ret
            exact ⟨rfl, HBW.out⟩
    · go_enter Tryd.func7, Tryd.ntmps7
      go_wp2_with (go_at_call 9; refine (awake_true ht).mono ?_; rintro _ w1 ⟨rfl, hb1⟩)
      go_ret
      exact ⟨rfl, hb1⟩
  · go_enter Tryd.func7, Tryd.ntmps7
    go_wp2_with (go_at_call 9; refine (awake_true ht).mono ?_; rintro _ w1 ⟨rfl, hb1⟩)
    go_ret
    exact ⟨rfl, hb1⟩
end Go.Proofs.YtjingbichgpfaaaDoor
