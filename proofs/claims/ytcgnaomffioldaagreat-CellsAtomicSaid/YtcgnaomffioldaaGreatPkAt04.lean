/-
  Cells: the reference's Do.
-/
import Derived.Test.YtcgnaomffioldaaGreatPkAt03
import Derived.Test.YtcgnaomffioldaaGreatPk16
import Derived.Test.YtcgnaomffioldaaGreatPk05
/-! Cells: the reference's Do. -/
namespace Go.Proofs.YtcgnaomffioldaaGreat
open Go.RowKit Codec

theorem st_less (a b : List UInt8) : Op.bytesLess (st a).toList (st b).toList = decide (a < b) := by
  have h1 : ∀ l : List UInt8, (st l).toList = l := fun l => by simp [st]
  rw [h1, h1, bytes_less]
def RDo (w : World) (S : Nat → Prop) (t : Tb) (l : List Ch) (tv i : Value) (wr : World) : Prop :=
  ∃ (j : Nat) (At : Option Addr) (nt ct : Nat), j ≤ l.length ∧ i = .int .i64 (j : Int) ∧ tv = .slice At nt ct ∧ Cms wr (fun k => S k ∨ w.heap.size ≤ k) At nt ct (tb2 (doL t (l.take j))) ∧ Below w.heap.size w wr
def RIn (wr : World) (T : Tb) (key : List UInt8) (k : Value) (wi : World) : Prop :=
  ∃ q : Nat, q ≤ T.length ∧ k = .int .i64 (q : Int) ∧ (∀ p ∈ T.take q, p.1 < key) ∧ Below wr.heap.size wr wi
set_option maxHeartbeats 8000000 in
set_option maxRecDepth 100000 in
theorem rdo_any {w : World} {S U : Nat → Prop} {A A2 : Option Addr} {n c n2 c2 : Nat} {t : Tb} {l : List Ch} (ht : Cms w S A n c (tb2 t)) (hs : Srt t) (hl : Cms w U A2 n2 c2 l) (hb : n + n2 ≤ 100000) :
    Calls Tryz.prog 24 #[.slice A n c, .slice A2 n2 c2] w fun e w' => ∃ A' n' c', e = .returned (.slice A' n' c') ∧ Cms w' (fun k => S k ∨ w.heap.size ≤ k) A' n' c' (tb2 (doL t l)) ∧ Below w.heap.size w w' := by
  have HS := Lib.hid (And.intro ht (And.intro hs (And.intro hl (And.intro hl.len (And.intro ht.len hb)))))
  clear ht hs hl hb
  go_enter Tryz.func24, Tryz.ntmps24
  go_wp2_with fail
  go_loopw [0, 5] (fun tv i wr => RDo w S t l tv i wr) (fun _ i _ => n2 - (intOf i).toNat)
  case atStart => exact ⟨0, A, n, c, Nat.zero_le _, rfl, rfl, HS.out.1.mono fun k _ h => .inl h, Below.refl _ _⟩
  case round =>
    obtain ⟨j, At, nt, ct, hj, rfl, rfl, hct, hbel⟩ := hrel
    by_cases hlt : j < n2
    · have hlt' : (j : Int) < (n2 : Int) := by omega
      have hadd1 := IntWalk.i64_in ((j : Int) + 1) (by have := HS.out.2.2.2.2.2; omega)
      obtain ⟨b2, o2, X, rfl, _, hb2, hx, hc0, hc1, hc2⟩ := (HS.out.2.2.1.below hbel).at_ hlt
      obtain ⟨T, hT⟩ : ∃ T, T = doL t (l.take j) := ⟨_, rfl⟩
      rw [← hT] at hct
      have hTl : T.length = nt := by rw [← hct.len]; simp [tb2]
      have hTn : T.length ≤ t.length + j := by
        rw [hT]
        have h1 := doL_len t HS.out.2.1 (l.take j)
        rw [List.length_take] at h1
        omega
      have htl : t.length = n := by have := HS.out.2.2.2.2.1; simpa [tb2] using this
      obtain ⟨XK, hXK⟩ : ∃ XK, XK = X.k := ⟨_, rfl⟩
      obtain ⟨XV, hXV⟩ : ∃ XV, XV = X.v := ⟨_, rfl⟩
      obtain ⟨G, hGX⟩ : ∃ G, G = X.g := ⟨_, rfl⟩
      rw [← hXK] at hc0
      rw [← hXV] at hc1
      rw [← hGX] at hc2
      have HX := Lib.hid (And.intro hx (And.intro hlt (And.intro hXK (And.intro hXV (And.intro hGX hj)))))
      have HXC := Lib.hid (And.intro hb2 (And.intro hc0 (And.intro hc1 hc2)))
      have HR := Lib.hid (And.intro hct (And.intro hbel (And.intro hT (hT ▸ HS.out.2.1.chs (l.take j) : Srt T))))
      have HLN := Lib.hid (show T.length = nt ∧ nt + j ≤ 300000 by have := HS.out.2.2.2.2.2; omega)
      clear hct hbel hb2 hx hc0 hc1 hc2 hT hTl hTn htl hXK hXV hGX hj hlt
      obtain ⟨w1, hw1⟩ : ∃ w1, w1 = wr := ⟨_, rfl⟩
      subst hw1
      go_wp2_with fail
      go_loopw [7] (fun k wi => RIn w1 T XK k wi) (fun k _ => nt - (intOf k).toNat)
      case atStart => exact ⟨0, Nat.zero_le _, rfl, (fun p hp => by simp at hp), Below.refl _ _⟩
      case round =>
        obtain ⟨q, hq, rfl, hlow, hb3⟩ := hrel
        have hadd2 := IntWalk.i64_in ((q : Int) + 1) (by have := HLN.out; omega)
        have HBW := Lib.hid hb3
        by_cases hqn : q < nt
        · have HQN := Lib.hid (show (q : Int) < (nt : Int) by omega)
          obtain ⟨b1, o1, y, rfl, _, hb1, hy, ht0, _, _⟩ := HR.out.1.at_ hqn
          obtain ⟨P, hP⟩ : ∃ P, T[q]? = some P := ⟨_, List.getElem?_eq_getElem (by have := HLN.out; omega)⟩
          have hyP : y.k = P.1 := by
            unfold tb2 at hy
            rw [List.getElem?_map, hP] at hy
            injection hy with hy
            rw [← hy]
          obtain ⟨TK, hTK⟩ : ∃ TK, TK = P.1 := ⟨_, rfl⟩
          rw [hyP, ← hTK] at ht0
          have HTC := Lib.hid (And.intro hb1 ht0)
          have HQ := Lib.hid (show q ≤ nt ∧ (∀ p ∈ T.take q, p.1 < XK) ∧ T[q]? = some P ∧ TK = P.1 ∧ q < nt from ⟨by omega, hlow, hP, hTK, hqn⟩)
          have HCT : Hid (b1 < wr.drew.heap.size ∧ wr.drew.cell? ⟨b1, o1 + q * 3, none⟩ = some (.string (st TK))) := Lib.hid ⟨Nat.lt_of_lt_of_le HTC.out.1 hb3.size, (hb3.cell (p := ⟨_, _, none⟩) HTC.out.1).trans HTC.out.2⟩
          have HCX : Hid (b2 < wr.drew.heap.size ∧ wr.drew.cell? ⟨b2, o2 + j * 3, none⟩ = some (.string (st XK)) ∧ wr.drew.cell? ⟨b2, o2 + j * 3 + 1, none⟩ = some (.string (st XV))) := Lib.hid ⟨Nat.lt_of_lt_of_le HXC.out.1 hb3.size, (hb3.cell (p := ⟨_, _, none⟩) HXC.out.1).trans HXC.out.2.1, (hb3.cell (p := ⟨_, _, none⟩) HXC.out.1).trans HXC.out.2.2.1⟩
          clear hb1 hy ht0 hP hyP hTK hq hlow hb3 hqn
          by_cases hltk : TK < XK
          · have hcm0 := st_less TK XK
            rw [decide_eq_true hltk] at hcm0
            have HCM := Lib.hid hcm0
            have HLK := Lib.hid hltk
            clear hcm0 hltk
            go_upto_region 6 with fail
            refine wp_region_grow (fun W W' => Below W.heap.size W W') (Grow.nth [fun v _ => v = .int .i64 (q : Int), fun v _ => v = .slice (some ⟨b1, o1, none⟩) nt ct, fun v _ => v = .int .i64 (nt : Int), fun v _ => v = .bool true, fun v _ => v = .bool true, fun v _ => v = .slice (some ⟨b1, o1, none⟩) nt ct, fun v _ => v = .int .i64 (q : Int), fun v _ => v = .pointer (some ⟨b1, o1 + q * 3, none⟩), fun v _ => v = .pointer (some ⟨b1, o1 + q * 3, none⟩), fun v _ => v = .string (st TK), fun v _ => v = .slice (some ⟨b2, o2, none⟩) n2 c2, fun v _ => v = .int .i64 (j : Int), fun v _ => v = .pointer (some ⟨b2, o2 + j * 3, none⟩), fun v _ => v = .pointer (some ⟨b2, o2 + j * 3, none⟩), fun v _ => v = .string (st XK), fun v _ => v = .bool true, fun v _ => v = .bool true]) 83 (by kernel_rfl) (by kernel_rfl) (by rfl) (fun W => Below.refl _ W) (fun _ _ _ h1 h2 => h1.trans (h2.mono h1.size)) (Grow.mono_nth ?gmono) ?gsteps ?gfin
            case gmono => exact ⟨fun _ _ _ h _ => h, fun _ _ _ h _ => h, fun _ _ _ h _ => h, fun _ _ _ h _ => h, fun _ _ _ h _ => h, fun _ _ _ h _ => h, fun _ _ _ h _ => h, fun _ _ _ h _ => h, fun _ _ _ h _ => h, fun _ _ _ h _ => h, fun _ _ _ h _ => h, fun _ _ _ h _ => h, fun _ _ _ h _ => h, fun _ _ _ h _ => h, fun _ _ _ h _ => h, fun _ _ _ h _ => h, fun _ _ _ h _ => h, trivial⟩
            case gsteps =>
              show Grow.allBelow _ 17
              refine And.intro ?_ ?s16
              refine And.intro ?_ ?s15
              refine And.intro ?_ ?s14
              refine And.intro ?_ ?s13
              refine And.intro ?_ ?s12
              refine And.intro ?_ ?s11
              refine And.intro ?_ ?s10
              refine And.intro ?_ ?s9
              refine And.intro ?_ ?s8
              refine And.intro ?_ ?s7
              refine And.intro ?_ ?s6
              refine And.intro ?_ ?s5
              refine And.intro ?_ ?s4
              refine And.intro ?_ ?s3
              refine And.intro ?_ ?s2
              refine And.intro ?_ ?s1
              refine And.intro ?_ ?s0
              exact trivial
              case s0 =>
                refine Grow.step_in (by rfl) (by rfl) ?_
                intro E W ec eg ef hG hd hu R HR1
                have e7 : E (.tmp 7) = .int .i64 (q : Int) := hu 7 (by kernel_rfl)
                clear hd hu
                go_simp
                exact HR1.out _ _ (Below.refl _ _) rfl
              case s1 =>
                refine Grow.step_in (by rfl) (by rfl) ?_
                intro E W ec eg ef hG hd hu R HR1
                have e0 : E (.tmp 0) = .slice (some ⟨b1, o1, none⟩) nt ct := hu 0 (by kernel_rfl)
                clear hd hu
                go_simp
                exact HR1.out _ _ (Below.refl _ _) rfl
              case s2 =>
                refine Grow.step_in (by rfl) (by rfl) ?_
                intro E W ec eg ef hG hd hu R HR1
                have e15 : E (.tmp 15) = .slice (some ⟨b1, o1, none⟩) nt ct := hd 1 15 (by kernel_rfl)
                clear hd hu
                go_simp
                exact HR1.out _ _ (Below.refl _ _) rfl
              case s3 =>
                refine Grow.step_in (by rfl) (by rfl) ?_
                intro E W ec eg ef hG hd hu R HR1
                have e14 : E (.tmp 14) = .int .i64 (q : Int) := hd 0 14 (by kernel_rfl)
                have e16 : E (.tmp 16) = .int .i64 (nt : Int) := hd 2 16 (by kernel_rfl)
                clear hd hu
                have hqn := HQN.out
                go_simp
                exact HR1.out _ _ (Below.refl _ _) rfl
              case s4 =>
                refine Grow.step_in (by rfl) (by rfl) ?_
                intro E W ec eg ef hG hd hu R HR1
                have e17 : E (.tmp 17) = .bool true := hd 3 17 (by kernel_rfl)
                clear hd hu
                go_simp
                exact HR1.out _ _ (Below.refl _ _) rfl
              case s5 =>
                refine Grow.step_on (g := 4) (b := true) (d := 18) (by rfl) (by rfl) (by rfl) (by kernel_rfl) (fun v W h => h) ?_
                intro E W ec eg ef hG hd hu R HR1
                have e0 : E (.tmp 0) = .slice (some ⟨b1, o1, none⟩) nt ct := hu 0 (by kernel_rfl)
                clear hd hu
                go_simp
                exact HR1.out _ _ (Below.refl _ _) rfl
              case s6 =>
                refine Grow.step_on (g := 4) (b := true) (d := 18) (by rfl) (by rfl) (by rfl) (by kernel_rfl) (fun v W h => h) ?_
                intro E W ec eg ef hG hd hu R HR1
                have e7 : E (.tmp 7) = .int .i64 (q : Int) := hu 7 (by kernel_rfl)
                clear hd hu
                go_simp
                exact HR1.out _ _ (Below.refl _ _) rfl
              case s7 =>
                refine Grow.step_on (g := 4) (b := true) (d := 18) (by rfl) (by rfl) (by rfl) (by kernel_rfl) (fun v W h => h) ?_
                intro E W ec eg ef hG hd hu R HR1
                have e19 : E (.tmp 19) = .slice (some ⟨b1, o1, none⟩) nt ct := hd 5 19 (by kernel_rfl)
                have e20 : E (.tmp 20) = .int .i64 (q : Int) := hd 6 20 (by kernel_rfl)
                clear hd hu
                have hql := HQ.out.2.2.2.2
                go_simp
                first | exact HR1.out _ _ (Below.refl _ _) rfl | (rw [if_pos ⟨by omega, by omega⟩]; exact HR1.out _ _ (Below.refl _ _) rfl)
              case s8 =>
                refine Grow.step_on (g := 4) (b := true) (d := 18) (by rfl) (by rfl) (by rfl) (by kernel_rfl) (fun v W h => h) ?_
                intro E W ec eg ef hG hd hu R HR1
                have e21 : E (.tmp 21) = .pointer (some ⟨b1, o1 + q * 3, none⟩) := hd 7 21 (by kernel_rfl)
                clear hd hu
                go_simp
                exact HR1.out _ _ (Below.refl _ _) rfl
              case s9 =>
                refine Grow.step_on (g := 4) (b := true) (d := 18) (by rfl) (by rfl) (by rfl) (by kernel_rfl) (fun v W h => h) ?_
                intro E W ec eg ef hG hd hu R HR1
                have e22 : E (.tmp 22) = .pointer (some ⟨b1, o1 + q * 3, none⟩) := hd 8 22 (by kernel_rfl)
                clear hd hu
                have hcl := (hG.cell (p := ⟨b1, o1 + q * 3, none⟩) HCT.out.1).trans HCT.out.2
                go_simp
                exact HR1.out _ _ (Below.refl _ _) rfl
              case s10 =>
                refine Grow.step_on (g := 4) (b := true) (d := 18) (by rfl) (by rfl) (by rfl) (by kernel_rfl) (fun v W h => h) ?_
                intro E W ec eg ef hG hd hu R HR1
                have e1 : E (.tmp 1) = .slice (some ⟨b2, o2, none⟩) n2 c2 := hu 1 (by kernel_rfl)
                clear hd hu
                go_simp
                exact HR1.out _ _ (Below.refl _ _) rfl
              case s11 =>
                refine Grow.step_on (g := 4) (b := true) (d := 18) (by rfl) (by rfl) (by rfl) (by kernel_rfl) (fun v W h => h) ?_
                intro E W ec eg ef hG hd hu R HR1
                have e5 : E (.tmp 5) = .int .i64 (j : Int) := hu 5 (by kernel_rfl)
                clear hd hu
                go_simp
                exact HR1.out _ _ (Below.refl _ _) rfl
              case s12 =>
                refine Grow.step_on (g := 4) (b := true) (d := 18) (by rfl) (by rfl) (by rfl) (by kernel_rfl) (fun v W h => h) ?_
                intro E W ec eg ef hG hd hu R HR1
                have e24 : E (.tmp 24) = .slice (some ⟨b2, o2, none⟩) n2 c2 := hd 10 24 (by kernel_rfl)
                have e25 : E (.tmp 25) = .int .i64 (j : Int) := hd 11 25 (by kernel_rfl)
                clear hd hu
                have hjl := HX.out.2.1
                go_simp
                first | exact HR1.out _ _ (Below.refl _ _) rfl | (rw [if_pos ⟨by omega, by omega⟩]; exact HR1.out _ _ (Below.refl _ _) rfl)
              case s13 =>
                refine Grow.step_on (g := 4) (b := true) (d := 18) (by rfl) (by rfl) (by rfl) (by kernel_rfl) (fun v W h => h) ?_
                intro E W ec eg ef hG hd hu R HR1
                have e26 : E (.tmp 26) = .pointer (some ⟨b2, o2 + j * 3, none⟩) := hd 12 26 (by kernel_rfl)
                clear hd hu
                go_simp
                exact HR1.out _ _ (Below.refl _ _) rfl
              case s14 =>
                refine Grow.step_on (g := 4) (b := true) (d := 18) (by rfl) (by rfl) (by rfl) (by kernel_rfl) (fun v W h => h) ?_
                intro E W ec eg ef hG hd hu R HR1
                have e27 : E (.tmp 27) = .pointer (some ⟨b2, o2 + j * 3, none⟩) := hd 13 27 (by kernel_rfl)
                clear hd hu
                have hcl := (hG.cell (p := ⟨b2, o2 + j * 3, none⟩) HCX.out.1).trans HCX.out.2.1
                go_simp
                exact HR1.out _ _ (Below.refl _ _) rfl
              case s15 =>
                refine Grow.step_on (g := 4) (b := true) (d := 18) (by rfl) (by rfl) (by rfl) (by kernel_rfl) (fun v W h => h) ?_
                intro E W ec eg ef hG hd hu R HR1
                have e23 : E (.tmp 23) = .string (st TK) := hd 9 23 (by kernel_rfl)
                have e28 : E (.tmp 28) = .string (st XK) := hd 14 28 (by kernel_rfl)
                clear hd hu
                have hcm := HCM.out
                go_simp
                exact HR1.out _ _ (Below.refl _ _) rfl
              case s16 =>
                refine Grow.step_in (by rfl) (by rfl) ?_
                intro E W ec eg ef hG hd hu R HR1
                have e18 : E (.tmp 18) = .bool true := hd 4 18 (by kernel_rfl)
                have e29 : E (.tmp 29) = .bool true := hd 15 29 (by kernel_rfl)
                clear hd hu
                go_simp
                exact HR1.out _ _ (Below.refl _ _) rfl
            case gfin =>
              intro W hG
              refine Grow.fin_dst (by rfl) ?_
              rintro _ rfl
              refine Grow.fin_dst (by rfl) ?_
              rintro _ rfl
              refine Grow.fin_dst (by rfl) ?_
              rintro _ rfl
              refine Grow.fin_dst (by rfl) ?_
              rintro _ rfl
              refine Grow.fin_dst (by rfl) ?_
              rintro _ rfl
              refine Grow.fin_dst (by rfl) ?_
              rintro _ rfl
              refine Grow.fin_dst (by rfl) ?_
              rintro _ rfl
              refine Grow.fin_dst (by rfl) ?_
              rintro _ rfl
              refine Grow.fin_dst (by rfl) ?_
              rintro _ rfl
              refine Grow.fin_dst (by rfl) ?_
              rintro _ rfl
              refine Grow.fin_dst (by rfl) ?_
              rintro _ rfl
              refine Grow.fin_dst (by rfl) ?_
              rintro _ rfl
              refine Grow.fin_dst (by rfl) ?_
              rintro _ rfl
              refine Grow.fin_dst (by rfl) ?_
              rintro _ rfl
              refine Grow.fin_dst (by rfl) ?_
              rintro _ rfl
              refine Grow.fin_dst (by rfl) ?_
              rintro _ rfl
              refine Grow.fin_dst (by rfl) ?_
              rintro _ rfl
              simp only [Act.put, List.setIfInBounds_toArray, List.set_cons_zero, List.set_cons_succ]
              refine Grow.fin_end ?_
              have HB6 := Lib.hid (Grow.below_of_drew hG)
              clear hG
              go_wp2_with fail
              go_roundw
              case rel =>
                unfold RIn
                refine ⟨q + 1, by have := HQ.out.2.2.2.2; have := HLN.out; omega, by simp, fun p hp => ?_, HBW.out.trans (HB6.out.mono HBW.out.size)⟩
                rw [List.take_add_one, HQ.out.2.2.1] at hp
                rcases List.mem_append.1 hp with hp | hp
                · exact HQ.out.2.1 p hp
                · simp at hp
                  rw [hp, ← HQ.out.2.2.2.1]
                  exact HLK.out
              case measure => simp only [intOf]; have h1 := HQ.out.2.2.2.2; omega
          · have hcm0 := st_less TK XK
            rw [decide_eq_false hltk] at hcm0
            have HCM := Lib.hid hcm0
            have HNL := Lib.hid hltk
            clear hcm0 hltk
            go_upto_region 6 with fail
            refine wp_region_grow (fun W W' => Below W.heap.size W W') (Grow.nth [fun v _ => v = .int .i64 (q : Int), fun v _ => v = .slice (some ⟨b1, o1, none⟩) nt ct, fun v _ => v = .int .i64 (nt : Int), fun v _ => v = .bool true, fun v _ => v = .bool true, fun v _ => v = .slice (some ⟨b1, o1, none⟩) nt ct, fun v _ => v = .int .i64 (q : Int), fun v _ => v = .pointer (some ⟨b1, o1 + q * 3, none⟩), fun v _ => v = .pointer (some ⟨b1, o1 + q * 3, none⟩), fun v _ => v = .string (st TK), fun v _ => v = .slice (some ⟨b2, o2, none⟩) n2 c2, fun v _ => v = .int .i64 (j : Int), fun v _ => v = .pointer (some ⟨b2, o2 + j * 3, none⟩), fun v _ => v = .pointer (some ⟨b2, o2 + j * 3, none⟩), fun v _ => v = .string (st XK), fun v _ => v = .bool false, fun v _ => v = .bool false]) 83 (by kernel_rfl) (by kernel_rfl) (by rfl) (fun W => Below.refl _ W) (fun _ _ _ h1 h2 => h1.trans (h2.mono h1.size)) (Grow.mono_nth ?gmono) ?gsteps ?gfin
            case gmono => exact ⟨fun _ _ _ h _ => h, fun _ _ _ h _ => h, fun _ _ _ h _ => h, fun _ _ _ h _ => h, fun _ _ _ h _ => h, fun _ _ _ h _ => h, fun _ _ _ h _ => h, fun _ _ _ h _ => h, fun _ _ _ h _ => h, fun _ _ _ h _ => h, fun _ _ _ h _ => h, fun _ _ _ h _ => h, fun _ _ _ h _ => h, fun _ _ _ h _ => h, fun _ _ _ h _ => h, fun _ _ _ h _ => h, fun _ _ _ h _ => h, trivial⟩
            case gsteps =>
              show Grow.allBelow _ 17
              refine And.intro ?_ ?s16
              refine And.intro ?_ ?s15
              refine And.intro ?_ ?s14
              refine And.intro ?_ ?s13
              refine And.intro ?_ ?s12
              refine And.intro ?_ ?s11
              refine And.intro ?_ ?s10
              refine And.intro ?_ ?s9
              refine And.intro ?_ ?s8
              refine And.intro ?_ ?s7
              refine And.intro ?_ ?s6
              refine And.intro ?_ ?s5
              refine And.intro ?_ ?s4
              refine And.intro ?_ ?s3
              refine And.intro ?_ ?s2
              refine And.intro ?_ ?s1
              refine And.intro ?_ ?s0
              exact trivial
              case s0 =>
                refine Grow.step_in (by rfl) (by rfl) ?_
                intro E W ec eg ef hG hd hu R HR1
                have e7 : E (.tmp 7) = .int .i64 (q : Int) := hu 7 (by kernel_rfl)
                clear hd hu
                go_simp
                exact HR1.out _ _ (Below.refl _ _) rfl
              case s1 =>
                refine Grow.step_in (by rfl) (by rfl) ?_
                intro E W ec eg ef hG hd hu R HR1
                have e0 : E (.tmp 0) = .slice (some ⟨b1, o1, none⟩) nt ct := hu 0 (by kernel_rfl)
                clear hd hu
                go_simp
                exact HR1.out _ _ (Below.refl _ _) rfl
              case s2 =>
                refine Grow.step_in (by rfl) (by rfl) ?_
                intro E W ec eg ef hG hd hu R HR1
                have e15 : E (.tmp 15) = .slice (some ⟨b1, o1, none⟩) nt ct := hd 1 15 (by kernel_rfl)
                clear hd hu
                go_simp
                exact HR1.out _ _ (Below.refl _ _) rfl
              case s3 =>
                refine Grow.step_in (by rfl) (by rfl) ?_
                intro E W ec eg ef hG hd hu R HR1
                have e14 : E (.tmp 14) = .int .i64 (q : Int) := hd 0 14 (by kernel_rfl)
                have e16 : E (.tmp 16) = .int .i64 (nt : Int) := hd 2 16 (by kernel_rfl)
                clear hd hu
                have hqn := HQN.out
                go_simp
                exact HR1.out _ _ (Below.refl _ _) rfl
              case s4 =>
                refine Grow.step_in (by rfl) (by rfl) ?_
                intro E W ec eg ef hG hd hu R HR1
                have e17 : E (.tmp 17) = .bool true := hd 3 17 (by kernel_rfl)
                clear hd hu
                go_simp
                exact HR1.out _ _ (Below.refl _ _) rfl
              case s5 =>
                refine Grow.step_on (g := 4) (b := true) (d := 18) (by rfl) (by rfl) (by rfl) (by kernel_rfl) (fun v W h => h) ?_
                intro E W ec eg ef hG hd hu R HR1
                have e0 : E (.tmp 0) = .slice (some ⟨b1, o1, none⟩) nt ct := hu 0 (by kernel_rfl)
                clear hd hu
                go_simp
                exact HR1.out _ _ (Below.refl _ _) rfl
              case s6 =>
                refine Grow.step_on (g := 4) (b := true) (d := 18) (by rfl) (by rfl) (by rfl) (by kernel_rfl) (fun v W h => h) ?_
                intro E W ec eg ef hG hd hu R HR1
                have e7 : E (.tmp 7) = .int .i64 (q : Int) := hu 7 (by kernel_rfl)
                clear hd hu
                go_simp
                exact HR1.out _ _ (Below.refl _ _) rfl
              case s7 =>
                refine Grow.step_on (g := 4) (b := true) (d := 18) (by rfl) (by rfl) (by rfl) (by kernel_rfl) (fun v W h => h) ?_
                intro E W ec eg ef hG hd hu R HR1
                have e19 : E (.tmp 19) = .slice (some ⟨b1, o1, none⟩) nt ct := hd 5 19 (by kernel_rfl)
                have e20 : E (.tmp 20) = .int .i64 (q : Int) := hd 6 20 (by kernel_rfl)
                clear hd hu
                have hql := HQ.out.2.2.2.2
                go_simp
                first | exact HR1.out _ _ (Below.refl _ _) rfl | (rw [if_pos ⟨by omega, by omega⟩]; exact HR1.out _ _ (Below.refl _ _) rfl)
              case s8 =>
                refine Grow.step_on (g := 4) (b := true) (d := 18) (by rfl) (by rfl) (by rfl) (by kernel_rfl) (fun v W h => h) ?_
                intro E W ec eg ef hG hd hu R HR1
                have e21 : E (.tmp 21) = .pointer (some ⟨b1, o1 + q * 3, none⟩) := hd 7 21 (by kernel_rfl)
                clear hd hu
                go_simp
                exact HR1.out _ _ (Below.refl _ _) rfl
              case s9 =>
                refine Grow.step_on (g := 4) (b := true) (d := 18) (by rfl) (by rfl) (by rfl) (by kernel_rfl) (fun v W h => h) ?_
                intro E W ec eg ef hG hd hu R HR1
                have e22 : E (.tmp 22) = .pointer (some ⟨b1, o1 + q * 3, none⟩) := hd 8 22 (by kernel_rfl)
                clear hd hu
                have hcl := (hG.cell (p := ⟨b1, o1 + q * 3, none⟩) HCT.out.1).trans HCT.out.2
                go_simp
                exact HR1.out _ _ (Below.refl _ _) rfl
              case s10 =>
                refine Grow.step_on (g := 4) (b := true) (d := 18) (by rfl) (by rfl) (by rfl) (by kernel_rfl) (fun v W h => h) ?_
                intro E W ec eg ef hG hd hu R HR1
                have e1 : E (.tmp 1) = .slice (some ⟨b2, o2, none⟩) n2 c2 := hu 1 (by kernel_rfl)
                clear hd hu
                go_simp
                exact HR1.out _ _ (Below.refl _ _) rfl
              case s11 =>
                refine Grow.step_on (g := 4) (b := true) (d := 18) (by rfl) (by rfl) (by rfl) (by kernel_rfl) (fun v W h => h) ?_
                intro E W ec eg ef hG hd hu R HR1
                have e5 : E (.tmp 5) = .int .i64 (j : Int) := hu 5 (by kernel_rfl)
                clear hd hu
                go_simp
                exact HR1.out _ _ (Below.refl _ _) rfl
              case s12 =>
                refine Grow.step_on (g := 4) (b := true) (d := 18) (by rfl) (by rfl) (by rfl) (by kernel_rfl) (fun v W h => h) ?_
                intro E W ec eg ef hG hd hu R HR1
                have e24 : E (.tmp 24) = .slice (some ⟨b2, o2, none⟩) n2 c2 := hd 10 24 (by kernel_rfl)
                have e25 : E (.tmp 25) = .int .i64 (j : Int) := hd 11 25 (by kernel_rfl)
                clear hd hu
                have hjl := HX.out.2.1
                go_simp
                first | exact HR1.out _ _ (Below.refl _ _) rfl | (rw [if_pos ⟨by omega, by omega⟩]; exact HR1.out _ _ (Below.refl _ _) rfl)
              case s13 =>
                refine Grow.step_on (g := 4) (b := true) (d := 18) (by rfl) (by rfl) (by rfl) (by kernel_rfl) (fun v W h => h) ?_
                intro E W ec eg ef hG hd hu R HR1
                have e26 : E (.tmp 26) = .pointer (some ⟨b2, o2 + j * 3, none⟩) := hd 12 26 (by kernel_rfl)
                clear hd hu
                go_simp
                exact HR1.out _ _ (Below.refl _ _) rfl
              case s14 =>
                refine Grow.step_on (g := 4) (b := true) (d := 18) (by rfl) (by rfl) (by rfl) (by kernel_rfl) (fun v W h => h) ?_
                intro E W ec eg ef hG hd hu R HR1
                have e27 : E (.tmp 27) = .pointer (some ⟨b2, o2 + j * 3, none⟩) := hd 13 27 (by kernel_rfl)
                clear hd hu
                have hcl := (hG.cell (p := ⟨b2, o2 + j * 3, none⟩) HCX.out.1).trans HCX.out.2.1
                go_simp
                exact HR1.out _ _ (Below.refl _ _) rfl
              case s15 =>
                refine Grow.step_on (g := 4) (b := true) (d := 18) (by rfl) (by rfl) (by rfl) (by kernel_rfl) (fun v W h => h) ?_
                intro E W ec eg ef hG hd hu R HR1
                have e23 : E (.tmp 23) = .string (st TK) := hd 9 23 (by kernel_rfl)
                have e28 : E (.tmp 28) = .string (st XK) := hd 14 28 (by kernel_rfl)
                clear hd hu
                have hcm := HCM.out
                go_simp
                exact HR1.out _ _ (Below.refl _ _) rfl
              case s16 =>
                refine Grow.step_in (by rfl) (by rfl) ?_
                intro E W ec eg ef hG hd hu R HR1
                have e18 : E (.tmp 18) = .bool true := hd 4 18 (by kernel_rfl)
                have e29 : E (.tmp 29) = .bool false := hd 15 29 (by kernel_rfl)
                clear hd hu
                go_simp
                exact HR1.out _ _ (Below.refl _ _) rfl
            case gfin =>
              intro W hG
              refine Grow.fin_dst (by rfl) ?_
              rintro _ rfl
              refine Grow.fin_dst (by rfl) ?_
              rintro _ rfl
              refine Grow.fin_dst (by rfl) ?_
              rintro _ rfl
              refine Grow.fin_dst (by rfl) ?_
              rintro _ rfl
              refine Grow.fin_dst (by rfl) ?_
              rintro _ rfl
              refine Grow.fin_dst (by rfl) ?_
              rintro _ rfl
              refine Grow.fin_dst (by rfl) ?_
              rintro _ rfl
              refine Grow.fin_dst (by rfl) ?_
              rintro _ rfl
              refine Grow.fin_dst (by rfl) ?_
              rintro _ rfl
              refine Grow.fin_dst (by rfl) ?_
              rintro _ rfl
              refine Grow.fin_dst (by rfl) ?_
              rintro _ rfl
              refine Grow.fin_dst (by rfl) ?_
              rintro _ rfl
              refine Grow.fin_dst (by rfl) ?_
              rintro _ rfl
              refine Grow.fin_dst (by rfl) ?_
              rintro _ rfl
              refine Grow.fin_dst (by rfl) ?_
              rintro _ rfl
              refine Grow.fin_dst (by rfl) ?_
              rintro _ rfl
              refine Grow.fin_dst (by rfl) ?_
              rintro _ rfl
              simp only [Act.put, List.setIfInBounds_toArray, List.set_cons_zero, List.set_cons_succ]
              refine Grow.fin_end ?_
              have HB6 := Lib.hid (Grow.below_of_drew hG)
              clear hG
              have HBW := Lib.hid (HBW.out.trans (HB6.out.mono HBW.out.size))
              clear HCM HCT HCX
              have hsl8 := run_to3 (some ⟨b1, o1, none⟩) nt ct q (by have := HQ.out.1; have := HR.out.1.cap; omega) W
              obtain ⟨AO, cO, w8, hap8, hown8, hb8⟩ := own_cms_app2 (B := w1.heap.size) (l := []) (v := .slice none 0 0) (m := (tb2 T).take q) (n2 := q) (c2 := ct) (World.ownsRow_nil _ _ _ _) HBW.out.size ((HR.out.1.below HBW.out).to HQ.out.1) (by have := HLN.out; have := HQ.out.1; simp; omega) 36
              have htq : (tb2 T).take q = tb2 (T.take q) := by unfold tb2; rw [List.map_take]
              rw [List.nil_append, htq] at hap8 hown8
              obtain ⟨LO, hLO⟩ : ∃ LO, LO = tb2 (T.take q) := ⟨_, rfl⟩
              rw [← hLO] at hap8 hown8
              obtain ⟨NO, hNO⟩ : ∃ NO, NO = LO.length := ⟨_, rfl⟩
              have hOl : LO.length = q := by rw [hLO]; simp [tb2]; have := HLN.out; have := HQ.out.1; omega
              have hap8' := hap8
              rw [← hNO] at hap8'
              have HO := Lib.hid (And.intro hown8 (And.intro hNO (And.intro hOl hLO)))
              have HBW8 := Lib.hid (HBW.out.trans hb8)
              have hg9 : w8.cell? ⟨b2, o2 + j * 3 + 2, none⟩ = some (.bool G) := (HBW8.out.cell (p := ⟨_, _, none⟩) HXC.out.1).trans HXC.out.2.2.2
              clear hown8 hb8 htq HBW hap8 hNO hOl hLO
              go_upto_region 9 with (at_builtin; refine wpList_app (by rfl) _ _ 36 (by rfl) (by rfl) (by rfl) hap8' ?_)
              have HBW := HBW8
              clear HBW8 hap8' hsl8
              cases G
              · go_upto_region 10 with fail
                clear hg9
                have HCX : Hid (b2 < w8.drew.heap.size ∧ w8.drew.cell? ⟨b2, o2 + j * 3, none⟩ = some (.string (st XK)) ∧ w8.drew.cell? ⟨b2, o2 + j * 3 + 1, none⟩ = some (.string (st XV))) := Lib.hid ⟨Nat.lt_of_lt_of_le HXC.out.1 (HBW.out).size, (HBW.out.cell (p := ⟨_, _, none⟩) HXC.out.1).trans HXC.out.2.1, (HBW.out.cell (p := ⟨_, _, none⟩) HXC.out.1).trans HXC.out.2.2.1⟩
                refine (wpIn_wide (n := 3)).1 ?_
                refine wpIn_region_growP (Grow.open_wide _ _) (fun W W' => Below W.heap.size W W') (Grow.nth [fun v _ => v = .slice AO NO cO, fun v _ => v = .slice (some ⟨b2, o2, none⟩) n2 c2, fun v _ => v = .int .i64 (j : Int), fun v _ => v = .pointer (some ⟨b2, o2 + j * 3, none⟩), fun v _ => v = .pointer (some ⟨b2, o2 + j * 3, none⟩), fun v _ => v = .string (st XK), fun v _ => v = .slice (some ⟨b2, o2, none⟩) n2 c2, fun v _ => v = .int .i64 (j : Int), fun v _ => v = .pointer (some ⟨b2, o2 + j * 3, none⟩), fun v _ => v = .pointer (some ⟨b2, o2 + j * 3 + 1, none⟩), fun v _ => v = .string (st XV), fun v _ => v = .agg #[.string (st XK), .string (st XV), .bool false], fun v W => ∃ q2, v = .slice (some ⟨q2, 0, none⟩) 1 1 ∧ W.heap[q2]? = some (.cells #[.string (st XK), .string (st XV), .bool false] 97 (0, 0)) ∧ w8.heap.size ≤ q2]) 83 (by kernel_rfl) (by kernel_rfl) (by kernel_rfl) (by kernel_rfl) (by rfl) (fun W => Below.refl _ W) (fun _ _ _ h1 h2 => h1.trans (h2.mono h1.size)) (Grow.mono_nth ?gmono) 13 (by rfl) (by rfl) (by rfl) (by rfl) (by rfl) ?gsteps ?gfin
                case gmono => exact ⟨fun _ _ _ h _ => h, fun _ _ _ h _ => h, fun _ _ _ h _ => h, fun _ _ _ h _ => h, fun _ _ _ h _ => h, fun _ _ _ h _ => h, fun _ _ _ h _ => h, fun _ _ _ h _ => h, fun _ _ _ h _ => h, fun _ _ _ h _ => h, fun _ _ _ h _ => h, fun _ _ _ h _ => h, fun _ _ _ ⟨A, h1, h2, h3⟩ hg => ⟨A, h1, (hg.block A (lt_of_cells h2)).trans h2, h3⟩, trivial⟩
                case gsteps =>
                  show Grow.allBelow _ 13
                  refine And.intro ?_ ?s12
                  refine And.intro ?_ ?s11
                  refine And.intro ?_ ?s10
                  refine And.intro ?_ ?s9
                  refine And.intro ?_ ?s8
                  refine And.intro ?_ ?s7
                  refine And.intro ?_ ?s6
                  refine And.intro ?_ ?s5
                  refine And.intro ?_ ?s4
                  refine And.intro ?_ ?s3
                  refine And.intro ?_ ?s2
                  refine And.intro ?_ ?s1
                  refine And.intro ?_ ?s0
                  exact trivial
                  case s0 =>
                    refine Grow.step_in (by rfl) (by rfl) ?_
                    intro E W ec eg ef hG hd hu R HR1
                    have e6 : E (.tmp 6) = .slice AO NO cO := hu 6 (by kernel_rfl)
                    clear hd hu
                    go_simp
                    exact HR1.out _ _ (Below.refl _ _) rfl
                  case s1 =>
                    refine Grow.step_in (by rfl) (by rfl) ?_
                    intro E W ec eg ef hG hd hu R HR1
                    have e1 : E (.tmp 1) = .slice (some ⟨b2, o2, none⟩) n2 c2 := hu 1 (by kernel_rfl)
                    clear hd hu
                    go_simp
                    exact HR1.out _ _ (Below.refl _ _) rfl
                  case s2 =>
                    refine Grow.step_in (by rfl) (by rfl) ?_
                    intro E W ec eg ef hG hd hu R HR1
                    have e5 : E (.tmp 5) = .int .i64 (j : Int) := hu 5 (by kernel_rfl)
                    clear hd hu
                    go_simp
                    exact HR1.out _ _ (Below.refl _ _) rfl
                  case s3 =>
                    refine Grow.step_in (by rfl) (by rfl) ?_
                    intro E W ec eg ef hG hd hu R HR1
                    have e45 : E (.tmp 45) = .slice (some ⟨b2, o2, none⟩) n2 c2 := hd 1 45 (by kernel_rfl)
                    have e46 : E (.tmp 46) = .int .i64 (j : Int) := hd 2 46 (by kernel_rfl)
                    clear hd hu
                    have hjl := HX.out.2.1
                    go_simp
                    first | exact HR1.out _ _ (Below.refl _ _) rfl | (rw [if_pos ⟨by omega, by omega⟩]; exact HR1.out _ _ (Below.refl _ _) rfl)
                  case s4 =>
                    refine Grow.step_in (by rfl) (by rfl) ?_
                    intro E W ec eg ef hG hd hu R HR1
                    have e47 : E (.tmp 47) = .pointer (some ⟨b2, o2 + j * 3, none⟩) := hd 3 47 (by kernel_rfl)
                    clear hd hu
                    go_simp
                    exact HR1.out _ _ (Below.refl _ _) rfl
                  case s5 =>
                    refine Grow.step_in (by rfl) (by rfl) ?_
                    intro E W ec eg ef hG hd hu R HR1
                    have e48 : E (.tmp 48) = .pointer (some ⟨b2, o2 + j * 3, none⟩) := hd 4 48 (by kernel_rfl)
                    clear hd hu
                    have hcl := (hG.cell (p := ⟨b2, o2 + j * 3, none⟩) HCX.out.1).trans HCX.out.2.1
                    go_simp
                    exact HR1.out _ _ (Below.refl _ _) rfl
                  case s6 =>
                    refine Grow.step_in (by rfl) (by rfl) ?_
                    intro E W ec eg ef hG hd hu R HR1
                    have e1 : E (.tmp 1) = .slice (some ⟨b2, o2, none⟩) n2 c2 := hu 1 (by kernel_rfl)
                    clear hd hu
                    go_simp
                    exact HR1.out _ _ (Below.refl _ _) rfl
                  case s7 =>
                    refine Grow.step_in (by rfl) (by rfl) ?_
                    intro E W ec eg ef hG hd hu R HR1
                    have e5 : E (.tmp 5) = .int .i64 (j : Int) := hu 5 (by kernel_rfl)
                    clear hd hu
                    go_simp
                    exact HR1.out _ _ (Below.refl _ _) rfl
                  case s8 =>
                    refine Grow.step_in (by rfl) (by rfl) ?_
                    intro E W ec eg ef hG hd hu R HR1
                    have e50 : E (.tmp 50) = .slice (some ⟨b2, o2, none⟩) n2 c2 := hd 6 50 (by kernel_rfl)
                    have e51 : E (.tmp 51) = .int .i64 (j : Int) := hd 7 51 (by kernel_rfl)
                    clear hd hu
                    have hjl := HX.out.2.1
                    go_simp
                    first | exact HR1.out _ _ (Below.refl _ _) rfl | (rw [if_pos ⟨by omega, by omega⟩]; exact HR1.out _ _ (Below.refl _ _) rfl)
                  case s9 =>
                    refine Grow.step_in (by rfl) (by rfl) ?_
                    intro E W ec eg ef hG hd hu R HR1
                    have e52 : E (.tmp 52) = .pointer (some ⟨b2, o2 + j * 3, none⟩) := hd 8 52 (by kernel_rfl)
                    clear hd hu
                    go_simp
                    exact HR1.out _ _ (Below.refl _ _) rfl
                  case s10 =>
                    refine Grow.step_in (by rfl) (by rfl) ?_
                    intro E W ec eg ef hG hd hu R HR1
                    have e53 : E (.tmp 53) = .pointer (some ⟨b2, o2 + j * 3 + 1, none⟩) := hd 9 53 (by kernel_rfl)
                    clear hd hu
                    have hcl := (hG.cell (p := ⟨b2, o2 + j * 3 + 1, none⟩) HCX.out.1).trans HCX.out.2.2
                    go_simp
                    exact HR1.out _ _ (Below.refl _ _) rfl
                  case s11 =>
                    refine Grow.step_in (by rfl) (by rfl) ?_
                    intro E W ec eg ef hG hd hu R HR1
                    have e49 : E (.tmp 49) = .string (st XK) := hd 5 49 (by kernel_rfl)
                    have e54 : E (.tmp 54) = .string (st XV) := hd 10 54 (by kernel_rfl)
                    clear hd hu
                    go_simp
                    exact HR1.out _ _ (Below.refl _ _) rfl
                  case s12 =>
                    refine Grow.step_in (by rfl) (by rfl) ?_
                    intro E W ec eg ef hG hd hu R HR1
                    have e55 : E (.tmp 55) = .agg #[.string (st XK), .string (st XV), .bool false] := hd 11 55 (by kernel_rfl)
                    clear hd hu
                    go_simp
                    exact HR1.out _ _ ((Below.refl _ _).alloc (Nat.le_refl _) _) ⟨_, rfl, heap_alloc_new W _, by have h1 := hG.size; have h2 : w8.drew.heap.size = w8.heap.size := rfl; omega⟩
                case gfin =>
                  intro W hG
                  refine Grow.fin_dst (by rfl) ?_
                  rintro _ rfl
                  refine Grow.fin_dst (by rfl) ?_
                  rintro _ rfl
                  refine Grow.fin_dst (by rfl) ?_
                  rintro _ rfl
                  refine Grow.fin_dst (by rfl) ?_
                  rintro _ rfl
                  refine Grow.fin_dst (by rfl) ?_
                  rintro _ rfl
                  refine Grow.fin_dst (by rfl) ?_
                  rintro _ rfl
                  refine Grow.fin_dst (by rfl) ?_
                  rintro _ rfl
                  refine Grow.fin_dst (by rfl) ?_
                  rintro _ rfl
                  refine Grow.fin_dst (by rfl) ?_
                  rintro _ rfl
                  refine Grow.fin_dst (by rfl) ?_
                  rintro _ rfl
                  refine Grow.fin_dst (by rfl) ?_
                  rintro _ rfl
                  refine Grow.fin_dst (by rfl) ?_
                  rintro _ rfl
                  refine Grow.fin_dst (by rfl) ?_
                  rintro _ ⟨q10, rfl, hq10⟩
                  simp only [Act.put, List.setIfInBounds_toArray, List.set_cons_zero, List.set_cons_succ]
                  refine Grow.fin_end ?_
                  have HB10 := Lib.hid (Grow.below_of_drew hG)
                  clear hG
                  have hq10' := hq10.1
                  obtain ⟨A10, c10, w10, hap10, hown10, hb10⟩ := own_cms_app (m := [⟨XK, XV, false⟩]) (n2 := 1) (c2 := 1) (a := ⟨q10, 0, none⟩) (own_below HO.out.1 HB10.out) (Nat.le_trans HBW.out.size HB10.out.size) rfl (fun o u hu => by
                    rw [add_plain, Nat.zero_add, cell_of_cells hq10']
                    simpa [cmCells, cmV] using hu) (by have h1 := HLN.out; have h2 := HQ.out.1; have h3 := HO.out.2.2.1; omega) 36
                  obtain ⟨L10, hL10⟩ : ∃ L10, L10 = LO ++ [⟨XK, XV, false⟩] := ⟨_, rfl⟩
                  rw [← hL10] at hap10 hown10
                  obtain ⟨N10, hN10⟩ : ∃ N10, N10 = L10.length := ⟨_, rfl⟩
                  rw [← hN10] at hap10
                  rw [← HO.out.2.1] at hap10
                  have hlen10 : L10.length = q + 1 := by rw [hL10, List.length_append, HO.out.2.2.1]; rfl
                  have HO10 := Lib.hid (And.intro hown10 (And.intro hN10 (And.intro hlen10 (hL10.trans (by rw [HO.out.2.2.2]) : L10 = tb2 (T.take q) ++ [⟨XK, XV, false⟩]))))
                  have HBW := Lib.hid (HBW.out.trans ((HB10.out.mono HBW.out.size).trans hb10))
                  clear hown10 hN10 hlen10 hL10 hb10 hq10' hq10 HO
                  refine operIn_app _ _ 36 (by rfl) (by rfl) (by rfl) hap10 ?_
                  gi_wp2_with fail
                  go_upto_region 11 with fail
                  clear hap10
                  by_cases hek : TK = XK
                  · have hcm0 := st_beq TK XK
                    rw [decide_eq_true hek] at hcm0
                    have HCM := Lib.hid hcm0
                    have HEK := Lib.hid hek
                    clear hek hcm0
                    have HCX : Hid (b2 < w10.drew.heap.size ∧ w10.drew.cell? ⟨b2, o2 + j * 3, none⟩ = some (.string (st XK)) ∧ w10.drew.cell? ⟨b2, o2 + j * 3 + 1, none⟩ = some (.string (st XV))) := Lib.hid ⟨Nat.lt_of_lt_of_le HXC.out.1 (HBW.out).size, (HBW.out.cell (p := ⟨_, _, none⟩) HXC.out.1).trans HXC.out.2.1, (HBW.out.cell (p := ⟨_, _, none⟩) HXC.out.1).trans HXC.out.2.2.1⟩
                    have HCT : Hid (b1 < w10.drew.heap.size ∧ w10.drew.cell? ⟨b1, o1 + q * 3, none⟩ = some (.string (st TK))) := Lib.hid ⟨Nat.lt_of_lt_of_le HTC.out.1 (HBW.out).size, (HBW.out.cell (p := ⟨_, _, none⟩) HTC.out.1).trans HTC.out.2⟩
                    refine wp_region_grow (fun W W' => Below W.heap.size W W') (Grow.nth [fun v _ => v = .int .i64 (q : Int), fun v _ => v = .slice (some ⟨b1, o1, none⟩) nt ct, fun v _ => v = .int .i64 (nt : Int), fun v _ => v = .bool true, fun v _ => v = .bool true, fun v _ => v = .slice (some ⟨b1, o1, none⟩) nt ct, fun v _ => v = .int .i64 (q : Int), fun v _ => v = .pointer (some ⟨b1, o1 + q * 3, none⟩), fun v _ => v = .pointer (some ⟨b1, o1 + q * 3, none⟩), fun v _ => v = .string (st TK), fun v _ => v = .slice (some ⟨b2, o2, none⟩) n2 c2, fun v _ => v = .int .i64 (j : Int), fun v _ => v = .pointer (some ⟨b2, o2 + j * 3, none⟩), fun v _ => v = .pointer (some ⟨b2, o2 + j * 3, none⟩), fun v _ => v = .string (st XK), fun v _ => v = .bool true, fun v _ => v = .bool true]) 83 (by kernel_rfl) (by kernel_rfl) (by rfl) (fun W => Below.refl _ W) (fun _ _ _ h1 h2 => h1.trans (h2.mono h1.size)) (Grow.mono_nth ?gmono) ?gsteps ?gfin
                    case gmono => exact ⟨fun _ _ _ h _ => h, fun _ _ _ h _ => h, fun _ _ _ h _ => h, fun _ _ _ h _ => h, fun _ _ _ h _ => h, fun _ _ _ h _ => h, fun _ _ _ h _ => h, fun _ _ _ h _ => h, fun _ _ _ h _ => h, fun _ _ _ h _ => h, fun _ _ _ h _ => h, fun _ _ _ h _ => h, fun _ _ _ h _ => h, fun _ _ _ h _ => h, fun _ _ _ h _ => h, fun _ _ _ h _ => h, fun _ _ _ h _ => h, trivial⟩
                    case gsteps =>
                      show Grow.allBelow _ 17
                      refine And.intro ?_ ?s16
                      refine And.intro ?_ ?s15
                      refine And.intro ?_ ?s14
                      refine And.intro ?_ ?s13
                      refine And.intro ?_ ?s12
                      refine And.intro ?_ ?s11
                      refine And.intro ?_ ?s10
                      refine And.intro ?_ ?s9
                      refine And.intro ?_ ?s8
                      refine And.intro ?_ ?s7
                      refine And.intro ?_ ?s6
                      refine And.intro ?_ ?s5
                      refine And.intro ?_ ?s4
                      refine And.intro ?_ ?s3
                      refine And.intro ?_ ?s2
                      refine And.intro ?_ ?s1
                      refine And.intro ?_ ?s0
                      exact trivial
                      case s0 =>
                        refine Grow.step_in (by rfl) (by rfl) ?_
                        intro E W ec eg ef hG hd hu R HR1
                        have e7 : E (.tmp 7) = .int .i64 (q : Int) := hu 7 (by kernel_rfl)
                        clear hd hu
                        go_simp
                        exact HR1.out _ _ (Below.refl _ _) rfl
                      case s1 =>
                        refine Grow.step_in (by rfl) (by rfl) ?_
                        intro E W ec eg ef hG hd hu R HR1
                        have e0 : E (.tmp 0) = .slice (some ⟨b1, o1, none⟩) nt ct := hu 0 (by kernel_rfl)
                        clear hd hu
                        go_simp
                        exact HR1.out _ _ (Below.refl _ _) rfl
                      case s2 =>
                        refine Grow.step_in (by rfl) (by rfl) ?_
                        intro E W ec eg ef hG hd hu R HR1
                        have e59 : E (.tmp 59) = .slice (some ⟨b1, o1, none⟩) nt ct := hd 1 59 (by kernel_rfl)
                        clear hd hu
                        go_simp
                        exact HR1.out _ _ (Below.refl _ _) rfl
                      case s3 =>
                        refine Grow.step_in (by rfl) (by rfl) ?_
                        intro E W ec eg ef hG hd hu R HR1
                        have e58 : E (.tmp 58) = .int .i64 (q : Int) := hd 0 58 (by kernel_rfl)
                        have e60 : E (.tmp 60) = .int .i64 (nt : Int) := hd 2 60 (by kernel_rfl)
                        clear hd hu
                        have hqn := HQN.out
                        go_simp
                        exact HR1.out _ _ (Below.refl _ _) rfl
                      case s4 =>
                        refine Grow.step_in (by rfl) (by rfl) ?_
                        intro E W ec eg ef hG hd hu R HR1
                        have e61 : E (.tmp 61) = .bool true := hd 3 61 (by kernel_rfl)
                        clear hd hu
                        go_simp
                        exact HR1.out _ _ (Below.refl _ _) rfl
                      case s5 =>
                        refine Grow.step_on (g := 4) (b := true) (d := 62) (by rfl) (by rfl) (by rfl) (by kernel_rfl) (fun v W h => h) ?_
                        intro E W ec eg ef hG hd hu R HR1
                        have e0 : E (.tmp 0) = .slice (some ⟨b1, o1, none⟩) nt ct := hu 0 (by kernel_rfl)
                        clear hd hu
                        go_simp
                        exact HR1.out _ _ (Below.refl _ _) rfl
                      case s6 =>
                        refine Grow.step_on (g := 4) (b := true) (d := 62) (by rfl) (by rfl) (by rfl) (by kernel_rfl) (fun v W h => h) ?_
                        intro E W ec eg ef hG hd hu R HR1
                        have e7 : E (.tmp 7) = .int .i64 (q : Int) := hu 7 (by kernel_rfl)
                        clear hd hu
                        go_simp
                        exact HR1.out _ _ (Below.refl _ _) rfl
                      case s7 =>
                        refine Grow.step_on (g := 4) (b := true) (d := 62) (by rfl) (by rfl) (by rfl) (by kernel_rfl) (fun v W h => h) ?_
                        intro E W ec eg ef hG hd hu R HR1
                        have e63 : E (.tmp 63) = .slice (some ⟨b1, o1, none⟩) nt ct := hd 5 63 (by kernel_rfl)
                        have e64 : E (.tmp 64) = .int .i64 (q : Int) := hd 6 64 (by kernel_rfl)
                        clear hd hu
                        have hql := HQ.out.2.2.2.2
                        go_simp
                        first | exact HR1.out _ _ (Below.refl _ _) rfl | (rw [if_pos ⟨by omega, by omega⟩]; exact HR1.out _ _ (Below.refl _ _) rfl)
                      case s8 =>
                        refine Grow.step_on (g := 4) (b := true) (d := 62) (by rfl) (by rfl) (by rfl) (by kernel_rfl) (fun v W h => h) ?_
                        intro E W ec eg ef hG hd hu R HR1
                        have e65 : E (.tmp 65) = .pointer (some ⟨b1, o1 + q * 3, none⟩) := hd 7 65 (by kernel_rfl)
                        clear hd hu
                        go_simp
                        exact HR1.out _ _ (Below.refl _ _) rfl
                      case s9 =>
                        refine Grow.step_on (g := 4) (b := true) (d := 62) (by rfl) (by rfl) (by rfl) (by kernel_rfl) (fun v W h => h) ?_
                        intro E W ec eg ef hG hd hu R HR1
                        have e66 : E (.tmp 66) = .pointer (some ⟨b1, o1 + q * 3, none⟩) := hd 8 66 (by kernel_rfl)
                        clear hd hu
                        have hcl := (hG.cell (p := ⟨b1, o1 + q * 3, none⟩) HCT.out.1).trans HCT.out.2
                        go_simp
                        exact HR1.out _ _ (Below.refl _ _) rfl
                      case s10 =>
                        refine Grow.step_on (g := 4) (b := true) (d := 62) (by rfl) (by rfl) (by rfl) (by kernel_rfl) (fun v W h => h) ?_
                        intro E W ec eg ef hG hd hu R HR1
                        have e1 : E (.tmp 1) = .slice (some ⟨b2, o2, none⟩) n2 c2 := hu 1 (by kernel_rfl)
                        clear hd hu
                        go_simp
                        exact HR1.out _ _ (Below.refl _ _) rfl
                      case s11 =>
                        refine Grow.step_on (g := 4) (b := true) (d := 62) (by rfl) (by rfl) (by rfl) (by kernel_rfl) (fun v W h => h) ?_
                        intro E W ec eg ef hG hd hu R HR1
                        have e5 : E (.tmp 5) = .int .i64 (j : Int) := hu 5 (by kernel_rfl)
                        clear hd hu
                        go_simp
                        exact HR1.out _ _ (Below.refl _ _) rfl
                      case s12 =>
                        refine Grow.step_on (g := 4) (b := true) (d := 62) (by rfl) (by rfl) (by rfl) (by kernel_rfl) (fun v W h => h) ?_
                        intro E W ec eg ef hG hd hu R HR1
                        have e68 : E (.tmp 68) = .slice (some ⟨b2, o2, none⟩) n2 c2 := hd 10 68 (by kernel_rfl)
                        have e69 : E (.tmp 69) = .int .i64 (j : Int) := hd 11 69 (by kernel_rfl)
                        clear hd hu
                        have hjl := HX.out.2.1
                        go_simp
                        first | exact HR1.out _ _ (Below.refl _ _) rfl | (rw [if_pos ⟨by omega, by omega⟩]; exact HR1.out _ _ (Below.refl _ _) rfl)
                      case s13 =>
                        refine Grow.step_on (g := 4) (b := true) (d := 62) (by rfl) (by rfl) (by rfl) (by kernel_rfl) (fun v W h => h) ?_
                        intro E W ec eg ef hG hd hu R HR1
                        have e70 : E (.tmp 70) = .pointer (some ⟨b2, o2 + j * 3, none⟩) := hd 12 70 (by kernel_rfl)
                        clear hd hu
                        go_simp
                        exact HR1.out _ _ (Below.refl _ _) rfl
                      case s14 =>
                        refine Grow.step_on (g := 4) (b := true) (d := 62) (by rfl) (by rfl) (by rfl) (by kernel_rfl) (fun v W h => h) ?_
                        intro E W ec eg ef hG hd hu R HR1
                        have e71 : E (.tmp 71) = .pointer (some ⟨b2, o2 + j * 3, none⟩) := hd 13 71 (by kernel_rfl)
                        clear hd hu
                        have hcl := (hG.cell (p := ⟨b2, o2 + j * 3, none⟩) HCX.out.1).trans HCX.out.2.1
                        go_simp
                        exact HR1.out _ _ (Below.refl _ _) rfl
                      case s15 =>
                        refine Grow.step_on (g := 4) (b := true) (d := 62) (by rfl) (by rfl) (by rfl) (by kernel_rfl) (fun v W h => h) ?_
                        intro E W ec eg ef hG hd hu R HR1
                        have e67 : E (.tmp 67) = .string (st TK) := hd 9 67 (by kernel_rfl)
                        have e72 : E (.tmp 72) = .string (st XK) := hd 14 72 (by kernel_rfl)
                        clear hd hu
                        have hcm := HCM.out
                        go_simp
                        exact HR1.out _ _ (Below.refl _ _) rfl
                      case s16 =>
                        refine Grow.step_in (by rfl) (by rfl) ?_
                        intro E W ec eg ef hG hd hu R HR1
                        have e62 : E (.tmp 62) = .bool true := hd 4 62 (by kernel_rfl)
                        have e73 : E (.tmp 73) = .bool true := hd 15 73 (by kernel_rfl)
                        clear hd hu
                        go_simp
                        exact HR1.out _ _ (Below.refl _ _) rfl
                    case gfin =>
                      intro W hG
                      refine Grow.fin_dst (by rfl) ?_
                      rintro _ rfl
                      refine Grow.fin_dst (by rfl) ?_
                      rintro _ rfl
                      refine Grow.fin_dst (by rfl) ?_
                      rintro _ rfl
                      refine Grow.fin_dst (by rfl) ?_
                      rintro _ rfl
                      refine Grow.fin_dst (by rfl) ?_
                      rintro _ rfl
                      refine Grow.fin_dst (by rfl) ?_
                      rintro _ rfl
                      refine Grow.fin_dst (by rfl) ?_
                      rintro _ rfl
                      refine Grow.fin_dst (by rfl) ?_
                      rintro _ rfl
                      refine Grow.fin_dst (by rfl) ?_
                      rintro _ rfl
                      refine Grow.fin_dst (by rfl) ?_
                      rintro _ rfl
                      refine Grow.fin_dst (by rfl) ?_
                      rintro _ rfl
                      refine Grow.fin_dst (by rfl) ?_
                      rintro _ rfl
                      refine Grow.fin_dst (by rfl) ?_
                      rintro _ rfl
                      refine Grow.fin_dst (by rfl) ?_
                      rintro _ rfl
                      refine Grow.fin_dst (by rfl) ?_
                      rintro _ rfl
                      refine Grow.fin_dst (by rfl) ?_
                      rintro _ rfl
                      refine Grow.fin_dst (by rfl) ?_
                      rintro _ rfl
                      simp only [Act.put, List.setIfInBounds_toArray, List.set_cons_zero, List.set_cons_succ]
                      refine Grow.fin_end ?_
                      have HB11 := Lib.hid (Grow.below_of_drew hG)
                      clear hG
                      have HBW := Lib.hid (HBW.out.trans (HB11.out.mono HBW.out.size))
                      have HO10 := Lib.hid (And.intro (own_below HO10.out.1 HB11.out) HO10.out.2)
                      obtain ⟨AT, hAT⟩ : ∃ AT : Option Addr, AT = some ⟨b1, o1, none⟩ := ⟨_, rfl⟩
                      rw [← hAT]
                      rw [← hAT] at HR
                      clear hAT
                      have hsl13 := run_cut3 AT nt ct (q + 1) (by have := HQ.out.2.2.2.2; omega) W
                      rw [show ((q + 1 : Nat) : Int) = (q : Int) + 1 by simp] at hsl13
                      obtain ⟨A13, c13, w13, hap13, hown13, hb13⟩ := own_cms_app2 (m := (tb2 T).drop (q + 1)) (n2 := nt - (q + 1)) (c2 := ct - (q + 1)) HO10.out.1 HBW.out.size ((HR.out.1.below HBW.out).cut (by have := HQ.out.2.2.2.2; omega)) (by have h1 := HLN.out; have h2 := HO10.out.2.2.1; have h3 := HQ.out.1; omega) 36
                      obtain ⟨L13, hL13⟩ : ∃ L13, L13 = L10 ++ (tb2 T).drop (q + 1) := ⟨_, rfl⟩
                      rw [← hL13] at hap13 hown13
                      obtain ⟨A14, c14, hv14, hc14⟩ := own_cms hown13
                      injection hv14 with e1 e2 e3
                      subst e1 e3
                      obtain ⟨N13, hN13⟩ : ∃ N13, N13 = L13.length := ⟨_, rfl⟩
                      rw [← hN13] at hap13 hc14
                      rw [← HO10.out.2.1] at hap13
                      have H13 := Lib.hid (And.intro hc14 (And.intro hb13 hL13))
                      clear hc14 hb13 hL13 hown13 hN13 e2
                      go_wp2_with (at_builtin; refine wpList_app (by rfl) _ _ 36 (by rfl) (by rfl) (by rfl) hap13 ?_)
                      go_roundw
                      case rel =>
                        have hb := HBW.out.trans H13.out.2.1
                        have hx := HX.out
                        have hif : (if T[q]?.map (·.1) = some X.k then q + 1 else q) = (q + 1) := by
                          rw [← hx.2.2.1]
                          exact if_pos (by rw [HQ.out.2.2.1]; show some P.1 = some XK; rw [← HQ.out.2.2.2.1, HEK.out])
                        have hlist : tb2 (doL t (l.take (j + 1))) = L13 := by
                          have e : l.take (j + 1) = l.take j ++ [X] := by rw [List.take_add_one, hx.1]; rfl
                          have e4 : doL t (l.take (j + 1)) = doC T X := by rw [e, HR.out.2.2.1]; unfold doL; rw [List.foldl_append]; rfl
                          rw [e4, do_at HR.out.2.2.2 (q := q) (by rw [← hx.2.2.1]; exact HQ.out.2.1) (by rw [← hx.2.2.1]; exact fun p hp => by rw [HQ.out.2.2.1] at hp; injection hp with hp; rw [← hp, ← HQ.out.2.2.2.1]; exact HNL.out), H13.out.2.2, HO10.out.2.2.2, hif, ← hx.2.2.1, ← hx.2.2.2.1, ← hx.2.2.2.2.1]
                          simp [tb2, List.map_drop]
                        unfold RDo
                        exact ⟨j + 1, A13, N13, c13, by have := HS.out.2.2.2.1; omega, by simp, rfl, by rw [hlist]; exact H13.out.1.mono fun k _ hk => .inr (Nat.le_trans HR.out.2.1.size hk), HR.out.2.1.trans (hb.mono HR.out.2.1.size)⟩
                      case measure => simp only [intOf]; have h1 := HX.out.2.1; omega
                  · have hcm0 := st_beq TK XK
                    rw [decide_eq_false hek] at hcm0
                    have HCM := Lib.hid hcm0
                    have HEK := Lib.hid hek
                    clear hek hcm0
                    have HCX : Hid (b2 < w10.drew.heap.size ∧ w10.drew.cell? ⟨b2, o2 + j * 3, none⟩ = some (.string (st XK)) ∧ w10.drew.cell? ⟨b2, o2 + j * 3 + 1, none⟩ = some (.string (st XV))) := Lib.hid ⟨Nat.lt_of_lt_of_le HXC.out.1 (HBW.out).size, (HBW.out.cell (p := ⟨_, _, none⟩) HXC.out.1).trans HXC.out.2.1, (HBW.out.cell (p := ⟨_, _, none⟩) HXC.out.1).trans HXC.out.2.2.1⟩
                    have HCT : Hid (b1 < w10.drew.heap.size ∧ w10.drew.cell? ⟨b1, o1 + q * 3, none⟩ = some (.string (st TK))) := Lib.hid ⟨Nat.lt_of_lt_of_le HTC.out.1 (HBW.out).size, (HBW.out.cell (p := ⟨_, _, none⟩) HTC.out.1).trans HTC.out.2⟩
                    refine wp_region_grow (fun W W' => Below W.heap.size W W') (Grow.nth [fun v _ => v = .int .i64 (q : Int), fun v _ => v = .slice (some ⟨b1, o1, none⟩) nt ct, fun v _ => v = .int .i64 (nt : Int), fun v _ => v = .bool true, fun v _ => v = .bool true, fun v _ => v = .slice (some ⟨b1, o1, none⟩) nt ct, fun v _ => v = .int .i64 (q : Int), fun v _ => v = .pointer (some ⟨b1, o1 + q * 3, none⟩), fun v _ => v = .pointer (some ⟨b1, o1 + q * 3, none⟩), fun v _ => v = .string (st TK), fun v _ => v = .slice (some ⟨b2, o2, none⟩) n2 c2, fun v _ => v = .int .i64 (j : Int), fun v _ => v = .pointer (some ⟨b2, o2 + j * 3, none⟩), fun v _ => v = .pointer (some ⟨b2, o2 + j * 3, none⟩), fun v _ => v = .string (st XK), fun v _ => v = .bool false, fun v _ => v = .bool false]) 83 (by kernel_rfl) (by kernel_rfl) (by rfl) (fun W => Below.refl _ W) (fun _ _ _ h1 h2 => h1.trans (h2.mono h1.size)) (Grow.mono_nth ?gmono) ?gsteps ?gfin
                    case gmono => exact ⟨fun _ _ _ h _ => h, fun _ _ _ h _ => h, fun _ _ _ h _ => h, fun _ _ _ h _ => h, fun _ _ _ h _ => h, fun _ _ _ h _ => h, fun _ _ _ h _ => h, fun _ _ _ h _ => h, fun _ _ _ h _ => h, fun _ _ _ h _ => h, fun _ _ _ h _ => h, fun _ _ _ h _ => h, fun _ _ _ h _ => h, fun _ _ _ h _ => h, fun _ _ _ h _ => h, fun _ _ _ h _ => h, fun _ _ _ h _ => h, trivial⟩
                    case gsteps =>
                      show Grow.allBelow _ 17
                      refine And.intro ?_ ?s16
                      refine And.intro ?_ ?s15
                      refine And.intro ?_ ?s14
                      refine And.intro ?_ ?s13
                      refine And.intro ?_ ?s12
                      refine And.intro ?_ ?s11
                      refine And.intro ?_ ?s10
                      refine And.intro ?_ ?s9
                      refine And.intro ?_ ?s8
                      refine And.intro ?_ ?s7
                      refine And.intro ?_ ?s6
                      refine And.intro ?_ ?s5
                      refine And.intro ?_ ?s4
                      refine And.intro ?_ ?s3
                      refine And.intro ?_ ?s2
                      refine And.intro ?_ ?s1
                      refine And.intro ?_ ?s0
                      exact trivial
                      case s0 =>
                        refine Grow.step_in (by rfl) (by rfl) ?_
                        intro E W ec eg ef hG hd hu R HR1
                        have e7 : E (.tmp 7) = .int .i64 (q : Int) := hu 7 (by kernel_rfl)
                        clear hd hu
                        go_simp
                        exact HR1.out _ _ (Below.refl _ _) rfl
                      case s1 =>
                        refine Grow.step_in (by rfl) (by rfl) ?_
                        intro E W ec eg ef hG hd hu R HR1
                        have e0 : E (.tmp 0) = .slice (some ⟨b1, o1, none⟩) nt ct := hu 0 (by kernel_rfl)
                        clear hd hu
                        go_simp
                        exact HR1.out _ _ (Below.refl _ _) rfl
                      case s2 =>
                        refine Grow.step_in (by rfl) (by rfl) ?_
                        intro E W ec eg ef hG hd hu R HR1
                        have e59 : E (.tmp 59) = .slice (some ⟨b1, o1, none⟩) nt ct := hd 1 59 (by kernel_rfl)
                        clear hd hu
                        go_simp
                        exact HR1.out _ _ (Below.refl _ _) rfl
                      case s3 =>
                        refine Grow.step_in (by rfl) (by rfl) ?_
                        intro E W ec eg ef hG hd hu R HR1
                        have e58 : E (.tmp 58) = .int .i64 (q : Int) := hd 0 58 (by kernel_rfl)
                        have e60 : E (.tmp 60) = .int .i64 (nt : Int) := hd 2 60 (by kernel_rfl)
                        clear hd hu
                        have hqn := HQN.out
                        go_simp
                        exact HR1.out _ _ (Below.refl _ _) rfl
                      case s4 =>
                        refine Grow.step_in (by rfl) (by rfl) ?_
                        intro E W ec eg ef hG hd hu R HR1
                        have e61 : E (.tmp 61) = .bool true := hd 3 61 (by kernel_rfl)
                        clear hd hu
                        go_simp
                        exact HR1.out _ _ (Below.refl _ _) rfl
                      case s5 =>
                        refine Grow.step_on (g := 4) (b := true) (d := 62) (by rfl) (by rfl) (by rfl) (by kernel_rfl) (fun v W h => h) ?_
                        intro E W ec eg ef hG hd hu R HR1
                        have e0 : E (.tmp 0) = .slice (some ⟨b1, o1, none⟩) nt ct := hu 0 (by kernel_rfl)
                        clear hd hu
                        go_simp
                        exact HR1.out _ _ (Below.refl _ _) rfl
                      case s6 =>
                        refine Grow.step_on (g := 4) (b := true) (d := 62) (by rfl) (by rfl) (by rfl) (by kernel_rfl) (fun v W h => h) ?_
                        intro E W ec eg ef hG hd hu R HR1
                        have e7 : E (.tmp 7) = .int .i64 (q : Int) := hu 7 (by kernel_rfl)
                        clear hd hu
                        go_simp
                        exact HR1.out _ _ (Below.refl _ _) rfl
                      case s7 =>
                        refine Grow.step_on (g := 4) (b := true) (d := 62) (by rfl) (by rfl) (by rfl) (by kernel_rfl) (fun v W h => h) ?_
                        intro E W ec eg ef hG hd hu R HR1
                        have e63 : E (.tmp 63) = .slice (some ⟨b1, o1, none⟩) nt ct := hd 5 63 (by kernel_rfl)
                        have e64 : E (.tmp 64) = .int .i64 (q : Int) := hd 6 64 (by kernel_rfl)
                        clear hd hu
                        have hql := HQ.out.2.2.2.2
                        go_simp
                        first | exact HR1.out _ _ (Below.refl _ _) rfl | (rw [if_pos ⟨by omega, by omega⟩]; exact HR1.out _ _ (Below.refl _ _) rfl)
                      case s8 =>
                        refine Grow.step_on (g := 4) (b := true) (d := 62) (by rfl) (by rfl) (by rfl) (by kernel_rfl) (fun v W h => h) ?_
                        intro E W ec eg ef hG hd hu R HR1
                        have e65 : E (.tmp 65) = .pointer (some ⟨b1, o1 + q * 3, none⟩) := hd 7 65 (by kernel_rfl)
                        clear hd hu
                        go_simp
                        exact HR1.out _ _ (Below.refl _ _) rfl
                      case s9 =>
                        refine Grow.step_on (g := 4) (b := true) (d := 62) (by rfl) (by rfl) (by rfl) (by kernel_rfl) (fun v W h => h) ?_
                        intro E W ec eg ef hG hd hu R HR1
                        have e66 : E (.tmp 66) = .pointer (some ⟨b1, o1 + q * 3, none⟩) := hd 8 66 (by kernel_rfl)
                        clear hd hu
                        have hcl := (hG.cell (p := ⟨b1, o1 + q * 3, none⟩) HCT.out.1).trans HCT.out.2
                        go_simp
                        exact HR1.out _ _ (Below.refl _ _) rfl
                      case s10 =>
                        refine Grow.step_on (g := 4) (b := true) (d := 62) (by rfl) (by rfl) (by rfl) (by kernel_rfl) (fun v W h => h) ?_
                        intro E W ec eg ef hG hd hu R HR1
                        have e1 : E (.tmp 1) = .slice (some ⟨b2, o2, none⟩) n2 c2 := hu 1 (by kernel_rfl)
                        clear hd hu
                        go_simp
                        exact HR1.out _ _ (Below.refl _ _) rfl
                      case s11 =>
                        refine Grow.step_on (g := 4) (b := true) (d := 62) (by rfl) (by rfl) (by rfl) (by kernel_rfl) (fun v W h => h) ?_
                        intro E W ec eg ef hG hd hu R HR1
                        have e5 : E (.tmp 5) = .int .i64 (j : Int) := hu 5 (by kernel_rfl)
                        clear hd hu
                        go_simp
                        exact HR1.out _ _ (Below.refl _ _) rfl
                      case s12 =>
                        refine Grow.step_on (g := 4) (b := true) (d := 62) (by rfl) (by rfl) (by rfl) (by kernel_rfl) (fun v W h => h) ?_
                        intro E W ec eg ef hG hd hu R HR1
                        have e68 : E (.tmp 68) = .slice (some ⟨b2, o2, none⟩) n2 c2 := hd 10 68 (by kernel_rfl)
                        have e69 : E (.tmp 69) = .int .i64 (j : Int) := hd 11 69 (by kernel_rfl)
                        clear hd hu
                        have hjl := HX.out.2.1
                        go_simp
                        first | exact HR1.out _ _ (Below.refl _ _) rfl | (rw [if_pos ⟨by omega, by omega⟩]; exact HR1.out _ _ (Below.refl _ _) rfl)
                      case s13 =>
                        refine Grow.step_on (g := 4) (b := true) (d := 62) (by rfl) (by rfl) (by rfl) (by kernel_rfl) (fun v W h => h) ?_
                        intro E W ec eg ef hG hd hu R HR1
                        have e70 : E (.tmp 70) = .pointer (some ⟨b2, o2 + j * 3, none⟩) := hd 12 70 (by kernel_rfl)
                        clear hd hu
                        go_simp
                        exact HR1.out _ _ (Below.refl _ _) rfl
                      case s14 =>
                        refine Grow.step_on (g := 4) (b := true) (d := 62) (by rfl) (by rfl) (by rfl) (by kernel_rfl) (fun v W h => h) ?_
                        intro E W ec eg ef hG hd hu R HR1
                        have e71 : E (.tmp 71) = .pointer (some ⟨b2, o2 + j * 3, none⟩) := hd 13 71 (by kernel_rfl)
                        clear hd hu
                        have hcl := (hG.cell (p := ⟨b2, o2 + j * 3, none⟩) HCX.out.1).trans HCX.out.2.1
                        go_simp
                        exact HR1.out _ _ (Below.refl _ _) rfl
                      case s15 =>
                        refine Grow.step_on (g := 4) (b := true) (d := 62) (by rfl) (by rfl) (by rfl) (by kernel_rfl) (fun v W h => h) ?_
                        intro E W ec eg ef hG hd hu R HR1
                        have e67 : E (.tmp 67) = .string (st TK) := hd 9 67 (by kernel_rfl)
                        have e72 : E (.tmp 72) = .string (st XK) := hd 14 72 (by kernel_rfl)
                        clear hd hu
                        have hcm := HCM.out
                        go_simp
                        exact HR1.out _ _ (Below.refl _ _) rfl
                      case s16 =>
                        refine Grow.step_in (by rfl) (by rfl) ?_
                        intro E W ec eg ef hG hd hu R HR1
                        have e62 : E (.tmp 62) = .bool true := hd 4 62 (by kernel_rfl)
                        have e73 : E (.tmp 73) = .bool false := hd 15 73 (by kernel_rfl)
                        clear hd hu
                        go_simp
                        exact HR1.out _ _ (Below.refl _ _) rfl
                    case gfin =>
                      intro W hG
                      refine Grow.fin_dst (by rfl) ?_
                      rintro _ rfl
                      refine Grow.fin_dst (by rfl) ?_
                      rintro _ rfl
                      refine Grow.fin_dst (by rfl) ?_
                      rintro _ rfl
                      refine Grow.fin_dst (by rfl) ?_
                      rintro _ rfl
                      refine Grow.fin_dst (by rfl) ?_
                      rintro _ rfl
                      refine Grow.fin_dst (by rfl) ?_
                      rintro _ rfl
                      refine Grow.fin_dst (by rfl) ?_
                      rintro _ rfl
                      refine Grow.fin_dst (by rfl) ?_
                      rintro _ rfl
                      refine Grow.fin_dst (by rfl) ?_
                      rintro _ rfl
                      refine Grow.fin_dst (by rfl) ?_
                      rintro _ rfl
                      refine Grow.fin_dst (by rfl) ?_
                      rintro _ rfl
                      refine Grow.fin_dst (by rfl) ?_
                      rintro _ rfl
                      refine Grow.fin_dst (by rfl) ?_
                      rintro _ rfl
                      refine Grow.fin_dst (by rfl) ?_
                      rintro _ rfl
                      refine Grow.fin_dst (by rfl) ?_
                      rintro _ rfl
                      refine Grow.fin_dst (by rfl) ?_
                      rintro _ rfl
                      refine Grow.fin_dst (by rfl) ?_
                      rintro _ rfl
                      simp only [Act.put, List.setIfInBounds_toArray, List.set_cons_zero, List.set_cons_succ]
                      refine Grow.fin_end ?_
                      have HB11 := Lib.hid (Grow.below_of_drew hG)
                      clear hG
                      have HBW := Lib.hid (HBW.out.trans (HB11.out.mono HBW.out.size))
                      have HO10 := Lib.hid (And.intro (own_below HO10.out.1 HB11.out) HO10.out.2)
                      obtain ⟨AT, hAT⟩ : ∃ AT : Option Addr, AT = some ⟨b1, o1, none⟩ := ⟨_, rfl⟩
                      rw [← hAT]
                      rw [← hAT] at HR
                      clear hAT
                      have hsl13 := run_cut3 AT nt ct q (by have := HQ.out.1; omega) W
                      obtain ⟨A13, c13, w13, hap13, hown13, hb13⟩ := own_cms_app2 (m := (tb2 T).drop q) (n2 := nt - q) (c2 := ct - q) HO10.out.1 HBW.out.size ((HR.out.1.below HBW.out).cut (by have := HQ.out.1; omega)) (by have h1 := HLN.out; have h2 := HO10.out.2.2.1; have h3 := HQ.out.1; omega) 36
                      obtain ⟨L13, hL13⟩ : ∃ L13, L13 = L10 ++ (tb2 T).drop q := ⟨_, rfl⟩
                      rw [← hL13] at hap13 hown13
                      obtain ⟨A14, c14, hv14, hc14⟩ := own_cms hown13
                      injection hv14 with e1 e2 e3
                      subst e1 e3
                      obtain ⟨N13, hN13⟩ : ∃ N13, N13 = L13.length := ⟨_, rfl⟩
                      rw [← hN13] at hap13 hc14
                      rw [← HO10.out.2.1] at hap13
                      have H13 := Lib.hid (And.intro hc14 (And.intro hb13 hL13))
                      clear hc14 hb13 hL13 hown13 hN13 e2
                      go_wp2_with (at_builtin; refine wpList_app (by rfl) _ _ 36 (by rfl) (by rfl) (by rfl) hap13 ?_)
                      go_roundw
                      case rel =>
                        have hb := HBW.out.trans H13.out.2.1
                        have hx := HX.out
                        have hif : (if T[q]?.map (·.1) = some X.k then q + 1 else q) = q := by
                          rw [← hx.2.2.1]
                          exact if_neg (fun e => HEK.out (by rw [HQ.out.2.2.1] at e; rw [HQ.out.2.2.2.1]; exact Option.some.inj e))
                        have hlist : tb2 (doL t (l.take (j + 1))) = L13 := by
                          have e : l.take (j + 1) = l.take j ++ [X] := by rw [List.take_add_one, hx.1]; rfl
                          have e4 : doL t (l.take (j + 1)) = doC T X := by rw [e, HR.out.2.2.1]; unfold doL; rw [List.foldl_append]; rfl
                          rw [e4, do_at HR.out.2.2.2 (q := q) (by rw [← hx.2.2.1]; exact HQ.out.2.1) (by rw [← hx.2.2.1]; exact fun p hp => by rw [HQ.out.2.2.1] at hp; injection hp with hp; rw [← hp, ← HQ.out.2.2.2.1]; exact HNL.out), H13.out.2.2, HO10.out.2.2.2, hif, ← hx.2.2.1, ← hx.2.2.2.1, ← hx.2.2.2.2.1]
                          simp [tb2, List.map_drop]
                        unfold RDo
                        exact ⟨j + 1, A13, N13, c13, by have := HS.out.2.2.2.1; omega, by simp, rfl, by rw [hlist]; exact H13.out.1.mono fun k _ hk => .inr (Nat.le_trans HR.out.2.1.size hk), HR.out.2.1.trans (hb.mono HR.out.2.1.size)⟩
                      case measure => simp only [intOf]; have h1 := HX.out.2.1; omega
              · go_upto_region 11 with fail
                clear hg9
                by_cases hek : TK = XK
                · have hcm0 := st_beq TK XK
                  rw [decide_eq_true hek] at hcm0
                  have HCM := Lib.hid hcm0
                  have HEK := Lib.hid hek
                  clear hek hcm0
                  have HCX : Hid (b2 < w8.drew.heap.size ∧ w8.drew.cell? ⟨b2, o2 + j * 3, none⟩ = some (.string (st XK)) ∧ w8.drew.cell? ⟨b2, o2 + j * 3 + 1, none⟩ = some (.string (st XV))) := Lib.hid ⟨Nat.lt_of_lt_of_le HXC.out.1 (HBW.out).size, (HBW.out.cell (p := ⟨_, _, none⟩) HXC.out.1).trans HXC.out.2.1, (HBW.out.cell (p := ⟨_, _, none⟩) HXC.out.1).trans HXC.out.2.2.1⟩
                  have HCT : Hid (b1 < w8.drew.heap.size ∧ w8.drew.cell? ⟨b1, o1 + q * 3, none⟩ = some (.string (st TK))) := Lib.hid ⟨Nat.lt_of_lt_of_le HTC.out.1 (HBW.out).size, (HBW.out.cell (p := ⟨_, _, none⟩) HTC.out.1).trans HTC.out.2⟩
                  refine wp_region_grow (fun W W' => Below W.heap.size W W') (Grow.nth [fun v _ => v = .int .i64 (q : Int), fun v _ => v = .slice (some ⟨b1, o1, none⟩) nt ct, fun v _ => v = .int .i64 (nt : Int), fun v _ => v = .bool true, fun v _ => v = .bool true, fun v _ => v = .slice (some ⟨b1, o1, none⟩) nt ct, fun v _ => v = .int .i64 (q : Int), fun v _ => v = .pointer (some ⟨b1, o1 + q * 3, none⟩), fun v _ => v = .pointer (some ⟨b1, o1 + q * 3, none⟩), fun v _ => v = .string (st TK), fun v _ => v = .slice (some ⟨b2, o2, none⟩) n2 c2, fun v _ => v = .int .i64 (j : Int), fun v _ => v = .pointer (some ⟨b2, o2 + j * 3, none⟩), fun v _ => v = .pointer (some ⟨b2, o2 + j * 3, none⟩), fun v _ => v = .string (st XK), fun v _ => v = .bool true, fun v _ => v = .bool true]) 83 (by kernel_rfl) (by kernel_rfl) (by rfl) (fun W => Below.refl _ W) (fun _ _ _ h1 h2 => h1.trans (h2.mono h1.size)) (Grow.mono_nth ?gmono) ?gsteps ?gfin
                  case gmono => exact ⟨fun _ _ _ h _ => h, fun _ _ _ h _ => h, fun _ _ _ h _ => h, fun _ _ _ h _ => h, fun _ _ _ h _ => h, fun _ _ _ h _ => h, fun _ _ _ h _ => h, fun _ _ _ h _ => h, fun _ _ _ h _ => h, fun _ _ _ h _ => h, fun _ _ _ h _ => h, fun _ _ _ h _ => h, fun _ _ _ h _ => h, fun _ _ _ h _ => h, fun _ _ _ h _ => h, fun _ _ _ h _ => h, fun _ _ _ h _ => h, trivial⟩
                  case gsteps =>
                    show Grow.allBelow _ 17
                    refine And.intro ?_ ?s16
                    refine And.intro ?_ ?s15
                    refine And.intro ?_ ?s14
                    refine And.intro ?_ ?s13
                    refine And.intro ?_ ?s12
                    refine And.intro ?_ ?s11
                    refine And.intro ?_ ?s10
                    refine And.intro ?_ ?s9
                    refine And.intro ?_ ?s8
                    refine And.intro ?_ ?s7
                    refine And.intro ?_ ?s6
                    refine And.intro ?_ ?s5
                    refine And.intro ?_ ?s4
                    refine And.intro ?_ ?s3
                    refine And.intro ?_ ?s2
                    refine And.intro ?_ ?s1
                    refine And.intro ?_ ?s0
                    exact trivial
                    case s0 =>
                      refine Grow.step_in (by rfl) (by rfl) ?_
                      intro E W ec eg ef hG hd hu R HR1
                      have e7 : E (.tmp 7) = .int .i64 (q : Int) := hu 7 (by kernel_rfl)
                      clear hd hu
                      go_simp
                      exact HR1.out _ _ (Below.refl _ _) rfl
                    case s1 =>
                      refine Grow.step_in (by rfl) (by rfl) ?_
                      intro E W ec eg ef hG hd hu R HR1
                      have e0 : E (.tmp 0) = .slice (some ⟨b1, o1, none⟩) nt ct := hu 0 (by kernel_rfl)
                      clear hd hu
                      go_simp
                      exact HR1.out _ _ (Below.refl _ _) rfl
                    case s2 =>
                      refine Grow.step_in (by rfl) (by rfl) ?_
                      intro E W ec eg ef hG hd hu R HR1
                      have e59 : E (.tmp 59) = .slice (some ⟨b1, o1, none⟩) nt ct := hd 1 59 (by kernel_rfl)
                      clear hd hu
                      go_simp
                      exact HR1.out _ _ (Below.refl _ _) rfl
                    case s3 =>
                      refine Grow.step_in (by rfl) (by rfl) ?_
                      intro E W ec eg ef hG hd hu R HR1
                      have e58 : E (.tmp 58) = .int .i64 (q : Int) := hd 0 58 (by kernel_rfl)
                      have e60 : E (.tmp 60) = .int .i64 (nt : Int) := hd 2 60 (by kernel_rfl)
                      clear hd hu
                      have hqn := HQN.out
                      go_simp
                      exact HR1.out _ _ (Below.refl _ _) rfl
                    case s4 =>
                      refine Grow.step_in (by rfl) (by rfl) ?_
                      intro E W ec eg ef hG hd hu R HR1
                      have e61 : E (.tmp 61) = .bool true := hd 3 61 (by kernel_rfl)
                      clear hd hu
                      go_simp
                      exact HR1.out _ _ (Below.refl _ _) rfl
                    case s5 =>
                      refine Grow.step_on (g := 4) (b := true) (d := 62) (by rfl) (by rfl) (by rfl) (by kernel_rfl) (fun v W h => h) ?_
                      intro E W ec eg ef hG hd hu R HR1
                      have e0 : E (.tmp 0) = .slice (some ⟨b1, o1, none⟩) nt ct := hu 0 (by kernel_rfl)
                      clear hd hu
                      go_simp
                      exact HR1.out _ _ (Below.refl _ _) rfl
                    case s6 =>
                      refine Grow.step_on (g := 4) (b := true) (d := 62) (by rfl) (by rfl) (by rfl) (by kernel_rfl) (fun v W h => h) ?_
                      intro E W ec eg ef hG hd hu R HR1
                      have e7 : E (.tmp 7) = .int .i64 (q : Int) := hu 7 (by kernel_rfl)
                      clear hd hu
                      go_simp
                      exact HR1.out _ _ (Below.refl _ _) rfl
                    case s7 =>
                      refine Grow.step_on (g := 4) (b := true) (d := 62) (by rfl) (by rfl) (by rfl) (by kernel_rfl) (fun v W h => h) ?_
                      intro E W ec eg ef hG hd hu R HR1
                      have e63 : E (.tmp 63) = .slice (some ⟨b1, o1, none⟩) nt ct := hd 5 63 (by kernel_rfl)
                      have e64 : E (.tmp 64) = .int .i64 (q : Int) := hd 6 64 (by kernel_rfl)
                      clear hd hu
                      have hql := HQ.out.2.2.2.2
                      go_simp
                      first | exact HR1.out _ _ (Below.refl _ _) rfl | (rw [if_pos ⟨by omega, by omega⟩]; exact HR1.out _ _ (Below.refl _ _) rfl)
                    case s8 =>
                      refine Grow.step_on (g := 4) (b := true) (d := 62) (by rfl) (by rfl) (by rfl) (by kernel_rfl) (fun v W h => h) ?_
                      intro E W ec eg ef hG hd hu R HR1
                      have e65 : E (.tmp 65) = .pointer (some ⟨b1, o1 + q * 3, none⟩) := hd 7 65 (by kernel_rfl)
                      clear hd hu
                      go_simp
                      exact HR1.out _ _ (Below.refl _ _) rfl
                    case s9 =>
                      refine Grow.step_on (g := 4) (b := true) (d := 62) (by rfl) (by rfl) (by rfl) (by kernel_rfl) (fun v W h => h) ?_
                      intro E W ec eg ef hG hd hu R HR1
                      have e66 : E (.tmp 66) = .pointer (some ⟨b1, o1 + q * 3, none⟩) := hd 8 66 (by kernel_rfl)
                      clear hd hu
                      have hcl := (hG.cell (p := ⟨b1, o1 + q * 3, none⟩) HCT.out.1).trans HCT.out.2
                      go_simp
                      exact HR1.out _ _ (Below.refl _ _) rfl
                    case s10 =>
                      refine Grow.step_on (g := 4) (b := true) (d := 62) (by rfl) (by rfl) (by rfl) (by kernel_rfl) (fun v W h => h) ?_
                      intro E W ec eg ef hG hd hu R HR1
                      have e1 : E (.tmp 1) = .slice (some ⟨b2, o2, none⟩) n2 c2 := hu 1 (by kernel_rfl)
                      clear hd hu
                      go_simp
                      exact HR1.out _ _ (Below.refl _ _) rfl
                    case s11 =>
                      refine Grow.step_on (g := 4) (b := true) (d := 62) (by rfl) (by rfl) (by rfl) (by kernel_rfl) (fun v W h => h) ?_
                      intro E W ec eg ef hG hd hu R HR1
                      have e5 : E (.tmp 5) = .int .i64 (j : Int) := hu 5 (by kernel_rfl)
                      clear hd hu
                      go_simp
                      exact HR1.out _ _ (Below.refl _ _) rfl
                    case s12 =>
                      refine Grow.step_on (g := 4) (b := true) (d := 62) (by rfl) (by rfl) (by rfl) (by kernel_rfl) (fun v W h => h) ?_
                      intro E W ec eg ef hG hd hu R HR1
                      have e68 : E (.tmp 68) = .slice (some ⟨b2, o2, none⟩) n2 c2 := hd 10 68 (by kernel_rfl)
                      have e69 : E (.tmp 69) = .int .i64 (j : Int) := hd 11 69 (by kernel_rfl)
                      clear hd hu
                      have hjl := HX.out.2.1
                      go_simp
                      first | exact HR1.out _ _ (Below.refl _ _) rfl | (rw [if_pos ⟨by omega, by omega⟩]; exact HR1.out _ _ (Below.refl _ _) rfl)
                    case s13 =>
                      refine Grow.step_on (g := 4) (b := true) (d := 62) (by rfl) (by rfl) (by rfl) (by kernel_rfl) (fun v W h => h) ?_
                      intro E W ec eg ef hG hd hu R HR1
                      have e70 : E (.tmp 70) = .pointer (some ⟨b2, o2 + j * 3, none⟩) := hd 12 70 (by kernel_rfl)
                      clear hd hu
                      go_simp
                      exact HR1.out _ _ (Below.refl _ _) rfl
                    case s14 =>
                      refine Grow.step_on (g := 4) (b := true) (d := 62) (by rfl) (by rfl) (by rfl) (by kernel_rfl) (fun v W h => h) ?_
                      intro E W ec eg ef hG hd hu R HR1
                      have e71 : E (.tmp 71) = .pointer (some ⟨b2, o2 + j * 3, none⟩) := hd 13 71 (by kernel_rfl)
                      clear hd hu
                      have hcl := (hG.cell (p := ⟨b2, o2 + j * 3, none⟩) HCX.out.1).trans HCX.out.2.1
                      go_simp
                      exact HR1.out _ _ (Below.refl _ _) rfl
                    case s15 =>
                      refine Grow.step_on (g := 4) (b := true) (d := 62) (by rfl) (by rfl) (by rfl) (by kernel_rfl) (fun v W h => h) ?_
                      intro E W ec eg ef hG hd hu R HR1
                      have e67 : E (.tmp 67) = .string (st TK) := hd 9 67 (by kernel_rfl)
                      have e72 : E (.tmp 72) = .string (st XK) := hd 14 72 (by kernel_rfl)
                      clear hd hu
                      have hcm := HCM.out
                      go_simp
                      exact HR1.out _ _ (Below.refl _ _) rfl
                    case s16 =>
                      refine Grow.step_in (by rfl) (by rfl) ?_
                      intro E W ec eg ef hG hd hu R HR1
                      have e62 : E (.tmp 62) = .bool true := hd 4 62 (by kernel_rfl)
                      have e73 : E (.tmp 73) = .bool true := hd 15 73 (by kernel_rfl)
                      clear hd hu
                      go_simp
                      exact HR1.out _ _ (Below.refl _ _) rfl
                  case gfin =>
                    intro W hG
                    refine Grow.fin_dst (by rfl) ?_
                    rintro _ rfl
                    refine Grow.fin_dst (by rfl) ?_
                    rintro _ rfl
                    refine Grow.fin_dst (by rfl) ?_
                    rintro _ rfl
                    refine Grow.fin_dst (by rfl) ?_
                    rintro _ rfl
                    refine Grow.fin_dst (by rfl) ?_
                    rintro _ rfl
                    refine Grow.fin_dst (by rfl) ?_
                    rintro _ rfl
                    refine Grow.fin_dst (by rfl) ?_
                    rintro _ rfl
                    refine Grow.fin_dst (by rfl) ?_
                    rintro _ rfl
                    refine Grow.fin_dst (by rfl) ?_
                    rintro _ rfl
                    refine Grow.fin_dst (by rfl) ?_
                    rintro _ rfl
                    refine Grow.fin_dst (by rfl) ?_
                    rintro _ rfl
                    refine Grow.fin_dst (by rfl) ?_
                    rintro _ rfl
                    refine Grow.fin_dst (by rfl) ?_
                    rintro _ rfl
                    refine Grow.fin_dst (by rfl) ?_
                    rintro _ rfl
                    refine Grow.fin_dst (by rfl) ?_
                    rintro _ rfl
                    refine Grow.fin_dst (by rfl) ?_
                    rintro _ rfl
                    refine Grow.fin_dst (by rfl) ?_
                    rintro _ rfl
                    simp only [Act.put, List.setIfInBounds_toArray, List.set_cons_zero, List.set_cons_succ]
                    refine Grow.fin_end ?_
                    have HB11 := Lib.hid (Grow.below_of_drew hG)
                    clear hG
                    have HBW := Lib.hid (HBW.out.trans (HB11.out.mono HBW.out.size))
                    have HO := Lib.hid (And.intro (own_below HO.out.1 HB11.out) HO.out.2)
                    obtain ⟨AT, hAT⟩ : ∃ AT : Option Addr, AT = some ⟨b1, o1, none⟩ := ⟨_, rfl⟩
                    rw [← hAT]
                    rw [← hAT] at HR
                    clear hAT
                    have hsl13 := run_cut3 AT nt ct (q + 1) (by have := HQ.out.2.2.2.2; omega) W
                    rw [show ((q + 1 : Nat) : Int) = (q : Int) + 1 by simp] at hsl13
                    obtain ⟨A13, c13, w13, hap13, hown13, hb13⟩ := own_cms_app2 (m := (tb2 T).drop (q + 1)) (n2 := nt - (q + 1)) (c2 := ct - (q + 1)) HO.out.1 HBW.out.size ((HR.out.1.below HBW.out).cut (by have := HQ.out.2.2.2.2; omega)) (by have h1 := HLN.out; have h2 := HO.out.2.2.1; have h3 := HQ.out.1; omega) 36
                    obtain ⟨L13, hL13⟩ : ∃ L13, L13 = LO ++ (tb2 T).drop (q + 1) := ⟨_, rfl⟩
                    rw [← hL13] at hap13 hown13
                    obtain ⟨A14, c14, hv14, hc14⟩ := own_cms hown13
                    injection hv14 with e1 e2 e3
                    subst e1 e3
                    obtain ⟨N13, hN13⟩ : ∃ N13, N13 = L13.length := ⟨_, rfl⟩
                    rw [← hN13] at hap13 hc14
                    rw [← HO.out.2.1] at hap13
                    have H13 := Lib.hid (And.intro hc14 (And.intro hb13 hL13))
                    clear hc14 hb13 hL13 hown13 hN13 e2
                    go_wp2_with (at_builtin; refine wpList_app (by rfl) _ _ 36 (by rfl) (by rfl) (by rfl) hap13 ?_)
                    go_roundw
                    case rel =>
                      have hb := HBW.out.trans H13.out.2.1
                      have hx := HX.out
                      have hif : (if T[q]?.map (·.1) = some X.k then q + 1 else q) = (q + 1) := by
                        rw [← hx.2.2.1]
                        exact if_pos (by rw [HQ.out.2.2.1]; show some P.1 = some XK; rw [← HQ.out.2.2.2.1, HEK.out])
                      have hlist : tb2 (doL t (l.take (j + 1))) = L13 := by
                        have e : l.take (j + 1) = l.take j ++ [X] := by rw [List.take_add_one, hx.1]; rfl
                        have e4 : doL t (l.take (j + 1)) = doC T X := by rw [e, HR.out.2.2.1]; unfold doL; rw [List.foldl_append]; rfl
                        rw [e4, do_at HR.out.2.2.2 (q := q) (by rw [← hx.2.2.1]; exact HQ.out.2.1) (by rw [← hx.2.2.1]; exact fun p hp => by rw [HQ.out.2.2.1] at hp; injection hp with hp; rw [← hp, ← HQ.out.2.2.2.1]; exact HNL.out), H13.out.2.2, HO.out.2.2.2, hif, ← hx.2.2.1, ← hx.2.2.2.1, ← hx.2.2.2.2.1]
                        simp [tb2, List.map_drop]
                      unfold RDo
                      exact ⟨j + 1, A13, N13, c13, by have := HS.out.2.2.2.1; omega, by simp, rfl, by rw [hlist]; exact H13.out.1.mono fun k _ hk => .inr (Nat.le_trans HR.out.2.1.size hk), HR.out.2.1.trans (hb.mono HR.out.2.1.size)⟩
                    case measure => simp only [intOf]; have h1 := HX.out.2.1; omega
                · have hcm0 := st_beq TK XK
                  rw [decide_eq_false hek] at hcm0
                  have HCM := Lib.hid hcm0
                  have HEK := Lib.hid hek
                  clear hek hcm0
                  have HCX : Hid (b2 < w8.drew.heap.size ∧ w8.drew.cell? ⟨b2, o2 + j * 3, none⟩ = some (.string (st XK)) ∧ w8.drew.cell? ⟨b2, o2 + j * 3 + 1, none⟩ = some (.string (st XV))) := Lib.hid ⟨Nat.lt_of_lt_of_le HXC.out.1 (HBW.out).size, (HBW.out.cell (p := ⟨_, _, none⟩) HXC.out.1).trans HXC.out.2.1, (HBW.out.cell (p := ⟨_, _, none⟩) HXC.out.1).trans HXC.out.2.2.1⟩
                  have HCT : Hid (b1 < w8.drew.heap.size ∧ w8.drew.cell? ⟨b1, o1 + q * 3, none⟩ = some (.string (st TK))) := Lib.hid ⟨Nat.lt_of_lt_of_le HTC.out.1 (HBW.out).size, (HBW.out.cell (p := ⟨_, _, none⟩) HTC.out.1).trans HTC.out.2⟩
                  refine wp_region_grow (fun W W' => Below W.heap.size W W') (Grow.nth [fun v _ => v = .int .i64 (q : Int), fun v _ => v = .slice (some ⟨b1, o1, none⟩) nt ct, fun v _ => v = .int .i64 (nt : Int), fun v _ => v = .bool true, fun v _ => v = .bool true, fun v _ => v = .slice (some ⟨b1, o1, none⟩) nt ct, fun v _ => v = .int .i64 (q : Int), fun v _ => v = .pointer (some ⟨b1, o1 + q * 3, none⟩), fun v _ => v = .pointer (some ⟨b1, o1 + q * 3, none⟩), fun v _ => v = .string (st TK), fun v _ => v = .slice (some ⟨b2, o2, none⟩) n2 c2, fun v _ => v = .int .i64 (j : Int), fun v _ => v = .pointer (some ⟨b2, o2 + j * 3, none⟩), fun v _ => v = .pointer (some ⟨b2, o2 + j * 3, none⟩), fun v _ => v = .string (st XK), fun v _ => v = .bool false, fun v _ => v = .bool false]) 83 (by kernel_rfl) (by kernel_rfl) (by rfl) (fun W => Below.refl _ W) (fun _ _ _ h1 h2 => h1.trans (h2.mono h1.size)) (Grow.mono_nth ?gmono) ?gsteps ?gfin
                  case gmono => exact ⟨fun _ _ _ h _ => h, fun _ _ _ h _ => h, fun _ _ _ h _ => h, fun _ _ _ h _ => h, fun _ _ _ h _ => h, fun _ _ _ h _ => h, fun _ _ _ h _ => h, fun _ _ _ h _ => h, fun _ _ _ h _ => h, fun _ _ _ h _ => h, fun _ _ _ h _ => h, fun _ _ _ h _ => h, fun _ _ _ h _ => h, fun _ _ _ h _ => h, fun _ _ _ h _ => h, fun _ _ _ h _ => h, fun _ _ _ h _ => h, trivial⟩
                  case gsteps =>
                    show Grow.allBelow _ 17
                    refine And.intro ?_ ?s16
                    refine And.intro ?_ ?s15
                    refine And.intro ?_ ?s14
                    refine And.intro ?_ ?s13
                    refine And.intro ?_ ?s12
                    refine And.intro ?_ ?s11
                    refine And.intro ?_ ?s10
                    refine And.intro ?_ ?s9
                    refine And.intro ?_ ?s8
                    refine And.intro ?_ ?s7
                    refine And.intro ?_ ?s6
                    refine And.intro ?_ ?s5
                    refine And.intro ?_ ?s4
                    refine And.intro ?_ ?s3
                    refine And.intro ?_ ?s2
                    refine And.intro ?_ ?s1
                    refine And.intro ?_ ?s0
                    exact trivial
                    case s0 =>
                      refine Grow.step_in (by rfl) (by rfl) ?_
                      intro E W ec eg ef hG hd hu R HR1
                      have e7 : E (.tmp 7) = .int .i64 (q : Int) := hu 7 (by kernel_rfl)
                      clear hd hu
                      go_simp
                      exact HR1.out _ _ (Below.refl _ _) rfl
                    case s1 =>
                      refine Grow.step_in (by rfl) (by rfl) ?_
                      intro E W ec eg ef hG hd hu R HR1
                      have e0 : E (.tmp 0) = .slice (some ⟨b1, o1, none⟩) nt ct := hu 0 (by kernel_rfl)
                      clear hd hu
                      go_simp
                      exact HR1.out _ _ (Below.refl _ _) rfl
                    case s2 =>
                      refine Grow.step_in (by rfl) (by rfl) ?_
                      intro E W ec eg ef hG hd hu R HR1
                      have e59 : E (.tmp 59) = .slice (some ⟨b1, o1, none⟩) nt ct := hd 1 59 (by kernel_rfl)
                      clear hd hu
                      go_simp
                      exact HR1.out _ _ (Below.refl _ _) rfl
                    case s3 =>
                      refine Grow.step_in (by rfl) (by rfl) ?_
                      intro E W ec eg ef hG hd hu R HR1
                      have e58 : E (.tmp 58) = .int .i64 (q : Int) := hd 0 58 (by kernel_rfl)
                      have e60 : E (.tmp 60) = .int .i64 (nt : Int) := hd 2 60 (by kernel_rfl)
                      clear hd hu
                      have hqn := HQN.out
                      go_simp
                      exact HR1.out _ _ (Below.refl _ _) rfl
                    case s4 =>
                      refine Grow.step_in (by rfl) (by rfl) ?_
                      intro E W ec eg ef hG hd hu R HR1
                      have e61 : E (.tmp 61) = .bool true := hd 3 61 (by kernel_rfl)
                      clear hd hu
                      go_simp
                      exact HR1.out _ _ (Below.refl _ _) rfl
                    case s5 =>
                      refine Grow.step_on (g := 4) (b := true) (d := 62) (by rfl) (by rfl) (by rfl) (by kernel_rfl) (fun v W h => h) ?_
                      intro E W ec eg ef hG hd hu R HR1
                      have e0 : E (.tmp 0) = .slice (some ⟨b1, o1, none⟩) nt ct := hu 0 (by kernel_rfl)
                      clear hd hu
                      go_simp
                      exact HR1.out _ _ (Below.refl _ _) rfl
                    case s6 =>
                      refine Grow.step_on (g := 4) (b := true) (d := 62) (by rfl) (by rfl) (by rfl) (by kernel_rfl) (fun v W h => h) ?_
                      intro E W ec eg ef hG hd hu R HR1
                      have e7 : E (.tmp 7) = .int .i64 (q : Int) := hu 7 (by kernel_rfl)
                      clear hd hu
                      go_simp
                      exact HR1.out _ _ (Below.refl _ _) rfl
                    case s7 =>
                      refine Grow.step_on (g := 4) (b := true) (d := 62) (by rfl) (by rfl) (by rfl) (by kernel_rfl) (fun v W h => h) ?_
                      intro E W ec eg ef hG hd hu R HR1
                      have e63 : E (.tmp 63) = .slice (some ⟨b1, o1, none⟩) nt ct := hd 5 63 (by kernel_rfl)
                      have e64 : E (.tmp 64) = .int .i64 (q : Int) := hd 6 64 (by kernel_rfl)
                      clear hd hu
                      have hql := HQ.out.2.2.2.2
                      go_simp
                      first | exact HR1.out _ _ (Below.refl _ _) rfl | (rw [if_pos ⟨by omega, by omega⟩]; exact HR1.out _ _ (Below.refl _ _) rfl)
                    case s8 =>
                      refine Grow.step_on (g := 4) (b := true) (d := 62) (by rfl) (by rfl) (by rfl) (by kernel_rfl) (fun v W h => h) ?_
                      intro E W ec eg ef hG hd hu R HR1
                      have e65 : E (.tmp 65) = .pointer (some ⟨b1, o1 + q * 3, none⟩) := hd 7 65 (by kernel_rfl)
                      clear hd hu
                      go_simp
                      exact HR1.out _ _ (Below.refl _ _) rfl
                    case s9 =>
                      refine Grow.step_on (g := 4) (b := true) (d := 62) (by rfl) (by rfl) (by rfl) (by kernel_rfl) (fun v W h => h) ?_
                      intro E W ec eg ef hG hd hu R HR1
                      have e66 : E (.tmp 66) = .pointer (some ⟨b1, o1 + q * 3, none⟩) := hd 8 66 (by kernel_rfl)
                      clear hd hu
                      have hcl := (hG.cell (p := ⟨b1, o1 + q * 3, none⟩) HCT.out.1).trans HCT.out.2
                      go_simp
                      exact HR1.out _ _ (Below.refl _ _) rfl
                    case s10 =>
                      refine Grow.step_on (g := 4) (b := true) (d := 62) (by rfl) (by rfl) (by rfl) (by kernel_rfl) (fun v W h => h) ?_
                      intro E W ec eg ef hG hd hu R HR1
                      have e1 : E (.tmp 1) = .slice (some ⟨b2, o2, none⟩) n2 c2 := hu 1 (by kernel_rfl)
                      clear hd hu
                      go_simp
                      exact HR1.out _ _ (Below.refl _ _) rfl
                    case s11 =>
                      refine Grow.step_on (g := 4) (b := true) (d := 62) (by rfl) (by rfl) (by rfl) (by kernel_rfl) (fun v W h => h) ?_
                      intro E W ec eg ef hG hd hu R HR1
                      have e5 : E (.tmp 5) = .int .i64 (j : Int) := hu 5 (by kernel_rfl)
                      clear hd hu
                      go_simp
                      exact HR1.out _ _ (Below.refl _ _) rfl
                    case s12 =>
                      refine Grow.step_on (g := 4) (b := true) (d := 62) (by rfl) (by rfl) (by rfl) (by kernel_rfl) (fun v W h => h) ?_
                      intro E W ec eg ef hG hd hu R HR1
                      have e68 : E (.tmp 68) = .slice (some ⟨b2, o2, none⟩) n2 c2 := hd 10 68 (by kernel_rfl)
                      have e69 : E (.tmp 69) = .int .i64 (j : Int) := hd 11 69 (by kernel_rfl)
                      clear hd hu
                      have hjl := HX.out.2.1
                      go_simp
                      first | exact HR1.out _ _ (Below.refl _ _) rfl | (rw [if_pos ⟨by omega, by omega⟩]; exact HR1.out _ _ (Below.refl _ _) rfl)
                    case s13 =>
                      refine Grow.step_on (g := 4) (b := true) (d := 62) (by rfl) (by rfl) (by rfl) (by kernel_rfl) (fun v W h => h) ?_
                      intro E W ec eg ef hG hd hu R HR1
                      have e70 : E (.tmp 70) = .pointer (some ⟨b2, o2 + j * 3, none⟩) := hd 12 70 (by kernel_rfl)
                      clear hd hu
                      go_simp
                      exact HR1.out _ _ (Below.refl _ _) rfl
                    case s14 =>
                      refine Grow.step_on (g := 4) (b := true) (d := 62) (by rfl) (by rfl) (by rfl) (by kernel_rfl) (fun v W h => h) ?_
                      intro E W ec eg ef hG hd hu R HR1
                      have e71 : E (.tmp 71) = .pointer (some ⟨b2, o2 + j * 3, none⟩) := hd 13 71 (by kernel_rfl)
                      clear hd hu
                      have hcl := (hG.cell (p := ⟨b2, o2 + j * 3, none⟩) HCX.out.1).trans HCX.out.2.1
                      go_simp
                      exact HR1.out _ _ (Below.refl _ _) rfl
                    case s15 =>
                      refine Grow.step_on (g := 4) (b := true) (d := 62) (by rfl) (by rfl) (by rfl) (by kernel_rfl) (fun v W h => h) ?_
                      intro E W ec eg ef hG hd hu R HR1
                      have e67 : E (.tmp 67) = .string (st TK) := hd 9 67 (by kernel_rfl)
                      have e72 : E (.tmp 72) = .string (st XK) := hd 14 72 (by kernel_rfl)
                      clear hd hu
                      have hcm := HCM.out
                      go_simp
                      exact HR1.out _ _ (Below.refl _ _) rfl
                    case s16 =>
                      refine Grow.step_in (by rfl) (by rfl) ?_
                      intro E W ec eg ef hG hd hu R HR1
                      have e62 : E (.tmp 62) = .bool true := hd 4 62 (by kernel_rfl)
                      have e73 : E (.tmp 73) = .bool false := hd 15 73 (by kernel_rfl)
                      clear hd hu
                      go_simp
                      exact HR1.out _ _ (Below.refl _ _) rfl
                  case gfin =>
                    intro W hG
                    refine Grow.fin_dst (by rfl) ?_
                    rintro _ rfl
                    refine Grow.fin_dst (by rfl) ?_
                    rintro _ rfl
                    refine Grow.fin_dst (by rfl) ?_
                    rintro _ rfl
                    refine Grow.fin_dst (by rfl) ?_
                    rintro _ rfl
                    refine Grow.fin_dst (by rfl) ?_
                    rintro _ rfl
                    refine Grow.fin_dst (by rfl) ?_
                    rintro _ rfl
                    refine Grow.fin_dst (by rfl) ?_
                    rintro _ rfl
                    refine Grow.fin_dst (by rfl) ?_
                    rintro _ rfl
                    refine Grow.fin_dst (by rfl) ?_
                    rintro _ rfl
                    refine Grow.fin_dst (by rfl) ?_
                    rintro _ rfl
                    refine Grow.fin_dst (by rfl) ?_
                    rintro _ rfl
                    refine Grow.fin_dst (by rfl) ?_
                    rintro _ rfl
                    refine Grow.fin_dst (by rfl) ?_
                    rintro _ rfl
                    refine Grow.fin_dst (by rfl) ?_
                    rintro _ rfl
                    refine Grow.fin_dst (by rfl) ?_
                    rintro _ rfl
                    refine Grow.fin_dst (by rfl) ?_
                    rintro _ rfl
                    refine Grow.fin_dst (by rfl) ?_
                    rintro _ rfl
                    simp only [Act.put, List.setIfInBounds_toArray, List.set_cons_zero, List.set_cons_succ]
                    refine Grow.fin_end ?_
                    have HB11 := Lib.hid (Grow.below_of_drew hG)
                    clear hG
                    have HBW := Lib.hid (HBW.out.trans (HB11.out.mono HBW.out.size))
                    have HO := Lib.hid (And.intro (own_below HO.out.1 HB11.out) HO.out.2)
                    obtain ⟨AT, hAT⟩ : ∃ AT : Option Addr, AT = some ⟨b1, o1, none⟩ := ⟨_, rfl⟩
                    rw [← hAT]
                    rw [← hAT] at HR
                    clear hAT
                    have hsl13 := run_cut3 AT nt ct q (by have := HQ.out.1; omega) W
                    obtain ⟨A13, c13, w13, hap13, hown13, hb13⟩ := own_cms_app2 (m := (tb2 T).drop q) (n2 := nt - q) (c2 := ct - q) HO.out.1 HBW.out.size ((HR.out.1.below HBW.out).cut (by have := HQ.out.1; omega)) (by have h1 := HLN.out; have h2 := HO.out.2.2.1; have h3 := HQ.out.1; omega) 36
                    obtain ⟨L13, hL13⟩ : ∃ L13, L13 = LO ++ (tb2 T).drop q := ⟨_, rfl⟩
                    rw [← hL13] at hap13 hown13
                    obtain ⟨A14, c14, hv14, hc14⟩ := own_cms hown13
                    injection hv14 with e1 e2 e3
                    subst e1 e3
                    obtain ⟨N13, hN13⟩ : ∃ N13, N13 = L13.length := ⟨_, rfl⟩
                    rw [← hN13] at hap13 hc14
                    rw [← HO.out.2.1] at hap13
                    have H13 := Lib.hid (And.intro hc14 (And.intro hb13 hL13))
                    clear hc14 hb13 hL13 hown13 hN13 e2
                    go_wp2_with (at_builtin; refine wpList_app (by rfl) _ _ 36 (by rfl) (by rfl) (by rfl) hap13 ?_)
                    go_roundw
                    case rel =>
                      have hb := HBW.out.trans H13.out.2.1
                      have hx := HX.out
                      have hif : (if T[q]?.map (·.1) = some X.k then q + 1 else q) = q := by
                        rw [← hx.2.2.1]
                        exact if_neg (fun e => HEK.out (by rw [HQ.out.2.2.1] at e; rw [HQ.out.2.2.2.1]; exact Option.some.inj e))
                      have hlist : tb2 (doL t (l.take (j + 1))) = L13 := by
                        have e : l.take (j + 1) = l.take j ++ [X] := by rw [List.take_add_one, hx.1]; rfl
                        have e4 : doL t (l.take (j + 1)) = doC T X := by rw [e, HR.out.2.2.1]; unfold doL; rw [List.foldl_append]; rfl
                        rw [e4, do_at HR.out.2.2.2 (q := q) (by rw [← hx.2.2.1]; exact HQ.out.2.1) (by rw [← hx.2.2.1]; exact fun p hp => by rw [HQ.out.2.2.1] at hp; injection hp with hp; rw [← hp, ← HQ.out.2.2.2.1]; exact HNL.out), H13.out.2.2, HO.out.2.2.2, hif, ← hx.2.2.1, ← hx.2.2.2.1, ← hx.2.2.2.2.1]
                        simp [tb2, List.map_drop]
                      unfold RDo
                      exact ⟨j + 1, A13, N13, c13, by have := HS.out.2.2.2.1; omega, by simp, rfl, by rw [hlist]; exact H13.out.1.mono fun k _ hk => .inr (Nat.le_trans HR.out.2.1.size hk), HR.out.2.1.trans (hb.mono HR.out.2.1.size)⟩
                    case measure => simp only [intOf]; have h1 := HX.out.2.1; omega
        · have HQN := Lib.hid (show ¬ (q : Int) < (nt : Int) by omega)
          have HQ := Lib.hid (show q ≤ nt ∧ (∀ p ∈ T.take q, p.1 < XK) ∧ T[q]? = none from ⟨by have := HLN.out; omega, hlow, List.getElem?_eq_none (by have := HLN.out; omega)⟩)
          clear hq hlow hb3 hqn
          go_upto_region 6 with fail
          refine wp_region_grow (fun W W' => Below W.heap.size W W') (Grow.nth [fun v _ => v = .int .i64 (q : Int), fun v _ => v = .slice At nt ct, fun v _ => v = .int .i64 (nt : Int), fun v _ => v = .bool false, fun v _ => v = .bool false, fun v _ => v = undef, fun v _ => v = undef, fun v _ => v = undef, fun v _ => v = undef, fun v _ => v = undef, fun v _ => v = undef, fun v _ => v = undef, fun v _ => v = undef, fun v _ => v = undef, fun v _ => v = undef, fun v _ => v = undef, fun v _ => v = .bool false]) 83 (by kernel_rfl) (by kernel_rfl) (by rfl) (fun W => Below.refl _ W) (fun _ _ _ h1 h2 => h1.trans (h2.mono h1.size)) (Grow.mono_nth ?gmono) ?gsteps ?gfin
          case gmono => exact ⟨fun _ _ _ h _ => h, fun _ _ _ h _ => h, fun _ _ _ h _ => h, fun _ _ _ h _ => h, fun _ _ _ h _ => h, fun _ _ _ h _ => h, fun _ _ _ h _ => h, fun _ _ _ h _ => h, fun _ _ _ h _ => h, fun _ _ _ h _ => h, fun _ _ _ h _ => h, fun _ _ _ h _ => h, fun _ _ _ h _ => h, fun _ _ _ h _ => h, fun _ _ _ h _ => h, fun _ _ _ h _ => h, fun _ _ _ h _ => h, trivial⟩
          case gsteps =>
            show Grow.allBelow _ 17
            refine And.intro ?_ ?s16
            refine And.intro ?_ ?s15
            refine And.intro ?_ ?s14
            refine And.intro ?_ ?s13
            refine And.intro ?_ ?s12
            refine And.intro ?_ ?s11
            refine And.intro ?_ ?s10
            refine And.intro ?_ ?s9
            refine And.intro ?_ ?s8
            refine And.intro ?_ ?s7
            refine And.intro ?_ ?s6
            refine And.intro ?_ ?s5
            refine And.intro ?_ ?s4
            refine And.intro ?_ ?s3
            refine And.intro ?_ ?s2
            refine And.intro ?_ ?s1
            refine And.intro ?_ ?s0
            exact trivial
            case s0 =>
              refine Grow.step_in (by rfl) (by rfl) ?_
              intro E W ec eg ef hG hd hu R HR1
              have e7 : E (.tmp 7) = .int .i64 (q : Int) := hu 7 (by kernel_rfl)
              clear hd hu
              go_simp
              exact HR1.out _ _ (Below.refl _ _) rfl
            case s1 =>
              refine Grow.step_in (by rfl) (by rfl) ?_
              intro E W ec eg ef hG hd hu R HR1
              have e0 : E (.tmp 0) = .slice At nt ct := hu 0 (by kernel_rfl)
              clear hd hu
              go_simp
              exact HR1.out _ _ (Below.refl _ _) rfl
            case s2 =>
              refine Grow.step_in (by rfl) (by rfl) ?_
              intro E W ec eg ef hG hd hu R HR1
              have e15 : E (.tmp 15) = .slice At nt ct := hd 1 15 (by kernel_rfl)
              clear hd hu
              go_simp
              exact HR1.out _ _ (Below.refl _ _) rfl
            case s3 =>
              refine Grow.step_in (by rfl) (by rfl) ?_
              intro E W ec eg ef hG hd hu R HR1
              have e14 : E (.tmp 14) = .int .i64 (q : Int) := hd 0 14 (by kernel_rfl)
              have e16 : E (.tmp 16) = .int .i64 (nt : Int) := hd 2 16 (by kernel_rfl)
              clear hd hu
              have hqn := HQN.out
              have hqn2 : ¬ q < nt := by omega
              have hqn3 := decide_eq_false hqn2
              go_simp
              first | exact HR1.out _ _ (Below.refl _ _) rfl | (simp only [hqn2, hqn3, decide_false]; exact HR1.out _ _ (Below.refl _ _) rfl) | (rw [hqn3]; exact HR1.out _ _ (Below.refl _ _) rfl)
            case s4 =>
              refine Grow.step_in (by rfl) (by rfl) ?_
              intro E W ec eg ef hG hd hu R HR1
              have e17 : E (.tmp 17) = .bool false := hd 3 17 (by kernel_rfl)
              clear hd hu
              go_simp
              exact HR1.out _ _ (Below.refl _ _) rfl
            case s5 =>
              exact Grow.step_off (g := 4) (b := true) (b' := false) (d := 18) (by rfl) (by rfl) (by rfl) (by kernel_rfl) (fun v W h => h) (by decide) (fun _ => rfl)
            case s6 =>
              exact Grow.step_off (g := 4) (b := true) (b' := false) (d := 18) (by rfl) (by rfl) (by rfl) (by kernel_rfl) (fun v W h => h) (by decide) (fun _ => rfl)
            case s7 =>
              exact Grow.step_off (g := 4) (b := true) (b' := false) (d := 18) (by rfl) (by rfl) (by rfl) (by kernel_rfl) (fun v W h => h) (by decide) (fun _ => rfl)
            case s8 =>
              exact Grow.step_off (g := 4) (b := true) (b' := false) (d := 18) (by rfl) (by rfl) (by rfl) (by kernel_rfl) (fun v W h => h) (by decide) (fun _ => rfl)
            case s9 =>
              exact Grow.step_off (g := 4) (b := true) (b' := false) (d := 18) (by rfl) (by rfl) (by rfl) (by kernel_rfl) (fun v W h => h) (by decide) (fun _ => rfl)
            case s10 =>
              exact Grow.step_off (g := 4) (b := true) (b' := false) (d := 18) (by rfl) (by rfl) (by rfl) (by kernel_rfl) (fun v W h => h) (by decide) (fun _ => rfl)
            case s11 =>
              exact Grow.step_off (g := 4) (b := true) (b' := false) (d := 18) (by rfl) (by rfl) (by rfl) (by kernel_rfl) (fun v W h => h) (by decide) (fun _ => rfl)
            case s12 =>
              exact Grow.step_off (g := 4) (b := true) (b' := false) (d := 18) (by rfl) (by rfl) (by rfl) (by kernel_rfl) (fun v W h => h) (by decide) (fun _ => rfl)
            case s13 =>
              exact Grow.step_off (g := 4) (b := true) (b' := false) (d := 18) (by rfl) (by rfl) (by rfl) (by kernel_rfl) (fun v W h => h) (by decide) (fun _ => rfl)
            case s14 =>
              exact Grow.step_off (g := 4) (b := true) (b' := false) (d := 18) (by rfl) (by rfl) (by rfl) (by kernel_rfl) (fun v W h => h) (by decide) (fun _ => rfl)
            case s15 =>
              exact Grow.step_off (g := 4) (b := true) (b' := false) (d := 18) (by rfl) (by rfl) (by rfl) (by kernel_rfl) (fun v W h => h) (by decide) (fun _ => rfl)
            case s16 =>
              refine Grow.step_in (by rfl) (by rfl) ?_
              intro E W ec eg ef hG hd hu R HR1
              have e18 : E (.tmp 18) = .bool false := hd 4 18 (by kernel_rfl)
              have e29 : E (.tmp 29) = undef := hd 15 29 (by kernel_rfl)
              clear hd hu
              go_simp
              exact HR1.out _ _ (Below.refl _ _) rfl
          case gfin =>
            intro W hG
            refine Grow.fin_dst (by rfl) ?_
            rintro _ rfl
            refine Grow.fin_dst (by rfl) ?_
            rintro _ rfl
            refine Grow.fin_dst (by rfl) ?_
            rintro _ rfl
            refine Grow.fin_dst (by rfl) ?_
            rintro _ rfl
            refine Grow.fin_dst (by rfl) ?_
            rintro _ rfl
            refine Grow.fin_dst (by rfl) ?_
            rintro _ rfl
            refine Grow.fin_dst (by rfl) ?_
            rintro _ rfl
            refine Grow.fin_dst (by rfl) ?_
            rintro _ rfl
            refine Grow.fin_dst (by rfl) ?_
            rintro _ rfl
            refine Grow.fin_dst (by rfl) ?_
            rintro _ rfl
            refine Grow.fin_dst (by rfl) ?_
            rintro _ rfl
            refine Grow.fin_dst (by rfl) ?_
            rintro _ rfl
            refine Grow.fin_dst (by rfl) ?_
            rintro _ rfl
            refine Grow.fin_dst (by rfl) ?_
            rintro _ rfl
            refine Grow.fin_dst (by rfl) ?_
            rintro _ rfl
            refine Grow.fin_dst (by rfl) ?_
            rintro _ rfl
            refine Grow.fin_dst (by rfl) ?_
            rintro _ rfl
            simp only [Act.put, List.setIfInBounds_toArray, List.set_cons_zero, List.set_cons_succ]
            refine Grow.fin_end ?_
            have HB6 := Lib.hid (Grow.below_of_drew hG)
            clear hG
            have HBW := Lib.hid (HBW.out.trans (HB6.out.mono HBW.out.size))
            have hsl8 := run_to3 At nt ct q (by have := HQ.out.1; have := HR.out.1.cap; omega) W
            obtain ⟨AO, cO, w8, hap8, hown8, hb8⟩ := own_cms_app2 (B := w1.heap.size) (l := []) (v := .slice none 0 0) (m := (tb2 T).take q) (n2 := q) (c2 := ct) (World.ownsRow_nil _ _ _ _) HBW.out.size ((HR.out.1.below HBW.out).to HQ.out.1) (by have := HLN.out; have := HQ.out.1; simp; omega) 36
            have htq : (tb2 T).take q = tb2 (T.take q) := by unfold tb2; rw [List.map_take]
            rw [List.nil_append, htq] at hap8 hown8
            obtain ⟨LO, hLO⟩ : ∃ LO, LO = tb2 (T.take q) := ⟨_, rfl⟩
            rw [← hLO] at hap8 hown8
            obtain ⟨NO, hNO⟩ : ∃ NO, NO = LO.length := ⟨_, rfl⟩
            have hOl : LO.length = q := by rw [hLO]; simp [tb2]; have := HLN.out; have := HQ.out.1; omega
            have hap8' := hap8
            rw [← hNO] at hap8'
            have HO := Lib.hid (And.intro hown8 (And.intro hNO (And.intro hOl hLO)))
            have HBW8 := Lib.hid (HBW.out.trans hb8)
            have hg9 : w8.cell? ⟨b2, o2 + j * 3 + 2, none⟩ = some (.bool G) := (HBW8.out.cell (p := ⟨_, _, none⟩) HXC.out.1).trans HXC.out.2.2.2
            clear hown8 hb8 htq HBW hap8 hNO hOl hLO
            go_upto_region 9 with (at_builtin; refine wpList_app (by rfl) _ _ 36 (by rfl) (by rfl) (by rfl) hap8' ?_)
            have HBW := HBW8
            clear HBW8 hap8' hsl8
            cases G
            · go_upto_region 10 with fail
              clear hg9
              have HCX : Hid (b2 < w8.drew.heap.size ∧ w8.drew.cell? ⟨b2, o2 + j * 3, none⟩ = some (.string (st XK)) ∧ w8.drew.cell? ⟨b2, o2 + j * 3 + 1, none⟩ = some (.string (st XV))) := Lib.hid ⟨Nat.lt_of_lt_of_le HXC.out.1 (HBW.out).size, (HBW.out.cell (p := ⟨_, _, none⟩) HXC.out.1).trans HXC.out.2.1, (HBW.out.cell (p := ⟨_, _, none⟩) HXC.out.1).trans HXC.out.2.2.1⟩
              refine (wpIn_wide (n := 3)).1 ?_
              refine wpIn_region_growP (Grow.open_wide _ _) (fun W W' => Below W.heap.size W W') (Grow.nth [fun v _ => v = .slice AO NO cO, fun v _ => v = .slice (some ⟨b2, o2, none⟩) n2 c2, fun v _ => v = .int .i64 (j : Int), fun v _ => v = .pointer (some ⟨b2, o2 + j * 3, none⟩), fun v _ => v = .pointer (some ⟨b2, o2 + j * 3, none⟩), fun v _ => v = .string (st XK), fun v _ => v = .slice (some ⟨b2, o2, none⟩) n2 c2, fun v _ => v = .int .i64 (j : Int), fun v _ => v = .pointer (some ⟨b2, o2 + j * 3, none⟩), fun v _ => v = .pointer (some ⟨b2, o2 + j * 3 + 1, none⟩), fun v _ => v = .string (st XV), fun v _ => v = .agg #[.string (st XK), .string (st XV), .bool false], fun v W => ∃ q2, v = .slice (some ⟨q2, 0, none⟩) 1 1 ∧ W.heap[q2]? = some (.cells #[.string (st XK), .string (st XV), .bool false] 97 (0, 0)) ∧ w8.heap.size ≤ q2]) 83 (by kernel_rfl) (by kernel_rfl) (by kernel_rfl) (by kernel_rfl) (by rfl) (fun W => Below.refl _ W) (fun _ _ _ h1 h2 => h1.trans (h2.mono h1.size)) (Grow.mono_nth ?gmono) 13 (by rfl) (by rfl) (by rfl) (by rfl) (by rfl) ?gsteps ?gfin
              case gmono => exact ⟨fun _ _ _ h _ => h, fun _ _ _ h _ => h, fun _ _ _ h _ => h, fun _ _ _ h _ => h, fun _ _ _ h _ => h, fun _ _ _ h _ => h, fun _ _ _ h _ => h, fun _ _ _ h _ => h, fun _ _ _ h _ => h, fun _ _ _ h _ => h, fun _ _ _ h _ => h, fun _ _ _ h _ => h, fun _ _ _ ⟨A, h1, h2, h3⟩ hg => ⟨A, h1, (hg.block A (lt_of_cells h2)).trans h2, h3⟩, trivial⟩
              case gsteps =>
                show Grow.allBelow _ 13
                refine And.intro ?_ ?s12
                refine And.intro ?_ ?s11
                refine And.intro ?_ ?s10
                refine And.intro ?_ ?s9
                refine And.intro ?_ ?s8
                refine And.intro ?_ ?s7
                refine And.intro ?_ ?s6
                refine And.intro ?_ ?s5
                refine And.intro ?_ ?s4
                refine And.intro ?_ ?s3
                refine And.intro ?_ ?s2
                refine And.intro ?_ ?s1
                refine And.intro ?_ ?s0
                exact trivial
                case s0 =>
                  refine Grow.step_in (by rfl) (by rfl) ?_
                  intro E W ec eg ef hG hd hu R HR1
                  have e6 : E (.tmp 6) = .slice AO NO cO := hu 6 (by kernel_rfl)
                  clear hd hu
                  go_simp
                  exact HR1.out _ _ (Below.refl _ _) rfl
                case s1 =>
                  refine Grow.step_in (by rfl) (by rfl) ?_
                  intro E W ec eg ef hG hd hu R HR1
                  have e1 : E (.tmp 1) = .slice (some ⟨b2, o2, none⟩) n2 c2 := hu 1 (by kernel_rfl)
                  clear hd hu
                  go_simp
                  exact HR1.out _ _ (Below.refl _ _) rfl
                case s2 =>
                  refine Grow.step_in (by rfl) (by rfl) ?_
                  intro E W ec eg ef hG hd hu R HR1
                  have e5 : E (.tmp 5) = .int .i64 (j : Int) := hu 5 (by kernel_rfl)
                  clear hd hu
                  go_simp
                  exact HR1.out _ _ (Below.refl _ _) rfl
                case s3 =>
                  refine Grow.step_in (by rfl) (by rfl) ?_
                  intro E W ec eg ef hG hd hu R HR1
                  have e45 : E (.tmp 45) = .slice (some ⟨b2, o2, none⟩) n2 c2 := hd 1 45 (by kernel_rfl)
                  have e46 : E (.tmp 46) = .int .i64 (j : Int) := hd 2 46 (by kernel_rfl)
                  clear hd hu
                  have hjl := HX.out.2.1
                  go_simp
                  first | exact HR1.out _ _ (Below.refl _ _) rfl | (rw [if_pos ⟨by omega, by omega⟩]; exact HR1.out _ _ (Below.refl _ _) rfl)
                case s4 =>
                  refine Grow.step_in (by rfl) (by rfl) ?_
                  intro E W ec eg ef hG hd hu R HR1
                  have e47 : E (.tmp 47) = .pointer (some ⟨b2, o2 + j * 3, none⟩) := hd 3 47 (by kernel_rfl)
                  clear hd hu
                  go_simp
                  exact HR1.out _ _ (Below.refl _ _) rfl
                case s5 =>
                  refine Grow.step_in (by rfl) (by rfl) ?_
                  intro E W ec eg ef hG hd hu R HR1
                  have e48 : E (.tmp 48) = .pointer (some ⟨b2, o2 + j * 3, none⟩) := hd 4 48 (by kernel_rfl)
                  clear hd hu
                  have hcl := (hG.cell (p := ⟨b2, o2 + j * 3, none⟩) HCX.out.1).trans HCX.out.2.1
                  go_simp
                  exact HR1.out _ _ (Below.refl _ _) rfl
                case s6 =>
                  refine Grow.step_in (by rfl) (by rfl) ?_
                  intro E W ec eg ef hG hd hu R HR1
                  have e1 : E (.tmp 1) = .slice (some ⟨b2, o2, none⟩) n2 c2 := hu 1 (by kernel_rfl)
                  clear hd hu
                  go_simp
                  exact HR1.out _ _ (Below.refl _ _) rfl
                case s7 =>
                  refine Grow.step_in (by rfl) (by rfl) ?_
                  intro E W ec eg ef hG hd hu R HR1
                  have e5 : E (.tmp 5) = .int .i64 (j : Int) := hu 5 (by kernel_rfl)
                  clear hd hu
                  go_simp
                  exact HR1.out _ _ (Below.refl _ _) rfl
                case s8 =>
                  refine Grow.step_in (by rfl) (by rfl) ?_
                  intro E W ec eg ef hG hd hu R HR1
                  have e50 : E (.tmp 50) = .slice (some ⟨b2, o2, none⟩) n2 c2 := hd 6 50 (by kernel_rfl)
                  have e51 : E (.tmp 51) = .int .i64 (j : Int) := hd 7 51 (by kernel_rfl)
                  clear hd hu
                  have hjl := HX.out.2.1
                  go_simp
                  first | exact HR1.out _ _ (Below.refl _ _) rfl | (rw [if_pos ⟨by omega, by omega⟩]; exact HR1.out _ _ (Below.refl _ _) rfl)
                case s9 =>
                  refine Grow.step_in (by rfl) (by rfl) ?_
                  intro E W ec eg ef hG hd hu R HR1
                  have e52 : E (.tmp 52) = .pointer (some ⟨b2, o2 + j * 3, none⟩) := hd 8 52 (by kernel_rfl)
                  clear hd hu
                  go_simp
                  exact HR1.out _ _ (Below.refl _ _) rfl
                case s10 =>
                  refine Grow.step_in (by rfl) (by rfl) ?_
                  intro E W ec eg ef hG hd hu R HR1
                  have e53 : E (.tmp 53) = .pointer (some ⟨b2, o2 + j * 3 + 1, none⟩) := hd 9 53 (by kernel_rfl)
                  clear hd hu
                  have hcl := (hG.cell (p := ⟨b2, o2 + j * 3 + 1, none⟩) HCX.out.1).trans HCX.out.2.2
                  go_simp
                  exact HR1.out _ _ (Below.refl _ _) rfl
                case s11 =>
                  refine Grow.step_in (by rfl) (by rfl) ?_
                  intro E W ec eg ef hG hd hu R HR1
                  have e49 : E (.tmp 49) = .string (st XK) := hd 5 49 (by kernel_rfl)
                  have e54 : E (.tmp 54) = .string (st XV) := hd 10 54 (by kernel_rfl)
                  clear hd hu
                  go_simp
                  exact HR1.out _ _ (Below.refl _ _) rfl
                case s12 =>
                  refine Grow.step_in (by rfl) (by rfl) ?_
                  intro E W ec eg ef hG hd hu R HR1
                  have e55 : E (.tmp 55) = .agg #[.string (st XK), .string (st XV), .bool false] := hd 11 55 (by kernel_rfl)
                  clear hd hu
                  go_simp
                  exact HR1.out _ _ ((Below.refl _ _).alloc (Nat.le_refl _) _) ⟨_, rfl, heap_alloc_new W _, by have h1 := hG.size; have h2 : w8.drew.heap.size = w8.heap.size := rfl; omega⟩
              case gfin =>
                intro W hG
                refine Grow.fin_dst (by rfl) ?_
                rintro _ rfl
                refine Grow.fin_dst (by rfl) ?_
                rintro _ rfl
                refine Grow.fin_dst (by rfl) ?_
                rintro _ rfl
                refine Grow.fin_dst (by rfl) ?_
                rintro _ rfl
                refine Grow.fin_dst (by rfl) ?_
                rintro _ rfl
                refine Grow.fin_dst (by rfl) ?_
                rintro _ rfl
                refine Grow.fin_dst (by rfl) ?_
                rintro _ rfl
                refine Grow.fin_dst (by rfl) ?_
                rintro _ rfl
                refine Grow.fin_dst (by rfl) ?_
                rintro _ rfl
                refine Grow.fin_dst (by rfl) ?_
                rintro _ rfl
                refine Grow.fin_dst (by rfl) ?_
                rintro _ rfl
                refine Grow.fin_dst (by rfl) ?_
                rintro _ rfl
                refine Grow.fin_dst (by rfl) ?_
                rintro _ ⟨q10, rfl, hq10⟩
                simp only [Act.put, List.setIfInBounds_toArray, List.set_cons_zero, List.set_cons_succ]
                refine Grow.fin_end ?_
                have HB10 := Lib.hid (Grow.below_of_drew hG)
                clear hG
                have hq10' := hq10.1
                obtain ⟨A10, c10, w10, hap10, hown10, hb10⟩ := own_cms_app (m := [⟨XK, XV, false⟩]) (n2 := 1) (c2 := 1) (a := ⟨q10, 0, none⟩) (own_below HO.out.1 HB10.out) (Nat.le_trans HBW.out.size HB10.out.size) rfl (fun o u hu => by
                  rw [add_plain, Nat.zero_add, cell_of_cells hq10']
                  simpa [cmCells, cmV] using hu) (by have h1 := HLN.out; have h2 := HQ.out.1; have h3 := HO.out.2.2.1; omega) 36
                obtain ⟨L10, hL10⟩ : ∃ L10, L10 = LO ++ [⟨XK, XV, false⟩] := ⟨_, rfl⟩
                rw [← hL10] at hap10 hown10
                obtain ⟨N10, hN10⟩ : ∃ N10, N10 = L10.length := ⟨_, rfl⟩
                rw [← hN10] at hap10
                rw [← HO.out.2.1] at hap10
                have hlen10 : L10.length = q + 1 := by rw [hL10, List.length_append, HO.out.2.2.1]; rfl
                have HO10 := Lib.hid (And.intro hown10 (And.intro hN10 (And.intro hlen10 (hL10.trans (by rw [HO.out.2.2.2]) : L10 = tb2 (T.take q) ++ [⟨XK, XV, false⟩]))))
                have HBW := Lib.hid (HBW.out.trans ((HB10.out.mono HBW.out.size).trans hb10))
                clear hown10 hN10 hlen10 hL10 hb10 hq10' hq10 HO
                refine operIn_app _ _ 36 (by rfl) (by rfl) (by rfl) hap10 ?_
                gi_wp2_with fail
                go_upto_region 11 with fail
                clear hap10
                have HCX : Hid (b2 < w10.drew.heap.size ∧ w10.drew.cell? ⟨b2, o2 + j * 3, none⟩ = some (.string (st XK)) ∧ w10.drew.cell? ⟨b2, o2 + j * 3 + 1, none⟩ = some (.string (st XV))) := Lib.hid ⟨Nat.lt_of_lt_of_le HXC.out.1 (HBW.out).size, (HBW.out.cell (p := ⟨_, _, none⟩) HXC.out.1).trans HXC.out.2.1, (HBW.out.cell (p := ⟨_, _, none⟩) HXC.out.1).trans HXC.out.2.2.1⟩
                refine wp_region_grow (fun W W' => Below W.heap.size W W') (Grow.nth [fun v _ => v = .int .i64 (q : Int), fun v _ => v = .slice At nt ct, fun v _ => v = .int .i64 (nt : Int), fun v _ => v = .bool false, fun v _ => v = .bool false, fun v _ => v = undef, fun v _ => v = undef, fun v _ => v = undef, fun v _ => v = undef, fun v _ => v = undef, fun v _ => v = undef, fun v _ => v = undef, fun v _ => v = undef, fun v _ => v = undef, fun v _ => v = undef, fun v _ => v = undef, fun v _ => v = .bool false]) 83 (by kernel_rfl) (by kernel_rfl) (by rfl) (fun W => Below.refl _ W) (fun _ _ _ h1 h2 => h1.trans (h2.mono h1.size)) (Grow.mono_nth ?gmono) ?gsteps ?gfin
                case gmono => exact ⟨fun _ _ _ h _ => h, fun _ _ _ h _ => h, fun _ _ _ h _ => h, fun _ _ _ h _ => h, fun _ _ _ h _ => h, fun _ _ _ h _ => h, fun _ _ _ h _ => h, fun _ _ _ h _ => h, fun _ _ _ h _ => h, fun _ _ _ h _ => h, fun _ _ _ h _ => h, fun _ _ _ h _ => h, fun _ _ _ h _ => h, fun _ _ _ h _ => h, fun _ _ _ h _ => h, fun _ _ _ h _ => h, fun _ _ _ h _ => h, trivial⟩
                case gsteps =>
                  show Grow.allBelow _ 17
                  refine And.intro ?_ ?s16
                  refine And.intro ?_ ?s15
                  refine And.intro ?_ ?s14
                  refine And.intro ?_ ?s13
                  refine And.intro ?_ ?s12
                  refine And.intro ?_ ?s11
                  refine And.intro ?_ ?s10
                  refine And.intro ?_ ?s9
                  refine And.intro ?_ ?s8
                  refine And.intro ?_ ?s7
                  refine And.intro ?_ ?s6
                  refine And.intro ?_ ?s5
                  refine And.intro ?_ ?s4
                  refine And.intro ?_ ?s3
                  refine And.intro ?_ ?s2
                  refine And.intro ?_ ?s1
                  refine And.intro ?_ ?s0
                  exact trivial
                  case s0 =>
                    refine Grow.step_in (by rfl) (by rfl) ?_
                    intro E W ec eg ef hG hd hu R HR1
                    have e7 : E (.tmp 7) = .int .i64 (q : Int) := hu 7 (by kernel_rfl)
                    clear hd hu
                    go_simp
                    exact HR1.out _ _ (Below.refl _ _) rfl
                  case s1 =>
                    refine Grow.step_in (by rfl) (by rfl) ?_
                    intro E W ec eg ef hG hd hu R HR1
                    have e0 : E (.tmp 0) = .slice At nt ct := hu 0 (by kernel_rfl)
                    clear hd hu
                    go_simp
                    exact HR1.out _ _ (Below.refl _ _) rfl
                  case s2 =>
                    refine Grow.step_in (by rfl) (by rfl) ?_
                    intro E W ec eg ef hG hd hu R HR1
                    have e59 : E (.tmp 59) = .slice At nt ct := hd 1 59 (by kernel_rfl)
                    clear hd hu
                    go_simp
                    exact HR1.out _ _ (Below.refl _ _) rfl
                  case s3 =>
                    refine Grow.step_in (by rfl) (by rfl) ?_
                    intro E W ec eg ef hG hd hu R HR1
                    have e58 : E (.tmp 58) = .int .i64 (q : Int) := hd 0 58 (by kernel_rfl)
                    have e60 : E (.tmp 60) = .int .i64 (nt : Int) := hd 2 60 (by kernel_rfl)
                    clear hd hu
                    have hqn := HQN.out
                    have hqn2 : ¬ q < nt := by omega
                    have hqn3 := decide_eq_false hqn2
                    go_simp
                    first | exact HR1.out _ _ (Below.refl _ _) rfl | (simp only [hqn2, hqn3, decide_false]; exact HR1.out _ _ (Below.refl _ _) rfl) | (rw [hqn3]; exact HR1.out _ _ (Below.refl _ _) rfl)
                  case s4 =>
                    refine Grow.step_in (by rfl) (by rfl) ?_
                    intro E W ec eg ef hG hd hu R HR1
                    have e61 : E (.tmp 61) = .bool false := hd 3 61 (by kernel_rfl)
                    clear hd hu
                    go_simp
                    exact HR1.out _ _ (Below.refl _ _) rfl
                  case s5 =>
                    exact Grow.step_off (g := 4) (b := true) (b' := false) (d := 62) (by rfl) (by rfl) (by rfl) (by kernel_rfl) (fun v W h => h) (by decide) (fun _ => rfl)
                  case s6 =>
                    exact Grow.step_off (g := 4) (b := true) (b' := false) (d := 62) (by rfl) (by rfl) (by rfl) (by kernel_rfl) (fun v W h => h) (by decide) (fun _ => rfl)
                  case s7 =>
                    exact Grow.step_off (g := 4) (b := true) (b' := false) (d := 62) (by rfl) (by rfl) (by rfl) (by kernel_rfl) (fun v W h => h) (by decide) (fun _ => rfl)
                  case s8 =>
                    exact Grow.step_off (g := 4) (b := true) (b' := false) (d := 62) (by rfl) (by rfl) (by rfl) (by kernel_rfl) (fun v W h => h) (by decide) (fun _ => rfl)
                  case s9 =>
                    exact Grow.step_off (g := 4) (b := true) (b' := false) (d := 62) (by rfl) (by rfl) (by rfl) (by kernel_rfl) (fun v W h => h) (by decide) (fun _ => rfl)
                  case s10 =>
                    exact Grow.step_off (g := 4) (b := true) (b' := false) (d := 62) (by rfl) (by rfl) (by rfl) (by kernel_rfl) (fun v W h => h) (by decide) (fun _ => rfl)
                  case s11 =>
                    exact Grow.step_off (g := 4) (b := true) (b' := false) (d := 62) (by rfl) (by rfl) (by rfl) (by kernel_rfl) (fun v W h => h) (by decide) (fun _ => rfl)
                  case s12 =>
                    exact Grow.step_off (g := 4) (b := true) (b' := false) (d := 62) (by rfl) (by rfl) (by rfl) (by kernel_rfl) (fun v W h => h) (by decide) (fun _ => rfl)
                  case s13 =>
                    exact Grow.step_off (g := 4) (b := true) (b' := false) (d := 62) (by rfl) (by rfl) (by rfl) (by kernel_rfl) (fun v W h => h) (by decide) (fun _ => rfl)
                  case s14 =>
                    exact Grow.step_off (g := 4) (b := true) (b' := false) (d := 62) (by rfl) (by rfl) (by rfl) (by kernel_rfl) (fun v W h => h) (by decide) (fun _ => rfl)
                  case s15 =>
                    exact Grow.step_off (g := 4) (b := true) (b' := false) (d := 62) (by rfl) (by rfl) (by rfl) (by kernel_rfl) (fun v W h => h) (by decide) (fun _ => rfl)
                  case s16 =>
                    refine Grow.step_in (by rfl) (by rfl) ?_
                    intro E W ec eg ef hG hd hu R HR1
                    have e62 : E (.tmp 62) = .bool false := hd 4 62 (by kernel_rfl)
                    have e73 : E (.tmp 73) = undef := hd 15 73 (by kernel_rfl)
                    clear hd hu
                    go_simp
                    exact HR1.out _ _ (Below.refl _ _) rfl
                case gfin =>
                  intro W hG
                  refine Grow.fin_dst (by rfl) ?_
                  rintro _ rfl
                  refine Grow.fin_dst (by rfl) ?_
                  rintro _ rfl
                  refine Grow.fin_dst (by rfl) ?_
                  rintro _ rfl
                  refine Grow.fin_dst (by rfl) ?_
                  rintro _ rfl
                  refine Grow.fin_dst (by rfl) ?_
                  rintro _ rfl
                  refine Grow.fin_dst (by rfl) ?_
                  rintro _ rfl
                  refine Grow.fin_dst (by rfl) ?_
                  rintro _ rfl
                  refine Grow.fin_dst (by rfl) ?_
                  rintro _ rfl
                  refine Grow.fin_dst (by rfl) ?_
                  rintro _ rfl
                  refine Grow.fin_dst (by rfl) ?_
                  rintro _ rfl
                  refine Grow.fin_dst (by rfl) ?_
                  rintro _ rfl
                  refine Grow.fin_dst (by rfl) ?_
                  rintro _ rfl
                  refine Grow.fin_dst (by rfl) ?_
                  rintro _ rfl
                  refine Grow.fin_dst (by rfl) ?_
                  rintro _ rfl
                  refine Grow.fin_dst (by rfl) ?_
                  rintro _ rfl
                  refine Grow.fin_dst (by rfl) ?_
                  rintro _ rfl
                  refine Grow.fin_dst (by rfl) ?_
                  rintro _ rfl
                  simp only [Act.put, List.setIfInBounds_toArray, List.set_cons_zero, List.set_cons_succ]
                  refine Grow.fin_end ?_
                  have HB11 := Lib.hid (Grow.below_of_drew hG)
                  clear hG
                  have HBW := Lib.hid (HBW.out.trans (HB11.out.mono HBW.out.size))
                  have HO10 := Lib.hid (And.intro (own_below HO10.out.1 HB11.out) HO10.out.2)
                  have hsl13 := run_cut3 At nt ct q (by have := HQ.out.1; omega) W
                  obtain ⟨A13, c13, w13, hap13, hown13, hb13⟩ := own_cms_app2 (m := (tb2 T).drop q) (n2 := nt - q) (c2 := ct - q) HO10.out.1 HBW.out.size ((HR.out.1.below HBW.out).cut (by have := HQ.out.1; omega)) (by have h1 := HLN.out; have h2 := HO10.out.2.2.1; have h3 := HQ.out.1; omega) 36
                  obtain ⟨L13, hL13⟩ : ∃ L13, L13 = L10 ++ (tb2 T).drop q := ⟨_, rfl⟩
                  rw [← hL13] at hap13 hown13
                  obtain ⟨A14, c14, hv14, hc14⟩ := own_cms hown13
                  injection hv14 with e1 e2 e3
                  subst e1 e3
                  obtain ⟨N13, hN13⟩ : ∃ N13, N13 = L13.length := ⟨_, rfl⟩
                  rw [← hN13] at hap13 hc14
                  rw [← HO10.out.2.1] at hap13
                  have H13 := Lib.hid (And.intro hc14 (And.intro hb13 hL13))
                  clear hc14 hb13 hL13 hown13 hN13 e2
                  go_wp2_with (at_builtin; refine wpList_app (by rfl) _ _ 36 (by rfl) (by rfl) (by rfl) hap13 ?_)
                  go_roundw
                  case rel =>
                    have hb := HBW.out.trans H13.out.2.1
                    have hx := HX.out
                    have hif : (if T[q]?.map (·.1) = some X.k then q + 1 else q) = q := by
                      rw [← hx.2.2.1]
                      exact if_neg (by rw [HQ.out.2.2]; simp)
                    have hlist : tb2 (doL t (l.take (j + 1))) = L13 := by
                      have e : l.take (j + 1) = l.take j ++ [X] := by rw [List.take_add_one, hx.1]; rfl
                      have e4 : doL t (l.take (j + 1)) = doC T X := by rw [e, HR.out.2.2.1]; unfold doL; rw [List.foldl_append]; rfl
                      rw [e4, do_at HR.out.2.2.2 (q := q) (by rw [← hx.2.2.1]; exact HQ.out.2.1) (by rw [← hx.2.2.1]; exact fun p hp => by rw [HQ.out.2.2] at hp; cases hp), H13.out.2.2, HO10.out.2.2.2, hif, ← hx.2.2.1, ← hx.2.2.2.1, ← hx.2.2.2.2.1]
                      simp [tb2, List.map_drop]
                    unfold RDo
                    exact ⟨j + 1, A13, N13, c13, by have := HS.out.2.2.2.1; omega, by simp, rfl, by rw [hlist]; exact H13.out.1.mono fun k _ hk => .inr (Nat.le_trans HR.out.2.1.size hk), HR.out.2.1.trans (hb.mono HR.out.2.1.size)⟩
                  case measure => simp only [intOf]; have h1 := HX.out.2.1; omega
            · go_upto_region 11 with fail
              clear hg9
              have HCX : Hid (b2 < w8.drew.heap.size ∧ w8.drew.cell? ⟨b2, o2 + j * 3, none⟩ = some (.string (st XK)) ∧ w8.drew.cell? ⟨b2, o2 + j * 3 + 1, none⟩ = some (.string (st XV))) := Lib.hid ⟨Nat.lt_of_lt_of_le HXC.out.1 (HBW.out).size, (HBW.out.cell (p := ⟨_, _, none⟩) HXC.out.1).trans HXC.out.2.1, (HBW.out.cell (p := ⟨_, _, none⟩) HXC.out.1).trans HXC.out.2.2.1⟩
              refine wp_region_grow (fun W W' => Below W.heap.size W W') (Grow.nth [fun v _ => v = .int .i64 (q : Int), fun v _ => v = .slice At nt ct, fun v _ => v = .int .i64 (nt : Int), fun v _ => v = .bool false, fun v _ => v = .bool false, fun v _ => v = undef, fun v _ => v = undef, fun v _ => v = undef, fun v _ => v = undef, fun v _ => v = undef, fun v _ => v = undef, fun v _ => v = undef, fun v _ => v = undef, fun v _ => v = undef, fun v _ => v = undef, fun v _ => v = undef, fun v _ => v = .bool false]) 83 (by kernel_rfl) (by kernel_rfl) (by rfl) (fun W => Below.refl _ W) (fun _ _ _ h1 h2 => h1.trans (h2.mono h1.size)) (Grow.mono_nth ?gmono) ?gsteps ?gfin
              case gmono => exact ⟨fun _ _ _ h _ => h, fun _ _ _ h _ => h, fun _ _ _ h _ => h, fun _ _ _ h _ => h, fun _ _ _ h _ => h, fun _ _ _ h _ => h, fun _ _ _ h _ => h, fun _ _ _ h _ => h, fun _ _ _ h _ => h, fun _ _ _ h _ => h, fun _ _ _ h _ => h, fun _ _ _ h _ => h, fun _ _ _ h _ => h, fun _ _ _ h _ => h, fun _ _ _ h _ => h, fun _ _ _ h _ => h, fun _ _ _ h _ => h, trivial⟩
              case gsteps =>
                show Grow.allBelow _ 17
                refine And.intro ?_ ?s16
                refine And.intro ?_ ?s15
                refine And.intro ?_ ?s14
                refine And.intro ?_ ?s13
                refine And.intro ?_ ?s12
                refine And.intro ?_ ?s11
                refine And.intro ?_ ?s10
                refine And.intro ?_ ?s9
                refine And.intro ?_ ?s8
                refine And.intro ?_ ?s7
                refine And.intro ?_ ?s6
                refine And.intro ?_ ?s5
                refine And.intro ?_ ?s4
                refine And.intro ?_ ?s3
                refine And.intro ?_ ?s2
                refine And.intro ?_ ?s1
                refine And.intro ?_ ?s0
                exact trivial
                case s0 =>
                  refine Grow.step_in (by rfl) (by rfl) ?_
                  intro E W ec eg ef hG hd hu R HR1
                  have e7 : E (.tmp 7) = .int .i64 (q : Int) := hu 7 (by kernel_rfl)
                  clear hd hu
                  go_simp
                  exact HR1.out _ _ (Below.refl _ _) rfl
                case s1 =>
                  refine Grow.step_in (by rfl) (by rfl) ?_
                  intro E W ec eg ef hG hd hu R HR1
                  have e0 : E (.tmp 0) = .slice At nt ct := hu 0 (by kernel_rfl)
                  clear hd hu
                  go_simp
                  exact HR1.out _ _ (Below.refl _ _) rfl
                case s2 =>
                  refine Grow.step_in (by rfl) (by rfl) ?_
                  intro E W ec eg ef hG hd hu R HR1
                  have e59 : E (.tmp 59) = .slice At nt ct := hd 1 59 (by kernel_rfl)
                  clear hd hu
                  go_simp
                  exact HR1.out _ _ (Below.refl _ _) rfl
                case s3 =>
                  refine Grow.step_in (by rfl) (by rfl) ?_
                  intro E W ec eg ef hG hd hu R HR1
                  have e58 : E (.tmp 58) = .int .i64 (q : Int) := hd 0 58 (by kernel_rfl)
                  have e60 : E (.tmp 60) = .int .i64 (nt : Int) := hd 2 60 (by kernel_rfl)
                  clear hd hu
                  have hqn := HQN.out
                  have hqn2 : ¬ q < nt := by omega
                  have hqn3 := decide_eq_false hqn2
                  go_simp
                  first | exact HR1.out _ _ (Below.refl _ _) rfl | (simp only [hqn2, hqn3, decide_false]; exact HR1.out _ _ (Below.refl _ _) rfl) | (rw [hqn3]; exact HR1.out _ _ (Below.refl _ _) rfl)
                case s4 =>
                  refine Grow.step_in (by rfl) (by rfl) ?_
                  intro E W ec eg ef hG hd hu R HR1
                  have e61 : E (.tmp 61) = .bool false := hd 3 61 (by kernel_rfl)
                  clear hd hu
                  go_simp
                  exact HR1.out _ _ (Below.refl _ _) rfl
                case s5 =>
                  exact Grow.step_off (g := 4) (b := true) (b' := false) (d := 62) (by rfl) (by rfl) (by rfl) (by kernel_rfl) (fun v W h => h) (by decide) (fun _ => rfl)
                case s6 =>
                  exact Grow.step_off (g := 4) (b := true) (b' := false) (d := 62) (by rfl) (by rfl) (by rfl) (by kernel_rfl) (fun v W h => h) (by decide) (fun _ => rfl)
                case s7 =>
                  exact Grow.step_off (g := 4) (b := true) (b' := false) (d := 62) (by rfl) (by rfl) (by rfl) (by kernel_rfl) (fun v W h => h) (by decide) (fun _ => rfl)
                case s8 =>
                  exact Grow.step_off (g := 4) (b := true) (b' := false) (d := 62) (by rfl) (by rfl) (by rfl) (by kernel_rfl) (fun v W h => h) (by decide) (fun _ => rfl)
                case s9 =>
                  exact Grow.step_off (g := 4) (b := true) (b' := false) (d := 62) (by rfl) (by rfl) (by rfl) (by kernel_rfl) (fun v W h => h) (by decide) (fun _ => rfl)
                case s10 =>
                  exact Grow.step_off (g := 4) (b := true) (b' := false) (d := 62) (by rfl) (by rfl) (by rfl) (by kernel_rfl) (fun v W h => h) (by decide) (fun _ => rfl)
                case s11 =>
                  exact Grow.step_off (g := 4) (b := true) (b' := false) (d := 62) (by rfl) (by rfl) (by rfl) (by kernel_rfl) (fun v W h => h) (by decide) (fun _ => rfl)
                case s12 =>
                  exact Grow.step_off (g := 4) (b := true) (b' := false) (d := 62) (by rfl) (by rfl) (by rfl) (by kernel_rfl) (fun v W h => h) (by decide) (fun _ => rfl)
                case s13 =>
                  exact Grow.step_off (g := 4) (b := true) (b' := false) (d := 62) (by rfl) (by rfl) (by rfl) (by kernel_rfl) (fun v W h => h) (by decide) (fun _ => rfl)
                case s14 =>
                  exact Grow.step_off (g := 4) (b := true) (b' := false) (d := 62) (by rfl) (by rfl) (by rfl) (by kernel_rfl) (fun v W h => h) (by decide) (fun _ => rfl)
                case s15 =>
                  exact Grow.step_off (g := 4) (b := true) (b' := false) (d := 62) (by rfl) (by rfl) (by rfl) (by kernel_rfl) (fun v W h => h) (by decide) (fun _ => rfl)
                case s16 =>
                  refine Grow.step_in (by rfl) (by rfl) ?_
                  intro E W ec eg ef hG hd hu R HR1
                  have e62 : E (.tmp 62) = .bool false := hd 4 62 (by kernel_rfl)
                  have e73 : E (.tmp 73) = undef := hd 15 73 (by kernel_rfl)
                  clear hd hu
                  go_simp
                  exact HR1.out _ _ (Below.refl _ _) rfl
              case gfin =>
                intro W hG
                refine Grow.fin_dst (by rfl) ?_
                rintro _ rfl
                refine Grow.fin_dst (by rfl) ?_
                rintro _ rfl
                refine Grow.fin_dst (by rfl) ?_
                rintro _ rfl
                refine Grow.fin_dst (by rfl) ?_
                rintro _ rfl
                refine Grow.fin_dst (by rfl) ?_
                rintro _ rfl
                refine Grow.fin_dst (by rfl) ?_
                rintro _ rfl
                refine Grow.fin_dst (by rfl) ?_
                rintro _ rfl
                refine Grow.fin_dst (by rfl) ?_
                rintro _ rfl
                refine Grow.fin_dst (by rfl) ?_
                rintro _ rfl
                refine Grow.fin_dst (by rfl) ?_
                rintro _ rfl
                refine Grow.fin_dst (by rfl) ?_
                rintro _ rfl
                refine Grow.fin_dst (by rfl) ?_
                rintro _ rfl
                refine Grow.fin_dst (by rfl) ?_
                rintro _ rfl
                refine Grow.fin_dst (by rfl) ?_
                rintro _ rfl
                refine Grow.fin_dst (by rfl) ?_
                rintro _ rfl
                refine Grow.fin_dst (by rfl) ?_
                rintro _ rfl
                refine Grow.fin_dst (by rfl) ?_
                rintro _ rfl
                simp only [Act.put, List.setIfInBounds_toArray, List.set_cons_zero, List.set_cons_succ]
                refine Grow.fin_end ?_
                have HB11 := Lib.hid (Grow.below_of_drew hG)
                clear hG
                have HBW := Lib.hid (HBW.out.trans (HB11.out.mono HBW.out.size))
                have HO := Lib.hid (And.intro (own_below HO.out.1 HB11.out) HO.out.2)
                have hsl13 := run_cut3 At nt ct q (by have := HQ.out.1; omega) W
                obtain ⟨A13, c13, w13, hap13, hown13, hb13⟩ := own_cms_app2 (m := (tb2 T).drop q) (n2 := nt - q) (c2 := ct - q) HO.out.1 HBW.out.size ((HR.out.1.below HBW.out).cut (by have := HQ.out.1; omega)) (by have h1 := HLN.out; have h2 := HO.out.2.2.1; have h3 := HQ.out.1; omega) 36
                obtain ⟨L13, hL13⟩ : ∃ L13, L13 = LO ++ (tb2 T).drop q := ⟨_, rfl⟩
                rw [← hL13] at hap13 hown13
                obtain ⟨A14, c14, hv14, hc14⟩ := own_cms hown13
                injection hv14 with e1 e2 e3
                subst e1 e3
                obtain ⟨N13, hN13⟩ : ∃ N13, N13 = L13.length := ⟨_, rfl⟩
                rw [← hN13] at hap13 hc14
                rw [← HO.out.2.1] at hap13
                have H13 := Lib.hid (And.intro hc14 (And.intro hb13 hL13))
                clear hc14 hb13 hL13 hown13 hN13 e2
                go_wp2_with (at_builtin; refine wpList_app (by rfl) _ _ 36 (by rfl) (by rfl) (by rfl) hap13 ?_)
                go_roundw
                case rel =>
                  have hb := HBW.out.trans H13.out.2.1
                  have hx := HX.out
                  have hif : (if T[q]?.map (·.1) = some X.k then q + 1 else q) = q := by
                    rw [← hx.2.2.1]
                    exact if_neg (by rw [HQ.out.2.2]; simp)
                  have hlist : tb2 (doL t (l.take (j + 1))) = L13 := by
                    have e : l.take (j + 1) = l.take j ++ [X] := by rw [List.take_add_one, hx.1]; rfl
                    have e4 : doL t (l.take (j + 1)) = doC T X := by rw [e, HR.out.2.2.1]; unfold doL; rw [List.foldl_append]; rfl
                    rw [e4, do_at HR.out.2.2.2 (q := q) (by rw [← hx.2.2.1]; exact HQ.out.2.1) (by rw [← hx.2.2.1]; exact fun p hp => by rw [HQ.out.2.2] at hp; cases hp), H13.out.2.2, HO.out.2.2.2, hif, ← hx.2.2.1, ← hx.2.2.2.1, ← hx.2.2.2.2.1]
                    simp [tb2, List.map_drop]
                  unfold RDo
                  exact ⟨j + 1, A13, N13, c13, by have := HS.out.2.2.2.1; omega, by simp, rfl, by rw [hlist]; exact H13.out.1.mono fun k _ hk => .inr (Nat.le_trans HR.out.2.1.size hk), HR.out.2.1.trans (hb.mono HR.out.2.1.size)⟩
                case measure => simp only [intOf]; have h1 := HX.out.2.1; omega
    · have hlt' : ¬ (j : Int) < (n2 : Int) := by omega
      have hjn : j = l.length := by have := HS.out.2.2.2.1; omega
      rw [hjn, List.take_length] at hct
      have HB := Lib.hid (And.intro hct hbel)
      clear hct hbel hj
      go_wp2_with fail
      go_ret
      exact ⟨At, nt, ct, rfl, HB.out.1, HB.out.2⟩
end Go.Proofs.YtcgnaomffioldaaGreat
