/-
  The statement StreamLong: its walk.
-/
import Derived.Test.YtmgglcllfpikcaaDoorStreamAwake
import Derived.Test.YtmgglcllfpikcaaDoorGrow
namespace Go.Proofs.YtmgglcllfpikcaaDoor
open Go.RowKit
/-- l, so many times. -/
def repb (l : List UInt8) (i : Nat) : List UInt8 := (List.replicate i l).flatten
theorem repb_succ (l : List UInt8) (i : Nat) : repb l i ++ l = repb l (i + 1) := by simp [repb, List.replicate_succ']
theorem repb_len (l : List UInt8) (i : Nat) : (repb l i).length = i * l.length := by simp [repb]
def SLng (w1 : World) (l : List UInt8) (n N : Nat) (v i : Value) (wr : World) : Prop := ∃ j : Nat, j ≤ N ∧ i = .int .i64 j ∧ wr.ownsRow w1.heap.size 5 1 v (j * n) (u8s (repb l j)) ∧ Below w1.heap.size w1 wr

set_option maxHeartbeats 8000000 in
set_option maxRecDepth 100000 in
theorem walk_long {w : World} (k : List UInt8) (hk : k.length = 32) (no : List UInt8) (hno : no.length = 12) {S : Nat → Prop} {A : Option Addr} {n c : Nat} {l : List UInt8} (h : Byt w S A n c l) {nn : Int} (hnn : (Lit.int .u8 nn).wf = true) (ht : QTab w) :
    Calls Tryd.prog 7 #[.agg (row8 k), .agg (row8 no), .slice A n c, .int .u8 nn] w fun e w' => e = .returned (.bool true) ∧ Below w.heap.size w w' := by
  have hb8 := bounds_u8 hnn
  have HL := Lib.hid h.len
  obtain ⟨N, hN⟩ : ∃ N : Nat, nn % 40 = (N : Int) := ⟨(nn % 40).toNat, by omega⟩
  have hN40 : N < 40 := by omega
  obtain ⟨i0, hi, hz0, hz1, hz2⟩ := info_parts u8_info
  have HI := Lib.hid (And.intro hi (And.intro hz0 (And.intro hz1 hz2)))
  clear hi hz0 hz1 hz2
  obtain ⟨KS, hKS⟩ : ∃ KS, KS = row8 k := ⟨_, rfl⟩
  obtain ⟨NS, hNS⟩ : ∃ NS, NS = row8 no := ⟨_, rfl⟩
  rw [← hKS, ← hNS]
  have HKN : Hid (KS.size = 32 ∧ NS.size = 12) := Lib.hid ⟨by rw [hKS, row8_size, hk], by rw [hNS, row8_size, hno]⟩
  have HOV : Hid (∀ W {S : Nat → Prop} {A : Option Addr} {n c : Nat} {b : List UInt8}, Byt W S A n c b → QTab W → n ≤ 100000 → Calls Tryd.prog 11 #[.agg KS, .agg NS, .slice A n c] W fun e w' => ∃ A' c', e = .returned (.slice A' n c') ∧ Byt w' (W.heap.size ≤ ·) A' n c' (overL k no b) ∧ Below W.heap.size W w') := Lib.hid fun W S A n c b h1 h2 h3 => by
    rw [hKS, hNS]
    exact over_any h1 k no hk hno h2 (by omega)
  have HPA : Hid (∀ (x : BitVec 32) W, QTab W → Calls Tryd.prog 9 #[.agg KS, .agg NS, .int .u32 (nv x)] W fun e w' => e = .returned (.agg (row8 (partL k no x))) ∧ Below W.heap.size W w') := Lib.hid fun x W h => by
    rw [hKS, hNS]
    exact part_any k no hk hno x h
  have HRP : Hid (∀ (x : BitVec 32) W, Calls Tryd.prog 10 #[.agg KS, .agg NS, .int .u32 (nv x)] W fun e w' => e = .returned (.agg (row8 (partL k no x))) ∧ Below W.heap.size W w') := Lib.hid fun x W => by
    rw [hKS, hNS]
    exact rpart_any k no hk hno x W
  have HRO : Hid (∀ (b : List UInt8) W, b.length ≤ 100000 → Calls Tryd.prog 12 #[.agg KS, .agg NS, .string (st b)] W fun e w' => e = .returned (.string (st (overL k no b))) ∧ Below W.heap.size W w') := Lib.hid fun b W h => by
    rw [hKS, hNS]
    exact rover_any k no b hk hno (by omega) W
  clear hKS hNS hk hno
  have HBX : Hid (Below w.heap.size w ((w.alloc (.cells KS 23)).alloc (.cells NS 24)) ∧ ((w.alloc (.cells KS 23)).alloc (.cells NS 24)).heap[w.heap.size]? = some (.cells KS 23 (0, 0)) ∧ ((w.alloc (.cells KS 23)).alloc (.cells NS 24)).heap[w.heap.size + 1]? = some (.cells NS 24 (0, 0))) := Lib.hid (by
    refine ⟨((Below.refl _ _).alloc (Nat.le_refl _) _).alloc (by simp) _, (Below.heap_alloc _ _ _ (by simp)).trans (heap_alloc_new w _), ?_⟩
    have := heap_alloc_new (w.alloc (.cells KS 23)) (.cells NS 24)
    simpa using this)
  by_cases hn0 : n = 0
  · subst hn0
    go_enter Tryd.func7, Tryd.ntmps7
    go_wp2_with (go_at_call 8; refine (awake_true (ht.below HBX.out.1)).mono ?_; rintro _ w1 ⟨rfl, hb1⟩)
    go_ret
    exact ⟨rfl, HBX.out.1.trans (hb1.mono HBX.out.1.size)⟩
  by_cases hn : n ≤ 40
  · have hnz : ((n : Int) == 0) = false := by simp; omega
    have hng : decide ((40 : Int) < n) = false := by simp; omega
    obtain ⟨ub, uo, hA, _, hult, _⟩ := h.row (by omega)
    subst hA
    go_enter Tryd.func7, Tryd.ntmps7
    go_wp2_with fail
    refine (awake_true (ht.below HBX.out.1)).mono ?_
    rintro _ w1 ⟨rfl, hb1⟩
    have HB1 : Hid (Below w.heap.size w w1 ∧ w1.heap[w.heap.size]? = some (.cells KS 23 (0, 0)) ∧ w1.heap[w.heap.size + 1]? = some (.cells NS 24 (0, 0))) := Lib.hid ⟨HBX.out.1.trans (hb1.mono HBX.out.1.size), (hb1.block _ (lt_of_cells HBX.out.2.1)).trans HBX.out.2.1, (hb1.block _ (lt_of_cells HBX.out.2.2)).trans HBX.out.2.2⟩
    have HH := Lib.hid (And.intro ((h.below HBX.out.1).below hb1) ((ht.below HBX.out.1).below hb1))
    have HT0 := Lib.hid ht
    clear hb1 HBX h ht hnn hult
    go_wp2_with fail
    go_loopw [10, 11] (fun v i wr => SLng w1 l n N v i wr) (fun _ i _ => N - (intOf i).toNat)
    case atStart => unfold SLng; exact ⟨0, Nat.zero_le _, rfl, by rw [Nat.zero_mul]; exact World.ownsRow_nil _ _ _ _, Below.refl _ _⟩
    case round =>
      obtain ⟨j, hj, rfl, hown, hbr⟩ := hrel
      have HO := Lib.hid hown
      have HBR := Lib.hid hbr
      have hjn : j * n ≤ 40 * 40 := Nat.mul_le_mul (by omega) (by omega)
      have HJN := Lib.hid hjn
      clear hown hbr hjn
      by_cases hlt : j < N
      · have HBY := Lib.hid (HH.out.1.below HBR.out)
        have HSU := Lib.hid (repb_succ l j)
        go_wp2_with (at_builtin; refine wpList_append_own_at _ rfl _ _ 30 rfl w1.heap.size 5 i0 (.int .u8 0) 1 1 Tryd.underlying30 HI.out.1 HI.out.2.1 HI.out.2.2.1 HI.out.2.2.2 rfl (by decide) _ (j * n) (u8s (repb l j)) rfl HO.out ⟨ub, uo, none⟩ n c (u8s l) rfl (by rw [u8s_length, HL.out, Nat.mul_one]) (byt_news HBY.out) (u8s_one l) (by have := HJN.out; unfold maxLen; omega) (by have := HJN.out; omega) HBR.out.size ?_)
        intro v' w2 hown2 hgrow _ _
        have hlt' := HO.out.lt
        have HB2 : Hid (Below w1.heap.size w1 w2) := Lib.hid (HBR.out.grown hgrow HBR.out.size (fun b hb => (hlt' b hb).1))
        have HO2 : Hid (w2.ownsRow w1.heap.size 5 1 v' ((j + 1) * n) (u8s (repb l (j + 1)))) := Lib.hid (by rw [← HSU.out, u8s_append, Nat.add_mul, Nat.one_mul]; exact hown2)
        clear hown2 hgrow hlt'
        go_wp2_with fail
        go_roundw
        case rel => unfold SLng; exact ⟨j + 1, by omega, by go_num, HO2.out, HB2.out⟩
        case measure => simp [intOf]; omega
      · obtain rfl : j = N := by omega
        obtain ⟨A2, c2, rfl, hby⟩ := own_byt HO.out
        have HM : Hid (j * n ≤ 1600 ∧ (repb l j).length = j * n) := Lib.hid ⟨HJN.out, by rw [repb_len, HL.out]⟩
        generalize repb l j = B at *
        generalize j * n = M at *
        have HBY := Lib.hid hby
        have HB3 : Hid (Below w.heap.size w wr ∧ wr.heap[w.heap.size]? = some (.cells KS 23 (0, 0)) ∧ wr.heap[w.heap.size + 1]? = some (.cells NS 24 (0, 0))) := Lib.hid ⟨HB1.out.1.trans (HBR.out.mono HB1.out.1.size), (HBR.out.block _ (lt_of_cells HB1.out.2.1)).trans HB1.out.2.1, (HBR.out.block _ (lt_of_cells HB1.out.2.2)).trans HB1.out.2.2⟩
        have HT : Hid (∀ W, Below wr.drew.heap.size wr.drew W → QTab W) := Lib.hid fun W hW => (HT0.out.below HB3.out.1).below (Grow.below_of_drew hW)
        have HY : Hid (∀ W, Below wr.drew.heap.size wr.drew W → Byt W (fun _ => True) A2 M c2 B) := Lib.hid fun W hW => (HBY.out.mono (T := fun _ => True) fun _ _ _ => trivial).below (Grow.below_of_drew hW)
        have HBKS : Hid (w.heap.size < wr.drew.heap.size ∧ wr.drew.heap[w.heap.size]? = some (.cells KS 23 (0, 0))) := Lib.hid ⟨lt_of_cells HB3.out.2.1, HB3.out.2.1⟩
        have HBNS : Hid (w.heap.size + 1 < wr.drew.heap.size ∧ wr.drew.heap[w.heap.size + 1]? = some (.cells NS 24 (0, 0))) := Lib.hid ⟨lt_of_cells HB3.out.2.2, HB3.out.2.2⟩
        clear HO HBR HJN hby hlt hj HB1
        go_wp2_with fail
        refine wp_region_grow (fun W W' => Below W.heap.size W W') (Grow.nth [fun v _ => v = .agg KS, fun v _ => v = .agg NS, fun v _ => v = .slice A2 M c2, fun v V => ∃ A' c', v = .slice A' M c' ∧ Byt V (fun _ => True) A' M c' (overL k no B), fun v _ => v = .string (st (overL k no B)), fun v _ => v = .agg KS, fun v _ => v = .agg NS, fun v _ => v = .slice A2 M c2, fun v _ => v = .string (st B), fun v _ => v = .string (st (overL k no B)), fun v _ => v = .bool true, fun v _ => v = .bool true]) 44 (by kernel_rfl) (by kernel_rfl) (by rfl) (fun W => Below.refl _ W) (fun _ _ _ h1 h2 => h1.trans (h2.mono h1.size)) (Grow.mono_nth ?gmono) ?gsteps ?gfin
        case gmono => exact ⟨fun _ _ _ h _ => h, fun _ _ _ h _ => h, fun _ _ _ h _ => h, fun _ _ _ ⟨a, b, h1, h2⟩ hg => ⟨a, b, h1, h2.below hg⟩, fun _ _ _ h _ => h, fun _ _ _ h _ => h, fun _ _ _ h _ => h, fun _ _ _ h _ => h, fun _ _ _ h _ => h, fun _ _ _ h _ => h, fun _ _ _ h _ => h, fun _ _ _ h _ => h, trivial⟩
        case gsteps =>
          show Grow.allBelow _ 12
          refine And.intro ?_ ?s11
          refine And.intro ?_ ?s10
          refine And.intro ?_ ?s9
          refine And.intro ?_ ?s8
          refine And.intro ?_ ?s7
          refine And.intro ?_ ?s6
          refine And.intro ?_ ?s5
          refine And.intro ?_ ?s4
          refine And.intro ?_ ?s3
          refine And.intro ?_ ?s2
          refine And.intro ?_ ?s1
          refine And.intro ?_ ?s0
          exact trivial
          case s0 =>
            refine Grow.step_in (by rfl) (by rfl) ?_
            intro E W ec eg ef hG hd hu R HR
            have e4 : E (.tmp 4) = .pointer (some ⟨w.heap.size, 0, none⟩) := hu 4 (by kernel_rfl)
            clear hd hu
            exact runs_load 23 (.tmp 4) rfl (w.heap.size) e4 KS (0, 0) ((hG.block _ HBKS.out.1).trans HBKS.out.2) Tryd.underlying23 (by rw [HKN.out.1]; exact info32s) (HR.out _ _ (Below.refl _ _) rfl)
          case s1 =>
            refine Grow.step_in (by rfl) (by rfl) ?_
            intro E W ec eg ef hG hd hu R HR
            have e5 : E (.tmp 5) = .pointer (some ⟨w.heap.size + 1, 0, none⟩) := hu 5 (by kernel_rfl)
            clear hd hu
            exact runs_load 24 (.tmp 5) rfl (w.heap.size + 1) e5 NS (0, 0) ((hG.block _ HBNS.out.1).trans HBNS.out.2) Tryd.underlying24 (by rw [HKN.out.2]; exact info12s) (HR.out _ _ (Below.refl _ _) rfl)
          case s2 =>
            refine Grow.step_in (by rfl) (by rfl) ?_
            intro E W ec eg ef hG hd hu R HR
            have e10 : E (.tmp 10) = .slice A2 M c2 := hu 10 (by kernel_rfl)
            clear hd hu
            go_simp
            exact HR.out _ _ (Below.refl _ _) rfl
          case s3 =>
            refine Grow.step_in (by rfl) (by rfl) ?_
            intro E W ec eg ef hG hd hu R HR
            have e33 : E (.tmp 33) = .agg KS := hd 0 33 (by kernel_rfl)
            have e34 : E (.tmp 34) = .agg NS := hd 1 34 (by kernel_rfl)
            have e35 : E (.tmp 35) = .slice A2 M c2 := hd 2 35 (by kernel_rfl)
            clear hd hu
            go_simp
            refine (HOV.out W (HY.out W hG) (HT.out W hG) (by have := HM.out.1; omega)).mono ?_
            rintro _ w' ⟨A', c', rfl, hY, hb⟩
            exact ⟨_, rfl, HR.out _ _ hb ⟨A', c', rfl, hY.mono fun _ _ _ => trivial⟩⟩
          case s4 =>
            refine Grow.step_in (by rfl) (by rfl) ?_
            intro E W ec eg ef hG hd hu R HR
            have h36 := hd 3 36 (by kernel_rfl)
            clear hd hu
            obtain ⟨A', c', e36, hY⟩ := h36
            have hcv := byt_string hY
            go_simp
            exact HR.out _ _ (Below.refl _ _) rfl
          case s5 =>
            refine Grow.step_in (by rfl) (by rfl) ?_
            intro E W ec eg ef hG hd hu R HR
            have e4 : E (.tmp 4) = .pointer (some ⟨w.heap.size, 0, none⟩) := hu 4 (by kernel_rfl)
            clear hd hu
            exact runs_load 23 (.tmp 4) rfl (w.heap.size) e4 KS (0, 0) ((hG.block _ HBKS.out.1).trans HBKS.out.2) Tryd.underlying23 (by rw [HKN.out.1]; exact info32s) (HR.out _ _ (Below.refl _ _) rfl)
          case s6 =>
            refine Grow.step_in (by rfl) (by rfl) ?_
            intro E W ec eg ef hG hd hu R HR
            have e5 : E (.tmp 5) = .pointer (some ⟨w.heap.size + 1, 0, none⟩) := hu 5 (by kernel_rfl)
            clear hd hu
            exact runs_load 24 (.tmp 5) rfl (w.heap.size + 1) e5 NS (0, 0) ((hG.block _ HBNS.out.1).trans HBNS.out.2) Tryd.underlying24 (by rw [HKN.out.2]; exact info12s) (HR.out _ _ (Below.refl _ _) rfl)
          case s7 =>
            refine Grow.step_in (by rfl) (by rfl) ?_
            intro E W ec eg ef hG hd hu R HR
            have e10 : E (.tmp 10) = .slice A2 M c2 := hu 10 (by kernel_rfl)
            clear hd hu
            go_simp
            exact HR.out _ _ (Below.refl _ _) rfl
          case s8 =>
            refine Grow.step_in (by rfl) (by rfl) ?_
            intro E W ec eg ef hG hd hu R HR
            have e40 : E (.tmp 40) = .slice A2 M c2 := hd 7 40 (by kernel_rfl)
            clear hd hu
            have hcv := byt_string (HY.out W hG)
            go_simp
            exact HR.out _ _ (Below.refl _ _) rfl
          case s9 =>
            refine Grow.step_in (by rfl) (by rfl) ?_
            intro E W ec eg ef hG hd hu R HR
            have e38 : E (.tmp 38) = .agg KS := hd 5 38 (by kernel_rfl)
            have e39 : E (.tmp 39) = .agg NS := hd 6 39 (by kernel_rfl)
            have e41 : E (.tmp 41) = .string (st B) := hd 8 41 (by kernel_rfl)
            clear hd hu
            go_simp
            refine (HRO.out B W (by have := HM.out.1; have := HM.out.2; omega)).mono ?_
            rintro _ w' ⟨rfl, hb⟩
            exact ⟨_, rfl, HR.out _ _ hb (rfl)⟩
          case s10 =>
            refine Grow.step_in (by rfl) (by rfl) ?_
            intro E W ec eg ef hG hd hu R HR
            have e37 : E (.tmp 37) = .string (st (overL k no B)) := hd 4 37 (by kernel_rfl)
            have e42 : E (.tmp 42) = .string (st (overL k no B)) := hd 9 42 (by kernel_rfl)
            clear hd hu
            go_simp
            exact HR.out _ _ (Below.refl _ _) rfl
          case s11 =>
            refine Grow.step_in (by rfl) (by rfl) ?_
            intro E W ec eg ef hG hd hu R HR
            have e43 : E (.tmp 43) = .bool true := hd 10 43 (by kernel_rfl)
            clear hd hu
            go_simp
            exact HR.out _ _ (Below.refl _ _) rfl
        case gfin =>
          intro W hG
          refine Grow.fin_dst (by rfl) ?_
          rintro _ rfl
          refine Grow.fin_dst (by rfl) ?_
          rintro _ rfl
          refine Grow.fin_dst (by rfl) ?_
          rintro _ rfl
          refine Grow.fin_dst (by rfl) ?_
          rintro _ ⟨A', c', rfl, hYY⟩
          refine Grow.fin_dst (by rfl) ?_
          rintro _ rfl
          refine Grow.fin_dst (by rfl) ?_
          rintro _ rfl
          refine Grow.fin_dst (by rfl) ?_
          rintro _ rfl
          refine Grow.fin_dst (by rfl) ?_
          rintro _ rfl
          refine Grow.fin_dst (by rfl) ?_
          rintro _ rfl
          refine Grow.fin_dst (by rfl) ?_
          rintro _ rfl
          refine Grow.fin_dst (by rfl) ?_
          rintro _ rfl
          refine Grow.fin_dst (by rfl) ?_
          rintro _ rfl
          simp only [Act.put, List.setIfInBounds_toArray, List.set_cons_zero, List.set_cons_succ]
          refine Grow.fin_end ?_
          have HBW := Lib.hid (HB3.out.1.trans ((Grow.below_of_drew hG).mono HB3.out.1.size))
          clear hG
          go_wp2_with fail
          go_ret
          exact ⟨rfl, HBW.out⟩
  · have hnz : ((n : Int) == 0) = false := by simp; omega
    have hng : decide ((40 : Int) < n) = true := by simp; omega
    go_enter Tryd.func7, Tryd.ntmps7
    go_wp2_with (go_at_call 8; refine (awake_true (ht.below HBX.out.1)).mono ?_; rintro _ w1 ⟨rfl, hb1⟩)
    go_ret
    exact ⟨rfl, HBX.out.1.trans (hb1.mono HBX.out.1.size)⟩
end Go.Proofs.YtmgglcllfpikcaaDoor
