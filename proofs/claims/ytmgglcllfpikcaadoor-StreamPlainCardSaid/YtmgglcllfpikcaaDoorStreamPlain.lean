/-
  The statement StreamPlain: its walk.
-/
import Derived.Test.YtmgglcllfpikcaaDoorStreamAwake
import Derived.Test.YtmgglcllfpikcaaDoorGrow
import Derived.Test.YtmgglcllfpikcaaDoorMade
namespace Go.Proofs.YtmgglcllfpikcaaDoor
open Go.RowKit
theorem plain_at (k no : List UInt8) (K i : Nat) (h : i < K) : (overL k no (List.replicate K 0))[i]?.getD 0 = (partL k no (BitVec.ofNat 32 (i / 64)))[i % 64]?.getD 0 := by
  rw [overL, overN_at _ _ _ _ _ (by rw [List.length_replicate]; exact h), overAt, List.getElem?_replicate, if_pos h, Option.getD_some, UInt8.zero_xor]

set_option maxHeartbeats 8000000 in
set_option maxRecDepth 100000 in
theorem walk_plain {w : World} (k : List UInt8) (hk : k.length = 32) (no : List UInt8) (hno : no.length = 12) {nn : Int} (hnn : (Lit.int .u16 nn).wf = true) (ht : QTab w) :
    Calls Tryd.prog 6 #[.agg (row8 k), .agg (row8 no), .int .u16 nn] w fun e w' => e = .returned (.bool true) ∧ Below w.heap.size w w' := by
  have hb16 := bounds_u16 hnn
  have hz6 := zero64q
  obtain ⟨K, hK⟩ : ∃ K : Nat, nn % 400 = (K : Int) := ⟨(nn % 400).toNat, by omega⟩
  have hK4 : K < 400 := by omega
  obtain ⟨KS, hKS⟩ : ∃ KS, KS = row8 k := ⟨_, rfl⟩
  obtain ⟨NS, hNS⟩ : ∃ NS, NS = row8 no := ⟨_, rfl⟩
  rw [← hKS, ← hNS]
  have HKN : Hid (KS.size = 32 ∧ NS.size = 12) := Lib.hid ⟨by rw [hKS, row8_size, hk], by rw [hNS, row8_size, hno]⟩
  have HOV : Hid (∀ W {S : Nat → Prop} {A : Option Addr} {n c : Nat} {b : List UInt8}, Byt W S A n c b → QTab W → n ≤ 100000 → Calls Tryd.prog 11 #[.agg KS, .agg NS, .slice A n c] W fun e w' => ∃ A' c', e = .returned (.slice A' n c') ∧ Byt w' (W.heap.size ≤ ·) A' n c' (overL k no b) ∧ Below W.heap.size W w') := Lib.hid fun W S A n c b h1 h2 h3 => by
    rw [hKS, hNS]
    exact over_any h1 k no hk hno h2 (by omega)
  have HPA : Hid (∀ (x : BitVec 32) W, QTab W → Calls Tryd.prog 9 #[.agg KS, .agg NS, .int .u32 (nv x)] W fun e w' => e = .returned (.agg (row8 (partL k no x))) ∧ Below W.heap.size W w') := Lib.hid fun x W h => by
    rw [hKS, hNS]
    exact part_any k no hk hno x h
  have HRP : Hid (∀ (x : BitVec 32) W, Calls Tryd.prog 10 #[.agg KS, .agg NS, .int .u32 (nv x)] W fun e w' => e = .returned (.agg (row8 (partL k no x))) ∧ Below W.heap.size W w') := Lib.hid fun x W => by
    rw [hKS, hNS]
    exact rpart_any k no hk hno x W
  have HRO : Hid (∀ (b : List UInt8) W, b.length ≤ 100000 → Calls Tryd.prog 12 #[.agg KS, .agg NS, .string (st b)] W fun e w' => e = .returned (.string (st (overL k no b))) ∧ Below W.heap.size W w') := Lib.hid fun b W h => by
    rw [hKS, hNS]
    exact rover_any k no b hk hno (by omega) W
  clear hKS hNS hk hno
  have HBX : Hid (Below w.heap.size w ((w.alloc (.cells KS 23)).alloc (.cells NS 24)) ∧ ((w.alloc (.cells KS 23)).alloc (.cells NS 24)).heap[w.heap.size]? = some (.cells KS 23 (0, 0)) ∧ ((w.alloc (.cells KS 23)).alloc (.cells NS 24)).heap[w.heap.size + 1]? = some (.cells NS 24 (0, 0))) := Lib.hid (by
    refine ⟨((Below.refl _ _).alloc (Nat.le_refl _) _).alloc (by simp) _, (Below.heap_alloc _ _ _ (by simp)).trans (heap_alloc_new w _), ?_⟩
    have := heap_alloc_new (w.alloc (.cells KS 23)) (.cells NS 24)
    simpa using this)
  go_enter Tryd.func6, Tryd.ntmps6
  go_wp2_with fail
  refine (awake_true (ht.below HBX.out.1)).mono ?_
  rintro _ w1 ⟨rfl, hb1⟩
  have HB1 : Hid (Below w.heap.size w w1 ∧ w1.heap[w.heap.size]? = some (.cells KS 23 (0, 0)) ∧ w1.heap[w.heap.size + 1]? = some (.cells NS 24 (0, 0))) := Lib.hid ⟨HBX.out.1.trans (hb1.mono HBX.out.1.size), (hb1.block _ (lt_of_cells HBX.out.2.1)).trans HBX.out.2.1, (hb1.block _ (lt_of_cells HBX.out.2.2)).trans HBX.out.2.2⟩
  go_wp2_with fail
  have HT : Hid (∀ W, Below w1.drew.heap.size w1.drew W → QTab W) := Lib.hid fun W hW => (ht.below HB1.out.1).below (Grow.below_of_drew hW)
  have HBKS : Hid (w.heap.size < w1.drew.heap.size ∧ w1.drew.heap[w.heap.size]? = some (.cells KS 23 (0, 0))) := Lib.hid ⟨lt_of_cells HB1.out.2.1, HB1.out.2.1⟩
  have HBNS : Hid (w.heap.size + 1 < w1.drew.heap.size ∧ w1.drew.heap[w.heap.size + 1]? = some (.cells NS 24 (0, 0))) := Lib.hid ⟨lt_of_cells HB1.out.2.2, HB1.out.2.2⟩
  have HT0 := Lib.hid ht
  clear ht hb1 HBX hnn
  refine wp_region_grow (fun W W' => Below W.heap.size W W') (Grow.nth [fun v _ => v = .agg KS, fun v _ => v = .agg NS, fun v _ => v = .int .i64 (K : Int), fun v V => ∃ q, v = .slice (some ⟨q, 0, none⟩) K K ∧ Byt V (fun _ => True) (some ⟨q, 0, none⟩) K K (List.replicate K 0), fun v V => ∃ A' c', v = .slice A' K c' ∧ Byt V (fun _ => True) A' K c' (overL k no (List.replicate K 0)), fun v V => ∃ A' c', v = .slice A' K c' ∧ Byt V (fun _ => True) A' K c' (overL k no (List.replicate K 0))]) 47 (by kernel_rfl) (by kernel_rfl) (by rfl) (fun W => Below.refl _ W) (fun _ _ _ h1 h2 => h1.trans (h2.mono h1.size)) (Grow.mono_nth ?gmono) ?gsteps ?gfin
  case gmono => exact ⟨fun _ _ _ h _ => h, fun _ _ _ h _ => h, fun _ _ _ h _ => h, fun _ _ _ ⟨q, h1, h2⟩ hg => ⟨q, h1, h2.below hg⟩, fun _ _ _ ⟨a, b, h1, h2⟩ hg => ⟨a, b, h1, h2.below hg⟩, fun _ _ _ ⟨a, b, h1, h2⟩ hg => ⟨a, b, h1, h2.below hg⟩, trivial⟩
  case gsteps =>
    show Grow.allBelow _ 6
    refine And.intro ?_ ?s5
    refine And.intro ?_ ?s4
    refine And.intro ?_ ?s3
    refine And.intro ?_ ?s2
    refine And.intro ?_ ?s1
    refine And.intro ?_ ?s0
    exact trivial
    case s0 =>
      refine Grow.step_in (by rfl) (by rfl) ?_
      intro E W ec eg ef hG hd hu R HR
      have e3 : E (.tmp 3) = .pointer (some ⟨w.heap.size, 0, none⟩) := hu 3 (by kernel_rfl)
      clear hd hu
      exact runs_load 23 (.tmp 3) rfl (w.heap.size) e3 KS (0, 0) ((hG.block _ HBKS.out.1).trans HBKS.out.2) Tryd.underlying23 (by rw [HKN.out.1]; exact info32s) (HR.out _ _ (Below.refl _ _) rfl)
    case s1 =>
      refine Grow.step_in (by rfl) (by rfl) ?_
      intro E W ec eg ef hG hd hu R HR
      have e4 : E (.tmp 4) = .pointer (some ⟨w.heap.size + 1, 0, none⟩) := hu 4 (by kernel_rfl)
      clear hd hu
      exact runs_load 24 (.tmp 4) rfl (w.heap.size + 1) e4 NS (0, 0) ((hG.block _ HBNS.out.1).trans HBNS.out.2) Tryd.underlying24 (by rw [HKN.out.2]; exact info12s) (HR.out _ _ (Below.refl _ _) rfl)
    case s2 =>
      refine Grow.step_in (by rfl) (by rfl) ?_
      intro E W ec eg ef hG hd hu R HR
      have e8 : E (.tmp 8) = .int .i64 (K : Int) := hu 8 (by kernel_rfl)
      clear hd hu
      go_simp
      exact HR.out _ _ (Below.refl _ _) rfl
    case s3 =>
      refine Grow.step_in (by rfl) (by rfl) ?_
      intro E W ec eg ef hG hd hu R HR
      have e20 : E (.tmp 20) = .int .i64 (K : Int) := hd 2 20 (by kernel_rfl)
      clear hd hu
      have hmk := make_bytes W K (by omega)
      have hbn := byt_new (w := W) (List.replicate K 0) 5 (0, 0) (by rw [List.length_replicate]; omega)
      rw [List.length_replicate] at hbn
      have HBN := Lib.hid hbn
      clear hbn
      go_simp
      exact HR.out _ _ ((Below.refl _ _).alloc (Nat.le_refl _) _) ⟨_, rfl, HBN.out⟩
    case s4 =>
      refine Grow.step_in (by rfl) (by rfl) ?_
      intro E W ec eg ef hG hd hu R HR
      have e18 : E (.tmp 18) = .agg KS := hd 0 18 (by kernel_rfl)
      have e19 : E (.tmp 19) = .agg NS := hd 1 19 (by kernel_rfl)
      have h21 := hd 3 21 (by kernel_rfl)
      clear hd hu
      obtain ⟨q, e21, hYY⟩ := h21
      go_simp
      refine (HOV.out W hYY (HT.out W hG) (by omega)).mono ?_
      rintro _ w' ⟨A', c', rfl, hY, hb⟩
      exact ⟨_, rfl, HR.out _ _ hb ⟨A', c', rfl, hY.mono fun _ _ _ => trivial⟩⟩
    case s5 =>
      refine Grow.step_in (by rfl) (by rfl) ?_
      intro E W ec eg ef hG hd hu R HR
      have h22 := hd 4 22 (by kernel_rfl)
      clear hd hu
      obtain ⟨A', c', e22, hY⟩ := h22
      go_simp
      exact HR.out _ _ (Below.refl _ _) ⟨A', c', rfl, hY⟩
  case gfin =>
    intro W hG
    refine Grow.fin_dst (by rfl) ?_
    rintro _ rfl
    refine Grow.fin_dst (by rfl) ?_
    rintro _ rfl
    refine Grow.fin_dst (by rfl) ?_
    rintro _ rfl
    refine Grow.fin_dst (by rfl) ?_
    rintro _ ⟨_, rfl, _⟩
    refine Grow.fin_dst (by rfl) ?_
    rintro _ ⟨A', c', rfl, hYY⟩
    refine Grow.fin_dst (by rfl) ?_
    rintro _ ⟨A', c', rfl, hYY⟩
    simp only [Act.put, List.setIfInBounds_toArray, List.set_cons_zero, List.set_cons_succ]
    refine Grow.fin_end ?_
    have HB3 : Hid (Below w.heap.size w W ∧ W.heap[w.heap.size]? = some (.cells KS 23 (0, 0)) ∧ W.heap[w.heap.size + 1]? = some (.cells NS 24 (0, 0))) := Lib.hid ⟨HB1.out.1.trans ((Grow.below_of_drew hG).mono HB1.out.1.size), (hG.block _ HBKS.out.1).trans HBKS.out.2, (hG.block _ HBNS.out.1).trans HBNS.out.2⟩
    have HYW := Lib.hid hYY
    obtain ⟨bb, off, hA⟩ : ∃ bb off, 0 < K → A' = some ⟨bb, off, none⟩ := by
      by_cases h0 : 0 < K
      · obtain ⟨x, o, hA, _⟩ := hYY.row h0
        exact ⟨x, o, fun _ => hA⟩
      · exact ⟨0, 0, fun h => absurd h h0⟩
    have HA := Lib.hid hA
    clear hYY hG HB1 hA hK hb16
    go_wp2_with fail
    go_loopw [10] (fun x wr => ∃ i : Nat, i ≤ K ∧ x = .int .i64 i ∧ Below W.heap.size W wr) (fun x _ => K - (intOf x).toNat)
    case atStart => exact ⟨0, Nat.zero_le _, rfl, Below.refl _ _⟩
    case round =>
      obtain ⟨i, hi, rfl, hbr⟩ := hrel
      have HBR := Lib.hid hbr
      clear hbr
      by_cases hlt : i < K
      · have hAe := HA.out (by omega)
        subst hAe
        have HRK : Hid (wr.heap[w.heap.size]? = some (.cells KS 23 (0, 0)) ∧ wr.heap[w.heap.size + 1]? = some (.cells NS 24 (0, 0)) ∧ QTab wr) := Lib.hid ⟨(HBR.out.block _ (lt_of_cells HB3.out.2.1)).trans HB3.out.2.1, (HBR.out.block _ (lt_of_cells HB3.out.2.2)).trans HB3.out.2.2, (HT0.out.below HB3.out.1).below HBR.out⟩
        have HPI := Lib.hid (plain_at k no K i hlt)
        have HPL := Lib.hid (partL_length k no (BitVec.ofNat 32 (i / 64)))
        have HPC := Lib.hid (HPA.out (BitVec.ofNat 32 (i / 64)))
        have HCV : Hid ((i : Int) / 64 = nv (BitVec.ofNat 32 (i / 64))) := Lib.hid (by
          unfold nv
          rw [BitVec.toNat_ofNat]
          have h : (2 : Nat) ^ 32 = 4294967296 := rfl
          rw [h]
          omega)
        generalize partL k no (BitVec.ofNat 32 (i / 64)) = PL at *
        generalize BitVec.ofNat 32 (i / 64) = X at *
        obtain ⟨PS, hPS⟩ : ∃ PS, PS = row8 PL := ⟨_, rfl⟩
        rw [← hPS] at HPC
        have HPS : Hid (PS.size = 64 ∧ PS.all (·.oneCell') = true ∧ PS = row8 PL) := Lib.hid ⟨by rw [hPS, row8_size, HPL.out], by rw [hPS]; exact row8_one _, hPS⟩
        clear hPS
        go_wp2_with (first | (refine wpList_load_row (by rfl) 23 (.tmp 3) (by rfl) w.heap.size (by rfl) 23 KS (0, 0) _ HRK.out.1 Tryd.underlying23 (by rfl) (by rw [HKN.out.1]; exact info32s) ?_) | (refine wpList_load_row (by rfl) 24 (.tmp 4) (by rfl) (w.heap.size + 1) (by rfl) 24 NS (0, 0) _ HRK.out.2.1 Tryd.underlying24 (by rfl) (by rw [HKN.out.2]; exact info12s) ?_))
        rw [HCV.out]
        refine (HPC.out _ HRK.out.2.2).mono ?_
        rintro _ w5 ⟨rfl, hb5⟩
        have HG5 := Lib.hid (heap_alloc_new w5 (.cells zeros64q 27))
        go_upto_region 12 with (refine wpList_store_row (by rfl) 27 (.tmp 11) (.tmp 37) (by rfl) w5.heap.size PS (by rfl) (by rfl) 27 _ HG5.out (by rw [HPS.out.1]; exact info64q) (by rw [HPS.out.1]; rfl) HPS.out.2.1 ?_)
        have hb6 : Below wr.heap.size wr ((w5.alloc (.cells zeros64q 27)).setRow w5.heap.size PS) := hb5.trans ((below_setRow ((Below.refl _ _).alloc (Nat.le_refl _) _) (Nat.le_refl _) _ : Below w5.heap.size w5 _).mono hb5.size)
        have h6 := setRow_at (new := PS) HG5.out
        rw [HPS.out.2.2] at h6
        rw [HPS.out.2.2] at hb6
        have HB6 : Hid (Below W.heap.size W ((w5.alloc (.cells zeros64q 27)).setRow w5.heap.size (row8 PL))) := Lib.hid (HBR.out.trans (hb6.mono HBR.out.size))
        rw [HPS.out.2.2]
        clear hb5 hb6 HG5 HBR HPC HCV HRK
        generalize (w5.alloc (.cells zeros64q 27)).setRow w5.heap.size (row8 PL) = w6 at *
        generalize w5.heap.size = PB at *
        obtain ⟨pl, hpl⟩ : ∃ pl, PL[i % 64]?.getD 0 = pl := ⟨_, rfl⟩
        have d1 : ∀ j, (w6.drewN j).cell? ⟨bb, off + i, none⟩ = some (.int .u8 (pl.toNat : Int)) := fun j => by
          obtain ⟨y, o, hA1, _, _, hc⟩ := (HYW.out.below HB6.out).row (by omega)
          injection hA1 with hA1
          injection hA1 with e1 e2
          have := hc i hlt
          rw [HPI.out, hpl] at this
          rw [e1, e2]
          exact this
        have d2 : ∀ j, (w6.drewN j).cell? ⟨PB, i % 64, none⟩ = some (.int .u8 (pl.toNat : Int)) := fun j => by
          have h2 := u8s_cell (w := w6) (p := PB) (l := PL) (t := 27) h6 (i % 64) (by rw [HPL.out]; omega)
          rw [hpl] at h2
          exact h2
        have hx1 : (i : Int).tmod 64 = ((i % 64 : Nat) : Int) := by rw [Int.tmod_eq_emod_of_nonneg (by omega)]; omega
        have hwr := IntWalk.i64_in ((i % 64 : Nat) : Int) (by omega)
        have hr : i % 64 < 64 := by omega
        have ir : ((i % 64 : Nat) : Int) < 64 := by omega
        have ik : (i : Int) < (K : Int) := by omega
        clear hpl h6
        generalize i % 64 = r at *
        go_quiet (fail)
        have HB7 := Lib.hid (below_drewN HB6.out nq)
        clear HB6 d1 d2
        generalize w6.drewN nq = w7 at *
        go_wp2_with fail
        go_roundw
        case rel => exact ⟨i + 1, by omega, by go_num, HB7.out⟩
        case measure => simp [intOf]; omega
      · obtain rfl : i = K := by omega
        have HF := Lib.hid (HB3.out.1.trans (HBR.out.mono HB3.out.1.size))
        go_wp2_with fail
        go_ret
        exact ⟨rfl, HF.out⟩
end Go.Proofs.YtmgglcllfpikcaaDoor
