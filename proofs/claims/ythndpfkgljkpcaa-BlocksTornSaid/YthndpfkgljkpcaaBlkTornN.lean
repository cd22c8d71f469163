/-
  The statement BlocksTorn: its walk (torn below 0).
-/
import Derived.Test.YthndpfkgljkpcaaBlkTornPure
namespace Go.Proofs.Ythndpfkgljkpcaa
open Go.RowKit

set_option maxHeartbeats 8000000 in
set_option maxRecDepth 100000 in
theorem walk_btornN {x y z : Nat} (hx : x < 256) (hy : y < 256) (hz : z < 256) {torn : Int} (ht : torn < 0) (w : World) :
    Calls Try.prog 4 #[.int .u8 (x : Int), .int .u8 (y : Int), .int .u8 (z : Int), .int .i64 torn] w fun e w' => e = .returned (.bool true) ∧ Below w.heap.size w w' := by
  have haw := bawake_true w
  obtain ⟨k, hk⟩ : ∃ k : Nat, (x : Int) % 20 + 2 = (k : Int) := ⟨x % 20 + 2, by omega⟩
  have hk2 : 2 ≤ k := by omega
  have hk21 : k ≤ 21 := by omega
  obtain ⟨i, hi⟩ : ∃ i, i = y % k := ⟨_, rfl⟩
  have hik : i < k := by rw [hi]; exact Nat.mod_lt _ (by omega)
  have hrem : (y : Int).tmod (k : Int) = (i : Int) := by rw [hi, Int.ofNat_tmod]
  have hy64 := IntWalk.i64_in ((y : Nat) : Int) (by omega)
  obtain ⟨s, hs⟩ : ∃ s : Nat, (z : Int) % 20 = (s : Int) := ⟨z % 20, by omega⟩
  have hs19 : s ≤ 19 := by omega
  obtain ⟨nb, hnb⟩ : ∃ nb, nb = (i + 1) % k := ⟨_, rfl⟩
  have hnbk : nb < k := by rw [hnb]; exact Nat.mod_lt _ (by omega)
  have hne : nb ≠ i := by rw [hnb]; exact next_ne hk2 hik
  have hi1 := IntWalk.i64_in ((i : Int) + 1) (by omega)
  have hrem2 : ((i : Int) + 1).tmod (k : Int) = (nb : Int) := by rw [hnb, show (i : Int) + 1 = ((i + 1 : Nat) : Int) by omega, Int.ofNat_tmod]
  have hkz : ¬ k = 0 := by omega
  have HK := Lib.hid (And.intro hk2 (And.intro hk21 (And.intro hik (And.intro hs19 (And.intro hnbk hne)))))
  have hT : (if torn < 0 then 0 else if 128 < torn then 128 else torn) = ((0 : Nat) : Int) := by rw [if_pos ht]; rfl
  have HT := Lib.hid hT
  clear hT hk2 hk21 hi hik hs19 hnb hnbk hne
  go_enter Try.func4, Try.ntmps4
  go_upto_region 5 with (go_at_call 7; refine haw.mono ?_; clear haw; rintro _ w1 ⟨rfl, hb1⟩)
  have hnew := Dsk.new hb1 k (by have := HK.out.1; omega) (by have := HK.out.2.1; omega)
  clear hb1
  go_wp2_with (go_at_call 8; refine hnew.mono ?_; clear hnew; rintro _ w2 ⟨g, rfl, hd⟩; obtain ⟨m, hm⟩ : ∃ m, m = w2.heap.size := ⟨_, rfl⟩; rw [← hm] at hd; clear hm; have HD2 := Lib.hid hd; clear hd)
  go_loopw [13] (fun j wr => RTa w m g k j wr) (fun j _ => k - (intOf j).toNat)
  case atStart => exact ⟨0, _, Nat.zero_le _, rfl, TnA.start (by have := HK.out.1; omega) (by have := HK.out.2.1; omega), HD2.out⟩
  case round =>
    obtain ⟨j, d, hj, rfl, hM, hd⟩ := hrel
    by_cases hlt : j < k
    · have hlt' : (j : Int) < (k : Int) := by omega
      have hw8 : IntKind.u8.wrap (j : Int) = (j : Int) := by rw [IntKind.wrap_u8]; have := HK.out.2.1; omega
      have hw8' : (j : Int) % 256 = (j : Int) := by have := HK.out.2.1; omega
      have hadd := IntWalk.i64_in ((j : Int) + 1) (by have := HK.out.2.1; omega)
      have hfl : ∀ W : World, Calls Try.prog 10 #[.int .u8 (j : Int), .int .i64 128] W fun e w' => e = .returned (.slice (some ⟨W.heap.size, 0, none⟩) 128 128) ∧ w'.heap[W.heap.size]? = some (.cells (u8s (filledL j 128)).toArray 5 (0, 0)) ∧ Below W.heap.size W w' := fun W => filled_any j 128 (by have := HK.out.2.1; omega) (by omega) W
      have hstep := hM.step hlt (filledL_length j 128)
      have HR := Lib.hid (And.intro hstep (And.intro hd hlt))
      clear hstep hM hd hlt hj
      go_wp2_with (first
        | (go_at_call 10; refine (hfl _).mono ?_; clear hfl; rintro _ w3 ⟨rfl, hg3, hb3⟩; have hwr := (HR.out.2.1.below hb3).write (byt_filled' hg3 (filledL_length j 128) (by omega) HR.out.2.1.top) (j : Int); rw [HR.out.1.1] at hwr; clear hg3 hb3)
        | (go_at_call 11; refine hwr.mono ?_; clear hwr; rintro _ w4 ⟨rfl, hd4, _⟩; have H4 := Lib.hid hd4; clear hd4))
      go_roundw
      case rel => unfold RTa; exact ⟨j + 1, _, by have := HR.out.2.2; omega, by simp, HR.out.1.2, H4.out⟩
      case measure => simp only [intOf]; have := HR.out.2.2; omega
    · have hlt' : ¬ (j : Int) < (k : Int) := by omega
      obtain rfl : k = j := by omega
      have hst := hd.stop (s : Int) torn (by have := HK.out.2.2.2.1; omega)
      have HM := Lib.hid hM
      clear hM hd hlt hj
      go_wp2_with (go_at_call 13; refine hst.mono ?_; clear hst; rintro _ w3 ⟨rfl, hd3, _⟩; have H3 := Lib.hid hd3; clear hd3)
      go_loopw [16] (fun j wr => RTb w m g k s nb 0 j wr) (fun j _ => s - (intOf j).toNat)
      case atStart => exact ⟨0, _, Nat.zero_le _, rfl, HM.out.stop HT.out, H3.out⟩
      case round =>
        obtain ⟨j, e, hj, rfl, hM, hd⟩ := hrel
        by_cases hlt : j < s
        · have hlt2 : (j : Int) < (s : Int) := by omega
          obtain ⟨d2, hw, hM2⟩ := hM.step hlt HK.out.2.2.2.2.1 (filledL_length 99 128)
          have hadd := IntWalk.i64_in ((j : Int) + 1) (by have := HK.out.2.2.2.1; omega)
          have hfl : ∀ W : World, Calls Try.prog 10 #[.int .u8 99, .int .i64 128] W fun e w' => e = .returned (.slice (some ⟨W.heap.size, 0, none⟩) 128 128) ∧ w'.heap[W.heap.size]? = some (.cells (u8s (filledL 99 128)).toArray 5 (0, 0)) ∧ Below W.heap.size W w' := fun W => filled_any 99 128 (by omega) (by omega) W
          have HR := Lib.hid (And.intro hw (And.intro hM2 (And.intro hd hlt)))
          clear hw hM2 hM hd hlt hj hlt'
          go_upto_region 18 with fail
          refine wp_region_plan (fun _ => True) [([0, 1, 2, 3, 4], 5), ([], 6)] [7] (by kernel_rfl) (by kernel_rfl) (fun _ _ d _ _ h => by cases d <;> exact h) trivial ?_
          refine plan_eff ?_
          refine seg_read ?v1 (by rfl) (by rfl) ?h1 ?_
          case h1 => intro W hW; go_simp; with_reducible rfl
          try simp only [Act.put, List.setIfInBounds_toArray, List.set_cons_zero, List.set_cons_succ]
          refine seg_read ?v2 (by rfl) (by rfl) ?h2 ?_
          case h2 => intro W hW; go_simp; with_reducible rfl
          try simp only [Act.put, List.setIfInBounds_toArray, List.set_cons_zero, List.set_cons_succ]
          refine seg_read ?v3 (by rfl) (by rfl) ?h3 ?_
          case h3 => intro W hW; go_simp; with_reducible rfl
          try simp only [Act.put, List.setIfInBounds_toArray, List.set_cons_zero, List.set_cons_succ]
          refine seg_read ?v4 (by rfl) (by rfl) ?h4 ?_
          case h4 => intro W hW; go_simp; with_reducible rfl
          try simp only [Act.put, List.setIfInBounds_toArray, List.set_cons_zero, List.set_cons_succ]
          refine seg_read ?v5 (by rfl) (by rfl) ?h5 ?_
          case h5 => intro W hW; go_simp; with_reducible rfl
          try simp only [Act.put, List.setIfInBounds_toArray, List.set_cons_zero, List.set_cons_succ]
          refine seg_nil ?_
          refine eff_step (by rfl) (fun K hK => ?_)
          go_simp
          refine (hfl _).mono ?_
          rintro _ w4 ⟨rfl, hg4, hb4⟩
          have hb4 : Below wr.heap.size wr w4 := (Below.refl _ _).drew.trans hb4
          have hwr := (HR.out.2.2.1.below hb4).write (byt_filled' hg4 (filledL_length 99 128) (by omega) HR.out.2.2.1.top) (nb : Int)
          rw [HR.out.1] at hwr
          simp only at hwr
          clear hfl hg4 hb4
          refine hK _ _ ⟨fun _ => True, trivial, fun _ h => h, ?_⟩
          clear hK K
          refine plan_eff ?_
          refine seg_nil ?_
          refine eff_step (by rfl) (fun K hK => ?_)
          go_simp
          refine hwr.mono ?_
          clear hwr
          rintro _ w5 ⟨rfl, hd5, _⟩
          have H5 := Lib.hid hd5
          clear hd5
          refine hK _ _ ⟨fun W => W = w5, rfl, fun _ _ => trivial, ?_⟩
          clear hK K
          refine plan_last ?_
          repeat (refine seg_step (by rfl) (fun K hK => ?_); go_simp; refine hK _ ?_; clear hK K)
          refine seg_nil ?_
          go_wp2_with fail
          go_roundw
          case rel => unfold RTb; exact ⟨j + 1, d2, by have := HR.out.2.2.2; omega, by simp, HR.out.2.1, H5.out⟩
          case measure => simp only [intOf]; have := HR.out.2.2.2; omega
        · have hlt2 : ¬ (j : Int) < (s : Int) := by omega
          obtain rfl : s = j := by omega
          obtain ⟨d2, hw, hC⟩ := hM.stop hd.dk.ok HK.out.2.2.1 HK.out.2.2.2.2.2
          have hfl : ∀ W : World, Calls Try.prog 10 #[.int .u8 200, .int .i64 128] W fun e w' => e = .returned (.slice (some ⟨W.heap.size, 0, none⟩) 128 128) ∧ w'.heap[W.heap.size]? = some (.cells (u8s (filledL 200 128)).toArray 5 (0, 0)) ∧ Below W.heap.size W w' := fun W => filled_any 200 128 (by omega) (by omega) W
          have HFL := Lib.hid hfl
          have HW := Lib.hid (And.intro hw (And.intro hC hd))
          clear hw hC hM hd hlt hj hfl hlt'
          go_upto_region 21 with (first
            | (go_at_call 10; refine (HFL.out _).mono ?_; rintro _ w4 ⟨rfl, hg4, hb4⟩; have hwr := (HW.out.2.2.below hb4).write (byt_filled' hg4 (filledL_length 200 128) (by omega) HW.out.2.2.top) (i : Int); rw [HW.out.1] at hwr; simp only at hwr; clear hg4 hb4)
            | (go_at_call 11; refine hwr.mono ?_; clear hwr; rintro _ w5 ⟨rfl, hd5, _⟩))
          have hre := hd5.restart
          clear hd5
          go_upto_region 22 with (go_at_call 17; refine hre.mono ?_; clear hre; rintro _ w6 ⟨rfl, hd6, _⟩)
          generalize restartM d2 = dF at *
          have hrd := hd6.read (i : Int)
          rw [HW.out.2.1.at_] at hrd
          simp only at hrd
          clear hd6
          have HTT := Lib.hid (show 0 ≤ 128 by omega)
          go_upto_region 28 with (go_at_call 15; refine hrd.mono ?_; clear hrd; rintro _ w7 ⟨A7, n7, c7, rfl, hy7, hd7, _, _⟩)
          have H7 := Lib.hid (And.intro hy7 hd7)
          clear hy7 hd7
          have hw8 : IntKind.u8.wrap (i : Int) = (i : Int) := by rw [IntKind.wrap_u8]; have h1 := HK.out.2.1; have h2 := HK.out.2.2.1; omega
          have hw8' : (i : Int) % 256 = (i : Int) := by have h1 := HK.out.2.1; have h2 := HK.out.2.2.1; omega
          have HFI := Lib.hid (fun W : World => show Calls Try.prog 10 #[.int .u8 (i : Int), .int .i64 128] W _ from filled_any i 128 (by have h1 := HK.out.2.1; have h2 := HK.out.2.2.1; omega) (by omega) W)
          obtain ⟨SA, hSA⟩ : ∃ SA, SA = st ((filledL 200 128).take 0) := ⟨_, rfl⟩
          obtain ⟨SB, hSB⟩ : ∃ SB, SB = st ((filledL i 128).drop 0) := ⟨_, rfl⟩
          have hsum : ¬ 9223372036854775807 < SA.size + SB.size := by
            rw [hSA, hSB, st_size, st_size, List.length_take, List.length_drop, filledL_length, filledL_length]
            omega
          have HSS := Lib.hid (And.intro hSA hSB)
          clear hSA hSB
          refine wp_region_grow (fun W W' => Below W.heap.size W W') (Grow.nth [SlT (filledL 200 128), fun v _ => v = .int .i64 0, SlT ((filledL 200 128).take 0), fun v _ => v = .string SA, fun v _ => v = .int .i64 (i : Int), fun v _ => v = .int .u8 (i : Int), SlT (filledL i 128), fun v _ => v = .int .i64 0, SlT ((filledL i 128).drop 0), fun v _ => v = .string SB, fun v _ => v = .string (SA ++ SB), fun v _ => v = .string (SA ++ SB)]) 180 (by kernel_rfl) (by kernel_rfl) (by rfl) (fun W => Below.refl _ W) (fun _ _ _ h1 h2 => h1.trans (h2.mono h1.size)) (Grow.mono_nth ?gmono) ?gsteps ?gfin
          case gmono => exact ⟨fun _ _ _ h hg => h.below hg, fun _ _ _ h _ => h, fun _ _ _ h hg => h.below hg, fun _ _ _ h _ => h, fun _ _ _ h _ => h, fun _ _ _ h _ => h, fun _ _ _ h hg => h.below hg, fun _ _ _ h _ => h, fun _ _ _ h hg => h.below hg, fun _ _ _ h _ => h, fun _ _ _ h _ => h, fun _ _ _ h _ => h, trivial⟩
          case gsteps =>
            show Grow.allBelow _ 12
            refine And.intro ?_ ?s11
            refine And.intro ?_ ?s10
            refine And.intro ?_ ?s9
            refine And.intro ?_ ?s8
            refine And.intro ?_ ?s7
            refine And.intro ?_ ?s6
            refine And.intro ?_ ?s5
            refine And.intro ?_ ?s4
            refine And.intro ?_ ?s3
            refine And.intro ?_ ?s2
            refine And.intro ?_ ?s1
            refine And.intro ?_ ?s0
            exact trivial
            case s0 =>
              refine Grow.step_in (by rfl) (by rfl) ?_
              intro E W ec eg ef hG hd hu R HR1
              clear hd hu
              go_simp
              refine (HFL.out _).mono ?_
              intro e w' he
              obtain ⟨v4, rfl, hv4, hb4⟩ := slT_filled he (filledL_length 200 128)
              exact ⟨v4, rfl, HR1.out _ _ hb4 hv4⟩
            case s1 =>
              refine Grow.step_in (by rfl) (by rfl) ?_
              intro E W ec eg ef hG hd hu R HR1
              have e18 : E (.tmp 18) = .int .i64 0 := hu 18 (by kernel_rfl)
              clear hd hu
              go_simp
              exact HR1.out _ _ (Below.refl _ _) rfl
            case s2 =>
              refine Grow.step_in (by rfl) (by rfl) ?_
              intro E W ec eg ef hG hd hu R HR1
              have h94 := hd 0 94 (by kernel_rfl)
              have e95 : E (.tmp 95) = .int .i64 0 := hd 1 95 (by kernel_rfl)
              clear hd hu
              obtain ⟨v4, hrun4, hv4⟩ := h94.to 0 (0) rfl (by rw [filledL_length]; exact HTT.out)
              go_simp
              exact HR1.out _ _ (Below.refl _ _) hv4
            case s3 =>
              refine Grow.step_in (by rfl) (by rfl) ?_
              intro E W ec eg ef hG hd hu R HR1
              have h96 := hd 2 96 (by kernel_rfl)
              clear hd hu
              have hcv := h96.str
              rw [← HSS.out.1] at hcv
              go_simp
              exact HR1.out _ _ (Below.refl _ _) rfl
            case s4 =>
              refine Grow.step_in (by rfl) (by rfl) ?_
              intro E W ec eg ef hG hd hu R HR1
              have e15 : E (.tmp 15) = .int .i64 (i : Int) := hu 15 (by kernel_rfl)
              clear hd hu
              go_simp
              exact HR1.out _ _ (Below.refl _ _) rfl
            case s5 =>
              refine Grow.step_in (by rfl) (by rfl) ?_
              intro E W ec eg ef hG hd hu R HR1
              have e98 : E (.tmp 98) = .int .i64 (i : Int) := hd 4 98 (by kernel_rfl)
              clear hd hu
              go_simp
              exact HR1.out _ _ (Below.refl _ _) rfl
            case s6 =>
              refine Grow.step_in (by rfl) (by rfl) ?_
              intro E W ec eg ef hG hd hu R HR1
              have e99 : E (.tmp 99) = .int .u8 (i : Int) := hd 5 99 (by kernel_rfl)
              clear hd hu
              go_simp
              refine (HFI.out _).mono ?_
              intro e w' he
              obtain ⟨v4, rfl, hv4, hb4⟩ := slT_filled he (filledL_length i 128)
              exact ⟨v4, rfl, HR1.out _ _ hb4 hv4⟩
            case s7 =>
              refine Grow.step_in (by rfl) (by rfl) ?_
              intro E W ec eg ef hG hd hu R HR1
              have e18 : E (.tmp 18) = .int .i64 0 := hu 18 (by kernel_rfl)
              clear hd hu
              go_simp
              exact HR1.out _ _ (Below.refl _ _) rfl
            case s8 =>
              refine Grow.step_in (by rfl) (by rfl) ?_
              intro E W ec eg ef hG hd hu R HR1
              have h100 := hd 6 100 (by kernel_rfl)
              have e101 : E (.tmp 101) = .int .i64 0 := hd 7 101 (by kernel_rfl)
              clear hd hu
              obtain ⟨v4, hrun4, hv4⟩ := h100.from 0 (0) rfl (by rw [filledL_length]; exact HTT.out)
              go_simp
              exact HR1.out _ _ (Below.refl _ _) hv4
            case s9 =>
              refine Grow.step_in (by rfl) (by rfl) ?_
              intro E W ec eg ef hG hd hu R HR1
              have h102 := hd 8 102 (by kernel_rfl)
              clear hd hu
              have hcv := h102.str
              rw [← HSS.out.2] at hcv
              go_simp
              exact HR1.out _ _ (Below.refl _ _) rfl
            case s10 =>
              refine Grow.step_in (by rfl) (by rfl) ?_
              intro E W ec eg ef hG hd hu R HR1
              have e97 : E (.tmp 97) = .string SA := hd 3 97 (by kernel_rfl)
              have e103 : E (.tmp 103) = .string SB := hd 9 103 (by kernel_rfl)
              clear hd hu
              go_simp
              first | exact HR1.out _ _ (Below.refl _ _) rfl | (rw [if_neg hsum]; exact HR1.out _ _ (Below.refl _ _) rfl)
            case s11 =>
              refine Grow.step_in (by rfl) (by rfl) ?_
              intro E W ec eg ef hG hd hu R HR1
              have e104 : E (.tmp 104) = .string (SA ++ SB) := hd 10 104 (by kernel_rfl)
              clear hd hu
              go_simp
              exact HR1.out _ _ (Below.refl _ _) rfl
          case gfin =>
            intro W hG
            refine Grow.fin_dst (by rfl) ?_
            rintro _ ⟨Af, nf, cf, rfl, _⟩
            refine Grow.fin_dst (by rfl) ?_
            rintro _ rfl
            refine Grow.fin_dst (by rfl) ?_
            rintro _ ⟨Af, nf, cf, rfl, _⟩
            refine Grow.fin_dst (by rfl) ?_
            rintro _ rfl
            refine Grow.fin_dst (by rfl) ?_
            rintro _ rfl
            refine Grow.fin_dst (by rfl) ?_
            rintro _ rfl
            refine Grow.fin_dst (by rfl) ?_
            rintro _ ⟨Af, nf, cf, rfl, _⟩
            refine Grow.fin_dst (by rfl) ?_
            rintro _ rfl
            refine Grow.fin_dst (by rfl) ?_
            rintro _ ⟨Af, nf, cf, rfl, _⟩
            refine Grow.fin_dst (by rfl) ?_
            rintro _ rfl
            refine Grow.fin_dst (by rfl) ?_
            rintro _ rfl
            refine Grow.fin_dst (by rfl) ?_
            rintro _ rfl
            simp only [Act.put, List.setIfInBounds_toArray, List.set_cons_zero, List.set_cons_succ]
            refine Grow.fin_end ?_
            have HW8 := Lib.hid (And.intro ((H7.out.1.drew).below hG) (H7.out.2.drew.below hG))
            clear hG hw8 hw8'
            go_wp2_with fail
            go_loopw [22] (fun j wr => RTc W k j wr) (fun j _ => k - (intOf j).toNat)
            case atStart => exact ⟨0, Nat.zero_le _, rfl, Below.refl _ _⟩
            case round =>
              obtain ⟨j, hj, rfl, hbr⟩ := hrel
              by_cases hlt : j < k
              · have hlt3 : (j : Int) < (k : Int) := by omega
                obtain ⟨b, hrb, hbl, hbf⟩ := HW.out.2.1.oth j hlt
                have hrd := (HW8.out.2.below hbr).read (j : Int)
                rw [hrb] at hrd
                simp only at hrd
                have hadd := IntWalk.i64_in ((j : Int) + 1) (by have := HK.out.2.1; omega)
                have hw8 : IntKind.u8.wrap (j : Int) = (j : Int) := by rw [IntKind.wrap_u8]; have := HK.out.2.1; omega
                have hw8' : (j : Int) % 256 = (j : Int) := by have := HK.out.2.1; omega
                have HFJ := Lib.hid (fun W : World => show Calls Try.prog 10 #[.int .u8 (j : Int), .int .i64 128] W _ from filled_any j 128 (by have := HK.out.2.1; omega) (by omega) W)
                have HJ := Lib.hid (And.intro hbr (And.intro hlt hbf))
                clear hbr hj hrb hbf hlt hlt2
                go_upto_region 33 with (go_at_call 15; refine hrd.mono ?_; clear hrd; rintro _ w9 ⟨A9, n9, c9, rfl, hy9, hd9, hb9, _⟩)
                have H9 := Lib.hid (And.intro (show SlT b (.slice A9 n9 c9) w9.drew from ⟨_, _, _, rfl, hy9.drew.mono fun _ _ _ => trivial⟩) (HJ.out.1.trans (hb9.mono HJ.out.1.size)))
                clear hy9 hd9 hb9 hbl
                by_cases h1 : j = i
                · have hq1 : ((j : Int) != (i : Int)) = false := by simp [h1]
                  clear h1
                  refine wp_region_grow (fun W W' => Below W.heap.size W W') (Grow.nth [fun v _ => v = .int .i64 (j : Int), fun v _ => v = .int .i64 (i : Int), fun v _ => v = .bool false, fun v _ => v = .bool false, fun v _ => v = undef, fun v _ => v = undef, fun v _ => v = undef, fun v _ => v = undef, fun v _ => v = undef, fun v _ => v = undef, fun v _ => v = undef, fun v _ => v = undef, fun v _ => v = undef, fun v _ => v = undef, fun v _ => v = .bool false, fun v _ => v = .bool false, fun v _ => v = undef, fun v _ => v = undef, fun v _ => v = undef, fun v _ => v = undef, fun v _ => v = undef, fun v _ => v = undef, fun v _ => v = undef, fun v _ => v = .bool false]) 180 (by kernel_rfl) (by kernel_rfl) (by rfl) (fun W => Below.refl _ W) (fun _ _ _ h1 h2 => h1.trans (h2.mono h1.size)) (Grow.mono_nth ?gmono) ?gsteps ?gfin
                  case gmono => exact ⟨fun _ _ _ h _ => h, fun _ _ _ h _ => h, fun _ _ _ h _ => h, fun _ _ _ h _ => h, fun _ _ _ h _ => h, fun _ _ _ h _ => h, fun _ _ _ h _ => h, fun _ _ _ h _ => h, fun _ _ _ h _ => h, fun _ _ _ h _ => h, fun _ _ _ h _ => h, fun _ _ _ h _ => h, fun _ _ _ h _ => h, fun _ _ _ h _ => h, fun _ _ _ h _ => h, fun _ _ _ h _ => h, fun _ _ _ h _ => h, fun _ _ _ h _ => h, fun _ _ _ h _ => h, fun _ _ _ h _ => h, fun _ _ _ h _ => h, fun _ _ _ h _ => h, fun _ _ _ h _ => h, fun _ _ _ h _ => h, trivial⟩
                  case gsteps =>
                    show Grow.allBelow _ 24
                    refine And.intro ?_ ?s23
                    refine And.intro ?_ ?s22
                    refine And.intro ?_ ?s21
                    refine And.intro ?_ ?s20
                    refine And.intro ?_ ?s19
                    refine And.intro ?_ ?s18
                    refine And.intro ?_ ?s17
                    refine And.intro ?_ ?s16
                    refine And.intro ?_ ?s15
                    refine And.intro ?_ ?s14
                    refine And.intro ?_ ?s13
                    refine And.intro ?_ ?s12
                    refine And.intro ?_ ?s11
                    refine And.intro ?_ ?s10
                    refine And.intro ?_ ?s9
                    refine And.intro ?_ ?s8
                    refine And.intro ?_ ?s7
                    refine And.intro ?_ ?s6
                    refine And.intro ?_ ?s5
                    refine And.intro ?_ ?s4
                    refine And.intro ?_ ?s3
                    refine And.intro ?_ ?s2
                    refine And.intro ?_ ?s1
                    refine And.intro ?_ ?s0
                    exact trivial
                    case s0 =>
                      refine Grow.step_in (by rfl) (by rfl) ?_
                      intro E W ec eg ef hG hd hu R HR1
                      have e22 : E (.tmp 22) = .int .i64 (j : Int) := hu 22 (by kernel_rfl)
                      clear hd hu
                      go_simp
                      exact HR1.out _ _ (Below.refl _ _) rfl
                    case s1 =>
                      refine Grow.step_in (by rfl) (by rfl) ?_
                      intro E W ec eg ef hG hd hu R HR1
                      have e15 : E (.tmp 15) = .int .i64 (i : Int) := hu 15 (by kernel_rfl)
                      clear hd hu
                      go_simp
                      exact HR1.out _ _ (Below.refl _ _) rfl
                    case s2 =>
                      refine Grow.step_in (by rfl) (by rfl) ?_
                      intro E W ec eg ef hG hd hu R HR1
                      have e116 : E (.tmp 116) = .int .i64 (j : Int) := hd 0 116 (by kernel_rfl)
                      have e117 : E (.tmp 117) = .int .i64 (i : Int) := hd 1 117 (by kernel_rfl)
                      clear hd hu
                      go_simp
                      exact HR1.out _ _ (Below.refl _ _) rfl
                    case s3 =>
                      refine Grow.step_in (by rfl) (by rfl) ?_
                      intro E W ec eg ef hG hd hu R HR1
                      have e118 : E (.tmp 118) = .bool false := hd 2 118 (by kernel_rfl)
                      clear hd hu
                      go_simp
                      exact HR1.out _ _ (Below.refl _ _) rfl
                    case s4 =>
                      exact Grow.step_off (g := 3) (b := true) (b' := false) (d := 119) (by rfl) (by rfl) (by rfl) (by kernel_rfl) (fun v W h => h) (by decide) (fun _ => rfl)
                    case s5 =>
                      exact Grow.step_off (g := 3) (b := true) (b' := false) (d := 119) (by rfl) (by rfl) (by rfl) (by kernel_rfl) (fun v W h => h) (by decide) (fun _ => rfl)
                    case s6 =>
                      exact Grow.step_off (g := 3) (b := true) (b' := false) (d := 119) (by rfl) (by rfl) (by rfl) (by kernel_rfl) (fun v W h => h) (by decide) (fun _ => rfl)
                    case s7 =>
                      exact Grow.step_off (g := 3) (b := true) (b' := false) (d := 119) (by rfl) (by rfl) (by rfl) (by kernel_rfl) (fun v W h => h) (by decide) (fun _ => rfl)
                    case s8 =>
                      exact Grow.step_off (g := 3) (b := true) (b' := false) (d := 119) (by rfl) (by rfl) (by rfl) (by kernel_rfl) (fun v W h => h) (by decide) (fun _ => rfl)
                    case s9 =>
                      exact Grow.step_off (g := 3) (b := true) (b' := false) (d := 119) (by rfl) (by rfl) (by rfl) (by kernel_rfl) (fun v W h => h) (by decide) (fun _ => rfl)
                    case s10 =>
                      exact Grow.step_off (g := 3) (b := true) (b' := false) (d := 119) (by rfl) (by rfl) (by rfl) (by kernel_rfl) (fun v W h => h) (by decide) (fun _ => rfl)
                    case s11 =>
                      exact Grow.step_far (g := 10) (b := false) (d := 126) (by rfl) (by rfl) (by rfl) (by kernel_rfl) (fun v W h => h) (fun _ => rfl)
                    case s12 =>
                      exact Grow.step_far (g := 10) (b := false) (d := 126) (by rfl) (by rfl) (by rfl) (by kernel_rfl) (fun v W h => h) (fun _ => rfl)
                    case s13 =>
                      exact Grow.step_off (g := 3) (b := true) (b' := false) (d := 119) (by rfl) (by rfl) (by rfl) (by kernel_rfl) (fun v W h => h) (by decide) (fun _ => rfl)
                    case s14 =>
                      refine Grow.step_in (by rfl) (by rfl) ?_
                      intro E W ec eg ef hG hd hu R HR1
                      have e119 : E (.tmp 119) = .bool false := hd 3 119 (by kernel_rfl)
                      have e129 : E (.tmp 129) = undef := hd 13 129 (by kernel_rfl)
                      clear hd hu
                      go_simp
                      exact HR1.out _ _ (Below.refl _ _) rfl
                    case s15 =>
                      refine Grow.step_in (by rfl) (by rfl) ?_
                      intro E W ec eg ef hG hd hu R HR1
                      have e130 : E (.tmp 130) = .bool false := hd 14 130 (by kernel_rfl)
                      clear hd hu
                      go_simp
                      exact HR1.out _ _ (Below.refl _ _) rfl
                    case s16 =>
                      exact Grow.step_off (g := 15) (b := true) (b' := false) (d := 131) (by rfl) (by rfl) (by rfl) (by kernel_rfl) (fun v W h => h) (by decide) (fun _ => rfl)
                    case s17 =>
                      exact Grow.step_off (g := 15) (b := true) (b' := false) (d := 131) (by rfl) (by rfl) (by rfl) (by kernel_rfl) (fun v W h => h) (by decide) (fun _ => rfl)
                    case s18 =>
                      exact Grow.step_off (g := 15) (b := true) (b' := false) (d := 131) (by rfl) (by rfl) (by rfl) (by kernel_rfl) (fun v W h => h) (by decide) (fun _ => rfl)
                    case s19 =>
                      exact Grow.step_off (g := 15) (b := true) (b' := false) (d := 131) (by rfl) (by rfl) (by rfl) (by kernel_rfl) (fun v W h => h) (by decide) (fun _ => rfl)
                    case s20 =>
                      exact Grow.step_off (g := 15) (b := true) (b' := false) (d := 131) (by rfl) (by rfl) (by rfl) (by kernel_rfl) (fun v W h => h) (by decide) (fun _ => rfl)
                    case s21 =>
                      exact Grow.step_off (g := 15) (b := true) (b' := false) (d := 131) (by rfl) (by rfl) (by rfl) (by kernel_rfl) (fun v W h => h) (by decide) (fun _ => rfl)
                    case s22 =>
                      exact Grow.step_off (g := 15) (b := true) (b' := false) (d := 131) (by rfl) (by rfl) (by rfl) (by kernel_rfl) (fun v W h => h) (by decide) (fun _ => rfl)
                    case s23 =>
                      refine Grow.step_in (by rfl) (by rfl) ?_
                      intro E W ec eg ef hG hd hu R HR1
                      have e131 : E (.tmp 131) = .bool false := hd 15 131 (by kernel_rfl)
                      have e138 : E (.tmp 138) = undef := hd 22 138 (by kernel_rfl)
                      clear hd hu
                      go_simp
                      exact HR1.out _ _ (Below.refl _ _) rfl
                  case gfin =>
                    intro W2 hG
                    refine Grow.fin_dst (by rfl) ?_
                    rintro _ rfl
                    refine Grow.fin_dst (by rfl) ?_
                    rintro _ rfl
                    refine Grow.fin_dst (by rfl) ?_
                    rintro _ rfl
                    refine Grow.fin_dst (by rfl) ?_
                    rintro _ rfl
                    refine Grow.fin_dst (by rfl) ?_
                    rintro _ rfl
                    refine Grow.fin_dst (by rfl) ?_
                    rintro _ rfl
                    refine Grow.fin_dst (by rfl) ?_
                    rintro _ rfl
                    refine Grow.fin_dst (by rfl) ?_
                    rintro _ rfl
                    refine Grow.fin_dst (by rfl) ?_
                    rintro _ rfl
                    refine Grow.fin_dst (by rfl) ?_
                    rintro _ rfl
                    refine Grow.fin_dst (by rfl) ?_
                    rintro _ rfl
                    refine Grow.fin_dst (by rfl) ?_
                    rintro _ rfl
                    refine Grow.fin_dst (by rfl) ?_
                    rintro _ rfl
                    refine Grow.fin_dst (by rfl) ?_
                    rintro _ rfl
                    refine Grow.fin_dst (by rfl) ?_
                    rintro _ rfl
                    refine Grow.fin_dst (by rfl) ?_
                    rintro _ rfl
                    refine Grow.fin_dst (by rfl) ?_
                    rintro _ rfl
                    refine Grow.fin_dst (by rfl) ?_
                    rintro _ rfl
                    refine Grow.fin_dst (by rfl) ?_
                    rintro _ rfl
                    refine Grow.fin_dst (by rfl) ?_
                    rintro _ rfl
                    refine Grow.fin_dst (by rfl) ?_
                    rintro _ rfl
                    refine Grow.fin_dst (by rfl) ?_
                    rintro _ rfl
                    refine Grow.fin_dst (by rfl) ?_
                    rintro _ rfl
                    refine Grow.fin_dst (by rfl) ?_
                    rintro _ rfl
                    simp only [Act.put, List.setIfInBounds_toArray, List.set_cons_zero, List.set_cons_succ]
                    refine Grow.fin_end ?_
                    have HB := Lib.hid (H9.out.2.drew.trans (hG.mono H9.out.2.drew.size))
                    clear hG
                    go_wp2_with fail
                    go_roundw
                    case rel => unfold RTc; exact ⟨j + 1, by have := HJ.out.2.1; omega, by simp, HB.out⟩
                    case measure => simp only [intOf]; have := HJ.out.2.1; omega
                · have hq1 : ((j : Int) != (i : Int)) = true := by simp; omega
                  by_cases h2 : j = nb
                  · have hq2 : ((j : Int) != (nb : Int)) = false := by simp [h2]
                    by_cases h3 : s = 0
                    · have hq3 : ((s : Int) == 0) = true := by simp [h3]
                      have hb := HJ.out.2.2 h1 (.inr h3)
                      subst hb
                      clear h1 h2 h3
                      obtain ⟨PC, HPC⟩ : ∃ PC, Hid (st (filledL j 128) = PC) := ⟨_, Lib.hid rfl⟩
                      refine wp_region_grow (fun W W' => Below W.heap.size W W') (Grow.nth [fun v _ => v = .int .i64 (j : Int), fun v _ => v = .int .i64 (i : Int), fun v _ => v = .bool true, fun v _ => v = .bool true, fun v _ => v = .int .i64 (j : Int), fun v _ => v = .int .i64 (i : Int), fun v _ => v = .int .i64 ((i : Int) + 1), fun v _ => v = .int .i64 (k : Int), fun v _ => v = .int .i64 (nb : Int), fun v _ => v = .bool false, fun v _ => v = .bool false, fun v _ => v = .int .i64 (s : Int), fun v _ => v = .bool true, fun v _ => v = .bool true, fun v _ => v = .bool true, fun v _ => v = .bool true, fun v _ => v = .slice A9 n9 c9, fun v _ => v = .string PC, fun v _ => v = .int .i64 (j : Int), fun v _ => v = .int .u8 (j : Int), SlT (filledL j 128), fun v _ => v = .string PC, fun v _ => v = .bool false, fun v _ => v = .bool false]) 180 (by kernel_rfl) (by kernel_rfl) (by rfl) (fun W => Below.refl _ W) (fun _ _ _ h1 h2 => h1.trans (h2.mono h1.size)) (Grow.mono_nth ?gmono) ?gsteps ?gfin
                      case gmono => exact ⟨fun _ _ _ h _ => h, fun _ _ _ h _ => h, fun _ _ _ h _ => h, fun _ _ _ h _ => h, fun _ _ _ h _ => h, fun _ _ _ h _ => h, fun _ _ _ h _ => h, fun _ _ _ h _ => h, fun _ _ _ h _ => h, fun _ _ _ h _ => h, fun _ _ _ h _ => h, fun _ _ _ h _ => h, fun _ _ _ h _ => h, fun _ _ _ h _ => h, fun _ _ _ h _ => h, fun _ _ _ h _ => h, fun _ _ _ h _ => h, fun _ _ _ h _ => h, fun _ _ _ h _ => h, fun _ _ _ h _ => h, fun _ _ _ h hg => h.below hg, fun _ _ _ h _ => h, fun _ _ _ h _ => h, fun _ _ _ h _ => h, trivial⟩
                      case gsteps =>
                        show Grow.allBelow _ 24
                        refine And.intro ?_ ?s23
                        refine And.intro ?_ ?s22
                        refine And.intro ?_ ?s21
                        refine And.intro ?_ ?s20
                        refine And.intro ?_ ?s19
                        refine And.intro ?_ ?s18
                        refine And.intro ?_ ?s17
                        refine And.intro ?_ ?s16
                        refine And.intro ?_ ?s15
                        refine And.intro ?_ ?s14
                        refine And.intro ?_ ?s13
                        refine And.intro ?_ ?s12
                        refine And.intro ?_ ?s11
                        refine And.intro ?_ ?s10
                        refine And.intro ?_ ?s9
                        refine And.intro ?_ ?s8
                        refine And.intro ?_ ?s7
                        refine And.intro ?_ ?s6
                        refine And.intro ?_ ?s5
                        refine And.intro ?_ ?s4
                        refine And.intro ?_ ?s3
                        refine And.intro ?_ ?s2
                        refine And.intro ?_ ?s1
                        refine And.intro ?_ ?s0
                        exact trivial
                        case s0 =>
                          refine Grow.step_in (by rfl) (by rfl) ?_
                          intro E W ec eg ef hG hd hu R HR1
                          have e22 : E (.tmp 22) = .int .i64 (j : Int) := hu 22 (by kernel_rfl)
                          clear hd hu
                          go_simp
                          exact HR1.out _ _ (Below.refl _ _) rfl
                        case s1 =>
                          refine Grow.step_in (by rfl) (by rfl) ?_
                          intro E W ec eg ef hG hd hu R HR1
                          have e15 : E (.tmp 15) = .int .i64 (i : Int) := hu 15 (by kernel_rfl)
                          clear hd hu
                          go_simp
                          exact HR1.out _ _ (Below.refl _ _) rfl
                        case s2 =>
                          refine Grow.step_in (by rfl) (by rfl) ?_
                          intro E W ec eg ef hG hd hu R HR1
                          have e116 : E (.tmp 116) = .int .i64 (j : Int) := hd 0 116 (by kernel_rfl)
                          have e117 : E (.tmp 117) = .int .i64 (i : Int) := hd 1 117 (by kernel_rfl)
                          clear hd hu
                          go_simp
                          exact HR1.out _ _ (Below.refl _ _) rfl
                        case s3 =>
                          refine Grow.step_in (by rfl) (by rfl) ?_
                          intro E W ec eg ef hG hd hu R HR1
                          have e118 : E (.tmp 118) = .bool true := hd 2 118 (by kernel_rfl)
                          clear hd hu
                          go_simp
                          exact HR1.out _ _ (Below.refl _ _) rfl
                        case s4 =>
                          refine Grow.step_on (g := 3) (b := true) (d := 119) (by rfl) (by rfl) (by rfl) (by kernel_rfl) (fun v W h => h) ?_
                          intro E W ec eg ef hG hd hu R HR1
                          have e22 : E (.tmp 22) = .int .i64 (j : Int) := hu 22 (by kernel_rfl)
                          clear hd hu
                          go_simp
                          exact HR1.out _ _ (Below.refl _ _) rfl
                        case s5 =>
                          refine Grow.step_on (g := 3) (b := true) (d := 119) (by rfl) (by rfl) (by rfl) (by kernel_rfl) (fun v W h => h) ?_
                          intro E W ec eg ef hG hd hu R HR1
                          have e15 : E (.tmp 15) = .int .i64 (i : Int) := hu 15 (by kernel_rfl)
                          clear hd hu
                          go_simp
                          exact HR1.out _ _ (Below.refl _ _) rfl
                        case s6 =>
                          refine Grow.step_on (g := 3) (b := true) (d := 119) (by rfl) (by rfl) (by rfl) (by kernel_rfl) (fun v W h => h) ?_
                          intro E W ec eg ef hG hd hu R HR1
                          have e121 : E (.tmp 121) = .int .i64 (i : Int) := hd 5 121 (by kernel_rfl)
                          clear hd hu
                          go_simp
                          exact HR1.out _ _ (Below.refl _ _) rfl
                        case s7 =>
                          refine Grow.step_on (g := 3) (b := true) (d := 119) (by rfl) (by rfl) (by rfl) (by kernel_rfl) (fun v W h => h) ?_
                          intro E W ec eg ef hG hd hu R HR1
                          have e10 : E (.tmp 10) = .int .i64 (k : Int) := hu 10 (by kernel_rfl)
                          clear hd hu
                          go_simp
                          exact HR1.out _ _ (Below.refl _ _) rfl
                        case s8 =>
                          refine Grow.step_on (g := 3) (b := true) (d := 119) (by rfl) (by rfl) (by rfl) (by kernel_rfl) (fun v W h => h) ?_
                          intro E W ec eg ef hG hd hu R HR1
                          have e122 : E (.tmp 122) = .int .i64 ((i : Int) + 1) := hd 6 122 (by kernel_rfl)
                          have e123 : E (.tmp 123) = .int .i64 (k : Int) := hd 7 123 (by kernel_rfl)
                          clear hd hu
                          go_simp
                          exact HR1.out _ _ (Below.refl _ _) rfl
                        case s9 =>
                          refine Grow.step_on (g := 3) (b := true) (d := 119) (by rfl) (by rfl) (by rfl) (by kernel_rfl) (fun v W h => h) ?_
                          intro E W ec eg ef hG hd hu R HR1
                          have e120 : E (.tmp 120) = .int .i64 (j : Int) := hd 4 120 (by kernel_rfl)
                          have e124 : E (.tmp 124) = .int .i64 (nb : Int) := hd 8 124 (by kernel_rfl)
                          clear hd hu
                          go_simp
                          exact HR1.out _ _ (Below.refl _ _) rfl
                        case s10 =>
                          refine Grow.step_on (g := 3) (b := true) (d := 119) (by rfl) (by rfl) (by rfl) (by kernel_rfl) (fun v W h => h) ?_
                          intro E W ec eg ef hG hd hu R HR1
                          have e125 : E (.tmp 125) = .bool false := hd 9 125 (by kernel_rfl)
                          clear hd hu
                          go_simp
                          exact HR1.out _ _ (Below.refl _ _) rfl
                        case s11 =>
                          refine Grow.step_on (g := 10) (b := false) (d := 126) (by rfl) (by rfl) (by rfl) (by kernel_rfl) (fun v W h => h) ?_
                          intro E W ec eg ef hG hd hu R HR1
                          have e14 : E (.tmp 14) = .int .i64 (s : Int) := hu 14 (by kernel_rfl)
                          clear hd hu
                          go_simp
                          exact HR1.out _ _ (Below.refl _ _) rfl
                        case s12 =>
                          refine Grow.step_on (g := 10) (b := false) (d := 126) (by rfl) (by rfl) (by rfl) (by kernel_rfl) (fun v W h => h) ?_
                          intro E W ec eg ef hG hd hu R HR1
                          have e127 : E (.tmp 127) = .int .i64 (s : Int) := hd 11 127 (by kernel_rfl)
                          clear hd hu
                          go_simp
                          exact HR1.out _ _ (Below.refl _ _) rfl
                        case s13 =>
                          refine Grow.step_on (g := 3) (b := true) (d := 119) (by rfl) (by rfl) (by rfl) (by kernel_rfl) (fun v W h => h) ?_
                          intro E W ec eg ef hG hd hu R HR1
                          have e126 : E (.tmp 126) = .bool false := hd 10 126 (by kernel_rfl)
                          have e128 : E (.tmp 128) = .bool true := hd 12 128 (by kernel_rfl)
                          clear hd hu
                          go_simp
                          exact HR1.out _ _ (Below.refl _ _) rfl
                        case s14 =>
                          refine Grow.step_in (by rfl) (by rfl) ?_
                          intro E W ec eg ef hG hd hu R HR1
                          have e119 : E (.tmp 119) = .bool true := hd 3 119 (by kernel_rfl)
                          have e129 : E (.tmp 129) = .bool true := hd 13 129 (by kernel_rfl)
                          clear hd hu
                          go_simp
                          exact HR1.out _ _ (Below.refl _ _) rfl
                        case s15 =>
                          refine Grow.step_in (by rfl) (by rfl) ?_
                          intro E W ec eg ef hG hd hu R HR1
                          have e130 : E (.tmp 130) = .bool true := hd 14 130 (by kernel_rfl)
                          clear hd hu
                          go_simp
                          exact HR1.out _ _ (Below.refl _ _) rfl
                        case s16 =>
                          refine Grow.step_on (g := 15) (b := true) (d := 131) (by rfl) (by rfl) (by rfl) (by kernel_rfl) (fun v W h => h) ?_
                          intro E W ec eg ef hG hd hu R HR1
                          have e23 : E (.tmp 23) = .slice A9 n9 c9 := hu 23 (by kernel_rfl)
                          clear hd hu
                          go_simp
                          exact HR1.out _ _ (Below.refl _ _) rfl
                        case s17 =>
                          refine Grow.step_on (g := 15) (b := true) (d := 131) (by rfl) (by rfl) (by rfl) (by kernel_rfl) (fun v W h => h) ?_
                          intro E W ec eg ef hG hd hu R HR1
                          have e132 : E (.tmp 132) = .slice A9 n9 c9 := hd 16 132 (by kernel_rfl)
                          clear hd hu
                          have hcv := (H9.out.1.below hG).str
                          rw [HPC.out] at hcv
                          go_simp
                          exact HR1.out _ _ (Below.refl _ _) rfl
                        case s18 =>
                          refine Grow.step_on (g := 15) (b := true) (d := 131) (by rfl) (by rfl) (by rfl) (by kernel_rfl) (fun v W h => h) ?_
                          intro E W ec eg ef hG hd hu R HR1
                          have e22 : E (.tmp 22) = .int .i64 (j : Int) := hu 22 (by kernel_rfl)
                          clear hd hu
                          go_simp
                          exact HR1.out _ _ (Below.refl _ _) rfl
                        case s19 =>
                          refine Grow.step_on (g := 15) (b := true) (d := 131) (by rfl) (by rfl) (by rfl) (by kernel_rfl) (fun v W h => h) ?_
                          intro E W ec eg ef hG hd hu R HR1
                          have e134 : E (.tmp 134) = .int .i64 (j : Int) := hd 18 134 (by kernel_rfl)
                          clear hd hu
                          go_simp
                          exact HR1.out _ _ (Below.refl _ _) rfl
                        case s20 =>
                          refine Grow.step_on (g := 15) (b := true) (d := 131) (by rfl) (by rfl) (by rfl) (by kernel_rfl) (fun v W h => h) ?_
                          intro E W ec eg ef hG hd hu R HR1
                          have e135 : E (.tmp 135) = .int .u8 (j : Int) := hd 19 135 (by kernel_rfl)
                          clear hd hu
                          go_simp
                          refine (HFJ.out _).mono ?_
                          intro e w' he
                          obtain ⟨v4, rfl, hv4, hb4⟩ := slT_filled he (filledL_length j 128)
                          exact ⟨v4, rfl, HR1.out _ _ hb4 hv4⟩
                        case s21 =>
                          refine Grow.step_on (g := 15) (b := true) (d := 131) (by rfl) (by rfl) (by rfl) (by kernel_rfl) (fun v W h => h) ?_
                          intro E W ec eg ef hG hd hu R HR1
                          have h136 := hd 20 136 (by kernel_rfl)
                          clear hd hu
                          have hcv := h136.str
                          rw [HPC.out] at hcv
                          go_simp
                          exact HR1.out _ _ (Below.refl _ _) rfl
                        case s22 =>
                          refine Grow.step_on (g := 15) (b := true) (d := 131) (by rfl) (by rfl) (by rfl) (by kernel_rfl) (fun v W h => h) ?_
                          intro E W ec eg ef hG hd hu R HR1
                          have e133 : E (.tmp 133) = .string PC := hd 17 133 (by kernel_rfl)
                          have e137 : E (.tmp 137) = .string PC := hd 21 137 (by kernel_rfl)
                          clear hd hu
                          go_simp
                          exact HR1.out _ _ (Below.refl _ _) rfl
                        case s23 =>
                          refine Grow.step_in (by rfl) (by rfl) ?_
                          intro E W ec eg ef hG hd hu R HR1
                          have e131 : E (.tmp 131) = .bool true := hd 15 131 (by kernel_rfl)
                          have e138 : E (.tmp 138) = .bool false := hd 22 138 (by kernel_rfl)
                          clear hd hu
                          go_simp
                          exact HR1.out _ _ (Below.refl _ _) rfl
                      case gfin =>
                        intro W2 hG
                        refine Grow.fin_dst (by rfl) ?_
                        rintro _ rfl
                        refine Grow.fin_dst (by rfl) ?_
                        rintro _ rfl
                        refine Grow.fin_dst (by rfl) ?_
                        rintro _ rfl
                        refine Grow.fin_dst (by rfl) ?_
                        rintro _ rfl
                        refine Grow.fin_dst (by rfl) ?_
                        rintro _ rfl
                        refine Grow.fin_dst (by rfl) ?_
                        rintro _ rfl
                        refine Grow.fin_dst (by rfl) ?_
                        rintro _ rfl
                        refine Grow.fin_dst (by rfl) ?_
                        rintro _ rfl
                        refine Grow.fin_dst (by rfl) ?_
                        rintro _ rfl
                        refine Grow.fin_dst (by rfl) ?_
                        rintro _ rfl
                        refine Grow.fin_dst (by rfl) ?_
                        rintro _ rfl
                        refine Grow.fin_dst (by rfl) ?_
                        rintro _ rfl
                        refine Grow.fin_dst (by rfl) ?_
                        rintro _ rfl
                        refine Grow.fin_dst (by rfl) ?_
                        rintro _ rfl
                        refine Grow.fin_dst (by rfl) ?_
                        rintro _ rfl
                        refine Grow.fin_dst (by rfl) ?_
                        rintro _ rfl
                        refine Grow.fin_dst (by rfl) ?_
                        rintro _ rfl
                        refine Grow.fin_dst (by rfl) ?_
                        rintro _ rfl
                        refine Grow.fin_dst (by rfl) ?_
                        rintro _ rfl
                        refine Grow.fin_dst (by rfl) ?_
                        rintro _ rfl
                        refine Grow.fin_dst (by rfl) ?_
                        rintro _ ⟨Af, nf, cf, rfl, _⟩
                        refine Grow.fin_dst (by rfl) ?_
                        rintro _ rfl
                        refine Grow.fin_dst (by rfl) ?_
                        rintro _ rfl
                        refine Grow.fin_dst (by rfl) ?_
                        rintro _ rfl
                        simp only [Act.put, List.setIfInBounds_toArray, List.set_cons_zero, List.set_cons_succ]
                        refine Grow.fin_end ?_
                        have HB := Lib.hid (H9.out.2.drew.trans (hG.mono H9.out.2.drew.size))
                        clear hG
                        go_wp2_with fail
                        go_roundw
                        case rel => unfold RTc; exact ⟨j + 1, by have := HJ.out.2.1; omega, by simp, HB.out⟩
                        case measure => simp only [intOf]; have := HJ.out.2.1; omega
                    · have hq3 : ((s : Int) == 0) = false := by simp; omega
                      clear h1 h2 h3
                      refine wp_region_grow (fun W W' => Below W.heap.size W W') (Grow.nth [fun v _ => v = .int .i64 (j : Int), fun v _ => v = .int .i64 (i : Int), fun v _ => v = .bool true, fun v _ => v = .bool true, fun v _ => v = .int .i64 (j : Int), fun v _ => v = .int .i64 (i : Int), fun v _ => v = .int .i64 ((i : Int) + 1), fun v _ => v = .int .i64 (k : Int), fun v _ => v = .int .i64 (nb : Int), fun v _ => v = .bool false, fun v _ => v = .bool false, fun v _ => v = .int .i64 (s : Int), fun v _ => v = .bool false, fun v _ => v = .bool false, fun v _ => v = .bool false, fun v _ => v = .bool false, fun v _ => v = undef, fun v _ => v = undef, fun v _ => v = undef, fun v _ => v = undef, fun v _ => v = undef, fun v _ => v = undef, fun v _ => v = undef, fun v _ => v = .bool false]) 180 (by kernel_rfl) (by kernel_rfl) (by rfl) (fun W => Below.refl _ W) (fun _ _ _ h1 h2 => h1.trans (h2.mono h1.size)) (Grow.mono_nth ?gmono) ?gsteps ?gfin
                      case gmono => exact ⟨fun _ _ _ h _ => h, fun _ _ _ h _ => h, fun _ _ _ h _ => h, fun _ _ _ h _ => h, fun _ _ _ h _ => h, fun _ _ _ h _ => h, fun _ _ _ h _ => h, fun _ _ _ h _ => h, fun _ _ _ h _ => h, fun _ _ _ h _ => h, fun _ _ _ h _ => h, fun _ _ _ h _ => h, fun _ _ _ h _ => h, fun _ _ _ h _ => h, fun _ _ _ h _ => h, fun _ _ _ h _ => h, fun _ _ _ h _ => h, fun _ _ _ h _ => h, fun _ _ _ h _ => h, fun _ _ _ h _ => h, fun _ _ _ h _ => h, fun _ _ _ h _ => h, fun _ _ _ h _ => h, fun _ _ _ h _ => h, trivial⟩
                      case gsteps =>
                        show Grow.allBelow _ 24
                        refine And.intro ?_ ?s23
                        refine And.intro ?_ ?s22
                        refine And.intro ?_ ?s21
                        refine And.intro ?_ ?s20
                        refine And.intro ?_ ?s19
                        refine And.intro ?_ ?s18
                        refine And.intro ?_ ?s17
                        refine And.intro ?_ ?s16
                        refine And.intro ?_ ?s15
                        refine And.intro ?_ ?s14
                        refine And.intro ?_ ?s13
                        refine And.intro ?_ ?s12
                        refine And.intro ?_ ?s11
                        refine And.intro ?_ ?s10
                        refine And.intro ?_ ?s9
                        refine And.intro ?_ ?s8
                        refine And.intro ?_ ?s7
                        refine And.intro ?_ ?s6
                        refine And.intro ?_ ?s5
                        refine And.intro ?_ ?s4
                        refine And.intro ?_ ?s3
                        refine And.intro ?_ ?s2
                        refine And.intro ?_ ?s1
                        refine And.intro ?_ ?s0
                        exact trivial
                        case s0 =>
                          refine Grow.step_in (by rfl) (by rfl) ?_
                          intro E W ec eg ef hG hd hu R HR1
                          have e22 : E (.tmp 22) = .int .i64 (j : Int) := hu 22 (by kernel_rfl)
                          clear hd hu
                          go_simp
                          exact HR1.out _ _ (Below.refl _ _) rfl
                        case s1 =>
                          refine Grow.step_in (by rfl) (by rfl) ?_
                          intro E W ec eg ef hG hd hu R HR1
                          have e15 : E (.tmp 15) = .int .i64 (i : Int) := hu 15 (by kernel_rfl)
                          clear hd hu
                          go_simp
                          exact HR1.out _ _ (Below.refl _ _) rfl
                        case s2 =>
                          refine Grow.step_in (by rfl) (by rfl) ?_
                          intro E W ec eg ef hG hd hu R HR1
                          have e116 : E (.tmp 116) = .int .i64 (j : Int) := hd 0 116 (by kernel_rfl)
                          have e117 : E (.tmp 117) = .int .i64 (i : Int) := hd 1 117 (by kernel_rfl)
                          clear hd hu
                          go_simp
                          exact HR1.out _ _ (Below.refl _ _) rfl
                        case s3 =>
                          refine Grow.step_in (by rfl) (by rfl) ?_
                          intro E W ec eg ef hG hd hu R HR1
                          have e118 : E (.tmp 118) = .bool true := hd 2 118 (by kernel_rfl)
                          clear hd hu
                          go_simp
                          exact HR1.out _ _ (Below.refl _ _) rfl
                        case s4 =>
                          refine Grow.step_on (g := 3) (b := true) (d := 119) (by rfl) (by rfl) (by rfl) (by kernel_rfl) (fun v W h => h) ?_
                          intro E W ec eg ef hG hd hu R HR1
                          have e22 : E (.tmp 22) = .int .i64 (j : Int) := hu 22 (by kernel_rfl)
                          clear hd hu
                          go_simp
                          exact HR1.out _ _ (Below.refl _ _) rfl
                        case s5 =>
                          refine Grow.step_on (g := 3) (b := true) (d := 119) (by rfl) (by rfl) (by rfl) (by kernel_rfl) (fun v W h => h) ?_
                          intro E W ec eg ef hG hd hu R HR1
                          have e15 : E (.tmp 15) = .int .i64 (i : Int) := hu 15 (by kernel_rfl)
                          clear hd hu
                          go_simp
                          exact HR1.out _ _ (Below.refl _ _) rfl
                        case s6 =>
                          refine Grow.step_on (g := 3) (b := true) (d := 119) (by rfl) (by rfl) (by rfl) (by kernel_rfl) (fun v W h => h) ?_
                          intro E W ec eg ef hG hd hu R HR1
                          have e121 : E (.tmp 121) = .int .i64 (i : Int) := hd 5 121 (by kernel_rfl)
                          clear hd hu
                          go_simp
                          exact HR1.out _ _ (Below.refl _ _) rfl
                        case s7 =>
                          refine Grow.step_on (g := 3) (b := true) (d := 119) (by rfl) (by rfl) (by rfl) (by kernel_rfl) (fun v W h => h) ?_
                          intro E W ec eg ef hG hd hu R HR1
                          have e10 : E (.tmp 10) = .int .i64 (k : Int) := hu 10 (by kernel_rfl)
                          clear hd hu
                          go_simp
                          exact HR1.out _ _ (Below.refl _ _) rfl
                        case s8 =>
                          refine Grow.step_on (g := 3) (b := true) (d := 119) (by rfl) (by rfl) (by rfl) (by kernel_rfl) (fun v W h => h) ?_
                          intro E W ec eg ef hG hd hu R HR1
                          have e122 : E (.tmp 122) = .int .i64 ((i : Int) + 1) := hd 6 122 (by kernel_rfl)
                          have e123 : E (.tmp 123) = .int .i64 (k : Int) := hd 7 123 (by kernel_rfl)
                          clear hd hu
                          go_simp
                          exact HR1.out _ _ (Below.refl _ _) rfl
                        case s9 =>
                          refine Grow.step_on (g := 3) (b := true) (d := 119) (by rfl) (by rfl) (by rfl) (by kernel_rfl) (fun v W h => h) ?_
                          intro E W ec eg ef hG hd hu R HR1
                          have e120 : E (.tmp 120) = .int .i64 (j : Int) := hd 4 120 (by kernel_rfl)
                          have e124 : E (.tmp 124) = .int .i64 (nb : Int) := hd 8 124 (by kernel_rfl)
                          clear hd hu
                          go_simp
                          exact HR1.out _ _ (Below.refl _ _) rfl
                        case s10 =>
                          refine Grow.step_on (g := 3) (b := true) (d := 119) (by rfl) (by rfl) (by rfl) (by kernel_rfl) (fun v W h => h) ?_
                          intro E W ec eg ef hG hd hu R HR1
                          have e125 : E (.tmp 125) = .bool false := hd 9 125 (by kernel_rfl)
                          clear hd hu
                          go_simp
                          exact HR1.out _ _ (Below.refl _ _) rfl
                        case s11 =>
                          refine Grow.step_on (g := 10) (b := false) (d := 126) (by rfl) (by rfl) (by rfl) (by kernel_rfl) (fun v W h => h) ?_
                          intro E W ec eg ef hG hd hu R HR1
                          have e14 : E (.tmp 14) = .int .i64 (s : Int) := hu 14 (by kernel_rfl)
                          clear hd hu
                          go_simp
                          exact HR1.out _ _ (Below.refl _ _) rfl
                        case s12 =>
                          refine Grow.step_on (g := 10) (b := false) (d := 126) (by rfl) (by rfl) (by rfl) (by kernel_rfl) (fun v W h => h) ?_
                          intro E W ec eg ef hG hd hu R HR1
                          have e127 : E (.tmp 127) = .int .i64 (s : Int) := hd 11 127 (by kernel_rfl)
                          clear hd hu
                          go_simp
                          exact HR1.out _ _ (Below.refl _ _) rfl
                        case s13 =>
                          refine Grow.step_on (g := 3) (b := true) (d := 119) (by rfl) (by rfl) (by rfl) (by kernel_rfl) (fun v W h => h) ?_
                          intro E W ec eg ef hG hd hu R HR1
                          have e126 : E (.tmp 126) = .bool false := hd 10 126 (by kernel_rfl)
                          have e128 : E (.tmp 128) = .bool false := hd 12 128 (by kernel_rfl)
                          clear hd hu
                          go_simp
                          exact HR1.out _ _ (Below.refl _ _) rfl
                        case s14 =>
                          refine Grow.step_in (by rfl) (by rfl) ?_
                          intro E W ec eg ef hG hd hu R HR1
                          have e119 : E (.tmp 119) = .bool true := hd 3 119 (by kernel_rfl)
                          have e129 : E (.tmp 129) = .bool false := hd 13 129 (by kernel_rfl)
                          clear hd hu
                          go_simp
                          exact HR1.out _ _ (Below.refl _ _) rfl
                        case s15 =>
                          refine Grow.step_in (by rfl) (by rfl) ?_
                          intro E W ec eg ef hG hd hu R HR1
                          have e130 : E (.tmp 130) = .bool false := hd 14 130 (by kernel_rfl)
                          clear hd hu
                          go_simp
                          exact HR1.out _ _ (Below.refl _ _) rfl
                        case s16 =>
                          exact Grow.step_off (g := 15) (b := true) (b' := false) (d := 131) (by rfl) (by rfl) (by rfl) (by kernel_rfl) (fun v W h => h) (by decide) (fun _ => rfl)
                        case s17 =>
                          exact Grow.step_off (g := 15) (b := true) (b' := false) (d := 131) (by rfl) (by rfl) (by rfl) (by kernel_rfl) (fun v W h => h) (by decide) (fun _ => rfl)
                        case s18 =>
                          exact Grow.step_off (g := 15) (b := true) (b' := false) (d := 131) (by rfl) (by rfl) (by rfl) (by kernel_rfl) (fun v W h => h) (by decide) (fun _ => rfl)
                        case s19 =>
                          exact Grow.step_off (g := 15) (b := true) (b' := false) (d := 131) (by rfl) (by rfl) (by rfl) (by kernel_rfl) (fun v W h => h) (by decide) (fun _ => rfl)
                        case s20 =>
                          exact Grow.step_off (g := 15) (b := true) (b' := false) (d := 131) (by rfl) (by rfl) (by rfl) (by kernel_rfl) (fun v W h => h) (by decide) (fun _ => rfl)
                        case s21 =>
                          exact Grow.step_off (g := 15) (b := true) (b' := false) (d := 131) (by rfl) (by rfl) (by rfl) (by kernel_rfl) (fun v W h => h) (by decide) (fun _ => rfl)
                        case s22 =>
                          exact Grow.step_off (g := 15) (b := true) (b' := false) (d := 131) (by rfl) (by rfl) (by rfl) (by kernel_rfl) (fun v W h => h) (by decide) (fun _ => rfl)
                        case s23 =>
                          refine Grow.step_in (by rfl) (by rfl) ?_
                          intro E W ec eg ef hG hd hu R HR1
                          have e131 : E (.tmp 131) = .bool false := hd 15 131 (by kernel_rfl)
                          have e138 : E (.tmp 138) = undef := hd 22 138 (by kernel_rfl)
                          clear hd hu
                          go_simp
                          exact HR1.out _ _ (Below.refl _ _) rfl
                      case gfin =>
                        intro W2 hG
                        refine Grow.fin_dst (by rfl) ?_
                        rintro _ rfl
                        refine Grow.fin_dst (by rfl) ?_
                        rintro _ rfl
                        refine Grow.fin_dst (by rfl) ?_
                        rintro _ rfl
                        refine Grow.fin_dst (by rfl) ?_
                        rintro _ rfl
                        refine Grow.fin_dst (by rfl) ?_
                        rintro _ rfl
                        refine Grow.fin_dst (by rfl) ?_
                        rintro _ rfl
                        refine Grow.fin_dst (by rfl) ?_
                        rintro _ rfl
                        refine Grow.fin_dst (by rfl) ?_
                        rintro _ rfl
                        refine Grow.fin_dst (by rfl) ?_
                        rintro _ rfl
                        refine Grow.fin_dst (by rfl) ?_
                        rintro _ rfl
                        refine Grow.fin_dst (by rfl) ?_
                        rintro _ rfl
                        refine Grow.fin_dst (by rfl) ?_
                        rintro _ rfl
                        refine Grow.fin_dst (by rfl) ?_
                        rintro _ rfl
                        refine Grow.fin_dst (by rfl) ?_
                        rintro _ rfl
                        refine Grow.fin_dst (by rfl) ?_
                        rintro _ rfl
                        refine Grow.fin_dst (by rfl) ?_
                        rintro _ rfl
                        refine Grow.fin_dst (by rfl) ?_
                        rintro _ rfl
                        refine Grow.fin_dst (by rfl) ?_
                        rintro _ rfl
                        refine Grow.fin_dst (by rfl) ?_
                        rintro _ rfl
                        refine Grow.fin_dst (by rfl) ?_
                        rintro _ rfl
                        refine Grow.fin_dst (by rfl) ?_
                        rintro _ rfl
                        refine Grow.fin_dst (by rfl) ?_
                        rintro _ rfl
                        refine Grow.fin_dst (by rfl) ?_
                        rintro _ rfl
                        refine Grow.fin_dst (by rfl) ?_
                        rintro _ rfl
                        simp only [Act.put, List.setIfInBounds_toArray, List.set_cons_zero, List.set_cons_succ]
                        refine Grow.fin_end ?_
                        have HB := Lib.hid (H9.out.2.drew.trans (hG.mono H9.out.2.drew.size))
                        clear hG
                        go_wp2_with fail
                        go_roundw
                        case rel => unfold RTc; exact ⟨j + 1, by have := HJ.out.2.1; omega, by simp, HB.out⟩
                        case measure => simp only [intOf]; have := HJ.out.2.1; omega
                  · have hq2 : ((j : Int) != (nb : Int)) = true := by simp; omega
                    have hb := HJ.out.2.2 h1 (.inl h2)
                    subst hb
                    clear h1 h2
                    obtain ⟨PC, HPC⟩ : ∃ PC, Hid (st (filledL j 128) = PC) := ⟨_, Lib.hid rfl⟩
                    refine wp_region_grow (fun W W' => Below W.heap.size W W') (Grow.nth [fun v _ => v = .int .i64 (j : Int), fun v _ => v = .int .i64 (i : Int), fun v _ => v = .bool true, fun v _ => v = .bool true, fun v _ => v = .int .i64 (j : Int), fun v _ => v = .int .i64 (i : Int), fun v _ => v = .int .i64 ((i : Int) + 1), fun v _ => v = .int .i64 (k : Int), fun v _ => v = .int .i64 (nb : Int), fun v _ => v = .bool true, fun v _ => v = .bool true, fun v _ => v = undef, fun v _ => v = undef, fun v _ => v = .bool true, fun v _ => v = .bool true, fun v _ => v = .bool true, fun v _ => v = .slice A9 n9 c9, fun v _ => v = .string PC, fun v _ => v = .int .i64 (j : Int), fun v _ => v = .int .u8 (j : Int), SlT (filledL j 128), fun v _ => v = .string PC, fun v _ => v = .bool false, fun v _ => v = .bool false]) 180 (by kernel_rfl) (by kernel_rfl) (by rfl) (fun W => Below.refl _ W) (fun _ _ _ h1 h2 => h1.trans (h2.mono h1.size)) (Grow.mono_nth ?gmono) ?gsteps ?gfin
                    case gmono => exact ⟨fun _ _ _ h _ => h, fun _ _ _ h _ => h, fun _ _ _ h _ => h, fun _ _ _ h _ => h, fun _ _ _ h _ => h, fun _ _ _ h _ => h, fun _ _ _ h _ => h, fun _ _ _ h _ => h, fun _ _ _ h _ => h, fun _ _ _ h _ => h, fun _ _ _ h _ => h, fun _ _ _ h _ => h, fun _ _ _ h _ => h, fun _ _ _ h _ => h, fun _ _ _ h _ => h, fun _ _ _ h _ => h, fun _ _ _ h _ => h, fun _ _ _ h _ => h, fun _ _ _ h _ => h, fun _ _ _ h _ => h, fun _ _ _ h hg => h.below hg, fun _ _ _ h _ => h, fun _ _ _ h _ => h, fun _ _ _ h _ => h, trivial⟩
                    case gsteps =>
                      show Grow.allBelow _ 24
                      refine And.intro ?_ ?s23
                      refine And.intro ?_ ?s22
                      refine And.intro ?_ ?s21
                      refine And.intro ?_ ?s20
                      refine And.intro ?_ ?s19
                      refine And.intro ?_ ?s18
                      refine And.intro ?_ ?s17
                      refine And.intro ?_ ?s16
                      refine And.intro ?_ ?s15
                      refine And.intro ?_ ?s14
                      refine And.intro ?_ ?s13
                      refine And.intro ?_ ?s12
                      refine And.intro ?_ ?s11
                      refine And.intro ?_ ?s10
                      refine And.intro ?_ ?s9
                      refine And.intro ?_ ?s8
                      refine And.intro ?_ ?s7
                      refine And.intro ?_ ?s6
                      refine And.intro ?_ ?s5
                      refine And.intro ?_ ?s4
                      refine And.intro ?_ ?s3
                      refine And.intro ?_ ?s2
                      refine And.intro ?_ ?s1
                      refine And.intro ?_ ?s0
                      exact trivial
                      case s0 =>
                        refine Grow.step_in (by rfl) (by rfl) ?_
                        intro E W ec eg ef hG hd hu R HR1
                        have e22 : E (.tmp 22) = .int .i64 (j : Int) := hu 22 (by kernel_rfl)
                        clear hd hu
                        go_simp
                        exact HR1.out _ _ (Below.refl _ _) rfl
                      case s1 =>
                        refine Grow.step_in (by rfl) (by rfl) ?_
                        intro E W ec eg ef hG hd hu R HR1
                        have e15 : E (.tmp 15) = .int .i64 (i : Int) := hu 15 (by kernel_rfl)
                        clear hd hu
                        go_simp
                        exact HR1.out _ _ (Below.refl _ _) rfl
                      case s2 =>
                        refine Grow.step_in (by rfl) (by rfl) ?_
                        intro E W ec eg ef hG hd hu R HR1
                        have e116 : E (.tmp 116) = .int .i64 (j : Int) := hd 0 116 (by kernel_rfl)
                        have e117 : E (.tmp 117) = .int .i64 (i : Int) := hd 1 117 (by kernel_rfl)
                        clear hd hu
                        go_simp
                        exact HR1.out _ _ (Below.refl _ _) rfl
                      case s3 =>
                        refine Grow.step_in (by rfl) (by rfl) ?_
                        intro E W ec eg ef hG hd hu R HR1
                        have e118 : E (.tmp 118) = .bool true := hd 2 118 (by kernel_rfl)
                        clear hd hu
                        go_simp
                        exact HR1.out _ _ (Below.refl _ _) rfl
                      case s4 =>
                        refine Grow.step_on (g := 3) (b := true) (d := 119) (by rfl) (by rfl) (by rfl) (by kernel_rfl) (fun v W h => h) ?_
                        intro E W ec eg ef hG hd hu R HR1
                        have e22 : E (.tmp 22) = .int .i64 (j : Int) := hu 22 (by kernel_rfl)
                        clear hd hu
                        go_simp
                        exact HR1.out _ _ (Below.refl _ _) rfl
                      case s5 =>
                        refine Grow.step_on (g := 3) (b := true) (d := 119) (by rfl) (by rfl) (by rfl) (by kernel_rfl) (fun v W h => h) ?_
                        intro E W ec eg ef hG hd hu R HR1
                        have e15 : E (.tmp 15) = .int .i64 (i : Int) := hu 15 (by kernel_rfl)
                        clear hd hu
                        go_simp
                        exact HR1.out _ _ (Below.refl _ _) rfl
                      case s6 =>
                        refine Grow.step_on (g := 3) (b := true) (d := 119) (by rfl) (by rfl) (by rfl) (by kernel_rfl) (fun v W h => h) ?_
                        intro E W ec eg ef hG hd hu R HR1
                        have e121 : E (.tmp 121) = .int .i64 (i : Int) := hd 5 121 (by kernel_rfl)
                        clear hd hu
                        go_simp
                        exact HR1.out _ _ (Below.refl _ _) rfl
                      case s7 =>
                        refine Grow.step_on (g := 3) (b := true) (d := 119) (by rfl) (by rfl) (by rfl) (by kernel_rfl) (fun v W h => h) ?_
                        intro E W ec eg ef hG hd hu R HR1
                        have e10 : E (.tmp 10) = .int .i64 (k : Int) := hu 10 (by kernel_rfl)
                        clear hd hu
                        go_simp
                        exact HR1.out _ _ (Below.refl _ _) rfl
                      case s8 =>
                        refine Grow.step_on (g := 3) (b := true) (d := 119) (by rfl) (by rfl) (by rfl) (by kernel_rfl) (fun v W h => h) ?_
                        intro E W ec eg ef hG hd hu R HR1
                        have e122 : E (.tmp 122) = .int .i64 ((i : Int) + 1) := hd 6 122 (by kernel_rfl)
                        have e123 : E (.tmp 123) = .int .i64 (k : Int) := hd 7 123 (by kernel_rfl)
                        clear hd hu
                        go_simp
                        exact HR1.out _ _ (Below.refl _ _) rfl
                      case s9 =>
                        refine Grow.step_on (g := 3) (b := true) (d := 119) (by rfl) (by rfl) (by rfl) (by kernel_rfl) (fun v W h => h) ?_
                        intro E W ec eg ef hG hd hu R HR1
                        have e120 : E (.tmp 120) = .int .i64 (j : Int) := hd 4 120 (by kernel_rfl)
                        have e124 : E (.tmp 124) = .int .i64 (nb : Int) := hd 8 124 (by kernel_rfl)
                        clear hd hu
                        go_simp
                        exact HR1.out _ _ (Below.refl _ _) rfl
                      case s10 =>
                        refine Grow.step_on (g := 3) (b := true) (d := 119) (by rfl) (by rfl) (by rfl) (by kernel_rfl) (fun v W h => h) ?_
                        intro E W ec eg ef hG hd hu R HR1
                        have e125 : E (.tmp 125) = .bool true := hd 9 125 (by kernel_rfl)
                        clear hd hu
                        go_simp
                        exact HR1.out _ _ (Below.refl _ _) rfl
                      case s11 =>
                        exact Grow.step_off (g := 10) (b := false) (b' := true) (d := 126) (by rfl) (by rfl) (by rfl) (by kernel_rfl) (fun v W h => h) (by decide) (fun _ => rfl)
                      case s12 =>
                        exact Grow.step_off (g := 10) (b := false) (b' := true) (d := 126) (by rfl) (by rfl) (by rfl) (by kernel_rfl) (fun v W h => h) (by decide) (fun _ => rfl)
                      case s13 =>
                        refine Grow.step_on (g := 3) (b := true) (d := 119) (by rfl) (by rfl) (by rfl) (by kernel_rfl) (fun v W h => h) ?_
                        intro E W ec eg ef hG hd hu R HR1
                        have e126 : E (.tmp 126) = .bool true := hd 10 126 (by kernel_rfl)
                        have e128 : E (.tmp 128) = undef := hd 12 128 (by kernel_rfl)
                        clear hd hu
                        go_simp
                        exact HR1.out _ _ (Below.refl _ _) rfl
                      case s14 =>
                        refine Grow.step_in (by rfl) (by rfl) ?_
                        intro E W ec eg ef hG hd hu R HR1
                        have e119 : E (.tmp 119) = .bool true := hd 3 119 (by kernel_rfl)
                        have e129 : E (.tmp 129) = .bool true := hd 13 129 (by kernel_rfl)
                        clear hd hu
                        go_simp
                        exact HR1.out _ _ (Below.refl _ _) rfl
                      case s15 =>
                        refine Grow.step_in (by rfl) (by rfl) ?_
                        intro E W ec eg ef hG hd hu R HR1
                        have e130 : E (.tmp 130) = .bool true := hd 14 130 (by kernel_rfl)
                        clear hd hu
                        go_simp
                        exact HR1.out _ _ (Below.refl _ _) rfl
                      case s16 =>
                        refine Grow.step_on (g := 15) (b := true) (d := 131) (by rfl) (by rfl) (by rfl) (by kernel_rfl) (fun v W h => h) ?_
                        intro E W ec eg ef hG hd hu R HR1
                        have e23 : E (.tmp 23) = .slice A9 n9 c9 := hu 23 (by kernel_rfl)
                        clear hd hu
                        go_simp
                        exact HR1.out _ _ (Below.refl _ _) rfl
                      case s17 =>
                        refine Grow.step_on (g := 15) (b := true) (d := 131) (by rfl) (by rfl) (by rfl) (by kernel_rfl) (fun v W h => h) ?_
                        intro E W ec eg ef hG hd hu R HR1
                        have e132 : E (.tmp 132) = .slice A9 n9 c9 := hd 16 132 (by kernel_rfl)
                        clear hd hu
                        have hcv := (H9.out.1.below hG).str
                        rw [HPC.out] at hcv
                        go_simp
                        exact HR1.out _ _ (Below.refl _ _) rfl
                      case s18 =>
                        refine Grow.step_on (g := 15) (b := true) (d := 131) (by rfl) (by rfl) (by rfl) (by kernel_rfl) (fun v W h => h) ?_
                        intro E W ec eg ef hG hd hu R HR1
                        have e22 : E (.tmp 22) = .int .i64 (j : Int) := hu 22 (by kernel_rfl)
                        clear hd hu
                        go_simp
                        exact HR1.out _ _ (Below.refl _ _) rfl
                      case s19 =>
                        refine Grow.step_on (g := 15) (b := true) (d := 131) (by rfl) (by rfl) (by rfl) (by kernel_rfl) (fun v W h => h) ?_
                        intro E W ec eg ef hG hd hu R HR1
                        have e134 : E (.tmp 134) = .int .i64 (j : Int) := hd 18 134 (by kernel_rfl)
                        clear hd hu
                        go_simp
                        exact HR1.out _ _ (Below.refl _ _) rfl
                      case s20 =>
                        refine Grow.step_on (g := 15) (b := true) (d := 131) (by rfl) (by rfl) (by rfl) (by kernel_rfl) (fun v W h => h) ?_
                        intro E W ec eg ef hG hd hu R HR1
                        have e135 : E (.tmp 135) = .int .u8 (j : Int) := hd 19 135 (by kernel_rfl)
                        clear hd hu
                        go_simp
                        refine (HFJ.out _).mono ?_
                        intro e w' he
                        obtain ⟨v4, rfl, hv4, hb4⟩ := slT_filled he (filledL_length j 128)
                        exact ⟨v4, rfl, HR1.out _ _ hb4 hv4⟩
                      case s21 =>
                        refine Grow.step_on (g := 15) (b := true) (d := 131) (by rfl) (by rfl) (by rfl) (by kernel_rfl) (fun v W h => h) ?_
                        intro E W ec eg ef hG hd hu R HR1
                        have h136 := hd 20 136 (by kernel_rfl)
                        clear hd hu
                        have hcv := h136.str
                        rw [HPC.out] at hcv
                        go_simp
                        exact HR1.out _ _ (Below.refl _ _) rfl
                      case s22 =>
                        refine Grow.step_on (g := 15) (b := true) (d := 131) (by rfl) (by rfl) (by rfl) (by kernel_rfl) (fun v W h => h) ?_
                        intro E W ec eg ef hG hd hu R HR1
                        have e133 : E (.tmp 133) = .string PC := hd 17 133 (by kernel_rfl)
                        have e137 : E (.tmp 137) = .string PC := hd 21 137 (by kernel_rfl)
                        clear hd hu
                        go_simp
                        exact HR1.out _ _ (Below.refl _ _) rfl
                      case s23 =>
                        refine Grow.step_in (by rfl) (by rfl) ?_
                        intro E W ec eg ef hG hd hu R HR1
                        have e131 : E (.tmp 131) = .bool true := hd 15 131 (by kernel_rfl)
                        have e138 : E (.tmp 138) = .bool false := hd 22 138 (by kernel_rfl)
                        clear hd hu
                        go_simp
                        exact HR1.out _ _ (Below.refl _ _) rfl
                    case gfin =>
                      intro W2 hG
                      refine Grow.fin_dst (by rfl) ?_
                      rintro _ rfl
                      refine Grow.fin_dst (by rfl) ?_
                      rintro _ rfl
                      refine Grow.fin_dst (by rfl) ?_
                      rintro _ rfl
                      refine Grow.fin_dst (by rfl) ?_
                      rintro _ rfl
                      refine Grow.fin_dst (by rfl) ?_
                      rintro _ rfl
                      refine Grow.fin_dst (by rfl) ?_
                      rintro _ rfl
                      refine Grow.fin_dst (by rfl) ?_
                      rintro _ rfl
                      refine Grow.fin_dst (by rfl) ?_
                      rintro _ rfl
                      refine Grow.fin_dst (by rfl) ?_
                      rintro _ rfl
                      refine Grow.fin_dst (by rfl) ?_
                      rintro _ rfl
                      refine Grow.fin_dst (by rfl) ?_
                      rintro _ rfl
                      refine Grow.fin_dst (by rfl) ?_
                      rintro _ rfl
                      refine Grow.fin_dst (by rfl) ?_
                      rintro _ rfl
                      refine Grow.fin_dst (by rfl) ?_
                      rintro _ rfl
                      refine Grow.fin_dst (by rfl) ?_
                      rintro _ rfl
                      refine Grow.fin_dst (by rfl) ?_
                      rintro _ rfl
                      refine Grow.fin_dst (by rfl) ?_
                      rintro _ rfl
                      refine Grow.fin_dst (by rfl) ?_
                      rintro _ rfl
                      refine Grow.fin_dst (by rfl) ?_
                      rintro _ rfl
                      refine Grow.fin_dst (by rfl) ?_
                      rintro _ rfl
                      refine Grow.fin_dst (by rfl) ?_
                      rintro _ ⟨Af, nf, cf, rfl, _⟩
                      refine Grow.fin_dst (by rfl) ?_
                      rintro _ rfl
                      refine Grow.fin_dst (by rfl) ?_
                      rintro _ rfl
                      refine Grow.fin_dst (by rfl) ?_
                      rintro _ rfl
                      simp only [Act.put, List.setIfInBounds_toArray, List.set_cons_zero, List.set_cons_succ]
                      refine Grow.fin_end ?_
                      have HB := Lib.hid (H9.out.2.drew.trans (hG.mono H9.out.2.drew.size))
                      clear hG
                      go_wp2_with fail
                      go_roundw
                      case rel => unfold RTc; exact ⟨j + 1, by have := HJ.out.2.1; omega, by simp, HB.out⟩
                      case measure => simp only [intOf]; have := HJ.out.2.1; omega
              · have hlt3 : ¬ (j : Int) < (k : Int) := by omega
                have hs : (convert 35 9 (.slice A7 n7 c7)).run Try.prog wr = .ok (.string (SA ++ SB)) wr := by
                  rw [byt_string (HW8.out.1.below hbr), HSS.out.1, HSS.out.2]; exact congrArg (fun x => Result.ok (Value.string x) wr) (st_app _ _).symm
                have HB := Lib.hid (HW8.out.2.below hbr).bel
                have hn1 := fun W : World => bstop_nil 1 1 W
                have hn2 := fun W : World => brestart_nil W
                have hn3 := fun W : World => bread_nil 0 W
                have hn4 := fun W : World => bwrite_nil 0 W none 0 0
                have hn5 := fun W : World => blen_nil W
                have hn6 := fun W : World => bdown_nil W
                clear hbr hj hlt hlt2
                go_wp2_with (first
                  | (go_at_call 13; refine (hn1 _).mono ?_; clear hn1; rintro _ _ ⟨rfl, rfl⟩)
                  | (go_at_call 17; refine (hn2 _).mono ?_; clear hn2; rintro _ _ ⟨rfl, rfl⟩)
                  | (go_at_call 15; refine (hn3 _).mono ?_; clear hn3; rintro _ _ ⟨rfl, rfl⟩)
                  | (go_at_call 11; refine (hn4 _).mono ?_; clear hn4; rintro _ _ ⟨rfl, rfl⟩)
                  | (go_at_call 20; refine (hn5 _).mono ?_; clear hn5; rintro _ _ ⟨rfl, rfl⟩)
                  | (go_at_call 21; refine (hn6 _).mono ?_; clear hn6; rintro _ _ ⟨rfl, rfl⟩))
                go_ret
                exact ⟨rfl, HB.out⟩
end Go.Proofs.Ythndpfkgljkpcaa
