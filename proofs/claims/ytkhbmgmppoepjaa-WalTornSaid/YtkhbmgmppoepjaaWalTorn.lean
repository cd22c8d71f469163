/-
  The statement WalTorn: its walk.
-/
import Derived.Test.YtkhbmgmppoepjaaWalTornP
import Derived.Test.YtkhbmgmppoepjaaGrow
import Derived.Test.YtkhbmgmppoepjaaRegion
namespace Go.Proofs.Ytkhbmgmppoepjaa
open Go.RowKit

def RTn (w : World) (m g : Nat) (ls : List (List UInt8)) (x told i : Value) (wr : World) : Prop :=
  ∃ (j p : Nat) (d : DM) (M : LM) (tl : List (List UInt8)), j ≤ ls.length ∧ x = .pointer (some ⟨p, 0, none⟩) ∧ i = .int .i64 (j : Int) ∧ tl.length ≤ j ∧ TnP d M tl (1 + 300 * j) ∧ TL w m wr g p d M told tl
theorem wrap_i64_in (x : Int) : -9223372036854775808 ≤ IntKind.i64.wrap x ∧ IntKind.i64.wrap x ≤ 9223372036854775807 := by
  rw [IntKind.wrap_i64]
  omega
set_option maxHeartbeats 8000000 in
set_option maxRecDepth 100000 in
theorem walk_wtorn {w : World} {S SS ST : Nat → Prop} {A As Ao : Option Addr} {n c ns cs no co : Nat} {ls : List (List UInt8)} {ss ts : List UInt8} (h : Rws w S A n c ls) (h2 : Byt w SS As ns cs ss) (h3 : Byt w ST Ao no co ts) (hn : n ≤ 12) (hs : ns ≤ 12) (ho : ns ≤ no) :
    Calls Try.prog 5 #[.slice A n c, .slice As ns cs, .slice Ao no co] w fun e w' => e = .returned (.bool true) ∧ Below w.heap.size w w' := by
  have haw := wawake_true w
  have hn' : ¬ (12 : Int) < (n : Int) := by omega
  have hs' : ¬ (12 : Int) < (ns : Int) := by omega
  have ho' : ¬ (no : Int) < (ns : Int) := by omega
  have HS := Lib.hid (And.intro h (And.intro h.len hn))
  have HSS := Lib.hid (And.intro h2 (And.intro h3 (And.intro hs ho)))
  clear h h2 h3 hn hs ho
  go_enter Try.func5, Try.ntmps5
  go_upto_region 6 with (go_at_call 9; refine haw.mono ?_; clear haw; rintro _ w1 ⟨rfl, hb1⟩)
  have hnew := Dsk.new hb1 40 (by omega) (by omega)
  clear hb1 hn' hs' ho'
  go_upto_region 7 with (go_at_call 10; refine hnew.mono ?_; clear hnew; rintro _ w2 ⟨g, rfl, hd2⟩)
  obtain ⟨m, hm⟩ : ∃ m, m = w2.heap.size := ⟨_, rfl⟩
  have HM := Lib.hid hm
  rw [← hm] at hd2
  have hst := TnP.start
  have hbg := hd2.begin 0 40 1 (by rw [hst.len]; omega) (by omega) hst.on.up (by rw [hst.len]; omega) (by omega)
  clear hm hd2
  go_upto_region 8 with (go_at_call 20; refine hbg.mono ?_; clear hbg; rintro _ w3 ⟨p, rfl, hl3, hd3, hb3⟩)
  have H3 : Hid (RTn w m g ls (.pointer (some ⟨p, 0, none⟩)) (.slice none 0 0) (.int .i64 0) w3) := Lib.hid ⟨0, p, _, _, [], Nat.zero_le _, rfl, rfl, Nat.le_refl _, hst, hd3, hl3.mono fun k _ hk => ⟨by have := HM.out; omega, by simp [Value.ownBlock]⟩, World.ownsRow_nil _ _ _ _⟩
  clear hl3 hd3 hb3 hst HM
  go_wp2_with fail
  go_loopw [10, 12, 13] (fun x t i wr => RTn w m g ls x t i wr) (fun _ _ i _ => n - (intOf i).toNat)
  case atStart => exact H3.out
  case round =>
    obtain ⟨j, p, d, M, tl, hj, rfl, rfl, htl, hP, hT⟩ := hrel
    obtain ⟨At, ct, rfl, _⟩ := own_strs hT.own
    clear H3
    by_cases hlt : j < n
    · have hlt' : (j : Int) < (n : Int) := by omega
      have hadd1 := IntWalk.i64_in ((j : Int) + 1) (by have := HS.out.2.2; omega)
      obtain ⟨q, o, rfl, _, hq, hc⟩ := HS.out.1.row (by omega)
      obtain ⟨Ai, ni, ci, hci, hyi⟩ := hc j hlt
      have hyw : Byt w (· < w.heap.size) Ai ni ci (ls[j]?.getD []) := hyi.mono fun b hb _ => hb
      obtain ⟨b, hb⟩ : ∃ b, b = ls[j]?.getD [] := ⟨_, rfl⟩
      rw [← hb] at hyw
      have hbl := hyw.len
      have hcr : wr.cell? ⟨q, o + j, none⟩ = some (.slice Ai ni ci) := (hT.dsk.bel.cell (p := ⟨_, _, none⟩) hq).trans hci
      have HY := Lib.hid (And.intro hyw (And.intro hbl (And.intro hq hci)))
      have HR := Lib.hid (And.intro hP (And.intro hT (And.intro htl (And.intro hlt (show j ≤ 12 by have := HS.out.2.2; omega)))))
      clear hc hci hyi hyw hb hj hT hP htl hq hbl
      by_cases hbig : 300 < ni
      · have hbig' : (300 : Int) < (ni : Int) := by omega
        clear hbig
        go_wp2_with fail
        go_ret
        exact ⟨rfl, HR.out.2.1.dsk.bel⟩
      · have hbig' : ¬ (300 : Int) < (ni : Int) := by omega
        have HBG := Lib.hid (show ni ≤ 300 by omega)
        clear hbig
        by_cases hsp : j < ns
        · have hsp' : (j : Int) < (ns : Int) := by omega
          have hto' : (j : Int) < (no : Int) := by have := HSS.out.2.2.2; omega
          obtain ⟨qs, os, rfl, _, hqs, hcs⟩ := HSS.out.1.row (by omega)
          obtain ⟨qo, oo, rfl, _, hqo, hco⟩ := HSS.out.2.1.row (by omega)
          have hcs := hcs j hsp
          have hco := hco j (by have := HSS.out.2.2.2; omega)
          generalize ss[j]?.getD 0 = sb at hcs
          generalize ts[j]?.getD 0 = tb at hco
          have HCS := Lib.hid (And.intro hqs (And.intro hcs (And.intro hqo hco)))
          clear hqs hcs hqo hco hsp
          go_upto_region 17 with fail
          have HQ := Lib.hid (And.intro HR.out.2.1 HR.out.1)
          refine wp_region_plan (fun W => Below w.heap.size w W) [([0, 1, 2, 3, 4, 5, 6, 7, 8, 9, 10, 11], 12)] [] (by kernel_rfl) (by kernel_rfl) (fun _ _ d _ _ h => by cases d <;> exact h) HQ.out.1.dsk.bel.drew ?_
          refine plan_eff ?_
          refine seg_read ?v1 (by rfl) (by rfl) ?h1 ?_
          case h1 => intro W hW; clear hW; go_simp; with_reducible rfl
          try simp only [Act.put, List.setIfInBounds_toArray, List.set_cons_zero, List.set_cons_succ]
          refine seg_read ?v2 (by rfl) (by rfl) ?h2 ?_
          case h2 => intro W hW; clear hW; go_simp; with_reducible rfl
          try simp only [Act.put, List.setIfInBounds_toArray, List.set_cons_zero, List.set_cons_succ]
          refine seg_read ?v3 (by rfl) (by rfl) ?h3 ?_
          case h3 => intro W hW; clear hW; go_simp; with_reducible rfl
          try simp only [Act.put, List.setIfInBounds_toArray, List.set_cons_zero, List.set_cons_succ]
          refine seg_read (.pointer (some ⟨qs, os + j, none⟩)) (by rfl) (by rfl) ?h1 ?_
          case h1 => intro W hW; clear hW; go_simp; (try rw [if_pos ⟨by omega, by omega⟩]); (try with_reducible rfl)
          try simp only [Act.put, List.setIfInBounds_toArray, List.set_cons_zero, List.set_cons_succ]
          refine seg_read (.int .u8 (sb.toNat : Int)) (by rfl) (by rfl) ?h2 ?_
          case h2 => intro W hW; have hcs := (hW.cell (p := ⟨_, _, none⟩) HCS.out.1).trans HCS.out.2.1; clear hW; go_simp; (try rw [if_pos ⟨by omega, by omega⟩]); (try with_reducible rfl)
          try simp only [Act.put, List.setIfInBounds_toArray, List.set_cons_zero, List.set_cons_succ]
          refine seg_read ?v4 (by rfl) (by rfl) ?h4 ?_
          case h4 => intro W hW; clear hW; go_simp; with_reducible rfl
          try simp only [Act.put, List.setIfInBounds_toArray, List.set_cons_zero, List.set_cons_succ]
          refine seg_read ?v5 (by rfl) (by rfl) ?h5 ?_
          case h5 => intro W hW; clear hW; go_simp; with_reducible rfl
          try simp only [Act.put, List.setIfInBounds_toArray, List.set_cons_zero, List.set_cons_succ]
          refine seg_read ?v6 (by rfl) (by rfl) ?h6 ?_
          case h6 => intro W hW; clear hW; go_simp; with_reducible rfl
          try simp only [Act.put, List.setIfInBounds_toArray, List.set_cons_zero, List.set_cons_succ]
          refine seg_read ?v7 (by rfl) (by rfl) ?h7 ?_
          case h7 => intro W hW; clear hW; go_simp; with_reducible rfl
          try simp only [Act.put, List.setIfInBounds_toArray, List.set_cons_zero, List.set_cons_succ]
          refine seg_read (.pointer (some ⟨qo, oo + j, none⟩)) (by rfl) (by rfl) ?h3 ?_
          case h3 => intro W hW; clear hW; go_simp; (try rw [if_pos ⟨by omega, by omega⟩]); (try with_reducible rfl)
          try simp only [Act.put, List.setIfInBounds_toArray, List.set_cons_zero, List.set_cons_succ]
          refine seg_read (.int .u8 (tb.toNat : Int)) (by rfl) (by rfl) ?h4 ?_
          case h4 => intro W hW; have hco := (hW.cell (p := ⟨_, _, none⟩) HCS.out.2.2.1).trans HCS.out.2.2.2; clear hW; go_simp; (try rw [if_pos ⟨by omega, by omega⟩]); (try with_reducible rfl)
          try simp only [Act.put, List.setIfInBounds_toArray, List.set_cons_zero, List.set_cons_succ]
          refine seg_read ?v8 (by rfl) (by rfl) ?h8 ?_
          case h8 => intro W hW; clear hW; go_simp; with_reducible rfl
          try simp only [Act.put, List.setIfInBounds_toArray, List.set_cons_zero, List.set_cons_succ]
          refine seg_nil ?_
          refine eff_step (by rfl) (fun K0 hK0 => ?_)
          go_simp
          obtain ⟨AF, hAF⟩ : ∃ AF, AF = IntKind.i64.wrap (bits BinOp.and IntKind.u8 (sb.toNat : Int) 3) := ⟨_, rfl⟩
          obtain ⟨TN, hTN⟩ : ∃ TN, TN = IntKind.i64.wrap (tb.toNat : Int) := ⟨_, rfl⟩
          rw [← hAF, ← hTN]
          have hAb : -9223372036854775808 ≤ AF ∧ AF ≤ 9223372036854775807 := by rw [hAF]; exact wrap_i64_in _
          have hst := HQ.out.1.drew.stop AF TN hAb
          refine hst.mono ?_
          rintro _ w4 ⟨rfl, hT4⟩
          refine hK0 _ _ ⟨fun W => Below w.heap.size w W, hT4.dsk.bel, fun _ h => h, ?_⟩
          clear hK0 K0
          refine plan_last ?_
          refine seg_nil ?_
          have HQ4 := Lib.hid (And.intro hT4 (HQ.out.2.stop (torn := TN) hAb))
          have hcr4 : w4.cell? ⟨q, o + j, none⟩ = some (.slice Ai ni ci) := (hT4.dsk.bel.cell (p := ⟨_, _, none⟩) HY.out.2.2.1).trans HY.out.2.2.2
          clear hst hT4 hAF hTN hAb hcr HCS hsp' hto' HQ
          generalize stopM d AF TN = d4 at *
          go_upto_region 18 with fail
          have hadd := HQ4.out.1.add (HQ4.out.2.ok (by have := HR.out.2.2.2.2; omega)) (HY.out.1.below HQ4.out.1.dsk.bel) (fun k hk => hk) (by have := HBG.out; omega)
          have hgo := HQ4.out.2.go (by have := HR.out.2.2.2.2; omega) b (by rw [HY.out.2.1]; exact HBG.out)
          have herr := HQ4.out.2.err (by have := HR.out.2.2.2.2; omega) b (by rw [HY.out.2.1]; exact HBG.out)
          obtain ⟨⟨d2, M2, e2⟩, hAM⟩ : ∃ r, addM d4 M b = r := ⟨_, rfl⟩
          rw [hAM] at hadd hgo herr
          simp only at hadd hgo herr
          clear hAM
          by_cases he : e2 = 0
          · subst he
            have HP2 := Lib.hid (hgo rfl)
            clear hgo herr
            go_upto_region 20 with (go_at_call 14; refine hadd.mono ?_; clear hadd; rintro _ w5 ⟨rfl, hT5⟩)
            have H5 := Lib.hid hT5
            clear hT5 hcr4
            have hcra : w5.cell? ⟨q, o + j, none⟩ = some (.slice Ai ni ci) := (H5.out.dsk.bel.cell (p := ⟨_, _, none⟩) HY.out.2.2.1).trans HY.out.2.2.2
            have hcva : (convert 41 9 (.slice Ai ni ci)).run Try.prog w5 = .ok (.string (st b)) w5 := byt_string (HY.out.1.below H5.out.dsk.bel)
            obtain ⟨i0, hi, hz0, hz1, hz2⟩ := info_parts str_info2
            have HI := Lib.hid (And.intro hi (And.intro hz0 (And.intro hz1 hz2)))
            have HL := Lib.hid (show tl.length ≤ 12 by have h1 := HR.out.2.2.1; have h2 := HR.out.2.2.2.2; omega)
            clear hi hz0 hz1 hz2
            go_wp2_with (at_builtin; refine wpList_append_own_at _ rfl _ _ 29 rfl m 9 i0 (.string ByteArray.empty) 1 16 Try.underlying29 HI.out.1 HI.out.2.1 HI.out.2.2.1 HI.out.2.2.2 rfl (by decide) _ tl.length (strs tl) rfl (H5.out.own.alloc _) ⟨w5.heap.size, 0, none⟩ 1 1 [.string (st b)] rfl rfl (cell_one_new _ _ _) (one_of rfl) (by have h1 := HL.out; unfold maxLen; omega) (by have h1 := HL.out; omega) (by have := H5.out.dsk.top; simp; omega) ?_)
            intro V6 w6 hown hgrow _ hob
            have hTa := H5.out.told hown hgrow (by rw [World.size_alloc]; exact hob)
            have hTR := (((Turned.refl (fun k => m ≤ k ∧ (Value.slice At tl.length ct).ownBlock = some k) w5).alloc (.cells #[.string (st b)] 9)).trans (Turned.of_gr (S := fun k => m ≤ k ∧ (Value.slice At tl.length ct).ownBlock = some k) hgrow fun k hk => ⟨(H5.out.own.lt k hk).1, hk⟩) fun _ _ h => h)
            obtain ⟨g6, cap6, hv6, _, _⟩ := hown.form (by omega)
            subst hv6
            have H6 := Lib.hid hTa
            have HT6 := Lib.hid hTR
            clear hTa hown hgrow hob hcra hcva hTR
            go_wp2_with fail
            go_roundw
            case rel =>
              first | refine ⟨_, _, _, _, ?_, rfl, rfl, rfl, rfl⟩ | skip
              unfold RTn; exact ⟨j + 1, p, d2, M2, tl ++ [b], by have h1 := HR.out.2.2.2.1; have h2 := HS.out.2.1; omega, rfl, by simp, by have h1 := HR.out.2.2.1; simp; exact h1, by have h1 := HP2.out; rwa [show 1 + 300 * j + 300 = 1 + 300 * (j + 1) by omega] at h1, H6.out⟩
            case measure => simp only [intOf]; have h1 := HR.out.2.2.2.1; omega
          · obtain ⟨h30, t2, ht2, hP2⟩ := herr he
            have HP2 := Lib.hid hP2
            clear hgo herr hP2
            rcases h30 with rfl | rfl
            · clear he
              go_upto_region 23 with (go_at_call 14; refine hadd.mono ?_; clear hadd; rintro _ w5 ⟨rfl, hT5⟩)
              have hrs := hT5.restart
              clear hT5 hcr4
              go_upto_region 24 with (go_at_call 22; refine hrs.mono ?_; clear hrs; rintro _ w6 ⟨rfl, hT6⟩)
              have hP2 := HP2.out
              have hop := hT6.dsk.open 0 40 (by rw [hP2.len]; omega) (by omega) rfl (by rw [hP2.len]; omega)
              obtain ⟨MZ, hMZ⟩ : ∃ MZ, MZ = openM (blocksOf (restartM d2).l ((0 : Nat) : Int) ((40 : Nat) : Int)) ((0 : Nat) : Int) ((40 : Nat) : Int) := ⟨_, rfl⟩
              rw [← hMZ] at hop hP2
              generalize restartM d2 = dR at *
              have HP3 := Lib.hid hP2
              have H6 := Lib.hid hT6
              clear hP2 HP2 hMZ hT6
              go_upto_region 27 with (go_at_call 12; refine hop.mono ?_; clear hop; rintro _ w7 ⟨p7, rfl, hl7, hd7, hb7⟩)
              have hT7 := H6.out.again hd7 hl7 hb7
              have hrc := wrecords_any hT7.lg (HP3.out.ok (by have := HR.out.2.2.2.2; omega))
              have H7 := Lib.hid hT7
              clear hl7 hd7 hb7 hT7
              go_upto_region 28 with (go_at_call 26; refine hrc.mono ?_; clear hrc; rintro _ w8 ⟨A8, n8, c8, rfl, hr8, hb8⟩)
              rw [HP3.out.recs] at hr8
              rcases ht2 with ht2 | ht2
              · rw [ht2] at hr8 HP3
                clear ht2
                obtain rfl : n8 = tl.length := hr8.len.symm
                have HN8 := Lib.hid (Nat.le_refl tl.length)
                have H8 := Lib.hid (And.intro hr8 hb8)
                clear hr8 hb8
                refine wp_region_grow (fun W W' => Below W.heap.size W W') (Grow.nth [fun v _ => v = .slice A8 tl.length c8, fun v _ => v = .int .i64 (tl.length : Int), fun v _ => v = .slice At tl.length ct, fun v _ => v = .int .i64 (tl.length : Int), fun v _ => v = .bool false, fun v _ => v = .bool false, fun v _ => v = undef, fun v _ => v = undef, fun v _ => v = undef, fun v _ => v = undef, fun v _ => v = undef, fun v _ => v = undef, fun v _ => v = undef, fun v _ => v = undef, fun v _ => v = undef, fun v _ => v = undef, fun v _ => v = undef, fun v _ => v = undef, fun v _ => v = .bool false]) 145 (by kernel_rfl) (by kernel_rfl) (by rfl) (fun W => Below.refl _ W) (fun _ _ _ h1 h2 => h1.trans (h2.mono h1.size)) (Grow.mono_nth ?gmono) ?gsteps ?gfin
                case gmono => exact ⟨fun _ _ _ h _ => h, fun _ _ _ h _ => h, fun _ _ _ h _ => h, fun _ _ _ h _ => h, fun _ _ _ h _ => h, fun _ _ _ h _ => h, fun _ _ _ h _ => h, fun _ _ _ h _ => h, fun _ _ _ h _ => h, fun _ _ _ h _ => h, fun _ _ _ h _ => h, fun _ _ _ h _ => h, fun _ _ _ h _ => h, fun _ _ _ h _ => h, fun _ _ _ h _ => h, fun _ _ _ h _ => h, fun _ _ _ h _ => h, fun _ _ _ h _ => h, fun _ _ _ h _ => h, trivial⟩
                case gsteps =>
                  show Grow.allBelow _ 19
                  refine And.intro ?_ ?s18
                  refine And.intro ?_ ?s17
                  refine And.intro ?_ ?s16
                  refine And.intro ?_ ?s15
                  refine And.intro ?_ ?s14
                  refine And.intro ?_ ?s13
                  refine And.intro ?_ ?s12
                  refine And.intro ?_ ?s11
                  refine And.intro ?_ ?s10
                  refine And.intro ?_ ?s9
                  refine And.intro ?_ ?s8
                  refine And.intro ?_ ?s7
                  refine And.intro ?_ ?s6
                  refine And.intro ?_ ?s5
                  refine And.intro ?_ ?s4
                  refine And.intro ?_ ?s3
                  refine And.intro ?_ ?s2
                  refine And.intro ?_ ?s1
                  refine And.intro ?_ ?s0
                  exact trivial
                  case s0 =>
                    refine Grow.step_in (by rfl) (by rfl) ?_
                    intro E W ec eg ef hG hd hu R HR1
                    have e17 : E (.tmp 17) = .slice A8 tl.length c8 := hu 17 (by kernel_rfl)
                    clear hd hu
                    go_simp
                    exact HR1.out _ _ (Below.refl _ _) rfl
                  case s1 =>
                    refine Grow.step_in (by rfl) (by rfl) ?_
                    intro E W ec eg ef hG hd hu R HR1
                    have e109 : E (.tmp 109) = .slice A8 tl.length c8 := hd 0 109 (by kernel_rfl)
                    clear hd hu
                    go_simp
                    exact HR1.out _ _ (Below.refl _ _) rfl
                  case s2 =>
                    refine Grow.step_in (by rfl) (by rfl) ?_
                    intro E W ec eg ef hG hd hu R HR1
                    have e12 : E (.tmp 12) = .slice At tl.length ct := hu 12 (by kernel_rfl)
                    clear hd hu
                    go_simp
                    exact HR1.out _ _ (Below.refl _ _) rfl
                  case s3 =>
                    refine Grow.step_in (by rfl) (by rfl) ?_
                    intro E W ec eg ef hG hd hu R HR1
                    have e111 : E (.tmp 111) = .slice At tl.length ct := hd 2 111 (by kernel_rfl)
                    clear hd hu
                    go_simp
                    exact HR1.out _ _ (Below.refl _ _) rfl
                  case s4 =>
                    refine Grow.step_in (by rfl) (by rfl) ?_
                    intro E W ec eg ef hG hd hu R HR1
                    have e110 : E (.tmp 110) = .int .i64 (tl.length : Int) := hd 1 110 (by kernel_rfl)
                    have e112 : E (.tmp 112) = .int .i64 (tl.length : Int) := hd 3 112 (by kernel_rfl)
                    clear hd hu
                    go_simp
                    exact HR1.out _ _ (Below.refl _ _) rfl
                  case s5 =>
                    refine Grow.step_in (by rfl) (by rfl) ?_
                    intro E W ec eg ef hG hd hu R HR1
                    have e113 : E (.tmp 113) = .bool false := hd 4 113 (by kernel_rfl)
                    clear hd hu
                    go_simp
                    exact HR1.out _ _ (Below.refl _ _) rfl
                  case s6 =>
                    exact Grow.step_off (g := 5) (b := true) (b' := false) (d := 114) (by rfl) (by rfl) (by rfl) (by kernel_rfl) (fun v W h => h) (by decide) (fun _ => rfl)
                  case s7 =>
                    exact Grow.step_off (g := 5) (b := true) (b' := false) (d := 114) (by rfl) (by rfl) (by rfl) (by kernel_rfl) (fun v W h => h) (by decide) (fun _ => rfl)
                  case s8 =>
                    exact Grow.step_off (g := 5) (b := true) (b' := false) (d := 114) (by rfl) (by rfl) (by rfl) (by kernel_rfl) (fun v W h => h) (by decide) (fun _ => rfl)
                  case s9 =>
                    exact Grow.step_off (g := 5) (b := true) (b' := false) (d := 114) (by rfl) (by rfl) (by rfl) (by kernel_rfl) (fun v W h => h) (by decide) (fun _ => rfl)
                  case s10 =>
                    exact Grow.step_off (g := 5) (b := true) (b' := false) (d := 114) (by rfl) (by rfl) (by rfl) (by kernel_rfl) (fun v W h => h) (by decide) (fun _ => rfl)
                  case s11 =>
                    exact Grow.step_off (g := 5) (b := true) (b' := false) (d := 114) (by rfl) (by rfl) (by rfl) (by kernel_rfl) (fun v W h => h) (by decide) (fun _ => rfl)
                  case s12 =>
                    exact Grow.step_off (g := 5) (b := true) (b' := false) (d := 114) (by rfl) (by rfl) (by rfl) (by kernel_rfl) (fun v W h => h) (by decide) (fun _ => rfl)
                  case s13 =>
                    exact Grow.step_off (g := 5) (b := true) (b' := false) (d := 114) (by rfl) (by rfl) (by rfl) (by kernel_rfl) (fun v W h => h) (by decide) (fun _ => rfl)
                  case s14 =>
                    exact Grow.step_off (g := 5) (b := true) (b' := false) (d := 114) (by rfl) (by rfl) (by rfl) (by kernel_rfl) (fun v W h => h) (by decide) (fun _ => rfl)
                  case s15 =>
                    exact Grow.step_off (g := 5) (b := true) (b' := false) (d := 114) (by rfl) (by rfl) (by rfl) (by kernel_rfl) (fun v W h => h) (by decide) (fun _ => rfl)
                  case s16 =>
                    exact Grow.step_off (g := 5) (b := true) (b' := false) (d := 114) (by rfl) (by rfl) (by rfl) (by kernel_rfl) (fun v W h => h) (by decide) (fun _ => rfl)
                  case s17 =>
                    exact Grow.step_off (g := 5) (b := true) (b' := false) (d := 114) (by rfl) (by rfl) (by rfl) (by kernel_rfl) (fun v W h => h) (by decide) (fun _ => rfl)
                  case s18 =>
                    refine Grow.step_in (by rfl) (by rfl) ?_
                    intro E W ec eg ef hG hd hu R HR1
                    have e114 : E (.tmp 114) = .bool false := hd 5 114 (by kernel_rfl)
                    have e126 : E (.tmp 126) = undef := hd 17 126 (by kernel_rfl)
                    clear hd hu
                    go_simp
                    exact HR1.out _ _ (Below.refl _ _) rfl
                case gfin =>
                  intro W hG
                  refine Grow.fin_dst (by rfl) ?_
                  rintro _ rfl
                  refine Grow.fin_dst (by rfl) ?_
                  rintro _ rfl
                  refine Grow.fin_dst (by rfl) ?_
                  rintro _ rfl
                  refine Grow.fin_dst (by rfl) ?_
                  rintro _ rfl
                  refine Grow.fin_dst (by rfl) ?_
                  rintro _ rfl
                  refine Grow.fin_dst (by rfl) ?_
                  rintro _ rfl
                  refine Grow.fin_dst (by rfl) ?_
                  rintro _ rfl
                  refine Grow.fin_dst (by rfl) ?_
                  rintro _ rfl
                  refine Grow.fin_dst (by rfl) ?_
                  rintro _ rfl
                  refine Grow.fin_dst (by rfl) ?_
                  rintro _ rfl
                  refine Grow.fin_dst (by rfl) ?_
                  rintro _ rfl
                  refine Grow.fin_dst (by rfl) ?_
                  rintro _ rfl
                  refine Grow.fin_dst (by rfl) ?_
                  rintro _ rfl
                  refine Grow.fin_dst (by rfl) ?_
                  rintro _ rfl
                  refine Grow.fin_dst (by rfl) ?_
                  rintro _ rfl
                  refine Grow.fin_dst (by rfl) ?_
                  rintro _ rfl
                  refine Grow.fin_dst (by rfl) ?_
                  rintro _ rfl
                  refine Grow.fin_dst (by rfl) ?_
                  rintro _ rfl
                  refine Grow.fin_dst (by rfl) ?_
                  rintro _ rfl
                  simp only [Act.put, List.setIfInBounds_toArray, List.set_cons_zero, List.set_cons_succ]
                  refine Grow.fin_end ?_
                  have HB9 := Lib.hid (Grow.below_of_drew hG)
                  clear hG
                  have hT9 := (H7.out.below H8.out.2).below HB9.out
                  obtain ⟨A9, c9, hv9, hst9⟩ := own_strs hT9.own
                  injection hv9 with e1 e2 e3
                  subst e1 e3
                  have H9 := Lib.hid hT9
                  clear hT9
                  have hs1 := same_any (H8.out.1.below HB9.out) hst9 (by have := HN8.out; have h1 := HR.out.2.2.1; have h2 := HR.out.2.2.2.2; omega)
                  rw [decide_eq_true rfl] at hs1
                  go_wp2_with (go_at_call 25; refine hs1.mono ?_; clear hs1; rintro _ w12 ⟨rfl, hb12⟩; have H12 := Lib.hid (H9.out.below hb12); clear hb12)
                  go_roundw
                  case rel =>
                    first | refine ⟨_, _, _, _, ?_, rfl, rfl, rfl, rfl⟩ | skip
                    unfold RTn; exact ⟨j + 1, p7, dR, MZ, tl, by have h1 := HR.out.2.2.2.1; have h2 := HS.out.2.1; omega, rfl, by simp, by have h1 := HR.out.2.2.1; simp; omega, by have h1 := HP3.out; rwa [show 1 + 300 * j + 300 = 1 + 300 * (j + 1) by omega] at h1, H12.out⟩
                  case measure => simp only [intOf]; have h1 := HR.out.2.2.2.1; omega
              · rw [ht2] at hr8 HP3
                clear ht2
                have hn8 : n8 = tl.length + 1 := by rw [← hr8.len]; simp
                have HN8 := Lib.hid (show n8 ≤ tl.length + 1 by omega)
                have hgt : (tl.length : Int) < (n8 : Int) := by omega
                have H8 := Lib.hid (And.intro hr8 hb8)
                obtain ⟨qr, oR, rfl, hqS, hqr, hcr8⟩ := hr8.row (by omega)
                obtain ⟨Ar, nr, cR, hcx, hyr⟩ := hcr8 tl.length (by omega)
                rw [show (tl ++ [b])[tl.length]?.getD [] = b by simp] at hyr
                have HC : Hid (∀ W, Below w8.drew.heap.size w8.drew W → W.cell? ⟨qr, oR + tl.length, none⟩ = some (.slice Ar nr cR) ∧ (convert 41 9 (.slice Ar nr cR)).run Try.prog W = .ok (.string (st b)) W ∧ W.cell? ⟨q, o + j, none⟩ = some (.slice Ai ni ci) ∧ (convert 41 9 (.slice Ai ni ci)).run Try.prog W = .ok (.string (st b)) W) := Lib.hid fun W hW => by
                  have hW2 : Below w8.heap.size w8 W := Grow.below_of_drew hW
                  have hW3 := ((H7.out.below H8.out.2).below hW2).dsk.bel
                  exact ⟨(hW2.cell (p := ⟨_, _, none⟩) hqr).trans hcx, byt_string (hyr.below hW2), (hW3.cell (p := ⟨_, _, none⟩) HY.out.2.2.1).trans HY.out.2.2.2, byt_string (HY.out.1.below hW3)⟩
                clear hn8 hqS hqr hcr8 hcx hyr hr8 hb8
                refine wp_region_grow (fun W W' => Below W.heap.size W W') (Grow.nth [fun v _ => v = .slice (some ⟨qr, oR, none⟩) n8 c8, fun v _ => v = .int .i64 (n8 : Int), fun v _ => v = .slice At tl.length ct, fun v _ => v = .int .i64 (tl.length : Int), fun v _ => v = .bool true, fun v _ => v = .bool true, fun v _ => v = .slice (some ⟨qr, oR, none⟩) n8 c8, fun v _ => v = .slice At tl.length ct, fun v _ => v = .int .i64 (tl.length : Int), fun v _ => v = .pointer (some ⟨qr, oR + tl.length, none⟩), fun v _ => v = .slice Ar nr cR, fun v _ => v = .string (st b), fun v _ => v = .slice (some ⟨q, o, none⟩) n c, fun v _ => v = .int .i64 (j : Int), fun v _ => v = .pointer (some ⟨q, o + j, none⟩), fun v _ => v = .slice Ai ni ci, fun v _ => v = .string (st b), fun v _ => v = .bool true, fun v _ => v = .bool true]) 145 (by kernel_rfl) (by kernel_rfl) (by rfl) (fun W => Below.refl _ W) (fun _ _ _ h1 h2 => h1.trans (h2.mono h1.size)) (Grow.mono_nth ?gmono) ?gsteps ?gfin
                case gmono => exact ⟨fun _ _ _ h _ => h, fun _ _ _ h _ => h, fun _ _ _ h _ => h, fun _ _ _ h _ => h, fun _ _ _ h _ => h, fun _ _ _ h _ => h, fun _ _ _ h _ => h, fun _ _ _ h _ => h, fun _ _ _ h _ => h, fun _ _ _ h _ => h, fun _ _ _ h _ => h, fun _ _ _ h _ => h, fun _ _ _ h _ => h, fun _ _ _ h _ => h, fun _ _ _ h _ => h, fun _ _ _ h _ => h, fun _ _ _ h _ => h, fun _ _ _ h _ => h, fun _ _ _ h _ => h, trivial⟩
                case gsteps =>
                  show Grow.allBelow _ 19
                  refine And.intro ?_ ?s18
                  refine And.intro ?_ ?s17
                  refine And.intro ?_ ?s16
                  refine And.intro ?_ ?s15
                  refine And.intro ?_ ?s14
                  refine And.intro ?_ ?s13
                  refine And.intro ?_ ?s12
                  refine And.intro ?_ ?s11
                  refine And.intro ?_ ?s10
                  refine And.intro ?_ ?s9
                  refine And.intro ?_ ?s8
                  refine And.intro ?_ ?s7
                  refine And.intro ?_ ?s6
                  refine And.intro ?_ ?s5
                  refine And.intro ?_ ?s4
                  refine And.intro ?_ ?s3
                  refine And.intro ?_ ?s2
                  refine And.intro ?_ ?s1
                  refine And.intro ?_ ?s0
                  exact trivial
                  case s0 =>
                    refine Grow.step_in (by rfl) (by rfl) ?_
                    intro E W ec eg ef hG hd hu R HR1
                    have e17 : E (.tmp 17) = .slice (some ⟨qr, oR, none⟩) n8 c8 := hu 17 (by kernel_rfl)
                    clear hd hu
                    go_simp
                    exact HR1.out _ _ (Below.refl _ _) rfl
                  case s1 =>
                    refine Grow.step_in (by rfl) (by rfl) ?_
                    intro E W ec eg ef hG hd hu R HR1
                    have e109 : E (.tmp 109) = .slice (some ⟨qr, oR, none⟩) n8 c8 := hd 0 109 (by kernel_rfl)
                    clear hd hu
                    go_simp
                    exact HR1.out _ _ (Below.refl _ _) rfl
                  case s2 =>
                    refine Grow.step_in (by rfl) (by rfl) ?_
                    intro E W ec eg ef hG hd hu R HR1
                    have e12 : E (.tmp 12) = .slice At tl.length ct := hu 12 (by kernel_rfl)
                    clear hd hu
                    go_simp
                    exact HR1.out _ _ (Below.refl _ _) rfl
                  case s3 =>
                    refine Grow.step_in (by rfl) (by rfl) ?_
                    intro E W ec eg ef hG hd hu R HR1
                    have e111 : E (.tmp 111) = .slice At tl.length ct := hd 2 111 (by kernel_rfl)
                    clear hd hu
                    go_simp
                    exact HR1.out _ _ (Below.refl _ _) rfl
                  case s4 =>
                    refine Grow.step_in (by rfl) (by rfl) ?_
                    intro E W ec eg ef hG hd hu R HR1
                    have e110 : E (.tmp 110) = .int .i64 (n8 : Int) := hd 1 110 (by kernel_rfl)
                    have e112 : E (.tmp 112) = .int .i64 (tl.length : Int) := hd 3 112 (by kernel_rfl)
                    clear hd hu
                    go_simp
                    exact HR1.out _ _ (Below.refl _ _) rfl
                  case s5 =>
                    refine Grow.step_in (by rfl) (by rfl) ?_
                    intro E W ec eg ef hG hd hu R HR1
                    have e113 : E (.tmp 113) = .bool true := hd 4 113 (by kernel_rfl)
                    clear hd hu
                    go_simp
                    exact HR1.out _ _ (Below.refl _ _) rfl
                  case s6 =>
                    refine Grow.step_on (g := 5) (b := true) (d := 114) (by rfl) (by rfl) (by rfl) (by kernel_rfl) (fun v W h => h) ?_
                    intro E W ec eg ef hG hd hu R HR1
                    have e17 : E (.tmp 17) = .slice (some ⟨qr, oR, none⟩) n8 c8 := hu 17 (by kernel_rfl)
                    clear hd hu
                    go_simp
                    exact HR1.out _ _ (Below.refl _ _) rfl
                  case s7 =>
                    refine Grow.step_on (g := 5) (b := true) (d := 114) (by rfl) (by rfl) (by rfl) (by kernel_rfl) (fun v W h => h) ?_
                    intro E W ec eg ef hG hd hu R HR1
                    have e12 : E (.tmp 12) = .slice At tl.length ct := hu 12 (by kernel_rfl)
                    clear hd hu
                    go_simp
                    exact HR1.out _ _ (Below.refl _ _) rfl
                  case s8 =>
                    refine Grow.step_on (g := 5) (b := true) (d := 114) (by rfl) (by rfl) (by rfl) (by kernel_rfl) (fun v W h => h) ?_
                    intro E W ec eg ef hG hd hu R HR1
                    have e116 : E (.tmp 116) = .slice At tl.length ct := hd 7 116 (by kernel_rfl)
                    clear hd hu
                    go_simp
                    exact HR1.out _ _ (Below.refl _ _) rfl
                  case s9 =>
                    refine Grow.step_on (g := 5) (b := true) (d := 114) (by rfl) (by rfl) (by rfl) (by kernel_rfl) (fun v W h => h) ?_
                    intro E W ec eg ef hG hd hu R HR1
                    have e115 : E (.tmp 115) = .slice (some ⟨qr, oR, none⟩) n8 c8 := hd 6 115 (by kernel_rfl)
                    have e117 : E (.tmp 117) = .int .i64 (tl.length : Int) := hd 8 117 (by kernel_rfl)
                    clear hd hu
                    go_simp
                    first | exact HR1.out _ _ (Below.refl _ _) rfl | (rw [if_pos ⟨by omega, by omega⟩]; exact HR1.out _ _ (Below.refl _ _) rfl) | (rw [if_pos (by omega)]; exact HR1.out _ _ (Below.refl _ _) rfl)
                  case s10 =>
                    refine Grow.step_on (g := 5) (b := true) (d := 114) (by rfl) (by rfl) (by rfl) (by kernel_rfl) (fun v W h => h) ?_
                    intro E W ec eg ef hG hd hu R HR1
                    have e118 : E (.tmp 118) = .pointer (some ⟨qr, oR + tl.length, none⟩) := hd 9 118 (by kernel_rfl)
                    clear hd hu
                    obtain ⟨k1, k2, k3, k4⟩ := HC.out W hG
                    go_simp
                    first | exact HR1.out _ _ (Below.refl _ _) rfl | (rw [if_pos ⟨by omega, by omega⟩]; exact HR1.out _ _ (Below.refl _ _) rfl)
                  case s11 =>
                    refine Grow.step_on (g := 5) (b := true) (d := 114) (by rfl) (by rfl) (by rfl) (by kernel_rfl) (fun v W h => h) ?_
                    intro E W ec eg ef hG hd hu R HR1
                    have e119 : E (.tmp 119) = .slice Ar nr cR := hd 10 119 (by kernel_rfl)
                    clear hd hu
                    obtain ⟨k1, k2, k3, k4⟩ := HC.out W hG
                    go_simp
                    first | exact HR1.out _ _ (Below.refl _ _) rfl | (rw [if_pos ⟨by omega, by omega⟩]; exact HR1.out _ _ (Below.refl _ _) rfl)
                  case s12 =>
                    refine Grow.step_on (g := 5) (b := true) (d := 114) (by rfl) (by rfl) (by rfl) (by kernel_rfl) (fun v W h => h) ?_
                    intro E W ec eg ef hG hd hu R HR1
                    have e0 : E (.tmp 0) = .slice (some ⟨q, o, none⟩) n c := hu 0 (by kernel_rfl)
                    clear hd hu
                    go_simp
                    exact HR1.out _ _ (Below.refl _ _) rfl
                  case s13 =>
                    refine Grow.step_on (g := 5) (b := true) (d := 114) (by rfl) (by rfl) (by rfl) (by kernel_rfl) (fun v W h => h) ?_
                    intro E W ec eg ef hG hd hu R HR1
                    have e13 : E (.tmp 13) = .int .i64 (j : Int) := hu 13 (by kernel_rfl)
                    clear hd hu
                    go_simp
                    exact HR1.out _ _ (Below.refl _ _) rfl
                  case s14 =>
                    refine Grow.step_on (g := 5) (b := true) (d := 114) (by rfl) (by rfl) (by rfl) (by kernel_rfl) (fun v W h => h) ?_
                    intro E W ec eg ef hG hd hu R HR1
                    have e121 : E (.tmp 121) = .slice (some ⟨q, o, none⟩) n c := hd 12 121 (by kernel_rfl)
                    have e122 : E (.tmp 122) = .int .i64 (j : Int) := hd 13 122 (by kernel_rfl)
                    clear hd hu
                    go_simp
                    first | exact HR1.out _ _ (Below.refl _ _) rfl | (rw [if_pos ⟨by omega, by omega⟩]; exact HR1.out _ _ (Below.refl _ _) rfl) | (rw [if_pos (by omega)]; exact HR1.out _ _ (Below.refl _ _) rfl)
                  case s15 =>
                    refine Grow.step_on (g := 5) (b := true) (d := 114) (by rfl) (by rfl) (by rfl) (by kernel_rfl) (fun v W h => h) ?_
                    intro E W ec eg ef hG hd hu R HR1
                    have e123 : E (.tmp 123) = .pointer (some ⟨q, o + j, none⟩) := hd 14 123 (by kernel_rfl)
                    clear hd hu
                    obtain ⟨k1, k2, k3, k4⟩ := HC.out W hG
                    go_simp
                    first | exact HR1.out _ _ (Below.refl _ _) rfl | (rw [if_pos ⟨by omega, by omega⟩]; exact HR1.out _ _ (Below.refl _ _) rfl)
                  case s16 =>
                    refine Grow.step_on (g := 5) (b := true) (d := 114) (by rfl) (by rfl) (by rfl) (by kernel_rfl) (fun v W h => h) ?_
                    intro E W ec eg ef hG hd hu R HR1
                    have e124 : E (.tmp 124) = .slice Ai ni ci := hd 15 124 (by kernel_rfl)
                    clear hd hu
                    obtain ⟨k1, k2, k3, k4⟩ := HC.out W hG
                    go_simp
                    first | exact HR1.out _ _ (Below.refl _ _) rfl | (rw [if_pos ⟨by omega, by omega⟩]; exact HR1.out _ _ (Below.refl _ _) rfl)
                  case s17 =>
                    refine Grow.step_on (g := 5) (b := true) (d := 114) (by rfl) (by rfl) (by rfl) (by kernel_rfl) (fun v W h => h) ?_
                    intro E W ec eg ef hG hd hu R HR1
                    have e120 : E (.tmp 120) = .string (st b) := hd 11 120 (by kernel_rfl)
                    have e125 : E (.tmp 125) = .string (st b) := hd 16 125 (by kernel_rfl)
                    clear hd hu
                    go_simp
                    exact HR1.out _ _ (Below.refl _ _) rfl
                  case s18 =>
                    refine Grow.step_in (by rfl) (by rfl) ?_
                    intro E W ec eg ef hG hd hu R HR1
                    have e114 : E (.tmp 114) = .bool true := hd 5 114 (by kernel_rfl)
                    have e126 : E (.tmp 126) = .bool true := hd 17 126 (by kernel_rfl)
                    clear hd hu
                    go_simp
                    exact HR1.out _ _ (Below.refl _ _) rfl
                case gfin =>
                  intro W hG
                  refine Grow.fin_dst (by rfl) ?_
                  rintro _ rfl
                  refine Grow.fin_dst (by rfl) ?_
                  rintro _ rfl
                  refine Grow.fin_dst (by rfl) ?_
                  rintro _ rfl
                  refine Grow.fin_dst (by rfl) ?_
                  rintro _ rfl
                  refine Grow.fin_dst (by rfl) ?_
                  rintro _ rfl
                  refine Grow.fin_dst (by rfl) ?_
                  rintro _ rfl
                  refine Grow.fin_dst (by rfl) ?_
                  rintro _ rfl
                  refine Grow.fin_dst (by rfl) ?_
                  rintro _ rfl
                  refine Grow.fin_dst (by rfl) ?_
                  rintro _ rfl
                  refine Grow.fin_dst (by rfl) ?_
                  rintro _ rfl
                  refine Grow.fin_dst (by rfl) ?_
                  rintro _ rfl
                  refine Grow.fin_dst (by rfl) ?_
                  rintro _ rfl
                  refine Grow.fin_dst (by rfl) ?_
                  rintro _ rfl
                  refine Grow.fin_dst (by rfl) ?_
                  rintro _ rfl
                  refine Grow.fin_dst (by rfl) ?_
                  rintro _ rfl
                  refine Grow.fin_dst (by rfl) ?_
                  rintro _ rfl
                  refine Grow.fin_dst (by rfl) ?_
                  rintro _ rfl
                  refine Grow.fin_dst (by rfl) ?_
                  rintro _ rfl
                  refine Grow.fin_dst (by rfl) ?_
                  rintro _ rfl
                  simp only [Act.put, List.setIfInBounds_toArray, List.set_cons_zero, List.set_cons_succ]
                  refine Grow.fin_end ?_
                  have HB9 := Lib.hid (Grow.below_of_drew hG)
                  clear hG hgt HC
                  have H9 := Lib.hid ((H7.out.below H8.out.2).below HB9.out)
                  have hcra : W.cell? ⟨q, o + j, none⟩ = some (.slice Ai ni ci) := (H9.out.dsk.bel.cell (p := ⟨_, _, none⟩) HY.out.2.2.1).trans HY.out.2.2.2
                  have hcva : (convert 41 9 (.slice Ai ni ci)).run Try.prog W = .ok (.string (st b)) W := byt_string (HY.out.1.below H9.out.dsk.bel)
                  obtain ⟨i0, hi, hz0, hz1, hz2⟩ := info_parts str_info2
                  have HI := Lib.hid (And.intro hi (And.intro hz0 (And.intro hz1 hz2)))
                  have HL := Lib.hid (show tl.length ≤ 12 by have h1 := HR.out.2.2.1; have h2 := HR.out.2.2.2.2; omega)
                  clear hi hz0 hz1 hz2
                  go_wp2_with (at_builtin; refine wpList_append_own_at _ rfl _ _ 29 rfl m 9 i0 (.string ByteArray.empty) 1 16 Try.underlying29 HI.out.1 HI.out.2.1 HI.out.2.2.1 HI.out.2.2.2 rfl (by decide) _ tl.length (strs tl) rfl (H9.out.own.alloc _) ⟨W.heap.size, 0, none⟩ 1 1 [.string (st b)] rfl rfl (cell_one_new _ _ _) (one_of rfl) (by have h1 := HL.out; unfold maxLen; omega) (by have h1 := HL.out; omega) (by have := H9.out.dsk.top; simp; omega) ?_)
                  intro V11 w11 hown hgrow _ hob
                  have hTa := H9.out.told hown hgrow (by rw [World.size_alloc]; exact hob)
                  have hTR := (((Turned.refl (fun k => m ≤ k ∧ (Value.slice At tl.length ct).ownBlock = some k) W).alloc (.cells #[.string (st b)] 9)).trans (Turned.of_gr (S := fun k => m ≤ k ∧ (Value.slice At tl.length ct).ownBlock = some k) hgrow fun k hk => ⟨(H9.out.own.lt k hk).1, hk⟩) fun _ _ h => h)
                  obtain ⟨g11, cap11, hv11, _, _⟩ := hown.form (by omega)
                  subst hv11
                  have H11 := Lib.hid hTa
                  have HT11 := Lib.hid hTR
                  clear hTa hown hgrow hob hcra hcva hTR
                  have hr11 := (H8.out.1.below HB9.out).turned HT11.out fun k _ h1 h2 => by have := (H7.out.own.lt k h2.2).2; omega
                  obtain ⟨A9, c9, hv9, hst9⟩ := own_strs H11.out.own
                  have hln : (tl ++ [b]).length = tl.length + 1 := by simp
                  rw [hln] at hv9 hst9
                  injection hv9 with e1 e2 e3
                  subst e1 e3
                  clear hln
                  have hs1 := same_any hr11 hst9 (by have := HN8.out; have h1 := HR.out.2.2.1; have h2 := HR.out.2.2.2.2; omega)
                  rw [decide_eq_true rfl] at hs1
                  go_wp2_with (go_at_call 25; refine hs1.mono ?_; clear hs1; rintro _ w12 ⟨rfl, hb12⟩; have H12 := Lib.hid (H11.out.below hb12); clear hb12)
                  go_roundw
                  case rel =>
                    first | refine ⟨_, _, _, _, ?_, rfl, rfl, rfl, rfl⟩ | skip
                    unfold RTn; exact ⟨j + 1, p7, dR, MZ, tl ++ [b], by have h1 := HR.out.2.2.2.1; have h2 := HS.out.2.1; omega, rfl, by simp, by have h1 := HR.out.2.2.1; simp; omega, by have h1 := HP3.out; rwa [show 1 + 300 * j + 300 = 1 + 300 * (j + 1) by omega] at h1, H12.out⟩
                  case measure => simp only [intOf]; have h1 := HR.out.2.2.2.1; omega
            · clear he
              go_upto_region 23 with (go_at_call 14; refine hadd.mono ?_; clear hadd; rintro _ w5 ⟨rfl, hT5⟩)
              have hrs := hT5.restart
              clear hT5 hcr4
              go_upto_region 24 with (go_at_call 22; refine hrs.mono ?_; clear hrs; rintro _ w6 ⟨rfl, hT6⟩)
              have hP2 := HP2.out
              have hop := hT6.dsk.open 0 40 (by rw [hP2.len]; omega) (by omega) rfl (by rw [hP2.len]; omega)
              obtain ⟨MZ, hMZ⟩ : ∃ MZ, MZ = openM (blocksOf (restartM d2).l ((0 : Nat) : Int) ((40 : Nat) : Int)) ((0 : Nat) : Int) ((40 : Nat) : Int) := ⟨_, rfl⟩
              rw [← hMZ] at hop hP2
              generalize restartM d2 = dR at *
              have HP3 := Lib.hid hP2
              have H6 := Lib.hid hT6
              clear hP2 HP2 hMZ hT6
              go_upto_region 27 with (go_at_call 12; refine hop.mono ?_; clear hop; rintro _ w7 ⟨p7, rfl, hl7, hd7, hb7⟩)
              have hT7 := H6.out.again hd7 hl7 hb7
              have hrc := wrecords_any hT7.lg (HP3.out.ok (by have := HR.out.2.2.2.2; omega))
              have H7 := Lib.hid hT7
              clear hl7 hd7 hb7 hT7
              go_upto_region 28 with (go_at_call 26; refine hrc.mono ?_; clear hrc; rintro _ w8 ⟨A8, n8, c8, rfl, hr8, hb8⟩)
              rw [HP3.out.recs] at hr8
              rcases ht2 with ht2 | ht2
              · rw [ht2] at hr8 HP3
                clear ht2
                obtain rfl : n8 = tl.length := hr8.len.symm
                have HN8 := Lib.hid (Nat.le_refl tl.length)
                have H8 := Lib.hid (And.intro hr8 hb8)
                clear hr8 hb8
                refine wp_region_grow (fun W W' => Below W.heap.size W W') (Grow.nth [fun v _ => v = .slice A8 tl.length c8, fun v _ => v = .int .i64 (tl.length : Int), fun v _ => v = .slice At tl.length ct, fun v _ => v = .int .i64 (tl.length : Int), fun v _ => v = .bool false, fun v _ => v = .bool false, fun v _ => v = undef, fun v _ => v = undef, fun v _ => v = undef, fun v _ => v = undef, fun v _ => v = undef, fun v _ => v = undef, fun v _ => v = undef, fun v _ => v = undef, fun v _ => v = undef, fun v _ => v = undef, fun v _ => v = undef, fun v _ => v = undef, fun v _ => v = .bool false]) 145 (by kernel_rfl) (by kernel_rfl) (by rfl) (fun W => Below.refl _ W) (fun _ _ _ h1 h2 => h1.trans (h2.mono h1.size)) (Grow.mono_nth ?gmono) ?gsteps ?gfin
                case gmono => exact ⟨fun _ _ _ h _ => h, fun _ _ _ h _ => h, fun _ _ _ h _ => h, fun _ _ _ h _ => h, fun _ _ _ h _ => h, fun _ _ _ h _ => h, fun _ _ _ h _ => h, fun _ _ _ h _ => h, fun _ _ _ h _ => h, fun _ _ _ h _ => h, fun _ _ _ h _ => h, fun _ _ _ h _ => h, fun _ _ _ h _ => h, fun _ _ _ h _ => h, fun _ _ _ h _ => h, fun _ _ _ h _ => h, fun _ _ _ h _ => h, fun _ _ _ h _ => h, fun _ _ _ h _ => h, trivial⟩
                case gsteps =>
                  show Grow.allBelow _ 19
                  refine And.intro ?_ ?s18
                  refine And.intro ?_ ?s17
                  refine And.intro ?_ ?s16
                  refine And.intro ?_ ?s15
                  refine And.intro ?_ ?s14
                  refine And.intro ?_ ?s13
                  refine And.intro ?_ ?s12
                  refine And.intro ?_ ?s11
                  refine And.intro ?_ ?s10
                  refine And.intro ?_ ?s9
                  refine And.intro ?_ ?s8
                  refine And.intro ?_ ?s7
                  refine And.intro ?_ ?s6
                  refine And.intro ?_ ?s5
                  refine And.intro ?_ ?s4
                  refine And.intro ?_ ?s3
                  refine And.intro ?_ ?s2
                  refine And.intro ?_ ?s1
                  refine And.intro ?_ ?s0
                  exact trivial
                  case s0 =>
                    refine Grow.step_in (by rfl) (by rfl) ?_
                    intro E W ec eg ef hG hd hu R HR1
                    have e17 : E (.tmp 17) = .slice A8 tl.length c8 := hu 17 (by kernel_rfl)
                    clear hd hu
                    go_simp
                    exact HR1.out _ _ (Below.refl _ _) rfl
                  case s1 =>
                    refine Grow.step_in (by rfl) (by rfl) ?_
                    intro E W ec eg ef hG hd hu R HR1
                    have e109 : E (.tmp 109) = .slice A8 tl.length c8 := hd 0 109 (by kernel_rfl)
                    clear hd hu
                    go_simp
                    exact HR1.out _ _ (Below.refl _ _) rfl
                  case s2 =>
                    refine Grow.step_in (by rfl) (by rfl) ?_
                    intro E W ec eg ef hG hd hu R HR1
                    have e12 : E (.tmp 12) = .slice At tl.length ct := hu 12 (by kernel_rfl)
                    clear hd hu
                    go_simp
                    exact HR1.out _ _ (Below.refl _ _) rfl
                  case s3 =>
                    refine Grow.step_in (by rfl) (by rfl) ?_
                    intro E W ec eg ef hG hd hu R HR1
                    have e111 : E (.tmp 111) = .slice At tl.length ct := hd 2 111 (by kernel_rfl)
                    clear hd hu
                    go_simp
                    exact HR1.out _ _ (Below.refl _ _) rfl
                  case s4 =>
                    refine Grow.step_in (by rfl) (by rfl) ?_
                    intro E W ec eg ef hG hd hu R HR1
                    have e110 : E (.tmp 110) = .int .i64 (tl.length : Int) := hd 1 110 (by kernel_rfl)
                    have e112 : E (.tmp 112) = .int .i64 (tl.length : Int) := hd 3 112 (by kernel_rfl)
                    clear hd hu
                    go_simp
                    exact HR1.out _ _ (Below.refl _ _) rfl
                  case s5 =>
                    refine Grow.step_in (by rfl) (by rfl) ?_
                    intro E W ec eg ef hG hd hu R HR1
                    have e113 : E (.tmp 113) = .bool false := hd 4 113 (by kernel_rfl)
                    clear hd hu
                    go_simp
                    exact HR1.out _ _ (Below.refl _ _) rfl
                  case s6 =>
                    exact Grow.step_off (g := 5) (b := true) (b' := false) (d := 114) (by rfl) (by rfl) (by rfl) (by kernel_rfl) (fun v W h => h) (by decide) (fun _ => rfl)
                  case s7 =>
                    exact Grow.step_off (g := 5) (b := true) (b' := false) (d := 114) (by rfl) (by rfl) (by rfl) (by kernel_rfl) (fun v W h => h) (by decide) (fun _ => rfl)
                  case s8 =>
                    exact Grow.step_off (g := 5) (b := true) (b' := false) (d := 114) (by rfl) (by rfl) (by rfl) (by kernel_rfl) (fun v W h => h) (by decide) (fun _ => rfl)
                  case s9 =>
                    exact Grow.step_off (g := 5) (b := true) (b' := false) (d := 114) (by rfl) (by rfl) (by rfl) (by kernel_rfl) (fun v W h => h) (by decide) (fun _ => rfl)
                  case s10 =>
                    exact Grow.step_off (g := 5) (b := true) (b' := false) (d := 114) (by rfl) (by rfl) (by rfl) (by kernel_rfl) (fun v W h => h) (by decide) (fun _ => rfl)
                  case s11 =>
                    exact Grow.step_off (g := 5) (b := true) (b' := false) (d := 114) (by rfl) (by rfl) (by rfl) (by kernel_rfl) (fun v W h => h) (by decide) (fun _ => rfl)
                  case s12 =>
                    exact Grow.step_off (g := 5) (b := true) (b' := false) (d := 114) (by rfl) (by rfl) (by rfl) (by kernel_rfl) (fun v W h => h) (by decide) (fun _ => rfl)
                  case s13 =>
                    exact Grow.step_off (g := 5) (b := true) (b' := false) (d := 114) (by rfl) (by rfl) (by rfl) (by kernel_rfl) (fun v W h => h) (by decide) (fun _ => rfl)
                  case s14 =>
                    exact Grow.step_off (g := 5) (b := true) (b' := false) (d := 114) (by rfl) (by rfl) (by rfl) (by kernel_rfl) (fun v W h => h) (by decide) (fun _ => rfl)
                  case s15 =>
                    exact Grow.step_off (g := 5) (b := true) (b' := false) (d := 114) (by rfl) (by rfl) (by rfl) (by kernel_rfl) (fun v W h => h) (by decide) (fun _ => rfl)
                  case s16 =>
                    exact Grow.step_off (g := 5) (b := true) (b' := false) (d := 114) (by rfl) (by rfl) (by rfl) (by kernel_rfl) (fun v W h => h) (by decide) (fun _ => rfl)
                  case s17 =>
                    exact Grow.step_off (g := 5) (b := true) (b' := false) (d := 114) (by rfl) (by rfl) (by rfl) (by kernel_rfl) (fun v W h => h) (by decide) (fun _ => rfl)
                  case s18 =>
                    refine Grow.step_in (by rfl) (by rfl) ?_
                    intro E W ec eg ef hG hd hu R HR1
                    have e114 : E (.tmp 114) = .bool false := hd 5 114 (by kernel_rfl)
                    have e126 : E (.tmp 126) = undef := hd 17 126 (by kernel_rfl)
                    clear hd hu
                    go_simp
                    exact HR1.out _ _ (Below.refl _ _) rfl
                case gfin =>
                  intro W hG
                  refine Grow.fin_dst (by rfl) ?_
                  rintro _ rfl
                  refine Grow.fin_dst (by rfl) ?_
                  rintro _ rfl
                  refine Grow.fin_dst (by rfl) ?_
                  rintro _ rfl
                  refine Grow.fin_dst (by rfl) ?_
                  rintro _ rfl
                  refine Grow.fin_dst (by rfl) ?_
                  rintro _ rfl
                  refine Grow.fin_dst (by rfl) ?_
                  rintro _ rfl
                  refine Grow.fin_dst (by rfl) ?_
                  rintro _ rfl
                  refine Grow.fin_dst (by rfl) ?_
                  rintro _ rfl
                  refine Grow.fin_dst (by rfl) ?_
                  rintro _ rfl
                  refine Grow.fin_dst (by rfl) ?_
                  rintro _ rfl
                  refine Grow.fin_dst (by rfl) ?_
                  rintro _ rfl
                  refine Grow.fin_dst (by rfl) ?_
                  rintro _ rfl
                  refine Grow.fin_dst (by rfl) ?_
                  rintro _ rfl
                  refine Grow.fin_dst (by rfl) ?_
                  rintro _ rfl
                  refine Grow.fin_dst (by rfl) ?_
                  rintro _ rfl
                  refine Grow.fin_dst (by rfl) ?_
                  rintro _ rfl
                  refine Grow.fin_dst (by rfl) ?_
                  rintro _ rfl
                  refine Grow.fin_dst (by rfl) ?_
                  rintro _ rfl
                  refine Grow.fin_dst (by rfl) ?_
                  rintro _ rfl
                  simp only [Act.put, List.setIfInBounds_toArray, List.set_cons_zero, List.set_cons_succ]
                  refine Grow.fin_end ?_
                  have HB9 := Lib.hid (Grow.below_of_drew hG)
                  clear hG
                  have hT9 := (H7.out.below H8.out.2).below HB9.out
                  obtain ⟨A9, c9, hv9, hst9⟩ := own_strs hT9.own
                  injection hv9 with e1 e2 e3
                  subst e1 e3
                  have H9 := Lib.hid hT9
                  clear hT9
                  have hs1 := same_any (H8.out.1.below HB9.out) hst9 (by have := HN8.out; have h1 := HR.out.2.2.1; have h2 := HR.out.2.2.2.2; omega)
                  rw [decide_eq_true rfl] at hs1
                  go_wp2_with (go_at_call 25; refine hs1.mono ?_; clear hs1; rintro _ w12 ⟨rfl, hb12⟩; have H12 := Lib.hid (H9.out.below hb12); clear hb12)
                  go_roundw
                  case rel =>
                    first | refine ⟨_, _, _, _, ?_, rfl, rfl, rfl, rfl⟩ | skip
                    unfold RTn; exact ⟨j + 1, p7, dR, MZ, tl, by have h1 := HR.out.2.2.2.1; have h2 := HS.out.2.1; omega, rfl, by simp, by have h1 := HR.out.2.2.1; simp; omega, by have h1 := HP3.out; rwa [show 1 + 300 * j + 300 = 1 + 300 * (j + 1) by omega] at h1, H12.out⟩
                  case measure => simp only [intOf]; have h1 := HR.out.2.2.2.1; omega
              · rw [ht2] at hr8 HP3
                clear ht2
                have hn8 : n8 = tl.length + 1 := by rw [← hr8.len]; simp
                have HN8 := Lib.hid (show n8 ≤ tl.length + 1 by omega)
                have hgt : (tl.length : Int) < (n8 : Int) := by omega
                have H8 := Lib.hid (And.intro hr8 hb8)
                obtain ⟨qr, oR, rfl, hqS, hqr, hcr8⟩ := hr8.row (by omega)
                obtain ⟨Ar, nr, cR, hcx, hyr⟩ := hcr8 tl.length (by omega)
                rw [show (tl ++ [b])[tl.length]?.getD [] = b by simp] at hyr
                have HC : Hid (∀ W, Below w8.drew.heap.size w8.drew W → W.cell? ⟨qr, oR + tl.length, none⟩ = some (.slice Ar nr cR) ∧ (convert 41 9 (.slice Ar nr cR)).run Try.prog W = .ok (.string (st b)) W ∧ W.cell? ⟨q, o + j, none⟩ = some (.slice Ai ni ci) ∧ (convert 41 9 (.slice Ai ni ci)).run Try.prog W = .ok (.string (st b)) W) := Lib.hid fun W hW => by
                  have hW2 : Below w8.heap.size w8 W := Grow.below_of_drew hW
                  have hW3 := ((H7.out.below H8.out.2).below hW2).dsk.bel
                  exact ⟨(hW2.cell (p := ⟨_, _, none⟩) hqr).trans hcx, byt_string (hyr.below hW2), (hW3.cell (p := ⟨_, _, none⟩) HY.out.2.2.1).trans HY.out.2.2.2, byt_string (HY.out.1.below hW3)⟩
                clear hn8 hqS hqr hcr8 hcx hyr hr8 hb8
                refine wp_region_grow (fun W W' => Below W.heap.size W W') (Grow.nth [fun v _ => v = .slice (some ⟨qr, oR, none⟩) n8 c8, fun v _ => v = .int .i64 (n8 : Int), fun v _ => v = .slice At tl.length ct, fun v _ => v = .int .i64 (tl.length : Int), fun v _ => v = .bool true, fun v _ => v = .bool true, fun v _ => v = .slice (some ⟨qr, oR, none⟩) n8 c8, fun v _ => v = .slice At tl.length ct, fun v _ => v = .int .i64 (tl.length : Int), fun v _ => v = .pointer (some ⟨qr, oR + tl.length, none⟩), fun v _ => v = .slice Ar nr cR, fun v _ => v = .string (st b), fun v _ => v = .slice (some ⟨q, o, none⟩) n c, fun v _ => v = .int .i64 (j : Int), fun v _ => v = .pointer (some ⟨q, o + j, none⟩), fun v _ => v = .slice Ai ni ci, fun v _ => v = .string (st b), fun v _ => v = .bool true, fun v _ => v = .bool true]) 145 (by kernel_rfl) (by kernel_rfl) (by rfl) (fun W => Below.refl _ W) (fun _ _ _ h1 h2 => h1.trans (h2.mono h1.size)) (Grow.mono_nth ?gmono) ?gsteps ?gfin
                case gmono => exact ⟨fun _ _ _ h _ => h, fun _ _ _ h _ => h, fun _ _ _ h _ => h, fun _ _ _ h _ => h, fun _ _ _ h _ => h, fun _ _ _ h _ => h, fun _ _ _ h _ => h, fun _ _ _ h _ => h, fun _ _ _ h _ => h, fun _ _ _ h _ => h, fun _ _ _ h _ => h, fun _ _ _ h _ => h, fun _ _ _ h _ => h, fun _ _ _ h _ => h, fun _ _ _ h _ => h, fun _ _ _ h _ => h, fun _ _ _ h _ => h, fun _ _ _ h _ => h, fun _ _ _ h _ => h, trivial⟩
                case gsteps =>
                  show Grow.allBelow _ 19
                  refine And.intro ?_ ?s18
                  refine And.intro ?_ ?s17
                  refine And.intro ?_ ?s16
                  refine And.intro ?_ ?s15
                  refine And.intro ?_ ?s14
                  refine And.intro ?_ ?s13
                  refine And.intro ?_ ?s12
                  refine And.intro ?_ ?s11
                  refine And.intro ?_ ?s10
                  refine And.intro ?_ ?s9
                  refine And.intro ?_ ?s8
                  refine And.intro ?_ ?s7
                  refine And.intro ?_ ?s6
                  refine And.intro ?_ ?s5
                  refine And.intro ?_ ?s4
                  refine And.intro ?_ ?s3
                  refine And.intro ?_ ?s2
                  refine And.intro ?_ ?s1
                  refine And.intro ?_ ?s0
                  exact trivial
                  case s0 =>
                    refine Grow.step_in (by rfl) (by rfl) ?_
                    intro E W ec eg ef hG hd hu R HR1
                    have e17 : E (.tmp 17) = .slice (some ⟨qr, oR, none⟩) n8 c8 := hu 17 (by kernel_rfl)
                    clear hd hu
                    go_simp
                    exact HR1.out _ _ (Below.refl _ _) rfl
                  case s1 =>
                    refine Grow.step_in (by rfl) (by rfl) ?_
                    intro E W ec eg ef hG hd hu R HR1
                    have e109 : E (.tmp 109) = .slice (some ⟨qr, oR, none⟩) n8 c8 := hd 0 109 (by kernel_rfl)
                    clear hd hu
                    go_simp
                    exact HR1.out _ _ (Below.refl _ _) rfl
                  case s2 =>
                    refine Grow.step_in (by rfl) (by rfl) ?_
                    intro E W ec eg ef hG hd hu R HR1
                    have e12 : E (.tmp 12) = .slice At tl.length ct := hu 12 (by kernel_rfl)
                    clear hd hu
                    go_simp
                    exact HR1.out _ _ (Below.refl _ _) rfl
                  case s3 =>
                    refine Grow.step_in (by rfl) (by rfl) ?_
                    intro E W ec eg ef hG hd hu R HR1
                    have e111 : E (.tmp 111) = .slice At tl.length ct := hd 2 111 (by kernel_rfl)
                    clear hd hu
                    go_simp
                    exact HR1.out _ _ (Below.refl _ _) rfl
                  case s4 =>
                    refine Grow.step_in (by rfl) (by rfl) ?_
                    intro E W ec eg ef hG hd hu R HR1
                    have e110 : E (.tmp 110) = .int .i64 (n8 : Int) := hd 1 110 (by kernel_rfl)
                    have e112 : E (.tmp 112) = .int .i64 (tl.length : Int) := hd 3 112 (by kernel_rfl)
                    clear hd hu
                    go_simp
                    exact HR1.out _ _ (Below.refl _ _) rfl
                  case s5 =>
                    refine Grow.step_in (by rfl) (by rfl) ?_
                    intro E W ec eg ef hG hd hu R HR1
                    have e113 : E (.tmp 113) = .bool true := hd 4 113 (by kernel_rfl)
                    clear hd hu
                    go_simp
                    exact HR1.out _ _ (Below.refl _ _) rfl
                  case s6 =>
                    refine Grow.step_on (g := 5) (b := true) (d := 114) (by rfl) (by rfl) (by rfl) (by kernel_rfl) (fun v W h => h) ?_
                    intro E W ec eg ef hG hd hu R HR1
                    have e17 : E (.tmp 17) = .slice (some ⟨qr, oR, none⟩) n8 c8 := hu 17 (by kernel_rfl)
                    clear hd hu
                    go_simp
                    exact HR1.out _ _ (Below.refl _ _) rfl
                  case s7 =>
                    refine Grow.step_on (g := 5) (b := true) (d := 114) (by rfl) (by rfl) (by rfl) (by kernel_rfl) (fun v W h => h) ?_
                    intro E W ec eg ef hG hd hu R HR1
                    have e12 : E (.tmp 12) = .slice At tl.length ct := hu 12 (by kernel_rfl)
                    clear hd hu
                    go_simp
                    exact HR1.out _ _ (Below.refl _ _) rfl
                  case s8 =>
                    refine Grow.step_on (g := 5) (b := true) (d := 114) (by rfl) (by rfl) (by rfl) (by kernel_rfl) (fun v W h => h) ?_
                    intro E W ec eg ef hG hd hu R HR1
                    have e116 : E (.tmp 116) = .slice At tl.length ct := hd 7 116 (by kernel_rfl)
                    clear hd hu
                    go_simp
                    exact HR1.out _ _ (Below.refl _ _) rfl
                  case s9 =>
                    refine Grow.step_on (g := 5) (b := true) (d := 114) (by rfl) (by rfl) (by rfl) (by kernel_rfl) (fun v W h => h) ?_
                    intro E W ec eg ef hG hd hu R HR1
                    have e115 : E (.tmp 115) = .slice (some ⟨qr, oR, none⟩) n8 c8 := hd 6 115 (by kernel_rfl)
                    have e117 : E (.tmp 117) = .int .i64 (tl.length : Int) := hd 8 117 (by kernel_rfl)
                    clear hd hu
                    go_simp
                    first | exact HR1.out _ _ (Below.refl _ _) rfl | (rw [if_pos ⟨by omega, by omega⟩]; exact HR1.out _ _ (Below.refl _ _) rfl) | (rw [if_pos (by omega)]; exact HR1.out _ _ (Below.refl _ _) rfl)
                  case s10 =>
                    refine Grow.step_on (g := 5) (b := true) (d := 114) (by rfl) (by rfl) (by rfl) (by kernel_rfl) (fun v W h => h) ?_
                    intro E W ec eg ef hG hd hu R HR1
                    have e118 : E (.tmp 118) = .pointer (some ⟨qr, oR + tl.length, none⟩) := hd 9 118 (by kernel_rfl)
                    clear hd hu
                    obtain ⟨k1, k2, k3, k4⟩ := HC.out W hG
                    go_simp
                    first | exact HR1.out _ _ (Below.refl _ _) rfl | (rw [if_pos ⟨by omega, by omega⟩]; exact HR1.out _ _ (Below.refl _ _) rfl)
                  case s11 =>
                    refine Grow.step_on (g := 5) (b := true) (d := 114) (by rfl) (by rfl) (by rfl) (by kernel_rfl) (fun v W h => h) ?_
                    intro E W ec eg ef hG hd hu R HR1
                    have e119 : E (.tmp 119) = .slice Ar nr cR := hd 10 119 (by kernel_rfl)
                    clear hd hu
                    obtain ⟨k1, k2, k3, k4⟩ := HC.out W hG
                    go_simp
                    first | exact HR1.out _ _ (Below.refl _ _) rfl | (rw [if_pos ⟨by omega, by omega⟩]; exact HR1.out _ _ (Below.refl _ _) rfl)
                  case s12 =>
                    refine Grow.step_on (g := 5) (b := true) (d := 114) (by rfl) (by rfl) (by rfl) (by kernel_rfl) (fun v W h => h) ?_
                    intro E W ec eg ef hG hd hu R HR1
                    have e0 : E (.tmp 0) = .slice (some ⟨q, o, none⟩) n c := hu 0 (by kernel_rfl)
                    clear hd hu
                    go_simp
                    exact HR1.out _ _ (Below.refl _ _) rfl
                  case s13 =>
                    refine Grow.step_on (g := 5) (b := true) (d := 114) (by rfl) (by rfl) (by rfl) (by kernel_rfl) (fun v W h => h) ?_
                    intro E W ec eg ef hG hd hu R HR1
                    have e13 : E (.tmp 13) = .int .i64 (j : Int) := hu 13 (by kernel_rfl)
                    clear hd hu
                    go_simp
                    exact HR1.out _ _ (Below.refl _ _) rfl
                  case s14 =>
                    refine Grow.step_on (g := 5) (b := true) (d := 114) (by rfl) (by rfl) (by rfl) (by kernel_rfl) (fun v W h => h) ?_
                    intro E W ec eg ef hG hd hu R HR1
                    have e121 : E (.tmp 121) = .slice (some ⟨q, o, none⟩) n c := hd 12 121 (by kernel_rfl)
                    have e122 : E (.tmp 122) = .int .i64 (j : Int) := hd 13 122 (by kernel_rfl)
                    clear hd hu
                    go_simp
                    first | exact HR1.out _ _ (Below.refl _ _) rfl | (rw [if_pos ⟨by omega, by omega⟩]; exact HR1.out _ _ (Below.refl _ _) rfl) | (rw [if_pos (by omega)]; exact HR1.out _ _ (Below.refl _ _) rfl)
                  case s15 =>
                    refine Grow.step_on (g := 5) (b := true) (d := 114) (by rfl) (by rfl) (by rfl) (by kernel_rfl) (fun v W h => h) ?_
                    intro E W ec eg ef hG hd hu R HR1
                    have e123 : E (.tmp 123) = .pointer (some ⟨q, o + j, none⟩) := hd 14 123 (by kernel_rfl)
                    clear hd hu
                    obtain ⟨k1, k2, k3, k4⟩ := HC.out W hG
                    go_simp
                    first | exact HR1.out _ _ (Below.refl _ _) rfl | (rw [if_pos ⟨by omega, by omega⟩]; exact HR1.out _ _ (Below.refl _ _) rfl)
                  case s16 =>
                    refine Grow.step_on (g := 5) (b := true) (d := 114) (by rfl) (by rfl) (by rfl) (by kernel_rfl) (fun v W h => h) ?_
                    intro E W ec eg ef hG hd hu R HR1
                    have e124 : E (.tmp 124) = .slice Ai ni ci := hd 15 124 (by kernel_rfl)
                    clear hd hu
                    obtain ⟨k1, k2, k3, k4⟩ := HC.out W hG
                    go_simp
                    first | exact HR1.out _ _ (Below.refl _ _) rfl | (rw [if_pos ⟨by omega, by omega⟩]; exact HR1.out _ _ (Below.refl _ _) rfl)
                  case s17 =>
                    refine Grow.step_on (g := 5) (b := true) (d := 114) (by rfl) (by rfl) (by rfl) (by kernel_rfl) (fun v W h => h) ?_
                    intro E W ec eg ef hG hd hu R HR1
                    have e120 : E (.tmp 120) = .string (st b) := hd 11 120 (by kernel_rfl)
                    have e125 : E (.tmp 125) = .string (st b) := hd 16 125 (by kernel_rfl)
                    clear hd hu
                    go_simp
                    exact HR1.out _ _ (Below.refl _ _) rfl
                  case s18 =>
                    refine Grow.step_in (by rfl) (by rfl) ?_
                    intro E W ec eg ef hG hd hu R HR1
                    have e114 : E (.tmp 114) = .bool true := hd 5 114 (by kernel_rfl)
                    have e126 : E (.tmp 126) = .bool true := hd 17 126 (by kernel_rfl)
                    clear hd hu
                    go_simp
                    exact HR1.out _ _ (Below.refl _ _) rfl
                case gfin =>
                  intro W hG
                  refine Grow.fin_dst (by rfl) ?_
                  rintro _ rfl
                  refine Grow.fin_dst (by rfl) ?_
                  rintro _ rfl
                  refine Grow.fin_dst (by rfl) ?_
                  rintro _ rfl
                  refine Grow.fin_dst (by rfl) ?_
                  rintro _ rfl
                  refine Grow.fin_dst (by rfl) ?_
                  rintro _ rfl
                  refine Grow.fin_dst (by rfl) ?_
                  rintro _ rfl
                  refine Grow.fin_dst (by rfl) ?_
                  rintro _ rfl
                  refine Grow.fin_dst (by rfl) ?_
                  rintro _ rfl
                  refine Grow.fin_dst (by rfl) ?_
                  rintro _ rfl
                  refine Grow.fin_dst (by rfl) ?_
                  rintro _ rfl
                  refine Grow.fin_dst (by rfl) ?_
                  rintro _ rfl
                  refine Grow.fin_dst (by rfl) ?_
                  rintro _ rfl
                  refine Grow.fin_dst (by rfl) ?_
                  rintro _ rfl
                  refine Grow.fin_dst (by rfl) ?_
                  rintro _ rfl
                  refine Grow.fin_dst (by rfl) ?_
                  rintro _ rfl
                  refine Grow.fin_dst (by rfl) ?_
                  rintro _ rfl
                  refine Grow.fin_dst (by rfl) ?_
                  rintro _ rfl
                  refine Grow.fin_dst (by rfl) ?_
                  rintro _ rfl
                  refine Grow.fin_dst (by rfl) ?_
                  rintro _ rfl
                  simp only [Act.put, List.setIfInBounds_toArray, List.set_cons_zero, List.set_cons_succ]
                  refine Grow.fin_end ?_
                  have HB9 := Lib.hid (Grow.below_of_drew hG)
                  clear hG hgt HC
                  have H9 := Lib.hid ((H7.out.below H8.out.2).below HB9.out)
                  have hcra : W.cell? ⟨q, o + j, none⟩ = some (.slice Ai ni ci) := (H9.out.dsk.bel.cell (p := ⟨_, _, none⟩) HY.out.2.2.1).trans HY.out.2.2.2
                  have hcva : (convert 41 9 (.slice Ai ni ci)).run Try.prog W = .ok (.string (st b)) W := byt_string (HY.out.1.below H9.out.dsk.bel)
                  obtain ⟨i0, hi, hz0, hz1, hz2⟩ := info_parts str_info2
                  have HI := Lib.hid (And.intro hi (And.intro hz0 (And.intro hz1 hz2)))
                  have HL := Lib.hid (show tl.length ≤ 12 by have h1 := HR.out.2.2.1; have h2 := HR.out.2.2.2.2; omega)
                  clear hi hz0 hz1 hz2
                  go_wp2_with (at_builtin; refine wpList_append_own_at _ rfl _ _ 29 rfl m 9 i0 (.string ByteArray.empty) 1 16 Try.underlying29 HI.out.1 HI.out.2.1 HI.out.2.2.1 HI.out.2.2.2 rfl (by decide) _ tl.length (strs tl) rfl (H9.out.own.alloc _) ⟨W.heap.size, 0, none⟩ 1 1 [.string (st b)] rfl rfl (cell_one_new _ _ _) (one_of rfl) (by have h1 := HL.out; unfold maxLen; omega) (by have h1 := HL.out; omega) (by have := H9.out.dsk.top; simp; omega) ?_)
                  intro V11 w11 hown hgrow _ hob
                  have hTa := H9.out.told hown hgrow (by rw [World.size_alloc]; exact hob)
                  have hTR := (((Turned.refl (fun k => m ≤ k ∧ (Value.slice At tl.length ct).ownBlock = some k) W).alloc (.cells #[.string (st b)] 9)).trans (Turned.of_gr (S := fun k => m ≤ k ∧ (Value.slice At tl.length ct).ownBlock = some k) hgrow fun k hk => ⟨(H9.out.own.lt k hk).1, hk⟩) fun _ _ h => h)
                  obtain ⟨g11, cap11, hv11, _, _⟩ := hown.form (by omega)
                  subst hv11
                  have H11 := Lib.hid hTa
                  have HT11 := Lib.hid hTR
                  clear hTa hown hgrow hob hcra hcva hTR
                  have hr11 := (H8.out.1.below HB9.out).turned HT11.out fun k _ h1 h2 => by have := (H7.out.own.lt k h2.2).2; omega
                  obtain ⟨A9, c9, hv9, hst9⟩ := own_strs H11.out.own
                  have hln : (tl ++ [b]).length = tl.length + 1 := by simp
                  rw [hln] at hv9 hst9
                  injection hv9 with e1 e2 e3
                  subst e1 e3
                  clear hln
                  have hs1 := same_any hr11 hst9 (by have := HN8.out; have h1 := HR.out.2.2.1; have h2 := HR.out.2.2.2.2; omega)
                  rw [decide_eq_true rfl] at hs1
                  go_wp2_with (go_at_call 25; refine hs1.mono ?_; clear hs1; rintro _ w12 ⟨rfl, hb12⟩; have H12 := Lib.hid (H11.out.below hb12); clear hb12)
                  go_roundw
                  case rel =>
                    first | refine ⟨_, _, _, _, ?_, rfl, rfl, rfl, rfl⟩ | skip
                    unfold RTn; exact ⟨j + 1, p7, dR, MZ, tl ++ [b], by have h1 := HR.out.2.2.2.1; have h2 := HS.out.2.1; omega, rfl, by simp, by have h1 := HR.out.2.2.1; simp; omega, by have h1 := HP3.out; rwa [show 1 + 300 * j + 300 = 1 + 300 * (j + 1) by omega] at h1, H12.out⟩
                  case measure => simp only [intOf]; have h1 := HR.out.2.2.2.1; omega
        · have hsp' : ¬ (j : Int) < (ns : Int) := by omega
          have HQ := Lib.hid (And.intro HR.out.2.1 HR.out.1)
          clear hsp
          go_upto_region 18 with fail
          have hadd := HQ.out.1.add (HQ.out.2.ok (by have := HR.out.2.2.2.2; omega)) (HY.out.1.below HQ.out.1.dsk.bel) (fun k hk => hk) (by have := HBG.out; omega)
          have hgo := HQ.out.2.go (by have := HR.out.2.2.2.2; omega) b (by rw [HY.out.2.1]; exact HBG.out)
          have herr := HQ.out.2.err (by have := HR.out.2.2.2.2; omega) b (by rw [HY.out.2.1]; exact HBG.out)
          obtain ⟨⟨d2, M2, e2⟩, hAM⟩ : ∃ r, addM d M b = r := ⟨_, rfl⟩
          rw [hAM] at hadd hgo herr
          simp only at hadd hgo herr
          clear hAM
          by_cases he : e2 = 0
          · subst he
            have HP2 := Lib.hid (hgo rfl)
            clear hgo herr
            go_upto_region 20 with (go_at_call 14; refine hadd.mono ?_; clear hadd; rintro _ w5 ⟨rfl, hT5⟩)
            have H5 := Lib.hid hT5
            clear hT5 hcr
            have hcra : w5.cell? ⟨q, o + j, none⟩ = some (.slice Ai ni ci) := (H5.out.dsk.bel.cell (p := ⟨_, _, none⟩) HY.out.2.2.1).trans HY.out.2.2.2
            have hcva : (convert 41 9 (.slice Ai ni ci)).run Try.prog w5 = .ok (.string (st b)) w5 := byt_string (HY.out.1.below H5.out.dsk.bel)
            obtain ⟨i0, hi, hz0, hz1, hz2⟩ := info_parts str_info2
            have HI := Lib.hid (And.intro hi (And.intro hz0 (And.intro hz1 hz2)))
            have HL := Lib.hid (show tl.length ≤ 12 by have h1 := HR.out.2.2.1; have h2 := HR.out.2.2.2.2; omega)
            clear hi hz0 hz1 hz2
            go_wp2_with (at_builtin; refine wpList_append_own_at _ rfl _ _ 29 rfl m 9 i0 (.string ByteArray.empty) 1 16 Try.underlying29 HI.out.1 HI.out.2.1 HI.out.2.2.1 HI.out.2.2.2 rfl (by decide) _ tl.length (strs tl) rfl (H5.out.own.alloc _) ⟨w5.heap.size, 0, none⟩ 1 1 [.string (st b)] rfl rfl (cell_one_new _ _ _) (one_of rfl) (by have h1 := HL.out; unfold maxLen; omega) (by have h1 := HL.out; omega) (by have := H5.out.dsk.top; simp; omega) ?_)
            intro V6 w6 hown hgrow _ hob
            have hTa := H5.out.told hown hgrow (by rw [World.size_alloc]; exact hob)
            have hTR := (((Turned.refl (fun k => m ≤ k ∧ (Value.slice At tl.length ct).ownBlock = some k) w5).alloc (.cells #[.string (st b)] 9)).trans (Turned.of_gr (S := fun k => m ≤ k ∧ (Value.slice At tl.length ct).ownBlock = some k) hgrow fun k hk => ⟨(H5.out.own.lt k hk).1, hk⟩) fun _ _ h => h)
            obtain ⟨g6, cap6, hv6, _, _⟩ := hown.form (by omega)
            subst hv6
            have H6 := Lib.hid hTa
            have HT6 := Lib.hid hTR
            clear hTa hown hgrow hob hcra hcva hTR
            go_wp2_with fail
            go_roundw
            case rel =>
              first | refine ⟨_, _, _, _, ?_, rfl, rfl, rfl, rfl⟩ | skip
              unfold RTn; exact ⟨j + 1, p, d2, M2, tl ++ [b], by have h1 := HR.out.2.2.2.1; have h2 := HS.out.2.1; omega, rfl, by simp, by have h1 := HR.out.2.2.1; simp; exact h1, by have h1 := HP2.out; rwa [show 1 + 300 * j + 300 = 1 + 300 * (j + 1) by omega] at h1, H6.out⟩
            case measure => simp only [intOf]; have h1 := HR.out.2.2.2.1; omega
          · obtain ⟨h30, t2, ht2, hP2⟩ := herr he
            have HP2 := Lib.hid hP2
            clear hgo herr hP2
            rcases h30 with rfl | rfl
            · clear he
              go_upto_region 23 with (go_at_call 14; refine hadd.mono ?_; clear hadd; rintro _ w5 ⟨rfl, hT5⟩)
              have hrs := hT5.restart
              clear hT5 hcr
              go_upto_region 24 with (go_at_call 22; refine hrs.mono ?_; clear hrs; rintro _ w6 ⟨rfl, hT6⟩)
              have hP2 := HP2.out
              have hop := hT6.dsk.open 0 40 (by rw [hP2.len]; omega) (by omega) rfl (by rw [hP2.len]; omega)
              obtain ⟨MZ, hMZ⟩ : ∃ MZ, MZ = openM (blocksOf (restartM d2).l ((0 : Nat) : Int) ((40 : Nat) : Int)) ((0 : Nat) : Int) ((40 : Nat) : Int) := ⟨_, rfl⟩
              rw [← hMZ] at hop hP2
              generalize restartM d2 = dR at *
              have HP3 := Lib.hid hP2
              have H6 := Lib.hid hT6
              clear hP2 HP2 hMZ hT6
              go_upto_region 27 with (go_at_call 12; refine hop.mono ?_; clear hop; rintro _ w7 ⟨p7, rfl, hl7, hd7, hb7⟩)
              have hT7 := H6.out.again hd7 hl7 hb7
              have hrc := wrecords_any hT7.lg (HP3.out.ok (by have := HR.out.2.2.2.2; omega))
              have H7 := Lib.hid hT7
              clear hl7 hd7 hb7 hT7
              go_upto_region 28 with (go_at_call 26; refine hrc.mono ?_; clear hrc; rintro _ w8 ⟨A8, n8, c8, rfl, hr8, hb8⟩)
              rw [HP3.out.recs] at hr8
              rcases ht2 with ht2 | ht2
              · rw [ht2] at hr8 HP3
                clear ht2
                obtain rfl : n8 = tl.length := hr8.len.symm
                have HN8 := Lib.hid (Nat.le_refl tl.length)
                have H8 := Lib.hid (And.intro hr8 hb8)
                clear hr8 hb8
                refine wp_region_grow (fun W W' => Below W.heap.size W W') (Grow.nth [fun v _ => v = .slice A8 tl.length c8, fun v _ => v = .int .i64 (tl.length : Int), fun v _ => v = .slice At tl.length ct, fun v _ => v = .int .i64 (tl.length : Int), fun v _ => v = .bool false, fun v _ => v = .bool false, fun v _ => v = undef, fun v _ => v = undef, fun v _ => v = undef, fun v _ => v = undef, fun v _ => v = undef, fun v _ => v = undef, fun v _ => v = undef, fun v _ => v = undef, fun v _ => v = undef, fun v _ => v = undef, fun v _ => v = undef, fun v _ => v = undef, fun v _ => v = .bool false]) 145 (by kernel_rfl) (by kernel_rfl) (by rfl) (fun W => Below.refl _ W) (fun _ _ _ h1 h2 => h1.trans (h2.mono h1.size)) (Grow.mono_nth ?gmono) ?gsteps ?gfin
                case gmono => exact ⟨fun _ _ _ h _ => h, fun _ _ _ h _ => h, fun _ _ _ h _ => h, fun _ _ _ h _ => h, fun _ _ _ h _ => h, fun _ _ _ h _ => h, fun _ _ _ h _ => h, fun _ _ _ h _ => h, fun _ _ _ h _ => h, fun _ _ _ h _ => h, fun _ _ _ h _ => h, fun _ _ _ h _ => h, fun _ _ _ h _ => h, fun _ _ _ h _ => h, fun _ _ _ h _ => h, fun _ _ _ h _ => h, fun _ _ _ h _ => h, fun _ _ _ h _ => h, fun _ _ _ h _ => h, trivial⟩
                case gsteps =>
                  show Grow.allBelow _ 19
                  refine And.intro ?_ ?s18
                  refine And.intro ?_ ?s17
                  refine And.intro ?_ ?s16
                  refine And.intro ?_ ?s15
                  refine And.intro ?_ ?s14
                  refine And.intro ?_ ?s13
                  refine And.intro ?_ ?s12
                  refine And.intro ?_ ?s11
                  refine And.intro ?_ ?s10
                  refine And.intro ?_ ?s9
                  refine And.intro ?_ ?s8
                  refine And.intro ?_ ?s7
                  refine And.intro ?_ ?s6
                  refine And.intro ?_ ?s5
                  refine And.intro ?_ ?s4
                  refine And.intro ?_ ?s3
                  refine And.intro ?_ ?s2
                  refine And.intro ?_ ?s1
                  refine And.intro ?_ ?s0
                  exact trivial
                  case s0 =>
                    refine Grow.step_in (by rfl) (by rfl) ?_
                    intro E W ec eg ef hG hd hu R HR1
                    have e17 : E (.tmp 17) = .slice A8 tl.length c8 := hu 17 (by kernel_rfl)
                    clear hd hu
                    go_simp
                    exact HR1.out _ _ (Below.refl _ _) rfl
                  case s1 =>
                    refine Grow.step_in (by rfl) (by rfl) ?_
                    intro E W ec eg ef hG hd hu R HR1
                    have e109 : E (.tmp 109) = .slice A8 tl.length c8 := hd 0 109 (by kernel_rfl)
                    clear hd hu
                    go_simp
                    exact HR1.out _ _ (Below.refl _ _) rfl
                  case s2 =>
                    refine Grow.step_in (by rfl) (by rfl) ?_
                    intro E W ec eg ef hG hd hu R HR1
                    have e12 : E (.tmp 12) = .slice At tl.length ct := hu 12 (by kernel_rfl)
                    clear hd hu
                    go_simp
                    exact HR1.out _ _ (Below.refl _ _) rfl
                  case s3 =>
                    refine Grow.step_in (by rfl) (by rfl) ?_
                    intro E W ec eg ef hG hd hu R HR1
                    have e111 : E (.tmp 111) = .slice At tl.length ct := hd 2 111 (by kernel_rfl)
                    clear hd hu
                    go_simp
                    exact HR1.out _ _ (Below.refl _ _) rfl
                  case s4 =>
                    refine Grow.step_in (by rfl) (by rfl) ?_
                    intro E W ec eg ef hG hd hu R HR1
                    have e110 : E (.tmp 110) = .int .i64 (tl.length : Int) := hd 1 110 (by kernel_rfl)
                    have e112 : E (.tmp 112) = .int .i64 (tl.length : Int) := hd 3 112 (by kernel_rfl)
                    clear hd hu
                    go_simp
                    exact HR1.out _ _ (Below.refl _ _) rfl
                  case s5 =>
                    refine Grow.step_in (by rfl) (by rfl) ?_
                    intro E W ec eg ef hG hd hu R HR1
                    have e113 : E (.tmp 113) = .bool false := hd 4 113 (by kernel_rfl)
                    clear hd hu
                    go_simp
                    exact HR1.out _ _ (Below.refl _ _) rfl
                  case s6 =>
                    exact Grow.step_off (g := 5) (b := true) (b' := false) (d := 114) (by rfl) (by rfl) (by rfl) (by kernel_rfl) (fun v W h => h) (by decide) (fun _ => rfl)
                  case s7 =>
                    exact Grow.step_off (g := 5) (b := true) (b' := false) (d := 114) (by rfl) (by rfl) (by rfl) (by kernel_rfl) (fun v W h => h) (by decide) (fun _ => rfl)
                  case s8 =>
                    exact Grow.step_off (g := 5) (b := true) (b' := false) (d := 114) (by rfl) (by rfl) (by rfl) (by kernel_rfl) (fun v W h => h) (by decide) (fun _ => rfl)
                  case s9 =>
                    exact Grow.step_off (g := 5) (b := true) (b' := false) (d := 114) (by rfl) (by rfl) (by rfl) (by kernel_rfl) (fun v W h => h) (by decide) (fun _ => rfl)
                  case s10 =>
                    exact Grow.step_off (g := 5) (b := true) (b' := false) (d := 114) (by rfl) (by rfl) (by rfl) (by kernel_rfl) (fun v W h => h) (by decide) (fun _ => rfl)
                  case s11 =>
                    exact Grow.step_off (g := 5) (b := true) (b' := false) (d := 114) (by rfl) (by rfl) (by rfl) (by kernel_rfl) (fun v W h => h) (by decide) (fun _ => rfl)
                  case s12 =>
                    exact Grow.step_off (g := 5) (b := true) (b' := false) (d := 114) (by rfl) (by rfl) (by rfl) (by kernel_rfl) (fun v W h => h) (by decide) (fun _ => rfl)
                  case s13 =>
                    exact Grow.step_off (g := 5) (b := true) (b' := false) (d := 114) (by rfl) (by rfl) (by rfl) (by kernel_rfl) (fun v W h => h) (by decide) (fun _ => rfl)
                  case s14 =>
                    exact Grow.step_off (g := 5) (b := true) (b' := false) (d := 114) (by rfl) (by rfl) (by rfl) (by kernel_rfl) (fun v W h => h) (by decide) (fun _ => rfl)
                  case s15 =>
                    exact Grow.step_off (g := 5) (b := true) (b' := false) (d := 114) (by rfl) (by rfl) (by rfl) (by kernel_rfl) (fun v W h => h) (by decide) (fun _ => rfl)
                  case s16 =>
                    exact Grow.step_off (g := 5) (b := true) (b' := false) (d := 114) (by rfl) (by rfl) (by rfl) (by kernel_rfl) (fun v W h => h) (by decide) (fun _ => rfl)
                  case s17 =>
                    exact Grow.step_off (g := 5) (b := true) (b' := false) (d := 114) (by rfl) (by rfl) (by rfl) (by kernel_rfl) (fun v W h => h) (by decide) (fun _ => rfl)
                  case s18 =>
                    refine Grow.step_in (by rfl) (by rfl) ?_
                    intro E W ec eg ef hG hd hu R HR1
                    have e114 : E (.tmp 114) = .bool false := hd 5 114 (by kernel_rfl)
                    have e126 : E (.tmp 126) = undef := hd 17 126 (by kernel_rfl)
                    clear hd hu
                    go_simp
                    exact HR1.out _ _ (Below.refl _ _) rfl
                case gfin =>
                  intro W hG
                  refine Grow.fin_dst (by rfl) ?_
                  rintro _ rfl
                  refine Grow.fin_dst (by rfl) ?_
                  rintro _ rfl
                  refine Grow.fin_dst (by rfl) ?_
                  rintro _ rfl
                  refine Grow.fin_dst (by rfl) ?_
                  rintro _ rfl
                  refine Grow.fin_dst (by rfl) ?_
                  rintro _ rfl
                  refine Grow.fin_dst (by rfl) ?_
                  rintro _ rfl
                  refine Grow.fin_dst (by rfl) ?_
                  rintro _ rfl
                  refine Grow.fin_dst (by rfl) ?_
                  rintro _ rfl
                  refine Grow.fin_dst (by rfl) ?_
                  rintro _ rfl
                  refine Grow.fin_dst (by rfl) ?_
                  rintro _ rfl
                  refine Grow.fin_dst (by rfl) ?_
                  rintro _ rfl
                  refine Grow.fin_dst (by rfl) ?_
                  rintro _ rfl
                  refine Grow.fin_dst (by rfl) ?_
                  rintro _ rfl
                  refine Grow.fin_dst (by rfl) ?_
                  rintro _ rfl
                  refine Grow.fin_dst (by rfl) ?_
                  rintro _ rfl
                  refine Grow.fin_dst (by rfl) ?_
                  rintro _ rfl
                  refine Grow.fin_dst (by rfl) ?_
                  rintro _ rfl
                  refine Grow.fin_dst (by rfl) ?_
                  rintro _ rfl
                  refine Grow.fin_dst (by rfl) ?_
                  rintro _ rfl
                  simp only [Act.put, List.setIfInBounds_toArray, List.set_cons_zero, List.set_cons_succ]
                  refine Grow.fin_end ?_
                  have HB9 := Lib.hid (Grow.below_of_drew hG)
                  clear hG
                  have hT9 := (H7.out.below H8.out.2).below HB9.out
                  obtain ⟨A9, c9, hv9, hst9⟩ := own_strs hT9.own
                  injection hv9 with e1 e2 e3
                  subst e1 e3
                  have H9 := Lib.hid hT9
                  clear hT9
                  have hs1 := same_any (H8.out.1.below HB9.out) hst9 (by have := HN8.out; have h1 := HR.out.2.2.1; have h2 := HR.out.2.2.2.2; omega)
                  rw [decide_eq_true rfl] at hs1
                  go_wp2_with (go_at_call 25; refine hs1.mono ?_; clear hs1; rintro _ w12 ⟨rfl, hb12⟩; have H12 := Lib.hid (H9.out.below hb12); clear hb12)
                  go_roundw
                  case rel =>
                    first | refine ⟨_, _, _, _, ?_, rfl, rfl, rfl, rfl⟩ | skip
                    unfold RTn; exact ⟨j + 1, p7, dR, MZ, tl, by have h1 := HR.out.2.2.2.1; have h2 := HS.out.2.1; omega, rfl, by simp, by have h1 := HR.out.2.2.1; simp; omega, by have h1 := HP3.out; rwa [show 1 + 300 * j + 300 = 1 + 300 * (j + 1) by omega] at h1, H12.out⟩
                  case measure => simp only [intOf]; have h1 := HR.out.2.2.2.1; omega
              · rw [ht2] at hr8 HP3
                clear ht2
                have hn8 : n8 = tl.length + 1 := by rw [← hr8.len]; simp
                have HN8 := Lib.hid (show n8 ≤ tl.length + 1 by omega)
                have hgt : (tl.length : Int) < (n8 : Int) := by omega
                have H8 := Lib.hid (And.intro hr8 hb8)
                obtain ⟨qr, oR, rfl, hqS, hqr, hcr8⟩ := hr8.row (by omega)
                obtain ⟨Ar, nr, cR, hcx, hyr⟩ := hcr8 tl.length (by omega)
                rw [show (tl ++ [b])[tl.length]?.getD [] = b by simp] at hyr
                have HC : Hid (∀ W, Below w8.drew.heap.size w8.drew W → W.cell? ⟨qr, oR + tl.length, none⟩ = some (.slice Ar nr cR) ∧ (convert 41 9 (.slice Ar nr cR)).run Try.prog W = .ok (.string (st b)) W ∧ W.cell? ⟨q, o + j, none⟩ = some (.slice Ai ni ci) ∧ (convert 41 9 (.slice Ai ni ci)).run Try.prog W = .ok (.string (st b)) W) := Lib.hid fun W hW => by
                  have hW2 : Below w8.heap.size w8 W := Grow.below_of_drew hW
                  have hW3 := ((H7.out.below H8.out.2).below hW2).dsk.bel
                  exact ⟨(hW2.cell (p := ⟨_, _, none⟩) hqr).trans hcx, byt_string (hyr.below hW2), (hW3.cell (p := ⟨_, _, none⟩) HY.out.2.2.1).trans HY.out.2.2.2, byt_string (HY.out.1.below hW3)⟩
                clear hn8 hqS hqr hcr8 hcx hyr hr8 hb8
                refine wp_region_grow (fun W W' => Below W.heap.size W W') (Grow.nth [fun v _ => v = .slice (some ⟨qr, oR, none⟩) n8 c8, fun v _ => v = .int .i64 (n8 : Int), fun v _ => v = .slice At tl.length ct, fun v _ => v = .int .i64 (tl.length : Int), fun v _ => v = .bool true, fun v _ => v = .bool true, fun v _ => v = .slice (some ⟨qr, oR, none⟩) n8 c8, fun v _ => v = .slice At tl.length ct, fun v _ => v = .int .i64 (tl.length : Int), fun v _ => v = .pointer (some ⟨qr, oR + tl.length, none⟩), fun v _ => v = .slice Ar nr cR, fun v _ => v = .string (st b), fun v _ => v = .slice (some ⟨q, o, none⟩) n c, fun v _ => v = .int .i64 (j : Int), fun v _ => v = .pointer (some ⟨q, o + j, none⟩), fun v _ => v = .slice Ai ni ci, fun v _ => v = .string (st b), fun v _ => v = .bool true, fun v _ => v = .bool true]) 145 (by kernel_rfl) (by kernel_rfl) (by rfl) (fun W => Below.refl _ W) (fun _ _ _ h1 h2 => h1.trans (h2.mono h1.size)) (Grow.mono_nth ?gmono) ?gsteps ?gfin
                case gmono => exact ⟨fun _ _ _ h _ => h, fun _ _ _ h _ => h, fun _ _ _ h _ => h, fun _ _ _ h _ => h, fun _ _ _ h _ => h, fun _ _ _ h _ => h, fun _ _ _ h _ => h, fun _ _ _ h _ => h, fun _ _ _ h _ => h, fun _ _ _ h _ => h, fun _ _ _ h _ => h, fun _ _ _ h _ => h, fun _ _ _ h _ => h, fun _ _ _ h _ => h, fun _ _ _ h _ => h, fun _ _ _ h _ => h, fun _ _ _ h _ => h, fun _ _ _ h _ => h, fun _ _ _ h _ => h, trivial⟩
                case gsteps =>
                  show Grow.allBelow _ 19
                  refine And.intro ?_ ?s18
                  refine And.intro ?_ ?s17
                  refine And.intro ?_ ?s16
                  refine And.intro ?_ ?s15
                  refine And.intro ?_ ?s14
                  refine And.intro ?_ ?s13
                  refine And.intro ?_ ?s12
                  refine And.intro ?_ ?s11
                  refine And.intro ?_ ?s10
                  refine And.intro ?_ ?s9
                  refine And.intro ?_ ?s8
                  refine And.intro ?_ ?s7
                  refine And.intro ?_ ?s6
                  refine And.intro ?_ ?s5
                  refine And.intro ?_ ?s4
                  refine And.intro ?_ ?s3
                  refine And.intro ?_ ?s2
                  refine And.intro ?_ ?s1
                  refine And.intro ?_ ?s0
                  exact trivial
                  case s0 =>
                    refine Grow.step_in (by rfl) (by rfl) ?_
                    intro E W ec eg ef hG hd hu R HR1
                    have e17 : E (.tmp 17) = .slice (some ⟨qr, oR, none⟩) n8 c8 := hu 17 (by kernel_rfl)
                    clear hd hu
                    go_simp
                    exact HR1.out _ _ (Below.refl _ _) rfl
                  case s1 =>
                    refine Grow.step_in (by rfl) (by rfl) ?_
                    intro E W ec eg ef hG hd hu R HR1
                    have e109 : E (.tmp 109) = .slice (some ⟨qr, oR, none⟩) n8 c8 := hd 0 109 (by kernel_rfl)
                    clear hd hu
                    go_simp
                    exact HR1.out _ _ (Below.refl _ _) rfl
                  case s2 =>
                    refine Grow.step_in (by rfl) (by rfl) ?_
                    intro E W ec eg ef hG hd hu R HR1
                    have e12 : E (.tmp 12) = .slice At tl.length ct := hu 12 (by kernel_rfl)
                    clear hd hu
                    go_simp
                    exact HR1.out _ _ (Below.refl _ _) rfl
                  case s3 =>
                    refine Grow.step_in (by rfl) (by rfl) ?_
                    intro E W ec eg ef hG hd hu R HR1
                    have e111 : E (.tmp 111) = .slice At tl.length ct := hd 2 111 (by kernel_rfl)
                    clear hd hu
                    go_simp
                    exact HR1.out _ _ (Below.refl _ _) rfl
                  case s4 =>
                    refine Grow.step_in (by rfl) (by rfl) ?_
                    intro E W ec eg ef hG hd hu R HR1
                    have e110 : E (.tmp 110) = .int .i64 (n8 : Int) := hd 1 110 (by kernel_rfl)
                    have e112 : E (.tmp 112) = .int .i64 (tl.length : Int) := hd 3 112 (by kernel_rfl)
                    clear hd hu
                    go_simp
                    exact HR1.out _ _ (Below.refl _ _) rfl
                  case s5 =>
                    refine Grow.step_in (by rfl) (by rfl) ?_
                    intro E W ec eg ef hG hd hu R HR1
                    have e113 : E (.tmp 113) = .bool true := hd 4 113 (by kernel_rfl)
                    clear hd hu
                    go_simp
                    exact HR1.out _ _ (Below.refl _ _) rfl
                  case s6 =>
                    refine Grow.step_on (g := 5) (b := true) (d := 114) (by rfl) (by rfl) (by rfl) (by kernel_rfl) (fun v W h => h) ?_
                    intro E W ec eg ef hG hd hu R HR1
                    have e17 : E (.tmp 17) = .slice (some ⟨qr, oR, none⟩) n8 c8 := hu 17 (by kernel_rfl)
                    clear hd hu
                    go_simp
                    exact HR1.out _ _ (Below.refl _ _) rfl
                  case s7 =>
                    refine Grow.step_on (g := 5) (b := true) (d := 114) (by rfl) (by rfl) (by rfl) (by kernel_rfl) (fun v W h => h) ?_
                    intro E W ec eg ef hG hd hu R HR1
                    have e12 : E (.tmp 12) = .slice At tl.length ct := hu 12 (by kernel_rfl)
                    clear hd hu
                    go_simp
                    exact HR1.out _ _ (Below.refl _ _) rfl
                  case s8 =>
                    refine Grow.step_on (g := 5) (b := true) (d := 114) (by rfl) (by rfl) (by rfl) (by kernel_rfl) (fun v W h => h) ?_
                    intro E W ec eg ef hG hd hu R HR1
                    have e116 : E (.tmp 116) = .slice At tl.length ct := hd 7 116 (by kernel_rfl)
                    clear hd hu
                    go_simp
                    exact HR1.out _ _ (Below.refl _ _) rfl
                  case s9 =>
                    refine Grow.step_on (g := 5) (b := true) (d := 114) (by rfl) (by rfl) (by rfl) (by kernel_rfl) (fun v W h => h) ?_
                    intro E W ec eg ef hG hd hu R HR1
                    have e115 : E (.tmp 115) = .slice (some ⟨qr, oR, none⟩) n8 c8 := hd 6 115 (by kernel_rfl)
                    have e117 : E (.tmp 117) = .int .i64 (tl.length : Int) := hd 8 117 (by kernel_rfl)
                    clear hd hu
                    go_simp
                    first | exact HR1.out _ _ (Below.refl _ _) rfl | (rw [if_pos ⟨by omega, by omega⟩]; exact HR1.out _ _ (Below.refl _ _) rfl) | (rw [if_pos (by omega)]; exact HR1.out _ _ (Below.refl _ _) rfl)
                  case s10 =>
                    refine Grow.step_on (g := 5) (b := true) (d := 114) (by rfl) (by rfl) (by rfl) (by kernel_rfl) (fun v W h => h) ?_
                    intro E W ec eg ef hG hd hu R HR1
                    have e118 : E (.tmp 118) = .pointer (some ⟨qr, oR + tl.length, none⟩) := hd 9 118 (by kernel_rfl)
                    clear hd hu
                    obtain ⟨k1, k2, k3, k4⟩ := HC.out W hG
                    go_simp
                    first | exact HR1.out _ _ (Below.refl _ _) rfl | (rw [if_pos ⟨by omega, by omega⟩]; exact HR1.out _ _ (Below.refl _ _) rfl)
                  case s11 =>
                    refine Grow.step_on (g := 5) (b := true) (d := 114) (by rfl) (by rfl) (by rfl) (by kernel_rfl) (fun v W h => h) ?_
                    intro E W ec eg ef hG hd hu R HR1
                    have e119 : E (.tmp 119) = .slice Ar nr cR := hd 10 119 (by kernel_rfl)
                    clear hd hu
                    obtain ⟨k1, k2, k3, k4⟩ := HC.out W hG
                    go_simp
                    first | exact HR1.out _ _ (Below.refl _ _) rfl | (rw [if_pos ⟨by omega, by omega⟩]; exact HR1.out _ _ (Below.refl _ _) rfl)
                  case s12 =>
                    refine Grow.step_on (g := 5) (b := true) (d := 114) (by rfl) (by rfl) (by rfl) (by kernel_rfl) (fun v W h => h) ?_
                    intro E W ec eg ef hG hd hu R HR1
                    have e0 : E (.tmp 0) = .slice (some ⟨q, o, none⟩) n c := hu 0 (by kernel_rfl)
                    clear hd hu
                    go_simp
                    exact HR1.out _ _ (Below.refl _ _) rfl
                  case s13 =>
                    refine Grow.step_on (g := 5) (b := true) (d := 114) (by rfl) (by rfl) (by rfl) (by kernel_rfl) (fun v W h => h) ?_
                    intro E W ec eg ef hG hd hu R HR1
                    have e13 : E (.tmp 13) = .int .i64 (j : Int) := hu 13 (by kernel_rfl)
                    clear hd hu
                    go_simp
                    exact HR1.out _ _ (Below.refl _ _) rfl
                  case s14 =>
                    refine Grow.step_on (g := 5) (b := true) (d := 114) (by rfl) (by rfl) (by rfl) (by kernel_rfl) (fun v W h => h) ?_
                    intro E W ec eg ef hG hd hu R HR1
                    have e121 : E (.tmp 121) = .slice (some ⟨q, o, none⟩) n c := hd 12 121 (by kernel_rfl)
                    have e122 : E (.tmp 122) = .int .i64 (j : Int) := hd 13 122 (by kernel_rfl)
                    clear hd hu
                    go_simp
                    first | exact HR1.out _ _ (Below.refl _ _) rfl | (rw [if_pos ⟨by omega, by omega⟩]; exact HR1.out _ _ (Below.refl _ _) rfl) | (rw [if_pos (by omega)]; exact HR1.out _ _ (Below.refl _ _) rfl)
                  case s15 =>
                    refine Grow.step_on (g := 5) (b := true) (d := 114) (by rfl) (by rfl) (by rfl) (by kernel_rfl) (fun v W h => h) ?_
                    intro E W ec eg ef hG hd hu R HR1
                    have e123 : E (.tmp 123) = .pointer (some ⟨q, o + j, none⟩) := hd 14 123 (by kernel_rfl)
                    clear hd hu
                    obtain ⟨k1, k2, k3, k4⟩ := HC.out W hG
                    go_simp
                    first | exact HR1.out _ _ (Below.refl _ _) rfl | (rw [if_pos ⟨by omega, by omega⟩]; exact HR1.out _ _ (Below.refl _ _) rfl)
                  case s16 =>
                    refine Grow.step_on (g := 5) (b := true) (d := 114) (by rfl) (by rfl) (by rfl) (by kernel_rfl) (fun v W h => h) ?_
                    intro E W ec eg ef hG hd hu R HR1
                    have e124 : E (.tmp 124) = .slice Ai ni ci := hd 15 124 (by kernel_rfl)
                    clear hd hu
                    obtain ⟨k1, k2, k3, k4⟩ := HC.out W hG
                    go_simp
                    first | exact HR1.out _ _ (Below.refl _ _) rfl | (rw [if_pos ⟨by omega, by omega⟩]; exact HR1.out _ _ (Below.refl _ _) rfl)
                  case s17 =>
                    refine Grow.step_on (g := 5) (b := true) (d := 114) (by rfl) (by rfl) (by rfl) (by kernel_rfl) (fun v W h => h) ?_
                    intro E W ec eg ef hG hd hu R HR1
                    have e120 : E (.tmp 120) = .string (st b) := hd 11 120 (by kernel_rfl)
                    have e125 : E (.tmp 125) = .string (st b) := hd 16 125 (by kernel_rfl)
                    clear hd hu
                    go_simp
                    exact HR1.out _ _ (Below.refl _ _) rfl
                  case s18 =>
                    refine Grow.step_in (by rfl) (by rfl) ?_
                    intro E W ec eg ef hG hd hu R HR1
                    have e114 : E (.tmp 114) = .bool true := hd 5 114 (by kernel_rfl)
                    have e126 : E (.tmp 126) = .bool true := hd 17 126 (by kernel_rfl)
                    clear hd hu
                    go_simp
                    exact HR1.out _ _ (Below.refl _ _) rfl
                case gfin =>
                  intro W hG
                  refine Grow.fin_dst (by rfl) ?_
                  rintro _ rfl
                  refine Grow.fin_dst (by rfl) ?_
                  rintro _ rfl
                  refine Grow.fin_dst (by rfl) ?_
                  rintro _ rfl
                  refine Grow.fin_dst (by rfl) ?_
                  rintro _ rfl
                  refine Grow.fin_dst (by rfl) ?_
                  rintro _ rfl
                  refine Grow.fin_dst (by rfl) ?_
                  rintro _ rfl
                  refine Grow.fin_dst (by rfl) ?_
                  rintro _ rfl
                  refine Grow.fin_dst (by rfl) ?_
                  rintro _ rfl
                  refine Grow.fin_dst (by rfl) ?_
                  rintro _ rfl
                  refine Grow.fin_dst (by rfl) ?_
                  rintro _ rfl
                  refine Grow.fin_dst (by rfl) ?_
                  rintro _ rfl
                  refine Grow.fin_dst (by rfl) ?_
                  rintro _ rfl
                  refine Grow.fin_dst (by rfl) ?_
                  rintro _ rfl
                  refine Grow.fin_dst (by rfl) ?_
                  rintro _ rfl
                  refine Grow.fin_dst (by rfl) ?_
                  rintro _ rfl
                  refine Grow.fin_dst (by rfl) ?_
                  rintro _ rfl
                  refine Grow.fin_dst (by rfl) ?_
                  rintro _ rfl
                  refine Grow.fin_dst (by rfl) ?_
                  rintro _ rfl
                  refine Grow.fin_dst (by rfl) ?_
                  rintro _ rfl
                  simp only [Act.put, List.setIfInBounds_toArray, List.set_cons_zero, List.set_cons_succ]
                  refine Grow.fin_end ?_
                  have HB9 := Lib.hid (Grow.below_of_drew hG)
                  clear hG hgt HC
                  have H9 := Lib.hid ((H7.out.below H8.out.2).below HB9.out)
                  have hcra : W.cell? ⟨q, o + j, none⟩ = some (.slice Ai ni ci) := (H9.out.dsk.bel.cell (p := ⟨_, _, none⟩) HY.out.2.2.1).trans HY.out.2.2.2
                  have hcva : (convert 41 9 (.slice Ai ni ci)).run Try.prog W = .ok (.string (st b)) W := byt_string (HY.out.1.below H9.out.dsk.bel)
                  obtain ⟨i0, hi, hz0, hz1, hz2⟩ := info_parts str_info2
                  have HI := Lib.hid (And.intro hi (And.intro hz0 (And.intro hz1 hz2)))
                  have HL := Lib.hid (show tl.length ≤ 12 by have h1 := HR.out.2.2.1; have h2 := HR.out.2.2.2.2; omega)
                  clear hi hz0 hz1 hz2
                  go_wp2_with (at_builtin; refine wpList_append_own_at _ rfl _ _ 29 rfl m 9 i0 (.string ByteArray.empty) 1 16 Try.underlying29 HI.out.1 HI.out.2.1 HI.out.2.2.1 HI.out.2.2.2 rfl (by decide) _ tl.length (strs tl) rfl (H9.out.own.alloc _) ⟨W.heap.size, 0, none⟩ 1 1 [.string (st b)] rfl rfl (cell_one_new _ _ _) (one_of rfl) (by have h1 := HL.out; unfold maxLen; omega) (by have h1 := HL.out; omega) (by have := H9.out.dsk.top; simp; omega) ?_)
                  intro V11 w11 hown hgrow _ hob
                  have hTa := H9.out.told hown hgrow (by rw [World.size_alloc]; exact hob)
                  have hTR := (((Turned.refl (fun k => m ≤ k ∧ (Value.slice At tl.length ct).ownBlock = some k) W).alloc (.cells #[.string (st b)] 9)).trans (Turned.of_gr (S := fun k => m ≤ k ∧ (Value.slice At tl.length ct).ownBlock = some k) hgrow fun k hk => ⟨(H9.out.own.lt k hk).1, hk⟩) fun _ _ h => h)
                  obtain ⟨g11, cap11, hv11, _, _⟩ := hown.form (by omega)
                  subst hv11
                  have H11 := Lib.hid hTa
                  have HT11 := Lib.hid hTR
                  clear hTa hown hgrow hob hcra hcva hTR
                  have hr11 := (H8.out.1.below HB9.out).turned HT11.out fun k _ h1 h2 => by have := (H7.out.own.lt k h2.2).2; omega
                  obtain ⟨A9, c9, hv9, hst9⟩ := own_strs H11.out.own
                  have hln : (tl ++ [b]).length = tl.length + 1 := by simp
                  rw [hln] at hv9 hst9
                  injection hv9 with e1 e2 e3
                  subst e1 e3
                  clear hln
                  have hs1 := same_any hr11 hst9 (by have := HN8.out; have h1 := HR.out.2.2.1; have h2 := HR.out.2.2.2.2; omega)
                  rw [decide_eq_true rfl] at hs1
                  go_wp2_with (go_at_call 25; refine hs1.mono ?_; clear hs1; rintro _ w12 ⟨rfl, hb12⟩; have H12 := Lib.hid (H11.out.below hb12); clear hb12)
                  go_roundw
                  case rel =>
                    first | refine ⟨_, _, _, _, ?_, rfl, rfl, rfl, rfl⟩ | skip
                    unfold RTn; exact ⟨j + 1, p7, dR, MZ, tl ++ [b], by have h1 := HR.out.2.2.2.1; have h2 := HS.out.2.1; omega, rfl, by simp, by have h1 := HR.out.2.2.1; simp; omega, by have h1 := HP3.out; rwa [show 1 + 300 * j + 300 = 1 + 300 * (j + 1) by omega] at h1, H12.out⟩
                  case measure => simp only [intOf]; have h1 := HR.out.2.2.2.1; omega
            · clear he
              go_upto_region 23 with (go_at_call 14; refine hadd.mono ?_; clear hadd; rintro _ w5 ⟨rfl, hT5⟩)
              have hrs := hT5.restart
              clear hT5 hcr
              go_upto_region 24 with (go_at_call 22; refine hrs.mono ?_; clear hrs; rintro _ w6 ⟨rfl, hT6⟩)
              have hP2 := HP2.out
              have hop := hT6.dsk.open 0 40 (by rw [hP2.len]; omega) (by omega) rfl (by rw [hP2.len]; omega)
              obtain ⟨MZ, hMZ⟩ : ∃ MZ, MZ = openM (blocksOf (restartM d2).l ((0 : Nat) : Int) ((40 : Nat) : Int)) ((0 : Nat) : Int) ((40 : Nat) : Int) := ⟨_, rfl⟩
              rw [← hMZ] at hop hP2
              generalize restartM d2 = dR at *
              have HP3 := Lib.hid hP2
              have H6 := Lib.hid hT6
              clear hP2 HP2 hMZ hT6
              go_upto_region 27 with (go_at_call 12; refine hop.mono ?_; clear hop; rintro _ w7 ⟨p7, rfl, hl7, hd7, hb7⟩)
              have hT7 := H6.out.again hd7 hl7 hb7
              have hrc := wrecords_any hT7.lg (HP3.out.ok (by have := HR.out.2.2.2.2; omega))
              have H7 := Lib.hid hT7
              clear hl7 hd7 hb7 hT7
              go_upto_region 28 with (go_at_call 26; refine hrc.mono ?_; clear hrc; rintro _ w8 ⟨A8, n8, c8, rfl, hr8, hb8⟩)
              rw [HP3.out.recs] at hr8
              rcases ht2 with ht2 | ht2
              · rw [ht2] at hr8 HP3
                clear ht2
                obtain rfl : n8 = tl.length := hr8.len.symm
                have HN8 := Lib.hid (Nat.le_refl tl.length)
                have H8 := Lib.hid (And.intro hr8 hb8)
                clear hr8 hb8
                refine wp_region_grow (fun W W' => Below W.heap.size W W') (Grow.nth [fun v _ => v = .slice A8 tl.length c8, fun v _ => v = .int .i64 (tl.length : Int), fun v _ => v = .slice At tl.length ct, fun v _ => v = .int .i64 (tl.length : Int), fun v _ => v = .bool false, fun v _ => v = .bool false, fun v _ => v = undef, fun v _ => v = undef, fun v _ => v = undef, fun v _ => v = undef, fun v _ => v = undef, fun v _ => v = undef, fun v _ => v = undef, fun v _ => v = undef, fun v _ => v = undef, fun v _ => v = undef, fun v _ => v = undef, fun v _ => v = undef, fun v _ => v = .bool false]) 145 (by kernel_rfl) (by kernel_rfl) (by rfl) (fun W => Below.refl _ W) (fun _ _ _ h1 h2 => h1.trans (h2.mono h1.size)) (Grow.mono_nth ?gmono) ?gsteps ?gfin
                case gmono => exact ⟨fun _ _ _ h _ => h, fun _ _ _ h _ => h, fun _ _ _ h _ => h, fun _ _ _ h _ => h, fun _ _ _ h _ => h, fun _ _ _ h _ => h, fun _ _ _ h _ => h, fun _ _ _ h _ => h, fun _ _ _ h _ => h, fun _ _ _ h _ => h, fun _ _ _ h _ => h, fun _ _ _ h _ => h, fun _ _ _ h _ => h, fun _ _ _ h _ => h, fun _ _ _ h _ => h, fun _ _ _ h _ => h, fun _ _ _ h _ => h, fun _ _ _ h _ => h, fun _ _ _ h _ => h, trivial⟩
                case gsteps =>
                  show Grow.allBelow _ 19
                  refine And.intro ?_ ?s18
                  refine And.intro ?_ ?s17
                  refine And.intro ?_ ?s16
                  refine And.intro ?_ ?s15
                  refine And.intro ?_ ?s14
                  refine And.intro ?_ ?s13
                  refine And.intro ?_ ?s12
                  refine And.intro ?_ ?s11
                  refine And.intro ?_ ?s10
                  refine And.intro ?_ ?s9
                  refine And.intro ?_ ?s8
                  refine And.intro ?_ ?s7
                  refine And.intro ?_ ?s6
                  refine And.intro ?_ ?s5
                  refine And.intro ?_ ?s4
                  refine And.intro ?_ ?s3
                  refine And.intro ?_ ?s2
                  refine And.intro ?_ ?s1
                  refine And.intro ?_ ?s0
                  exact trivial
                  case s0 =>
                    refine Grow.step_in (by rfl) (by rfl) ?_
                    intro E W ec eg ef hG hd hu R HR1
                    have e17 : E (.tmp 17) = .slice A8 tl.length c8 := hu 17 (by kernel_rfl)
                    clear hd hu
                    go_simp
                    exact HR1.out _ _ (Below.refl _ _) rfl
                  case s1 =>
                    refine Grow.step_in (by rfl) (by rfl) ?_
                    intro E W ec eg ef hG hd hu R HR1
                    have e109 : E (.tmp 109) = .slice A8 tl.length c8 := hd 0 109 (by kernel_rfl)
                    clear hd hu
                    go_simp
                    exact HR1.out _ _ (Below.refl _ _) rfl
                  case s2 =>
                    refine Grow.step_in (by rfl) (by rfl) ?_
                    intro E W ec eg ef hG hd hu R HR1
                    have e12 : E (.tmp 12) = .slice At tl.length ct := hu 12 (by kernel_rfl)
                    clear hd hu
                    go_simp
                    exact HR1.out _ _ (Below.refl _ _) rfl
                  case s3 =>
                    refine Grow.step_in (by rfl) (by rfl) ?_
                    intro E W ec eg ef hG hd hu R HR1
                    have e111 : E (.tmp 111) = .slice At tl.length ct := hd 2 111 (by kernel_rfl)
                    clear hd hu
                    go_simp
                    exact HR1.out _ _ (Below.refl _ _) rfl
                  case s4 =>
                    refine Grow.step_in (by rfl) (by rfl) ?_
                    intro E W ec eg ef hG hd hu R HR1
                    have e110 : E (.tmp 110) = .int .i64 (tl.length : Int) := hd 1 110 (by kernel_rfl)
                    have e112 : E (.tmp 112) = .int .i64 (tl.length : Int) := hd 3 112 (by kernel_rfl)
                    clear hd hu
                    go_simp
                    exact HR1.out _ _ (Below.refl _ _) rfl
                  case s5 =>
                    refine Grow.step_in (by rfl) (by rfl) ?_
                    intro E W ec eg ef hG hd hu R HR1
                    have e113 : E (.tmp 113) = .bool false := hd 4 113 (by kernel_rfl)
                    clear hd hu
                    go_simp
                    exact HR1.out _ _ (Below.refl _ _) rfl
                  case s6 =>
                    exact Grow.step_off (g := 5) (b := true) (b' := false) (d := 114) (by rfl) (by rfl) (by rfl) (by kernel_rfl) (fun v W h => h) (by decide) (fun _ => rfl)
                  case s7 =>
                    exact Grow.step_off (g := 5) (b := true) (b' := false) (d := 114) (by rfl) (by rfl) (by rfl) (by kernel_rfl) (fun v W h => h) (by decide) (fun _ => rfl)
                  case s8 =>
                    exact Grow.step_off (g := 5) (b := true) (b' := false) (d := 114) (by rfl) (by rfl) (by rfl) (by kernel_rfl) (fun v W h => h) (by decide) (fun _ => rfl)
                  case s9 =>
                    exact Grow.step_off (g := 5) (b := true) (b' := false) (d := 114) (by rfl) (by rfl) (by rfl) (by kernel_rfl) (fun v W h => h) (by decide) (fun _ => rfl)
                  case s10 =>
                    exact Grow.step_off (g := 5) (b := true) (b' := false) (d := 114) (by rfl) (by rfl) (by rfl) (by kernel_rfl) (fun v W h => h) (by decide) (fun _ => rfl)
                  case s11 =>
                    exact Grow.step_off (g := 5) (b := true) (b' := false) (d := 114) (by rfl) (by rfl) (by rfl) (by kernel_rfl) (fun v W h => h) (by decide) (fun _ => rfl)
                  case s12 =>
                    exact Grow.step_off (g := 5) (b := true) (b' := false) (d := 114) (by rfl) (by rfl) (by rfl) (by kernel_rfl) (fun v W h => h) (by decide) (fun _ => rfl)
                  case s13 =>
                    exact Grow.step_off (g := 5) (b := true) (b' := false) (d := 114) (by rfl) (by rfl) (by rfl) (by kernel_rfl) (fun v W h => h) (by decide) (fun _ => rfl)
                  case s14 =>
                    exact Grow.step_off (g := 5) (b := true) (b' := false) (d := 114) (by rfl) (by rfl) (by rfl) (by kernel_rfl) (fun v W h => h) (by decide) (fun _ => rfl)
                  case s15 =>
                    exact Grow.step_off (g := 5) (b := true) (b' := false) (d := 114) (by rfl) (by rfl) (by rfl) (by kernel_rfl) (fun v W h => h) (by decide) (fun _ => rfl)
                  case s16 =>
                    exact Grow.step_off (g := 5) (b := true) (b' := false) (d := 114) (by rfl) (by rfl) (by rfl) (by kernel_rfl) (fun v W h => h) (by decide) (fun _ => rfl)
                  case s17 =>
                    exact Grow.step_off (g := 5) (b := true) (b' := false) (d := 114) (by rfl) (by rfl) (by rfl) (by kernel_rfl) (fun v W h => h) (by decide) (fun _ => rfl)
                  case s18 =>
                    refine Grow.step_in (by rfl) (by rfl) ?_
                    intro E W ec eg ef hG hd hu R HR1
                    have e114 : E (.tmp 114) = .bool false := hd 5 114 (by kernel_rfl)
                    have e126 : E (.tmp 126) = undef := hd 17 126 (by kernel_rfl)
                    clear hd hu
                    go_simp
                    exact HR1.out _ _ (Below.refl _ _) rfl
                case gfin =>
                  intro W hG
                  refine Grow.fin_dst (by rfl) ?_
                  rintro _ rfl
                  refine Grow.fin_dst (by rfl) ?_
                  rintro _ rfl
                  refine Grow.fin_dst (by rfl) ?_
                  rintro _ rfl
                  refine Grow.fin_dst (by rfl) ?_
                  rintro _ rfl
                  refine Grow.fin_dst (by rfl) ?_
                  rintro _ rfl
                  refine Grow.fin_dst (by rfl) ?_
                  rintro _ rfl
                  refine Grow.fin_dst (by rfl) ?_
                  rintro _ rfl
                  refine Grow.fin_dst (by rfl) ?_
                  rintro _ rfl
                  refine Grow.fin_dst (by rfl) ?_
                  rintro _ rfl
                  refine Grow.fin_dst (by rfl) ?_
                  rintro _ rfl
                  refine Grow.fin_dst (by rfl) ?_
                  rintro _ rfl
                  refine Grow.fin_dst (by rfl) ?_
                  rintro _ rfl
                  refine Grow.fin_dst (by rfl) ?_
                  rintro _ rfl
                  refine Grow.fin_dst (by rfl) ?_
                  rintro _ rfl
                  refine Grow.fin_dst (by rfl) ?_
                  rintro _ rfl
                  refine Grow.fin_dst (by rfl) ?_
                  rintro _ rfl
                  refine Grow.fin_dst (by rfl) ?_
                  rintro _ rfl
                  refine Grow.fin_dst (by rfl) ?_
                  rintro _ rfl
                  refine Grow.fin_dst (by rfl) ?_
                  rintro _ rfl
                  simp only [Act.put, List.setIfInBounds_toArray, List.set_cons_zero, List.set_cons_succ]
                  refine Grow.fin_end ?_
                  have HB9 := Lib.hid (Grow.below_of_drew hG)
                  clear hG
                  have hT9 := (H7.out.below H8.out.2).below HB9.out
                  obtain ⟨A9, c9, hv9, hst9⟩ := own_strs hT9.own
                  injection hv9 with e1 e2 e3
                  subst e1 e3
                  have H9 := Lib.hid hT9
                  clear hT9
                  have hs1 := same_any (H8.out.1.below HB9.out) hst9 (by have := HN8.out; have h1 := HR.out.2.2.1; have h2 := HR.out.2.2.2.2; omega)
                  rw [decide_eq_true rfl] at hs1
                  go_wp2_with (go_at_call 25; refine hs1.mono ?_; clear hs1; rintro _ w12 ⟨rfl, hb12⟩; have H12 := Lib.hid (H9.out.below hb12); clear hb12)
                  go_roundw
                  case rel =>
                    first | refine ⟨_, _, _, _, ?_, rfl, rfl, rfl, rfl⟩ | skip
                    unfold RTn; exact ⟨j + 1, p7, dR, MZ, tl, by have h1 := HR.out.2.2.2.1; have h2 := HS.out.2.1; omega, rfl, by simp, by have h1 := HR.out.2.2.1; simp; omega, by have h1 := HP3.out; rwa [show 1 + 300 * j + 300 = 1 + 300 * (j + 1) by omega] at h1, H12.out⟩
                  case measure => simp only [intOf]; have h1 := HR.out.2.2.2.1; omega
              · rw [ht2] at hr8 HP3
                clear ht2
                have hn8 : n8 = tl.length + 1 := by rw [← hr8.len]; simp
                have HN8 := Lib.hid (show n8 ≤ tl.length + 1 by omega)
                have hgt : (tl.length : Int) < (n8 : Int) := by omega
                have H8 := Lib.hid (And.intro hr8 hb8)
                obtain ⟨qr, oR, rfl, hqS, hqr, hcr8⟩ := hr8.row (by omega)
                obtain ⟨Ar, nr, cR, hcx, hyr⟩ := hcr8 tl.length (by omega)
                rw [show (tl ++ [b])[tl.length]?.getD [] = b by simp] at hyr
                have HC : Hid (∀ W, Below w8.drew.heap.size w8.drew W → W.cell? ⟨qr, oR + tl.length, none⟩ = some (.slice Ar nr cR) ∧ (convert 41 9 (.slice Ar nr cR)).run Try.prog W = .ok (.string (st b)) W ∧ W.cell? ⟨q, o + j, none⟩ = some (.slice Ai ni ci) ∧ (convert 41 9 (.slice Ai ni ci)).run Try.prog W = .ok (.string (st b)) W) := Lib.hid fun W hW => by
                  have hW2 : Below w8.heap.size w8 W := Grow.below_of_drew hW
                  have hW3 := ((H7.out.below H8.out.2).below hW2).dsk.bel
                  exact ⟨(hW2.cell (p := ⟨_, _, none⟩) hqr).trans hcx, byt_string (hyr.below hW2), (hW3.cell (p := ⟨_, _, none⟩) HY.out.2.2.1).trans HY.out.2.2.2, byt_string (HY.out.1.below hW3)⟩
                clear hn8 hqS hqr hcr8 hcx hyr hr8 hb8
                refine wp_region_grow (fun W W' => Below W.heap.size W W') (Grow.nth [fun v _ => v = .slice (some ⟨qr, oR, none⟩) n8 c8, fun v _ => v = .int .i64 (n8 : Int), fun v _ => v = .slice At tl.length ct, fun v _ => v = .int .i64 (tl.length : Int), fun v _ => v = .bool true, fun v _ => v = .bool true, fun v _ => v = .slice (some ⟨qr, oR, none⟩) n8 c8, fun v _ => v = .slice At tl.length ct, fun v _ => v = .int .i64 (tl.length : Int), fun v _ => v = .pointer (some ⟨qr, oR + tl.length, none⟩), fun v _ => v = .slice Ar nr cR, fun v _ => v = .string (st b), fun v _ => v = .slice (some ⟨q, o, none⟩) n c, fun v _ => v = .int .i64 (j : Int), fun v _ => v = .pointer (some ⟨q, o + j, none⟩), fun v _ => v = .slice Ai ni ci, fun v _ => v = .string (st b), fun v _ => v = .bool true, fun v _ => v = .bool true]) 145 (by kernel_rfl) (by kernel_rfl) (by rfl) (fun W => Below.refl _ W) (fun _ _ _ h1 h2 => h1.trans (h2.mono h1.size)) (Grow.mono_nth ?gmono) ?gsteps ?gfin
                case gmono => exact ⟨fun _ _ _ h _ => h, fun _ _ _ h _ => h, fun _ _ _ h _ => h, fun _ _ _ h _ => h, fun _ _ _ h _ => h, fun _ _ _ h _ => h, fun _ _ _ h _ => h, fun _ _ _ h _ => h, fun _ _ _ h _ => h, fun _ _ _ h _ => h, fun _ _ _ h _ => h, fun _ _ _ h _ => h, fun _ _ _ h _ => h, fun _ _ _ h _ => h, fun _ _ _ h _ => h, fun _ _ _ h _ => h, fun _ _ _ h _ => h, fun _ _ _ h _ => h, fun _ _ _ h _ => h, trivial⟩
                case gsteps =>
                  show Grow.allBelow _ 19
                  refine And.intro ?_ ?s18
                  refine And.intro ?_ ?s17
                  refine And.intro ?_ ?s16
                  refine And.intro ?_ ?s15
                  refine And.intro ?_ ?s14
                  refine And.intro ?_ ?s13
                  refine And.intro ?_ ?s12
                  refine And.intro ?_ ?s11
                  refine And.intro ?_ ?s10
                  refine And.intro ?_ ?s9
                  refine And.intro ?_ ?s8
                  refine And.intro ?_ ?s7
                  refine And.intro ?_ ?s6
                  refine And.intro ?_ ?s5
                  refine And.intro ?_ ?s4
                  refine And.intro ?_ ?s3
                  refine And.intro ?_ ?s2
                  refine And.intro ?_ ?s1
                  refine And.intro ?_ ?s0
                  exact trivial
                  case s0 =>
                    refine Grow.step_in (by rfl) (by rfl) ?_
                    intro E W ec eg ef hG hd hu R HR1
                    have e17 : E (.tmp 17) = .slice (some ⟨qr, oR, none⟩) n8 c8 := hu 17 (by kernel_rfl)
                    clear hd hu
                    go_simp
                    exact HR1.out _ _ (Below.refl _ _) rfl
                  case s1 =>
                    refine Grow.step_in (by rfl) (by rfl) ?_
                    intro E W ec eg ef hG hd hu R HR1
                    have e109 : E (.tmp 109) = .slice (some ⟨qr, oR, none⟩) n8 c8 := hd 0 109 (by kernel_rfl)
                    clear hd hu
                    go_simp
                    exact HR1.out _ _ (Below.refl _ _) rfl
                  case s2 =>
                    refine Grow.step_in (by rfl) (by rfl) ?_
                    intro E W ec eg ef hG hd hu R HR1
                    have e12 : E (.tmp 12) = .slice At tl.length ct := hu 12 (by kernel_rfl)
                    clear hd hu
                    go_simp
                    exact HR1.out _ _ (Below.refl _ _) rfl
                  case s3 =>
                    refine Grow.step_in (by rfl) (by rfl) ?_
                    intro E W ec eg ef hG hd hu R HR1
                    have e111 : E (.tmp 111) = .slice At tl.length ct := hd 2 111 (by kernel_rfl)
                    clear hd hu
                    go_simp
                    exact HR1.out _ _ (Below.refl _ _) rfl
                  case s4 =>
                    refine Grow.step_in (by rfl) (by rfl) ?_
                    intro E W ec eg ef hG hd hu R HR1
                    have e110 : E (.tmp 110) = .int .i64 (n8 : Int) := hd 1 110 (by kernel_rfl)
                    have e112 : E (.tmp 112) = .int .i64 (tl.length : Int) := hd 3 112 (by kernel_rfl)
                    clear hd hu
                    go_simp
                    exact HR1.out _ _ (Below.refl _ _) rfl
                  case s5 =>
                    refine Grow.step_in (by rfl) (by rfl) ?_
                    intro E W ec eg ef hG hd hu R HR1
                    have e113 : E (.tmp 113) = .bool true := hd 4 113 (by kernel_rfl)
                    clear hd hu
                    go_simp
                    exact HR1.out _ _ (Below.refl _ _) rfl
                  case s6 =>
                    refine Grow.step_on (g := 5) (b := true) (d := 114) (by rfl) (by rfl) (by rfl) (by kernel_rfl) (fun v W h => h) ?_
                    intro E W ec eg ef hG hd hu R HR1
                    have e17 : E (.tmp 17) = .slice (some ⟨qr, oR, none⟩) n8 c8 := hu 17 (by kernel_rfl)
                    clear hd hu
                    go_simp
                    exact HR1.out _ _ (Below.refl _ _) rfl
                  case s7 =>
                    refine Grow.step_on (g := 5) (b := true) (d := 114) (by rfl) (by rfl) (by rfl) (by kernel_rfl) (fun v W h => h) ?_
                    intro E W ec eg ef hG hd hu R HR1
                    have e12 : E (.tmp 12) = .slice At tl.length ct := hu 12 (by kernel_rfl)
                    clear hd hu
                    go_simp
                    exact HR1.out _ _ (Below.refl _ _) rfl
                  case s8 =>
                    refine Grow.step_on (g := 5) (b := true) (d := 114) (by rfl) (by rfl) (by rfl) (by kernel_rfl) (fun v W h => h) ?_
                    intro E W ec eg ef hG hd hu R HR1
                    have e116 : E (.tmp 116) = .slice At tl.length ct := hd 7 116 (by kernel_rfl)
                    clear hd hu
                    go_simp
                    exact HR1.out _ _ (Below.refl _ _) rfl
                  case s9 =>
                    refine Grow.step_on (g := 5) (b := true) (d := 114) (by rfl) (by rfl) (by rfl) (by kernel_rfl) (fun v W h => h) ?_
                    intro E W ec eg ef hG hd hu R HR1
                    have e115 : E (.tmp 115) = .slice (some ⟨qr, oR, none⟩) n8 c8 := hd 6 115 (by kernel_rfl)
                    have e117 : E (.tmp 117) = .int .i64 (tl.length : Int) := hd 8 117 (by kernel_rfl)
                    clear hd hu
                    go_simp
                    first | exact HR1.out _ _ (Below.refl _ _) rfl | (rw [if_pos ⟨by omega, by omega⟩]; exact HR1.out _ _ (Below.refl _ _) rfl) | (rw [if_pos (by omega)]; exact HR1.out _ _ (Below.refl _ _) rfl)
                  case s10 =>
                    refine Grow.step_on (g := 5) (b := true) (d := 114) (by rfl) (by rfl) (by rfl) (by kernel_rfl) (fun v W h => h) ?_
                    intro E W ec eg ef hG hd hu R HR1
                    have e118 : E (.tmp 118) = .pointer (some ⟨qr, oR + tl.length, none⟩) := hd 9 118 (by kernel_rfl)
                    clear hd hu
                    obtain ⟨k1, k2, k3, k4⟩ := HC.out W hG
                    go_simp
                    first | exact HR1.out _ _ (Below.refl _ _) rfl | (rw [if_pos ⟨by omega, by omega⟩]; exact HR1.out _ _ (Below.refl _ _) rfl)
                  case s11 =>
                    refine Grow.step_on (g := 5) (b := true) (d := 114) (by rfl) (by rfl) (by rfl) (by kernel_rfl) (fun v W h => h) ?_
                    intro E W ec eg ef hG hd hu R HR1
                    have e119 : E (.tmp 119) = .slice Ar nr cR := hd 10 119 (by kernel_rfl)
                    clear hd hu
                    obtain ⟨k1, k2, k3, k4⟩ := HC.out W hG
                    go_simp
                    first | exact HR1.out _ _ (Below.refl _ _) rfl | (rw [if_pos ⟨by omega, by omega⟩]; exact HR1.out _ _ (Below.refl _ _) rfl)
                  case s12 =>
                    refine Grow.step_on (g := 5) (b := true) (d := 114) (by rfl) (by rfl) (by rfl) (by kernel_rfl) (fun v W h => h) ?_
                    intro E W ec eg ef hG hd hu R HR1
                    have e0 : E (.tmp 0) = .slice (some ⟨q, o, none⟩) n c := hu 0 (by kernel_rfl)
                    clear hd hu
                    go_simp
                    exact HR1.out _ _ (Below.refl _ _) rfl
                  case s13 =>
                    refine Grow.step_on (g := 5) (b := true) (d := 114) (by rfl) (by rfl) (by rfl) (by kernel_rfl) (fun v W h => h) ?_
                    intro E W ec eg ef hG hd hu R HR1
                    have e13 : E (.tmp 13) = .int .i64 (j : Int) := hu 13 (by kernel_rfl)
                    clear hd hu
                    go_simp
                    exact HR1.out _ _ (Below.refl _ _) rfl
                  case s14 =>
                    refine Grow.step_on (g := 5) (b := true) (d := 114) (by rfl) (by rfl) (by rfl) (by kernel_rfl) (fun v W h => h) ?_
                    intro E W ec eg ef hG hd hu R HR1
                    have e121 : E (.tmp 121) = .slice (some ⟨q, o, none⟩) n c := hd 12 121 (by kernel_rfl)
                    have e122 : E (.tmp 122) = .int .i64 (j : Int) := hd 13 122 (by kernel_rfl)
                    clear hd hu
                    go_simp
                    first | exact HR1.out _ _ (Below.refl _ _) rfl | (rw [if_pos ⟨by omega, by omega⟩]; exact HR1.out _ _ (Below.refl _ _) rfl) | (rw [if_pos (by omega)]; exact HR1.out _ _ (Below.refl _ _) rfl)
                  case s15 =>
                    refine Grow.step_on (g := 5) (b := true) (d := 114) (by rfl) (by rfl) (by rfl) (by kernel_rfl) (fun v W h => h) ?_
                    intro E W ec eg ef hG hd hu R HR1
                    have e123 : E (.tmp 123) = .pointer (some ⟨q, o + j, none⟩) := hd 14 123 (by kernel_rfl)
                    clear hd hu
                    obtain ⟨k1, k2, k3, k4⟩ := HC.out W hG
                    go_simp
                    first | exact HR1.out _ _ (Below.refl _ _) rfl | (rw [if_pos ⟨by omega, by omega⟩]; exact HR1.out _ _ (Below.refl _ _) rfl)
                  case s16 =>
                    refine Grow.step_on (g := 5) (b := true) (d := 114) (by rfl) (by rfl) (by rfl) (by kernel_rfl) (fun v W h => h) ?_
                    intro E W ec eg ef hG hd hu R HR1
                    have e124 : E (.tmp 124) = .slice Ai ni ci := hd 15 124 (by kernel_rfl)
                    clear hd hu
                    obtain ⟨k1, k2, k3, k4⟩ := HC.out W hG
                    go_simp
                    first | exact HR1.out _ _ (Below.refl _ _) rfl | (rw [if_pos ⟨by omega, by omega⟩]; exact HR1.out _ _ (Below.refl _ _) rfl)
                  case s17 =>
                    refine Grow.step_on (g := 5) (b := true) (d := 114) (by rfl) (by rfl) (by rfl) (by kernel_rfl) (fun v W h => h) ?_
                    intro E W ec eg ef hG hd hu R HR1
                    have e120 : E (.tmp 120) = .string (st b) := hd 11 120 (by kernel_rfl)
                    have e125 : E (.tmp 125) = .string (st b) := hd 16 125 (by kernel_rfl)
                    clear hd hu
                    go_simp
                    exact HR1.out _ _ (Below.refl _ _) rfl
                  case s18 =>
                    refine Grow.step_in (by rfl) (by rfl) ?_
                    intro E W ec eg ef hG hd hu R HR1
                    have e114 : E (.tmp 114) = .bool true := hd 5 114 (by kernel_rfl)
                    have e126 : E (.tmp 126) = .bool true := hd 17 126 (by kernel_rfl)
                    clear hd hu
                    go_simp
                    exact HR1.out _ _ (Below.refl _ _) rfl
                case gfin =>
                  intro W hG
                  refine Grow.fin_dst (by rfl) ?_
                  rintro _ rfl
                  refine Grow.fin_dst (by rfl) ?_
                  rintro _ rfl
                  refine Grow.fin_dst (by rfl) ?_
                  rintro _ rfl
                  refine Grow.fin_dst (by rfl) ?_
                  rintro _ rfl
                  refine Grow.fin_dst (by rfl) ?_
                  rintro _ rfl
                  refine Grow.fin_dst (by rfl) ?_
                  rintro _ rfl
                  refine Grow.fin_dst (by rfl) ?_
                  rintro _ rfl
                  refine Grow.fin_dst (by rfl) ?_
                  rintro _ rfl
                  refine Grow.fin_dst (by rfl) ?_
                  rintro _ rfl
                  refine Grow.fin_dst (by rfl) ?_
                  rintro _ rfl
                  refine Grow.fin_dst (by rfl) ?_
                  rintro _ rfl
                  refine Grow.fin_dst (by rfl) ?_
                  rintro _ rfl
                  refine Grow.fin_dst (by rfl) ?_
                  rintro _ rfl
                  refine Grow.fin_dst (by rfl) ?_
                  rintro _ rfl
                  refine Grow.fin_dst (by rfl) ?_
                  rintro _ rfl
                  refine Grow.fin_dst (by rfl) ?_
                  rintro _ rfl
                  refine Grow.fin_dst (by rfl) ?_
                  rintro _ rfl
                  refine Grow.fin_dst (by rfl) ?_
                  rintro _ rfl
                  refine Grow.fin_dst (by rfl) ?_
                  rintro _ rfl
                  simp only [Act.put, List.setIfInBounds_toArray, List.set_cons_zero, List.set_cons_succ]
                  refine Grow.fin_end ?_
                  have HB9 := Lib.hid (Grow.below_of_drew hG)
                  clear hG hgt HC
                  have H9 := Lib.hid ((H7.out.below H8.out.2).below HB9.out)
                  have hcra : W.cell? ⟨q, o + j, none⟩ = some (.slice Ai ni ci) := (H9.out.dsk.bel.cell (p := ⟨_, _, none⟩) HY.out.2.2.1).trans HY.out.2.2.2
                  have hcva : (convert 41 9 (.slice Ai ni ci)).run Try.prog W = .ok (.string (st b)) W := byt_string (HY.out.1.below H9.out.dsk.bel)
                  obtain ⟨i0, hi, hz0, hz1, hz2⟩ := info_parts str_info2
                  have HI := Lib.hid (And.intro hi (And.intro hz0 (And.intro hz1 hz2)))
                  have HL := Lib.hid (show tl.length ≤ 12 by have h1 := HR.out.2.2.1; have h2 := HR.out.2.2.2.2; omega)
                  clear hi hz0 hz1 hz2
                  go_wp2_with (at_builtin; refine wpList_append_own_at _ rfl _ _ 29 rfl m 9 i0 (.string ByteArray.empty) 1 16 Try.underlying29 HI.out.1 HI.out.2.1 HI.out.2.2.1 HI.out.2.2.2 rfl (by decide) _ tl.length (strs tl) rfl (H9.out.own.alloc _) ⟨W.heap.size, 0, none⟩ 1 1 [.string (st b)] rfl rfl (cell_one_new _ _ _) (one_of rfl) (by have h1 := HL.out; unfold maxLen; omega) (by have h1 := HL.out; omega) (by have := H9.out.dsk.top; simp; omega) ?_)
                  intro V11 w11 hown hgrow _ hob
                  have hTa := H9.out.told hown hgrow (by rw [World.size_alloc]; exact hob)
                  have hTR := (((Turned.refl (fun k => m ≤ k ∧ (Value.slice At tl.length ct).ownBlock = some k) W).alloc (.cells #[.string (st b)] 9)).trans (Turned.of_gr (S := fun k => m ≤ k ∧ (Value.slice At tl.length ct).ownBlock = some k) hgrow fun k hk => ⟨(H9.out.own.lt k hk).1, hk⟩) fun _ _ h => h)
                  obtain ⟨g11, cap11, hv11, _, _⟩ := hown.form (by omega)
                  subst hv11
                  have H11 := Lib.hid hTa
                  have HT11 := Lib.hid hTR
                  clear hTa hown hgrow hob hcra hcva hTR
                  have hr11 := (H8.out.1.below HB9.out).turned HT11.out fun k _ h1 h2 => by have := (H7.out.own.lt k h2.2).2; omega
                  obtain ⟨A9, c9, hv9, hst9⟩ := own_strs H11.out.own
                  have hln : (tl ++ [b]).length = tl.length + 1 := by simp
                  rw [hln] at hv9 hst9
                  injection hv9 with e1 e2 e3
                  subst e1 e3
                  clear hln
                  have hs1 := same_any hr11 hst9 (by have := HN8.out; have h1 := HR.out.2.2.1; have h2 := HR.out.2.2.2.2; omega)
                  rw [decide_eq_true rfl] at hs1
                  go_wp2_with (go_at_call 25; refine hs1.mono ?_; clear hs1; rintro _ w12 ⟨rfl, hb12⟩; have H12 := Lib.hid (H11.out.below hb12); clear hb12)
                  go_roundw
                  case rel =>
                    first | refine ⟨_, _, _, _, ?_, rfl, rfl, rfl, rfl⟩ | skip
                    unfold RTn; exact ⟨j + 1, p7, dR, MZ, tl ++ [b], by have h1 := HR.out.2.2.2.1; have h2 := HS.out.2.1; omega, rfl, by simp, by have h1 := HR.out.2.2.1; simp; omega, by have h1 := HP3.out; rwa [show 1 + 300 * j + 300 = 1 + 300 * (j + 1) by omega] at h1, H12.out⟩
                  case measure => simp only [intOf]; have h1 := HR.out.2.2.2.1; omega
    · have hlt' : ¬ (j : Int) < (n : Int) := by omega
      have hrc := wrecords_any hT.lg (hP.ok (by have h1 := HS.out.2.1; have h2 := HS.out.2.2; omega))
      have HN := Lib.hid (And.intro hT (And.intro hP.recs (show tl.length ≤ 1000000 by have h1 := HS.out.2.1; have h2 := HS.out.2.2; omega)))
      clear hj htl hP hT hlt
      go_wp2_with (first
        | (go_at_call 26; refine hrc.mono ?_; clear hrc; rintro _ w5 ⟨A5, n5, c5, rfl, hr5, hb5⟩
           obtain ⟨A9, c9, hv9, hst5⟩ := own_strs (HN.out.1.below hb5).own
           injection hv9 with e1 e2 e3
           subst e1 e3
           have hs1 := same_any hr5 hst5 (by rw [← hr5.len, HN.out.2.1]; exact HN.out.2.2)
           rw [decide_eq_true HN.out.2.1] at hs1
           have H5 := Lib.hid hb5
           clear hr5 hst5 hb5)
        | (go_at_call 25; refine hs1.mono ?_; clear hs1; rintro _ w6 ⟨rfl, hb6⟩
           have H6 := Lib.hid ((HN.out.1.below H5.out).below hb6).dsk.bel
           clear hb6))
      go_ret
      exact ⟨rfl, H6.out⟩
end Go.Proofs.Ytkhbmgmppoepjaa
