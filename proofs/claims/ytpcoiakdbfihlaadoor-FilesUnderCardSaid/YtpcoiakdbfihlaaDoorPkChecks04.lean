/-
  Files: the laws' filesOf.
  The law FilesChecks.
  The statement FilesChecks, proved: for every slice of files and every string the law returns true. No condition but that utf8's two tables hold what the program's text lays (the card ties it; no walk reads them).
-/
import Derived.Test.YtpcoiakdbfihlaaDoorPkChecks01
import Derived.Test.YtpcoiakdbfihlaaDoorPkChecks03
import Derived.Test.YtpcoiakdbfihlaaDoorPk01
import Derived.Test.YtpcoiakdbfihlaaDoorPkSame01
import Derived.Test.YtpcoiakdbfihlaaDoorPk09
import Derived.Test.YtpcoiakdbfihlaaDoorPk11
import Derived.Test.YtpcoiakdbfihlaaDoorCards
import Derived.Test.YtpcoiakdbfihlaaDoorTie
import Derived.SevenTiedAt
/-! Files: the laws' filesOf. -/
namespace Go.Proofs.YtpcoiakdbfihlaaDoor
open Go.RowKit Codec

def RFof (w : World) (l : List Fi) (t i : Value) (wr : World) : Prop :=
  ∃ j : Nat, j ≤ l.length ∧ i = .int .i64 (j : Int) ∧ wr.ownsRow w.heap.size 54 2 t (l.take j).length (fmCells (l.take j)) ∧ Below w.heap.size w wr
set_option maxHeartbeats 8000000 in
set_option maxRecDepth 100000 in
theorem filesof_any {w : World} {S : Nat → Prop} {A : Option Addr} {n c : Nat} {l : List Fi} (h : Fls w S A n c l) (hn : n ≤ 100000) :
    Calls Tryd.prog 11 #[.slice A n c] w fun e w' => ∃ A' c', e = .returned (.slice A' n c') ∧ Fms w' (w.heap.size ≤ ·) A' n c' l ∧ Below w.heap.size w w' := by
  have HS := Lib.hid (And.intro h (And.intro h.len hn))
  clear h hn
  go_enter Tryd.func11, Tryd.ntmps11
  go_wp2_with fail
  go_loopw [3, 4] (fun t i wr => RFof w l t i wr) (fun _ i _ => n - (intOf i).toNat)
  case atStart => exact ⟨0, Nat.zero_le _, rfl, World.ownsRow_nil _ _ _ _, Below.refl _ _⟩
  case round =>
    obtain ⟨j, hj, rfl, hown, hbel⟩ := hrel
    by_cases hlt : j < n
    · have hlt' : (j : Int) < (n : Int) := by omega
      have hadd1 := IntWalk.i64_in ((j : Int) + 1) (by have := HS.out.2.2; omega)
      obtain ⟨b, off, x, Ax, nx, cx, rfl, _, hb, hx, hcs, hy⟩ := HS.out.1.at_ hlt
      have hcell : ∀ o u, (fiV Ax nx cx x)[o]? = some u → w.cell? ⟨b, off + j * 2 + o, none⟩ = some u := fun o u hu => by have := hcs o u hu; rwa [add_plain] at this
      have HC : Hid (b < wr.drew.heap.size ∧ wr.drew.cell? ⟨b, off + j * 2, none⟩ = some (.string (st x.1)) ∧ wr.drew.cell? ⟨b, off + j * 2 + 1, none⟩ = some (.slice Ax nx cx)) := Lib.hid ⟨Nat.lt_of_lt_of_le hb hbel.size, (hbel.cell (p := ⟨_, _, none⟩) hb).trans (hcell 0 _ rfl), (hbel.cell (p := ⟨_, _, none⟩) hb).trans (hcell 1 _ rfl)⟩
      obtain ⟨V, hV⟩ : ∃ V, V = x.2 := ⟨_, rfl⟩
      have HY : Hid (Byt wr.drew S Ax nx cx V) := Lib.hid (by
        have h1 := (hy.mono (T := fun k => S k ∧ k < w.heap.size) fun k hk h => ⟨h, hk⟩).below hbel
        rw [hV]
        exact (h1.mono fun k _ h => h.1).below (below_drew (Below.refl _ _)))
      have HX := Lib.hid (And.intro hx (And.intro hV hlt))
      have HR := Lib.hid (And.intro hown hbel)
      clear hown hbel hb hx hcs hy hcell hj hlt hV
      go_upto_region 5 with fail
      refine (wpIn_wide (n := 3)).1 ?_
      refine wpIn_region_growP (Grow.open_wide _ _) (fun W W' => Below W.heap.size W W') (Grow.nth [fun v _ => v = u3, fun v _ => v = .slice (some ⟨b, off, none⟩) n c, fun v _ => v = .int .i64 (j : Int), fun v _ => v = .pointer (some ⟨b, off + j * 2, none⟩), fun v _ => v = .pointer (some ⟨b, off + j * 2, none⟩), fun v _ => v = .string (st x.1), fun v _ => v = .slice (some ⟨b, off, none⟩) n c, fun v _ => v = .int .i64 (j : Int), fun v _ => v = .pointer (some ⟨b, off + j * 2, none⟩), fun v _ => v = .pointer (some ⟨b, off + j * 2 + 1, none⟩), fun v _ => v = .slice Ax nx cx, fun v _ => v = .string (st V), fun v _ => v = .agg #[.string (st x.1), .string (st V)], fun v W => ∃ q2, v = .slice (some ⟨q2, 0, none⟩) 1 1 ∧ W.heap[q2]? = some (.cells #[.string (st x.1), .string (st V)] 54 (0, 0)) ∧ wr.heap.size ≤ q2]) 27 (by kernel_rfl) (by kernel_rfl) (by kernel_rfl) (by kernel_rfl) (by rfl) (fun W => Below.refl _ W) (fun _ _ _ h1 h2 => h1.trans (h2.mono h1.size)) (Grow.mono_nth ?gmono) 14 (by rfl) (by rfl) (by rfl) (by rfl) (by rfl) ?gsteps ?gfin
      case gmono => exact ⟨fun _ _ _ h _ => h, fun _ _ _ h _ => h, fun _ _ _ h _ => h, fun _ _ _ h _ => h, fun _ _ _ h _ => h, fun _ _ _ h _ => h, fun _ _ _ h _ => h, fun _ _ _ h _ => h, fun _ _ _ h _ => h, fun _ _ _ h _ => h, fun _ _ _ h _ => h, fun _ _ _ h _ => h, fun _ _ _ h _ => h, fun _ _ _ ⟨A, h1, h2, h3⟩ hg => ⟨A, h1, (hg.block A (lt_of_cells h2)).trans h2, h3⟩, trivial⟩
      case gsteps =>
        show Grow.allBelow _ 14
        refine And.intro ?_ ?s13
        refine And.intro ?_ ?s12
        refine And.intro ?_ ?s11
        refine And.intro ?_ ?s10
        refine And.intro ?_ ?s9
        refine And.intro ?_ ?s8
        refine And.intro ?_ ?s7
        refine And.intro ?_ ?s6
        refine And.intro ?_ ?s5
        refine And.intro ?_ ?s4
        refine And.intro ?_ ?s3
        refine And.intro ?_ ?s2
        refine And.intro ?_ ?s1
        refine And.intro ?_ ?s0
        exact trivial
        case s0 =>
          refine Grow.step_in (by rfl) (by rfl) ?_
          intro E W ec eg ef hG hd hu R HR1
          have e3 : E (.tmp 3) = u3 := hu 3 (by kernel_rfl)
          clear hd hu
          go_simp
          exact HR1.out _ _ (Below.refl _ _) rfl
        case s1 =>
          refine Grow.step_in (by rfl) (by rfl) ?_
          intro E W ec eg ef hG hd hu R HR1
          have e0 : E (.tmp 0) = .slice (some ⟨b, off, none⟩) n c := hu 0 (by kernel_rfl)
          clear hd hu
          go_simp
          exact HR1.out _ _ (Below.refl _ _) rfl
        case s2 =>
          refine Grow.step_in (by rfl) (by rfl) ?_
          intro E W ec eg ef hG hd hu R HR1
          have e4 : E (.tmp 4) = .int .i64 (j : Int) := hu 4 (by kernel_rfl)
          clear hd hu
          go_simp
          exact HR1.out _ _ (Below.refl _ _) rfl
        case s3 =>
          refine Grow.step_in (by rfl) (by rfl) ?_
          intro E W ec eg ef hG hd hu R HR1
          have e12 : E (.tmp 12) = .slice (some ⟨b, off, none⟩) n c := hd 1 12 (by kernel_rfl)
          have e13 : E (.tmp 13) = .int .i64 (j : Int) := hd 2 13 (by kernel_rfl)
          clear hd hu
          have hjl := HX.out.2.2
          go_simp
          first | exact HR1.out _ _ (Below.refl _ _) rfl | (rw [if_pos ⟨by omega, by omega⟩]; exact HR1.out _ _ (Below.refl _ _) rfl)
        case s4 =>
          refine Grow.step_in (by rfl) (by rfl) ?_
          intro E W ec eg ef hG hd hu R HR1
          have e14 : E (.tmp 14) = .pointer (some ⟨b, off + j * 2, none⟩) := hd 3 14 (by kernel_rfl)
          clear hd hu
          go_simp
          exact HR1.out _ _ (Below.refl _ _) rfl
        case s5 =>
          refine Grow.step_in (by rfl) (by rfl) ?_
          intro E W ec eg ef hG hd hu R HR1
          have e15 : E (.tmp 15) = .pointer (some ⟨b, off + j * 2, none⟩) := hd 4 15 (by kernel_rfl)
          clear hd hu
          have hcl := (hG.cell (p := ⟨b, off + j * 2, none⟩) HC.out.1).trans HC.out.2.1
          go_simp
          exact HR1.out _ _ (Below.refl _ _) rfl
        case s6 =>
          refine Grow.step_in (by rfl) (by rfl) ?_
          intro E W ec eg ef hG hd hu R HR1
          have e0 : E (.tmp 0) = .slice (some ⟨b, off, none⟩) n c := hu 0 (by kernel_rfl)
          clear hd hu
          go_simp
          exact HR1.out _ _ (Below.refl _ _) rfl
        case s7 =>
          refine Grow.step_in (by rfl) (by rfl) ?_
          intro E W ec eg ef hG hd hu R HR1
          have e4 : E (.tmp 4) = .int .i64 (j : Int) := hu 4 (by kernel_rfl)
          clear hd hu
          go_simp
          exact HR1.out _ _ (Below.refl _ _) rfl
        case s8 =>
          refine Grow.step_in (by rfl) (by rfl) ?_
          intro E W ec eg ef hG hd hu R HR1
          have e17 : E (.tmp 17) = .slice (some ⟨b, off, none⟩) n c := hd 6 17 (by kernel_rfl)
          have e18 : E (.tmp 18) = .int .i64 (j : Int) := hd 7 18 (by kernel_rfl)
          clear hd hu
          have hjl := HX.out.2.2
          go_simp
          first | exact HR1.out _ _ (Below.refl _ _) rfl | (rw [if_pos ⟨by omega, by omega⟩]; exact HR1.out _ _ (Below.refl _ _) rfl)
        case s9 =>
          refine Grow.step_in (by rfl) (by rfl) ?_
          intro E W ec eg ef hG hd hu R HR1
          have e19 : E (.tmp 19) = .pointer (some ⟨b, off + j * 2, none⟩) := hd 8 19 (by kernel_rfl)
          clear hd hu
          go_simp
          exact HR1.out _ _ (Below.refl _ _) rfl
        case s10 =>
          refine Grow.step_in (by rfl) (by rfl) ?_
          intro E W ec eg ef hG hd hu R HR1
          have e20 : E (.tmp 20) = .pointer (some ⟨b, off + j * 2 + 1, none⟩) := hd 9 20 (by kernel_rfl)
          clear hd hu
          have hcl := (hG.cell (p := ⟨b, off + j * 2 + 1, none⟩) HC.out.1).trans HC.out.2.2
          go_simp
          exact HR1.out _ _ (Below.refl _ _) rfl
        case s11 =>
          refine Grow.step_in (by rfl) (by rfl) ?_
          intro E W ec eg ef hG hd hu R HR1
          have e21 : E (.tmp 21) = .slice Ax nx cx := hd 10 21 (by kernel_rfl)
          clear hd hu
          have hcv := byt_string (HY.out.below hG)
          go_simp
          exact HR1.out _ _ (Below.refl _ _) rfl
        case s12 =>
          refine Grow.step_in (by rfl) (by rfl) ?_
          intro E W ec eg ef hG hd hu R HR1
          have e16 : E (.tmp 16) = .string (st x.1) := hd 5 16 (by kernel_rfl)
          have e22 : E (.tmp 22) = .string (st V) := hd 11 22 (by kernel_rfl)
          clear hd hu
          go_simp
          exact HR1.out _ _ (Below.refl _ _) rfl
        case s13 =>
          refine Grow.step_in (by rfl) (by rfl) ?_
          intro E W ec eg ef hG hd hu R HR1
          have e23 : E (.tmp 23) = .agg #[.string (st x.1), .string (st V)] := hd 12 23 (by kernel_rfl)
          clear hd hu
          go_simp
          exact HR1.out _ _ ((Below.refl _ _).alloc (Nat.le_refl _) _) ⟨_, rfl, heap_alloc_new W _, by have h1 := hG.size; have h2 : wr.drew.heap.size = wr.heap.size := rfl; omega⟩
      case gfin =>
        intro W hG
        refine Grow.fin_dst (by rfl) ?_
        rintro _ rfl
        refine Grow.fin_dst (by rfl) ?_
        rintro _ rfl
        refine Grow.fin_dst (by rfl) ?_
        rintro _ rfl
        refine Grow.fin_dst (by rfl) ?_
        rintro _ rfl
        refine Grow.fin_dst (by rfl) ?_
        rintro _ rfl
        refine Grow.fin_dst (by rfl) ?_
        rintro _ rfl
        refine Grow.fin_dst (by rfl) ?_
        rintro _ rfl
        refine Grow.fin_dst (by rfl) ?_
        rintro _ rfl
        refine Grow.fin_dst (by rfl) ?_
        rintro _ rfl
        refine Grow.fin_dst (by rfl) ?_
        rintro _ rfl
        refine Grow.fin_dst (by rfl) ?_
        rintro _ rfl
        refine Grow.fin_dst (by rfl) ?_
        rintro _ rfl
        refine Grow.fin_dst (by rfl) ?_
        rintro _ rfl
        refine Grow.fin_dst (by rfl) ?_
        rintro _ ⟨q8, rfl, hq8⟩
        simp only [Act.put, List.setIfInBounds_toArray, List.set_cons_zero, List.set_cons_succ]
        refine Grow.fin_end ?_
        have HW := Lib.hid hG
        clear hG
        have htk : l.take j ++ [x] = l.take (j + 1) := by
          rw [List.take_add_one, HX.out.1]
          rfl
        obtain ⟨A9, c9, w9, hap, hown9, hb9⟩ := own_fms_app (m := [x]) (n2 := 1) (c2 := 1) (a := ⟨q8, 0, none⟩) (own_below HR.out.1 ((below_drew (Below.refl _ _)).trans HW.out)) (by have h1 := HW.out.size; have h2 := HR.out.2.size; have h3 : wr.drew.heap.size = wr.heap.size := rfl; omega) rfl (fun o u hu => by
          rw [add_plain, Nat.zero_add, cell_of_cells hq8.1, HX.out.2.1]
          simpa [fmCells, fmV] using hu) (by have := HS.out.2.2; rw [List.length_take]; omega) 25
        have hb9' := (HR.out.2.trans (((below_drew (Below.refl _ _)).trans HW.out).mono HR.out.2.size)).trans hb9
        have hlen1 : (l.take j ++ [x]).length = (l.take (j + 1)).length := by rw [htk]
        rw [htk] at hown9 hap
        have HO := Lib.hid (And.intro hown9 hb9')
        clear hown9 hb9 hb9' htk hq8 hlen1
        refine operIn_app _ _ 25 (by rfl) (by rfl) (by rfl) hap ?_
        gi_wp2_with fail
        go_wp2_with fail
        go_roundw
        case rel =>
          unfold RFof
          exact ⟨j + 1, by have := HX.out.2.2; have := HS.out.2.1; omega, by simp, by have h := HO.out.1; simp only [List.length_take] at h ⊢; exact h, HO.out.2⟩
        case measure => simp only [intOf]; have h1 := HX.out.2.2; omega
    · have hlt' : ¬ (j : Int) < (n : Int) := by omega
      have hjn : j = l.length := by have := HS.out.2.1; omega
      rw [hjn, List.take_length] at hown
      obtain ⟨A', c', rfl, hcm⟩ := own_fms hown
      have HB := Lib.hid (And.intro hcm hbel)
      clear hcm hbel hown hj
      go_wp2_with fail
      go_ret
      have hnl := HS.out.2.1
      subst hnl
      exact ⟨A', c', rfl, HB.out.1, HB.out.2⟩
end Go.Proofs.YtpcoiakdbfihlaaDoor

/-! The law FilesChecks. -/
namespace Go.Proofs.YtpcoiakdbfihlaaDoor
open Go.RowKit Codec

theorem fpB_len (l : Tb) : (fpB l).length ≤ 50000000 := by
  unfold fpB
  split
  · rename_i h
    have h1 := (fi_ok h).take l.length
    rw [List.take_length] at h1
    have h2 := (fi_ok h).few
    have h3 := put_length_64 (x := l.length) (by omega)
    have e : filB l = put l.length ++ filEs l := rfl
    rw [e, List.length_append]
    omega
  · simp
set_option maxHeartbeats 16000000 in
set_option maxRecDepth 100000 in
theorem law_fchecks {w : World} {A : Option Addr} {n c : Nat} {l : Tb} {s : ByteArray} (hl : Fls w (· < w.heap.size) A n c l ∧ ∀ x ∈ l, x.1.length ≤ maxLen) (hs : s.size ≤ maxLen) :
    Calls Tryd.prog 3 #[.slice A n c, .string s] w fun e w' => e = .returned (.bool true) ∧ Below w.heap.size w w' := by
  obtain ⟨p, rfl⟩ : ∃ p, s = st p := ⟨s.data.toList, by show s = ⟨s.data.toList.toArray⟩; rw [Array.toArray_toList]⟩
  rw [st_size] at hs
  have haw := fawake_true w
  have hsz := st_size p
  have HPL := Lib.hid hs
  have HL0 := Lib.hid hl
  clear hl hs
  go_enter Tryd.func3, Tryd.ntmps3
  go_upto_region 4 with (go_at_call 9; refine haw.mono ?_; clear haw; rintro _ w1 ⟨rfl, hb1⟩)
  have hf1 := few_any (HL0.out.1.below hb1)
  have HB1 := Lib.hid hb1
  clear hb1
  go_upto_region 5 with (go_at_call 10; refine hf1.mono ?_; clear hf1; rintro _ w2 ⟨F1, rfl, hF1, hb2⟩)
  have HB2 := Lib.hid (HB1.out.trans (hb2.mono HB1.out.size))
  have HF1 := Lib.hid hF1
  clear hb2 hF1
  cases F1
  · go_wp2_with fail
    go_ret
    exact ⟨rfl, HB2.out⟩
  by_cases h4 : p.length > 400
  · have h4' : (p.length : Int) > 400 := by omega
    generalize p.length = NP at *
    clear h4
    go_wp2_with fail
    go_ret
    exact ⟨rfl, HB2.out⟩
  have h4' : ¬ (p.length : Int) > 400 := by omega
  have HL : Hid (Fls w (· < w.heap.size) A n c l ∧ n ≤ 20 ∧ ∀ x ∈ l, x.1.length ≤ maxLen) := Lib.hid ⟨HL0.out.1, HF1.out rfl, HL0.out.2⟩
  have hof := filesof_any (HL.out.1.below HB2.out) (by have := HL.out.2.1; omega)
  have HPP : Hid (∀ W, Calls Tryd.prog 14 #[.string (st p)] W fun e w' => e = .returned (.bool (pathOk p)) ∧ Below W.heap.size W w') := Lib.hid fun W => path_any p HPL.out W
  have HRP : Hid (∀ W, Calls Tryd.prog 15 #[.string (st p)] W fun e w' => e = .returned (.bool (pathOk p)) ∧ Below W.heap.size W w') := Lib.hid fun W => rpath_any p W
  obtain ⟨PO, hPO⟩ : ∃ PO, PO = pathOk p := ⟨_, rfl⟩
  rw [← hPO] at HPP HRP
  obtain ⟨NP, hNP⟩ : ∃ NP, NP = p.length := ⟨_, rfl⟩
  rw [← hNP] at hsz h4'
  clear HL0 HF1 h4 hPO hNP HPL
  go_upto_region 8 with (go_at_call 11; refine hof.mono ?_; clear hof; rintro _ w3 ⟨Am, cm, rfl, hm, hb3⟩)
  have HB3 := Lib.hid (HB2.out.trans (hb3.mono HB2.out.size))
  have HM := Lib.hid hm
  clear hm hb3
  have hp1 := fput_any (HL.out.1.below HB3.out) (by have := HL.out.2.1; omega) HL.out.2.2
  go_upto_region 9 with (go_at_call 12; refine hp1.mono ?_; clear hp1; rintro _ w4 ⟨Ax, nx, cx, rfl, hx, hb4⟩)
  have HB4 := Lib.hid (HB3.out.trans (hb4.mono HB3.out.size))
  have HM4 : Hid (Fms w4 (w2.heap.size ≤ ·) Am n cm l) := Lib.hid (HM.out.below hb4)
  have HX := Lib.hid hx
  clear hx hb4 HM
  have hp2 := rfput_any HM4.out (by have := HL.out.2.1; omega)
  go_upto_region 10 with (go_at_call 13; refine hp2.mono ?_; clear hp2; rintro _ w5 ⟨rfl, hb5⟩)
  have HB5 := Lib.hid (HB4.out.trans (hb5.mono HB4.out.size))
  have HM5 : Hid (Fms w5 (w2.heap.size ≤ ·) Am n cm l) := Lib.hid (HM4.out.below hb5)
  obtain ⟨FX, hFX⟩ : ∃ FX, FX = fpB l := ⟨_, rfl⟩
  rw [← hFX] at HX ⊢
  have HX5 : Hid (Byt w5 (w3.heap.size ≤ ·) Ax nx cx FX) := Lib.hid (HX.out.below hb5)
  clear hb5 HX HM4
  have HCK : Hid (∀ W, Below w5.heap.size w5 W → Calls Tryd.prog 16 #[.slice A n c] W fun e w' => e = .returned (.int .i64 (chkE l)) ∧ Below W.heap.size W w') := Lib.hid fun W hW => check_files (HL.out.1.below (HB5.out.trans (hW.mono HB5.out.size))) (by have := HL.out.2.1; omega) HL.out.2.2
  have HRK : Hid (∀ W, Below w5.heap.size w5 W → Calls Tryd.prog 17 #[.slice Am n cm] W fun e w' => e = .returned (.int .i64 (chkE l)) ∧ Below W.heap.size W w') := Lib.hid fun W hW => rcheck_any (HM5.out.below hW) (by have := HL.out.2.1; omega)
  have HCV : Hid (∀ W, Below w5.heap.size w5 W → (convert 27 9 (.slice Ax nx cx)).run Tryd.prog W = .ok (.string (st FX)) W) := Lib.hid fun W hW => byt_string (HX5.out.below hW)
  have hpp := HPP.out w5
  have HG : Hid (chkE l = 0 → getF FX = (l, 0)) := Lib.hid fun h => by rw [hFX, fpB, if_pos h]; exact get_put h
  have HFL : Hid (FX.length ≤ 50000000) := Lib.hid (by rw [hFX]; exact fpB_len l)
  obtain ⟨E, hE⟩ : ∃ E, E = chkE l := ⟨_, rfl⟩
  rw [← hE] at HCK HRK HG ⊢
  clear hFX hE
  go_upto_region 12 with (first
    | (go_at_call 14; refine hpp.mono ?_; clear hpp; rintro _ w6 ⟨rfl, hb6⟩; have hrp := HRP.out w6)
    | (go_at_call 15; refine hrp.mono ?_; clear hrp; rintro _ w7 ⟨rfl, hb7⟩; have hb57 := hb6.trans (hb7.mono hb6.size); have hck := HCK.out w7 hb57)
    | (go_at_call 16; refine hck.mono ?_; clear hck; rintro _ w8 ⟨rfl, hb8⟩; have hb58 := hb57.trans (hb8.mono hb57.size); have hrk := HRK.out w8 hb58)
    | (go_at_call 17; refine hrk.mono ?_; clear hrk; rintro _ w9 ⟨rfl, hb9⟩; have hb59 := hb58.trans (hb9.mono hb58.size); have hcv := HCV.out w9 hb59))
  have HB9 := Lib.hid (HB5.out.trans (hb59.mono HB5.out.size))
  have HX9 : Hid (Byt w9 (w3.heap.size ≤ ·) Ax nx cx FX) := Lib.hid (HX5.out.below hb59)
  clear hb6 hb7 hb57 hb8 hb58 hb9 hb59 hcv
  by_cases h0 : E = 0
  · subst h0
    have hg := fget_any HX9.out (by have h1 := HFL.out; have h2 := HX9.out.len; omega)
    rw [HG.out rfl] at hg
    have hll := HL.out.1.len
    have hg2 : Calls Tryd.prog 18 #[.slice Ax nx cx] w9 fun e w' => ∃ Ag cg, e = .returned (.tuple #[.slice Ag n cg, .int .i64 0]) ∧ Fls w' (w9.heap.size ≤ ·) Ag n cg l ∧ Below w9.heap.size w9 w' := by
      refine hg.mono fun e w' h => ?_
      rw [← hll]
      exact h
    clear hg
    go_upto_region 15 with (go_at_call 18; refine hg2.mono ?_; clear hg2; rintro _ w10 ⟨Ag, cg, rfl, hfg, hb10⟩)
    have HB10 := Lib.hid (HB9.out.trans (hb10.mono HB9.out.size))
    have hsm := fsame_any hfg (HL.out.1.below HB10.out) (by have := HL.out.2.1; omega)
    rw [decide_eq_true rfl] at hsm
    clear hfg hb10 hll
    go_wp2_with (go_at_call 19; refine hsm.mono ?_; clear hsm; rintro _ w11 ⟨rfl, hb11⟩)
    go_ret
    exact ⟨rfl, HB10.out.trans (hb11.mono HB10.out.size)⟩
  · have hne : (E != 0) = true := by simpa using h0
    clear h0
    go_wp2_with fail
    go_ret
    exact ⟨rfl, HB9.out⟩
end Go.Proofs.YtpcoiakdbfihlaaDoor

/-! The statement FilesChecks, proved: for every slice of files and every string the law returns true. No condition but that utf8's two tables hold what the program's text lays (the card ties it; no walk reads them). -/
namespace Go.Proofs.YtpcoiakdbfihlaaDoor.filesChecks
open Go.ChangeShapes Go.WideShapes Go.ChangeAt Go.RowKit
set_option linter.unusedVariables false

set_option maxRecDepth 100000 in
theorem lifted (os : Os) (started : os.Started) (H : Type) (enc : TypeId × Value → H) :
    ReturnsInHanded {} Tryd.checked os 3 .any (fun w args => (Rows.filesChecksSpec.pre enc Tryd.prog Tryd.f3 [] false w args ∧ laidMetH Tryd.prog laidsU w) ∧ sizedMet enc Tryd.prog Tryd.f3 (OpenSpec.ofChange Rows.filesChecksSpec) false w args) (Rows.filesChecksSpec.post enc Tryd.prog Tryd.f3 false true false false) := by
  refine returnsInHanded_of_change_and (C := Tryd.checked) (X := fun w _ => laidMetH Tryd.prog laidsU w) (fun _ _ _ hh h => h.of_heap hh) own_knob started (by kernel_rfl) Tryd.func3
    (ChangeSpec.witness_shaped (enc := enc) (C := Tryd.checked) (os := os) (X := fun w _ => laidMetH Tryd.prog laidsU w) false (World.laidAll Tryd.prog os laidsU) #[.slice none 0 0, .string ByteArray.empty] 8 (World.laidAll_os _ _ _) (World.shaped_of_ZipB (by kernel_rfl) (by kernel_rfl)) (by kernel_rfl) (by kernel_rfl) (by kernel_rfl) (door_metU os _)) ?_
  intro W base args ds gs before hval0 hW _ _ hL _
  have hval : ∀ (j : Nat) t v, Tryd.f3.params[j]? = some t → args[j]? = some v → Value.okWide Tryd.prog W .any base t v := hval0
  have hW' := hW
  obtain ⟨p, q, hA0, hV, rfl, hfz, hnd⟩ := hW
  have hA : DataW.TrodAll enc Tryd.prog W 0 (fun _ => true) true Tryd.f3.params.toList args.toList ds p := hA0
  rw [Tryd.params3] at hA hval
  obtain ⟨v0, vs0, d0, ds0, p0, q0, hargs, rfl, rfl, h0, r0⟩ := trodAll_cons hA
  obtain ⟨v1, vs1, d1, ds1, p1, q1, rfl, rfl, rfl, h1, r1⟩ := trodAll_cons r0
  obtain ⟨rfl, rfl, rfl⟩ := trodAll_nil r1
  obtain rfl : args = #[v0, v1] := by cases args; simp_all
  obtain ⟨rfl, rfl⟩ := trodVars_none hV
  obtain ⟨a0, len0, cap0, rfl⟩ := okWide_slice Tryd.underlying22 (hval 0 22 v0 rfl rfl)
  obtain ⟨l0, w0⟩ := fils_in rfl h0
  obtain ⟨s1, rfl, rfl, rfl, w1⟩ := Go.ChangeMaps.open_string Tryd.underlying9 (hval 1 9 v1 rfl rfl) h1
  clear hA0 hval0
  refine (law_fchecks w0 w1).mono fun e W' ⟨he, bel⟩ => ?_
  subst he
  exact ⟨_, rfl, _, _, _, [], _, [], hW', trodAll_mk1 (shut_bool Tryd.underlying4 _), (trodAll_cons_mk (Below.trod laid_out (by kernel_rfl) (of_decide_eq_true (by kernel_rfl)) h0 bel (trod_lt h0)) (trodAll_cons_mk (Go.ChangeMaps.shut_string Tryd.underlying9 w1) trodAll_mk0)), rfl, bel.frame _, fun h => by cases h⟩

theorem proved : Rows.FilesChecksSaid :=
  OpenClaim.holds_of_wide 3 Tryd.f3 rfl rfl rfl rfl rfl rfl rfl ⟨rfl, rfl, rfl, rfl, rfl⟩ rfl rfl rfl rfl rfl (by kernel_rfl) Tryd.func3 (by kernel_rfl)
    (of_decide_eq_true (by kernel_rfl)) (by unfold Func.isWrapper; first | (rw [if_pos (by decide +kernel)]; kernel_rfl) | (rw [if_neg (by decide +kernel)]; exact ⟨rfl, rfl⟩))
    (fun os started H enc _ => lifted os started H enc)

theorem proved_card : Rows.FilesChecksCardSaid :=
  Claim7.holds_tied_plain_at .later [] [.data, .pinned] true (true, Rows.filesChecksCard.stood.harness.2) false proved (fun _ h => by cases h) (by kernel_rfl) (fun _ h => by cases h) filesChecks_row_tie rfl ⟨rfl, rfl⟩ (by kernel_rfl) rfl
    (fun f fn hf hfn => by
      obtain rfl : f = 3 := Option.some.inj ((show Tryd.prog.funcNamed Rows.filesChecksRow.func = some 3 by kernel_rfl).symm.trans hf) |>.symm
      obtain rfl : fn = Tryd.f3 := (Option.some.inj (Tryd.func3.symm.trans hfn)).symm
      exact ⟨by kernel_rfl, fun j t ht => by
        have hall : (Tryd.f3.params.toList.all fun u => !Tryd.prog.wantsStandIn u) = true := by kernel_rfl
        exact (show Tryd.prog.wantsStandIn t = false by simpa using List.all_eq_true.1 hall t (by rw [Array.mem_toList_iff]; exact Array.mem_of_getElem? ht))⟩)
    (by kernel_rfl)
#print axioms proved_card
end Go.Proofs.YtpcoiakdbfihlaaDoor.filesChecks
