/-
  The law DedupGets.
  The statement DedupGets, proved: for every row of bytes the law returns true. No condition.
-/
import Derived.Test.YtmmibldchfmleaaPkGt04
import Derived.Test.YtmmibldchfmleaaPkGt05
import Derived.Test.YtmmibldchfmleaaPk11
import Derived.Test.YtmmibldchfmleaaPk02
/-! The law DedupGets. -/
namespace Go.Proofs.Ytmmibldchfmleaa
open Go.RowKit Go.Maps Codec

theorem plsB_ge : ∀ {t : Tv Pl}, OkT t → 64 * t.length ≤ (plsB t).length
  | [], _ => by simp
  | e :: t, h => by
    have h1 := h e (by simp)
    have h2 := plsB_ge (t := t) fun x hx => h x (by simp [hx])
    have e1 : plsB (e :: t) = plB e ++ plsB t := by simp [plsB]
    rw [e1, List.length_append, List.length_cons]
    have e2 : 64 ≤ (plB e).length := by unfold plB; simp [h1.1, h1.2.1]; omega
    omega
set_option maxHeartbeats 8000000 in
set_option maxRecDepth 100000 in
theorem law_dgets {w : World} {S : Nat → Prop} {A : Option Addr} {n c : Nat} {bs : List UInt8} (hb : Byt w S A n c bs) :
    Calls Try.prog 4 #[.slice A n c] w fun e w' => e = .returned (.bool true) ∧ Below w.heap.size w w' := by
  have haw := dawake_true w
  have HB := Lib.hid hb
  have HN := Lib.hid hb.len
  clear hb
  by_cases hbig : n > 1000
  · have hb' : (n : Int) > 1000 := by omega
    clear hbig
    go_enter Try.func4, Try.ntmps4
    go_wp2_with (go_at_call 8; refine haw.mono ?_; clear haw; rintro _ w1 ⟨rfl, hb1⟩)
    go_ret
    exact ⟨rfl, hb1⟩
  have hb' : ¬ (n : Int) > 1000 := by omega
  have HK : Hid (n ≤ 1000) := Lib.hid (by omega)
  clear hbig
  go_enter Try.func4, Try.ntmps4
  go_upto_region 6 with (go_at_call 8; refine haw.mono ?_; clear haw; rintro _ w1 ⟨rfl, hb1⟩; have H1 := Lib.hid hb1; clear hb1)
  have hge := ixget_any (HB.out.below H1.out) (by have := HK.out; omega)
  by_cases hg2 : (getD bs).2 = 0
  · have hgl : Calls Try.prog 18 #[.slice A n c] w1 fun e w' => ∃ p b, e = .returned (.tuple #[.pointer (some ⟨p, 0, none⟩), .int .i64 0]) ∧ Ix w' p b (getD bs).1 ∧ Below w1.heap.size w1 w' := hge.mono (by
      rintro e w' (⟨p, b, h1, _, h2, _, _, h3⟩ | ⟨_, h, _⟩)
      · exact ⟨p, b, h1, h2, h3⟩
      · exact absurd hg2 h)
    clear hge
    have HG2 := Lib.hid hg2
    clear hg2
    go_upto_region 7 with (go_at_call 18; refine hgl.mono ?_; clear hgl; rintro _ w2 ⟨p, b, rfl, hix, hb2⟩)
    have hg2 := HG2.out
    obtain ⟨t, ht⟩ : ∃ t, getD bs = (t, 0) := ⟨(getD bs).1, by rw [← hg2]⟩
    obtain ⟨hsv, hok, hib⟩ := dd_put_get ht
    rw [ht] at hix
    have hln : t.length ≤ 1000 := by
      have h1 := plsB_ge hok
      have h2 : (ixB t).length = (put t.length).length + (plsB t).length := by simp [ixB]
      rw [hib, HN.out] at h2
      have := HK.out
      omega
    have hb12 := H1.out.trans (hb2.mono H1.out.size)
    have hby2 := HB.out.below hb12
    have hcv := byt_string hby2
    rw [show (⟨bs.toArray⟩ : ByteArray) = st bs from rfl] at hcv
    have hrg := drget_any bs (by have := HN.out; have := HK.out; omega) w2
    rw [ht] at hrg
    obtain ⟨SB, hSB⟩ : ∃ SB, SB = st bs := ⟨_, rfl⟩
    rw [← hSB] at hcv hrg
    have HT := Lib.hid (And.intro hok (And.intro hib (And.intro hln (And.intro hix (And.intro hb12 hSB)))))
    clear hg2 ht hsv hok hib hix hln hby2 hb2 hb12 hSB
    go_upto_region 10 with (go_at_call 20; refine hrg.mono ?_; clear hrg; rintro _ w3 ⟨A3, c3, rfl, hes, hb3⟩)
    obtain ⟨N, hN⟩ : ∃ N, N = t.length := ⟨_, rfl⟩
    have e3 : ((t, (0 : Int)) : Tv Pl × Int).1.length = N := hN.symm
    rw [e3] at hes ⊢
    have HE : Hid (Es w3 (w2.heap.size ≤ ·) A3 N c3 t ∧ N = t.length ∧ Below w2.heap.size w2 w3) := Lib.hid ⟨hes, hN, hb3⟩
    clear hes hN hb3 e3 hcv
    have HP : Hid (∀ W, Below w3.drew.heap.size w3.drew W → (Calls Try.prog 17 #[.pointer (some ⟨p, 0, none⟩), .slice A3 N c3] W fun e w' => e = .returned (.bool true) ∧ Below W.heap.size W w') ∧
        (Calls Try.prog 19 #[.pointer (some ⟨p, 0, none⟩)] W fun e w' => ∃ A c, e = .returned (.slice A bs.length c) ∧ Byt w' (fun _ => True) A bs.length c bs ∧ Below W.heap.size W w') ∧ Byt W S A n c bs ∧ Below w.heap.size w W) := Lib.hid fun W hW => by
      have h3W := (below_drew (Below.refl w3.heap.size w3)).trans hW
      have h2W := HE.out.2.2.trans (h3W.mono HE.out.2.2.size)
      have hwW := HT.out.2.2.2.2.1.trans (h2W.mono HT.out.2.2.2.2.1.size)
      have hx := HT.out.2.2.2.1.below h2W
      refine ⟨dlike_any hx (HE.out.1.below h3W) HT.out.1 (by have := HE.out.2.1; have := HT.out.2.2.1; omega), ?_, HB.out.below hwW, hwW⟩
      have hp := ixput_any hx (by have := HT.out.2.2.1; omega) HT.out.1
      rw [HT.out.2.1] at hp
      exact hp.mono (by rintro _ w' ⟨A, c, rfl, h1, h2⟩; exact ⟨A, c, rfl, h1.mono (fun _ _ _ => trivial), h2⟩)
    refine wp_region_grow (fun W W' => Below W.heap.size W W') (Grow.nth [fun v _ => v = .int .i64 0, fun v _ => v = .bool false, fun v _ => v = .bool false, fun v _ => v = .pointer (some ⟨p, 0, none⟩), fun v _ => v = .slice A3 N c3, fun v _ => v = .bool true, fun v _ => v = .bool true, fun v _ => v = .pointer (some ⟨p, 0, none⟩), fun v W => ∃ A c, v = .slice A bs.length c ∧ Byt W (fun _ => True) A bs.length c bs, fun v _ => v = .string (st bs), fun v _ => v = .slice A n c, fun v _ => v = .string (st bs), fun v _ => v = .bool true, fun v _ => v = .bool true, fun v _ => v = .bool true, fun v _ => v = .bool true]) 50 (by kernel_rfl) (by kernel_rfl) (by rfl) (fun W => Below.refl _ W) (fun _ _ _ h1 h2 => h1.trans (h2.mono h1.size)) (Grow.mono_nth ?gmono) ?gsteps ?gfin
    case gmono => exact ⟨fun _ _ _ h _ => h, fun _ _ _ h _ => h, fun _ _ _ h _ => h, fun _ _ _ h _ => h, fun _ _ _ h _ => h, fun _ _ _ h _ => h, fun _ _ _ h _ => h, fun _ _ _ h _ => h, fun _ _ _ ⟨A, c, h1, h2⟩ hg => ⟨A, c, h1, h2.below hg⟩, fun _ _ _ h _ => h, fun _ _ _ h _ => h, fun _ _ _ h _ => h, fun _ _ _ h _ => h, fun _ _ _ h _ => h, fun _ _ _ h _ => h, fun _ _ _ h _ => h, trivial⟩
    case gsteps =>
      show Grow.allBelow _ 16
      refine And.intro ?_ ?s15
      refine And.intro ?_ ?s14
      refine And.intro ?_ ?s13
      refine And.intro ?_ ?s12
      refine And.intro ?_ ?s11
      refine And.intro ?_ ?s10
      refine And.intro ?_ ?s9
      refine And.intro ?_ ?s8
      refine And.intro ?_ ?s7
      refine And.intro ?_ ?s6
      refine And.intro ?_ ?s5
      refine And.intro ?_ ?s4
      refine And.intro ?_ ?s3
      refine And.intro ?_ ?s2
      refine And.intro ?_ ?s1
      refine And.intro ?_ ?s0
      exact trivial
      case s0 =>
        refine Grow.step_in (by rfl) (by rfl) ?_
        intro E W ec eg ef hG hd hu R HR
        have e5 : E (.tmp 5) = .int .i64 0 := hu 5 (by kernel_rfl)
        clear hd hu
        go_simp
        exact HR.out _ _ (Below.refl _ _) rfl
      case s1 =>
        refine Grow.step_in (by rfl) (by rfl) ?_
        intro E W ec eg ef hG hd hu R HR
        have e35 : E (.tmp 35) = .int .i64 0 := hd 0 35 (by kernel_rfl)
        clear hd hu
        go_simp
        exact HR.out _ _ (Below.refl _ _) rfl
      case s2 =>
        refine Grow.step_in (by rfl) (by rfl) ?_
        intro E W ec eg ef hG hd hu R HR
        have e36 : E (.tmp 36) = .bool false := hd 1 36 (by kernel_rfl)
        clear hd hu
        go_simp
        exact HR.out _ _ (Below.refl _ _) rfl
      case s3 =>
        refine Grow.step_on (g := 2) (b := false) (d := 37) (by rfl) (by rfl) (by rfl) (by kernel_rfl) (fun v W h => h) ?_
        intro E W ec eg ef hG hd hu R HR
        have e4 : E (.tmp 4) = .pointer (some ⟨p, 0, none⟩) := hu 4 (by kernel_rfl)
        clear hd hu
        go_simp
        exact HR.out _ _ (Below.refl _ _) rfl
      case s4 =>
        refine Grow.step_on (g := 2) (b := false) (d := 37) (by rfl) (by rfl) (by rfl) (by kernel_rfl) (fun v W h => h) ?_
        intro E W ec eg ef hG hd hu R HR
        have e6 : E (.tmp 6) = .slice A3 N c3 := hu 6 (by kernel_rfl)
        clear hd hu
        go_simp
        exact HR.out _ _ (Below.refl _ _) rfl
      case s5 =>
        refine Grow.step_on (g := 2) (b := false) (d := 37) (by rfl) (by rfl) (by rfl) (by kernel_rfl) (fun v W h => h) ?_
        intro E W ec eg ef hG hd hu R HR
        have e38 : E (.tmp 38) = .pointer (some ⟨p, 0, none⟩) := hd 3 38 (by kernel_rfl)
        have e39 : E (.tmp 39) = .slice A3 N c3 := hd 4 39 (by kernel_rfl)
        clear hd hu
        have hcl := (HP.out W hG).1
        go_simp
        refine hcl.mono ?_
        rintro _ w' ⟨rfl, hb⟩
        exact ⟨_, rfl, HR.out _ _ hb rfl⟩
      case s6 =>
        refine Grow.step_on (g := 2) (b := false) (d := 37) (by rfl) (by rfl) (by rfl) (by kernel_rfl) (fun v W h => h) ?_
        intro E W ec eg ef hG hd hu R HR
        have e40 : E (.tmp 40) = .bool true := hd 5 40 (by kernel_rfl)
        clear hd hu
        go_simp
        exact HR.out _ _ (Below.refl _ _) rfl
      case s7 =>
        refine Grow.step_on (g := 6) (b := true) (d := 41) (by rfl) (by rfl) (by rfl) (by kernel_rfl) (fun v W h => h) ?_
        intro E W ec eg ef hG hd hu R HR
        have e4 : E (.tmp 4) = .pointer (some ⟨p, 0, none⟩) := hu 4 (by kernel_rfl)
        clear hd hu
        go_simp
        exact HR.out _ _ (Below.refl _ _) rfl
      case s8 =>
        refine Grow.step_on (g := 6) (b := true) (d := 41) (by rfl) (by rfl) (by rfl) (by kernel_rfl) (fun v W h => h) ?_
        intro E W ec eg ef hG hd hu R HR
        have e42 : E (.tmp 42) = .pointer (some ⟨p, 0, none⟩) := hd 7 42 (by kernel_rfl)
        clear hd hu
        have hpu := (HP.out W hG).2.1
        go_simp
        refine hpu.mono ?_
        rintro _ w' ⟨A, c, rfl, h, hb⟩
        exact ⟨_, rfl, HR.out _ _ hb ⟨A, c, rfl, h⟩⟩
      case s9 =>
        refine Grow.step_on (g := 6) (b := true) (d := 41) (by rfl) (by rfl) (by rfl) (by kernel_rfl) (fun v W h => h) ?_
        intro E W ec eg ef hG hd hu R HR
        have h43 := hd 8 43 (by kernel_rfl)
        clear hd hu
        obtain ⟨A, c, eA, hA⟩ := h43
        have hcv := byt_string hA
        rw [← eA] at hcv
        clear eA
        go_simp
        exact HR.out _ _ (Below.refl _ _) rfl
      case s10 =>
        refine Grow.step_on (g := 6) (b := true) (d := 41) (by rfl) (by rfl) (by rfl) (by kernel_rfl) (fun v W h => h) ?_
        intro E W ec eg ef hG hd hu R HR
        have e0 : E (.tmp 0) = .slice A n c := hu 0 (by kernel_rfl)
        clear hd hu
        go_simp
        exact HR.out _ _ (Below.refl _ _) rfl
      case s11 =>
        refine Grow.step_on (g := 6) (b := true) (d := 41) (by rfl) (by rfl) (by rfl) (by kernel_rfl) (fun v W h => h) ?_
        intro E W ec eg ef hG hd hu R HR
        have e45 : E (.tmp 45) = .slice A n c := hd 10 45 (by kernel_rfl)
        clear hd hu
        have hcv := byt_string (HP.out W hG).2.2.1
        go_simp
        exact HR.out _ _ (Below.refl _ _) rfl
      case s12 =>
        refine Grow.step_on (g := 6) (b := true) (d := 41) (by rfl) (by rfl) (by rfl) (by kernel_rfl) (fun v W h => h) ?_
        intro E W ec eg ef hG hd hu R HR
        have e44 : E (.tmp 44) = .string (st bs) := hd 9 44 (by kernel_rfl)
        have e46 : E (.tmp 46) = .string (st bs) := hd 11 46 (by kernel_rfl)
        clear hd hu
        go_simp
        exact HR.out _ _ (Below.refl _ _) rfl
      case s13 =>
        refine Grow.step_on (g := 2) (b := false) (d := 37) (by rfl) (by rfl) (by rfl) (by kernel_rfl) (fun v W h => h) ?_
        intro E W ec eg ef hG hd hu R HR
        have e41 : E (.tmp 41) = .bool true := hd 6 41 (by kernel_rfl)
        have e47 : E (.tmp 47) = .bool true := hd 12 47 (by kernel_rfl)
        clear hd hu
        go_simp
        exact HR.out _ _ (Below.refl _ _) rfl
      case s14 =>
        refine Grow.step_in (by rfl) (by rfl) ?_
        intro E W ec eg ef hG hd hu R HR
        have e37 : E (.tmp 37) = .bool false := hd 2 37 (by kernel_rfl)
        have e48 : E (.tmp 48) = .bool true := hd 13 48 (by kernel_rfl)
        clear hd hu
        go_simp
        exact HR.out _ _ (Below.refl _ _) rfl
      case s15 =>
        refine Grow.step_in (by rfl) (by rfl) ?_
        intro E W ec eg ef hG hd hu R HR
        have e49 : E (.tmp 49) = .bool true := hd 14 49 (by kernel_rfl)
        clear hd hu
        go_simp
        exact HR.out _ _ (Below.refl _ _) rfl
    case gfin =>
      intro W hG
      refine Grow.fin_dst (by rfl) ?_
      rintro _ rfl
      refine Grow.fin_dst (by rfl) ?_
      rintro _ rfl
      refine Grow.fin_dst (by rfl) ?_
      rintro _ rfl
      refine Grow.fin_dst (by rfl) ?_
      rintro _ rfl
      refine Grow.fin_dst (by rfl) ?_
      rintro _ rfl
      refine Grow.fin_dst (by rfl) ?_
      rintro _ rfl
      refine Grow.fin_dst (by rfl) ?_
      rintro _ rfl
      refine Grow.fin_dst (by rfl) ?_
      rintro _ rfl
      refine Grow.fin_dst (by rfl) ?_
      rintro _ ⟨_, _, rfl, _⟩
      refine Grow.fin_dst (by rfl) ?_
      rintro _ rfl
      refine Grow.fin_dst (by rfl) ?_
      rintro _ rfl
      refine Grow.fin_dst (by rfl) ?_
      rintro _ rfl
      refine Grow.fin_dst (by rfl) ?_
      rintro _ rfl
      refine Grow.fin_dst (by rfl) ?_
      rintro _ rfl
      refine Grow.fin_dst (by rfl) ?_
      rintro _ rfl
      refine Grow.fin_dst (by rfl) ?_
      rintro _ rfl
      simp only [Act.put, List.setIfInBounds_toArray, List.set_cons_zero, List.set_cons_succ]
      refine Grow.fin_end ?_
      have HF := Lib.hid (HP.out W hG).2.2.2
      clear hG
      go_wp2_with fail
      go_ret
      exact ⟨rfl, HF.out⟩
  · obtain ⟨E, hE⟩ : ∃ E, E = (getD bs).2 := ⟨_, rfl⟩
    have ht : getD bs = ([], E) := by rw [← getD_bad hg2, hE]
    have hgl : Calls Try.prog 18 #[.slice A n c] w1 fun e w' => e = .returned (.tuple #[.pointer none, .int .i64 E]) ∧ Below w1.heap.size w1 w' := hge.mono (by
      rintro e w' (⟨_, _, _, h, _⟩ | ⟨h1, _, h3⟩)
      · exact absurd h hg2
      · exact ⟨by rw [h1, hE], h3⟩)
    rw [← hE] at hg2
    clear hge
    have HG2 := Lib.hid (And.intro hg2 ht)
    clear hg2 ht hE
    go_upto_region 7 with (go_at_call 18; refine hgl.mono ?_; clear hgl; rintro _ w2 ⟨rfl, hb2⟩)
    have hg2 := HG2.out.1
    have ht := HG2.out.2
    have hne : (E != 0) = true := by simpa using hg2
    have hb12 := H1.out.trans (hb2.mono H1.out.size)
    have hcv := byt_string (HB.out.below hb12)
    rw [show (⟨bs.toArray⟩ : ByteArray) = st bs from rfl] at hcv
    have hrg := drget_any bs (by have := HN.out; have := HK.out; omega) w2
    rw [ht] at hrg
    obtain ⟨SB, hSB⟩ : ∃ SB, SB = st bs := ⟨_, rfl⟩
    rw [← hSB] at hcv hrg
    have HT := Lib.hid hb12
    clear hg2 ht hb2 hb12 hSB
    go_upto_region 10 with (go_at_call 20; refine hrg.mono ?_; clear hrg; rintro _ w3 ⟨A3, c3, rfl, hes, hb3⟩)
    have HF := Lib.hid (HT.out.trans (hb3.mono HT.out.size))
    clear hes hb3 hcv
    go_quiet (fail)
    go_wp2_with fail
    go_ret
    exact ⟨rfl, below_drewN HF.out _⟩
end Go.Proofs.Ytmmibldchfmleaa

/-! The statement DedupGets, proved: for every row of bytes the law returns true. No condition. -/
namespace Go.Proofs.Ytmmibldchfmleaa.dedupGets
open Go.ChangeShapes Go.WideShapes Go.ChangeAt Go.RowKit
set_option linter.unusedVariables false

set_option maxRecDepth 100000 in
theorem lifted (os : Os) (started : os.Started) (H : Type) (enc : TypeId × Value → H) :
    ReturnsInHanded {} Try.checked os 4 .any (Rows.dedupGetsSpec.pre6 enc Try.prog Try.f4 Rows.dedupGetsRow.domain false) (Rows.dedupGetsSpec.post enc Try.prog Try.f4 false true false false) := by
  refine returnsInHanded_of_change (C := Try.checked) own_knob started (by kernel_rfl) Try.func4
    (ChangeSpec.witness6 (enc := enc) (C := Try.checked) false ⟨#[], #[.slice none 0 0], []⟩ 8 (by kernel_rfl) (by kernel_rfl) (by kernel_rfl) (by kernel_rfl)) ?_
  intro W base args ds gs before hval0 hW hcnd _
  have hval : ∀ (j : Nat) t v, Try.f4.params[j]? = some t → args[j]? = some v → Value.okWide Try.prog W .any base t v := hval0
  have hW' := hW
  obtain ⟨p, q, hA0, hV, rfl, hfz, hnd⟩ := hW
  have hA : DataW.TrodAll enc Try.prog W 0 (fun _ => true) true Try.f4.params.toList args.toList ds p := hA0
  rw [Try.params4] at hA hval
  obtain ⟨v0, vs0, d0, ds0, p0, q0, hargs, rfl, rfl, h0, r0⟩ := trodAll_cons hA
  obtain ⟨rfl, rfl, rfl⟩ := trodAll_nil r0
  obtain rfl : args = #[v0] := by cases args; simp_all
  obtain ⟨rfl, rfl⟩ := trodVars_none hV
  obtain ⟨a0, len0, cap0, rfl⟩ := okWide_slice Try.underlying49 (hval 0 49 v0 rfl rfl)
  obtain ⟨l0, w0⟩ := bytes_in rfl h0
  clear hA0 hval0
  refine (law_dgets w0).mono fun e W' ⟨he, bel⟩ => ?_
  subst he
  exact ⟨_, rfl, _, _, _, [], _, [], hW', trodAll_mk1 (shut_bool Try.underlying4 _), (trodAll_cons_mk (Below.trod laid_out (by kernel_rfl) (of_decide_eq_true (by kernel_rfl)) h0 bel (trod_lt h0)) trodAll_mk0), rfl, bel.frame _, fun h => by cases h⟩

theorem proved : Rows.DedupGetsSaid :=
  OpenClaim.holds_of_wide 4 Try.f4 rfl rfl rfl rfl rfl rfl rfl ⟨rfl, rfl, rfl, rfl, rfl⟩ rfl rfl rfl rfl rfl (by kernel_rfl) Try.func4 (by kernel_rfl)
    (of_decide_eq_true (by kernel_rfl)) (by unfold Func.isWrapper; first | (rw [if_pos (by decide +kernel)]; kernel_rfl) | (rw [if_neg (by decide +kernel)]; exact ⟨rfl, rfl⟩))
    (fun os started H enc _ => lifted os started H enc)
#print axioms proved
end Go.Proofs.Ytmmibldchfmleaa.dedupGets
