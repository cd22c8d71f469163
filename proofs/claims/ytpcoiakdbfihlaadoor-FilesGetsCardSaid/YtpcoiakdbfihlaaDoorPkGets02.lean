/-
  The law FilesGets.
  The statement FilesGets, proved: for every slice of bytes the law returns true. No condition but that utf8's two tables hold what the program's text lays (the card ties it; no walk reads them).
-/
import Derived.Test.YtpcoiakdbfihlaaDoorPkGets01
import Derived.Test.YtpcoiakdbfihlaaDoorPkChecks04
import Derived.Test.YtpcoiakdbfihlaaDoorPk11
import Derived.Test.YtpcoiakdbfihlaaDoorCards
import Derived.Test.YtpcoiakdbfihlaaDoorTie
import Derived.SevenTiedAt
/-! The law FilesGets. -/
namespace Go.Proofs.YtpcoiakdbfihlaaDoor
open Go.RowKit Codec

set_option maxHeartbeats 16000000 in
set_option maxRecDepth 100000 in
theorem law_fgets {w : World} {S : Nat → Prop} {A : Option Addr} {n c : Nat} {b : List UInt8} (hb : Byt w S A n c b) :
    Calls Tryd.prog 4 #[.slice A n c] w fun e w' => e = .returned (.bool true) ∧ Below w.heap.size w w' := by
  have haw := fawake_true w
  have HB := Lib.hid hb
  clear hb
  by_cases hbig : n > 1000
  · have hb' : (n : Int) > 1000 := by omega
    clear hbig
    go_enter Tryd.func4, Tryd.ntmps4
    go_wp2_with (go_at_call 9; refine haw.mono ?_; clear haw; rintro _ w1 ⟨rfl, hb1⟩)
    go_ret
    exact ⟨rfl, hb1⟩
  have hb' : ¬ (n : Int) > 1000 := by omega
  have hn : n ≤ 1000 := by omega
  clear hbig
  go_enter Tryd.func4, Tryd.ntmps4
  go_upto_region 6 with (go_at_call 9; refine haw.mono ?_; clear haw; rintro _ w1 ⟨rfl, hb1⟩)
  have HB1 := Lib.hid hb1
  have hg := fget_any (HB.out.below hb1) (by omega)
  obtain ⟨r, hr⟩ : ∃ r, r = getF b := ⟨_, rfl⟩
  have HLEN : Hid (r.1.length ≤ 65536) := Lib.hid (by rw [hr]; exact getF_len b)
  have HPG : Hid (r.2 = 0 → chkE r.1 = 0 ∧ filB r.1 = b) := Lib.hid fun h => put_get (by rw [← hr, ← h])
  have hrg := fun W => rget_any b W
  rw [← hr] at hg hrg
  clear hr hb1
  obtain ⟨l, E⟩ := r
  have hg2 : Calls Tryd.prog 18 #[.slice A n c] w1 fun e w' => ∃ Ag cg, e = .returned (.tuple #[.slice Ag l.length cg, .int .i64 E]) ∧ Fls w' (w1.heap.size ≤ ·) Ag l.length cg l ∧ Below w1.heap.size w1 w' := hg
  have hrg2 : ∀ W, Calls Tryd.prog 20 #[.string (st b)] W fun e w' => ∃ Ag cg, e = .returned (.tuple #[.slice Ag l.length cg, .int .i64 E]) ∧ Fms w' (W.heap.size ≤ ·) Ag l.length cg l ∧ Below W.heap.size W w' := hrg
  have HLEN2 : Hid (l.length ≤ 65536) := Lib.hid HLEN.out
  have HPG2 : Hid (E = 0 → chkE l = 0 ∧ filB l = b) := Lib.hid HPG.out
  clear hg hrg HLEN HPG
  obtain ⟨M, hM⟩ : ∃ M, M = l.length := ⟨_, rfl⟩
  rw [← hM] at hg2 hrg2 HLEN2
  clear hM
  go_upto_region 7 with (go_at_call 18; refine hg2.mono ?_; clear hg2; rintro _ w2 ⟨Ag, cg, rfl, hfl, hb2⟩)
  have HB2 := Lib.hid (HB1.out.trans (hb2.mono HB1.out.size))
  have HF2 := Lib.hid hfl
  have hcv := byt_string (HB.out.below HB2.out)
  have hrg3 := hrg2 w2
  clear hb2 hfl hrg2
  go_upto_region 8 with (go_at_call 20; refine hrg3.mono ?_; clear hrg3; rintro _ w3 ⟨Am, cm, rfl, hfm, hb3⟩)
  have HB3 := Lib.hid (HB2.out.trans (hb3.mono HB2.out.size))
  have HF3 : Hid (Fls w3 (w1.heap.size ≤ ·) Ag M cg l) := Lib.hid (HF2.out.below hb3)
  have HM3 := Lib.hid hfm
  have hof := filesof_any HF3.out (by have := HLEN2.out; omega)
  clear hb3 hfm hcv HF2
  go_upto_region 10 with (first
    | (go_at_call 11; refine hof.mono ?_; clear hof; rintro _ w4 ⟨Ao, co, rfl, hfo, hb4⟩; have hsm := rsame_any hfo (HM3.out.below hb4) (by have := HLEN2.out; omega); clear hfo)
    | (go_at_call 21; refine hsm.mono ?_; clear hsm; rintro _ w5 ⟨rfl, hb5⟩))
  have hb35 := hb4.trans (hb5.mono hb4.size)
  have HB5 := Lib.hid (HB3.out.trans (hb35.mono HB3.out.size))
  have HF5 : Hid (Fls w5 (w1.heap.size ≤ ·) Ag M cg l) := Lib.hid (HF3.out.below hb35)
  clear hb4 hb5 hb35 HF3 HM3
  by_cases h0 : E = 0
  · subst h0
    have HOK := Lib.hid (HPG2.out rfl)
    have hpt := fput_any HF5.out (by have := HLEN2.out; omega) (fun x hx => by have h1 := pathOk_len (rise_path (chk_ok HOK.out.1).1 x hx); unfold maxLen; omega)
    rw [HOK.out.1, show fpB l = b by unfold fpB; rw [if_pos HOK.out.1]; exact HOK.out.2] at hpt
    go_upto_region 13 with (go_at_call 12; refine hpt.mono ?_; clear hpt; rintro _ w6 ⟨Ax, nx, cx, rfl, hx, hb6⟩)
    have HB6 := Lib.hid (HB5.out.trans (hb6.mono HB5.out.size))
    have hc1 := byt_string hx
    have hc2 := byt_string (HB.out.below HB6.out)
    clear hx hb6
    go_wp2_with fail
    go_ret
    exact ⟨rfl, HB6.out⟩
  · have hne : (E != 0) = true := by simpa using h0
    clear h0
    go_wp2_with fail
    go_ret
    exact ⟨rfl, HB5.out⟩
end Go.Proofs.YtpcoiakdbfihlaaDoor

/-! The statement FilesGets, proved: for every slice of bytes the law returns true. No condition but that utf8's two tables hold what the program's text lays (the card ties it; no walk reads them). -/
namespace Go.Proofs.YtpcoiakdbfihlaaDoor.filesGets
open Go.ChangeShapes Go.WideShapes Go.ChangeAt Go.RowKit
set_option linter.unusedVariables false

set_option maxRecDepth 100000 in
theorem lifted (os : Os) (started : os.Started) (H : Type) (enc : TypeId × Value → H) :
    ReturnsInHanded {} Tryd.checked os 4 .any (fun w args => (Rows.filesGetsSpec.pre enc Tryd.prog Tryd.f4 [] false w args ∧ laidMetH Tryd.prog laidsU w) ∧ sizedMet enc Tryd.prog Tryd.f4 (OpenSpec.ofChange Rows.filesGetsSpec) false w args) (Rows.filesGetsSpec.post enc Tryd.prog Tryd.f4 false true false false) := by
  refine returnsInHanded_of_change_and (C := Tryd.checked) (X := fun w _ => laidMetH Tryd.prog laidsU w) (fun _ _ _ hh h => h.of_heap hh) own_knob started (by kernel_rfl) Tryd.func4
    (ChangeSpec.witness_shaped (enc := enc) (C := Tryd.checked) (os := os) (X := fun w _ => laidMetH Tryd.prog laidsU w) false (World.laidAll Tryd.prog os laidsU) #[.slice none 0 0] 8 (World.laidAll_os _ _ _) (World.shaped_of_ZipB (by kernel_rfl) (by kernel_rfl)) (by kernel_rfl) (by kernel_rfl) (by kernel_rfl) (door_metU os _)) ?_
  intro W base args ds gs before hval0 hW _ _ hL _
  have hval : ∀ (j : Nat) t v, Tryd.f4.params[j]? = some t → args[j]? = some v → Value.okWide Tryd.prog W .any base t v := hval0
  have hW' := hW
  obtain ⟨p, q, hA0, hV, rfl, hfz, hnd⟩ := hW
  have hA : DataW.TrodAll enc Tryd.prog W 0 (fun _ => true) true Tryd.f4.params.toList args.toList ds p := hA0
  rw [Tryd.params4] at hA hval
  obtain ⟨v0, vs0, d0, ds0, p0, q0, hargs, rfl, rfl, h0, r0⟩ := trodAll_cons hA
  obtain ⟨rfl, rfl, rfl⟩ := trodAll_nil r0
  obtain rfl : args = #[v0] := by cases args; simp_all
  obtain ⟨rfl, rfl⟩ := trodVars_none hV
  obtain ⟨a0, len0, cap0, rfl⟩ := okWide_slice Tryd.underlying27 (hval 0 27 v0 rfl rfl)
  obtain ⟨l0, w0⟩ := bytes_in rfl h0
  clear hA0 hval0
  refine (law_fgets w0).mono fun e W' ⟨he, bel⟩ => ?_
  subst he
  exact ⟨_, rfl, _, _, _, [], _, [], hW', trodAll_mk1 (shut_bool Tryd.underlying4 _), (trodAll_cons_mk (Below.trod laid_out (by kernel_rfl) (of_decide_eq_true (by kernel_rfl)) h0 bel (trod_lt h0)) trodAll_mk0), rfl, bel.frame _, fun h => by cases h⟩

theorem proved : Rows.FilesGetsSaid :=
  OpenClaim.holds_of_wide 4 Tryd.f4 rfl rfl rfl rfl rfl rfl rfl ⟨rfl, rfl, rfl, rfl, rfl⟩ rfl rfl rfl rfl rfl (by kernel_rfl) Tryd.func4 (by kernel_rfl)
    (of_decide_eq_true (by kernel_rfl)) (by unfold Func.isWrapper; first | (rw [if_pos (by decide +kernel)]; kernel_rfl) | (rw [if_neg (by decide +kernel)]; exact ⟨rfl, rfl⟩))
    (fun os started H enc _ => lifted os started H enc)

theorem proved_card : Rows.FilesGetsCardSaid :=
  Claim7.holds_tied_plain_at .later [] [.data, .pinned] true (true, Rows.filesGetsCard.stood.harness.2) false proved (fun _ h => by cases h) (by kernel_rfl) (fun _ h => by cases h) filesGets_row_tie rfl ⟨rfl, rfl⟩ (by kernel_rfl) rfl
    (fun f fn hf hfn => by
      obtain rfl : f = 4 := Option.some.inj ((show Tryd.prog.funcNamed Rows.filesGetsRow.func = some 4 by kernel_rfl).symm.trans hf) |>.symm
      obtain rfl : fn = Tryd.f4 := (Option.some.inj (Tryd.func4.symm.trans hfn)).symm
      exact ⟨by kernel_rfl, fun j t ht => by
        have hall : (Tryd.f4.params.toList.all fun u => !Tryd.prog.wantsStandIn u) = true := by kernel_rfl
        exact (show Tryd.prog.wantsStandIn t = false by simpa using List.all_eq_true.1 hall t (by rw [Array.mem_toList_iff]; exact Array.mem_of_getElem? ht))⟩)
    (by kernel_rfl)
#print axioms proved_card
end Go.Proofs.YtpcoiakdbfihlaaDoor.filesGets
