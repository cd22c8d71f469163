/-
  The law ObjectsGets.
  The statement ObjectsGets, proved: for every slice of bytes the law returns true. No condition but that utf8's two tables hold what the program's text lays (the card ties it; no walk reads them).
-/
import Derived.Test.YtmakpjcgiiljfaaDoorPk15
import Derived.Test.YtmakpjcgiiljfaaDoorPkGets03
import Derived.Test.YtmakpjcgiiljfaaDoorPkGets04
import Derived.Test.YtmakpjcgiiljfaaDoorPk01
import Derived.Test.YtmakpjcgiiljfaaDoorCards
import Derived.Test.YtmakpjcgiiljfaaDoorTie
import Derived.SevenTiedAt
/-! The law ObjectsGets. -/
namespace Go.Proofs.YtmakpjcgiiljfaaDoor
open Go.RowKit Codec

theorem getO_small (b : List UInt8) : (getO b).1.ids.length ≤ 1000 ∧ (getO b).1.es.length ≤ 1000 := by
  by_cases h : (getO b).2 = 0
  · have h1 := may_small (chk_may (obj_put_get (b := b) (x := (getO b).1) (Prod.ext rfl h)).1)
    exact ⟨h1.ids, by have := h1.es; omega⟩
  · rw [getO_bad h]
    simp [obZ]
set_option maxHeartbeats 16000000 in
set_option maxRecDepth 100000 in
theorem law_ogets {w : World} {S : Nat → Prop} {A : Option Addr} {n c : Nat} {b : List UInt8} (hb : Byt w S A n c b) :
    Calls Tryd.prog 4 #[.slice A n c] w fun e w' => e = .returned (.bool true) ∧ Below w.heap.size w w' := by
  have haw := oawake_true w
  have HB := Lib.hid hb
  clear hb
  by_cases hbig : n > 1000
  · have hb' : (n : Int) > 1000 := by omega
    clear hbig
    go_enter Tryd.func4, Tryd.ntmps4
    go_wp2_with (go_at_call 7; refine haw.mono ?_; clear haw; rintro _ w1 ⟨rfl, hb1⟩)
    go_ret
    exact ⟨rfl, hb1⟩
  have hb' : ¬ (n : Int) > 1000 := by omega
  have hn : n ≤ 1000 := by omega
  clear hbig
  go_enter Tryd.func4, Tryd.ntmps4
  go_upto_region 6 with (go_at_call 7; refine haw.mono ?_; clear haw; rintro _ w1 ⟨rfl, hb1⟩)
  have HB1 := Lib.hid hb1
  have hg := oget_any (HB.out.below hb1) (by omega)
  have hrg := fun W => rget_obj b W
  obtain ⟨X, hX⟩ : ∃ X, X = (getO b).1 := ⟨_, rfl⟩
  obtain ⟨EE, hE⟩ : ∃ EE, EE = (getO b).2 := ⟨_, rfl⟩
  have HLN : Hid (X.ids.length ≤ 1000 ∧ X.es.length ≤ 1000) := Lib.hid (by rw [hX]; exact getO_small b)
  have HPG : Hid (EE = 0 → chkO X = 0 ∧ putO X = b) := Lib.hid fun h => obj_put_get (Prod.ext hX.symm (by rw [← hE, h]))
  have hg2 : Calls Tryd.prog 14 #[.slice A n c] w1 fun e w' => ∃ XO, Hid (∃ P, XO = obV P X ∧ Obm w' (fun _ => True) P X) ∧ e = .returned (.tuple #[.agg XO, .int .i64 EE]) ∧ Hid (Below w1.heap.size w1 w') := hg.mono fun e w' ⟨P, h1, h2, h3⟩ => ⟨_, Lib.hid ⟨P, rfl, by rw [hX]; exact h2.mono fun _ _ _ => trivial⟩, by rw [h1, hX, hE], Lib.hid h3⟩
  have hrg2 : ∀ W, Calls Tryd.prog 16 #[.string (st b)] W fun e w' => ∃ YO, Hid (∃ P, YO = omV P X ∧ Ois w' (fun _ => True) P X) ∧ e = .returned (.tuple #[.agg YO, .int .i64 EE]) ∧ Hid (Below W.heap.size W w') := fun W => (hrg W).mono fun e w' ⟨P, h1, h2, h3⟩ => ⟨_, Lib.hid ⟨P, rfl, by rw [hX]; exact h2.mono fun _ _ _ => trivial⟩, by rw [h1, hX, hE], Lib.hid h3⟩
  have hzo := zero_ob
  have hzm := zero_om
  clear hg hrg hX hE hb1 hn
  go_upto_region 7 with (first
    | (go_at_call 14; refine hg2.mono ?_; clear hg2; rintro _ w2 ⟨XO, HXO, rfl, HBx⟩; have HXS : Hid (XO.size = 6 ∧ XO.all (·.oneCell') = true) := (by obtain ⟨P, h1, _⟩ := HXO.out; exact Lib.hid ⟨by rw [h1]; rfl, by rw [h1]; exact obV_one _ _⟩))
    | (refine wpList_store_row (by rfl) 27 (.tmp 4) (.tmp 19) (by rfl) w2.heap.size XO (by rfl) (by rfl) 27 _ (heap_alloc_new w2 _) (by rw [HXS.out.1]; exact ob_info) (by rw [HXS.out.1]; rfl) HXS.out.2 ?_))
  obtain ⟨q4, hq4⟩ : ∃ q4, q4 = w2.heap.size := ⟨_, rfl⟩
  have H3 : Hid (((w2.alloc (.cells #[.int .u8 0, .slice none 0 0, .int .u64 0, .slice none 0 0, .slice none 0 0, .string ⟨#[]⟩] 27)).setRow q4 XO).heap[q4]? = some (.cells XO 27 (0, 0)) ∧ Below w.heap.size w ((w2.alloc (.cells #[.int .u8 0, .slice none 0 0, .int .u64 0, .slice none 0 0, .slice none 0 0, .string ⟨#[]⟩] 27)).setRow q4 XO) ∧ (∃ P, XO = obV P X ∧ Obm ((w2.alloc (.cells #[.int .u8 0, .slice none 0 0, .int .u64 0, .slice none 0 0, .slice none 0 0, .string ⟨#[]⟩] 27)).setRow q4 XO) (fun _ => True) P X)) := Lib.hid (by
    rw [hq4]
    have hal : Below w2.heap.size w2 ((w2.alloc (.cells #[.int .u8 0, .slice none 0 0, .int .u64 0, .slice none 0 0, .slice none 0 0, .string ⟨#[]⟩] 27)).setRow w2.heap.size XO) := below_setRow ((Below.refl _ _).alloc (Nat.le_refl _) _) (Nat.le_refl _) _
    have h2 := HB1.out.trans (HBx.out.mono HB1.out.size)
    obtain ⟨P, e1, e2⟩ := HXO.out
    exact ⟨setRow_at (heap_alloc_new w2 _), h2.trans (hal.mono h2.size), P, e1, e2.below hal⟩)
  rw [← hq4]
  clear hq4 HXO HBx
  generalize (w2.alloc (.cells #[.int .u8 0, .slice none 0 0, .int .u64 0, .slice none 0 0, .slice none 0 0, .string ⟨#[]⟩] 27)).setRow q4 XO = w3 at *
  have hcv := byt_string (HB.out.below H3.out.2.1)
  have hrg3 := hrg2 w3
  clear hrg2
  go_upto_region 8 with (first
    | (go_at_call 16; refine hrg3.mono ?_; clear hrg3; rintro _ w4 ⟨YO, HYO, rfl, HBy⟩; have HYS : Hid (YO.size = 6 ∧ YO.all (·.oneCell') = true) := (by obtain ⟨P, h1, _⟩ := HYO.out; exact Lib.hid ⟨by rw [h1]; rfl, by rw [h1]; exact omV_one _ _⟩))
    | (refine wpList_store_row (by rfl) 37 (.tmp 6) (.tmp 25) (by rfl) w4.heap.size YO (by rfl) (by rfl) 37 _ (heap_alloc_new w4 _) (by rw [HYS.out.1]; exact om_info) (by rw [HYS.out.1]; rfl) HYS.out.2 ?_))
  obtain ⟨q6, hq6⟩ : ∃ q6, q6 = w4.heap.size := ⟨_, rfl⟩
  have H7 : Hid (((w4.alloc (.cells #[.int .u8 0, .string ⟨#[]⟩, .int .u64 0, .slice none 0 0, .slice none 0 0, .string ⟨#[]⟩] 37)).setRow q6 YO).heap[q4]? = some (.cells XO 27 (0, 0)) ∧ ((w4.alloc (.cells #[.int .u8 0, .string ⟨#[]⟩, .int .u64 0, .slice none 0 0, .slice none 0 0, .string ⟨#[]⟩] 37)).setRow q6 YO).heap[q6]? = some (.cells YO 37 (0, 0)) ∧ (∃ P, XO = obV P X ∧ Obm ((w4.alloc (.cells #[.int .u8 0, .string ⟨#[]⟩, .int .u64 0, .slice none 0 0, .slice none 0 0, .string ⟨#[]⟩] 37)).setRow q6 YO) (fun _ => True) P X) ∧ (∃ P, YO = omV P X ∧ Ois ((w4.alloc (.cells #[.int .u8 0, .string ⟨#[]⟩, .int .u64 0, .slice none 0 0, .slice none 0 0, .string ⟨#[]⟩] 37)).setRow q6 YO) (fun _ => True) P X)) ∧ Hid (Below w.heap.size w ((w4.alloc (.cells #[.int .u8 0, .string ⟨#[]⟩, .int .u64 0, .slice none 0 0, .slice none 0 0, .string ⟨#[]⟩] 37)).setRow q6 YO)) := by
    rw [hq6]
    have hal : Below w4.heap.size w4 ((w4.alloc (.cells #[.int .u8 0, .string ⟨#[]⟩, .int .u64 0, .slice none 0 0, .slice none 0 0, .string ⟨#[]⟩] 37)).setRow w4.heap.size YO) := below_setRow ((Below.refl _ _).alloc (Nat.le_refl _) _) (Nat.le_refl _) _
    have h2 := HBy.out.trans (hal.mono HBy.out.size)
    obtain ⟨P, e1, e2⟩ := H3.out.2.2
    obtain ⟨P2, e3, e4⟩ := HYO.out
    exact ⟨Lib.hid ⟨(h2.block _ (lt_of_cells H3.out.1)).trans H3.out.1, setRow_at (heap_alloc_new w4 _), ⟨P, e1, e2.below h2⟩, P2, e3, e4.below hal⟩, Lib.hid (H3.out.2.1.trans (h2.mono H3.out.2.1.size))⟩
  rw [← hq6]
  obtain ⟨H7, HB7⟩ := H7
  clear hq6 HYO HBy H3 hcv hzo hzm
  generalize (w4.alloc (.cells #[.int .u8 0, .string ⟨#[]⟩, .int .u64 0, .slice none 0 0, .slice none 0 0, .string ⟨#[]⟩] 37)).setRow q6 YO = w7 at *
  go_wp2_with fail
  refine wp_region_grow (fun W W' => Below W.heap.size W W') (Grow.nth [fun v _ => v = .int .i64 EE, fun v _ => v = .int .i64 EE, fun v _ => v = .bool false, fun v _ => v = .bool false, fun v _ => v = .agg XO, fun v W => ∃ P, v = .agg (omV P X) ∧ Ois W (fun _ => True) P X ∧ P.e = X.es.length, fun v _ => v = .agg YO, fun v _ => v = .bool true, fun v _ => v = .bool false, fun v _ => v = .bool false]) 53 (by kernel_rfl) (by kernel_rfl) (by rfl) (fun W => Below.refl _ W) (fun _ _ _ h1 h2 => h1.trans (h2.mono h1.size)) (Grow.mono_nth ?gmono) ?gsteps ?gfin
  case gmono => exact ⟨fun _ _ _ h _ => h, fun _ _ _ h _ => h, fun _ _ _ h _ => h, fun _ _ _ h _ => h, fun _ _ _ h _ => h, fun _ _ _ ⟨P, h1, h2, h3⟩ hg => ⟨P, h1, h2.below hg, h3⟩, fun _ _ _ h _ => h, fun _ _ _ h _ => h, fun _ _ _ h _ => h, fun _ _ _ h _ => h, trivial⟩
  case gsteps =>
    show Grow.allBelow _ 10
    refine And.intro ?_ ?s9
    refine And.intro ?_ ?s8
    refine And.intro ?_ ?s7
    refine And.intro ?_ ?s6
    refine And.intro ?_ ?s5
    refine And.intro ?_ ?s4
    refine And.intro ?_ ?s3
    refine And.intro ?_ ?s2
    refine And.intro ?_ ?s1
    refine And.intro ?_ ?s0
    exact trivial
    case s0 =>
      refine Grow.step_in (by rfl) (by rfl) ?_
      intro E W ec eg ef hG hd hu R HR
      have e5 : E (.tmp 5) = .int .i64 EE := hu 5 (by kernel_rfl)
      clear hd hu
      go_simp
      exact HR.out _ _ (Below.refl _ _) rfl
    case s1 =>
      refine Grow.step_in (by rfl) (by rfl) ?_
      intro E W ec eg ef hG hd hu R HR
      have e7 : E (.tmp 7) = .int .i64 EE := hu 7 (by kernel_rfl)
      clear hd hu
      go_simp
      exact HR.out _ _ (Below.refl _ _) rfl
    case s2 =>
      refine Grow.step_in (by rfl) (by rfl) ?_
      intro E W ec eg ef hG hd hu R HR
      have e27 : E (.tmp 27) = .int .i64 EE := hd 0 27 (by kernel_rfl)
      have e28 : E (.tmp 28) = .int .i64 EE := hd 1 28 (by kernel_rfl)
      clear hd hu
      go_simp
      first | exact HR.out _ _ (Below.refl _ _) rfl | (simp; exact HR.out _ _ (Below.refl _ _) rfl)
    case s3 =>
      refine Grow.step_in (by rfl) (by rfl) ?_
      intro E W ec eg ef hG hd hu R HR
      have e29 : E (.tmp 29) = .bool false := hd 2 29 (by kernel_rfl)
      clear hd hu
      go_simp
      exact HR.out _ _ (Below.refl _ _) rfl
    case s4 =>
      refine Grow.step_on (g := 3) (b := false) (d := 30) (by rfl) (by rfl) (by rfl) (by kernel_rfl) (fun v W h => h) ?_
      intro E W ec eg ef hG hd hu R HR
      have e4 : E (.tmp 4) = .pointer (some ⟨q4, 0, none⟩) := hu 4 (by kernel_rfl)
      clear hd hu
      exact runs_load_val 27 (.tmp 4) rfl ⟨q4, 0, none⟩ e4 (run_loadVar_row W _ 27 _ _ _ _ ((hG.block _ (lt_of_cells H7.out.1)).trans H7.out.1) Tryd.underlying27 rfl (by rw [HXS.out.1]; exact ob_info)) (HR.out _ _ (Below.refl _ _) rfl)
    case s5 =>
      refine Grow.step_on (g := 3) (b := false) (d := 30) (by rfl) (by rfl) (by rfl) (by kernel_rfl) (fun v W h => h) ?_
      intro E W ec eg ef hG hd hu R HR
      have e31 : E (.tmp 31) = .agg XO := hd 4 31 (by kernel_rfl)
      clear hd hu
      obtain ⟨P, eP, hP⟩ := H7.out.2.2.1
      have hmo := model_any (hP.below (Grow.below_of_drew hG)) (by have := HLN.out.2; omega)
      rw [← eP] at hmo
      clear eP
      go_simp
      refine hmo.mono ?_
      rintro _ _ ⟨P2, rfl, ho, hpe, hbb⟩
      exact ⟨_, rfl, HR.out _ _ hbb ⟨P2, rfl, ho.mono (fun _ _ _ => trivial), hpe⟩⟩
    case s6 =>
      refine Grow.step_on (g := 3) (b := false) (d := 30) (by rfl) (by rfl) (by rfl) (by kernel_rfl) (fun v W h => h) ?_
      intro E W ec eg ef hG hd hu R HR
      have e6 : E (.tmp 6) = .pointer (some ⟨q6, 0, none⟩) := hu 6 (by kernel_rfl)
      clear hd hu
      exact runs_load_val 37 (.tmp 6) rfl ⟨q6, 0, none⟩ e6 (run_loadVar_row W _ 37 _ _ _ _ ((hG.block _ (lt_of_cells H7.out.2.1)).trans H7.out.2.1) Tryd.underlying37 rfl (by rw [HYS.out.1]; exact om_info)) (HR.out _ _ (Below.refl _ _) rfl)
    case s7 =>
      refine Grow.step_on (g := 3) (b := false) (d := 30) (by rfl) (by rfl) (by rfl) (by kernel_rfl) (fun v W h => h) ?_
      intro E W ec eg ef hG hd hu R HR
      have h32 := hd 5 32 (by kernel_rfl)
      have e33 : E (.tmp 33) = .agg YO := hd 6 33 (by kernel_rfl)
      clear hd hu
      obtain ⟨P2, e32, ho, hpe⟩ := h32
      obtain ⟨P3, eQ, hQ⟩ := H7.out.2.2.2
      have hsm := osame_any ho (hQ.below (Grow.below_of_drew hG)) (by have := HLN.out.2; omega) (by have := HLN.out.1; omega)
      rw [← eQ] at hsm
      clear eQ
      go_simp
      refine hsm.mono ?_
      rintro _ _ ⟨rfl, hbb⟩
      exact ⟨_, rfl, HR.out _ _ hbb rfl⟩
    case s8 =>
      refine Grow.step_on (g := 3) (b := false) (d := 30) (by rfl) (by rfl) (by rfl) (by kernel_rfl) (fun v W h => h) ?_
      intro E W ec eg ef hG hd hu R HR
      have e34 : E (.tmp 34) = .bool true := hd 7 34 (by kernel_rfl)
      clear hd hu
      go_simp
      exact HR.out _ _ (Below.refl _ _) rfl
    case s9 =>
      refine Grow.step_in (by rfl) (by rfl) ?_
      intro E W ec eg ef hG hd hu R HR
      have e30 : E (.tmp 30) = .bool false := hd 3 30 (by kernel_rfl)
      have e35 : E (.tmp 35) = .bool false := hd 8 35 (by kernel_rfl)
      clear hd hu
      go_simp
      exact HR.out _ _ (Below.refl _ _) rfl
  case gfin =>
    intro W hG
    refine Grow.fin_dst (by rfl) ?_
    rintro _ rfl
    refine Grow.fin_dst (by rfl) ?_
    rintro _ rfl
    refine Grow.fin_dst (by rfl) ?_
    rintro _ rfl
    refine Grow.fin_dst (by rfl) ?_
    rintro _ rfl
    refine Grow.fin_dst (by rfl) ?_
    rintro _ rfl
    refine Grow.fin_dst (by rfl) ?_
    rintro _ ⟨_, rfl, _⟩
    refine Grow.fin_dst (by rfl) ?_
    rintro _ rfl
    refine Grow.fin_dst (by rfl) ?_
    rintro _ rfl
    refine Grow.fin_dst (by rfl) ?_
    rintro _ rfl
    refine Grow.fin_dst (by rfl) ?_
    rintro _ rfl
    simp only [Act.put, List.setIfInBounds_toArray, List.set_cons_zero, List.set_cons_succ]
    refine Grow.fin_end ?_
    have hGb := Grow.below_of_drew hG
    have HB8 : Hid (Below w.heap.size w W) := Lib.hid (HB7.out.trans (hGb.mono HB7.out.size))
    have H8 : Hid (W.heap[q4]? = some (.cells XO 27 (0, 0)) ∧ ∃ P, XO = obV P X ∧ Obm W (fun _ => True) P X) := Lib.hid (by
      obtain ⟨P, e1, e2⟩ := H7.out.2.2.1
      exact ⟨(hGb.block _ (lt_of_cells H7.out.1)).trans H7.out.1, P, e1, e2.below hGb⟩)
    clear hG hGb
    by_cases h0 : EE = 0
    · subst h0
      have HOK := Lib.hid (HPG.out rfl)
      have hpt : Calls Tryd.prog 9 #[.agg XO] W fun e w' => ∃ A n c, e = .returned (.tuple #[.slice A n c, .int .i64 0]) ∧ Byt w' (W.heap.size ≤ ·) A n c b ∧ Below W.heap.size W w' := by
        obtain ⟨P, e1, e2⟩ := H8.out.2
        have := oput_any e2
        unfold OpPost at this
        rw [HOK.out.1, show poB X = b by unfold poB; rw [if_pos HOK.out.1]; exact HOK.out.2] at this
        rw [e1]
        exact this
      go_upto_region 13 with (first
        | (refine wpList_load_row (by rfl) 27 (.tmp 4) (by rfl) q4 (by rfl) 27 XO (0, 0) _ H8.out.1 Tryd.underlying27 (by rfl) (by rw [HXS.out.1]; exact ob_info) ?_)
        | (go_at_call 9; refine hpt.mono ?_; clear hpt; rintro _ w9 ⟨Ax, nx, cx, rfl, hx, hb9⟩))
      have HB9 := Lib.hid (HB8.out.trans (hb9.mono HB8.out.size))
      have hc1 := byt_string hx
      have hc2 := byt_string (HB.out.below HB9.out)
      clear hx hb9
      go_wp2_with fail
      go_ret
      exact ⟨rfl, HB9.out⟩
    · have hne : (EE != 0) = true := by simpa using h0
      clear h0
      go_wp2_with fail
      go_ret
      exact ⟨rfl, HB8.out⟩
end Go.Proofs.YtmakpjcgiiljfaaDoor

/-! The statement ObjectsGets, proved: for every slice of bytes the law returns true. No condition but that utf8's two tables hold what the program's text lays (the card ties it; no walk reads them). -/
namespace Go.Proofs.YtmakpjcgiiljfaaDoor.objectsGets
open Go.ChangeShapes Go.WideShapes Go.ChangeAt Go.RowKit
set_option linter.unusedVariables false

set_option maxRecDepth 100000 in
theorem lifted (os : Os) (started : os.Started) (H : Type) (enc : TypeId × Value → H) :
    ReturnsInHanded {} Tryd.checked os 4 .any (fun w args => (Rows.objectsGetsSpec.pre enc Tryd.prog Tryd.f4 [] false w args ∧ laidMetH Tryd.prog laidsU w) ∧ sizedMet enc Tryd.prog Tryd.f4 (OpenSpec.ofChange Rows.objectsGetsSpec) false w args) (Rows.objectsGetsSpec.post enc Tryd.prog Tryd.f4 false true false false) := by
  refine returnsInHanded_of_change_and (C := Tryd.checked) (X := fun w _ => laidMetH Tryd.prog laidsU w) (fun _ _ _ hh h => h.of_heap hh) own_knob started (by kernel_rfl) Tryd.func4
    (ChangeSpec.witness_shaped (enc := enc) (C := Tryd.checked) (os := os) (X := fun w _ => laidMetH Tryd.prog laidsU w) false (World.laidAll Tryd.prog os laidsU) #[.slice none 0 0] 8 (World.laidAll_os _ _ _) (World.shaped_of_ZipB (by kernel_rfl) (by kernel_rfl)) (by kernel_rfl) (by kernel_rfl) (by kernel_rfl) (door_metU os _)) ?_
  intro W base args ds gs before hval0 hW _ _ hL _
  have hval : ∀ (j : Nat) t v, Tryd.f4.params[j]? = some t → args[j]? = some v → Value.okWide Tryd.prog W .any base t v := hval0
  have hW' := hW
  obtain ⟨p, q, hA0, hV, rfl, hfz, hnd⟩ := hW
  have hA : DataW.TrodAll enc Tryd.prog W 0 (fun _ => true) true Tryd.f4.params.toList args.toList ds p := hA0
  rw [Tryd.params4] at hA hval
  obtain ⟨v0, vs0, d0, ds0, p0, q0, hargs, rfl, rfl, h0, r0⟩ := trodAll_cons hA
  obtain ⟨rfl, rfl, rfl⟩ := trodAll_nil r0
  obtain rfl : args = #[v0] := by cases args; simp_all
  obtain ⟨rfl, rfl⟩ := trodVars_none hV
  obtain ⟨a0, len0, cap0, rfl⟩ := okWide_slice Tryd.underlying22 (hval 0 22 v0 rfl rfl)
  obtain ⟨l0, w0⟩ := bytes_in rfl h0
  clear hA0 hval0
  refine (law_ogets w0).mono fun e W' ⟨he, bel⟩ => ?_
  subst he
  exact ⟨_, rfl, _, _, _, [], _, [], hW', trodAll_mk1 (shut_bool Tryd.underlying4 _), (trodAll_cons_mk (Below.trod laid_out (by kernel_rfl) (of_decide_eq_true (by kernel_rfl)) h0 bel (trod_lt h0)) trodAll_mk0), rfl, bel.frame _, fun h => by cases h⟩

theorem proved : Rows.ObjectsGetsSaid :=
  OpenClaim.holds_of_wide 4 Tryd.f4 rfl rfl rfl rfl rfl rfl rfl ⟨rfl, rfl, rfl, rfl, rfl⟩ rfl rfl rfl rfl rfl (by kernel_rfl) Tryd.func4 (by kernel_rfl)
    (of_decide_eq_true (by kernel_rfl)) (by unfold Func.isWrapper; first | (rw [if_pos (by decide +kernel)]; kernel_rfl) | (rw [if_neg (by decide +kernel)]; exact ⟨rfl, rfl⟩))
    (fun os started H enc _ => lifted os started H enc)

theorem proved_card : Rows.ObjectsGetsCardSaid :=
  Claim7.holds_tied_plain_at .later [] [.data, .pinned] true (true, Rows.objectsGetsCard.stood.harness.2) false proved (fun _ h => by cases h) (by kernel_rfl) (fun _ h => by cases h) objectsGets_row_tie rfl ⟨rfl, rfl⟩ (by kernel_rfl) rfl
    (fun f fn hf hfn => by
      obtain rfl : f = 4 := Option.some.inj ((show Tryd.prog.funcNamed Rows.objectsGetsRow.func = some 4 by kernel_rfl).symm.trans hf) |>.symm
      obtain rfl : fn = Tryd.f4 := (Option.some.inj (Tryd.func4.symm.trans hfn)).symm
      exact ⟨by kernel_rfl, fun j t ht => by
        have hall : (Tryd.f4.params.toList.all fun u => !Tryd.prog.wantsStandIn u) = true := by kernel_rfl
        exact (show Tryd.prog.wantsStandIn t = false by simpa using List.all_eq_true.1 hall t (by rw [Array.mem_toList_iff]; exact Array.mem_of_getElem? ht))⟩)
    (by kernel_rfl)
#print axioms proved_card
end Go.Proofs.YtmakpjcgiiljfaaDoor.objectsGets
