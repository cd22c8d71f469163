/-
  The law ObjectsPuts.
  The statement ObjectsPuts, proved: for every object the law returns true. No condition but that utf8's two tables hold what the program's text lays (the card ties it; no walk reads them).
-/
import Derived.Test.YtmakpjcgiiljfaaDoorPk15
import Derived.Test.YtmakpjcgiiljfaaDoorPkPuts01
import Derived.Test.YtmakpjcgiiljfaaDoorPkGets02
import Derived.Test.YtmakpjcgiiljfaaDoorPkGets04
import Derived.Test.YtmakpjcgiiljfaaDoorPk01
import Derived.Test.YtmakpjcgiiljfaaDoorCards
import Derived.Test.YtmakpjcgiiljfaaDoorTie
import Derived.SevenTiedAt
/-! The law ObjectsPuts. -/
namespace Go.Proofs.YtmakpjcgiiljfaaDoor
open Go.RowKit Codec

theorem po_len {x : Ob} (hw : x.Wf) (h : chkO x = 0) : (poB x).length ≤ 300000 := by
  unfold poB
  rw [if_pos h]
  have p0 := put_length_64 (x := 1) (by decide)
  have p2 := put_length_64 (x := 2) (by decide)
  have p3 := put_length_64 (x := 3) (by decide)
  have p4 := put_length_64 (x := 4) (by decide)
  have pz := put_length_64 (x := x.z) hw.z
  have hs := may_small (chk_may h)
  have pb := put_length_64 (x := x.b.length) (by have := hs.b; omega)
  have pi := put_length_64 (x := x.ids.length) (by have := hs.ids; omega)
  have pe := put_length_64 (x := x.es.length) (by have := hs.es; omega)
  have pl := put_length_64 (x := x.lb.length) (by have := hs.lb; omega)
  have hf := flatten_length32 hw.ids
  have hb := hs.b
  have hi := hs.ids
  have hl := hs.lb
  have he := ens_take hs.es hs.nm hw.es x.es.length
  rw [List.take_length] at he
  unfold putO
  rcases may_cases (chk_may h) with h1 | h1 | h1 | h1
  · rw [if_pos h1.1]
    simp only [List.length_append]
    omega
  · rw [if_neg (by omega), if_pos h1.1]
    simp only [List.length_append]
    omega
  · rw [if_neg (by omega), if_neg (by omega), if_pos h1.1]
    simp only [List.length_append]
    omega
  · rw [if_neg (by omega), if_neg (by omega), if_neg (by omega), h1.1]
    simp only [List.length_append]
    omega
set_option maxHeartbeats 16000000 in
set_option maxRecDepth 100000 in
theorem law_oputs {w : World} {p : At} {x : Ob} (h : Obm w (· < w.heap.size) p x) :
    Calls Tryd.prog 3 #[.agg (obV p x)] w fun e w' => e = .returned (.bool true) ∧ Below w.heap.size w w' := by
  obtain ⟨XV, hXV⟩ : ∃ XV, XV = obV p x := ⟨_, rfl⟩
  obtain ⟨w0, hw0⟩ : ∃ w0, w0 = w.alloc (.cells XV 27) := ⟨_, rfl⟩
  have hb0 : Below w.heap.size w w0 := by rw [hw0]; exact (Below.refl _ _).alloc (Nat.le_refl _) _
  have haw := oawake_true w0
  have HX : Hid (XV = obV p x ∧ XV.size = 6 ∧ XV.all (·.oneCell') = true ∧ w0.heap[w.heap.size]? = some (.cells XV 27 (0, 0)) ∧ Below w.heap.size w w0 ∧ Obm w (· < w.heap.size) p x) := Lib.hid ⟨hXV, by rw [hXV]; rfl, by rw [hXV]; exact obV_one _ _, by rw [hw0]; exact heap_alloc_new w _, hb0, h⟩
  rw [← hXV]
  clear h hb0 hXV
  rw [hw0] at haw
  go_enter Tryd.func3, Tryd.ntmps3
  go_upto_region 4 with (go_at_call 7; refine haw.mono ?_; clear haw; rintro _ w1 ⟨rfl, hb1⟩)
  rw [← hw0] at hb1
  clear hw0
  have HB1 : Hid (Below w.heap.size w w1 ∧ w1.heap[w.heap.size]? = some (.cells XV 27 (0, 0)) ∧ Below w0.heap.size w0 w1) := Lib.hid ⟨HX.out.2.2.2.2.1.trans (hb1.mono HX.out.2.2.2.2.1.size), (hb1.block _ (lt_of_cells HX.out.2.2.2.1)).trans HX.out.2.2.2.1, hb1⟩
  have hsm := osmall_any (HX.out.2.2.2.2.2.below HB1.out.1)
  rw [← HX.out.1] at hsm
  have hcx : ∀ (a : Nat) (v : Value), XV[a]? = some v → w1.cell? ((⟨w.heap.size, 0, none⟩ : Addr).add a) = some v := fun a v hv => by rw [add_plain, Nat.zero_add, cell_of_cells HB1.out.2.1]; exact hv
  clear hb1
  go_upto_region 5 with (first
    | (refine wpList_load_at (by rfl) 27 (.tmp 1) (by rfl) ⟨w.heap.size, 0, none⟩ (by rfl) XV _ hcx Tryd.underlying27 (by rfl) (by rw [HX.out.2.1]; exact ob_info) ?_)
    | (go_at_call 8; refine hsm.mono ?_; clear hsm; rintro _ w2 ⟨SB, rfl, hSB, hb2⟩))
  clear hcx
  have HB2 : Hid (Below w.heap.size w w2 ∧ w2.heap[w.heap.size]? = some (.cells XV 27 (0, 0))) := Lib.hid ⟨HB1.out.1.trans (hb2.mono HB1.out.1.size), (hb2.block _ (lt_of_cells HB1.out.2.1)).trans HB1.out.2.1⟩
  have HSB := Lib.hid hSB
  clear hb2 hSB
  cases SB
  · go_wp2_with fail
    go_ret
    exact ⟨rfl, HB2.out.1⟩
  have HLE := Lib.hid (HSB.out rfl)
  obtain ⟨PB, hPB⟩ : ∃ PB, PB = poB x := ⟨_, rfl⟩
  obtain ⟨CK, hCK⟩ : ∃ CK, CK = chkO x := ⟨_, rfl⟩
  have HCK := Lib.hid hCK
  have hpt := oput_any (HX.out.2.2.2.2.2.below HB2.out.1)
  unfold OpPost at hpt
  rw [← HX.out.1, ← hCK, ← hPB] at hpt
  have hcx : ∀ (a : Nat) (v : Value), XV[a]? = some v → w2.cell? ((⟨w.heap.size, 0, none⟩ : Addr).add a) = some v := fun a v hv => by rw [add_plain, Nat.zero_add, cell_of_cells HB2.out.2]; exact hv
  have HPB0 := Lib.hid hPB
  clear HSB hCK hPB
  go_upto_region 8 with (first
    | (refine wpList_load_at (by rfl) 27 (.tmp 1) (by rfl) ⟨w.heap.size, 0, none⟩ (by rfl) XV _ hcx Tryd.underlying27 (by rfl) (by rw [HX.out.2.1]; exact ob_info) ?_)
    | (go_at_call 9; refine hpt.mono ?_; clear hpt; rintro _ w3 ⟨A, n, c, rfl, hy3, hb3⟩))
  clear hcx
  have HPB : Hid (PB = poB x ∧ (CK = 0 → n ≤ 140737488355328)) := Lib.hid ⟨HPB0.out, fun h => by
    have h1 := po_len HX.out.2.2.2.2.2.o.wf (by rw [← HCK.out]; exact h)
    rw [← HPB0.out, hy3.len] at h1
    omega⟩
  have HB3 : Hid (Below w.heap.size w w3 ∧ w3.heap[w.heap.size]? = some (.cells XV 27 (0, 0)) ∧ Byt w3 (fun _ => True) A n c PB) := Lib.hid ⟨HB2.out.1.trans (hb3.mono HB2.out.1.size), (hb3.block _ (lt_of_cells HB2.out.2)).trans HB2.out.2, hy3.mono fun _ _ _ => trivial⟩
  have hcx : ∀ (a : Nat) (v : Value), XV[a]? = some v → w3.cell? ((⟨w.heap.size, 0, none⟩ : Addr).add a) = some v := fun a v hv => by rw [add_plain, Nat.zero_add, cell_of_cells HB3.out.2.1]; exact hv
  have hmo := model_any (HX.out.2.2.2.2.2.below HB3.out.1) (by have := HLE.out.2; omega)
  rw [← HX.out.1] at hmo
  have hmo2 : Calls Tryd.prog 11 #[.agg XV] w3 fun e w' => ∃ MV, Hid (∃ P, MV = omV P x ∧ Ois w' (fun _ => True) P x ∧ P.e = x.es.length ∧ Below w3.heap.size w3 w') ∧ e = .returned (.agg MV) := hmo.mono fun e w' ⟨P, h1, h2, h3, h4⟩ => ⟨_, Lib.hid ⟨P, rfl, h2.mono fun _ _ _ => trivial, h3, h4⟩, h1⟩
  clear hmo hy3 hb3 HPB0
  go_upto_region 9 with (first
    | (refine wpList_load_at (by rfl) 27 (.tmp 1) (by rfl) ⟨w.heap.size, 0, none⟩ (by rfl) XV _ hcx Tryd.underlying27 (by rfl) (by rw [HX.out.2.1]; exact ob_info) ?_)
    | (go_at_call 11; refine hmo2.mono ?_; clear hmo2; rintro _ w4 ⟨MV, HMV, rfl⟩; have hrp : Calls Tryd.prog 10 #[.agg MV] w4 (fun e w' => e = .returned (.tuple #[.string (st PB), .int .i64 CK]) ∧ Below w4.heap.size w4 w') := (by obtain ⟨P, h1, h2, h3, _⟩ := HMV.out; have h5 := rput_any h2 (by have := HLE.out.2; omega); unfold RpPost at h5; rw [← HPB.out.1, ← HCK.out] at h5; rw [h1]; exact h5))
    | (go_at_call 10; refine hrp.mono ?_; clear hrp; rintro _ w5 ⟨rfl, hb5⟩))
  have H8 : Hid (Below w.heap.size w w5 ∧ w5.heap[w.heap.size]? = some (.cells XV 27 (0, 0)) ∧ Byt w5 (fun _ => True) A n c PB ∧ ∃ P, XV = obV P x ∧ Obm w5 (fun _ => True) P x) := Lib.hid (by
    obtain ⟨P, _, _, _, h4⟩ := HMV.out
    have h6 := h4.trans (hb5.mono h4.size)
    have h7 := HB3.out.1.trans (h6.mono HB3.out.1.size)
    exact ⟨h7, (h6.block _ (lt_of_cells HB3.out.2.1)).trans HB3.out.2.1, HB3.out.2.2.below h6, p, HX.out.1, (HX.out.2.2.2.2.2.below h7).mono fun _ _ _ => trivial⟩)
  clear hcx HMV hb5
  refine wp_region_grow (fun W W' => Below W.heap.size W W') (Grow.nth [fun v _ => v = .slice A n c, fun v _ => v = .string (st PB), fun v _ => v = .string (st PB), fun v _ => v = .bool false, fun v _ => v = .bool false, fun v _ => v = .int .i64 CK, fun v _ => v = .int .i64 CK, fun v _ => v = .bool false, fun v _ => v = .bool false, fun v _ => v = .bool false, fun v _ => v = .agg XV, fun v _ => v = .int .i64 CK, fun v _ => v = .agg XV, fun v W => ∃ P, v = .agg (omV P x) ∧ Ois W (fun _ => True) P x ∧ P.e = x.es.length, fun v _ => v = .int .i64 CK, fun v _ => v = .bool false, fun v _ => v = .bool false]) 62 (by kernel_rfl) (by kernel_rfl) (by rfl) (fun W => Below.refl _ W) (fun _ _ _ h1 h2 => h1.trans (h2.mono h1.size)) (Grow.mono_nth ?gmono) ?gsteps ?gfin
  case gmono => exact ⟨fun _ _ _ h _ => h, fun _ _ _ h _ => h, fun _ _ _ h _ => h, fun _ _ _ h _ => h, fun _ _ _ h _ => h, fun _ _ _ h _ => h, fun _ _ _ h _ => h, fun _ _ _ h _ => h, fun _ _ _ h _ => h, fun _ _ _ h _ => h, fun _ _ _ h _ => h, fun _ _ _ h _ => h, fun _ _ _ h _ => h, fun _ _ _ ⟨P, h1, h2, h3⟩ hg => ⟨P, h1, h2.below hg, h3⟩, fun _ _ _ h _ => h, fun _ _ _ h _ => h, fun _ _ _ h _ => h, trivial⟩
  case gsteps =>
    show Grow.allBelow _ 17
    refine And.intro ?_ ?s16
    refine And.intro ?_ ?s15
    refine And.intro ?_ ?s14
    refine And.intro ?_ ?s13
    refine And.intro ?_ ?s12
    refine And.intro ?_ ?s11
    refine And.intro ?_ ?s10
    refine And.intro ?_ ?s9
    refine And.intro ?_ ?s8
    refine And.intro ?_ ?s7
    refine And.intro ?_ ?s6
    refine And.intro ?_ ?s5
    refine And.intro ?_ ?s4
    refine And.intro ?_ ?s3
    refine And.intro ?_ ?s2
    refine And.intro ?_ ?s1
    refine And.intro ?_ ?s0
    exact trivial
    case s0 =>
      refine Grow.step_in (by rfl) (by rfl) ?_
      intro E W ec eg ef hG hd hu R HR
      have e5 : E (.tmp 5) = .slice A n c := hu 5 (by kernel_rfl)
      clear hd hu
      go_simp
      exact HR.out _ _ (Below.refl _ _) rfl
    case s1 =>
      refine Grow.step_in (by rfl) (by rfl) ?_
      intro E W ec eg ef hG hd hu R HR
      have e29 : E (.tmp 29) = .slice A n c := hd 0 29 (by kernel_rfl)
      clear hd hu
      have hcv := byt_string (H8.out.2.2.1.below (Grow.below_of_drew hG))
      go_simp
      exact HR.out _ _ (Below.refl _ _) rfl
    case s2 =>
      refine Grow.step_in (by rfl) (by rfl) ?_
      intro E W ec eg ef hG hd hu R HR
      have e7 : E (.tmp 7) = .string (st PB) := hu 7 (by kernel_rfl)
      clear hd hu
      go_simp
      exact HR.out _ _ (Below.refl _ _) rfl
    case s3 =>
      refine Grow.step_in (by rfl) (by rfl) ?_
      intro E W ec eg ef hG hd hu R HR
      have e30 : E (.tmp 30) = .string (st PB) := hd 1 30 (by kernel_rfl)
      have e31 : E (.tmp 31) = .string (st PB) := hd 2 31 (by kernel_rfl)
      clear hd hu
      go_simp
      first | exact HR.out _ _ (Below.refl _ _) rfl | (simp; exact HR.out _ _ (Below.refl _ _) rfl)
    case s4 =>
      refine Grow.step_in (by rfl) (by rfl) ?_
      intro E W ec eg ef hG hd hu R HR
      have e32 : E (.tmp 32) = .bool false := hd 3 32 (by kernel_rfl)
      clear hd hu
      go_simp
      exact HR.out _ _ (Below.refl _ _) rfl
    case s5 =>
      refine Grow.step_on (g := 4) (b := false) (d := 33) (by rfl) (by rfl) (by rfl) (by kernel_rfl) (fun v W h => h) ?_
      intro E W ec eg ef hG hd hu R HR
      have e6 : E (.tmp 6) = .int .i64 CK := hu 6 (by kernel_rfl)
      clear hd hu
      go_simp
      exact HR.out _ _ (Below.refl _ _) rfl
    case s6 =>
      refine Grow.step_on (g := 4) (b := false) (d := 33) (by rfl) (by rfl) (by rfl) (by kernel_rfl) (fun v W h => h) ?_
      intro E W ec eg ef hG hd hu R HR
      have e8 : E (.tmp 8) = .int .i64 CK := hu 8 (by kernel_rfl)
      clear hd hu
      go_simp
      exact HR.out _ _ (Below.refl _ _) rfl
    case s7 =>
      refine Grow.step_on (g := 4) (b := false) (d := 33) (by rfl) (by rfl) (by rfl) (by kernel_rfl) (fun v W h => h) ?_
      intro E W ec eg ef hG hd hu R HR
      have e34 : E (.tmp 34) = .int .i64 CK := hd 5 34 (by kernel_rfl)
      have e35 : E (.tmp 35) = .int .i64 CK := hd 6 35 (by kernel_rfl)
      clear hd hu
      go_simp
      first | exact HR.out _ _ (Below.refl _ _) rfl | (simp; exact HR.out _ _ (Below.refl _ _) rfl)
    case s8 =>
      refine Grow.step_in (by rfl) (by rfl) ?_
      intro E W ec eg ef hG hd hu R HR
      have e33 : E (.tmp 33) = .bool false := hd 4 33 (by kernel_rfl)
      have e36 : E (.tmp 36) = .bool false := hd 7 36 (by kernel_rfl)
      clear hd hu
      go_simp
      exact HR.out _ _ (Below.refl _ _) rfl
    case s9 =>
      refine Grow.step_in (by rfl) (by rfl) ?_
      intro E W ec eg ef hG hd hu R HR
      have e37 : E (.tmp 37) = .bool false := hd 8 37 (by kernel_rfl)
      clear hd hu
      go_simp
      exact HR.out _ _ (Below.refl _ _) rfl
    case s10 =>
      refine Grow.step_on (g := 9) (b := false) (d := 38) (by rfl) (by rfl) (by rfl) (by kernel_rfl) (fun v W h => h) ?_
      intro E W ec eg ef hG hd hu R HR
      have e1 : E (.tmp 1) = .pointer (some ⟨w.heap.size, 0, none⟩) := hu 1 (by kernel_rfl)
      clear hd hu
      exact runs_load_val 27 (.tmp 1) rfl ⟨w.heap.size, 0, none⟩ e1 (run_loadVar_row W _ 27 _ _ _ _ ((hG.block _ (lt_of_cells H8.out.2.1)).trans H8.out.2.1) Tryd.underlying27 rfl (by rw [HX.out.2.1]; exact ob_info)) (HR.out _ _ (Below.refl _ _) rfl)
    case s11 =>
      refine Grow.step_on (g := 9) (b := false) (d := 38) (by rfl) (by rfl) (by rfl) (by kernel_rfl) (fun v W h => h) ?_
      intro E W ec eg ef hG hd hu R HR
      have e39 : E (.tmp 39) = .agg XV := hd 10 39 (by kernel_rfl)
      clear hd hu
      obtain ⟨P, eP, hP⟩ := H8.out.2.2.2
      have hck := check_obj (hP.below (Grow.below_of_drew hG))
      rw [← eP, ← HCK.out] at hck
      clear eP
      go_simp
      refine hck.mono ?_
      rintro _ _ ⟨rfl, hbb⟩
      exact ⟨_, rfl, HR.out _ _ hbb rfl⟩
    case s12 =>
      refine Grow.step_on (g := 9) (b := false) (d := 38) (by rfl) (by rfl) (by rfl) (by kernel_rfl) (fun v W h => h) ?_
      intro E W ec eg ef hG hd hu R HR
      have e1 : E (.tmp 1) = .pointer (some ⟨w.heap.size, 0, none⟩) := hu 1 (by kernel_rfl)
      clear hd hu
      exact runs_load_val 27 (.tmp 1) rfl ⟨w.heap.size, 0, none⟩ e1 (run_loadVar_row W _ 27 _ _ _ _ ((hG.block _ (lt_of_cells H8.out.2.1)).trans H8.out.2.1) Tryd.underlying27 rfl (by rw [HX.out.2.1]; exact ob_info)) (HR.out _ _ (Below.refl _ _) rfl)
    case s13 =>
      refine Grow.step_on (g := 9) (b := false) (d := 38) (by rfl) (by rfl) (by rfl) (by kernel_rfl) (fun v W h => h) ?_
      intro E W ec eg ef hG hd hu R HR
      have e41 : E (.tmp 41) = .agg XV := hd 12 41 (by kernel_rfl)
      clear hd hu
      obtain ⟨P, eP, hP⟩ := H8.out.2.2.2
      have hmo := model_any (hP.below (Grow.below_of_drew hG)) (by have := HLE.out.2; omega)
      rw [← eP] at hmo
      clear eP
      go_simp
      refine hmo.mono ?_
      rintro _ _ ⟨P2, rfl, ho, hpe, hbb⟩
      exact ⟨_, rfl, HR.out _ _ hbb ⟨P2, rfl, ho.mono (fun _ _ _ => trivial), hpe⟩⟩
    case s14 =>
      refine Grow.step_on (g := 9) (b := false) (d := 38) (by rfl) (by rfl) (by rfl) (by kernel_rfl) (fun v W h => h) ?_
      intro E W ec eg ef hG hd hu R HR
      have h42 := hd 13 42 (by kernel_rfl)
      clear hd hu
      obtain ⟨P2, e42, ho, hpe⟩ := h42
      have hck := rchk_any ho (by have := HLE.out.2; omega)
      rw [← HCK.out] at hck
      go_simp
      refine hck.mono ?_
      rintro _ _ ⟨rfl, hbb⟩
      exact ⟨_, rfl, HR.out _ _ hbb rfl⟩
    case s15 =>
      refine Grow.step_on (g := 9) (b := false) (d := 38) (by rfl) (by rfl) (by rfl) (by kernel_rfl) (fun v W h => h) ?_
      intro E W ec eg ef hG hd hu R HR
      have e40 : E (.tmp 40) = .int .i64 CK := hd 11 40 (by kernel_rfl)
      have e43 : E (.tmp 43) = .int .i64 CK := hd 14 43 (by kernel_rfl)
      clear hd hu
      go_simp
      first | exact HR.out _ _ (Below.refl _ _) rfl | (simp; exact HR.out _ _ (Below.refl _ _) rfl)
    case s16 =>
      refine Grow.step_in (by rfl) (by rfl) ?_
      intro E W ec eg ef hG hd hu R HR
      have e38 : E (.tmp 38) = .bool false := hd 9 38 (by kernel_rfl)
      have e44 : E (.tmp 44) = .bool false := hd 15 44 (by kernel_rfl)
      clear hd hu
      go_simp
      exact HR.out _ _ (Below.refl _ _) rfl
  case gfin =>
    intro W hG
    refine Grow.fin_dst (by rfl) ?_
    rintro _ rfl
    refine Grow.fin_dst (by rfl) ?_
    rintro _ rfl
    refine Grow.fin_dst (by rfl) ?_
    rintro _ rfl
    refine Grow.fin_dst (by rfl) ?_
    rintro _ rfl
    refine Grow.fin_dst (by rfl) ?_
    rintro _ rfl
    refine Grow.fin_dst (by rfl) ?_
    rintro _ rfl
    refine Grow.fin_dst (by rfl) ?_
    rintro _ rfl
    refine Grow.fin_dst (by rfl) ?_
    rintro _ rfl
    refine Grow.fin_dst (by rfl) ?_
    rintro _ rfl
    refine Grow.fin_dst (by rfl) ?_
    rintro _ rfl
    refine Grow.fin_dst (by rfl) ?_
    rintro _ rfl
    refine Grow.fin_dst (by rfl) ?_
    rintro _ rfl
    refine Grow.fin_dst (by rfl) ?_
    rintro _ rfl
    refine Grow.fin_dst (by rfl) ?_
    rintro _ ⟨_, rfl, _⟩
    refine Grow.fin_dst (by rfl) ?_
    rintro _ rfl
    refine Grow.fin_dst (by rfl) ?_
    rintro _ rfl
    refine Grow.fin_dst (by rfl) ?_
    rintro _ rfl
    simp only [Act.put, List.setIfInBounds_toArray, List.set_cons_zero, List.set_cons_succ]
    refine Grow.fin_end ?_
    have hGb := Grow.below_of_drew hG
    have H8b : Hid (Below w.heap.size w W ∧ W.heap[w.heap.size]? = some (.cells XV 27 (0, 0)) ∧ Byt W (fun _ => True) A n c PB ∧ ∃ P, XV = obV P x ∧ Obm W (fun _ => True) P x) := Lib.hid (by
      obtain ⟨P, e1, e2⟩ := H8.out.2.2.2
      exact ⟨H8.out.1.trans (hGb.mono H8.out.1.size), (hGb.block _ (lt_of_cells H8.out.2.1)).trans H8.out.2.1, H8.out.2.2.1.below hGb, P, e1, e2.below hGb⟩)
    clear hG hGb H8
    by_cases h0 : CK = 0
    · subst h0
      have hgt := oget_any H8b.out.2.2.1 (HPB.out.2 rfl)
      rw [HPB.out.1, show poB x = putO x by unfold poB; rw [if_pos HCK.out.symm]] at hgt
      unfold OgPost at hgt
      rw [obj_get_put HX.out.2.2.2.2.2.o.wf HCK.out.symm] at hgt
      have hg2 : Calls Tryd.prog 14 #[.slice A n c] W fun e w' => ∃ XO, Hid (∃ P, XO = obV P x ∧ Obm w' (fun _ => True) P x) ∧ e = .returned (.tuple #[.agg XO, .int .i64 0]) ∧ Hid (Below W.heap.size W w') := hgt.mono fun e w' ⟨P, h1, h2, h3⟩ => ⟨_, Lib.hid ⟨P, rfl, h2.mono fun _ _ _ => trivial⟩, h1, Lib.hid h3⟩
      have hzo := zero_ob
      clear hgt
      go_upto_region 14 with (first
        | (go_at_call 14; refine hg2.mono ?_; clear hg2; rintro _ w2 ⟨XO, HXO, rfl, HBx⟩; have HXS : Hid (XO.size = 6 ∧ XO.all (·.oneCell') = true) := (by obtain ⟨P, h1, _⟩ := HXO.out; exact Lib.hid ⟨by rw [h1]; rfl, by rw [h1]; exact obV_one _ _⟩))
        | (refine wpList_store_row (by rfl) 27 (.tmp 9) (.tmp 51) (by rfl) w2.heap.size XO (by rfl) (by rfl) 27 _ (heap_alloc_new w2 _) (by rw [HXS.out.1]; exact ob_info) (by rw [HXS.out.1]; rfl) HXS.out.2 ?_))
      obtain ⟨q9, hq9⟩ : ∃ q9, q9 = w2.heap.size := ⟨_, rfl⟩
      have H9 : Hid (Below w.heap.size w ((w2.alloc (.cells #[.int .u8 0, .slice none 0 0, .int .u64 0, .slice none 0 0, .slice none 0 0, .string ⟨#[]⟩] 27)).setRow q9 XO) ∧ ((w2.alloc (.cells #[.int .u8 0, .slice none 0 0, .int .u64 0, .slice none 0 0, .slice none 0 0, .string ⟨#[]⟩] 27)).setRow q9 XO).heap[w.heap.size]? = some (.cells XV 27 (0, 0)) ∧ ((w2.alloc (.cells #[.int .u8 0, .slice none 0 0, .int .u64 0, .slice none 0 0, .slice none 0 0, .string ⟨#[]⟩] 27)).setRow q9 XO).heap[q9]? = some (.cells XO 27 (0, 0)) ∧
          (∃ P, XV = obV P x ∧ Obm ((w2.alloc (.cells #[.int .u8 0, .slice none 0 0, .int .u64 0, .slice none 0 0, .slice none 0 0, .string ⟨#[]⟩] 27)).setRow q9 XO) (fun _ => True) P x) ∧ (∃ P, XO = obV P x ∧ Obm ((w2.alloc (.cells #[.int .u8 0, .slice none 0 0, .int .u64 0, .slice none 0 0, .slice none 0 0, .string ⟨#[]⟩] 27)).setRow q9 XO) (fun _ => True) P x)) := Lib.hid (by
        rw [hq9]
        have hal : Below w2.heap.size w2 ((w2.alloc (.cells #[.int .u8 0, .slice none 0 0, .int .u64 0, .slice none 0 0, .slice none 0 0, .string ⟨#[]⟩] 27)).setRow w2.heap.size XO) := below_setRow ((Below.refl _ _).alloc (Nat.le_refl _) _) (Nat.le_refl _) _
        have h2 := HBx.out.trans (hal.mono HBx.out.size)
        obtain ⟨P, e1, e2⟩ := H8b.out.2.2.2
        obtain ⟨P2, e3, e4⟩ := HXO.out
        exact ⟨H8b.out.1.trans (h2.mono H8b.out.1.size), (h2.block _ (lt_of_cells H8b.out.2.1)).trans H8b.out.2.1, setRow_at (heap_alloc_new w2 _), ⟨P, e1, e2.below h2⟩, P2, e3, e4.below hal⟩)
      rw [← hq9]
      clear hq9 HXO HBx hzo H8b
      generalize (w2.alloc (.cells #[.int .u8 0, .slice none 0 0, .int .u64 0, .slice none 0 0, .slice none 0 0, .string ⟨#[]⟩] 27)).setRow q9 XO = w9 at *
      refine wp_region_grow (fun W W' => Below W.heap.size W W') (Grow.nth [fun v _ => v = .int .i64 0, fun v _ => v = .bool true, fun v _ => v = .bool true, fun v _ => v = .agg XO, fun v W => ∃ P, v = .agg (omV P x) ∧ Ois W (fun _ => True) P x ∧ P.e = x.es.length, fun v _ => v = .agg XV, fun v W => ∃ P, v = .agg (omV P x) ∧ Ois W (fun _ => True) P x ∧ P.e = x.es.length, fun v _ => v = .bool true, fun v _ => v = .bool true, fun v _ => v = .bool true]) 62 (by kernel_rfl) (by kernel_rfl) (by rfl) (fun W => Below.refl _ W) (fun _ _ _ h1 h2 => h1.trans (h2.mono h1.size)) (Grow.mono_nth ?gmono) ?gsteps ?gfin
      case gmono => exact ⟨fun _ _ _ h _ => h, fun _ _ _ h _ => h, fun _ _ _ h _ => h, fun _ _ _ h _ => h, fun _ _ _ ⟨P, h1, h2, h3⟩ hg => ⟨P, h1, h2.below hg, h3⟩, fun _ _ _ h _ => h, fun _ _ _ ⟨P, h1, h2, h3⟩ hg => ⟨P, h1, h2.below hg, h3⟩, fun _ _ _ h _ => h, fun _ _ _ h _ => h, fun _ _ _ h _ => h, trivial⟩
      case gsteps =>
        show Grow.allBelow _ 10
        refine And.intro ?_ ?s9
        refine And.intro ?_ ?s8
        refine And.intro ?_ ?s7
        refine And.intro ?_ ?s6
        refine And.intro ?_ ?s5
        refine And.intro ?_ ?s4
        refine And.intro ?_ ?s3
        refine And.intro ?_ ?s2
        refine And.intro ?_ ?s1
        refine And.intro ?_ ?s0
        exact trivial
        case s0 =>
          refine Grow.step_in (by rfl) (by rfl) ?_
          intro E W ec eg ef hG hd hu R HR
          have e10 : E (.tmp 10) = .int .i64 0 := hu 10 (by kernel_rfl)
          clear hd hu
          go_simp
          exact HR.out _ _ (Below.refl _ _) rfl
        case s1 =>
          refine Grow.step_in (by rfl) (by rfl) ?_
          intro E W ec eg ef hG hd hu R HR
          have e53 : E (.tmp 53) = .int .i64 0 := hd 0 53 (by kernel_rfl)
          clear hd hu
          go_simp
          first | exact HR.out _ _ (Below.refl _ _) rfl | (simp; exact HR.out _ _ (Below.refl _ _) rfl)
        case s2 =>
          refine Grow.step_in (by rfl) (by rfl) ?_
          intro E W ec eg ef hG hd hu R HR
          have e54 : E (.tmp 54) = .bool true := hd 1 54 (by kernel_rfl)
          clear hd hu
          go_simp
          exact HR.out _ _ (Below.refl _ _) rfl
        case s3 =>
          refine Grow.step_on (g := 2) (b := true) (d := 55) (by rfl) (by rfl) (by rfl) (by kernel_rfl) (fun v W h => h) ?_
          intro E W ec eg ef hG hd hu R HR
          have e9 : E (.tmp 9) = .pointer (some ⟨q9, 0, none⟩) := hu 9 (by kernel_rfl)
          clear hd hu
          exact runs_load_val 27 (.tmp 9) rfl ⟨q9, 0, none⟩ e9 (run_loadVar_row W _ 27 _ _ _ _ ((hG.block _ (lt_of_cells H9.out.2.2.1)).trans H9.out.2.2.1) Tryd.underlying27 rfl (by rw [HXS.out.1]; exact ob_info)) (HR.out _ _ (Below.refl _ _) rfl)
        case s4 =>
          refine Grow.step_on (g := 2) (b := true) (d := 55) (by rfl) (by rfl) (by rfl) (by kernel_rfl) (fun v W h => h) ?_
          intro E W ec eg ef hG hd hu R HR
          have e56 : E (.tmp 56) = .agg XO := hd 3 56 (by kernel_rfl)
          clear hd hu
          obtain ⟨P, eP, hP⟩ := H9.out.2.2.2.2
          have hmo := model_any (hP.below (Grow.below_of_drew hG)) (by have := HLE.out.2; omega)
          rw [← eP] at hmo
          clear eP
          go_simp
          refine hmo.mono ?_
          rintro _ _ ⟨P2, rfl, ho, hpe, hbb⟩
          exact ⟨_, rfl, HR.out _ _ hbb ⟨P2, rfl, ho.mono (fun _ _ _ => trivial), hpe⟩⟩
        case s5 =>
          refine Grow.step_on (g := 2) (b := true) (d := 55) (by rfl) (by rfl) (by rfl) (by kernel_rfl) (fun v W h => h) ?_
          intro E W ec eg ef hG hd hu R HR
          have e1 : E (.tmp 1) = .pointer (some ⟨w.heap.size, 0, none⟩) := hu 1 (by kernel_rfl)
          clear hd hu
          exact runs_load_val 27 (.tmp 1) rfl ⟨w.heap.size, 0, none⟩ e1 (run_loadVar_row W _ 27 _ _ _ _ ((hG.block _ (lt_of_cells H9.out.2.1)).trans H9.out.2.1) Tryd.underlying27 rfl (by rw [HX.out.2.1]; exact ob_info)) (HR.out _ _ (Below.refl _ _) rfl)
        case s6 =>
          refine Grow.step_on (g := 2) (b := true) (d := 55) (by rfl) (by rfl) (by rfl) (by kernel_rfl) (fun v W h => h) ?_
          intro E W ec eg ef hG hd hu R HR
          have e58 : E (.tmp 58) = .agg XV := hd 5 58 (by kernel_rfl)
          clear hd hu
          obtain ⟨P, eP, hP⟩ := H9.out.2.2.2.1
          have hmo := model_any (hP.below (Grow.below_of_drew hG)) (by have := HLE.out.2; omega)
          rw [← eP] at hmo
          clear eP
          go_simp
          refine hmo.mono ?_
          rintro _ _ ⟨P2, rfl, ho, hpe, hbb⟩
          exact ⟨_, rfl, HR.out _ _ hbb ⟨P2, rfl, ho.mono (fun _ _ _ => trivial), hpe⟩⟩
        case s7 =>
          refine Grow.step_on (g := 2) (b := true) (d := 55) (by rfl) (by rfl) (by rfl) (by kernel_rfl) (fun v W h => h) ?_
          intro E W ec eg ef hG hd hu R HR
          have h57 := hd 4 57 (by kernel_rfl)
          have h59 := hd 6 59 (by kernel_rfl)
          clear hd hu
          obtain ⟨P2, e57, ho, hpe⟩ := h57
          obtain ⟨P3, e59, ho2, hpe2⟩ := h59
          have hsm := osame_any ho ho2 (by have := HLE.out.2; omega) (by have := HLE.out.1; omega)
          go_simp
          refine hsm.mono ?_
          rintro _ _ ⟨rfl, hbb⟩
          exact ⟨_, rfl, HR.out _ _ hbb rfl⟩
        case s8 =>
          refine Grow.step_in (by rfl) (by rfl) ?_
          intro E W ec eg ef hG hd hu R HR
          have e55 : E (.tmp 55) = .bool true := hd 2 55 (by kernel_rfl)
          have e60 : E (.tmp 60) = .bool true := hd 7 60 (by kernel_rfl)
          clear hd hu
          go_simp
          exact HR.out _ _ (Below.refl _ _) rfl
        case s9 =>
          refine Grow.step_in (by rfl) (by rfl) ?_
          intro E W ec eg ef hG hd hu R HR
          have e61 : E (.tmp 61) = .bool true := hd 8 61 (by kernel_rfl)
          clear hd hu
          go_simp
          exact HR.out _ _ (Below.refl _ _) rfl
      case gfin =>
        intro W hG
        refine Grow.fin_dst (by rfl) ?_
        rintro _ rfl
        refine Grow.fin_dst (by rfl) ?_
        rintro _ rfl
        refine Grow.fin_dst (by rfl) ?_
        rintro _ rfl
        refine Grow.fin_dst (by rfl) ?_
        rintro _ rfl
        refine Grow.fin_dst (by rfl) ?_
        rintro _ ⟨_, rfl, _⟩
        refine Grow.fin_dst (by rfl) ?_
        rintro _ rfl
        refine Grow.fin_dst (by rfl) ?_
        rintro _ ⟨_, rfl, _⟩
        refine Grow.fin_dst (by rfl) ?_
        rintro _ rfl
        refine Grow.fin_dst (by rfl) ?_
        rintro _ rfl
        refine Grow.fin_dst (by rfl) ?_
        rintro _ rfl
        simp only [Act.put, List.setIfInBounds_toArray, List.set_cons_zero, List.set_cons_succ]
        refine Grow.fin_end ?_
        have HBZ : Hid (Below w.heap.size w W) := Lib.hid (H9.out.1.trans ((Grow.below_of_drew hG).mono H9.out.1.size))
        clear hG
        go_wp2_with fail
        go_ret
        exact ⟨rfl, HBZ.out⟩
    · have hne : (CK != 0) = true := by simpa using h0
      clear h0
      go_wp2_with fail
      go_ret
      exact ⟨rfl, H8b.out.1⟩
end Go.Proofs.YtmakpjcgiiljfaaDoor

/-! The statement ObjectsPuts, proved: for every object the law returns true. No condition but that utf8's two tables hold what the program's text lays (the card ties it; no walk reads them). -/
namespace Go.Proofs.YtmakpjcgiiljfaaDoor.objectsPuts
open Go.ChangeShapes Go.WideShapes Go.ChangeAt Go.RowKit
set_option linter.unusedVariables false

set_option maxRecDepth 100000 in
theorem lifted (os : Os) (started : os.Started) (H : Type) (enc : TypeId × Value → H) :
    ReturnsInHanded {} Tryd.checked os 3 .any (fun w args => (Rows.objectsPutsSpec.pre enc Tryd.prog Tryd.f3 [] false w args ∧ laidMetH Tryd.prog laidsU w) ∧ sizedMet enc Tryd.prog Tryd.f3 (OpenSpec.ofChange Rows.objectsPutsSpec) false w args) (Rows.objectsPutsSpec.post enc Tryd.prog Tryd.f3 false true false false) := by
  refine returnsInHanded_of_change_and (C := Tryd.checked) (X := fun w _ => laidMetH Tryd.prog laidsU w) (fun _ _ _ hh h => h.of_heap hh) own_knob started (by kernel_rfl) Tryd.func3
    (ChangeSpec.witness_shaped (enc := enc) (C := Tryd.checked) (os := os) (X := fun w _ => laidMetH Tryd.prog laidsU w) false (World.laidAll Tryd.prog os laidsU) #[.agg #[.int .u8 0, .slice none 0 0, .int .u64 0, .slice none 0 0, .slice none 0 0, .string ByteArray.empty]] 8 (World.laidAll_os _ _ _) (World.shaped_of_ZipB (by kernel_rfl) (by kernel_rfl)) (by kernel_rfl) (by kernel_rfl) (by kernel_rfl) (door_metU os _)) ?_
  intro W base args ds gs before hval0 hW _ _ hL _
  have hval : ∀ (j : Nat) t v, Tryd.f3.params[j]? = some t → args[j]? = some v → Value.okWide Tryd.prog W .any base t v := hval0
  have hW' := hW
  obtain ⟨p, q, hA0, hV, rfl, hfz, hnd⟩ := hW
  have hA : DataW.TrodAll enc Tryd.prog W 0 (fun _ => true) true Tryd.f3.params.toList args.toList ds p := hA0
  rw [Tryd.params3] at hA hval
  obtain ⟨v0, vs0, d0, ds0, p0, q0, hargs, rfl, rfl, h0, r0⟩ := trodAll_cons hA
  obtain ⟨rfl, rfl, rfl⟩ := trodAll_nil r0
  obtain rfl : args = #[v0] := by cases args; simp_all
  obtain ⟨rfl, rfl⟩ := trodVars_none hV
  obtain ⟨cs0, rfl, sz0⟩ := okWide_obj (hval 0 27 v0 rfl rfl)
  obtain ⟨oP0, ox0, rfl, w0⟩ := obj_in rfl sz0 h0
  clear hA0 hval0
  refine (law_oputs w0).mono fun e W' ⟨he, bel⟩ => ?_
  subst he
  exact ⟨_, rfl, _, _, _, [], _, [], hW', trodAll_mk1 (shut_bool Tryd.underlying4 _), (trodAll_cons_mk (Below.trod laid_out (by kernel_rfl) (of_decide_eq_true (by kernel_rfl)) h0 bel (trod_lt h0)) trodAll_mk0), rfl, bel.frame _, fun h => by cases h⟩

theorem proved : Rows.ObjectsPutsSaid :=
  OpenClaim.holds_of_wide 3 Tryd.f3 rfl rfl rfl rfl rfl rfl rfl ⟨rfl, rfl, rfl, rfl, rfl⟩ rfl rfl rfl rfl rfl (by kernel_rfl) Tryd.func3 (by kernel_rfl)
    (of_decide_eq_true (by kernel_rfl)) (by unfold Func.isWrapper; first | (rw [if_pos (by decide +kernel)]; kernel_rfl) | (rw [if_neg (by decide +kernel)]; exact ⟨rfl, rfl⟩))
    (fun os started H enc _ => lifted os started H enc)

theorem proved_card : Rows.ObjectsPutsCardSaid :=
  Claim7.holds_tied_plain_at .later [] [.data, .pinned] true (true, Rows.objectsPutsCard.stood.harness.2) false proved (fun _ h => by cases h) (by kernel_rfl) (fun _ h => by cases h) objectsPuts_row_tie rfl ⟨rfl, rfl⟩ (by kernel_rfl) rfl
    (fun f fn hf hfn => by
      obtain rfl : f = 3 := Option.some.inj ((show Tryd.prog.funcNamed Rows.objectsPutsRow.func = some 3 by kernel_rfl).symm.trans hf) |>.symm
      obtain rfl : fn = Tryd.f3 := (Option.some.inj (Tryd.func3.symm.trans hfn)).symm
      exact ⟨by kernel_rfl, fun j t ht => by
        have hall : (Tryd.f3.params.toList.all fun u => !Tryd.prog.wantsStandIn u) = true := by kernel_rfl
        exact (show Tryd.prog.wantsStandIn t = false by simpa using List.all_eq_true.1 hall t (by rw [Array.mem_toList_iff]; exact Array.mem_of_getElem? ht))⟩)
    (by kernel_rfl)
#print axioms proved_card
end Go.Proofs.YtmakpjcgiiljfaaDoor.objectsPuts
