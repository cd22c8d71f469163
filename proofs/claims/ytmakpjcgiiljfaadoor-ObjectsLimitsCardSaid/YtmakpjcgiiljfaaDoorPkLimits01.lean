/-
  The law ObjectsLimits.
  The statement ObjectsLimits, proved: for every four numbers the law returns true. No condition but that utf8's two tables hold what the program's text lays (the card ties it; no walk reads them).
-/
import Derived.Test.YtmakpjcgiiljfaaDoorPk15
import Derived.Test.YtmakpjcgiiljfaaDoorPk09
import Derived.Test.YtmakpjcgiiljfaaDoorPk02
import Derived.Test.YtmakpjcgiiljfaaDoorPk01
import Derived.Test.YtmakpjcgiiljfaaDoorCards
import Derived.Test.YtmakpjcgiiljfaaDoorTie
import Derived.SevenTiedAt
/-! The law ObjectsLimits. -/
namespace Go.Proofs.YtmakpjcgiiljfaaDoor
open Go.RowKit Codec

theorem lim_piece (n : Nat) : (chkO ⟨1, List.replicate n 0, 0, [], [], []⟩ == 0) = decide ((n : Int) ≤ 32768) := by
  have e : mayO ⟨1, List.replicate n 0, 0, [], [], []⟩ = decide (n ≤ 32768) := by simp [mayO, Ob.piece, Ob.none]
  unfold chkO
  rw [e]
  by_cases h : n ≤ 32768
  · have h2 : (n : Int) ≤ 32768 := by omega
    simp [h, h2]
  · have h2 : ¬ (n : Int) ≤ 32768 := by omega
    simp [h, h2]
theorem lim_snap (n : Nat) : (chkO ⟨4, [], 0, [List.replicate 32 0], [], List.replicate n 0⟩ == 0) = decide ((n : Int) ≤ 255) := by
  have e : mayO ⟨4, [], 0, [List.replicate 32 0], [], List.replicate n 0⟩ = decide (n ≤ 255) := by simp [mayO, Ob.snap, Ob.none]
  unfold chkO
  rw [e]
  by_cases h : n ≤ 255
  · have h2 : (n : Int) ≤ 255 := by omega
    simp [h, h2]
  · have h2 : ¬ (n : Int) ≤ 255 := by omega
    simp [h, h2]
theorem lim_list (z n : Nat) (hn : n ≤ 255) : (chkO ⟨2, [], z, List.replicate n (List.replicate 32 0), [], []⟩ == 0) = (decide ((z : Int) ≤ 1048576) && (((z : Int) == 0) == ((n : Int) == 0))) := by
  have e : mayO ⟨2, [], z, List.replicate n (List.replicate 32 0), [], []⟩ = (decide (z ≤ 1048576) && (decide (n = 0) == decide (z = 0))) := by
    have h1 : n ≤ 1000 := by omega
    simp [mayO, Ob.list, Ob.none, h1]
  unfold chkO
  rw [e]
  have h1 : ((z : Int) == 0) = decide (z = 0) := by
    by_cases h : z = 0
    · subst h; rfl
    · have : ¬ (z : Int) = 0 := by omega
      simp [h]
  have h2 : ((n : Int) == 0) = decide (n = 0) := by
    by_cases h : n = 0
    · subst h; rfl
    · have : ¬ (n : Int) = 0 := by omega
      simp [h]
  have h3 : decide ((z : Int) ≤ 1048576) = decide (z ≤ 1048576) := by
    by_cases h : z ≤ 1048576
    · rw [decide_eq_true h, decide_eq_true (by omega : (z : Int) ≤ 1048576)]
    · rw [decide_eq_false h, decide_eq_false (by omega : ¬ (z : Int) ≤ 1048576)]
  rw [h1, h2, h3]
  cases decide (z ≤ 1048576) <;> cases decide (n = 0) <;> cases decide (z = 0) <;> rfl
set_option maxHeartbeats 16000000 in
set_option maxRecDepth 100000 in
theorem law_olim_nat {w : World} {N M Z I : Nat} (hN : N < 65536) (hM : M < 65536) (hZ : Z < 18446744073709551616) (hI : I < 256) :
    Calls Tryd.prog 6 #[.int .u16 (N : Int), .int .u16 (M : Int), .int .u64 (Z : Int), .int .u8 (I : Int)] w fun e w' => e = .returned (.bool true) ∧ Below w.heap.size w w' := by
  have haw := oawake_true w
  obtain ⟨K, hK⟩ : ∃ K, K = M % 600 := ⟨_, rfl⟩
  have HK : Hid ((M : Int).tmod 600 = (K : Int) ∧ IntKind.i64.wrap (K : Int) = (K : Int) ∧ K < 600) := Lib.hid (by
    have h1 : K < 600 := by rw [hK]; exact Nat.mod_lt _ (by decide)
    have h2 : (M : Int).tmod 600 = (K : Int) := by rw [hK]; simp [Int.tmod]
    exact ⟨h2, IntWalk.i64_in _ (by omega), h1⟩)
  obtain ⟨C1, hC1⟩ : ∃ C1, C1 = chkO ⟨1, List.replicate N 0, 0, [], [], []⟩ := ⟨_, rfl⟩
  obtain ⟨C2, hC2⟩ : ∃ C2, C2 = chkO ⟨4, [], 0, [List.replicate 32 0], [], List.replicate K 0⟩ := ⟨_, rfl⟩
  obtain ⟨C3, hC3⟩ : ∃ C3, C3 = chkO ⟨2, [], Z, List.replicate I (List.replicate 32 0), [], []⟩ := ⟨_, rfl⟩
  have HC1 := Lib.hid hC1
  have HC2 := Lib.hid hC2
  have HC3 := Lib.hid hC3
  have HB := Lib.hid (And.intro hN (And.intro hM (And.intro hZ hI)))
  clear hC1 hC2 hC3 hN hM hZ hI hK
  go_enter Tryd.func6, Tryd.ntmps6
  go_upto_region 4 with (go_at_call 7; refine haw.mono ?_; clear haw; rintro _ w1 ⟨rfl, hb1⟩)
  have HB1 := Lib.hid hb1
  clear hb1
  have hzo := zero_ob
  have hcN := IntWalk.i64_in (N : Int) (by have := HB.out.1; omega)
  have hmk := make_bytes w1 N (by have := HB.out.1; omega)
  have hb2 : Below w1.heap.size w1 (w1.alloc (.cells (u8s (List.replicate N 0)).toArray 5)) := (Below.refl _ _).alloc (Nat.le_refl _) _
  have hyb := (byt_whole (heap_alloc_new w1 (.cells (u8s (List.replicate N 0)).toArray 5)) (by have := HB.out.1; rw [List.length_replicate]; omega)).mono (T := fun _ => True) fun _ _ _ => trivial
  rw [List.length_replicate] at hyb
  have hck := check_obj (p := ⟨some ⟨w1.heap.size, 0, none⟩, N, N, none, 0, 0, none, 0, 0⟩) (x := ⟨1, List.replicate N 0, 0, [], [], []⟩) ⟨⟨⟨(by show 1 < 256; decide), (by show 0 < _; decide), (fun _ h => by cases h), (fun _ h => by cases h)⟩, by simp, (fun _ h => by cases h), by have := HB.out.1; simp only [List.length_replicate]; unfold maxLen; omega, Ids.nil _ _ _ _ (Nat.zero_le _), Ens.nil _ _ _ _ (Nat.zero_le _)⟩, hyb⟩
  rw [← HC1.out] at hck
  have hck1 : Calls Tryd.prog 12 #[.agg #[.int .u8 1, .slice (some ⟨w1.heap.size, 0, none⟩) N N, .int .u64 0, .slice none 0 0, .slice none 0 0, .string ⟨#[]⟩]] (w1.alloc (.cells (u8s (List.replicate N 0)).toArray 5)) fun e w' => e = .returned (.int .i64 C1) ∧ Below w1.heap.size w1 w' := hck.mono fun e w' ⟨h1, h2⟩ => ⟨h1, hb2.trans (h2.mono hb2.size)⟩
  clear hck hyb hb2
  go_upto_region 5 with (go_at_call 12; refine hck1.mono ?_; clear hck1; rintro _ w2 ⟨rfl, hb2⟩)
  have HB2 := Lib.hid (HB1.out.trans (hb2.mono HB1.out.size))
  clear hb2 hmk hcN hzo
  refine wp_region_grow (fun W W' => Below W.heap.size W W') (Grow.nth [fun v W => ∃ b, v = .slice (some ⟨b, 0, none⟩) 1 1 ∧ Ids W (fun _ => True) (some ⟨b, 0, none⟩) 1 1 [List.replicate 32 0], fun v _ => v = .int .u16 (M : Int), fun v _ => v = .int .u16 (K : Int), fun v _ => v = .int .i64 (K : Int), fun v W => ∃ b, v = .slice (some ⟨b, 0, none⟩) K K ∧ Byt W (fun _ => True) (some ⟨b, 0, none⟩) K K (List.replicate K 0), fun v _ => v = .string (st (List.replicate K 0)), fun v W => ∃ b, v = .agg #[.int .u8 4, .slice none 0 0, .int .u64 0, .slice (some ⟨b, 0, none⟩) 1 1, .slice none 0 0, .string (st (List.replicate K 0))] ∧ Ids W (fun _ => True) (some ⟨b, 0, none⟩) 1 1 [List.replicate 32 0], fun v _ => v = .int .i64 C2, fun v _ => v = .int .i64 C2]) 62 (by kernel_rfl) (by kernel_rfl) (by rfl) (fun W => Below.refl _ W) (fun _ _ _ h1 h2 => h1.trans (h2.mono h1.size)) (Grow.mono_nth ?gmono) ?gsteps ?gfin
  case gmono => exact ⟨fun _ _ _ ⟨b, h1, h2⟩ hg => ⟨b, h1, h2.below hg⟩, fun _ _ _ h _ => h, fun _ _ _ h _ => h, fun _ _ _ h _ => h, fun _ _ _ ⟨b, h1, h2⟩ hg => ⟨b, h1, h2.below hg⟩, fun _ _ _ h _ => h, fun _ _ _ ⟨b, h1, h2⟩ hg => ⟨b, h1, h2.below hg⟩, fun _ _ _ h _ => h, fun _ _ _ h _ => h, trivial⟩
  case gsteps =>
    show Grow.allBelow _ 9
    refine And.intro ?_ ?s8
    refine And.intro ?_ ?s7
    refine And.intro ?_ ?s6
    refine And.intro ?_ ?s5
    refine And.intro ?_ ?s4
    refine And.intro ?_ ?s3
    refine And.intro ?_ ?s2
    refine And.intro ?_ ?s1
    refine And.intro ?_ ?s0
    exact trivial
    case s0 =>
      refine Grow.step_in (by rfl) (by rfl) ?_
      intro E W ec eg ef hG hd hu R HR
      clear hd hu
      obtain ⟨w', hmk, hib, hbw, _⟩ := make_ids W 1 (by omega)
      rw [show ((1 : Nat) : Int) = 1 from rfl] at hmk
      go_simp
      exact HR.out _ _ hbw ⟨_, rfl, hib.ids (S := fun _ => True) trivial 1 rfl (by omega)⟩
    case s1 =>
      refine Grow.step_in (by rfl) (by rfl) ?_
      intro E W ec eg ef hG hd hu R HR
      have e1 : E (.tmp 1) = .int .u16 (M : Int) := hu 1 (by kernel_rfl)
      clear hd hu
      go_simp
      exact HR.out _ _ (Below.refl _ _) rfl
    case s2 =>
      refine Grow.step_in (by rfl) (by rfl) ?_
      intro E W ec eg ef hG hd hu R HR
      have e22 : E (.tmp 22) = .int .u16 (M : Int) := hd 1 22 (by kernel_rfl)
      clear hd hu
      have hrm := HK.out.1
      go_simp
      exact HR.out _ _ (Below.refl _ _) rfl
    case s3 =>
      refine Grow.step_in (by rfl) (by rfl) ?_
      intro E W ec eg ef hG hd hu R HR
      have e23 : E (.tmp 23) = .int .u16 (K : Int) := hd 2 23 (by kernel_rfl)
      clear hd hu
      have hrm := HK.out.2.1
      go_simp
      exact HR.out _ _ (Below.refl _ _) rfl
    case s4 =>
      refine Grow.step_in (by rfl) (by rfl) ?_
      intro E W ec eg ef hG hd hu R HR
      have e24 : E (.tmp 24) = .int .i64 (K : Int) := hd 3 24 (by kernel_rfl)
      clear hd hu
      have hmk := make_bytes W K (by have := HK.out.2.2; omega)
      have hbw : Below W.heap.size W (W.alloc (.cells (u8s (List.replicate K 0)).toArray 5)) := (Below.refl _ _).alloc (Nat.le_refl _) _
      have hyb := (byt_whole (heap_alloc_new W (.cells (u8s (List.replicate K 0)).toArray 5)) (by have := HK.out.2.2; rw [List.length_replicate]; omega)).mono fun _ _ _ => trivial
      rw [List.length_replicate] at hyb
      go_simp
      exact HR.out _ _ hbw ⟨_, rfl, hyb⟩
    case s5 =>
      refine Grow.step_in (by rfl) (by rfl) ?_
      intro E W ec eg ef hG hd hu R HR
      have h25 := hd 4 25 (by kernel_rfl)
      clear hd hu
      obtain ⟨b, e25, hy⟩ := h25
      have hcv := byt_string hy
      go_simp
      exact HR.out _ _ (Below.refl _ _) rfl
    case s6 =>
      refine Grow.step_in (by rfl) (by rfl) ?_
      intro E W ec eg ef hG hd hu R HR
      have h21 := hd 0 21 (by kernel_rfl)
      have e26 : E (.tmp 26) = .string (st (List.replicate K 0)) := hd 5 26 (by kernel_rfl)
      clear hd hu
      obtain ⟨b, e21, hy⟩ := h21
      have hzo := zero_ob
      go_simp
      exact HR.out _ _ (Below.refl _ _) ⟨_, rfl, hy⟩
    case s7 =>
      refine Grow.step_in (by rfl) (by rfl) ?_
      intro E W ec eg ef hG hd hu R HR
      have h27 := hd 6 27 (by kernel_rfl)
      clear hd hu
      obtain ⟨b, e27, hy⟩ := h27
      have hcc := check_obj (p := ⟨none, 0, 0, some ⟨b, 0, none⟩, 1, 1, none, 0, 0⟩) (x := ⟨4, [], 0, [List.replicate 32 0], [], List.replicate K 0⟩) ⟨⟨⟨(by show 4 < 256; decide), (by show 0 < _; decide), by simp, (fun _ h => by cases h)⟩, by have := HK.out.2.2; simp only [List.length_replicate]; unfold maxLen; omega, (fun _ h => by cases h), by simp, hy, Ens.nil _ _ _ _ (Nat.zero_le _)⟩, Byt.nil _ _ _ _ (Nat.zero_le _)⟩
      rw [← HC2.out] at hcc
      go_simp
      refine hcc.mono ?_
      rintro _ _ ⟨rfl, hbb⟩
      exact ⟨_, rfl, HR.out _ _ hbb rfl⟩
    case s8 =>
      refine Grow.step_in (by rfl) (by rfl) ?_
      intro E W ec eg ef hG hd hu R HR
      have e28 : E (.tmp 28) = .int .i64 C2 := hd 7 28 (by kernel_rfl)
      clear hd hu
      go_simp
      exact HR.out _ _ (Below.refl _ _) rfl
  case gfin =>
    intro W hG
    refine Grow.fin_dst (by rfl) ?_
    rintro _ ⟨_, rfl, _⟩
    refine Grow.fin_dst (by rfl) ?_
    rintro _ rfl
    refine Grow.fin_dst (by rfl) ?_
    rintro _ rfl
    refine Grow.fin_dst (by rfl) ?_
    rintro _ rfl
    refine Grow.fin_dst (by rfl) ?_
    rintro _ ⟨_, rfl, _⟩
    refine Grow.fin_dst (by rfl) ?_
    rintro _ rfl
    refine Grow.fin_dst (by rfl) ?_
    rintro _ ⟨_, rfl, _⟩
    refine Grow.fin_dst (by rfl) ?_
    rintro _ rfl
    refine Grow.fin_dst (by rfl) ?_
    rintro _ rfl
    simp only [Act.put, List.setIfInBounds_toArray, List.set_cons_zero, List.set_cons_succ]
    refine Grow.fin_end ?_
    have HB3 : Hid (Below w.heap.size w W) := Lib.hid (HB2.out.trans ((Grow.below_of_drew hG).mono HB2.out.size))
    clear hG
    have hzo := zero_ob
    have hcI := IntWalk.i64_in (I : Int) (by have := HB.out.2.2.2; omega)
    obtain ⟨w5, hmk, hib, hbw, _⟩ := make_ids W I (by have := HB.out.2.2.2; omega)
    have hck := check_obj (p := ⟨none, 0, 0, some ⟨W.heap.size, 0, none⟩, I, I, none, 0, 0⟩) (x := ⟨2, [], Z, List.replicate I (List.replicate 32 0), [], []⟩) (w := w5) (S := fun _ => True) ⟨⟨⟨(by show 2 < 256; decide), HB.out.2.2.1, (fun y hy => by rw [List.eq_of_mem_replicate hy]; simp), (fun _ h => by cases h)⟩, by simp, (fun _ h => by cases h), by simp, hib.ids (S := fun _ => True) trivial I (by simp) (by have := HB.out.2.2.2; omega), Ens.nil _ _ _ _ (Nat.zero_le _)⟩, Byt.nil _ _ _ _ (Nat.zero_le _)⟩
    rw [← HC3.out] at hck
    have hck3 : Calls Tryd.prog 12 #[.agg #[.int .u8 2, .slice none 0 0, .int .u64 (Z : Int), .slice (some ⟨W.heap.size, 0, none⟩) I I, .slice none 0 0, .string ⟨#[]⟩]] w5 fun e w' => e = .returned (.int .i64 C3) ∧ Below W.heap.size W w' := hck.mono fun e w' ⟨h1, h2⟩ => ⟨h1, hbw.trans (h2.mono hbw.size)⟩
    clear hck hib hbw
    go_upto_region 7 with (go_at_call 12; refine hck3.mono ?_; clear hck3; rintro _ w6 ⟨rfl, hb6⟩)
    have HB6 := Lib.hid (HB3.out.trans (hb6.mono HB3.out.size))
    have h1 := lim_piece N
    have h2 := lim_snap K
    have h3 := lim_list Z I (by have := HB.out.2.2.2; omega)
    rw [← HC1.out] at h1
    rw [← HC2.out] at h2
    rw [← HC3.out] at h3
    have hrm := HK.out.1
    clear hb6 hmk hcI hzo
    by_cases hz : (Z : Int) ≤ 1048576
    · rw [decide_eq_true hz, Bool.true_and] at h3
      go_wp2_with fail
      go_ret
      exact ⟨rfl, HB6.out⟩
    · rw [decide_eq_false hz, Bool.false_and] at h3
      go_wp2_with fail
      go_ret
      exact ⟨rfl, HB6.out⟩
theorem law_olim {w : World} {a : Int} (ha : (Lit.int .u16 a).wf = true) {b : Int} (hb : (Lit.int .u16 b).wf = true) {c : Int} (hc : (Lit.int .u64 c).wf = true) {d : Int} (hd : (Lit.int .u8 d).wf = true) :
    Calls Tryd.prog 6 #[.int .u16 a, .int .u16 b, .int .u64 c, .int .u8 d] w fun e w' => e = .returned (.bool true) ∧ Below w.heap.size w w' := by
  have h1 := bounds_u16 ha
  have h2 := bounds_u16 hb
  have h3 := bounds_u64 hc
  have h4 := bounds_u8 hd
  obtain ⟨a, rfl⟩ := Int.eq_ofNat_of_zero_le h1.1
  obtain ⟨b, rfl⟩ := Int.eq_ofNat_of_zero_le h2.1
  obtain ⟨c, rfl⟩ := Int.eq_ofNat_of_zero_le h3.1
  obtain ⟨d, rfl⟩ := Int.eq_ofNat_of_zero_le h4.1
  exact law_olim_nat (by omega) (by omega) (by omega) (by omega)
end Go.Proofs.YtmakpjcgiiljfaaDoor

/-! The statement ObjectsLimits, proved: for every four numbers the law returns true. No condition but that utf8's two tables hold what the program's text lays (the card ties it; no walk reads them). -/
namespace Go.Proofs.YtmakpjcgiiljfaaDoor.objectsLimits
open Go.ChangeShapes Go.WideShapes Go.ChangeAt Go.RowKit
set_option linter.unusedVariables false

set_option maxRecDepth 100000 in
theorem lifted (os : Os) (started : os.Started) (H : Type) (enc : TypeId × Value → H) :
    ReturnsInHanded {} Tryd.checked os 6 .any (fun w args => (Rows.objectsLimitsSpec.pre enc Tryd.prog Tryd.f6 [] false w args ∧ laidMetH Tryd.prog laidsU w) ∧ sizedMet enc Tryd.prog Tryd.f6 (OpenSpec.ofChange Rows.objectsLimitsSpec) false w args) (Rows.objectsLimitsSpec.post enc Tryd.prog Tryd.f6 false true false false) := by
  refine returnsInHanded_of_change_and (C := Tryd.checked) (X := fun w _ => laidMetH Tryd.prog laidsU w) (fun _ _ _ hh h => h.of_heap hh) own_knob started (by kernel_rfl) Tryd.func6
    (ChangeSpec.witness_shaped (enc := enc) (C := Tryd.checked) (os := os) (X := fun w _ => laidMetH Tryd.prog laidsU w) false (World.laidAll Tryd.prog os laidsU) #[.int .u16 0, .int .u16 0, .int .u64 0, .int .u8 0] 8 (World.laidAll_os _ _ _) (World.shaped_of_ZipB (by kernel_rfl) (by kernel_rfl)) (by kernel_rfl) (by kernel_rfl) (by kernel_rfl) (door_metU os _)) ?_
  intro W base args ds gs before hval0 hW _ _ hL _
  have hval : ∀ (j : Nat) t v, Tryd.f6.params[j]? = some t → args[j]? = some v → Value.okWide Tryd.prog W .any base t v := hval0
  have hW' := hW
  obtain ⟨p, q, hA0, hV, rfl, hfz, hnd⟩ := hW
  have hA : DataW.TrodAll enc Tryd.prog W 0 (fun _ => true) true Tryd.f6.params.toList args.toList ds p := hA0
  rw [Tryd.params6] at hA hval
  obtain ⟨v0, vs0, d0, ds0, p0, q0, hargs, rfl, rfl, h0, r0⟩ := trodAll_cons hA
  obtain ⟨v1, vs1, d1, ds1, p1, q1, rfl, rfl, rfl, h1, r1⟩ := trodAll_cons r0
  obtain ⟨v2, vs2, d2, ds2, p2, q2, rfl, rfl, rfl, h2, r2⟩ := trodAll_cons r1
  obtain ⟨v3, vs3, d3, ds3, p3, q3, rfl, rfl, rfl, h3, r3⟩ := trodAll_cons r2
  obtain ⟨rfl, rfl, rfl⟩ := trodAll_nil r3
  obtain rfl : args = #[v0, v1, v2, v3] := by cases args; simp_all
  obtain ⟨rfl, rfl⟩ := trodVars_none hV
  obtain ⟨a0, rfl, rfl, rfl, w0⟩ := open_int Tryd.underlying52 (hval 0 52 v0 rfl rfl) h0
  obtain ⟨a1, rfl, rfl, rfl, w1⟩ := open_int Tryd.underlying52 (hval 1 52 v1 rfl rfl) h1
  obtain ⟨a2, rfl, rfl, rfl, w2⟩ := open_int Tryd.underlying23 (hval 2 23 v2 rfl rfl) h2
  obtain ⟨a3, rfl, rfl, rfl, w3⟩ := open_int Tryd.underlying5 (hval 3 5 v3 rfl rfl) h3
  clear hA0 hval0
  refine (law_olim w0 w1 w2 w3).mono fun e W' ⟨he, bel⟩ => ?_
  subst he
  exact ⟨_, rfl, _, _, _, [], _, [], hW', trodAll_mk1 (shut_bool Tryd.underlying4 _), (trodAll_cons_mk (shut_int Tryd.underlying52 w0) (trodAll_cons_mk (shut_int Tryd.underlying52 w1) (trodAll_cons_mk (shut_int Tryd.underlying23 w2) (trodAll_cons_mk (shut_int Tryd.underlying5 w3) trodAll_mk0)))), rfl, bel.frame _, fun h => by cases h⟩

theorem proved : Rows.ObjectsLimitsSaid :=
  OpenClaim.holds_of_wide 6 Tryd.f6 rfl rfl rfl rfl rfl rfl rfl ⟨rfl, rfl, rfl, rfl, rfl⟩ rfl rfl rfl rfl rfl (by kernel_rfl) Tryd.func6 (by kernel_rfl)
    (of_decide_eq_true (by kernel_rfl)) (by unfold Func.isWrapper; first | (rw [if_pos (by decide +kernel)]; kernel_rfl) | (rw [if_neg (by decide +kernel)]; exact ⟨rfl, rfl⟩))
    (fun os started H enc _ => lifted os started H enc)

theorem proved_card : Rows.ObjectsLimitsCardSaid :=
  Claim7.holds_tied_plain_at .later [] [.data, .pinned] true (true, Rows.objectsLimitsCard.stood.harness.2) false proved (fun _ h => by cases h) (by kernel_rfl) (fun _ h => by cases h) objectsLimits_row_tie rfl ⟨rfl, rfl⟩ (by kernel_rfl) rfl
    (fun f fn hf hfn => by
      obtain rfl : f = 6 := Option.some.inj ((show Tryd.prog.funcNamed Rows.objectsLimitsRow.func = some 6 by kernel_rfl).symm.trans hf) |>.symm
      obtain rfl : fn = Tryd.f6 := (Option.some.inj (Tryd.func6.symm.trans hfn)).symm
      exact ⟨by kernel_rfl, fun j t ht => by
        have hall : (Tryd.f6.params.toList.all fun u => !Tryd.prog.wantsStandIn u) = true := by kernel_rfl
        exact (show Tryd.prog.wantsStandIn t = false by simpa using List.all_eq_true.1 hall t (by rw [Array.mem_toList_iff]; exact Array.mem_of_getElem? ht))⟩)
    (by kernel_rfl)
#print axioms proved_card
end Go.Proofs.YtmakpjcgiiljfaaDoor.objectsLimits
