/-
  The law FilesPaths.
  The statement FilesPaths, proved: for every two strings the law returns true. No condition but that utf8's two tables hold what the program's text lays (the card ties it; no walk reads them).
-/
import Derived.Test.YtpcoiakdbfihlaaDoorPk11
import Derived.Test.YtpcoiakdbfihlaaDoorCards
import Derived.Test.YtpcoiakdbfihlaaDoorTie
import Derived.SevenTiedAt
/-! The law FilesPaths. -/
namespace Go.Proofs.YtpcoiakdbfihlaaDoor
open Go.RowKit Codec

theorem mem_spl : ∀ {l : List UInt8} {c : UInt8}, c ∈ l → c = 47 ∨ ∃ n ∈ spl l, c ∈ n
  | [], c, h => by simp at h
  | d :: t, c, h => by
    by_cases hd : d = 47
    · subst hd
      rw [spl_slash]
      rcases List.mem_cons.1 h with h | h
      · exact .inl h
      · rcases mem_spl h with h | ⟨n, h1, h2⟩
        · exact .inl h
        · exact .inr ⟨n, List.mem_cons_of_mem _ h1, h2⟩
    · obtain ⟨x, r, e⟩ := List.exists_cons_of_ne_nil (spl_ne t)
      rw [spl_cons hd e]
      rcases List.mem_cons.1 h with h | h
      · exact .inr ⟨_, List.mem_cons_self, by rw [h]; exact List.mem_cons_self⟩
      · rcases mem_spl h with h | ⟨n, h1, h2⟩
        · exact .inl h
        · rw [e] at h1
          rcases List.mem_cons.1 h1 with rfl | h1
          · exact .inr ⟨_, List.mem_cons_self, List.mem_cons_of_mem _ h2⟩
          · exact .inr ⟨n, List.mem_cons_of_mem _ h1, h2⟩
theorem path_bytes {l : List UInt8} (h : pathOk l = true) {c : UInt8} (hc : c ∈ l) : 32 ≤ c.toNat := by
  unfold pathOk at h
  simp only [Bool.and_eq_true] at h
  rcases mem_spl hc with rfl | ⟨n, h1, h2⟩
  · decide
  · have := List.all_eq_true.1 h.2 n h1
    unfold nmOk at this
    simp only [Bool.and_eq_true] at this
    have h3 := List.all_eq_true.1 this.2 c h2
    simpa using h3
theorem path_nil : pathOk [] = false := by decide
theorem path_two (a b : List UInt8) : pathOk (a ++ [47, 47] ++ b) = false := by
  rw [show a ++ [47, 47] ++ b = a ++ 47 :: ([] ++ 47 :: b) by simp, pathOk_app, pathOk_app, path_nil]
  simp
theorem path_front (a : List UInt8) : pathOk ([47] ++ a) = false := by
  rw [show [47] ++ a = [] ++ 47 :: a by simp, pathOk_app, path_nil]
  simp
theorem path_end (a : List UInt8) : pathOk (a ++ [47]) = false := by
  rw [pathOk_app, path_nil]
  simp
theorem path_line (a : List UInt8) : pathOk (a ++ [10]) = false := by
  cases e : pathOk (a ++ [10]) with
  | false => rfl
  | true =>
    have := path_bytes e (c := 10) (by simp)
    revert this
    decide
set_option maxHeartbeats 16000000 in
set_option maxRecDepth 100000 in
theorem fpaths_go (a b : List UInt8) (ha : a.length ≤ 300) (hb : b.length ≤ 300) (w : World) (PA PB D : Bool) (h1 : pathOk a = PA) (h2 : pathOk b = PB) (h3 : decide (a.length + b.length < 255) = D) :
    Calls Tryd.prog 7 #[.string (st a), .string (st b)] w fun e w' => e = .returned (.bool true) ∧ Below w.heap.size w w' := by
  have hab : pathOk (a ++ [47] ++ b) = (PA && PB && D) := by
    rw [show a ++ [47] ++ b = a ++ 47 :: b by simp, pathOk_app, h1, h2, h3]
  have haw := fawake_true w
  have sa := st_size a
  have sb := st_size b
  obtain ⟨NA, hNA⟩ : ∃ NA, NA = a.length := ⟨_, rfl⟩
  obtain ⟨NB, hNB⟩ : ∃ NB, NB = b.length := ⟨_, rfl⟩
  have hd : decide (((NA : Int) + (NB : Int)) < 255) = D := by
    rw [← h3, hNA, hNB]
    by_cases h : a.length + b.length < 255
    · rw [decide_eq_true h, decide_eq_true (by omega)]
    · rw [decide_eq_false h, decide_eq_false (by omega)]
  have hwr := IntWalk.i64_in ((NA : Int) + (NB : Int)) (by omega)
  have ca : ¬ (NA : Int) > 300 := by omega
  have cb : ¬ (NB : Int) > 300 := by omega
  have p1 := fun W => path_any a (by unfold maxLen; omega) W
  have p2 := fun W => path_any b (by unfold maxLen; omega) W
  have p3 := fun W => path_any (a ++ [47] ++ b) (by simp; unfold maxLen; omega) W
  have p4 := fun W => path_any (a ++ [47, 47] ++ b) (by simp; unfold maxLen; omega) W
  have p5 := fun W => path_any ([47] ++ a) (by simp; unfold maxLen; omega) W
  have p6 := fun W => path_any (a ++ [47]) (by simp; unfold maxLen; omega) W
  have p7 := fun W => path_any (a ++ [10]) (by simp; unfold maxLen; omega) W
  rw [h1] at p1
  rw [h2] at p2
  rw [hab] at p3
  rw [path_two] at p4
  rw [path_front] at p5
  rw [path_end] at p6
  rw [path_line] at p7
  have e1 : st a ++ ⟨#[47]⟩ = st (a ++ [47]) := by rw [← st_app]; rfl
  have e2 : st (a ++ [47]) ++ st b = st (a ++ [47] ++ b) := st_app _ _
  have e3 : st a ++ ⟨#[47, 47]⟩ = st (a ++ [47, 47]) := by rw [← st_app]; rfl
  have e4 : st (a ++ [47, 47]) ++ st b = st (a ++ [47, 47] ++ b) := st_app _ _
  have e5 : (⟨#[47]⟩ : ByteArray) ++ st a = st ([47] ++ a) := by rw [← st_app]; rfl
  have e6 : st a ++ ⟨#[10]⟩ = st (a ++ [10]) := by rw [← st_app]; rfl
  have s6 : (st (a ++ [47])).size = NA + 1 := by rw [st_size, hNA]; simp
  have s8 : (st (a ++ [47, 47])).size = NA + 2 := by rw [st_size, hNA]; simp
  rw [← hNA] at sa ha
  rw [← hNB] at sb hb
  clear h1 h2 h3 hab hNA hNB
  generalize st (a ++ [47] ++ b) = S3 at *
  generalize st (a ++ [47, 47] ++ b) = S4 at *
  generalize st ([47] ++ a) = S5 at *
  generalize st (a ++ [47]) = S6 at *
  generalize st (a ++ [10]) = S7 at *
  generalize st (a ++ [47, 47]) = S8 at *
  generalize st a = S1 at *
  generalize st b = S2 at *
  cases PA <;> cases PB <;> cases D <;> simp only [Bool.and_true, Bool.and_false, Bool.and_self] at p3 <;>
  · go_enter Tryd.func7, Tryd.ntmps7
    go_wp2_with (first
      | (go_at_call 9; refine haw.mono ?_; clear haw; rintro _ w1 ⟨rfl, hb1⟩)
      | (go_at_call 14; refine (p1 _).mono ?_; clear p1; rintro _ w2 ⟨rfl, hb2⟩)
      | (go_at_call 14; refine (p2 _).mono ?_; clear p2; rintro _ w3 ⟨rfl, hb3⟩)
      | (go_at_call 14; refine (p3 _).mono ?_; clear p3; rintro _ w4 ⟨rfl, hb4⟩)
      | (go_at_call 14; refine (p4 _).mono ?_; clear p4; rintro _ w5 ⟨rfl, hb5⟩)
      | (go_at_call 14; refine (p5 _).mono ?_; clear p5; rintro _ w6 ⟨rfl, hb6⟩)
      | (go_at_call 14; refine (p6 _).mono ?_; clear p6; rintro _ w7 ⟨rfl, hb7⟩)
      | (go_at_call 14; refine (p7 _).mono ?_; clear p7; rintro _ w8 ⟨rfl, hb8⟩))
    go_ret
    have g2 := hb1.trans (hb2.mono hb1.size)
    have g3 := g2.trans (hb3.mono g2.size)
    have g4 := g3.trans (hb4.mono g3.size)
    have g5 := g4.trans (hb5.mono g4.size)
    have g6 := g5.trans (hb6.mono g5.size)
    have g7 := g6.trans (hb7.mono g6.size)
    exact ⟨rfl, g7.trans (hb8.mono g7.size)⟩
set_option maxHeartbeats 4000000 in
set_option maxRecDepth 100000 in
theorem law_fpaths {w : World} {s t : ByteArray} (_ : s.size ≤ maxLen) (_ : t.size ≤ maxLen) :
    Calls Tryd.prog 7 #[.string s, .string t] w fun e w' => e = .returned (.bool true) ∧ Below w.heap.size w w' := by
  obtain ⟨a, rfl⟩ : ∃ a, s = st a := ⟨s.data.toList, by show s = ⟨s.data.toList.toArray⟩; rw [Array.toArray_toList]⟩
  obtain ⟨b, rfl⟩ : ∃ b, t = st b := ⟨t.data.toList, by show t = ⟨t.data.toList.toArray⟩; rw [Array.toArray_toList]⟩
  by_cases ha : a.length ≤ 300
  · by_cases hb : b.length ≤ 300
    · exact fpaths_go a b ha hb w _ _ _ rfl rfl rfl
    · have haw := fawake_true w
      have sa := st_size a
      have sb := st_size b
      have ca : ¬ (a.length : Int) > 300 := by omega
      have cb : (b.length : Int) > 300 := by omega
      generalize a.length = NA at *
      generalize b.length = NB at *
      clear ha hb
      go_enter Tryd.func7, Tryd.ntmps7
      go_wp2_with (go_at_call 9; refine haw.mono ?_; clear haw; rintro _ w1 ⟨rfl, hb1⟩)
      go_ret
      exact ⟨rfl, hb1⟩
  · have haw := fawake_true w
    have sa := st_size a
    have ca : (a.length : Int) > 300 := by omega
    generalize a.length = NA at *
    clear ha
    go_enter Tryd.func7, Tryd.ntmps7
    go_wp2_with (go_at_call 9; refine haw.mono ?_; clear haw; rintro _ w1 ⟨rfl, hb1⟩)
    go_ret
    exact ⟨rfl, hb1⟩
end Go.Proofs.YtpcoiakdbfihlaaDoor

/-! The statement FilesPaths, proved: for every two strings the law returns true. No condition but that utf8's two tables hold what the program's text lays (the card ties it; no walk reads them). -/
namespace Go.Proofs.YtpcoiakdbfihlaaDoor.filesPaths
open Go.ChangeShapes Go.WideShapes Go.ChangeAt Go.RowKit
set_option linter.unusedVariables false

set_option maxRecDepth 100000 in
theorem lifted (os : Os) (started : os.Started) (H : Type) (enc : TypeId × Value → H) :
    ReturnsInHanded {} Tryd.checked os 7 .any (fun w args => (Rows.filesPathsSpec.pre enc Tryd.prog Tryd.f7 [] false w args ∧ laidMetH Tryd.prog laidsU w) ∧ sizedMet enc Tryd.prog Tryd.f7 (OpenSpec.ofChange Rows.filesPathsSpec) false w args) (Rows.filesPathsSpec.post enc Tryd.prog Tryd.f7 false true false false) := by
  refine returnsInHanded_of_change_and (C := Tryd.checked) (X := fun w _ => laidMetH Tryd.prog laidsU w) (fun _ _ _ hh h => h.of_heap hh) own_knob started (by kernel_rfl) Tryd.func7
    (ChangeSpec.witness_shaped (enc := enc) (C := Tryd.checked) (os := os) (X := fun w _ => laidMetH Tryd.prog laidsU w) false (World.laidAll Tryd.prog os laidsU) #[.string ByteArray.empty, .string ByteArray.empty] 8 (World.laidAll_os _ _ _) (World.shaped_of_ZipB (by kernel_rfl) (by kernel_rfl)) (by kernel_rfl) (by kernel_rfl) (by kernel_rfl) (door_metU os _)) ?_
  intro W base args ds gs before hval0 hW _ _ hL _
  have hval : ∀ (j : Nat) t v, Tryd.f7.params[j]? = some t → args[j]? = some v → Value.okWide Tryd.prog W .any base t v := hval0
  have hW' := hW
  obtain ⟨p, q, hA0, hV, rfl, hfz, hnd⟩ := hW
  have hA : DataW.TrodAll enc Tryd.prog W 0 (fun _ => true) true Tryd.f7.params.toList args.toList ds p := hA0
  rw [Tryd.params7] at hA hval
  obtain ⟨v0, vs0, d0, ds0, p0, q0, hargs, rfl, rfl, h0, r0⟩ := trodAll_cons hA
  obtain ⟨v1, vs1, d1, ds1, p1, q1, rfl, rfl, rfl, h1, r1⟩ := trodAll_cons r0
  obtain ⟨rfl, rfl, rfl⟩ := trodAll_nil r1
  obtain rfl : args = #[v0, v1] := by cases args; simp_all
  obtain ⟨rfl, rfl⟩ := trodVars_none hV
  obtain ⟨s0, rfl, rfl, rfl, w0⟩ := Go.ChangeMaps.open_string Tryd.underlying9 (hval 0 9 v0 rfl rfl) h0
  obtain ⟨s1, rfl, rfl, rfl, w1⟩ := Go.ChangeMaps.open_string Tryd.underlying9 (hval 1 9 v1 rfl rfl) h1
  clear hA0 hval0
  refine (law_fpaths w0 w1).mono fun e W' ⟨he, bel⟩ => ?_
  subst he
  exact ⟨_, rfl, _, _, _, [], _, [], hW', trodAll_mk1 (shut_bool Tryd.underlying4 _), (trodAll_cons_mk (Go.ChangeMaps.shut_string Tryd.underlying9 w0) (trodAll_cons_mk (Go.ChangeMaps.shut_string Tryd.underlying9 w1) trodAll_mk0)), rfl, bel.frame _, fun h => by cases h⟩

theorem proved : Rows.FilesPathsSaid :=
  OpenClaim.holds_of_wide 7 Tryd.f7 rfl rfl rfl rfl rfl rfl rfl ⟨rfl, rfl, rfl, rfl, rfl⟩ rfl rfl rfl rfl rfl (by kernel_rfl) Tryd.func7 (by kernel_rfl)
    (of_decide_eq_true (by kernel_rfl)) (by unfold Func.isWrapper; first | (rw [if_pos (by decide +kernel)]; kernel_rfl) | (rw [if_neg (by decide +kernel)]; exact ⟨rfl, rfl⟩))
    (fun os started H enc _ => lifted os started H enc)

theorem proved_card : Rows.FilesPathsCardSaid :=
  Claim7.holds_tied_plain_at .later [] [.data, .pinned] true (true, Rows.filesPathsCard.stood.harness.2) false proved (fun _ h => by cases h) (by kernel_rfl) (fun _ h => by cases h) filesPaths_row_tie rfl ⟨rfl, rfl⟩ (by kernel_rfl) rfl
    (fun f fn hf hfn => by
      obtain rfl : f = 7 := Option.some.inj ((show Tryd.prog.funcNamed Rows.filesPathsRow.func = some 7 by kernel_rfl).symm.trans hf) |>.symm
      obtain rfl : fn = Tryd.f7 := (Option.some.inj (Tryd.func7.symm.trans hfn)).symm
      exact ⟨by kernel_rfl, fun j t ht => by
        have hall : (Tryd.f7.params.toList.all fun u => !Tryd.prog.wantsStandIn u) = true := by kernel_rfl
        exact (show Tryd.prog.wantsStandIn t = false by simpa using List.all_eq_true.1 hall t (by rw [Array.mem_toList_iff]; exact Array.mem_of_getElem? ht))⟩)
    (by kernel_rfl)
#print axioms proved_card
end Go.Proofs.YtpcoiakdbfihlaaDoor.filesPaths
