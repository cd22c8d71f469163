/-
  The law FilesFront.
  The statement FilesFront, proved: for every two strings the law returns true. No condition but that utf8's two tables hold what the program's text lays (the card ties it; no walk reads them).
-/
import Derived.Test.YtpcoiakdbfihlaaDoorPkPaths01
import Derived.Test.YtpcoiakdbfihlaaDoorPk11
import Derived.Test.YtpcoiakdbfihlaaDoorCards
import Derived.Test.YtpcoiakdbfihlaaDoorTie
import Derived.SevenTiedAt
/-! The law FilesFront. -/
namespace Go.Proofs.YtpcoiakdbfihlaaDoor
open Go.RowKit Codec

theorem lt_app (a : List UInt8) (c : UInt8) (b : List UInt8) : a < a ++ c :: b := by
  induction a with
  | nil => simp
  | cons x a ih =>
    rw [List.cons_append, List.cons_lt_cons_iff]
    exact .inr ⟨rfl, ih⟩
theorem spl_snoc {d : UInt8} (hd : d ≠ 47) : ∀ l, ∃ f n, spl l = f ++ [n] ∧ spl (l ++ [d]) = f ++ [n ++ [d]]
  | [] => ⟨[], [], rfl, by rw [List.nil_append, spl_cons hd (t := []) (x := []) (r := []) rfl]; rfl⟩
  | c :: t => by
    obtain ⟨f, n, h1, h2⟩ := spl_snoc hd t
    by_cases hc : c = 47
    · subst hc
      exact ⟨[] :: f, n, by rw [spl_slash, h1]; rfl, by rw [List.cons_append, spl_slash, h2]; rfl⟩
    · cases f with
      | nil => exact ⟨[], c :: n, by rw [spl_cons hc (x := n) (r := []) (by simpa using h1)]; rfl, by rw [List.cons_append, spl_cons hc (x := n ++ [d]) (r := []) (by simpa using h2)]; rfl⟩
      | cons x f => exact ⟨(c :: x) :: f, n, by rw [spl_cons hc (x := x) (r := f ++ [n]) (by simpa using h1)]; rfl, by rw [List.cons_append, spl_cons hc (x := x) (r := f ++ [n ++ [d]]) (by simpa using h2)]; rfl⟩
theorem nm_more {n : List UInt8} (h : nmOk n = true) : nmOk (n ++ [120]) = true := by
  unfold nmOk at h ⊢
  simp only [Bool.and_eq_true, decide_eq_true_eq] at h ⊢
  refine ⟨⟨⟨by simp, fun e => ?_⟩, fun e => ?_⟩, ?_⟩
  · have := congrArg (fun l => l.getLast?) e
    simp at this
  · have := congrArg (fun l => l.getLast?) e
    simp at this
  · rw [List.all_append, h.2]
    decide
theorem path_x {l : List UInt8} (h : pathOk l = true) (hl : l.length < 255) : pathOk (l ++ [120]) = true := by
  unfold pathOk at h ⊢
  simp only [Bool.and_eq_true, decide_eq_true_eq] at h ⊢
  refine ⟨by simp; omega, ?_⟩
  obtain ⟨f, n, h1, h2⟩ := spl_snoc (d := 120) (by decide) l
  have h3 := h.2
  rw [h1, List.all_append] at h3
  rw [h2, List.all_append]
  simp only [Bool.and_eq_true, List.all_cons, List.all_nil, Bool.and_true] at h3 ⊢
  exact ⟨h3.1, nm_more h3.2⟩
section
variable {a b : List UInt8} (ha : pathOk a = true) (hb : pathOk b = true) (hl : a.length + b.length < 254)
include ha hb hl
theorem path_ab : pathOk (a ++ 47 :: b) = true := by
  rw [pathOk_app, ha, hb, decide_eq_true (show a.length + b.length < 255 by omega)]
  rfl
omit ha hb hl in
theorem chk_one : chkE [(a, []), (a ++ 47 :: b, [])] = 1 := by
  unfold chkE
  rw [if_pos]
  right
  refine clash_some (i := 1) (by simp) ((clashAt_iff (x := (a ++ 47 :: b, [])) rfl).2 ⟨a, mem_fr.2 (.inr ⟨b, rfl⟩), ?_⟩)
  simp [aheadL]
theorem chk_two : chkE [(a ++ 47 :: b, []), (a ++ 47 :: b ++ [120], [])] = 0 := by
  have h1 := path_ab ha hb hl
  have h2 := path_x h1 (by simp; omega)
  have h3 := lt_app (a ++ 47 :: b) 120 []
  have hr : riseB [(a ++ 47 :: b, []), (a ++ 47 :: b ++ [120], [])] = true := by
    simp only [riseB, h1, h2, decide_eq_true h3, Bool.and_self]
  have hc : clashB [(a ++ 47 :: b, []), (a ++ 47 :: b ++ [120], [])] = false := by
    refine clash_none fun i hi => ?_
    cases e : clashAt [(a ++ 47 :: b, ([] : List UInt8)), (a ++ 47 :: b ++ [120], [])] i with
    | false => rfl
    | true =>
      exfalso
      match i, hi with
      | 0, _ =>
        obtain ⟨q, _, h⟩ := (clashAt_iff (x := (a ++ 47 :: b, [])) rfl).1 e
        simp [aheadL] at h
      | 1, _ =>
        obtain ⟨q, h4, h⟩ := (clashAt_iff (x := (a ++ 47 :: b ++ [120], [])) rfl).1 e
        have hq : q = a ++ 47 :: b := by simpa [aheadL] using h
        subst hq
        rcases mem_fr.1 h4 with h5 | ⟨r, h5⟩
        · have := congrArg List.length h5
          simp at this
        · have := List.append_cancel_left h5
          simp at this
  unfold chkE
  rw [if_neg (by rw [hr, hc]; simp), if_neg (by simp [tooB, allF])]
end
theorem chk_three (a : List UInt8) : chkE [(a, []), (a, [])] = 1 := by
  unfold chkE
  rw [if_pos]
  left
  simp only [riseB, decide_eq_false (klt_irr a), Bool.and_false, Bool.false_and]
theorem chk_single {a : List UInt8} (ha : pathOk a = true) : chkE [(a, [])] = 0 := by
  have hr : riseB [(a, ([] : List UInt8))] = true := by simp only [riseB, ha, Bool.and_self]
  have hc : clashB [(a, ([] : List UInt8))] = false := by
    refine clash_none fun i hi => ?_
    obtain rfl : i = 0 := by simpa using hi
    cases e : clashAt [(a, ([] : List UInt8))] 0 with
    | false => rfl
    | true =>
      obtain ⟨q, _, h⟩ := (clashAt_iff (x := (a, [])) rfl).1 e
      simp [aheadL] at h
  unfold chkE
  rw [if_neg (by rw [hr, hc]; simp), if_neg (by simp [tooB, allF])]
/-- Two files without bytes. -/
theorem fls_two {w : World} {q : Nat} {p r : List UInt8} (h : w.heap[q]? = some (.cells #[.string (st p), .slice none 0 0, .string (st r), .slice none 0 0] 50 (0, 0))) : Fls w (fun _ => True) (some ⟨q, 0, none⟩) 2 2 [(p, []), (r, [])] :=
  fls_block (L := [((none, 0, 0), (p, [])), ((none, 0, 0), (r, []))]) h trivial (fun y hy => by
    rcases List.mem_cons.1 hy with rfl | hy
    · exact Byt.nil _ _ _ _ (Nat.zero_le _)
    · obtain rfl := List.mem_singleton.1 hy
      exact Byt.nil _ _ _ _ (Nat.zero_le _)) (by simp)
set_option maxHeartbeats 16000000 in
set_option maxRecDepth 100000 in
theorem ffront_go (a b : List UInt8) (ha : a.length ≤ 100) (hb : b.length ≤ 100) (h1 : pathOk a = true) (h2 : pathOk b = true) (w : World) :
    Calls Tryd.prog 8 #[.string (st a), .string (st b)] w fun e w' => e = .returned (.bool true) ∧ Below w.heap.size w w' := by
  have haw := fawake_true w
  have sa := st_size a
  have sb := st_size b
  have p1 := fun W => path_any a (by unfold maxLen; omega) W
  have p2 := fun W => path_any b (by unfold maxLen; omega) W
  rw [h1] at p1
  rw [h2] at p2
  have e1 : st a ++ ⟨#[47]⟩ = st (a ++ [47]) := by rw [← st_app]; rfl
  have e2 : st (a ++ [47]) ++ st b = st (a ++ 47 :: b) := by rw [st_app]; simp
  have e3 : st (a ++ 47 :: b) ++ ⟨#[120]⟩ = st (a ++ 47 :: b ++ [120]) := by rw [← st_app]; rfl
  have s1 : (st (a ++ [47])).size ≤ 101 := by rw [st_size]; simp; omega
  have s2 : (st (a ++ 47 :: b)).size ≤ 201 := by rw [st_size]; simp; omega
  have ca : ¬ (a.length : Int) > 100 := by omega
  have cb : ¬ (b.length : Int) > 100 := by omega
  have hlab : a.length + b.length < 254 := by omega
  have HC : Hid (chkE [(a, []), (a ++ 47 :: b, [])] = 1 ∧ chkE [(a ++ 47 :: b, []), (a ++ 47 :: b ++ [120], [])] = 0 ∧ chkE [(a, []), (a, [])] = 1 ∧ chkE [(a, [])] = 0) := Lib.hid ⟨chk_one, chk_two h1 h2 hlab, chk_three a, chk_single h1⟩
  have HP : Hid (∀ l : Tb, (∀ x ∈ l, x.1 = a ∨ x.1 = a ++ 47 :: b ∨ x.1 = a ++ 47 :: b ++ [120]) → ∀ x ∈ l, x.1.length ≤ maxLen) := Lib.hid fun l hl x hx => by
    unfold maxLen
    rcases hl x hx with e | e | e <;> rw [e] <;> simp <;> omega
  obtain ⟨NA, hNA⟩ : ∃ NA, NA = a.length := ⟨_, rfl⟩
  obtain ⟨NB, hNB⟩ : ∃ NB, NB = b.length := ⟨_, rfl⟩
  rw [← hNA] at sa ca ha
  rw [← hNB] at sb cb hb
  clear h1 h2 hNA hNB hlab
  obtain ⟨AB, hAB⟩ : ∃ AB, AB = a ++ 47 :: b := ⟨_, rfl⟩
  rw [← hAB] at e2 e3 s2 HC HP
  obtain ⟨AX, hAX⟩ : ∃ AX, AX = AB ++ [120] := ⟨_, rfl⟩
  rw [← hAX] at e3 HC HP
  clear hAB hAX
  go_enter Tryd.func8, Tryd.ntmps8
  go_upto_region 13 with (first
    | (go_at_call 9; refine haw.mono ?_; clear haw; rintro _ w1 ⟨rfl, hb1⟩)
    | (go_at_call 14; refine (p1 _).mono ?_; clear p1; rintro _ w2 ⟨rfl, hb2⟩)
    | (go_at_call 14; refine (p2 _).mono ?_; clear p2; rintro _ w3 ⟨rfl, hb3⟩))
  obtain ⟨q, hq⟩ : ∃ q, q = w3.heap.size := ⟨_, rfl⟩
  obtain ⟨W3, hW3⟩ : ∃ W3, W3 = ((w3.alloc (.cells #[.string (st a), .slice none 0 0, .string (st AB), .slice none 0 0] 50)).alloc (.cells #[.string (st AB), .slice none 0 0, .string (st AX), .slice none 0 0] 50)).alloc (.cells #[.string (st a), .slice none 0 0, .string (st a), .slice none 0 0] 50) := ⟨_, rfl⟩
  have k1 := heap_alloc_new w3 (.cells #[.string (st a), .slice none 0 0, .string (st AB), .slice none 0 0] 50)
  have k2 := heap_alloc_new (w3.alloc (.cells #[.string (st a), .slice none 0 0, .string (st AB), .slice none 0 0] 50)) (.cells #[.string (st AB), .slice none 0 0, .string (st AX), .slice none 0 0] 50)
  have k3 := heap_alloc_new ((w3.alloc (.cells #[.string (st a), .slice none 0 0, .string (st AB), .slice none 0 0] 50)).alloc (.cells #[.string (st AB), .slice none 0 0, .string (st AX), .slice none 0 0] 50)) (.cells #[.string (st a), .slice none 0 0, .string (st a), .slice none 0 0] 50)
  simp only [World.size_alloc] at k2 k3
  have f3 := fls_two (p := a) (r := a) k3
  have f2 := fls_two (p := AB) (r := AX) ((Below.heap_alloc _ (.cells #[.string (st a), .slice none 0 0, .string (st a), .slice none 0 0] 50) _ (lt_of_cells k2)).trans k2)
  have k1' := (Below.heap_alloc _ (.cells #[.string (st AB), .slice none 0 0, .string (st AX), .slice none 0 0] 50) _ (lt_of_cells k1)).trans k1
  have f1 := fls_two (p := a) (r := AB) ((Below.heap_alloc _ (.cells #[.string (st a), .slice none 0 0, .string (st a), .slice none 0 0] 50) _ (lt_of_cells k1')).trans k1')
  have hbw : Below w3.heap.size w3 W3 := by rw [hW3]; exact (((Below.refl _ _).alloc (Nat.le_refl _) _).alloc (by simp) _).alloc (by simp; omega) _
  rw [← hW3] at f1 f2 f3 ⊢
  rw [← hq] at f1 f2 f3 ⊢
  have g3 := hb1.trans ((hb2.trans (hb3.mono hb2.size)).mono hb1.size)
  have HB := Lib.hid (g3.trans (hbw.mono g3.size))
  have HF := Lib.hid (And.intro f1 (And.intro f2 f3))
  have c1 := check_files f1 (by omega) (HP.out _ (fun x hx => by simp at hx; rcases hx with rfl | rfl <;> simp))
  rw [HC.out.1] at c1
  have hto : ∀ W, (Instr.slice 22 (.slice (some ⟨q, 0, none⟩) 2 2) none (some (.int .i64 1)) none).run Tryd.prog W = .ok (.slice (some ⟨q, 0, none⟩) 1 2) W := fun W => run_toF (some ⟨q, 0, none⟩) 2 2 1 (by omega) W
  clear k1 k2 k3 k1' f1 f2 f3 hbw g3 hW3 hq hb1 hb2 hb3
  go_wp2_with (first
    | (go_at_call 16; refine c1.mono ?_; clear c1; rintro _ w4 ⟨rfl, hb4⟩; have c2 := check_files (HF.out.2.1.below hb4) (by omega) (HP.out _ (fun x hx => by simp at hx; rcases hx with rfl | rfl <;> simp)); rw [HC.out.2.1] at c2)
    | (go_at_call 16; refine c2.mono ?_; clear c2; rintro _ w5 ⟨rfl, hb5⟩; have hb45 := hb4.trans (hb5.mono hb4.size); have c3 := check_files (HF.out.2.2.below hb45) (by omega) (HP.out _ (fun x hx => by simp at hx; rcases hx with rfl | rfl <;> simp)); rw [HC.out.2.2.1] at c3)
    | (go_at_call 16; refine c3.mono ?_; clear c3; rintro _ w6 ⟨rfl, hb6⟩; have hb46 := hb45.trans (hb6.mono hb45.size); have c4 := check_files ((HF.out.1.below hb46).to (k := 1) (by omega)) (by omega) (HP.out _ (fun x hx => by simp at hx; rcases hx with rfl <;> simp)); rw [show List.take 1 [(a, ([] : List UInt8)), (AB, [])] = [(a, [])] from rfl, HC.out.2.2.2] at c4)
    | (go_at_call 16; refine c4.mono ?_; clear c4; rintro _ w7 ⟨rfl, hb7⟩))
  go_ret
  have hb47 := hb46.trans (hb7.mono hb46.size)
  exact ⟨rfl, HB.out.trans (hb47.mono HB.out.size)⟩
set_option maxHeartbeats 4000000 in
set_option maxRecDepth 100000 in
theorem law_ffront {w : World} {s t : ByteArray} (hs : s.size ≤ maxLen) (ht : t.size ≤ maxLen) :
    Calls Tryd.prog 8 #[.string s, .string t] w fun e w' => e = .returned (.bool true) ∧ Below w.heap.size w w' := by
  obtain ⟨a, rfl⟩ : ∃ a, s = st a := ⟨s.data.toList, by show s = ⟨s.data.toList.toArray⟩; rw [Array.toArray_toList]⟩
  obtain ⟨b, rfl⟩ : ∃ b, t = st b := ⟨t.data.toList, by show t = ⟨t.data.toList.toArray⟩; rw [Array.toArray_toList]⟩
  rw [st_size] at hs ht
  by_cases ha : a.length ≤ 100
  · by_cases hb : b.length ≤ 100
    · by_cases hok : pathOk a = true ∧ pathOk b = true
      · exact ffront_go a b ha hb hok.1 hok.2 w
      · have haw := fawake_true w
        have sa := st_size a
        have sb := st_size b
        have p1 := fun W => path_any a hs W
        have p2 := fun W => path_any b ht W
        have ca : ¬ (a.length : Int) > 100 := by omega
        have cb : ¬ (b.length : Int) > 100 := by omega
        obtain ⟨PA, hPA⟩ : ∃ PA, PA = pathOk a := ⟨_, rfl⟩
        obtain ⟨PB, hPB⟩ : ∃ PB, PB = pathOk b := ⟨_, rfl⟩
        rw [← hPA, ← hPB] at hok
        rw [← hPA] at p1
        rw [← hPB] at p2
        generalize a.length = NA at *
        generalize b.length = NB at *
        clear ha hb hs ht hPA hPB
        cases PA
        · clear hok
          go_enter Tryd.func8, Tryd.ntmps8
          go_wp2_with (first
            | (go_at_call 9; refine haw.mono ?_; clear haw; rintro _ w1 ⟨rfl, hb1⟩)
            | (go_at_call 14; refine (p1 _).mono ?_; clear p1; rintro _ w2 ⟨rfl, hb2⟩)
            | (go_at_call 14; refine (p2 _).mono ?_; clear p2; rintro _ w3 ⟨rfl, hb3⟩))
          go_ret
          exact ⟨rfl, hb1.trans ((hb2.trans (hb3.mono hb2.size)).mono hb1.size)⟩
        · obtain rfl : PB = false := by simpa using hok
          clear hok
          go_enter Tryd.func8, Tryd.ntmps8
          go_wp2_with (first
            | (go_at_call 9; refine haw.mono ?_; clear haw; rintro _ w1 ⟨rfl, hb1⟩)
            | (go_at_call 14; refine (p1 _).mono ?_; clear p1; rintro _ w2 ⟨rfl, hb2⟩)
            | (go_at_call 14; refine (p2 _).mono ?_; clear p2; rintro _ w3 ⟨rfl, hb3⟩))
          go_ret
          exact ⟨rfl, hb1.trans ((hb2.trans (hb3.mono hb2.size)).mono hb1.size)⟩
    · have haw := fawake_true w
      have sa := st_size a
      have sb := st_size b
      have ca : ¬ (a.length : Int) > 100 := by omega
      have cb : (b.length : Int) > 100 := by omega
      generalize a.length = NA at *
      generalize b.length = NB at *
      clear ha hb hs ht
      go_enter Tryd.func8, Tryd.ntmps8
      go_wp2_with (go_at_call 9; refine haw.mono ?_; clear haw; rintro _ w1 ⟨rfl, hb1⟩)
      go_ret
      exact ⟨rfl, hb1⟩
  · have haw := fawake_true w
    have sa := st_size a
    have ca : (a.length : Int) > 100 := by omega
    generalize a.length = NA at *
    clear ha hs ht
    go_enter Tryd.func8, Tryd.ntmps8
    go_wp2_with (go_at_call 9; refine haw.mono ?_; clear haw; rintro _ w1 ⟨rfl, hb1⟩)
    go_ret
    exact ⟨rfl, hb1⟩
end Go.Proofs.YtpcoiakdbfihlaaDoor

/-! The statement FilesFront, proved: for every two strings the law returns true. No condition but that utf8's two tables hold what the program's text lays (the card ties it; no walk reads them). -/
namespace Go.Proofs.YtpcoiakdbfihlaaDoor.filesFront
open Go.ChangeShapes Go.WideShapes Go.ChangeAt Go.RowKit
set_option linter.unusedVariables false

set_option maxRecDepth 100000 in
theorem lifted (os : Os) (started : os.Started) (H : Type) (enc : TypeId × Value → H) :
    ReturnsInHanded {} Tryd.checked os 8 .any (fun w args => (Rows.filesFrontSpec.pre enc Tryd.prog Tryd.f8 [] false w args ∧ laidMetH Tryd.prog laidsU w) ∧ sizedMet enc Tryd.prog Tryd.f8 (OpenSpec.ofChange Rows.filesFrontSpec) false w args) (Rows.filesFrontSpec.post enc Tryd.prog Tryd.f8 false true false false) := by
  refine returnsInHanded_of_change_and (C := Tryd.checked) (X := fun w _ => laidMetH Tryd.prog laidsU w) (fun _ _ _ hh h => h.of_heap hh) own_knob started (by kernel_rfl) Tryd.func8
    (ChangeSpec.witness_shaped (enc := enc) (C := Tryd.checked) (os := os) (X := fun w _ => laidMetH Tryd.prog laidsU w) false (World.laidAll Tryd.prog os laidsU) #[.string ByteArray.empty, .string ByteArray.empty] 8 (World.laidAll_os _ _ _) (World.shaped_of_ZipB (by kernel_rfl) (by kernel_rfl)) (by kernel_rfl) (by kernel_rfl) (by kernel_rfl) (door_metU os _)) ?_
  intro W base args ds gs before hval0 hW _ _ hL _
  have hval : ∀ (j : Nat) t v, Tryd.f8.params[j]? = some t → args[j]? = some v → Value.okWide Tryd.prog W .any base t v := hval0
  have hW' := hW
  obtain ⟨p, q, hA0, hV, rfl, hfz, hnd⟩ := hW
  have hA : DataW.TrodAll enc Tryd.prog W 0 (fun _ => true) true Tryd.f8.params.toList args.toList ds p := hA0
  rw [Tryd.params8] at hA hval
  obtain ⟨v0, vs0, d0, ds0, p0, q0, hargs, rfl, rfl, h0, r0⟩ := trodAll_cons hA
  obtain ⟨v1, vs1, d1, ds1, p1, q1, rfl, rfl, rfl, h1, r1⟩ := trodAll_cons r0
  obtain ⟨rfl, rfl, rfl⟩ := trodAll_nil r1
  obtain rfl : args = #[v0, v1] := by cases args; simp_all
  obtain ⟨rfl, rfl⟩ := trodVars_none hV
  obtain ⟨s0, rfl, rfl, rfl, w0⟩ := Go.ChangeMaps.open_string Tryd.underlying9 (hval 0 9 v0 rfl rfl) h0
  obtain ⟨s1, rfl, rfl, rfl, w1⟩ := Go.ChangeMaps.open_string Tryd.underlying9 (hval 1 9 v1 rfl rfl) h1
  clear hA0 hval0
  refine (law_ffront w0 w1).mono fun e W' ⟨he, bel⟩ => ?_
  subst he
  exact ⟨_, rfl, _, _, _, [], _, [], hW', trodAll_mk1 (shut_bool Tryd.underlying4 _), (trodAll_cons_mk (Go.ChangeMaps.shut_string Tryd.underlying9 w0) (trodAll_cons_mk (Go.ChangeMaps.shut_string Tryd.underlying9 w1) trodAll_mk0)), rfl, bel.frame _, fun h => by cases h⟩

theorem proved : Rows.FilesFrontSaid :=
  OpenClaim.holds_of_wide 8 Tryd.f8 rfl rfl rfl rfl rfl rfl rfl ⟨rfl, rfl, rfl, rfl, rfl⟩ rfl rfl rfl rfl rfl (by kernel_rfl) Tryd.func8 (by kernel_rfl)
    (of_decide_eq_true (by kernel_rfl)) (by unfold Func.isWrapper; first | (rw [if_pos (by decide +kernel)]; kernel_rfl) | (rw [if_neg (by decide +kernel)]; exact ⟨rfl, rfl⟩))
    (fun os started H enc _ => lifted os started H enc)

theorem proved_card : Rows.FilesFrontCardSaid :=
  Claim7.holds_tied_plain_at .later [] [.data, .pinned] true (true, Rows.filesFrontCard.stood.harness.2) false proved (fun _ h => by cases h) (by kernel_rfl) (fun _ h => by cases h) filesFront_row_tie rfl ⟨rfl, rfl⟩ (by kernel_rfl) rfl
    (fun f fn hf hfn => by
      obtain rfl : f = 8 := Option.some.inj ((show Tryd.prog.funcNamed Rows.filesFrontRow.func = some 8 by kernel_rfl).symm.trans hf) |>.symm
      obtain rfl : fn = Tryd.f8 := (Option.some.inj (Tryd.func8.symm.trans hfn)).symm
      exact ⟨by kernel_rfl, fun j t ht => by
        have hall : (Tryd.f8.params.toList.all fun u => !Tryd.prog.wantsStandIn u) = true := by kernel_rfl
        exact (show Tryd.prog.wantsStandIn t = false by simpa using List.all_eq_true.1 hall t (by rw [Array.mem_toList_iff]; exact Array.mem_of_getElem? ht))⟩)
    (by kernel_rfl)
#print axioms proved_card
end Go.Proofs.YtpcoiakdbfihlaaDoor.filesFront
