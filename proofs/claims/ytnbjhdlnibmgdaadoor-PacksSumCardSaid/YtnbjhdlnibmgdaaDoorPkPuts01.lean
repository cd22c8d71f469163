/-
  The law PacksPuts.
  A slice of rows of bytes that came in, opened.
  The statement PacksPuts, proved: for every rows of bytes the law returns true. No condition but that the digest's two tables hold what the program's text lays (the card ties them).
-/
import Derived.Test.YtnbjhdlnibmgdaaDoorPk09
import Derived.Test.YtnbjhdlnibmgdaaDoorPk08
import Derived.Test.YtnbjhdlnibmgdaaDoorPk15
import Derived.Test.YtnbjhdlnibmgdaaDoorPk03
import Derived.Deep.Strs
import Derived.Test.YtnbjhdlnibmgdaaDoorPk16
import Derived.Test.YtnbjhdlnibmgdaaDoorCards
import Derived.Test.YtnbjhdlnibmgdaaDoorTie
import Derived.SevenTiedAt
/-! The law PacksPuts. -/
namespace Go.Proofs.YtnbjhdlnibmgdaaDoor
open Go.RowKit Codec

/-- The sum of lengths, as an int has it. -/
def sumW (l : List (List UInt8)) : Int := l.foldl (fun s b => IntKind.i64.wrap (s + (b.length : Int))) 0
theorem sumW_snoc (l : List (List UInt8)) (b : List UInt8) : sumW (l ++ [b]) = IntKind.i64.wrap (sumW l + (b.length : Int)) := by simp [sumW, List.foldl_append]
def sumN (l : List (List UInt8)) : Nat := (l.map List.length).sum
theorem sumN_snoc (l : List (List UInt8)) (b : List UInt8) : sumN (l ++ [b]) = sumN l + b.length := by simp [sumN]
theorem sumW_eq (l : List (List UInt8)) : (∀ b ∈ l, b.length ≤ 65577) → l.length ≤ 1000 → sumW l = (sumN l : Int) ∧ sumN l ≤ 65577 * l.length := by
  refine snoc_ind (p := fun l => (∀ b ∈ l, b.length ≤ 65577) → l.length ≤ 1000 → sumW l = (sumN l : Int) ∧ sumN l ≤ 65577 * l.length) (by simp [sumW, sumN]) (fun l b ih => ?_) l.length l rfl
  intro h1 h2
  rw [List.length_append, List.length_singleton] at h2 ⊢
  obtain ⟨e1, e2⟩ := ih (fun x hx => h1 x (List.mem_append_left _ hx)) (by omega)
  have h3 := h1 b (by simp)
  rw [sumW_snoc, sumN_snoc, e1]
  refine ⟨?_, by omega⟩
  rw [IntWalk.i64_in _ (by omega)]
  omega
theorem pkSum_few : ∀ (l : List (List UInt8)), (∀ b ∈ l, b.length ≤ 65577) → pkSum l ≤ sumN l + 3 * l.length
  | [], _ => by simp [pkSum, sumN]
  | b :: l, h => by
    have ih := pkSum_few l fun x hx => h x (List.mem_cons_of_mem _ hx)
    have h2 := lnN_3 (x := b.length) (by have := h b List.mem_cons_self; omega)
    have e : pkSum (b :: l) = pkE b.length + pkSum l := by simp [pkSum]
    have e2 : sumN (b :: l) = b.length + sumN l := by simp [sumN]
    rw [e, e2, List.length_cons]
    simp only [pkE]
    omega
theorem put_few {l : List (List UInt8)} (h : putPE l = 0) (hn : l.length ≤ 20) (hs : ¬ sumW l > 2000) : (putPB l).length ≤ 3000 := by
  obtain ⟨h1, h2, h3, h4⟩ := putPE_ok h
  have h5 := may_le h3
  obtain ⟨e1, e2⟩ := sumW_eq l h5 (by omega)
  have e3 := pkSum_few l h5
  have e4 := lnN_le (x := l.length) (by omega)
  unfold putPB
  rw [if_pos h, pkB_len]
  omega
def PsR (w : World) (l : List (List UInt8)) (v i : Value) (wr : World) : Prop := ∃ j : Nat, j ≤ l.length ∧ i = .int .i64 (j : Int) ∧ v = .int .i64 (sumW (l.take j)) ∧ wr = w
set_option maxHeartbeats 16000000 in
set_option maxRecDepth 100000 in
theorem law_pputs {w : World} {S : Nat → Prop} {A : Option Addr} {n c : Nat} {l : List (List UInt8)} (h : Rws w S A n c l) (ht : Tab w) :
    Calls Tryd.prog 3 #[.slice A n c] w fun e w' => e = .returned (.bool true) ∧ Below w.heap.size w w' := by
  have haw := pkawake_true w
  have HL := Lib.hid (And.intro h (And.intro h.len (And.intro ht (Nat.le_trans h.cap h.max))))
  clear h ht
  go_enter Tryd.func3, Tryd.ntmps3
  go_upto_region 6 with (go_at_call 5; refine haw.mono ?_; clear haw; rintro _ w1 ⟨rfl, hb1⟩; have H1 := Lib.hid hb1; clear hb1)
  go_loopw [4, 5] (fun v i wr => PsR w1 l v i wr) (fun _ i _ => n - (intOf i).toNat)
  case atStart => exact ⟨0, Nat.zero_le _, rfl, rfl, rfl⟩
  case round =>
    obtain ⟨j, hj, rfl, rfl, hww⟩ := hrel
    have hww := hww.symm
    subst hww
    clear hww
    by_cases hlt : j < n
    · have hlt' : (j : Int) < (n : Int) := by omega
      obtain ⟨q, off, x, Ai, ci, rfl, _, hql, hx, hc, hy⟩ := HL.out.1.at_ hlt
      have hc0 := (H1.out.cell (p := ⟨q, off + j, none⟩) hql).trans hc
      have hadd := IntWalk.i64_in ((j : Int) + 1) (by have h := HL.out.2.2.2; unfold maxLen at h; omega)
      have HS : Hid (sumW (l.take (j + 1)) = IntKind.i64.wrap (sumW (l.take j) + (x.length : Int)) ∧ j < n) := Lib.hid ⟨by rw [take_snoc hx, sumW_snoc], hlt⟩
      obtain ⟨V, hV⟩ : ∃ V, V = sumW (l.take j) := ⟨_, rfl⟩
      obtain ⟨V2, hV2⟩ : ∃ V2, V2 = IntKind.i64.wrap (V + (x.length : Int)) := ⟨_, rfl⟩
      rw [← hV] at HS ⊢
      rw [← hV2] at HS
      have hV2' := hV2.symm
      obtain ⟨xn, hxn⟩ : ∃ xn, xn = x.length := ⟨_, rfl⟩
      rw [← hxn] at hV2' hc0
      clear hV hV2 hc hy hx hxn hql hlt hj
      go_wp2_with fail
      go_roundw
      case rel => exact ⟨j + 1, by have h1 := HS.out.2; have h2 := HL.out.2.1; omega, by simp, by rw [HS.out.1], rfl⟩
      case measure => have := HS.out.2; simp only [intOf]; omega
    · have hlt' : ¬ (j : Int) < (n : Int) := by omega
      have hfull : l.take j = l := List.take_of_length_le (by have := HL.out.2.1; omega)
      rw [hfull]
      obtain ⟨V, hV⟩ : ∃ V, V = sumW l := ⟨_, rfl⟩
      rw [← hV]
      have HV := Lib.hid hV
      clear hV hfull hlt hj
      by_cases hbig : n > 20
      · have hb' : (n : Int) > 20 := by omega
        clear hbig
        go_wp2
        go_ret
        exact ⟨rfl, H1.out⟩
      have hb' : ¬ (n : Int) > 20 := by omega
      have HN : Hid (n ≤ 20) := Lib.hid (by omega)
      clear hbig
      by_cases hVb : V > 2000
      · go_wp2
        go_ret
        exact ⟨rfl, H1.out⟩
      have HVN : Hid (putPE l = 0 → (putPB l).length ≤ 3000) := Lib.hid fun he => put_few he (by have h1 := HN.out; have h2 := HL.out.2.1; omega) (by rw [← HV.out]; exact hVb)
      have hpu := pput_any (HL.out.1.below H1.out)
      obtain ⟨E, hE⟩ : ∃ E, E = putPE l := ⟨_, rfl⟩
      obtain ⟨PB, hPB⟩ : ∃ PB, PB = putPB l := ⟨_, rfl⟩
      rw [← hE, ← hPB] at hpu HVN
      have HGP : Hid (E = 0 → getPk PB = (l, 0)) := Lib.hid fun he => by
        have h0 : putPE l = 0 := hE.symm.trans he
        have h1 := pk_get_put h0
        rw [hPB]
        unfold putPB
        rw [if_pos h0]
        exact h1
      have hrp := fun (W : World) {S2 : Nat → Prop} {A2 : Option Addr} {n2 c2 : Nat} (hs : Strs W S2 A2 n2 c2 l) => prput_any hs
      obtain ⟨SP, hSP⟩ : ∃ SP, SP = st PB := ⟨_, rfl⟩
      rw [← hE, ← hPB, ← hSP] at hrp
      have HSP := Lib.hid hSP
      clear hSP
      have HRP := Lib.hid (fun (W : World) (S2 : Nat → Prop) (A2 : Option Addr) (n2 c2 : Nat) (hs : Strs W S2 A2 n2 c2 l) => hrp W hs)
      have HLN : Hid (l.length = n) := Lib.hid HL.out.2.1
      clear hE hPB hrp
      go_upto_region 12 with (go_at_call 6; refine hpu.mono ?_; clear hpu; rintro _ w2 ⟨A2, m2, c2, rfl, hy2, hb2⟩; have H2 := Lib.hid (And.intro hy2 (H1.out.trans (hb2.mono H1.out.size))); clear hy2 hb2)
      have htx := texts_any (HL.out.1.below H2.out.2) (by have := HN.out; omega)
      rw [HLN.out] at htx
      go_upto_region 13 with (first
        | (go_at_call 8; refine htx.mono ?_; clear htx; rintro _ w3 ⟨A3, c3, rfl, hs3, hb3⟩; have hrp3 := HRP.out w3 _ _ _ _ hs3; have H3 := Lib.hid (And.intro (H2.out.2.trans (hb3.mono H2.out.2.size)) (H2.out.1.below hb3)); clear hs3 hb3)
        | (go_at_call 7; refine hrp3.mono ?_; clear hrp3; rintro _ w4 ⟨rfl, hb4⟩; have H4 := Lib.hid (And.intro (H3.out.1.trans (hb4.mono H3.out.1.size)) (H3.out.2.below hb4)); clear hb4))
      have hcv : (convert 24 9 (.slice A2 m2 c2)).run Tryd.prog w4 = .ok (.string SP) w4 := by rw [HSP.out]; exact byt_string H4.out.2
      by_cases h0 : E = 0
      case neg =>
        have hne : (E != 0) = true := by simpa using h0
        have hee : (E != E) = false := by simp
        clear h0
        go_wp2
        go_ret
        exact ⟨rfl, H4.out.1⟩
      subst h0
      have hge := pget_any H4.out.2
      rw [HGP.out rfl] at hge
      have hge2 : Calls Tryd.prog 9 #[.slice A2 m2 c2] w4 fun e w' => ∃ Ag cg, e = .returned (.tuple #[.slice Ag n cg, .int .i64 0]) ∧ Rws w' (w4.heap.size ≤ ·) Ag n cg l ∧ Below w4.heap.size w4 w' := by rw [← HLN.out]; exact hge
      clear hge
      go_upto_region 18 with (go_at_call 9; refine hge2.mono ?_; clear hge2; rintro _ w5 ⟨A5, c5, rfl, hr5, hb5⟩; have H5 := Lib.hid (And.intro hr5 (And.intro (H4.out.1.trans (hb5.mono H4.out.1.size)) (H4.out.2.below hb5))); clear hr5 hb5)
      clear hcv
      have htx5 := texts_any H5.out.1 (by have := HN.out; omega)
      rw [HLN.out] at htx5
      have htx6 := fun (W : World) (hb : Below w.heap.size w W) => texts_any (HL.out.1.below hb) (by have := HN.out; omega)
      rw [HLN.out] at htx6
      have HT6 := Lib.hid htx6
      obtain ⟨RS, hRS⟩ : ∃ RS, RS = row8 (rootL PB) := ⟨_, rfl⟩
      have hq : ∀ w, (Op.equalIn 10000 36 (.agg RS) (.agg RS)).run Tryd.prog w = .ok true w := fun w => by
        rw [hRS]
        exact (id_eql _ _ (crownD_length _ _) (crownD_length _ _) w).trans (by simp)
      have hpid := fun (W : World) (hb : Below w.heap.size w W) {S2 : Nat → Prop} {A2 : Option Addr} {n2 c2 : Nat} (hy : Byt W S2 A2 n2 c2 PB) => pid_any hy (by have h1 := HVN.out trivial; have h2 := hy.len; omega) (HL.out.2.2.1.below hb)
      have hprid := fun (W : World) => prid_any PB (by have h1 := HVN.out trivial; omega) W
      rw [← hRS] at hpid hprid
      rw [← HSP.out] at hprid
      have HPI := Lib.hid (fun (W : World) (hb : Below w.heap.size w W) (S2 : Nat → Prop) (A2 : Option Addr) (n2 c2 : Nat) (hy : Byt W S2 A2 n2 c2 PB) => hpid W hb hy)
      have HPR := Lib.hid hprid
      clear htx6 hRS hpid hprid
      go_wp2_with (first
        | (go_at_call 8; refine htx5.mono ?_; clear htx5; rintro _ w6 ⟨A6, c6, rfl, hs6, hb6⟩; have H6 := Lib.hid (And.intro hs6 (And.intro (H5.out.2.1.trans (hb6.mono H5.out.2.1.size)) (H5.out.2.2.below hb6))); have htx7 := HT6.out w6 H6.out.2.1; clear hs6 hb6)
        | (go_at_call 8; refine htx7.mono ?_; clear htx7; rintro _ w7 ⟨A7, c7, rfl, hs7, hb7⟩; have H7 := Lib.hid (And.intro (H6.out.2.1.trans (hb7.mono H6.out.2.1.size)) (H6.out.2.2.below hb7)); have hsa := psame_any (H6.out.1.below hb7) hs7 (by have := HN.out; omega); clear hs7 hb7)
        | (go_at_call 10; refine hsa.mono ?_; clear hsa; rintro _ _ ⟨rfl, k8, rfl⟩; have H8 := Lib.hid (And.intro (below_drewN H7.out.1 k8) (H7.out.2.drewN k8)); generalize w7.drewN k8 = w8 at H8 ⊢; have hid8 := HPI.out w8 H8.out.1 _ _ _ _ H8.out.2)
        | (go_at_call 11; refine hid8.mono ?_; clear hid8; rintro _ w9 ⟨rfl, hb9⟩; have H9 := Lib.hid (H8.out.1.trans (hb9.mono H8.out.1.size)); have hid9 := HPR.out w9; clear hb9)
        | (go_at_call 12; refine hid9.mono ?_; clear hid9; rintro _ w10 ⟨rfl, hb10⟩; have H10 := Lib.hid (H9.out.trans (hb10.mono H9.out.size)); clear hb10))
      go_ret
      exact ⟨rfl, H10.out⟩
end Go.Proofs.YtnbjhdlnibmgdaaDoor

/-! A slice of rows of bytes that came in, opened. -/
namespace Go.Proofs.YtnbjhdlnibmgdaaDoor
open Go.ChangeShapes Go.WideShapes Go.ChangeAt Go.RowKit Go.Deep

theorem rows_in {w : World} {H : Type} {enc : TypeId × Value → H} {base : Nat} {spare : Nat → Bool} {held : Bool} {a : Option Addr} {len cap : Nat} {d : DataW H} {p : List MemPlace}
    (hs : spare = fun _ => true) (h : DataW.Trod enc Tryd.prog w base spare held 22 (.slice a len cap) d p) : ∃ ls, Rws w (fun _ => True) a len cap ls := by
  subst hs
  obtain ⟨fuel, hf⟩ := h
  rcases open_slice Tryd.underlying22 hf with ⟨hcs, _⟩ | ⟨x, l, c, m, n, D, Pl, hcs, _, hl, hm, hmm, _, hi⟩
  · simp [Value.cells] at hcs
    obtain ⟨rfl, rfl, rfl⟩ := hcs
    exact ⟨[], rfl, Nat.zero_le _, Nat.zero_le _, fun h => absurd h (by omega)⟩
  · simp [Value.cells] at hcs
    obtain ⟨rfl, rfl, rfl⟩ := hcs
    have hce : Tryd.prog.cellsOf 24 = 1 := by kernel_rfl
    rw [hce] at hi
    simp only [if_true] at hmm
    have one : ∀ i, ∃ q : List UInt8, i < len → ∃ A k c', w.cell? ((x.add (i * 1)).add 0) = some (.slice A k c') ∧ Byt w (fun _ => True) A k c' q := fun i => by
      by_cases him : i < len
      · obtain ⟨cs', hc, ht⟩ := hi i (by omega)
        obtain ⟨_, hcl, hat⟩ := World.cells?_some hc
        match cs', hcl with
        | [v2], _ =>
          have c0 := hat 0 (by omega)
          have hv : ∃ A k c', v2 = .slice A k c' := by
            rcases open_ints Tryd.underlying24 Tryd.underlying5 (by kernel_rfl) ht with ⟨e, _⟩ | ⟨_, _, _, _, e, _⟩ <;> simp at e <;> exact ⟨_, _, _, e⟩
          obtain ⟨A, k, c', rfl⟩ := hv
          obtain ⟨b, hb2⟩ := bytes_in (w := w) (enc := enc) (base := base) (held := held) rfl ⟨_, ht⟩
          exact ⟨b, fun _ => ⟨A, k, c', c0, hb2⟩⟩
      · exact ⟨[], fun h => absurd h him⟩
    obtain ⟨f, hf⟩ := Classical.skolem.1 one
    refine ⟨(List.range len).map f, by simp, hl, hm, fun h0 => ?_⟩
    obtain ⟨b, off, spot⟩ := x
    obtain ⟨_, _, _, hc0, _⟩ := hf 0 h0
    have hspot : spot = none := by simpa [Addr.add] using World.cell?_spot hc0
    subst hspot
    have hlt := World.block_lt_of_cell? _ _ hc0
    rw [add_plain, add_plain] at hlt
    refine ⟨b, off, rfl, trivial, hlt, fun i hil => ?_⟩
    obtain ⟨A, k, c', h1, h2⟩ := hf i hil
    rw [add_plain, add_plain, Nat.mul_one, Nat.add_zero] at h1
    exact ⟨A, k, c', h1, by simpa [hil] using h2⟩
end Go.Proofs.YtnbjhdlnibmgdaaDoor

/-! The statement PacksPuts, proved: for every rows of bytes the law returns true. No condition but that the digest's two tables hold what the program's text lays (the card ties them). -/
namespace Go.Proofs.YtnbjhdlnibmgdaaDoor.packsPuts
open Go.ChangeShapes Go.WideShapes Go.ChangeAt Go.RowKit
set_option linter.unusedVariables false

set_option maxRecDepth 100000 in
theorem lifted (os : Os) (started : os.Started) (H : Type) (enc : TypeId × Value → H) :
    ReturnsInHanded {} Tryd.checked os 3 .any (fun w args => (Rows.packsPutsSpec.pre enc Tryd.prog Tryd.f3 [] false w args ∧ laidMetH Tryd.prog laids w) ∧ sizedMet enc Tryd.prog Tryd.f3 (OpenSpec.ofChange Rows.packsPutsSpec) false w args) (Rows.packsPutsSpec.post enc Tryd.prog Tryd.f3 false true false false) := by
  refine returnsInHanded_of_change_and (C := Tryd.checked) (X := fun w _ => laidMetH Tryd.prog laids w) (fun _ _ _ hh h => h.of_heap hh) own_knob started (by kernel_rfl) Tryd.func3
    (ChangeSpec.witness_shaped (enc := enc) (C := Tryd.checked) (os := os) (X := fun w _ => laidMetH Tryd.prog laids w) false (World.doorLaid Tryd.prog 400 os) #[.slice none 0 0] 8 rfl (World.shaped_of_RefB (by kernel_rfl) (by kernel_rfl)) (by kernel_rfl) (by kernel_rfl) (by kernel_rfl) (door_met os _)) ?_
  intro W base args ds gs before hval0 hW _ _ hL _
  have hval : ∀ (j : Nat) t v, Tryd.f3.params[j]? = some t → args[j]? = some v → Value.okWide Tryd.prog W .any base t v := hval0
  have hW' := hW
  obtain ⟨p, q, hA0, hV, rfl, hfz, hnd⟩ := hW
  have hA : DataW.TrodAll enc Tryd.prog W 0 (fun _ => true) true Tryd.f3.params.toList args.toList ds p := hA0
  rw [Tryd.params3] at hA hval
  obtain ⟨v0, vs0, d0, ds0, p0, q0, hargs, rfl, rfl, h0, r0⟩ := trodAll_cons hA
  obtain ⟨rfl, rfl, rfl⟩ := trodAll_nil r0
  obtain rfl : args = #[v0] := by cases args; simp_all
  obtain ⟨rfl, rfl⟩ := trodVars_none hV
  obtain ⟨a0, len0, cap0, rfl⟩ := okWide_slice Tryd.underlying22 (hval 0 22 v0 rfl rfl)
  obtain ⟨l0, w0⟩ := rows_in rfl h0
  clear hA0 hval0
  refine (law_pputs w0 (tab_of_laid hL)).mono fun e W' ⟨he, bel⟩ => ?_
  subst he
  exact ⟨_, rfl, _, _, _, [], _, [], hW', trodAll_mk1 (shut_bool Tryd.underlying4 _), (trodAll_cons_mk (Below.trod laid_out (by kernel_rfl) (of_decide_eq_true (by kernel_rfl)) h0 bel (trod_lt h0)) trodAll_mk0), rfl, bel.frame _, fun h => by cases h⟩

theorem proved : Rows.PacksPutsSaid :=
  OpenClaim.holds_of_wide 3 Tryd.f3 rfl rfl rfl rfl rfl rfl rfl ⟨rfl, rfl, rfl, rfl, rfl⟩ rfl rfl rfl rfl rfl (by kernel_rfl) Tryd.func3 (by kernel_rfl)
    (of_decide_eq_true (by kernel_rfl)) (by unfold Func.isWrapper; first | (rw [if_pos (by decide +kernel)]; kernel_rfl) | (rw [if_neg (by decide +kernel)]; exact ⟨rfl, rfl⟩))
    (fun os started H enc _ => lifted os started H enc)

theorem proved_card : Rows.PacksPutsCardSaid :=
  Claim7.holds_tied_plain_at .later [] [.data, .data] true (true, Rows.packsPutsCard.stood.harness.2) false proved (fun _ h => by cases h) (by kernel_rfl) (fun _ h => by cases h) packsPuts_row_tie rfl ⟨rfl, rfl⟩ (by kernel_rfl) rfl
    (fun f fn hf hfn => by
      obtain rfl : f = 3 := Option.some.inj ((show Tryd.prog.funcNamed Rows.packsPutsRow.func = some 3 by kernel_rfl).symm.trans hf) |>.symm
      obtain rfl : fn = Tryd.f3 := (Option.some.inj (Tryd.func3.symm.trans hfn)).symm
      exact ⟨by kernel_rfl, fun j t ht => by
        have hall : (Tryd.f3.params.toList.all fun u => !Tryd.prog.wantsStandIn u) = true := by kernel_rfl
        exact (show Tryd.prog.wantsStandIn t = false by simpa using List.all_eq_true.1 hall t (by rw [Array.mem_toList_iff]; exact Array.mem_of_getElem? ht))⟩)
    (by kernel_rfl)
#print axioms proved_card
end Go.Proofs.YtnbjhdlnibmgdaaDoor.packsPuts
