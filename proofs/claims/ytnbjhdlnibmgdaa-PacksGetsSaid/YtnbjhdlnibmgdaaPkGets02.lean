/-
  Packs: the reference's Get.
  The law PacksGets.
  The statement PacksGets, proved: for every slice of bytes the law returns true. No condition.
-/
import Derived.Test.YtnbjhdlnibmgdaaPkGets01
import Derived.Test.YtnbjhdlnibmgdaaPk08
import Derived.Test.YtnbjhdlnibmgdaaPk03
import Derived.BigQuiet
/-! Packs: the reference's Get. -/
namespace Go.Proofs.Ytnbjhdlnibmgdaa
open Go.RowKit Codec

theorem pglike_by {l m : List UInt8} {e : Int} (k : Int) (h : e = 0 → m = l) : byB m e k = byB l e k ∧ byE m e k = byE l e k ∧ (byE l e k = 0 → byL m e k = byL l e k) := by
  by_cases he : e = 0
  · rw [h he]; exact ⟨rfl, rfl, fun _ => rfl⟩
  · have t : ∀ x, uiE x e = e := fun x => by unfold uiE; rw [if_neg he]
    have tb : ∀ x, byB x e k = [] := fun x => by unfold byB; rw [t, if_pos he]
    have te : ∀ x, byE x e k = e := fun x => by unfold byE; rw [t, if_pos he]
    rw [tb, tb, te, te]
    exact ⟨rfl, rfl, fun h => absurd h he⟩
theorem pr_info : (Try.prog.info? 51).map (·.size) = some 2 := by kernel_rfl
def prC (m : List UInt8) (e : Int) : Array Value := #[.string (strB m), .int .i64 e]
theorem prC_one (m : List UInt8) (e : Int) : (prC m e).all (·.oneCell') = true := by simp [prC, Value.oneCell']
theorem strB_st2 (l : List UInt8) : strB l = st l := rfl
theorem zero_pr : ∀ W, (zeroValue 51).run Try.prog W = .ok (.agg #[.string ⟨#[]⟩, .int .i64 0]) W := fun W => by kernel_rfl
/-- While blobs are read: the reader's block q, the blobs ahead. -/
structure PrO (w W : World) (q : Nat) (m : List UInt8) (e : Int) (v : Value) (acc : List (List UInt8)) : Prop where
  qw : w.heap.size ≤ q
  row : W.heap[q]? = some (.cells (prC m e) 51 (0, 0))
  own : W.ownsRow (q + 1) 9 1 v acc.length (strs acc)
  bel : Below w.heap.size w W
section
variable {w W W' : World} {q : Nat} {m : List UInt8} {e : Int} {v : Value} {acc : List (List UInt8)}
theorem PrO.later (h : PrO w W q m e v acc) (hb : Below W.heap.size W W') : PrO w W' q m e v acc :=
  ⟨h.qw, (hb.block q (lt_of_cells h.row)).trans h.row, pk_keep h.own fun g hg => hb.block g (h.own.lt g hg).2, h.bel.trans (hb.mono h.bel.size)⟩
theorem PrO.setr (h : PrO w W q m e v acc) (m' : List UInt8) (e' : Int) : PrO w (W.setRow q (prC m' e')) q m' e' v acc :=
  ⟨h.qw, setRow_at h.row, pk_keep h.own fun g hg => setRow_ne _ _ _ _ (by have := (h.own.lt g hg).1; omega), below_setRow h.bel h.qw _⟩
theorem PrO.cell1 (h : PrO w W q m e v acc) : W.cell? ⟨q, 1, none⟩ = some (.int .i64 e) := by
  rw [cell_of_cells h.row]
  rfl
theorem PrO.push (h : PrO w W q m e v acc) (x : List UInt8) (hn : acc.length ≤ 1000000) : ∃ A' c' W1, (Builtin.append_ #[28, 28] 28 #[v, .slice (some ⟨W.heap.size, 0, none⟩) 1 1]).run Try.prog (W.alloc (.cells #[.string (st x)] 9)) = .ok (.slice A' (acc.length + 1) c') W1 ∧ PrO w W1 q m e (.slice A' (acc.length + 1) c') (acc ++ [x]) := by
  obtain ⟨A', c', W1, hrun, hown, hb⟩ := strs_push h.own x (by have := lt_of_cells h.row; omega) hn
  refine ⟨A', c', W1, hrun, h.qw, (hb.block q (by omega)).trans h.row, ?_, h.bel.trans (hb.mono (by have := h.qw; omega))⟩
  rw [List.length_append, List.length_singleton]
  exact hown
end
/-- What the reference's Get tells. -/
def PrPost (w : World) (r : List (List UInt8) × Int) (e : Ending) (w' : World) : Prop :=
  ∃ A c, e = .returned (.tuple #[.slice A r.1.length c, .int .i64 r.2]) ∧ Strs w' (w.heap.size ≤ ·) A r.1.length c r.1 ∧ Below w.heap.size w w'
theorem prPost_nil {w w' : World} {r : List (List UInt8) × Int} {E : Int} (hr : r = ([], E)) (hb : Below w.heap.size w w') : PrPost w r (.returned (.tuple #[.slice none 0 0, .int .i64 E])) w' := by
  subst hr
  exact ⟨none, 0, rfl, Strs.nil _ _ _ _ (Nat.zero_le _), hb⟩
def smallB (acc : List (List UInt8)) : Bool := acc.any fun b => decide (b.length < 41)
theorem smallB_snoc (acc : List (List UInt8)) (x : List UInt8) : smallB (acc ++ [x]) = (smallB acc || decide (x.length < 41)) := by simp [smallB]
theorem smallB_may {acc : List (List UInt8)} (h : ∀ b ∈ acc, b.length ≤ 65577) : acc.all (fun b => pkMay b.length) = !smallB acc := by
  unfold smallB
  induction acc with
  | nil => rfl
  | cons b l ih =>
    have h1 := h b List.mem_cons_self
    rw [List.all_cons, List.any_cons, ih fun x hx => h x (List.mem_cons_of_mem _ hx), Bool.not_or]
    congr 1
    unfold pkMay
    by_cases h2 : b.length < 41
    · simp [h2]
      omega
    · have h3 : (41 : Int) ≤ (b.length : Int) := by omega
      have h4 : (b.length : Int) ≤ 65577 := by omega
      simp [h2, h3, h4]
/-- The loop's state. -/
def PrR (w : World) (q M : Nat) (l0 : List UInt8) (v s i : Value) (wr : World) : Prop :=
  ∃ (j : Nat) (acc : List (List UInt8)) (l m : List UInt8) (e : Int), i = .int .u64 (j : Int) ∧ j ≤ M ∧ s = .bool (smallB acc) ∧ pgGo M [] l0 0 = pgGo (M - j) acc l e ∧ (e = 0 → m = l) ∧ acc.length = j ∧ (∀ b ∈ acc, b.length ≤ 65577) ∧ PrO w wr q m e v acc
set_option maxHeartbeats 16000000 in
set_option maxRecDepth 100000 in
theorem prget_any (b : List UInt8) (hbl : b.length < 4611686018427387904) (w : World) :
    Calls Try.prog 8 #[.string (st b)] w fun e w' => PrPost w (getPk b) e w' := by
  have hbs := st_size b
  by_cases hbig : 1048576 < b.length
  · have hbig' : (b.length : Int) > 1048576 := by omega
    have HE : Hid (getPk b = ([], 13)) := Lib.hid (by unfold getPk; rw [if_pos (by omega)])
    generalize b.length = bn at *
    clear hbig hbl
    go_enter Try.func8, Try.ntmps8
    go_wp2
    go_ret2
    exact prPost_nil HE.out (Below.refl _ _)
  have hbig' : ¬ (b.length : Int) > 1048576 := by omega
  have HE : Hid (getPk b = if uiE b 0 ≠ 0 then ([], uiE b 0) else if uiX b 0 < 1 ∨ 1024 < uiX b 0 then ([], 11) else pgEnd (pgGo (uiX b 0) [] (uiL b 0) 0)) := Lib.hid (by unfold getPk; rw [if_neg (by omega)])
  have hui := ref_uint b 0 w
  have hzr := zero_pr
  obtain ⟨M, hM⟩ : ∃ M, M = uiX b 0 := ⟨_, rfl⟩
  obtain ⟨e0, he0⟩ : ∃ e0, e0 = uiE b 0 := ⟨_, rfl⟩
  obtain ⟨l0, hl0⟩ : ∃ l0, l0 = uiL b 0 := ⟨_, rfl⟩
  rw [← hM, ← he0, ← hl0] at hui HE
  unfold RV at hui
  generalize b.length = bn at *
  clear hM he0 hl0 hbig hbl
  go_enter Try.func8, Try.ntmps8
  go_upto_region 4 with (first
    | (go_at_call 20; refine hui.mono ?_; clear hui; rintro _ w1 ⟨m0, rfl, hm0, hb1⟩)
    | (refine wpList_store_row (by rfl) 51 (.tmp 4) (.tmp 18) (by rfl) w1.heap.size (prC m0 e0) (by rfl) (by rfl) 51 _ (heap_alloc_new w1 _) pr_info (by rfl) (prC_one _ _) ?_))
  have H2 : Hid (PrO w ((w1.alloc (.cells #[.string ⟨#[]⟩, .int .i64 0] 51)).setRow w1.heap.size (prC m0 e0)) w1.heap.size m0 e0 (.slice none 0 0) []) :=
    Lib.hid ⟨hb1.size, setRow_at (heap_alloc_new w1 _), World.ownsRow_nil _ _ _ _, below_setRow (hb1.alloc hb1.size _) hb1.size _⟩
  have HM0 := Lib.hid hm0
  clear hm0 hb1 hzr
  obtain ⟨q, hq⟩ : ∃ q, q = w1.heap.size := ⟨_, rfl⟩
  rw [← hq] at H2 ⊢
  generalize (w1.alloc (.cells #[.string ⟨#[]⟩, .int .i64 0] 51)).setRow q (prC m0 e0) = w2 at *
  clear hq
  have hc1 := H2.out.cell1
  by_cases he : ¬ e0 = 0
  · have hne : (e0 != 0) = true := by simpa using he
    have HR : Hid (getPk b = ([], e0)) := Lib.hid (by rw [HE.out, if_pos he])
    clear he
    go_wp2_with fail
    go_quiet (fail)
    go_wp2_with fail
    go_ret2
    exact prPost_nil HR.out (below_drewN H2.out.bel _)
  obtain rfl : e0 = 0 := Classical.not_not.1 he
  obtain rfl : m0 = l0 := HM0.out rfl
  clear he HM0
  by_cases hM1 : M < 1
  · have hM1' : (M : Int) < 1 := by omega
    have HR : Hid (getPk b = ([], 11)) := Lib.hid (by rw [HE.out, if_neg (by simp), if_pos (.inl hM1)])
    clear hM1
    go_wp2_with fail
    go_ret2
    exact prPost_nil HR.out H2.out.bel
  have hM1' : ¬ (M : Int) < 1 := by omega
  by_cases hM2 : 1024 < M
  · have hM2' : (M : Int) > 1024 := by omega
    have HR : Hid (getPk b = ([], 11)) := Lib.hid (by rw [HE.out, if_neg (by simp), if_pos (.inr hM2)])
    clear hM1 hM2
    go_wp2_with fail
    go_ret2
    exact prPost_nil HR.out H2.out.bel
  have hM2' : ¬ (M : Int) > 1024 := by omega
  have HR : Hid (getPk b = pgEnd (pgGo M [] m0 0)) := Lib.hid (by rw [HE.out, if_neg (by simp), if_neg (by omega)])
  have HM : Hid (M ≤ 1024) := Lib.hid (by omega)
  have H0 : Hid (PrR w q M m0 (.slice none 0 0) (.bool false) (.int .u64 0) w2) := Lib.hid ⟨0, [], m0, m0, 0, rfl, Nat.zero_le _, rfl, rfl, fun _ => rfl, rfl, fun x h => by simp at h, H2.out⟩
  clear hM1 hM2 HE
  go_upto_region 11 with fail
  clear hc1 H2
  go_loopw [6, 7, 8, 9] (fun v s i _ wr => PrR w q M m0 v s i wr) (fun _ _ i _ _ => M - (intOf i).toNat)
  case atStart => exact H0.out
  case round =>
    obtain ⟨j, acc, l, m, e, rfl, hj, rfl, hgo, hml, hac, hfew, hO⟩ := hrel
    clear H0
    have HO := Lib.hid hO
    have HG := Lib.hid (And.intro hgo (And.intro hml (And.intro hac hfew)))
    obtain ⟨Av, cv, rfl⟩ := pk_slice hO.own
    have hal : acc.length = j := hac
    clear hgo hml hac hfew hO
    by_cases hlt : j < M
    · have hlt' : (j : Int) < (M : Int) := by omega
      have hadd : IntKind.u64.wrap ((j : Int) + 1) = (j : Int) + 1 := IntWalk.u64_in _ (by have := HM.out; omega)
      have hby := fun W => ref_bytes m e 65577 W (by decide)
      obtain ⟨a1, a2, a3⟩ := pglike_by (l := l) (m := m) (e := e) 65577 HG.out.2.1
      rw [a1, a2] at hby
      obtain ⟨x, hx⟩ : ∃ x, x = byB l e 65577 := ⟨_, rfl⟩
      obtain ⟨e1, he1⟩ : ∃ e1, e1 = byE l e 65577 := ⟨_, rfl⟩
      rw [← hx, ← he1] at hby
      unfold RV at hby
      have hxl : x.length ≤ 65577 := by rw [hx]; exact pkby_few l e 65577
      have hxs := st_size x
      obtain ⟨xn, hxn⟩ : ∃ xn, xn = x.length := ⟨_, rfl⟩
      rw [← hxn] at hxs
      have HX := Lib.hid (And.intro hx (And.intro he1 (And.intro a3 (And.intro hxl (And.intro hxn hlt)))))
      obtain ⟨SB, hSB⟩ : ∃ SB, SB = smallB acc := ⟨_, rfl⟩
      rw [← hSB]
      have HSB := Lib.hid hSB
      obtain ⟨an, han⟩ : ∃ an, an = acc.length := ⟨_, rfl⟩
      rw [← han]
      have HAN := Lib.hid (And.intro han hal)
      clear hx he1 a1 a2 a3 hxl hxn hlt hj hSB han hal
      go_upto_region 15 with (first
        | (refine wpList_load_row (by rfl) 51 (.tmp 4) (by rfl) q (by rfl) 51 (prC m e) (0, 0) _ HO.out.row Try.underlying51 (by rfl) pr_info ?_)
        | (go_at_call 21; refine (hby _).mono ?_; clear hby; rintro _ w6 ⟨m1, rfl, hm1, hb6⟩; rw [strB_st2]; have H6 := Lib.hid (HO.out.later hb6); have H6s := Lib.hid (H6.out.setr m1 e1); have HM1 := Lib.hid hm1; clear hb6 hm1)
        | (refine wpList_store_row (by rfl) 51 (.tmp 4) (.tmp 39) (by rfl) q (prC m1 e1) (by rfl) (by rfl) 51 _ H6.out.row pr_info (by rfl) (prC_one _ _) ?_))
      generalize w6.setRow q (prC m1 e1) = w7 at *
      obtain ⟨A8, c8, w8, hap, hO8⟩ := H6s.out.push x (by have h1 := HAN.out.1; have h2 := HAN.out.2; have h3 := HX.out.2.2.2.2.2; have h4 := HM.out; omega)
      rw [← HAN.out.1] at hap
      have H8 : Hid (PrR w q M m0 (.slice A8 (an + 1) c8) (.bool (smallB acc || decide (xn < 41))) (.int .u64 ((j : Int) + 1)) w8) := Lib.hid (by
        refine ⟨j + 1, acc ++ [x], byL l e 65577, m1, e1, by simp, HX.out.2.2.2.2.2, by rw [smallB_snoc, HX.out.2.2.2.2.1], ?_, fun h => ?_, by rw [List.length_append, List.length_singleton]; have h1 := HAN.out; omega, fun y hy => ?_, by rw [HAN.out.1]; exact hO8⟩
        · rw [HG.out.1, show M - j = (M - (j + 1)) + 1 by have := HX.out.2.2.2.2.2; omega, pgGo, ← HX.out.1, ← HX.out.2.1]
        · rw [HM1.out h]
          exact HX.out.2.2.1 (by rw [← HX.out.2.1]; exact h)
        · rcases List.mem_append.1 hy with hy | hy
          · exact HG.out.2.2.2 y hy
          · rw [List.mem_singleton.1 hy]
            exact HX.out.2.2.2.1)
      rw [← HSB.out] at H8
      clear H6 H6s hO8 HO HM1
      cases hS : SB with
      | true =>
        subst hS
        go_wp2_with (at_builtin; refine wpList_app (by rfl) _ _ 28 (by rfl) (by rfl) (by rfl) hap ?_)
        go_roundw
        case rel => exact H8.out
        case measure => have := HX.out.2.2.2.2.2; simp only [intOf]; omega
      | false =>
        subst hS
        by_cases hsm : xn < 41
        · have hsm' : (xn : Int) < 41 := by omega
          have hd : decide (xn < 41) = true := by simpa using hsm
          rw [hd] at H8
          clear hsm hd
          go_wp2_with (at_builtin; refine wpList_app (by rfl) _ _ 28 (by rfl) (by rfl) (by rfl) hap ?_)
          go_roundw
          case rel => exact H8.out
          case measure => have := HX.out.2.2.2.2.2; simp only [intOf]; omega
        · have hsm' : ¬ (xn : Int) < 41 := by omega
          have hd : decide (xn < 41) = false := by simpa using hsm
          rw [hd] at H8
          clear hsm hd
          go_wp2_with (at_builtin; refine wpList_app (by rfl) _ _ 28 (by rfl) (by rfl) (by rfl) hap ?_)
          go_roundw
          case rel => exact H8.out
          case measure => have := HX.out.2.2.2.2.2; simp only [intOf]; omega
    · have hjM : M - j = 0 := by omega
      have hlt' : ¬ (j : Int) < (M : Int) := by omega
      have hgo := HG.out.1
      rw [hjM, pgGo] at hgo
      have hen := fun W => ref_end m e W
      have hee : endE m e = endE l e := by
        by_cases he : e = 0
        · rw [HG.out.2.1 he]
        · rw [endE_bad he, endE_bad he]
      rw [hee] at hen
      unfold RV at hen
      have HF : Hid (getPk b = if endE l e ≠ 0 then ([], endE l e) else if smallB acc = true then ([], 11) else (acc, 0)) := Lib.hid (by
        rw [HR.out, hgo]
        unfold pgEnd
        simp only
        rw [smallB_may HG.out.2.2.2]
        congr 1
        cases smallB acc <;> simp)
      obtain ⟨E, hE⟩ : ∃ E, E = endE l e := ⟨_, rfl⟩
      rw [← hE] at hen HF
      obtain ⟨SB, hSB⟩ : ∃ SB, SB = smallB acc := ⟨_, rfl⟩
      rw [← hSB] at HF ⊢
      have HS : Hid (Strs wr (w.heap.size ≤ ·) Av acc.length cv acc) := Lib.hid (by
        obtain ⟨A', c', e1, h1⟩ := own_strs HO.out.own
        injection e1 with e2 _ e3
        subst e2 e3
        exact h1.mono fun k _ h => by have := HO.out.qw; have h' : q + 1 ≤ k := h; omega)
      obtain ⟨an, han⟩ : ∃ an, an = acc.length := ⟨_, rfl⟩
      rw [← han] at HS ⊢
      have HAN := Lib.hid han
      clear hjM hgo hee hE hSB hlt hj han hal
      by_cases h0 : E = 0
      case neg =>
        have hne : (E != 0) = true := by simpa using h0
        have HR2 : Hid (getPk b = ([], E)) := Lib.hid (by rw [HF.out, if_pos h0])
        clear h0
        go_wp2_with (first
          | (refine wpList_load_row (by rfl) 51 (.tmp 4) (by rfl) q (by rfl) 51 (prC m e) (0, 0) _ HO.out.row Try.underlying51 (by rfl) pr_info ?_)
          | (go_at_call 22; refine (hen _).mono ?_; clear hen; rintro _ w9 ⟨rfl, hb9⟩))
        go_ret2
        exact prPost_nil HR2.out (HO.out.bel.trans (hb9.mono HO.out.bel.size))
      subst h0
      cases hS : SB with
      | true =>
        subst hS
        have HR2 : Hid (getPk b = ([], 11)) := Lib.hid (by rw [HF.out, if_neg (by simp), if_pos rfl])
        go_wp2_with (first
          | (refine wpList_load_row (by rfl) 51 (.tmp 4) (by rfl) q (by rfl) 51 (prC m e) (0, 0) _ HO.out.row Try.underlying51 (by rfl) pr_info ?_)
          | (go_at_call 22; refine (hen _).mono ?_; clear hen; rintro _ w9 ⟨rfl, hb9⟩))
        go_ret2
        exact prPost_nil HR2.out (HO.out.bel.trans (hb9.mono HO.out.bel.size))
      | false =>
        subst hS
        have HR2 : Hid (getPk b = (acc, 0)) := Lib.hid (by rw [HF.out, if_neg (by simp), if_neg (by simp)])
        go_wp2_with (first
          | (refine wpList_load_row (by rfl) 51 (.tmp 4) (by rfl) q (by rfl) 51 (prC m e) (0, 0) _ HO.out.row Try.underlying51 (by rfl) pr_info ?_)
          | (go_at_call 22; refine (hen _).mono ?_; clear hen; rintro _ w9 ⟨rfl, hb9⟩))
        go_ret2
        rw [HR2.out]
        exact ⟨Av, cv, by rw [← HAN.out]; rfl, by rw [← HAN.out]; exact HS.out.below hb9, HO.out.bel.trans (hb9.mono HO.out.bel.size)⟩
end Go.Proofs.Ytnbjhdlnibmgdaa

/-! The law PacksGets. -/
namespace Go.Proofs.Ytnbjhdlnibmgdaa
open Go.RowKit Codec

set_option maxHeartbeats 16000000 in
set_option maxRecDepth 100000 in
theorem law_pgets {w : World} {S : Nat → Prop} {A : Option Addr} {n c : Nat} {b : List UInt8} (hb : Byt w S A n c b) :
    Calls Try.prog 3 #[.slice A n c] w fun e w' => e = .returned (.bool true) ∧ Below w.heap.size w w' := by
  have haw := pkawake_true w
  have HB := Lib.hid hb
  clear hb
  by_cases hbig : n > 1000
  · have hb' : (n : Int) > 1000 := by omega
    clear hbig
    go_enter Try.func3, Try.ntmps3
    go_wp2_with (go_at_call 6; refine haw.mono ?_; clear haw; rintro _ w1 ⟨rfl, hb1⟩)
    go_ret
    exact ⟨rfl, hb1⟩
  have hb' : ¬ (n : Int) > 1000 := by omega
  have hn : n ≤ 1000 := by omega
  have HN := Lib.hid hn
  clear hbig
  go_enter Try.func3, Try.ntmps3
  go_upto_region 6 with (go_at_call 6; refine haw.mono ?_; clear haw; rintro _ w1 ⟨rfl, hb1⟩)
  have HB1 := Lib.hid hb1
  have hg := pget_any (HB.out.below hb1)
  obtain ⟨r, hr⟩ : ∃ r, r = getPk b := ⟨_, rfl⟩
  have HLEN : Hid (r.1.length ≤ 1024) := Lib.hid (by rw [hr]; exact getPk_len b)
  have HPG : Hid (r.2 = 0 → putPE r.1 = 0 ∧ putPB r.1 = b) := Lib.hid fun h => by
    obtain ⟨h1, h2⟩ := pk_put_get (b := b) (l := r.1) (by rw [← hr, ← h])
    exact ⟨h1, by unfold putPB; rw [if_pos h1, h2]⟩
  have hrg := fun W => prget_any b (by have := HB.out.len; omega) W
  rw [← hr] at hg hrg
  clear hr hb1 hn
  obtain ⟨l, E⟩ := r
  have hg2 : Calls Try.prog 7 #[.slice A n c] w1 fun e w' => ∃ Ag cg, e = .returned (.tuple #[.slice Ag l.length cg, .int .i64 E]) ∧ Rws w' (w1.heap.size ≤ ·) Ag l.length cg l ∧ Below w1.heap.size w1 w' := hg
  have hrg2 : ∀ W, Calls Try.prog 8 #[.string (st b)] W fun e w' => ∃ Ag cg, e = .returned (.tuple #[.slice Ag l.length cg, .int .i64 E]) ∧ Strs w' (W.heap.size ≤ ·) Ag l.length cg l ∧ Below W.heap.size W w' := hrg
  have HLEN2 : Hid (l.length ≤ 1024) := Lib.hid HLEN.out
  have HPG2 : Hid (E = 0 → putPE l = 0 ∧ putPB l = b) := Lib.hid HPG.out
  clear hg hrg HLEN HPG
  obtain ⟨M, hM⟩ : ∃ M, M = l.length := ⟨_, rfl⟩
  rw [← hM] at hg2 hrg2 HLEN2
  have HM := Lib.hid hM
  clear hM
  go_upto_region 7 with (go_at_call 7; refine hg2.mono ?_; clear hg2; rintro _ w2 ⟨Ag, cg, rfl, hfl, hb2⟩)
  have HB2 := Lib.hid (HB1.out.trans (hb2.mono HB1.out.size))
  have HF2 := Lib.hid hfl
  have hcv := byt_string (HB.out.below HB2.out)
  have hrg3 := hrg2 w2
  clear hb2 hfl hrg2
  go_upto_region 8 with (go_at_call 8; refine hrg3.mono ?_; clear hrg3; rintro _ w3 ⟨Am, cm, rfl, hfm, hb3⟩)
  have HB3 := Lib.hid (HB2.out.trans (hb3.mono HB2.out.size))
  have HF3 : Hid (Rws w3 (w1.heap.size ≤ ·) Ag M cg l) := Lib.hid (HF2.out.below hb3)
  have HM3 := Lib.hid hfm
  have htx := texts_any HF3.out (by have := HLEN2.out; omega)
  rw [← HM.out] at htx
  clear hb3 hfm hcv HF2
  go_upto_region 10 with (first
    | (go_at_call 10; refine htx.mono ?_; clear htx; rintro _ w4 ⟨At, ct, rfl, hs4, hb4⟩; have H4 := Lib.hid (And.intro (HB3.out.trans (hb4.mono HB3.out.size)) (And.intro (HF3.out.below hb4) (HM3.out.below hb4))); have hsa := psame_any hs4 H4.out.2.2 (by have := HLEN2.out; omega); clear hs4 hb4)
    | (go_at_call 9; refine hsa.mono ?_; clear hsa; rintro _ _ ⟨rfl, k5, rfl⟩))
  by_cases h0 : E = 0
  case neg =>
    have hne : (E != 0) = true := by simpa using h0
    clear h0
    go_wp2
    go_ret
    exact ⟨rfl, below_drewN H4.out.1 _⟩
  subst h0
  obtain ⟨hp1, hp2⟩ := HPG2.out rfl
  have hpu := pput_any (w := w4.drewN k5) (H4.out.2.1.drewN k5)
  rw [hp1, hp2] at hpu
  have H5 := Lib.hid (below_drewN H4.out.1 k5)
  clear hp1 hp2
  generalize w4.drewN k5 = w5 at *
  go_upto_region 13 with (go_at_call 11; refine hpu.mono ?_; clear hpu; rintro _ w6 ⟨A6, m6, c6, rfl, hy6, hb6⟩; have H6 := Lib.hid (And.intro hy6 (H5.out.trans (hb6.mono H5.out.size))); clear hy6 hb6)
  have hcv1 := byt_string H6.out.1
  have hcv2 := byt_string (HB.out.below H6.out.2)
  go_wp2
  go_ret
  exact ⟨rfl, H6.out.2⟩
end Go.Proofs.Ytnbjhdlnibmgdaa

/-! The statement PacksGets, proved: for every slice of bytes the law returns true. No condition. -/
namespace Go.Proofs.Ytnbjhdlnibmgdaa.packsGets
open Go.ChangeShapes Go.WideShapes Go.ChangeAt Go.RowKit
set_option linter.unusedVariables false

set_option maxRecDepth 100000 in
theorem lifted (os : Os) (started : os.Started) (H : Type) (enc : TypeId × Value → H) :
    ReturnsInHanded {} Try.checked os 3 .any (Rows.packsGetsSpec.pre6 enc Try.prog Try.f3 Rows.packsGetsRow.domain false) (Rows.packsGetsSpec.post enc Try.prog Try.f3 false true false false) := by
  refine returnsInHanded_of_change (C := Try.checked) own_knob started (by kernel_rfl) Try.func3
    (ChangeSpec.witness6 (enc := enc) (C := Try.checked) false ⟨#[], #[.slice none 0 0], []⟩ 8 (by kernel_rfl) (by kernel_rfl) (by kernel_rfl) (by kernel_rfl)) ?_
  intro W base args ds gs before hval0 hW hcnd _
  have hval : ∀ (j : Nat) t v, Try.f3.params[j]? = some t → args[j]? = some v → Value.okWide Try.prog W .any base t v := hval0
  have hW' := hW
  obtain ⟨p, q, hA0, hV, rfl, hfz, hnd⟩ := hW
  have hA : DataW.TrodAll enc Try.prog W 0 (fun _ => true) true Try.f3.params.toList args.toList ds p := hA0
  rw [Try.params3] at hA hval
  obtain ⟨v0, vs0, d0, ds0, p0, q0, hargs, rfl, rfl, h0, r0⟩ := trodAll_cons hA
  obtain ⟨rfl, rfl, rfl⟩ := trodAll_nil r0
  obtain rfl : args = #[v0] := by cases args; simp_all
  obtain ⟨rfl, rfl⟩ := trodVars_none hV
  obtain ⟨a0, len0, cap0, rfl⟩ := okWide_slice Try.underlying22 (hval 0 22 v0 rfl rfl)
  obtain ⟨l0, w0⟩ := bytes_in rfl h0
  clear hA0 hval0
  refine (law_pgets w0).mono fun e W' ⟨he, bel⟩ => ?_
  subst he
  exact ⟨_, rfl, _, _, _, [], _, [], hW', trodAll_mk1 (shut_bool Try.underlying4 _), (trodAll_cons_mk (Below.trod laid_out (by kernel_rfl) (of_decide_eq_true (by kernel_rfl)) h0 bel (trod_lt h0)) trodAll_mk0), rfl, bel.frame _, fun h => by cases h⟩

theorem proved : Rows.PacksGetsSaid :=
  OpenClaim.holds_of_wide 3 Try.f3 rfl rfl rfl rfl rfl rfl rfl ⟨rfl, rfl, rfl, rfl, rfl⟩ rfl rfl rfl rfl rfl (by kernel_rfl) Try.func3 (by kernel_rfl)
    (of_decide_eq_true (by kernel_rfl)) (by unfold Func.isWrapper; first | (rw [if_pos (by decide +kernel)]; kernel_rfl) | (rw [if_neg (by decide +kernel)]; exact ⟨rfl, rfl⟩))
    (fun os started H enc _ => lifted os started H enc)
#print axioms proved
end Go.Proofs.Ytnbjhdlnibmgdaa.packsGets
