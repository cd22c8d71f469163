/-
  proof.Check.
-/
import Derived.Test.YtebhlfmianohlaaDoorProofClimb1
import Derived.Test.YtebhlfmianohlaaDoorProofSteps
namespace Go.Proofs.YtebhlfmianohlaaDoor
open Go.RowKit Go.Shelf
attribute [local go_sem] Oper.semAt_some

theorem checkL_range {root : List UInt8} {n i : Int} {leaf : List UInt8} {way : List (List UInt8)} (h : ¬ (0 ≤ i ∧ i < n)) : checkL root n i leaf way = 14 := by
  rw [checkL, if_pos (by omega)]
theorem checkL_in {root : List UInt8} {n i : Nat} (hi : i < n) (leaf : List UInt8) (way : List (List UInt8)) :
    checkL root (n : Int) (i : Int) leaf way = if way.length = (bes n 0 i).length ∧ leaf.length ≤ 64 then (if crownD n (topX n i leaf way) = root then 0 else 21) else 21 := by
  rw [checkL, if_neg (by omega), Int.toNat_natCast, Int.toNat_natCast, climb_up_eq n 0 i _ _ hi]
  by_cases h1 : 64 < leaf.length
  · rw [if_pos h1, if_neg (by omega)]
  · rw [if_neg h1]
    by_cases h2 : way.length = (bes n 0 i).length
    · rw [if_pos h2, if_pos ⟨h2, by omega⟩]
      rfl
    · rw [if_neg h2, if_neg (fun h => h2 h.1)]

def CkI (w : World) (OS : Array Value) (q11 : Nat) (R : List (List UInt8)) (_ : Nat → Prop) (pre : List ClV) (W : World) : Prop :=
  Below w.heap.size w W ∧ W.heap[w.heap.size]? = some (.cells OS 31 (0, 0)) ∧ ∃ t, t.length = 32 ∧ (0 < pre.length → t = shaL (R[pre.length - 1]?.getD [])) ∧ W.heap[q11]? = some (.cells (row8 t) 31 (0, 0))
theorem CkI.still (w : World) (OS : Array Value) (q11 : Nat) (R : List (List UInt8)) {B : Nat} (hB : w.heap.size < B ∧ q11 < B) : Still B (CkI w OS q11 R) := by
  rintro D D' s W W' hb ⟨h1, h2, t, h3, h4, h5⟩ hS _
  exact ⟨hS.below h1 hb (Nat.le_refl _) (by omega), hS.cells h2 (hb.not (by omega)), t, h3, h4, hS.cells h5 (hb.not (by omega))⟩
theorem cells_kept {W W' : World} {row : Option Nat} {p : Nat} {cs : Array Value} {t : TypeId} {f : Nat × Nat} (h : W.heap[p]? = some (.cells cs t f)) (hg : W.grownBy W' row) (hr : ∀ r, row = some r → ∃ o : Obj, W.heap[r]? = some o ∧ o.isCells = false) : W'.heap[p]? = some (.cells cs t f) :=
  (hg.block p (lt_of_cells h) (fun e => by
    obtain ⟨o, ho, hc⟩ := hr p e.symm
    rw [h] at ho
    cases ho
    cases hc)).trans h

set_option maxHeartbeats 4000000 in
set_option maxRecDepth 100000 in
theorem check_any {w : World} {S T : Nat → Prop} {A Aw : Option Addr} {nl cl nw cw : Nat} {leaf : List UInt8} {way : List (List UInt8)} (root : List UInt8) (hroot : root.length = 32) (n i : Int) (hn : n < 9223372036854775808) (hleaf : Byt w S A nl cl leaf) (hids : Ids w T Aw nw cw way) (ht : Tab w) :
    Calls Tryd.prog 17 #[.agg (row8 root), .int .i64 n, .int .i64 i, .slice A nl cl, .slice Aw nw cw] w fun e w' => e = .returned (.int .i64 (checkL root n i leaf way)) ∧ Below w.heap.size w w' := by
  have hwi := within_any n i (w.alloc (.cells (row8 root) 31))
  have hb0 : Below w.heap.size w (w.alloc (.cells (row8 root) 31)) := (Below.refl _ _).alloc (Nat.le_refl _) _
  have hx0 := heap_alloc_new w (.cells (row8 root) 31)
  obtain ⟨OS, hOS⟩ : ∃ OS, OS = row8 root := ⟨_, rfl⟩
  rw [← hOS] at hwi hb0 hx0 ⊢
  have HOS : Hid (OS = row8 root ∧ OS.size = 32 ∧ root.length = 32) := Lib.hid ⟨hOS, by rw [hOS, row8_size, hroot], hroot⟩
  have H0 := Lib.hid (And.intro hb0 hx0)
  clear hOS hroot hb0 hx0
  by_cases hr : 0 ≤ i ∧ i < n
  · obtain ⟨i', rfl⟩ := Int.eq_ofNat_of_zero_le hr.1
    obtain ⟨n', rfl⟩ := Int.eq_ofNat_of_zero_le (show 0 ≤ n by omega)
    have hi' : i' < n' := by omega
    have hn' : n' < 9223372036854775808 := by omega
    have hst := steps_any n' i' hn' hi' (w.alloc (.cells OS 31))
    rw [decide_eq_true hr] at hwi
    have HA := Lib.hid (And.intro hleaf (And.intro hids (And.intro ht (And.intro hi' hn'))))
    have HCK := Lib.hid (checkL_in (root := root) hi' leaf way)
    have hll := hleaf.len
    have hwl := hids.len
    clear hleaf hids ht hr hi' hn' hn
    obtain ⟨NB, hNB⟩ : ∃ NB, NB = (bes n' 0 i').length := ⟨_, rfl⟩
    rw [← hNB] at hst
    have HNB := Lib.hid hNB
    clear hNB
    by_cases hw1 : nw = NB
    · have hne : ((nw : Int) != (NB : Int)) = false := by simp [hw1]
      by_cases hl1 : nl ≤ 64
      · have hgt : ¬ (64 : Int) < (nl : Int) := by omega
        have hz := zero_id
        obtain rfl : NB = nw := hw1.symm
        refine (callsIn_wide (n := 3)).1 ?_
        refine callsIn_of_wp_marks Tryd.func17 rfl trivial ?_ rfl
        simp only [Tryd.ntmps17, List.size_toArray, List.length_cons, List.length_nil, Nat.reduceAdd, Nat.reduceSub, Array.replicate_succ, Array.replicate_zero, List.push_toArray, List.append_toArray, List.nil_append, List.cons_append]
        gi_wp2_with (first
          | (refine ⟨trivial, ?_⟩; gi_at_call 21; refine (callsIn_wide.2 hwi).mono ?_; clear hwi; rintro _ _ ⟨rfl, rfl⟩)
          | (refine ⟨trivial, ?_⟩; gi_at_call 31; refine (callsIn_wide.2 hst).mono ?_; clear hst; rintro _ w2 ⟨rfl, hb2⟩)
          | (refine ⟨trivial, ?_⟩; gi_at_call 32; refine (callsIn_wide.2 (climb_any n' i' A nl cl Aw NB cw _)).mono ?_; rintro _ _ ⟨rfl, rfl⟩))
        try simp only [World.size_alloc]
        have hbw2 := H0.out.1.trans (hb2.mono (by simp))
        have hx02 := (hb2.block _ (lt_of_cells H0.out.2)).trans H0.out.2
        obtain ⟨q11, hq11⟩ : ∃ q11, w2.heap.size = q11 := ⟨_, rfl⟩
        obtain ⟨W1, hW1⟩ : ∃ W1, ((((w2.alloc (.cells zerosId 31)).alloc (.cells #[.int .i64 (n' : Int)] 3)).alloc (.cells #[.int .i64 (i' : Int)] 3)).alloc (.cells #[.slice A nl cl] 22)).alloc (.cells #[.slice Aw NB cw] 24) = W1 := ⟨_, rfl⟩
        have hsz : W1.heap.size = q11 + 5 := by rw [← hW1]; simp [hq11]
        have hb21 : Below w2.heap.size w2 W1 := by rw [← hW1]; exact (((((Below.refl _ _).alloc (Nat.le_refl _) _).alloc (by simp) _).alloc (by simp <;> omega) _).alloc (by simp <;> omega) _).alloc (by simp <;> omega) _
        have hx11 : W1.heap[q11]? = some (.cells (row8 (List.replicate 32 0)) 31 (0, 0)) := by
          rw [← hW1, ← hq11, show row8 (List.replicate 32 0) = zerosId from rfl]
          exact (Below.heap_alloc _ _ _ (by simp <;> omega)).trans ((Below.heap_alloc _ _ _ (by simp <;> omega)).trans ((Below.heap_alloc _ _ _ (by simp <;> omega)).trans ((Below.heap_alloc _ _ _ (by simp)).trans (heap_alloc_new w2 _))))
        have hx12 : W1.heap[q11 + 1]? = some (.cells #[.int .i64 (n' : Int)] 3 (0, 0)) := by
          have h := heap_alloc_new (w2.alloc (.cells zerosId 31)) (.cells #[.int .i64 (n' : Int)] 3)
          rw [World.size_alloc] at h
          rw [← hW1, ← hq11]
          exact (Below.heap_alloc _ _ _ (by simp <;> omega)).trans ((Below.heap_alloc _ _ _ (by simp <;> omega)).trans ((Below.heap_alloc _ _ _ (by simp)).trans h))
        have hx13 : W1.heap[q11 + 1 + 1]? = some (.cells #[.int .i64 (i' : Int)] 3 (0, 0)) := by
          have h := heap_alloc_new ((w2.alloc (.cells zerosId 31)).alloc (.cells #[.int .i64 (n' : Int)] 3)) (.cells #[.int .i64 (i' : Int)] 3)
          simp only [World.size_alloc] at h
          rw [← hW1, ← hq11]
          exact (Below.heap_alloc _ _ _ (by simp <;> omega)).trans ((Below.heap_alloc _ _ _ (by simp)).trans h)
        have hx14 : W1.heap[q11 + 1 + 2]? = some (.cells #[.slice A nl cl] 22 (0, 0)) := by
          have h := heap_alloc_new (((w2.alloc (.cells zerosId 31)).alloc (.cells #[.int .i64 (n' : Int)] 3)).alloc (.cells #[.int .i64 (i' : Int)] 3)) (.cells #[.slice A nl cl] 22)
          simp only [World.size_alloc] at h
          rw [← hW1, ← hq11]
          exact (Below.heap_alloc _ _ _ (by simp)).trans h
        have hx15 : W1.heap[q11 + 1 + 3]? = some (.cells #[.slice Aw NB cw] 24 (0, 0)) := by
          have h := heap_alloc_new ((((w2.alloc (.cells zerosId 31)).alloc (.cells #[.int .i64 (n' : Int)] 3)).alloc (.cells #[.int .i64 (i' : Int)] 3)).alloc (.cells #[.slice A nl cl] 22)) (.cells #[.slice Aw NB cw] 24)
          simp only [World.size_alloc] at h
          rw [← hW1, ← hq11]
          exact h
        simp only [hq11, hW1]
        clear hW1 hb2
        have hb1 := hbw2.trans (hb21.mono hbw2.size)
        have hlen : (bes n' 0 i').length = way.length := by rw [← HNB.out, hwl]
        have hq0 : w.heap.size < q11 := by rw [← hq11]; exact lt_of_cells hx02
        have HR2 : Hid (checkL root (n' : Int) (i' : Int) leaf way = if crownD n' (topX n' i' leaf way) = root then 0 else 21) := Lib.hid (by rw [HCK.out, if_pos ⟨hlen.symm, by omega⟩])
        have hI0 : CkI w OS q11 (climbRows n' i' leaf way) (fun _ => False) [] W1 := ⟨hb1, (hb21.block _ (lt_of_cells hx02)).trans hx02, _, by simp, fun h => absurd h (by simp), hx11⟩
        have HI0 := Lib.hid hI0
        have H1 := Lib.hid (And.intro hsz (And.intro hb1 (And.intro hlen hq0)))
        have hit := climb_iter n' i' HA.out.2.2.2.2 HA.out.2.2.2.1 (LS := S) (WS := fun b => b < w.heap.size) (K := fun b => b < w.heap.size ∨ b = q11 + 1 ∨ b = q11 + 1 + 1 ∨ b = q11 + 1 + 3) (q11 + 1) hlen hx12 hx13 hx14 hx15 ((HA.out.2.1.mono (T := fun b => b < w.heap.size) fun b hb _ => hb).below hb1) (HA.out.2.2.1.below hb1) (HA.out.1.below hb1) (by omega) (fun b hb => by omega) ⟨.inr (.inl rfl), .inr (.inr (.inl rfl)), .inr (.inr (.inr rfl))⟩ (fun b hb => .inl hb) (fun b hb => by have h1 := HA.out.2.2.1.lt1; have h2 := HA.out.2.2.1.lt2; unfold tabK at hb; omega)
        clear hsz hb1 hlen hq0 hI0 hx11 hx12 hx13 hx14 hx15 hx02 hbw2 hb21 hq11 hne hgt hll hwl hw1
        refine wpIn_rangeFunc_it (gf := 48) (lb := #[.pointer (some ⟨q11 + 1 + 2, 0, none⟩), .pointer (some ⟨q11 + 1, 0, none⟩), .pointer (some ⟨q11 + 1 + 1, 0, none⟩), .pointer (some ⟨q11 + 1 + 3, 0, none⟩)]) rfl (enters_of Tryd.func48 (by kernel_rfl) rfl) hit (Below.refl _ _) (fun b hb => by have h1 := H1.out.1; have h2 := H1.out.2.2.2; omega) (fun _ => rfl)
          (CkI w OS q11 (climbRows n' i' leaf way)) (fun _ _ _ _ => False) (CkI.still w OS q11 _ (by have h1 := H1.out.1; have h2 := H1.out.2.2.2; omega)) (fun _ => still_false _) HI0.out
          (fun x a' W => ∃ g, W.heap[g]? = some (.cells (row8 x.2) 31 (0, 0)) ∧ x.2.length = 32 ∧ a' = { tmps := #[.agg OS, .int .i64 (n' : Int), .int .i64 (i' : Int), .slice A nl cl, .slice Aw NB cw, .pointer (some ⟨w.heap.size, 0, none⟩), undef, undef, undef, undef, .int .i64 0, .pointer (some ⟨q11, 0, none⟩), undef, .pointer (some ⟨g, 0, none⟩), .int .i64 (n' : Int), .int .i64 (i' : Int), .bool true, .bool false, .slice Aw NB cw, .int .i64 (NB : Int), .int .i64 (n' : Int), .int .i64 (i' : Int), .int .i64 (NB : Int), .bool false, .bool false, .slice A nl cl, .int .i64 (nl : Int), .bool (decide ((64 : Int) < (nl : Int))), .bool (decide ((64 : Int) < (nl : Int))), .int .i64 (n' : Int), .int .i64 (i' : Int), .slice A nl cl, .slice Aw NB cw, climbFn (q11 + 1), .slice x.1.1 x.1.2.1 x.1.2.2, .agg (row8 x.2), undef, undef, undef, undef], defers := [] }) (fun x a' => fun s X Y row hs hg hr => by
            obtain ⟨g, h1, h2⟩ := hs
            exact ⟨g, cells_kept h1 hg (fun r e => (hr r e).2), h2⟩) ?assign ?body ?done ?stop
        case assign =>
          intro l' D pre x W' C hBd hi hX hC
          have hx32 : x.2.length = 32 := by
            rw [(hX.2 pre.length x (by simp)).2]
            exact shaL_length _
          obtain ⟨XS, hXS⟩ : ∃ XS, XS = row8 x.2 := ⟨_, rfl⟩
          have HXS : Hid (XS = row8 x.2 ∧ XS.size = 32 ∧ XS.all (·.oneCell') = true) := Lib.hid ⟨hXS, by rw [hXS, row8_size, hx32], by rw [hXS]; exact row8_one _⟩
          have HG := Lib.hid (heap_alloc_new W' (.cells zerosId 31))
          have hb : Below W'.heap.size W' ((W'.alloc (.cells zerosId 31)).setRow W'.heap.size XS) := below_setRow ((Below.refl _ _).alloc (Nat.le_refl _) _) (Nat.le_refl _) _
          have hset := setRow_at (new := XS) HG.out
          rw [hXS] at hset
          have HC : Hid (∀ a', a' = _ → C a' ((W'.alloc (.cells zerosId 31)).setRow W'.heap.size XS)) := Lib.hid fun a' ha => hC a' _ (Kept.of_below hb) ⟨hi.1.trans (hb.mono hi.1.size), (hb.block _ (lt_of_cells hi.2.1)).trans hi.2.1, by
            obtain ⟨t, h3, h4, h5⟩ := hi.2.2
            exact ⟨t, h3, h4, (hb.block _ (lt_of_cells h5)).trans h5⟩⟩ ⟨W'.heap.size, hXS ▸ hset, hx32, ha⟩
          simp only [clE]
          rw [← hXS]
          clear hXS hset hb hC hx32 hi hX
          gi_wp2_with (refine wpListIn_store_row (by rfl) 31 (.tmp 13) (.tmp 35) (by rfl) W'.heap.size XS (by rfl) (by rfl) 31 zerosId HG.out (by rw [HXS.out.2.1]; exact id_info) (by rw [HXS.out.2.1]; rfl) HXS.out.2.2 ?_)
          exact HC.out _ (by rw [HXS.out.1])
        case stop =>
          intro E D c pre W _ _ _ _ h _
          exact h.elim
        case body =>
          rintro l' D pre x a' W' hl hws hBd ⟨hbl, hr0, t, ht32, htv, hr1⟩ hX ⟨g, hg, hx32, rfl⟩
          have hxv := (hX.2 pre.length x (by simp)).2
          obtain ⟨XS, hXS⟩ : ∃ XS, XS = row8 x.2 := ⟨_, rfl⟩
          rw [← hXS] at hg
          have HXS : Hid (XS = row8 x.2 ∧ XS.size = 32 ∧ XS.all (·.oneCell') = true) := Lib.hid ⟨hXS, by rw [hXS, row8_size, hx32], by rw [hXS]; exact row8_one _⟩
          have HB := Lib.hid (And.intro hg (And.intro hbl (And.intro hr0 (And.intro hr1 (And.intro ht32 (And.intro hBd (And.intro hx32 hxv)))))))
          clear hXS hx32 hxv hbl hr0 hr1 ht32 htv hBd hX hg
          gi_wp2_with (first | refine wpListIn_load_row (by rfl) 31 (.tmp 13) (by rfl) g (by rfl) 31 XS (0, 0) _ HB.out.1 Tryd.underlying31 (by rfl) (by rw [HXS.out.2.1]; exact id_info) ?_ | refine wpListIn_store_row (by rfl) 31 (.tmp 11) (.tmp 36) (by rfl) q11 XS (by rfl) (by rfl) 31 _ HB.out.2.2.2.1 (by rw [HXS.out.2.1]; exact id_info) (by rw [HXS.out.2.1, row8_size]; exact HB.out.2.2.2.2.1) HXS.out.2.2 ?_)
          have hq := H1.out.2.2.2
          refine ⟨Kept.of_turned (turned_setRow XS) HB.out.2.2.2.1 (fun hd => by have h1 := (HB.out.2.2.2.2.2.1 _ hd).1; have h2 := H1.out.1; omega) (fun hk => by omega), below_setRow HB.out.2.1 (by omega) _, (setRow_ne _ _ _ _ (by omega)).trans HB.out.2.2.1, x.2, HB.out.2.2.2.2.2.2.1, fun _ => ?_, (setRow_at HB.out.2.2.2.1).trans (by rw [HXS.out.1])⟩
          rw [HB.out.2.2.2.2.2.2.2]
          simp
        case done =>
          rintro E D xs W' hE hws hBd hxl _ ⟨hbl, hr0, t, ht32, htv, hr1⟩ hK
          have hlen := H1.out.2.2.1
          have hcl := climbRows_length (leaf := leaf) hlen
          have htop : t = crownD n' (topX n' i' leaf way) := by
            rw [htv (by omega), hxl, hcl, show way.length + 2 - 1 = way.length + 1 by omega, climbRows_last hlen]
            rfl
          obtain ⟨TS, hTS⟩ : ∃ TS, TS = row8 t := ⟨_, rfl⟩
          rw [← hTS] at hr1
          have hq := id_eql t root ht32 HOS.out.2.2
          rw [show (u8s t).toArray = TS from hTS.symm, show (u8s root).toArray = OS from HOS.out.1.symm] at hq
          have HTS : Hid (TS.size = 32 ∧ t = crownD n' (topX n' i' leaf way)) := Lib.hid ⟨by rw [hTS, row8_size, ht32], htop⟩
          have HW := Lib.hid (And.intro hbl (And.intro hr0 (And.intro hr1 (And.intro hK hE))))
          clear hbl hr0 hr1 ht32 htv hK hE hTS htop hxl hcl hlen hz
          by_cases hroot : t = root
          · have hdt : decide (t = root) = true := decide_eq_true hroot
            have HF : Hid (checkL root (n' : Int) (i' : Int) leaf way = 0) := Lib.hid (by rw [HR2.out, if_pos (by rw [← HTS.out.2]; exact hroot)])
            rw [hdt] at hq
            clear hdt hroot
            gi_wp2_with (first | refine wpListIn_load_row (by rfl) 31 (.tmp 11) (by rfl) q11 (by rfl) 31 TS (0, 0) _ HW.out.2.2.1 Tryd.underlying31 (by rfl) (by rw [HTS.out.1]; exact id_info) ?_ | refine wpListIn_load_row (by rfl) 31 (.tmp 5) (by rfl) w.heap.size (by rfl) 31 OS (0, 0) _ HW.out.2.1 Tryd.underlying31 (by rfl) (by rw [HOS.out.2.1]; exact id_info) ?_)
            refine ⟨by simp, .inl ⟨_, _, rfl, run_takeDeferred HW.out.2.2.2.1, ?_⟩⟩
            exact ⟨_, results_tmp rfl _ _ _, by rw [HF.out]; rfl, HW.out.1.trans (belowK_b (w := w) (Nat.le_refl _) W' E _ _ (by have h1 := HW.out.2.2.2.2; have h2 := H1.out; omega) HW.out.2.2.2.1 rfl rfl)⟩
          · have hdt : decide (t = root) = false := decide_eq_false hroot
            have HF : Hid (checkL root (n' : Int) (i' : Int) leaf way = 21) := Lib.hid (by rw [HR2.out, if_neg (by rw [← HTS.out.2]; exact hroot)])
            rw [hdt] at hq
            clear hdt hroot
            gi_wp2_with (first | refine wpListIn_load_row (by rfl) 31 (.tmp 11) (by rfl) q11 (by rfl) 31 TS (0, 0) _ HW.out.2.2.1 Tryd.underlying31 (by rfl) (by rw [HTS.out.1]; exact id_info) ?_ | refine wpListIn_load_row (by rfl) 31 (.tmp 5) (by rfl) w.heap.size (by rfl) 31 OS (0, 0) _ HW.out.2.1 Tryd.underlying31 (by rfl) (by rw [HOS.out.2.1]; exact id_info) ?_)
            refine ⟨by simp, .inl ⟨_, _, rfl, run_takeDeferred HW.out.2.2.2.1, ?_⟩⟩
            exact ⟨_, results_tmp rfl _ _ _, by rw [HF.out]; rfl, HW.out.1.trans (belowK_b (w := w) (Nat.le_refl _) W' E _ _ (by have h1 := HW.out.2.2.2.2; have h2 := H1.out; omega) HW.out.2.2.2.1 rfl rfl)⟩
      · have hgt : (64 : Int) < (nl : Int) := by omega
        have HR : Hid (checkL root (n' : Int) (i' : Int) leaf way = 21) := Lib.hid (by rw [HCK.out, if_neg (fun h => hl1 (by omega))])
        refine (callsIn_wide (n := 3)).1 ?_
        refine callsIn_of_wp_marks Tryd.func17 rfl trivial ?_ rfl
        simp only [Tryd.ntmps17, List.size_toArray, List.length_cons, List.length_nil, Nat.reduceAdd, Nat.reduceSub, Array.replicate_succ, Array.replicate_zero, List.push_toArray, List.append_toArray, List.nil_append, List.cons_append]
        gi_wp2_with (first
          | (refine ⟨trivial, ?_⟩; gi_at_call 21; refine (callsIn_wide.2 hwi).mono ?_; clear hwi; rintro _ _ ⟨rfl, rfl⟩)
          | (refine ⟨trivial, ?_⟩; gi_at_call 31; refine (callsIn_wide.2 hst).mono ?_; clear hst; rintro _ w2 ⟨rfl, hb2⟩))
        exact ⟨_, results_tmp rfl _ _ _, by rw [HR.out]; rfl, H0.out.1.trans (hb2.mono (by simp))⟩
    · have hne : ((nw : Int) != (NB : Int)) = true := by simp; omega
      have HR : Hid (checkL root (n' : Int) (i' : Int) leaf way = 21) := Lib.hid (by rw [HCK.out, if_neg (fun h => hw1 (by have := HNB.out; omega))])
      refine (callsIn_wide (n := 3)).1 ?_
      refine callsIn_of_wp_marks Tryd.func17 rfl trivial ?_ rfl
      simp only [Tryd.ntmps17, List.size_toArray, List.length_cons, List.length_nil, Nat.reduceAdd, Nat.reduceSub, Array.replicate_succ, Array.replicate_zero, List.push_toArray, List.append_toArray, List.nil_append, List.cons_append]
      gi_wp2_with (first
        | (refine ⟨trivial, ?_⟩; gi_at_call 21; refine (callsIn_wide.2 hwi).mono ?_; clear hwi; rintro _ _ ⟨rfl, rfl⟩)
        | (refine ⟨trivial, ?_⟩; gi_at_call 31; refine (callsIn_wide.2 hst).mono ?_; clear hst; rintro _ w2 ⟨rfl, hb2⟩))
      exact ⟨_, results_tmp rfl _ _ _, by rw [HR.out]; rfl, H0.out.1.trans (hb2.mono (by simp))⟩
  · rw [decide_eq_false hr] at hwi
    have HR := Lib.hid (checkL_range (root := root) (leaf := leaf) (way := way) hr)
    clear hr
    refine (callsIn_wide (n := 3)).1 ?_
    refine callsIn_of_wp_marks Tryd.func17 rfl trivial ?_ rfl
    simp only [Tryd.ntmps17, List.size_toArray, List.length_cons, List.length_nil, Nat.reduceAdd, Nat.reduceSub, Array.replicate_succ, Array.replicate_zero, List.push_toArray, List.append_toArray, List.nil_append, List.cons_append]
    gi_wp2_with (refine ⟨trivial, ?_⟩; gi_at_call 21; refine (callsIn_wide.2 hwi).mono ?_; clear hwi; rintro _ _ ⟨rfl, rfl⟩)
    exact ⟨_, results_tmp rfl _ _ _, by rw [HR.out]; rfl, H0.out.1⟩
end Go.Proofs.YtebhlfmianohlaaDoor
