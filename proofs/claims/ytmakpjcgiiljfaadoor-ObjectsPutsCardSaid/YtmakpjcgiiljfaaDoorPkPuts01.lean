/-
  The reference's Put of objects.
-/
import Derived.Test.YtmakpjcgiiljfaaDoorPkGets02
import Derived.Test.YtmakpjcgiiljfaaDoorPk10
import Derived.Test.YtmakpjcgiiljfaaDoorPk01
/-! The reference's Put of objects. -/
namespace Go.Proofs.YtmakpjcgiiljfaaDoor
open Go.RowKit Codec

/-- What the reference's Put ends in. -/
def RpPost (w : World) (x : Ob) (e : Ending) (w' : World) : Prop := e = .returned (.tuple #[.string (st (poB x)), .int .i64 (chkO x)]) ∧ Below w.heap.size w w'
theorem put_l1 : ([1] : List UInt8) = put 1 := (put_small (by decide)).symm
theorem put_l2 : ([2] : List UInt8) = put 2 := (put_small (by decide)).symm
theorem put_l3 : ([3] : List UInt8) = put 3 := (put_small (by decide)).symm
theorem put_l4 : ([4] : List UInt8) = put 4 := (put_small (by decide)).symm
theorem st_strB (l : List UInt8) : strB l = st l := rfl
theorem rput_num (n : Nat) (hn : n < 18446744073709551616) (W : World) : Calls Tryd.prog 25 #[.int .u64 (n : Int)] W fun e w' => e = .returned (.string (st (put n))) ∧ Below W.heap.size W w' :=
  ref_put 10 n W (by have : (128 : Nat) ^ 10 = 1180591620717411303424 := by decide
                     omega) hn
theorem rwith (l : List UInt8) (W : World) (hl : l.length ≤ 140737488355328) : Calls Tryd.prog 24 #[.string (st l)] W fun e w' => e = .returned (.string (st (put l.length ++ l))) ∧ Below W.heap.size W w' := ref_with l W hl
theorem ryes (b : Bool) (w : World) : Calls Tryd.prog 26 #[.bool b] w fun e w' => e = .returned (.string (st (yesB b))) ∧ w = w' := by
  cases b
  · go_enter Tryd.func26, Tryd.ntmps26
    go_wp2
    go_ret
    exact ⟨rfl, rfl⟩
  · go_enter Tryd.func26, Tryd.ntmps26
    go_wp2
    go_ret
    exact ⟨rfl, rfl⟩
def RpI (w : World) (pre : List UInt8) (ids : List (List UInt8)) (v i : Value) (wr : World) : Prop :=
  ∃ j : Nat, j ≤ ids.length ∧ i = .int .i64 (j : Int) ∧ v = .string (st (pre ++ (ids.take j).flatten)) ∧ Below w.heap.size w wr
def RpE (w : World) (pre : List UInt8) (es : List En) (v i : Value) (wr : World) : Prop :=
  ∃ j : Nat, j ≤ es.length ∧ i = .int .i64 (j : Int) ∧ v = .string (st (pre ++ ensB (es.take j))) ∧ Below w.heap.size w wr
set_option maxHeartbeats 4000000 in
set_option maxRecDepth 100000 in
theorem rput_bad {w : World} {S : Nat → Prop} {p : At} {x : Ob} (h : Ois w S p x) (hpe : p.e ≤ 100000000) (h0 : chkO x ≠ 0) :
    Calls Tryd.prog 10 #[.agg (omV p x)] w (RpPost w x) := by
  have hbl : Below w.heap.size w (w.alloc (.cells (omV p x) 37)) := (Below.refl _ _).alloc (Nat.le_refl _) _
  have hck := rchk_any (h.below hbl) hpe
  have hnew := heap_alloc_new w (.cells (omV p x) 37)
  have HPO : Hid (poB x = []) := Lib.hid (by unfold poB; rw [if_neg h0])
  have hne : (chkO x != 0) = true := by simpa using h0
  obtain ⟨E, hE⟩ : ∃ E, E = chkO x := ⟨_, rfl⟩
  rw [← hE] at hck hne
  have HE := Lib.hid hE
  obtain ⟨CS, hCS⟩ : ∃ CS, CS = omV p x := ⟨_, rfl⟩
  rw [← hCS] at hbl hck hnew ⊢
  have HCS := Lib.hid hCS
  have HX := Lib.hid (And.intro hbl hnew)
  clear h h0 hE hCS hbl hnew
  go_enter Tryd.func10, Tryd.ntmps10
  go_wp2_with (first
    | (refine wpList_load_row (by rfl) 37 (.tmp 1) (by rfl) w.heap.size (by rfl) 37 CS (0, 0) _ HX.out.2 Tryd.underlying37 (by rfl) (by rw [HCS.out]; exact om_info) ?_)
    | (go_at_call 13; refine hck.mono ?_; clear hck; rintro _ w0 ⟨rfl, hb0⟩))
  go_ret2
  exact ⟨by rw [← HE.out, HPO.out]; rfl, HX.out.1.trans (hb0.mono HX.out.1.size)⟩
set_option maxHeartbeats 16000000 in
set_option maxRecDepth 100000 in
theorem rput1 {w : World} {S : Nat → Prop} {p : At} {x : Ob} (h : Ois w S p x) (hpe : p.e ≤ 100000000) (h0 : chkO x = 0) (hk : x.k = 1) :
    Calls Tryd.prog 10 #[.agg (omV p x)] w (RpPost w x) := by
  have hbl : Below w.heap.size w (w.alloc (.cells (omV p x) 37)) := (Below.refl _ _).alloc (Nat.le_refl _) _
  have hck := rchk_any (h.below hbl) hpe
  have hnew := heap_alloc_new w (.cells (omV p x) 37)
  rw [h0] at hck
  have hs := may_small (chk_may h0)
  have HPO : Hid (chkO x = 0 ∧ poB x = putO x) := Lib.hid ⟨h0, by unfold poB; rw [if_pos h0]⟩
  have HH := Lib.hid h
  clear h h0 hpe
  obtain ⟨A, n, c, IA, i, ic, EA, m, mc⟩ := p
  obtain ⟨k, b, z, ids, es, lb⟩ := x
  simp only at hk
  subst hk
  obtain ⟨CS, hCS⟩ : ∃ CS, CS = omV ⟨A, n, c, IA, i, ic, EA, m, mc⟩ ⟨1, b, z, ids, es, lb⟩ := ⟨_, rfl⟩
  rw [← hCS] at hbl hck hnew ⊢
  have HCS := Lib.hid hCS
  have HS := Lib.hid hs
  have HX := Lib.hid (And.intro hbl hnew)
  clear hbl hnew hCS hs
  go_enter Tryd.func10, Tryd.ntmps10
  go_upto_region 4 with (first
    | (refine wpList_load_row (by rfl) 37 (.tmp 1) (by rfl) w.heap.size (by rfl) 37 CS (0, 0) _ HX.out.2 Tryd.underlying37 (by rfl) (by rw [HCS.out]; exact om_info) ?_)
    | (go_at_call 13; refine hck.mono ?_; clear hck; rintro _ w0 ⟨rfl, hb0⟩))
  have HB0 : Hid (Below w.heap.size w w0 ∧ w.heap.size < w0.heap.size) := Lib.hid ⟨HX.out.1.trans (hb0.mono HX.out.1.size), Nat.lt_of_lt_of_le (lt_of_cells HX.out.2) hb0.size⟩
  have HC : Hid (∀ W, Below w0.heap.size w0 W → ∀ j, W.cell? ⟨w.heap.size, j, none⟩ = (omV ⟨A, n, c, IA, i, ic, EA, m, mc⟩ ⟨1, b, z, ids, es, lb⟩)[j]?) := Lib.hid fun W hW j => by
    have h1 := (hb0.block w.heap.size (lt_of_cells HX.out.2)).trans HX.out.2
    have h2 := (hW.block w.heap.size (lt_of_cells h1)).trans h1
    rw [cell_of_cells h2, HCS.out]
  have HM : Hid (∀ W, Below w0.heap.size w0 W → Ois W S ⟨A, n, c, IA, i, ic, EA, m, mc⟩ ⟨1, b, z, ids, es, lb⟩) := Lib.hid fun W hW => HH.out.below (HB0.out.1.trans (hW.mono HB0.out.1.size))
  clear hb0
  obtain ⟨w1, hw1⟩ : ∃ w1, w1 = w0.alloc (.cells #[.int .u8 1] 5) := ⟨_, rfl⟩
  have hs1 : (convert 22 9 (.slice (some ⟨w0.heap.size, 0, none⟩) 1 1)).run Tryd.prog (w0.alloc (.cells #[.int .u8 1] 5)) = .ok (.string (st [1])) (w0.alloc (.cells #[.int .u8 1] 5)) := str_one w0 1
  have hc0 : w0.cell? ⟨w.heap.size, 0, none⟩ = some (.int .u8 1) := (HC.out _ (Below.refl _ _) 0).trans rfl
  have HB1 : Hid (Below w0.heap.size w0 w1) := Lib.hid (by rw [hw1]; exact (Below.refl _ _).alloc (Nat.le_refl _) _)
  go_upto_region 5 with fail
  rw [← hw1]
  clear hs1 hc0 hw1
  have hc0 : w1.cell? ⟨w.heap.size, 0, none⟩ = some (.int .u8 1) := (HC.out _ HB1.out 0).trans rfl
  have hc1 : w1.cell? ⟨w.heap.size, 1, none⟩ = some (.string (st b)) := (HC.out _ HB1.out 1).trans rfl
  have HBL := Lib.hid HS.out.b
  have hwi := rwith b w1 (by have := HBL.out; simp only at this; omega)
  obtain ⟨P1, hP1⟩ : ∃ P1, P1 = put b.length ++ b := ⟨_, rfl⟩
  obtain ⟨P2, hP2⟩ : ∃ P2, P2 = [1] ++ P1 := ⟨_, rfl⟩
  rw [← hP1] at hwi
  have HP : Hid (P2 = putO ⟨1, b, z, ids, es, lb⟩ ∧ ([1] : List UInt8).length + P1.length ≤ 1000000000 ∧ P2 = [1] ++ P1) := Lib.hid ⟨by rw [hP2, hP1, put_l1]; rfl, by rw [hP1, List.length_append]; have h1 := HBL.out; simp only at h1; have := put_length_64 (x := b.length) (by omega); simp; omega, hP2⟩
  clear hP1 hP2
  go_wp2_with (first
    | (refine wpList_cat (o := ⟨some 25, _, _, _, _, _⟩) (by rfl) (.tmp 21) (.tmp 24) (by rfl) [1] P1 (by rfl) (by rfl) HP.out.2.1 HP.out.2.2 ?_)
    | (go_at_call 24; refine hwi.mono ?_; clear hwi; rintro _ w2 ⟨rfl, hb2⟩))
  go_ret2
  exact ⟨by rw [HPO.out.1, HPO.out.2, ← HP.out.1]; rfl, HB0.out.1.trans ((HB1.out.trans (hb2.mono HB1.out.size)).mono HB0.out.1.size)⟩
set_option maxHeartbeats 16000000 in
set_option maxRecDepth 100000 in
theorem rput2 {w : World} {S : Nat → Prop} {p : At} {x : Ob} (h : Ois w S p x) (hpe : p.e ≤ 100000000) (h0 : chkO x = 0) (hk : x.k = 2) :
    Calls Tryd.prog 10 #[.agg (omV p x)] w (RpPost w x) := by
  have hbl : Below w.heap.size w (w.alloc (.cells (omV p x) 37)) := (Below.refl _ _).alloc (Nat.le_refl _) _
  have hck := rchk_any (h.below hbl) hpe
  have hnew := heap_alloc_new w (.cells (omV p x) 37)
  rw [h0] at hck
  have hs := may_small (chk_may h0)
  have HPO : Hid (chkO x = 0 ∧ poB x = putO x) := Lib.hid ⟨h0, by unfold poB; rw [if_pos h0]⟩
  have HH := Lib.hid h
  clear h h0 hpe
  obtain ⟨A, n, c, IA, i, ic, EA, m, mc⟩ := p
  obtain ⟨k, b, z, ids, es, lb⟩ := x
  simp only at hk
  subst hk
  obtain ⟨CS, hCS⟩ : ∃ CS, CS = omV ⟨A, n, c, IA, i, ic, EA, m, mc⟩ ⟨2, b, z, ids, es, lb⟩ := ⟨_, rfl⟩
  rw [← hCS] at hbl hck hnew ⊢
  have HCS := Lib.hid hCS
  have HS := Lib.hid hs
  have HX := Lib.hid (And.intro hbl hnew)
  clear hbl hnew hCS hs
  go_enter Tryd.func10, Tryd.ntmps10
  go_upto_region 4 with (first
    | (refine wpList_load_row (by rfl) 37 (.tmp 1) (by rfl) w.heap.size (by rfl) 37 CS (0, 0) _ HX.out.2 Tryd.underlying37 (by rfl) (by rw [HCS.out]; exact om_info) ?_)
    | (go_at_call 13; refine hck.mono ?_; clear hck; rintro _ w0 ⟨rfl, hb0⟩))
  have HB0 : Hid (Below w.heap.size w w0 ∧ w.heap.size < w0.heap.size) := Lib.hid ⟨HX.out.1.trans (hb0.mono HX.out.1.size), Nat.lt_of_lt_of_le (lt_of_cells HX.out.2) hb0.size⟩
  have HC : Hid (∀ W, Below w0.heap.size w0 W → ∀ j, W.cell? ⟨w.heap.size, j, none⟩ = (omV ⟨A, n, c, IA, i, ic, EA, m, mc⟩ ⟨2, b, z, ids, es, lb⟩)[j]?) := Lib.hid fun W hW j => by
    have h1 := (hb0.block w.heap.size (lt_of_cells HX.out.2)).trans HX.out.2
    have h2 := (hW.block w.heap.size (lt_of_cells h1)).trans h1
    rw [cell_of_cells h2, HCS.out]
  have HM : Hid (∀ W, Below w0.heap.size w0 W → Ois W S ⟨A, n, c, IA, i, ic, EA, m, mc⟩ ⟨2, b, z, ids, es, lb⟩) := Lib.hid fun W hW => HH.out.below (HB0.out.1.trans (hW.mono HB0.out.1.size))
  clear hb0
  obtain ⟨w1, hw1⟩ : ∃ w1, w1 = w0.alloc (.cells #[.int .u8 2] 5) := ⟨_, rfl⟩
  have hs1 : (convert 22 9 (.slice (some ⟨w0.heap.size, 0, none⟩) 1 1)).run Tryd.prog (w0.alloc (.cells #[.int .u8 2] 5)) = .ok (.string (st [2])) (w0.alloc (.cells #[.int .u8 2] 5)) := str_one w0 2
  have hc0 : w0.cell? ⟨w.heap.size, 0, none⟩ = some (.int .u8 2) := (HC.out _ (Below.refl _ _) 0).trans rfl
  have HB1 : Hid (Below w0.heap.size w0 w1) := Lib.hid (by rw [hw1]; exact (Below.refl _ _).alloc (Nat.le_refl _) _)
  go_upto_region 5 with fail
  rw [← hw1]
  clear hs1 hc0 hw1
  have hc0 : w1.cell? ⟨w.heap.size, 0, none⟩ = some (.int .u8 2) := (HC.out _ HB1.out 0).trans rfl
  have hc2 : w1.cell? ⟨w.heap.size, 2, none⟩ = some (.int .u64 (z : Int)) := (HC.out _ HB1.out 2).trans rfl
  have hwf := (HM.out _ HB1.out).wf.z
  have HI : Hid (ids.length = i ∧ i ≤ 1000 ∧ z < 18446744073709551616) := Lib.hid ⟨(HM.out _ HB1.out).ids.len, by have h1 := (HM.out _ HB1.out).ids.len; have h2 := HS.out.ids; simp only at h1 h2; omega, hwf⟩
  have hp2 := rput_num z hwf w1
  obtain ⟨P1, hP1⟩ : ∃ P1, P1 = put z := ⟨_, rfl⟩
  obtain ⟨P2, hP2⟩ : ∃ P2, P2 = [2] ++ P1 := ⟨_, rfl⟩
  rw [← hP1] at hp2
  have HP : Hid (P2 = put 2 ++ put z ∧ ([2] : List UInt8).length + P1.length ≤ 1000000000 ∧ P2 = [2] ++ P1 ∧ P2.length ≤ 20) := Lib.hid ⟨by rw [hP2, hP1, put_l2], by rw [hP1]; have := put_length_64 (x := z) hwf; simp; omega, hP2, by rw [hP2, hP1]; have := put_length_64 (x := z) hwf; simp; omega⟩
  clear hP1 hP2 hwf
  go_upto_region 16 with (first
    | (refine wpList_cat (o := ⟨some 66, _, _, _, _, _⟩) (by rfl) (.tmp 62) (.tmp 65) (by rfl) [2] P1 (by rfl) (by rfl) HP.out.2.1 HP.out.2.2.1 ?_)
    | (go_at_call 25; refine hp2.mono ?_; clear hp2; rintro _ w2 ⟨rfl, hb2⟩))
  have HB2 := Lib.hid (HB1.out.trans (hb2.mono HB1.out.size))
  clear hc0 hc2 hb2
  have hc0 : w2.cell? ⟨w.heap.size, 0, none⟩ = some (.int .u8 2) := (HC.out _ HB2.out 0).trans rfl
  have hc3 : w2.cell? ⟨w.heap.size, 3, none⟩ = some (.slice IA i ic) := (HC.out _ HB2.out 3).trans rfl
  have hcv := IntWalk.u64_in (i : Int) (by have := HI.out.2.1; omega)
  have hp3 := rput_num i (by have := HI.out.2.1; omega) w2
  obtain ⟨P3, hP3⟩ : ∃ P3, P3 = put i := ⟨_, rfl⟩
  obtain ⟨PR, hPR⟩ : ∃ PR, PR = P2 ++ P3 := ⟨_, rfl⟩
  rw [← hP3] at hp3
  have HPRE : Hid (PR = put 2 ++ put z ++ put i ∧ PR.length ≤ 40) := Lib.hid ⟨by rw [hPR, hP3, HP.out.1], by rw [hPR, hP3, List.length_append]; have := put_length_64 (x := i) (by have := HI.out.2.1; omega); have := HP.out.2.2.2; omega⟩
  have HP4 : Hid (P2.length + P3.length ≤ 1000000000 ∧ PR = P2 ++ P3) := Lib.hid ⟨by rw [hP3]; have := put_length_64 (x := i) (by have := HI.out.2.1; omega); have := HP.out.2.2.2; omega, hPR⟩
  clear hP3 hPR
  go_upto_region 18 with (first
    | (refine wpList_cat (o := ⟨some 76, _, _, _, _, _⟩) (by rfl) (.tmp 70) (.tmp 75) (by rfl) P2 P3 (by rfl) (by rfl) HP4.out.1 HP4.out.2 ?_)
    | (go_at_call 25; refine hp3.mono ?_; clear hp3; rintro _ w3 ⟨rfl, hb3⟩))
  have HB3 := Lib.hid (HB2.out.trans (hb3.mono HB2.out.size))
  have HOI : Hid (RpI w3 PR ids (.string (st PR)) (.int .i64 0) w3) := Lib.hid ⟨0, Nat.zero_le _, rfl, by simp, Below.refl _ _⟩
  clear hc0 hc3 hcv hb3
  go_wp2_with fail
  go_loopw [5, 8] (fun v i9 wr => RpI w3 PR ids v i9 wr) (fun _ i9 _ => i - (intOf i9).toNat)
  case atStart => exact HOI.out
  case round =>
    obtain ⟨j, hj, rfl, rfl, hbel⟩ := hrel
    have HK := Lib.hid hbel
    have HK0 := Lib.hid (HB3.out.trans (hbel.mono HB3.out.size))
    have hc3 : wr.cell? ⟨w.heap.size, 3, none⟩ = some (.slice IA i ic) := (HC.out _ HK0.out 3).trans rfl
    clear hbel HOI
    obtain ⟨T9, hT9⟩ : ∃ T9, T9 = PR ++ (ids.take j).flatten := ⟨_, rfl⟩
    rw [← hT9]
    have htk := ids_take (l := ids) (by have := HI.out.1; have := HI.out.2.1; omega) (HM.out _ HK0.out).wf.ids j
    have HT9 : Hid (T9 = PR ++ (ids.take j).flatten ∧ T9.length ≤ 100000) := Lib.hid ⟨hT9, by rw [hT9, List.length_append]; have := HPRE.out.2; omega⟩
    clear hT9 htk
    by_cases hlt : j < i
    · have hlt' : (j : Int) < (i : Int) := by omega
      have hadd := IntWalk.i64_in ((j : Int) + 1) (by have := HI.out.2.1; omega)
      obtain ⟨g, off, hIA, hglt, h32, hcs⟩ := (HM.out _ HK0.out).ids.at_ hlt
      simp only at hIA
      subst hIA
      have hy : ids[j]? = some (ids[j]?.getD []) := by
        rw [List.getElem?_eq_getElem (by have := HI.out.1; omega)]
        rfl
      generalize ids[j]?.getD [] = y at *
      have hcv : (convert 22 9 (.slice (some ⟨g, off + j * 32, none⟩) 32 32)).run Tryd.prog wr = .ok (.string (st y)) wr := byt_string (S := fun _ => True) (byt_id trivial hglt h32 fun a v hv => by have := hcs a v hv; rwa [add_plain] at this)
      obtain ⟨T8, hT8⟩ : ∃ T8, T8 = T9 ++ y := ⟨_, rfl⟩
      have HY : Hid (ids[j]? = some y ∧ y.length = 32 ∧ j < i ∧ T8 = T9 ++ y) := Lib.hid ⟨hy, h32, hlt, hT8⟩
      clear hy h32 hcs hlt hj hT8
      go_wp2_with (refine wpList_cat (o := ⟨some 91, _, _, _, _, _⟩) (by rfl) (.tmp 84) (.tmp 90) (by rfl) T9 y (by rfl) (by rfl) (by have := HT9.out.2; have := HY.out.2.1; omega) HY.out.2.2.2 ?_)
      go_roundw
      case rel =>
        unfold RpI
        refine ⟨j + 1, by have := HY.out.2.2.1; have := HI.out.1; omega, by simp, ?_, HK.out⟩
        rw [ids_succ HY.out.1, ← List.append_assoc, ← HT9.out.1, HY.out.2.2.2]
      case measure => have := HY.out.2.2.1; simp only [intOf]; omega
    · have hlt' : ¬ (j : Int) < (i : Int) := by omega
      have hfull : ids.take j = ids := List.take_of_length_le (by have := HI.out.1; omega)
      have HT : Hid (T9 = PR ++ ids.flatten ∧ T9.length ≤ 100000) := Lib.hid ⟨by have := HT9.out.1; rwa [hfull] at this, HT9.out.2⟩
      clear hfull hlt hj HT9
      have hc0 : wr.cell? ⟨w.heap.size, 0, none⟩ = some (.int .u8 2) := (HC.out _ HK0.out 0).trans rfl
      go_wp2_with fail
      go_ret2
      exact ⟨by rw [HPO.out.1, HPO.out.2]; rw [HT.out.1, HPRE.out.1, ← HI.out.1]; rfl, HB0.out.1.trans (HK0.out.mono HB0.out.1.size)⟩
set_option maxHeartbeats 16000000 in
set_option maxRecDepth 100000 in
theorem rput3 {w : World} {S : Nat → Prop} {p : At} {x : Ob} (h : Ois w S p x) (hpe : p.e ≤ 100000000) (h0 : chkO x = 0) (hk : x.k = 3) :
    Calls Tryd.prog 10 #[.agg (omV p x)] w (RpPost w x) := by
  have hbl : Below w.heap.size w (w.alloc (.cells (omV p x) 37)) := (Below.refl _ _).alloc (Nat.le_refl _) _
  have hck := rchk_any (h.below hbl) hpe
  have hnew := heap_alloc_new w (.cells (omV p x) 37)
  rw [h0] at hck
  have hs := may_small (chk_may h0)
  have HPO : Hid (chkO x = 0 ∧ poB x = putO x) := Lib.hid ⟨h0, by unfold poB; rw [if_pos h0]⟩
  have HH := Lib.hid h
  clear h h0 hpe
  obtain ⟨A, n, c, IA, i, ic, EA, m, mc⟩ := p
  obtain ⟨k, b, z, ids, es, lb⟩ := x
  simp only at hk
  subst hk
  obtain ⟨CS, hCS⟩ : ∃ CS, CS = omV ⟨A, n, c, IA, i, ic, EA, m, mc⟩ ⟨3, b, z, ids, es, lb⟩ := ⟨_, rfl⟩
  rw [← hCS] at hbl hck hnew ⊢
  have HCS := Lib.hid hCS
  have HS := Lib.hid hs
  have HX := Lib.hid (And.intro hbl hnew)
  clear hbl hnew hCS hs
  go_enter Tryd.func10, Tryd.ntmps10
  go_upto_region 4 with (first
    | (refine wpList_load_row (by rfl) 37 (.tmp 1) (by rfl) w.heap.size (by rfl) 37 CS (0, 0) _ HX.out.2 Tryd.underlying37 (by rfl) (by rw [HCS.out]; exact om_info) ?_)
    | (go_at_call 13; refine hck.mono ?_; clear hck; rintro _ w0 ⟨rfl, hb0⟩))
  have HB0 : Hid (Below w.heap.size w w0 ∧ w.heap.size < w0.heap.size) := Lib.hid ⟨HX.out.1.trans (hb0.mono HX.out.1.size), Nat.lt_of_lt_of_le (lt_of_cells HX.out.2) hb0.size⟩
  have HC : Hid (∀ W, Below w0.heap.size w0 W → ∀ j, W.cell? ⟨w.heap.size, j, none⟩ = (omV ⟨A, n, c, IA, i, ic, EA, m, mc⟩ ⟨3, b, z, ids, es, lb⟩)[j]?) := Lib.hid fun W hW j => by
    have h1 := (hb0.block w.heap.size (lt_of_cells HX.out.2)).trans HX.out.2
    have h2 := (hW.block w.heap.size (lt_of_cells h1)).trans h1
    rw [cell_of_cells h2, HCS.out]
  have HM : Hid (∀ W, Below w0.heap.size w0 W → Ois W S ⟨A, n, c, IA, i, ic, EA, m, mc⟩ ⟨3, b, z, ids, es, lb⟩) := Lib.hid fun W hW => HH.out.below (HB0.out.1.trans (hW.mono HB0.out.1.size))
  clear hb0
  obtain ⟨w1, hw1⟩ : ∃ w1, w1 = w0.alloc (.cells #[.int .u8 3] 5) := ⟨_, rfl⟩
  have hs1 : (convert 22 9 (.slice (some ⟨w0.heap.size, 0, none⟩) 1 1)).run Tryd.prog (w0.alloc (.cells #[.int .u8 3] 5)) = .ok (.string (st [3])) (w0.alloc (.cells #[.int .u8 3] 5)) := str_one w0 3
  have hc0 : w0.cell? ⟨w.heap.size, 0, none⟩ = some (.int .u8 3) := (HC.out _ (Below.refl _ _) 0).trans rfl
  have HB1 : Hid (Below w0.heap.size w0 w1) := Lib.hid (by rw [hw1]; exact (Below.refl _ _).alloc (Nat.le_refl _) _)
  go_upto_region 5 with fail
  rw [← hw1]
  clear hs1 hc0 hw1
  have hc0 : w1.cell? ⟨w.heap.size, 0, none⟩ = some (.int .u8 3) := (HC.out _ HB1.out 0).trans rfl
  have hc4 : w1.cell? ⟨w.heap.size, 4, none⟩ = some (.slice EA m mc) := (HC.out _ HB1.out 4).trans rfl
  have hes := (HM.out _ HB1.out).es
  have HI : Hid (es.length = m ∧ m ≤ 500 ∧ (∀ y ∈ es, y.1.length ≤ 255) ∧ ∀ y ∈ es, y.2.2.length = 32) := Lib.hid ⟨hes.len, by have h1 := hes.len; have h2 := HS.out.es; simp only at h1 h2; omega, HS.out.nm, (HM.out _ HB1.out).wf.es⟩
  have hcv := IntWalk.u64_in (m : Int) (by have := HI.out.2.1; omega)
  have hp2 := rput_num m (by have := HI.out.2.1; omega) w1
  obtain ⟨P1, hP1⟩ : ∃ P1, P1 = put m := ⟨_, rfl⟩
  obtain ⟨PR, hPR⟩ : ∃ PR, PR = [3] ++ P1 := ⟨_, rfl⟩
  rw [← hP1] at hp2
  have HPRE : Hid (PR = put 3 ++ put m ∧ PR.length ≤ 40) := Lib.hid ⟨by rw [hPR, hP1, put_l3], by rw [hPR, hP1]; have := put_length_64 (x := m) (by have := HI.out.2.1; omega); simp; omega⟩
  have HP : Hid (([3] : List UInt8).length + P1.length ≤ 1000000000 ∧ PR = [3] ++ P1) := Lib.hid ⟨by rw [hP1]; have := put_length_64 (x := m) (by have := HI.out.2.1; omega); simp; omega, hPR⟩
  have hzn := zero_nn
  obtain ⟨ZE, hZE⟩ : ∃ ZE, ZE = zeroEn := ⟨_, rfl⟩
  rw [← hZE] at hzn
  have HZE : Hid (ZE.size = 34) := Lib.hid (by rw [hZE, zeroEn_en, enV_size (by simp)])
  clear hP1 hPR hes hZE
  go_upto_region 9 with (first
    | (refine wpList_cat (o := ⟨some 35, _, _, _, _, _⟩) (by rfl) (.tmp 29) (.tmp 34) (by rfl) [3] P1 (by rfl) (by rfl) HP.out.1 HP.out.2 ?_)
    | (go_at_call 25; refine hp2.mono ?_; clear hp2; rintro _ w2 ⟨rfl, hb2⟩))
  have HB2 := Lib.hid (HB1.out.trans (hb2.mono HB1.out.size))
  have HOI : Hid (RpE w2 PR es (.string (st PR)) (.int .i64 0) w2) := Lib.hid ⟨0, Nat.zero_le _, rfl, by simp [ensB], Below.refl _ _⟩
  clear hc0 hc4 hcv hb2
  go_wp2_with fail
  go_loopw [5, 6] (fun v i9 wr => RpE w2 PR es v i9 wr) (fun _ i9 _ => m - (intOf i9).toNat)
  case atStart => exact HOI.out
  case round =>
    obtain ⟨j, hj, rfl, rfl, hbel⟩ := hrel
    have HK := Lib.hid hbel
    have HK0 := Lib.hid (HB2.out.trans (hbel.mono HB2.out.size))
    have hc4 : wr.cell? ⟨w.heap.size, 4, none⟩ = some (.slice EA m mc) := (HC.out _ HK0.out 4).trans rfl
    clear hbel HOI
    obtain ⟨T9, hT9⟩ : ∃ T9, T9 = PR ++ ensB (es.take j) := ⟨_, rfl⟩
    rw [← hT9]
    have htk := ens_take (l := es) (by have := HI.out.1; have := HI.out.2.1; omega) HI.out.2.2.1 HI.out.2.2.2 j
    have HT9 : Hid (T9 = PR ++ ensB (es.take j) ∧ T9.length ≤ 300000) := Lib.hid ⟨hT9, by rw [hT9, List.length_append]; have := HPRE.out.2; omega⟩
    clear hT9 htk
    by_cases hlt : j < m
    · have hlt' : (j : Int) < (m : Int) := by omega
      have hadd := IntWalk.i64_in ((j : Int) + 1) (by have := HI.out.2.1; omega)
      obtain ⟨q, off, y, hEA, _, hqlt, hy, h32, hcs⟩ := (HM.out _ HK0.out).es.at_ hlt
      simp only at hEA hy
      subst hEA
      obtain ⟨YS, hYS⟩ : ∃ YS, YS = enV y := ⟨_, rfl⟩
      rw [← hYS] at hcs
      have HYS : Hid (YS = enV y ∧ YS.size = 34 ∧ (∀ (j_1 : Nat) (v : Value), YS[j_1]? = some v → wr.cell? ((⟨q, off + j * 34, none⟩ : Addr).add j_1) = some v) ∧ YS.all (·.oneCell') = true) := Lib.hid ⟨hYS, by rw [hYS, enV_size h32], fun a v hv => by rw [add_plain]; exact hcs a v hv, by rw [hYS]; exact enV_all y⟩
      obtain ⟨P1, hP1⟩ : ∃ P1, P1 = put y.1.length ++ y.1 := ⟨_, rfl⟩
      obtain ⟨YB, hYB⟩ : ∃ YB, YB = yesB y.2.1 := ⟨_, rfl⟩
      have hyl := HI.out.2.2.1 y (List.mem_of_getElem? hy)
      have HY : Hid (es[j]? = some y ∧ y.2.2.length = 32 ∧ j < m) := Lib.hid ⟨hy, h32, hlt⟩
      obtain ⟨X7, hX7⟩ : ∃ X7, X7 = P1 ++ YB := ⟨_, rfl⟩
      obtain ⟨X8, hX8⟩ : ∃ X8, X8 = X7 ++ y.2.2 := ⟨_, rfl⟩
      obtain ⟨X9, hX9⟩ : ∃ X9, X9 = T9 ++ X8 := ⟨_, rfl⟩
      have HXS : Hid (X7 = P1 ++ YB ∧ X8 = X7 ++ y.2.2 ∧ X9 = T9 ++ X8 ∧ X9 = T9 ++ enB y) := Lib.hid ⟨hX7, hX8, hX9, by rw [hX9, hX8, hX7, hP1, hYB]; simp [enB]⟩
      have HLEN : Hid (P1.length ≤ 275 ∧ YB.length = 1 ∧ y.2.2.length = 32 ∧ T9.length ≤ 300000 ∧ X7.length = P1.length + YB.length ∧ X8.length = X7.length + y.2.2.length) := Lib.hid ⟨by rw [hP1, List.length_append]; have := put_length_64 (x := y.1.length) (by omega); omega, by rw [hYB]; cases y.2.1 <;> rfl, h32, HT9.out.2, by rw [hX7, List.length_append], by rw [hX8, List.length_append]⟩
      have HW1 : Hid (∀ W, Calls Tryd.prog 24 #[.string (st y.1)] W fun e w' => e = .returned (.string (st P1)) ∧ Below W.heap.size W w') := Lib.hid fun W => by rw [hP1]; exact rwith y.1 W (by omega)
      have HYB : Hid (∀ W, Calls Tryd.prog 26 #[.bool y.2.1] W fun e w' => e = .returned (.string (st YB)) ∧ W = w') := Lib.hid fun W => by rw [hYB]; exact ryes y.2.1 W
      clear hy h32 hcs hlt hj hYS hP1 hYB hyl hX7 hX8 hX9
      go_upto_region 13 with (first
        | (refine wpList_load_at (by rfl) 62 (.tmp 46) (by rfl) ⟨q, off + j * 34, none⟩ (by rfl) YS _ HYS.out.2.2.1 Tryd.underlying62 (by rfl) (by rw [HYS.out.2.1]; exact nn_info) ?_)
        | (refine wpList_store_row (by rfl) 62 (.tmp 7) (.tmp 47) (by rfl) wr.heap.size YS (by rfl) (by rfl) 62 _ (heap_alloc_new wr _) (by rw [HYS.out.2.1]; exact nn_info) (by rw [HYS.out.2.1, HZE.out]) HYS.out.2.2.2 ?_))
      have hal : Below wr.heap.size wr ((wr.alloc (.cells ZE 62)).setRow wr.heap.size YS) := below_setRow ((Below.refl _ _).alloc (Nat.le_refl _) _) (Nat.le_refl _) _
      have hpa : ((wr.alloc (.cells ZE 62)).setRow wr.heap.size YS).heap[wr.heap.size]? = some (.cells YS 62 (0, 0)) := setRow_at (heap_alloc_new wr _)
      have HE5 : Hid (Below w2.heap.size w2 ((wr.alloc (.cells ZE 62)).setRow wr.heap.size YS) ∧ ((wr.alloc (.cells ZE 62)).setRow wr.heap.size YS).heap[wr.heap.size]? = some (.cells YS 62 (0, 0))) := Lib.hid ⟨HK.out.trans (hal.mono HK.out.size), hpa⟩
      clear hal hpa hzn hc4
      generalize (wr.alloc (.cells ZE 62)).setRow wr.heap.size YS = w5 at *
      generalize wr.heap.size = e0 at *
      have HE0 : Hid (∀ W, Below w5.drew.heap.size w5.drew W → W.cell? ⟨e0, 0, none⟩ = some (.string (st y.1)) ∧ W.cell? ⟨e0, 1, none⟩ = some (.bool y.2.1) ∧ Byt W (fun _ => True) (some ⟨e0, 2, none⟩) 32 32 y.2.2) := Lib.hid fun W hW => by
        have hr : W.heap[e0]? = some (.cells YS 62 (0, 0)) := ((Grow.below_of_drew hW).block e0 (lt_of_cells HE5.out.2)).trans HE5.out.2
        exact ⟨by rw [cell_of_cells hr, HYS.out.1]; exact enV_0 y, by rw [cell_of_cells hr, HYS.out.1]; exact enV_1 y, byt_id trivial (lt_of_cells hr) HY.out.2.1 fun a v hv => by rw [cell_of_cells hr, HYS.out.1]; exact enV_id hv⟩
      have HBG : Hid (∀ W, Below w5.drew.heap.size w5.drew W → Below w2.heap.size w2 W) := Lib.hid fun W hW => HE5.out.1.trans ((Grow.below_of_drew hW).mono HE5.out.1.size)
      refine wp_region_grow (fun W W' => Below W.heap.size W W') (Grow.nth [fun v _ => v = .string (st T9), fun v _ => v = .pointer (some ⟨e0, 0, none⟩), fun v _ => v = .string (st y.1), fun v _ => v = .string (st P1), fun v _ => v = .pointer (some ⟨e0, 1, none⟩), fun v _ => v = .bool y.2.1, fun v _ => v = .string (st YB), fun v _ => v = .string (st X7), fun v _ => v = .pointer (some ⟨e0, 2, none⟩), fun v _ => v = .slice (some ⟨e0, 2, none⟩) 32 32, fun v _ => v = .string (st y.2.2), fun v _ => v = .string (st X8), fun v _ => v = .string (st X9), fun v _ => v = .string (st X9)]) 101 (by kernel_rfl) (by kernel_rfl) (by rfl) (fun W => Below.refl _ W) (fun _ _ _ h1 h2 => h1.trans (h2.mono h1.size)) (Grow.mono_nth ?gmono) ?gsteps ?gfin
      case gmono => exact ⟨fun _ _ _ h _ => h, fun _ _ _ h _ => h, fun _ _ _ h _ => h, fun _ _ _ h _ => h, fun _ _ _ h _ => h, fun _ _ _ h _ => h, fun _ _ _ h _ => h, fun _ _ _ h _ => h, fun _ _ _ h _ => h, fun _ _ _ h _ => h, fun _ _ _ h _ => h, fun _ _ _ h _ => h, fun _ _ _ h _ => h, fun _ _ _ h _ => h, trivial⟩
      case gsteps =>
        show Grow.allBelow _ 14
        refine And.intro ?_ ?s13
        refine And.intro ?_ ?s12
        refine And.intro ?_ ?s11
        refine And.intro ?_ ?s10
        refine And.intro ?_ ?s9
        refine And.intro ?_ ?s8
        refine And.intro ?_ ?s7
        refine And.intro ?_ ?s6
        refine And.intro ?_ ?s5
        refine And.intro ?_ ?s4
        refine And.intro ?_ ?s3
        refine And.intro ?_ ?s2
        refine And.intro ?_ ?s1
        refine And.intro ?_ ?s0
        exact trivial
        case s0 =>
          refine Grow.step_in (by rfl) (by rfl) ?_
          intro E W ec eg ef hG hd hu R HR
          have e5 : E (.tmp 5) = .string (st T9) := hu 5 (by kernel_rfl)
          clear hd hu
          go_simp
          exact HR.out _ _ (Below.refl _ _) rfl
        case s1 =>
          refine Grow.step_in (by rfl) (by rfl) ?_
          intro E W ec eg ef hG hd hu R HR
          have e7 : E (.tmp 7) = .pointer (some ⟨e0, 0, none⟩) := hu 7 (by kernel_rfl)
          clear hd hu
          go_simp
          exact HR.out _ _ (Below.refl _ _) rfl
        case s2 =>
          refine Grow.step_in (by rfl) (by rfl) ?_
          intro E W ec eg ef hG hd hu R HR
          have e49 : E (.tmp 49) = .pointer (some ⟨e0, 0, none⟩) := hd 1 49 (by kernel_rfl)
          clear hd hu
          have k1 := (HE0.out W hG).1
          go_simp
          exact HR.out _ _ (Below.refl _ _) rfl
        case s3 =>
          refine Grow.step_in (by rfl) (by rfl) ?_
          intro E W ec eg ef hG hd hu R HR
          have e50 : E (.tmp 50) = .string (st y.1) := hd 2 50 (by kernel_rfl)
          clear hd hu
          have hcc := HW1.out W
          go_simp
          refine hcc.mono ?_
          rintro _ _ ⟨rfl, hbb⟩
          exact ⟨_, rfl, HR.out _ _ hbb rfl⟩
        case s4 =>
          refine Grow.step_in (by rfl) (by rfl) ?_
          intro E W ec eg ef hG hd hu R HR
          have e7 : E (.tmp 7) = .pointer (some ⟨e0, 0, none⟩) := hu 7 (by kernel_rfl)
          clear hd hu
          go_simp
          exact HR.out _ _ (Below.refl _ _) rfl
        case s5 =>
          refine Grow.step_in (by rfl) (by rfl) ?_
          intro E W ec eg ef hG hd hu R HR
          have e52 : E (.tmp 52) = .pointer (some ⟨e0, 1, none⟩) := hd 4 52 (by kernel_rfl)
          clear hd hu
          have k1 := (HE0.out W hG).2.1
          go_simp
          exact HR.out _ _ (Below.refl _ _) rfl
        case s6 =>
          refine Grow.step_in (by rfl) (by rfl) ?_
          intro E W ec eg ef hG hd hu R HR
          have e53 : E (.tmp 53) = .bool y.2.1 := hd 5 53 (by kernel_rfl)
          clear hd hu
          have hcc := HYB.out W
          go_simp
          refine hcc.mono ?_
          rintro _ _ ⟨rfl, rfl⟩
          exact ⟨_, rfl, HR.out _ _ (Below.refl _ _) rfl⟩
        case s7 =>
          refine Grow.step_in (by rfl) (by rfl) ?_
          intro E W ec eg ef hG hd hu R HR
          have e51 : E (.tmp 51) = .string (st P1) := hd 3 51 (by kernel_rfl)
          have e54 : E (.tmp 54) = .string (st YB) := hd 6 54 (by kernel_rfl)
          clear hd hu
          have s1 := st_size P1
          have s2 := st_size YB
          have hsum := HLEN.out
          go_simp
          rw [if_neg (by omega), st_app, ← HXS.out.1]
          exact HR.out _ _ (Below.refl _ _) rfl
        case s8 =>
          refine Grow.step_in (by rfl) (by rfl) ?_
          intro E W ec eg ef hG hd hu R HR
          have e7 : E (.tmp 7) = .pointer (some ⟨e0, 0, none⟩) := hu 7 (by kernel_rfl)
          clear hd hu
          go_simp
          exact HR.out _ _ (Below.refl _ _) rfl
        case s9 =>
          refine Grow.step_in (by rfl) (by rfl) ?_
          intro E W ec eg ef hG hd hu R HR
          have e56 : E (.tmp 56) = .pointer (some ⟨e0, 2, none⟩) := hd 8 56 (by kernel_rfl)
          clear hd hu
          go_simp
          exact HR.out _ _ (Below.refl _ _) rfl
        case s10 =>
          refine Grow.step_in (by rfl) (by rfl) ?_
          intro E W ec eg ef hG hd hu R HR
          have e57 : E (.tmp 57) = .slice (some ⟨e0, 2, none⟩) 32 32 := hd 9 57 (by kernel_rfl)
          clear hd hu
          have hcv := byt_string (S := fun _ => True) (HE0.out W hG).2.2
          go_simp
          exact HR.out _ _ (Below.refl _ _) rfl
        case s11 =>
          refine Grow.step_in (by rfl) (by rfl) ?_
          intro E W ec eg ef hG hd hu R HR
          have e55 : E (.tmp 55) = .string (st X7) := hd 7 55 (by kernel_rfl)
          have e58 : E (.tmp 58) = .string (st y.2.2) := hd 10 58 (by kernel_rfl)
          clear hd hu
          have s1 := st_size X7
          have s2 := st_size y.2.2
          have hsum := HLEN.out
          go_simp
          rw [if_neg (by omega), st_app, ← HXS.out.2.1]
          exact HR.out _ _ (Below.refl _ _) rfl
        case s12 =>
          refine Grow.step_in (by rfl) (by rfl) ?_
          intro E W ec eg ef hG hd hu R HR
          have e48 : E (.tmp 48) = .string (st T9) := hd 0 48 (by kernel_rfl)
          have e59 : E (.tmp 59) = .string (st X8) := hd 11 59 (by kernel_rfl)
          clear hd hu
          have s1 := st_size T9
          have s2 := st_size X8
          have hsum := HLEN.out
          go_simp
          rw [if_neg (by omega), st_app, ← HXS.out.2.2.1]
          exact HR.out _ _ (Below.refl _ _) rfl
        case s13 =>
          refine Grow.step_in (by rfl) (by rfl) ?_
          intro E W ec eg ef hG hd hu R HR
          have e60 : E (.tmp 60) = .string (st X9) := hd 12 60 (by kernel_rfl)
          clear hd hu
          go_simp
          exact HR.out _ _ (Below.refl _ _) rfl
      case gfin =>
        intro W hG
        refine Grow.fin_dst (by rfl) ?_
        rintro _ rfl
        refine Grow.fin_dst (by rfl) ?_
        rintro _ rfl
        refine Grow.fin_dst (by rfl) ?_
        rintro _ rfl
        refine Grow.fin_dst (by rfl) ?_
        rintro _ rfl
        refine Grow.fin_dst (by rfl) ?_
        rintro _ rfl
        refine Grow.fin_dst (by rfl) ?_
        rintro _ rfl
        refine Grow.fin_dst (by rfl) ?_
        rintro _ rfl
        refine Grow.fin_dst (by rfl) ?_
        rintro _ rfl
        refine Grow.fin_dst (by rfl) ?_
        rintro _ rfl
        refine Grow.fin_dst (by rfl) ?_
        rintro _ rfl
        refine Grow.fin_dst (by rfl) ?_
        rintro _ rfl
        refine Grow.fin_dst (by rfl) ?_
        rintro _ rfl
        refine Grow.fin_dst (by rfl) ?_
        rintro _ rfl
        refine Grow.fin_dst (by rfl) ?_
        rintro _ rfl
        simp only [Act.put, List.setIfInBounds_toArray, List.set_cons_zero, List.set_cons_succ]
        refine Grow.fin_end ?_
        have HB7 := Lib.hid (HBG.out _ hG)
        have HT8 : Hid (X9 = T9 ++ enB y) := Lib.hid HXS.out.2.2.2
        clear hG
        go_wp2_with fail
        go_roundw
        case rel =>
          unfold RpE
          refine ⟨j + 1, by have := HY.out.2.2; have := HI.out.1; omega, by simp, ?_, HB7.out⟩
          rw [ens_succ HY.out.1, ← List.append_assoc, ← HT9.out.1, HT8.out]
        case measure => have := HY.out.2.2; simp only [intOf]; omega
    · have hlt' : ¬ (j : Int) < (m : Int) := by omega
      have hfull : es.take j = es := List.take_of_length_le (by have := HI.out.1; omega)
      have HT : Hid (T9 = PR ++ ensB es) := Lib.hid (by have := HT9.out.1; rwa [hfull] at this)
      clear hfull hlt hj HT9
      go_wp2_with fail
      go_ret2
      exact ⟨by rw [HPO.out.1, HPO.out.2]; rw [HT.out, HPRE.out.1, ← HI.out.1]; rfl, HB0.out.1.trans (HK0.out.mono HB0.out.1.size)⟩
set_option maxHeartbeats 16000000 in
set_option maxRecDepth 100000 in
theorem rput4 {w : World} {S : Nat → Prop} {p : At} {x : Ob} (h : Ois w S p x) (hpe : p.e ≤ 100000000) (h0 : chkO x = 0) (hk : x.k = 4) :
    Calls Tryd.prog 10 #[.agg (omV p x)] w (RpPost w x) := by
  have hbl : Below w.heap.size w (w.alloc (.cells (omV p x) 37)) := (Below.refl _ _).alloc (Nat.le_refl _) _
  have hck := rchk_any (h.below hbl) hpe
  have hnew := heap_alloc_new w (.cells (omV p x) 37)
  rw [h0] at hck
  have hs := may_small (chk_may h0)
  have HPO : Hid (chkO x = 0 ∧ poB x = putO x) := Lib.hid ⟨h0, by unfold poB; rw [if_pos h0]⟩
  have HH := Lib.hid h
  clear h h0 hpe
  obtain ⟨A, n, c, IA, i, ic, EA, m, mc⟩ := p
  obtain ⟨k, b, z, ids, es, lb⟩ := x
  simp only at hk
  subst hk
  obtain ⟨CS, hCS⟩ : ∃ CS, CS = omV ⟨A, n, c, IA, i, ic, EA, m, mc⟩ ⟨4, b, z, ids, es, lb⟩ := ⟨_, rfl⟩
  rw [← hCS] at hbl hck hnew ⊢
  have HCS := Lib.hid hCS
  have HS := Lib.hid hs
  have HX := Lib.hid (And.intro hbl hnew)
  clear hbl hnew hCS hs
  go_enter Tryd.func10, Tryd.ntmps10
  go_upto_region 4 with (first
    | (refine wpList_load_row (by rfl) 37 (.tmp 1) (by rfl) w.heap.size (by rfl) 37 CS (0, 0) _ HX.out.2 Tryd.underlying37 (by rfl) (by rw [HCS.out]; exact om_info) ?_)
    | (go_at_call 13; refine hck.mono ?_; clear hck; rintro _ w0 ⟨rfl, hb0⟩))
  have HB0 : Hid (Below w.heap.size w w0 ∧ w.heap.size < w0.heap.size) := Lib.hid ⟨HX.out.1.trans (hb0.mono HX.out.1.size), Nat.lt_of_lt_of_le (lt_of_cells HX.out.2) hb0.size⟩
  have HC : Hid (∀ W, Below w0.heap.size w0 W → ∀ j, W.cell? ⟨w.heap.size, j, none⟩ = (omV ⟨A, n, c, IA, i, ic, EA, m, mc⟩ ⟨4, b, z, ids, es, lb⟩)[j]?) := Lib.hid fun W hW j => by
    have h1 := (hb0.block w.heap.size (lt_of_cells HX.out.2)).trans HX.out.2
    have h2 := (hW.block w.heap.size (lt_of_cells h1)).trans h1
    rw [cell_of_cells h2, HCS.out]
  have HM : Hid (∀ W, Below w0.heap.size w0 W → Ois W S ⟨A, n, c, IA, i, ic, EA, m, mc⟩ ⟨4, b, z, ids, es, lb⟩) := Lib.hid fun W hW => HH.out.below (HB0.out.1.trans (hW.mono HB0.out.1.size))
  clear hb0
  obtain ⟨w1, hw1⟩ : ∃ w1, w1 = w0.alloc (.cells #[.int .u8 4] 5) := ⟨_, rfl⟩
  have hs1 : (convert 22 9 (.slice (some ⟨w0.heap.size, 0, none⟩) 1 1)).run Tryd.prog (w0.alloc (.cells #[.int .u8 4] 5)) = .ok (.string (st [4])) (w0.alloc (.cells #[.int .u8 4] 5)) := str_one w0 4
  have hc0 : w0.cell? ⟨w.heap.size, 0, none⟩ = some (.int .u8 4) := (HC.out _ (Below.refl _ _) 0).trans rfl
  have HB1 : Hid (Below w0.heap.size w0 w1) := Lib.hid (by rw [hw1]; exact (Below.refl _ _).alloc (Nat.le_refl _) _)
  go_upto_region 5 with fail
  rw [← hw1]
  clear hs1 hc0 hw1
  have hc0 : w1.cell? ⟨w.heap.size, 0, none⟩ = some (.int .u8 4) := (HC.out _ HB1.out 0).trans rfl
  have hc2 : w1.cell? ⟨w.heap.size, 2, none⟩ = some (.int .u64 (z : Int)) := (HC.out _ HB1.out 2).trans rfl
  have hwf := (HM.out _ HB1.out).wf.z
  have HI : Hid (ids.length = i ∧ i ≤ 1000 ∧ z < 18446744073709551616) := Lib.hid ⟨(HM.out _ HB1.out).ids.len, by have h1 := (HM.out _ HB1.out).ids.len; have h2 := HS.out.ids; simp only at h1 h2; omega, hwf⟩
  have hp2 := rput_num z hwf w1
  obtain ⟨P1, hP1⟩ : ∃ P1, P1 = put z := ⟨_, rfl⟩
  obtain ⟨PR, hPR⟩ : ∃ PR, PR = [4] ++ P1 := ⟨_, rfl⟩
  rw [← hP1] at hp2
  have HPRE : Hid (PR = put 4 ++ put z ∧ PR.length ≤ 40) := Lib.hid ⟨by rw [hPR, hP1, put_l4], by rw [hPR, hP1]; have := put_length_64 (x := z) hwf; simp; omega⟩
  have HP : Hid (([4] : List UInt8).length + P1.length ≤ 1000000000 ∧ PR = [4] ++ P1) := Lib.hid ⟨by rw [hP1]; have := put_length_64 (x := z) hwf; simp; omega, hPR⟩
  clear hP1 hPR hwf
  go_upto_region 16 with (first
    | (refine wpList_cat (o := ⟨some 66, _, _, _, _, _⟩) (by rfl) (.tmp 62) (.tmp 65) (by rfl) [4] P1 (by rfl) (by rfl) HP.out.1 HP.out.2 ?_)
    | (go_at_call 25; refine hp2.mono ?_; clear hp2; rintro _ w2 ⟨rfl, hb2⟩))
  have HB2 := Lib.hid (HB1.out.trans (hb2.mono HB1.out.size))
  clear hc0 hc2 hb2
  have hc0 : w2.cell? ⟨w.heap.size, 0, none⟩ = some (.int .u8 4) := (HC.out _ HB2.out 0).trans rfl
  have HOI : Hid (RpI w2 PR ids (.string (st PR)) (.int .i64 0) w2) := Lib.hid ⟨0, Nat.zero_le _, rfl, by simp, Below.refl _ _⟩
  go_wp2_with fail
  clear hc0
  go_loopw [5, 8] (fun v i9 wr => RpI w2 PR ids v i9 wr) (fun _ i9 _ => i - (intOf i9).toNat)
  case atStart => exact HOI.out
  case round =>
    obtain ⟨j, hj, rfl, rfl, hbel⟩ := hrel
    have HK := Lib.hid hbel
    have HK0 := Lib.hid (HB2.out.trans (hbel.mono HB2.out.size))
    have hc3 : wr.cell? ⟨w.heap.size, 3, none⟩ = some (.slice IA i ic) := (HC.out _ HK0.out 3).trans rfl
    clear hbel HOI
    obtain ⟨T9, hT9⟩ : ∃ T9, T9 = PR ++ (ids.take j).flatten := ⟨_, rfl⟩
    rw [← hT9]
    have htk := ids_take (l := ids) (by have := HI.out.1; have := HI.out.2.1; omega) (HM.out _ HK0.out).wf.ids j
    have HT9 : Hid (T9 = PR ++ (ids.take j).flatten ∧ T9.length ≤ 100000) := Lib.hid ⟨hT9, by rw [hT9, List.length_append]; have := HPRE.out.2; omega⟩
    clear hT9 htk
    by_cases hlt : j < i
    · have hlt' : (j : Int) < (i : Int) := by omega
      have hadd := IntWalk.i64_in ((j : Int) + 1) (by have := HI.out.2.1; omega)
      obtain ⟨g, off, hIA, hglt, h32, hcs⟩ := (HM.out _ HK0.out).ids.at_ hlt
      simp only at hIA
      subst hIA
      have hy : ids[j]? = some (ids[j]?.getD []) := by
        rw [List.getElem?_eq_getElem (by have := HI.out.1; omega)]
        rfl
      generalize ids[j]?.getD [] = y at *
      have hcv : (convert 22 9 (.slice (some ⟨g, off + j * 32, none⟩) 32 32)).run Tryd.prog wr = .ok (.string (st y)) wr := byt_string (S := fun _ => True) (byt_id trivial hglt h32 fun a v hv => by have := hcs a v hv; rwa [add_plain] at this)
      obtain ⟨T8, hT8⟩ : ∃ T8, T8 = T9 ++ y := ⟨_, rfl⟩
      have HY : Hid (ids[j]? = some y ∧ y.length = 32 ∧ j < i ∧ T8 = T9 ++ y) := Lib.hid ⟨hy, h32, hlt, hT8⟩
      clear hy h32 hcs hlt hj hT8
      go_wp2_with (refine wpList_cat (o := ⟨some 91, _, _, _, _, _⟩) (by rfl) (.tmp 84) (.tmp 90) (by rfl) T9 y (by rfl) (by rfl) (by have := HT9.out.2; have := HY.out.2.1; omega) HY.out.2.2.2 ?_)
      go_roundw
      case rel =>
        unfold RpI
        refine ⟨j + 1, by have := HY.out.2.2.1; have := HI.out.1; omega, by simp, ?_, HK.out⟩
        rw [ids_succ HY.out.1, ← List.append_assoc, ← HT9.out.1, HY.out.2.2.2]
      case measure => have := HY.out.2.2.1; simp only [intOf]; omega
    · have hlt' : ¬ (j : Int) < (i : Int) := by omega
      have hfull : ids.take j = ids := List.take_of_length_le (by have := HI.out.1; omega)
      have HT : Hid (T9 = PR ++ ids.flatten ∧ T9.length ≤ 100000) := Lib.hid ⟨by have := HT9.out.1; rwa [hfull] at this, HT9.out.2⟩
      clear hfull hlt hj HT9
      have hc0 : wr.cell? ⟨w.heap.size, 0, none⟩ = some (.int .u8 4) := (HC.out _ HK0.out 0).trans rfl
      have hc5 : wr.cell? ⟨w.heap.size, 5, none⟩ = some (.string (st lb)) := (HC.out _ HK0.out 5).trans rfl
      have hlb := HS.out.lb
      simp only at hlb
      have hwi := rwith lb wr (by omega)
      obtain ⟨P5, hP5⟩ : ∃ P5, P5 = put lb.length ++ lb := ⟨_, rfl⟩
      obtain ⟨P6, hP6⟩ : ∃ P6, P6 = T9 ++ P5 := ⟨_, rfl⟩
      rw [← hP5] at hwi
      have HP6 : Hid (P6 = putO ⟨4, b, z, ids, es, lb⟩ ∧ T9.length + P5.length ≤ 1000000000 ∧ P6 = T9 ++ P5) := Lib.hid ⟨by rw [hP6, hP5, HT.out.1, HPRE.out.1]; rfl, by rw [hP5, List.length_append]; have := HT.out.2; have := put_length_64 (x := lb.length) (by omega); omega, hP6⟩
      clear hP5 hP6 hlb
      go_wp2_with (first
        | (refine wpList_cat (o := ⟨some 99, _, _, _, _, _⟩) (by rfl) (.tmp 95) (.tmp 98) (by rfl) T9 P5 (by rfl) (by rfl) HP6.out.2.1 HP6.out.2.2 ?_)
        | (go_at_call 24; refine hwi.mono ?_; clear hwi; rintro _ w6 ⟨rfl, hb6⟩))
      go_ret2
      exact ⟨by rw [HPO.out.1, HPO.out.2, ← HP6.out.1]; rfl, HB0.out.1.trans ((HK0.out.trans (hb6.mono HK0.out.size)).mono HB0.out.1.size)⟩
theorem rput_any {w : World} {S : Nat → Prop} {p : At} {x : Ob} (h : Ois w S p x) (hpe : p.e ≤ 100000000) :
    Calls Tryd.prog 10 #[.agg (omV p x)] w (RpPost w x) := by
  by_cases h0 : chkO x = 0
  · rcases may_cases (chk_may h0) with h1 | h1 | h1 | h1
    · exact rput1 h hpe h0 h1.1
    · exact rput2 h hpe h0 h1.1
    · exact rput3 h hpe h0 h1.1
    · exact rput4 h hpe h0 h1.1
  · exact rput_bad h hpe h0
end Go.Proofs.YtmakpjcgiiljfaaDoor
