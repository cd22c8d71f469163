/-
  Objects: the laws' example.
  Objects: the laws' small.
  Objects: an object that came in.
  What the listed variables hold (utf8's tables, which no walk reads): the list, the start of a witness.
-/
import Derived.Test.YtmakpjcgiiljfaaDoorPk07
import Derived.Test.YtmakpjcgiiljfaaDoorPk10
import Derived.Test.YtmakpjcgiiljfaaDoorPk14
import Derived.Test.YtmakpjcgiiljfaaDoorPk06
import Derived.Test.YtmakpjcgiiljfaaDoorPk01
import Derived.Deep.Strs
import Derived.ChangeSame
import Derived.Test.YtmakpjcgiiljfaaDoorRows
import Derived.ProofKit
import Derived.LaidMore
import Derived.OpenShut
import Derived.Lay
import Derived.SevenTiedAt
import Derived.Stop.Joined
/-! Objects: the laws' example. -/
namespace Go.Proofs.YtmakpjcgiiljfaaDoor
open Go.RowKit Codec

def oyO : Ob := ⟨1, [120], 0, [], [], []⟩
theorem oy_wf : oyO.Wf := ⟨by decide, by decide, (fun _ h => by cases h), (fun _ h => by cases h)⟩
theorem oy_chk : chkO oyO = 0 := by decide +kernel
theorem oy_put : poB oyO = [1, 1, 120] := by
  unfold poB
  rw [if_pos oy_chk]
  unfold putO oyO
  rw [if_pos rfl, put_small (by decide), put_small (by decide)]
  rfl
theorem oy_get : getO (poB oyO) = (oyO, 0) := by
  rw [show poB oyO = putO oyO by unfold poB; rw [if_pos oy_chk]]
  exact obj_get_put oy_wf oy_chk
theorem oy_bad : getO [9] = (obZ, 11) := by
  have h1 : (readO [9]).2.1 = 11 := by decide +kernel
  unfold getO endO
  rw [if_pos (by rw [h1]; decide), h1]
def oyS : Ob := ⟨4, [], 0, [oneId], [], []⟩
theorem obyt_filled {w' : World} {q m n : Nat} {l : List UInt8} (h : w'.heap[q]? = some (.cells (u8s l).toArray 5 (0, 0))) (hl : l.length = n) (hn : n ≤ 1000000) (hm : m ≤ q) : Byt w' (m ≤ ·) (some ⟨q, 0, none⟩) n n l := by
  obtain ⟨h1, h2, h3, h4⟩ := byt_whole h (by omega)
  subst hl
  refine ⟨h1, h2, h3, fun h0 => ?_⟩
  obtain ⟨b, off, hA, _, hlt, hc⟩ := h4 h0
  injection hA with hA
  injection hA with e1 e2
  exact ⟨b, off, by rw [← e1, ← e2], by omega, hlt, hc⟩
set_option maxHeartbeats 8000000 in
set_option maxRecDepth 100000 in
theorem oawake_true (w : World) : Calls Tryd.prog 7 #[] w fun e w' => e = .returned (.bool true) ∧ Below w.heap.size w w' := by
  obtain ⟨w1, hcv, hce⟩ := conv_mark (P := Tryd.prog) (B := w.heap.size) (w.alloc (.cells #[.int .u8 120] 5)) 22 5 Tryd.underlying22 Tryd.underlying5 w.heap.size 1 1 (Nat.le_refl _)
  have hb1 : Below w.heap.size w w1 := ⟨hce.os, hce.tape, hce.output, by have := hce.size; simp at this; omega, fun k hk => (hce.block k (by simp; omega) hk).trans (Below.heap_alloc _ _ _ hk)⟩
  have hy1 : Byt w1 (w.heap.size ≤ ·) (some ⟨w.heap.size, 0, none⟩) 1 1 [120] := (obyt_filled (w' := w.alloc (.cells #[.int .u8 120] 5)) (l := [120]) (n := 1) (heap_alloc_new w _) rfl (by omega) (Nat.le_refl _)).cel hce
  have hob1 : Obm w1 (w.heap.size ≤ ·) ⟨some ⟨w.heap.size, 0, none⟩, 1, 1, none, 0, 0, none, 0, 0⟩ oyO := ⟨⟨oy_wf, by simp [oyO], (fun _ h => by cases h), by simp [oyO, maxLen], Ids.nil _ _ _ _ (Nat.zero_le _), Ens.nil _ _ _ _ (Nat.zero_le _)⟩, hy1⟩
  have hpt := oput_any hob1
  unfold OpPost at hpt
  rw [oy_chk, show obV ⟨some ⟨w.heap.size, 0, none⟩, 1, 1, none, 0, 0, none, 0, 0⟩ oyO = #[.int .u8 1, .slice (some ⟨w.heap.size, 0, none⟩) 1 1, .int .u64 0, .slice none 0 0, .slice none 0 0, .string ⟨#[]⟩] from rfl] at hpt
  have hzo := zero_ob
  have HB1 := Lib.hid hb1
  clear hb1 hy1 hob1 hce
  go_enter Tryd.func7, Tryd.ntmps7
  go_upto_region 2 with (go_at_call 9; refine hpt.mono ?_; clear hpt; rintro _ w2 ⟨A2, n2, c2, rfl, hy2, hb2⟩)
  have hc2 := byt_string hy2
  rw [oy_put] at hc2
  have hlen2 : n2 ≤ 140737488355328 := by rw [← hy2.len, oy_put]; simp
  have hgt := oget_any hy2 hlen2
  unfold OgPost at hgt
  rw [oy_get] at hgt
  have HB2 := Lib.hid (HB1.out.trans (hb2.mono HB1.out.size))
  have HY2 : Hid (Byt w2 (w.heap.size ≤ ·) A2 n2 c2 [1, 1, 120]) := Lib.hid (by rw [← oy_put]; exact hy2.mono fun k _ hk => Nat.le_trans HB1.out.size hk)
  clear hy2 hlen2 hb2 HB1
  have hgt2 : Calls Tryd.prog 14 #[.slice A2 n2 c2] w2 fun e w' => ∃ XO, Hid (∃ P, XO = obV P oyO ∧ Obm w' (w2.heap.size ≤ ·) P oyO) ∧ e = .returned (.tuple #[.agg XO, .int .i64 0]) ∧ Hid (Below w2.heap.size w2 w') := hgt.mono fun e w' ⟨P, h1, h2, h3⟩ => ⟨_, Lib.hid ⟨P, rfl, h2⟩, h1, Lib.hid h3⟩
  clear hgt hcv
  go_upto_region 3 with (first
    | (go_at_call 14; refine hgt2.mono ?_; clear hgt2; rintro _ w3 ⟨XO, HXO, rfl, HB3⟩; have HXS : Hid (XO.size = 6 ∧ XO.all (·.oneCell') = true) := (by obtain ⟨P, h1, _⟩ := HXO.out; exact Lib.hid ⟨by rw [h1]; rfl, by rw [h1]; exact obV_one _ _⟩))
    | (refine wpList_store_row (by rfl) 27 (.tmp 3) (.tmp 18) (by rfl) w3.heap.size XO (by rfl) (by rfl) 27 _ (heap_alloc_new w3 _) (by rw [HXS.out.1]; exact ob_info) (by rw [HXS.out.1]; rfl) HXS.out.2 ?_))
  have hal : Below w3.heap.size w3 ((w3.alloc (.cells #[.int .u8 0, .slice none 0 0, .int .u64 0, .slice none 0 0, .slice none 0 0, .string ⟨#[]⟩] 27)).setRow w3.heap.size XO) := below_setRow ((Below.refl _ _).alloc (Nat.le_refl _) _) (Nat.le_refl _) _
  have hpa : ((w3.alloc (.cells #[.int .u8 0, .slice none 0 0, .int .u64 0, .slice none 0 0, .slice none 0 0, .string ⟨#[]⟩] 27)).setRow w3.heap.size XO).heap[w3.heap.size]? = some (.cells XO 27 (0, 0)) := setRow_at (heap_alloc_new w3 _)
  obtain ⟨q3, hq3⟩ : ∃ q3, q3 = w3.heap.size := ⟨_, rfl⟩
  have H4 : Hid (Below w.heap.size w ((w3.alloc (.cells #[.int .u8 0, .slice none 0 0, .int .u64 0, .slice none 0 0, .slice none 0 0, .string ⟨#[]⟩] 27)).setRow q3 XO) ∧ Byt ((w3.alloc (.cells #[.int .u8 0, .slice none 0 0, .int .u64 0, .slice none 0 0, .slice none 0 0, .string ⟨#[]⟩] 27)).setRow q3 XO) (w.heap.size ≤ ·) A2 n2 c2 [1, 1, 120] ∧ ((w3.alloc (.cells #[.int .u8 0, .slice none 0 0, .int .u64 0, .slice none 0 0, .slice none 0 0, .string ⟨#[]⟩] 27)).setRow q3 XO).heap[q3]? = some (.cells XO 27 (0, 0)) ∧ (∃ P, XO = obV P oyO ∧ Obm ((w3.alloc (.cells #[.int .u8 0, .slice none 0 0, .int .u64 0, .slice none 0 0, .slice none 0 0, .string ⟨#[]⟩] 27)).setRow q3 XO) (w2.heap.size ≤ ·) P oyO)) := Lib.hid (by
    rw [hq3]
    have h3 := HB3.out.trans (hal.mono HB3.out.size)
    obtain ⟨P, e1, e2⟩ := HXO.out
    exact ⟨HB2.out.trans (h3.mono HB2.out.size), HY2.out.below h3, hpa, P, e1, e2.below hal⟩)
  rw [← hq3]
  clear hal hpa hq3 HXO HB3 HY2 hzo
  generalize (w3.alloc (.cells #[.int .u8 0, .slice none 0 0, .int .u64 0, .slice none 0 0, .slice none 0 0, .string ⟨#[]⟩] 27)).setRow q3 XO = w4 at *
  have hy9 : Byt (w4.alloc (.cells #[.int .u8 9] 5)) (w4.heap.size ≤ ·) (some ⟨w4.heap.size, 0, none⟩) 1 1 [9] := obyt_filled (l := [9]) (heap_alloc_new w4 _) rfl (by omega) (Nat.le_refl _)
  have hb9 : Below w4.heap.size w4 (w4.alloc (.cells #[.int .u8 9] 5)) := (Below.refl _ _).alloc (Nat.le_refl _) _
  have hg9 := oget_any hy9 (by omega)
  unfold OgPost at hg9
  rw [oy_bad] at hg9
  have hg5 : Calls Tryd.prog 14 #[.slice (some ⟨w4.heap.size, 0, none⟩) 1 1] (w4.alloc (.cells #[.int .u8 9] 5)) fun e w' => ∃ YO, Hid (YO.size = 6 ∧ YO.all (·.oneCell') = true) ∧ e = .returned (.tuple #[.agg YO, .int .i64 11]) ∧ Hid (Below w4.heap.size w4 w') := hg9.mono fun e w' ⟨P, h1, h2, h3⟩ => ⟨_, Lib.hid ⟨rfl, obV_one P obZ⟩, h1, Lib.hid (hb9.trans (h3.mono hb9.size))⟩
  have hzo := zero_ob
  clear hg9 hy9 hb9
  go_upto_region 4 with (first
    | (go_at_call 14; refine hg5.mono ?_; clear hg5; rintro _ w5 ⟨YO, HYS, rfl, HB5⟩)
    | (refine wpList_store_row (by rfl) 27 (.tmp 5) (.tmp 23) (by rfl) w5.heap.size YO (by rfl) (by rfl) 27 _ (heap_alloc_new w5 _) (by rw [HYS.out.1]; exact ob_info) (by rw [HYS.out.1]; rfl) HYS.out.2 ?_))
  have hal : Below w5.heap.size w5 ((w5.alloc (.cells #[.int .u8 0, .slice none 0 0, .int .u64 0, .slice none 0 0, .slice none 0 0, .string ⟨#[]⟩] 27)).setRow w5.heap.size YO) := below_setRow ((Below.refl _ _).alloc (Nat.le_refl _) _) (Nat.le_refl _) _
  have H6 : Hid (Below w4.heap.size w4 ((w5.alloc (.cells #[.int .u8 0, .slice none 0 0, .int .u64 0, .slice none 0 0, .slice none 0 0, .string ⟨#[]⟩] 27)).setRow w5.heap.size YO)) := Lib.hid (HB5.out.trans (hal.mono HB5.out.size))
  clear hal HB5
  generalize (w5.alloc (.cells #[.int .u8 0, .slice none 0 0, .int .u64 0, .slice none 0 0, .slice none 0 0, .string ⟨#[]⟩] 27)).setRow w5.heap.size YO = w6 at *
  have hb7 : Below w6.heap.size w6 (w6.alloc (.cells (row8 oneId) 49)) := (Below.refl _ _).alloc (Nat.le_refl _) _
  have hob : Obm (w6.alloc (.cells (row8 oneId) 49)) (w6.heap.size ≤ ·) ⟨none, 0, 0, some ⟨w6.heap.size, 0, none⟩, 1, 1, none, 0, 0⟩ oyS := ⟨⟨⟨by decide, by decide, by decide, (fun _ h => by cases h)⟩, by simp [oyS], (fun _ h => by cases h), by simp [oyS], ids_blk (l := [oneId]) (by rw [show (idsC [oneId]).toArray = row8 oneId by simp [idsC, row8]]; exact heap_alloc_new w6 _) (Nat.le_refl _) (by decide) (by decide), Ens.nil _ _ _ _ (Nat.zero_le _)⟩, Byt.nil _ _ _ _ (Nat.zero_le _)⟩
  have hbl := below_any hob (by decide) (by decide)
  have hbl2 : Calls Tryd.prog 17 #[.agg #[.int .u8 4, .slice none 0 0, .int .u64 0, .slice (some ⟨w6.heap.size, 0, none⟩) 1 1, .slice none 0 0, .string ⟨#[]⟩]] (w6.alloc (.cells (row8 oneId) 49)) fun e w' => ∃ A c, e = .returned (.slice A 1 c) ∧ Ids w' (fun _ => True) A 1 c [oneId] ∧ Below w6.heap.size w6 w' := hbl.mono fun e w' ⟨A, n, c, h1, h2, h3, h4⟩ => by
    have h5 : n = 1 := by rw [← h3]; rfl
    subst h5
    obtain ⟨A', c', e1, e2⟩ := own_ids h2 (l := [oneId]) (by decide)
    cases e1
    exact ⟨_, _, h1, e2.mono fun _ _ _ => trivial, hb7.trans (h4.mono hb7.size)⟩
  clear hbl hob hb7
  obtain ⟨IS, hIS⟩ : ∃ IS, IS = row8 oneId := ⟨_, rfl⟩
  have hlit := run_ids_lit w6 IS hIS (by decide)
  have hone := run_build_one w6
  rw [← hIS] at hbl2 hone
  have HIS : Hid (IS = row8 oneId ∧ IS.size = 32) := Lib.hid ⟨hIS, by rw [hIS]; exact row8_size _⟩
  clear hIS
  go_upto_region 5 with (first
    | (refine wpList_bld1 (by rfl) 49 (.const (.int .u8 1)) (by rfl) (by rfl) hone ?_)
    | (refine wpList_lit1 (by rfl) 24 (.tmp 25) (by rfl) (by rfl) hlit ?_)
    | (go_at_call 17; refine hbl2.mono ?_; clear hbl2; rintro _ w7 ⟨A7, c7, rfl, hi7, hb67⟩))
  have hb47 := H6.out.trans (hb67.mono H6.out.size)
  have HB7 := Lib.hid (H4.out.1.trans (hb47.mono H4.out.1.size))
  have hcb := byt_string (H4.out.2.1.below hb47)
  obtain ⟨P, e1, e2⟩ := H4.out.2.2.2
  have hxb := byt_string (e2.b.below hb47)
  have hcl : w7.cell? ⟨q3, 1, none⟩ = some (.slice P.A P.n P.c) := by
    rw [hb47.cell (p := ⟨q3, 1, none⟩) (lt_of_cells H4.out.2.2.1), cell_of_cells H4.out.2.2.1, e1]
    rfl
  obtain ⟨PA, Pn, Pc, _, _, _, _, _, _⟩ := P
  simp only at hxb hcl
  clear e1 e2
  obtain ⟨b7, o7, rfl, _, _, hc7⟩ := hi7.row (by decide)
  have HC7 : Hid (∀ (a : Nat) (v : Value), IS[a]? = some v → w7.cell? ((⟨b7, o7, none⟩ : Addr).add a) = some v) := Lib.hid fun a v hv => by
    have ha : a < 32 := by
      have := (Array.getElem?_eq_some_iff.1 hv).1
      rwa [HIS.out.2] at this
    have h := hc7 0 a (by decide) ha
    rw [add_plain, Nat.zero_mul, Nat.zero_add] at *
    rw [h, ← hv, HIS.out.1]
    unfold row8 u8s
    rw [List.getElem?_toArray, List.getElem?_map]
    have : ([oneId][0]?.getD []) = oneId := rfl
    rw [this, List.getElem?_eq_getElem (by simpa [oneId] using ha)]
    rfl
  have hq := fun W => id_eq2 oneId oneId (by decide) (by decide) 9998 W
  have hone7 := run_build_one w7
  rw [← HIS.out.1, decide_eq_true rfl] at hq
  rw [← HIS.out.1] at hone7
  clear hi7 hc7 hb67 hb47 H4 H6
  go_wp2_with (first
    | (refine wpList_load_at_on (by rfl) 49 (.tmp 57) (by rfl) ⟨b7, o7, none⟩ (by rfl) IS _ HC7.out Tryd.underlying49 (by rfl) (by rw [HIS.out.2]; exact id_info) ?_)
    | (refine wpList_bld1 (by rfl) 49 (.const (.int .u8 1)) (by rfl) (by rfl) hone7 ?_))
  go_ret
  exact ⟨rfl, HB7.out⟩
end Go.Proofs.YtmakpjcgiiljfaaDoor

/-! Objects: the laws' small. -/
namespace Go.Proofs.YtmakpjcgiiljfaaDoor
open Go.RowKit Codec

/-- What small tells. -/
def OsP (w : World) (x : Ob) (e : Ending) (w' : World) : Prop := ∃ B, e = .returned (.bool B) ∧ (B = true → x.ids.length ≤ 40 ∧ x.es.length ≤ 40) ∧ Below w.heap.size w w'
def RSm12 (w : World) (n : Nat) (z i : Value) (wr : World) : Prop :=
  ∃ (j : Nat) (s : Int), j ≤ n ∧ i = .int .i64 (j : Int) ∧ z = .int .i64 s ∧ Below w.heap.size w wr
set_option maxHeartbeats 8000000 in
set_option maxRecDepth 100000 in
theorem osmall_any {w : World} {S : Nat → Prop} {p : At} {x : Ob} (h : Obm w S p x) :
    Calls Tryd.prog 8 #[.agg (obV p x)] w fun e w' => OsP w x e w' := by
  obtain ⟨A, n, c, IA, i, ic, EA, m, mc⟩ := p
  obtain ⟨k, b, z, ids, es, lb⟩ := x
  have hil := h.o.ids.len
  have hel := h.o.es.len
  have hem := Nat.le_trans h.o.es.cap h.o.es.max
  simp only at hil hel hem ⊢
  have hsz := st_size lb
  have hbl : Below w.heap.size w (w.alloc (.cells (obV ⟨A, n, c, IA, i, ic, EA, m, mc⟩ ⟨k, b, z, ids, es, lb⟩) 27)) := (Below.refl _ _).alloc (Nat.le_refl _) _
  have HH := Lib.hid (And.intro (h.below hbl) (And.intro hil (And.intro hel (And.intro hem hbl))))
  have HCB : Hid (∀ W, Below (w.alloc (.cells (obV ⟨A, n, c, IA, i, ic, EA, m, mc⟩ ⟨k, b, z, ids, es, lb⟩) 27)).heap.size (w.alloc (.cells (obV ⟨A, n, c, IA, i, ic, EA, m, mc⟩ ⟨k, b, z, ids, es, lb⟩) 27)) W → W.cell? ⟨w.heap.size, 4, none⟩ = some (.slice EA m mc) ∧ W.cell? ⟨w.heap.size, 3, none⟩ = some (.slice IA i ic)) := Lib.hid fun W hW => by
    rw [hW.cell (p := ⟨w.heap.size, 4, none⟩) (lt_of_cells (heap_alloc_new w _)), cell_of_cells (heap_alloc_new w _), hW.cell (p := ⟨w.heap.size, 3, none⟩) (lt_of_cells (heap_alloc_new w _)), cell_of_cells (heap_alloc_new w _)]
    exact ⟨rfl, rfl⟩
  clear h hbl hil hel hem
  unfold obV at HCB HH ⊢
  simp only at HCB HH ⊢
  go_enter Tryd.func8, Tryd.ntmps8
  go_wp2_with fail
  go_loopw [3, 4] (fun zz ii wr => RSm12 (w.alloc (.cells #[.int .u8 (k : Int), .slice A n c, .int .u64 (z : Int), .slice IA i ic, .slice EA m mc, .string (st lb)] 27)) m zz ii wr) (fun _ ii _ => m - (intOf ii).toNat)
  case atStart => exact ⟨0, _, Nat.zero_le _, rfl, rfl, Below.refl _ _⟩
  case round =>
    obtain ⟨j, s, hj, rfl, rfl, hbel⟩ := hrel
    obtain ⟨hc4, hc3⟩ := HCB.out _ hbel
    by_cases hlt : j < m
    · have hlt' : (j : Int) < (m : Int) := by omega
      have hadd1 := IntWalk.i64_in ((j : Int) + 1) (by have h1 := HH.out.2.2.2.1; unfold maxLen at h1; omega)
      obtain ⟨g, off, y, hEA, _, hglt, hy, h32, hcs⟩ := HH.out.1.o.es.at_ hlt
      simp only at hEA
      subst hEA
      have hcl := (hbel.cell (p := ⟨g, off + j * 34, none⟩) hglt).trans (hcs 0 _ (enV_0 y))
      have hsy := st_size y.1
      have HR := Lib.hid (And.intro hbel hlt)
      clear hbel hj hlt hcs hy h32 hglt
      go_wp2_with fail
      go_roundw
      case rel => exact ⟨j + 1, _, by have := HR.out.2; omega, by simp, rfl, HR.out.1⟩
      case measure => simp only [intOf]; have h1 := HR.out.2; omega
    · have hlt' : ¬ (j : Int) < (m : Int) := by omega
      have HR := Lib.hid (HH.out.2.2.2.2.trans (hbel.mono HH.out.2.2.2.2.size))
      clear hbel hj hlt
      by_cases h8 : s ≤ 1000
      · by_cases hi4 : (i : Int) ≤ 40
        · by_cases he4 : (m : Int) ≤ 40
          · have H6 : Hid (ids.length ≤ 40 ∧ es.length ≤ 40) := Lib.hid (by have := HH.out.2.1; have := HH.out.2.2.1; omega)
            go_wp2_with fail
            go_ret
            exact ⟨true, rfl, fun _ => H6.out, HR.out⟩
          · go_wp2_with fail
            go_ret
            exact ⟨false, rfl, fun h => (by cases h), HR.out⟩
        · go_wp2_with fail
          go_ret
          exact ⟨false, rfl, fun h => (by cases h), HR.out⟩
      · go_wp2_with fail
        go_ret
        exact ⟨false, rfl, fun h => (by cases h), HR.out⟩
end Go.Proofs.YtmakpjcgiiljfaaDoor

/-! Objects: an object that came in. -/
namespace Go.Proofs.YtmakpjcgiiljfaaDoor
open Go.ChangeShapes Go.WideShapes Go.ChangeAt Go.RowKit Go.Deep
set_option maxRecDepth 100000

theorem obj_struct6 {H : Type} {enc : TypeId × Value → H} {P : Program} {w : World} {base : Nat} {spare : Nat → Bool} {held : Bool} {t : TypeId} {f0 f1 f2 f3 f4 f5 : Field} {fuel : Nat} {cs : List Value} {x : DataW H × List MemPlace} (ht : P.underlying t = some (.struct #[f0, f1, f2, f3, f4, f5])) (h : DataW.trod enc P w base spare held fuel t cs = some x) :
    ∃ y0 y1 y2 y3 y4 y5 n, DataW.trod enc P w base spare held n f0.type ((cs.drop f0.offset).take (P.cellsOf f0.type)) = some y0 ∧ DataW.trod enc P w base spare held n f1.type ((cs.drop f1.offset).take (P.cellsOf f1.type)) = some y1 ∧ DataW.trod enc P w base spare held n f2.type ((cs.drop f2.offset).take (P.cellsOf f2.type)) = some y2 ∧
      DataW.trod enc P w base spare held n f3.type ((cs.drop f3.offset).take (P.cellsOf f3.type)) = some y3 ∧ DataW.trod enc P w base spare held n f4.type ((cs.drop f4.offset).take (P.cellsOf f4.type)) = some y4 ∧ DataW.trod enc P w base spare held n f5.type ((cs.drop f5.offset).take (P.cellsOf f5.type)) = some y5 := by
  obtain ⟨xs, n, _, rfl, _, hlen, hf⟩ := DataW.trod_struct ht h
  match xs, hlen with
  | [y0, y1, y2, y3, y4, y5], _ => exact ⟨y0, y1, y2, y3, y4, y5, n, by simpa using hf 0 f0 rfl, by simpa using hf 1 f1 rfl, by simpa using hf 2 f2 rfl, by simpa using hf 3 f3 rfl, by simpa using hf 4 f4 rfl, by simpa using hf 5 f5 rfl⟩
theorem obj_bool {H : Type} {enc : TypeId × Value → H} {P : Program} {w : World} {base : Nat} {spare : Nat → Bool} {held : Bool} {t : TypeId} {fuel : Nat} {cs : List Value} {x : DataW H × List MemPlace} (ht : P.underlying t = some .bool) (h : DataW.trod enc P w base spare held fuel t cs = some x) : ∃ b : Bool, cs = [.bool b] := by
  cases fuel with
  | zero => simp [DataW.trod] at h
  | succ n =>
    unfold DataW.trod at h
    rw [ht] at h
    split at h <;> simp_all
theorem obj_st (s : ByteArray) : st s.data.toList = s := by
  show (⟨s.data.toList.toArray⟩ : ByteArray) = s
  rw [Array.toArray_toList]
set_option maxRecDepth 100000 in
/-- An entry's cells, as they came in. -/
theorem en_cells {w : World} {H : Type} {enc : TypeId × Value → H} {base : Nat} {held : Bool} {cs : List Value} {fuel : Nat} {x : DataW H × List MemPlace} (hl : cs.length = 34) (h : DataW.trod enc Tryd.prog w base (fun _ => true) held fuel 51 cs = some x) :
    ∃ y : En, cs = (enV y).toList ∧ y.2.2.length = 32 ∧ y.1.length ≤ maxLen := by
  have h3 : Tryd.prog.cellsOf 9 = 1 := by kernel_rfl
  have h1 : Tryd.prog.cellsOf 4 = 1 := by kernel_rfl
  have h8 : Tryd.prog.cellsOf 49 = 32 := by kernel_rfl
  obtain ⟨y0, y1, y2, n', _, _, t0, t1, t2⟩ := trod_struct3 Tryd.underlying51 h
  match cs, hl with
  | v0 :: v1 :: rest, hl =>
    have hr : rest.length = 32 := by simpa using hl
    simp only [h3, h8, h1] at t0 t1 t2
    have t2' : DataW.trod enc Tryd.prog w base (fun _ => true) held n' 49 rest = some y2 := by
      have e : ((v0 :: v1 :: rest).drop 2).take 32 = rest := by simp [List.take_of_length_le (Nat.le_of_eq hr)]
      rw [← e]
      exact t2
    obtain ⟨s, e0, _, hs⟩ := DataW.trod_string Tryd.underlying9 t0
    obtain ⟨b, e1⟩ := obj_bool Tryd.underlying4 t1
    simp at e0 e1
    subst e0 e1
    obtain ⟨q, hq, hql⟩ := arr_in (P := Tryd.prog) (w := w) (enc := enc) (base := base) (held := held) (cs := rest.toArray) Tryd.underlying49 Tryd.underlying5 (by kernel_rfl) (by kernel_rfl) ⟨_, by simpa [Value.cells] using t2'⟩
    have he2 : rest = u8s q := by
      have := congrArg Array.toList hq
      simpa [row8] using this
    refine ⟨(s.data.toList, b, q), ?_, hql, ?_⟩
    · rw [enV_list, obj_st, he2]
    · show s.data.toList.length ≤ maxLen
      rw [Array.length_toList]
      exact hs
set_option maxRecDepth 100000 in
theorem ens_in {w : World} {H : Type} {enc : TypeId × Value → H} {base : Nat} {spare : Nat → Bool} {held : Bool} {a : Option Addr} {len cap : Nat} {d : DataW H} {p : List MemPlace}
    (hs : spare = fun _ => true) (h : DataW.Trod enc Tryd.prog w base spare held 25 (.slice a len cap) d p) : ∃ l, Ens w (· < w.heap.size) a len cap l ∧ ∀ y ∈ l, y.1.length ≤ maxLen := by
  subst hs
  obtain ⟨fuel, hf⟩ := h
  rcases open_slice Tryd.underlying25 hf with ⟨hcs, _⟩ | ⟨x, l, c, m, n, D, Pl, hcs, _, hl, hm, hmm, _, hi⟩
  · simp [Value.cells] at hcs
    obtain ⟨rfl, rfl, rfl⟩ := hcs
    exact ⟨[], Ens.nil _ _ _ _ (Nat.zero_le _), fun _ h => by cases h⟩
  · simp [Value.cells] at hcs
    obtain ⟨rfl, rfl, rfl⟩ := hcs
    have hce : Tryd.prog.cellsOf 51 = 34 := by kernel_rfl
    rw [hce] at hi
    simp only [if_true] at hmm
    have one : ∀ i, ∃ y : En, i < len → (∀ (j : Nat) (v : Value), (enV y)[j]? = some v → w.cell? ((x.add (i * 34)).add j) = some v) ∧ y.2.2.length = 32 ∧ y.1.length ≤ maxLen := fun i => by
      by_cases him : i < len
      · obtain ⟨cs', hc, ht⟩ := hi i (by omega)
        obtain ⟨_, hcl, hat⟩ := World.cells?_some hc
        obtain ⟨y, rfl, hy, hn⟩ := en_cells hcl ht
        refine ⟨y, fun _ => ⟨fun j v hv => ?_, hy, hn⟩⟩
        have hj : j < 34 := by
          have := (Array.getElem?_eq_some_iff.1 hv).1
          rwa [enV_size hy] at this
        rw [hat j hj]
        simpa using hv
      · exact ⟨([], false, []), fun h => absurd h him⟩
    obtain ⟨f, hf⟩ := Classical.skolem.1 one
    refine ⟨(List.range len).map f, ⟨by simp, hl, hm, fun y hy => by obtain ⟨i, hi, rfl⟩ := List.mem_map.1 hy; exact (hf i (List.mem_range.1 hi)).2.1, fun h0 => ?_⟩, fun y hy => by obtain ⟨i, hi, rfl⟩ := List.mem_map.1 hy; exact (hf i (List.mem_range.1 hi)).2.2⟩
    obtain ⟨b, off, spot⟩ := x
    have hc0 := (hf 0 h0).1 0 _ (enV_0 _)
    have hspot : spot = none := by simpa [Addr.add] using World.cell?_spot hc0
    subst hspot
    have hlt := World.block_lt_of_cell? _ _ hc0
    rw [add_plain, add_plain] at hlt
    refine ⟨b, off, rfl, hlt, hlt, fun i q hq j v hv => ?_⟩
    have hil : i < len := by
      have := (List.getElem?_eq_some_iff.1 hq).1; simpa using this
    obtain rfl : f i = q := by simpa [hil] using hq
    have := (hf i hil).1 j v hv
    rwa [add_plain, add_plain] at this
theorem trod_shape {w : World} {H : Type} {enc : TypeId × Value → H} {base : Nat} {held : Bool} {n : Nat} {t e : TypeId} {v : Value} {y : DataW H × List MemPlace} (ht : Tryd.prog.underlying t = some (.slice e)) (h : DataW.trod enc Tryd.prog w base (fun _ => true) held n t [v] = some y) : ∃ A k c, v = .slice A k c := by
  rcases open_slice ht h with ⟨e, _⟩ | ⟨_, _, _, _, _, _, _, e, _⟩ <;> simp at e <;> exact ⟨_, _, _, e⟩
theorem okWide_obj {w : World} {r : Reach} {base : Nat} {v : Value} (h : Value.okWide Tryd.prog w r base 27 v) : ∃ cs, v = .agg cs ∧ cs.size = 6 := by
  have hc : Tryd.prog.cellsOf 27 = 6 := by kernel_rfl
  unfold Value.okWide at h
  simp only [Tryd.underlying27] at h
  obtain ⟨cs, h1, h2, _⟩ := h
  exact ⟨cs, h1, by rw [h2, hc]⟩
set_option maxRecDepth 100000 in
theorem obj_in {w : World} {H : Type} {enc : TypeId × Value → H} {base : Nat} {spare : Nat → Bool} {held : Bool} {cs : Array Value} {d : DataW H} {p : List MemPlace}
    (hsp : spare = fun _ => true) (hs : cs.size = 6) (h : DataW.Trod enc Tryd.prog w base spare held 27 (.agg cs) d p) : ∃ (P : At) (x : Ob), cs = obV P x ∧ Obm w (· < w.heap.size) P x := by
  subst hsp
  obtain ⟨fuel, hf⟩ := h
  obtain ⟨l, rfl⟩ : ∃ l : List Value, cs = l.toArray := ⟨cs.toList, by simp⟩
  have hf' : DataW.trod enc Tryd.prog w base (fun _ => true) held fuel 27 l = some (d, p) := by simpa [Value.cells] using hf
  have hl : l.length = 6 := by simpa using hs
  have c1 : Tryd.prog.cellsOf 5 = 1 := by kernel_rfl
  have c2 : Tryd.prog.cellsOf 22 = 1 := by kernel_rfl
  have c3 : Tryd.prog.cellsOf 23 = 1 := by kernel_rfl
  have c4 : Tryd.prog.cellsOf 24 = 1 := by kernel_rfl
  have c5 : Tryd.prog.cellsOf 25 = 1 := by kernel_rfl
  have c6 : Tryd.prog.cellsOf 9 = 1 := by kernel_rfl
  obtain ⟨y0, y1, y2, y3, y4, y5, n', t0, t1, t2, t3, t4, t5⟩ := obj_struct6 Tryd.underlying27 hf'
  match l, hl with
  | [v0, v1, v2, v3, v4, v5], _ =>
    simp only [c1, c2, c3, c4, c5, c6] at t0 t1 t2 t3 t4 t5
    obtain ⟨z0, e0, _, b0⟩ := DataW.trod_int Tryd.underlying5 t0
    obtain ⟨z2, e2, _, b2⟩ := DataW.trod_int Tryd.underlying23 t2
    obtain ⟨s, e5, _, hs5⟩ := DataW.trod_string Tryd.underlying9 t5
    simp at e0 e2 e5
    subst e0 e2 e5
    have t1' : DataW.trod enc Tryd.prog w base (fun _ => true) held n' 22 [v1] = some y1 := t1
    have t3' : DataW.trod enc Tryd.prog w base (fun _ => true) held n' 24 [v3] = some y3 := t3
    have t4' : DataW.trod enc Tryd.prog w base (fun _ => true) held n' 25 [v4] = some y4 := t4
    obtain ⟨A1, n1, k1, rfl⟩ := trod_shape Tryd.underlying22 t1'
    obtain ⟨A3, n3, k3, rfl⟩ := trod_shape Tryd.underlying24 t3'
    obtain ⟨A4, n4, k4, rfl⟩ := trod_shape Tryd.underlying25 t4'
    obtain ⟨bb, hb⟩ := bytes_in (enc := enc) (base := base) (held := held) (d := y1.1) (p := y1.2) rfl ⟨n', t1'⟩
    obtain ⟨ii, hi⟩ := ids_in (P := Tryd.prog) (enc := enc) (base := base) (held := held) (d := y3.1) (p := y3.2) Tryd.underlying24 Tryd.underlying49 Tryd.underlying5 (by kernel_rfl) (by kernel_rfl) rfl ⟨n', t3'⟩
    obtain ⟨ee, he, hn⟩ := ens_in (enc := enc) (base := base) (held := held) (d := y4.1) (p := y4.2) rfl ⟨n', t4'⟩
    have g0 := bounds_u8 b0
    have g2 := bounds_u64 b2
    obtain ⟨z0, rfl⟩ := Int.eq_ofNat_of_zero_le g0.1
    obtain ⟨z2, rfl⟩ := Int.eq_ofNat_of_zero_le g2.1
    refine ⟨⟨A1, n1, k1, A3, n3, k3, A4, n4, k4⟩, ⟨z0, bb, z2, ii, ee, s.data.toList⟩, ?_, ⟨⟨by show z0 < 256; omega, by show z2 < 18446744073709551616; omega, hi.each, he.each⟩, ?_, hn, ?_, hi.mono fun k hk _ => hk, he⟩, hb.mono fun k hk _ => hk⟩
    · unfold obV
      rw [obj_st]
    · show s.data.toList.length ≤ maxLen
      rw [Array.length_toList]
      exact hs5
    · show bb.length ≤ maxLen
      rw [hb.len]
      exact Nat.le_trans hb.cap hb.max
end Go.Proofs.YtmakpjcgiiljfaaDoor

/-! What the listed variables hold (utf8's tables, which no walk reads): the list, the start of a witness. -/
namespace Go.Proofs.YtmakpjcgiiljfaaDoor
open Go.ChangeShapes Go.WideShapes Go.ChangeAt Go.WideMaps Go.WideElems Go.RowKit

noncomputable def laidsU : List (String × DataW Unit) := [("unicode/utf8.acceptRanges", Rows.laid_unicode_utf8_acceptRanges), ("unicode/utf8.first", Rows.laid_unicode_utf8_first)]
theorem door_metU (os : Os) (args : Array Value) : laidMetH Tryd.prog laidsU ((World.laidAll Tryd.prog os laidsU).forCall (fun _ _ => 0) ⟨#[], args, []⟩).memory := by
  rw [MakeChecks.laidMetH_plain _ _ _ (by kernel_rfl)]
  exact laidMet_laidAll _ (by kernel_rfl) (by kernel_rfl)
end Go.Proofs.YtmakpjcgiiljfaaDoor
