/-
  The statement CodecReads: its walk.
-/
import Derived.Test.YtbdondgonghooaaReadsPure
import Derived.Test.YtbdondgonghooaaCodecAwake
import Derived.Test.YtbdondgonghooaaArrEq
import Derived.Test.YtbdondgonghooaaRegion
namespace Go.Proofs.Ytbdondgonghooaa
open Go.RowKit Codec

theorem row_stored {wa wx : World} {c0 RS : Array Value} {t : TypeId} (h : World.setRow (World.alloc wa (.cells c0 t)) wa.heap.size RS = wx) : Below wa.heap.size wa wx ∧ wx.heap[wa.heap.size]? = some (.cells RS t (0, 0)) := by
  subst h
  exact ⟨⟨rfl, rfl, rfl, by simp [World.setRow], fun i hi => (heap_setRow (by omega)).trans (heap_alloc_old _ _ hi)⟩, setRow_at (heap_alloc_new wa _)⟩

theorem row_stored2 {wb wy : World} {A : Obj} {c0 RS : Array Value} {t : TypeId} (h : World.setRow (World.alloc (World.alloc wb A) (.cells c0 t)) (wb.heap.size + 1) RS = wy) : Below wb.heap.size wb wy ∧ wy.heap[wb.heap.size]? = some A ∧ wy.heap[wb.heap.size + 1]? = some (.cells RS t (0, 0)) := by
  subst h
  exact ⟨⟨rfl, rfl, rfl, by simp [World.setRow]; omega, fun i hi => (heap_setRow (by omega)).trans ((heap_alloc_old _ _ (by simp; omega)).trans (heap_alloc_old _ _ hi))⟩,
    (heap_setRow (by omega)).trans ((heap_alloc_old _ _ (by simp)).trans (heap_alloc_new _ _)), setRow_at (heap_alloc2_new wb A _)⟩
theorem set_two_else {X : World} {g i : Nat} {u v : Value} {o : Option Obj} (hi : i ≠ g) (h : X.heap[i]? = o) : ((X.setCell ⟨g, 0, none⟩ u).setCell ⟨g, 1, none⟩ v).heap[i]? = o :=
  ((Below.heap_setCell _ _ _ _ hi).trans (Below.heap_setCell _ _ _ _ hi)).trans h

set_option linter.unusedSimpArgs false
set_option maxHeartbeats 20000000 in
set_option maxRecDepth 100000 in
theorem walk_reads {w : World} {A B : Option Addr} {n c n2 c2 : Nat} {l0 : List UInt8} {acts : List (Int × Int)} (h : Byt w (fun _ => True) A n c l0) (ha : Acts w B n2 c2 acts) :
    Calls Try.prog 3 #[.slice A n c, .slice B n2 c2] w fun e w' => e = .returned (.bool true) ∧ Below w.heap.size w w' := by
  by_cases hn : n ≤ 600
  · have HLEN := Lib.hid ha.len
    have HA := Lib.hid ha
    have HL0 := Lib.hid h.len
    clear ha
    go_enter Try.func3, Try.ntmps3
    go_wp2_with fail
    refine (awake_true _).mono ?_
    rintro _ w1 ⟨rfl, hb1⟩
    go_wp2_with fail
    refine (newReader (h.below hb1) (by omega)).mono ?_
    rintro _ w2 ⟨q, rfl, hR2, hb2⟩
    have hb2 := hb1.trans (hb2.mono hb1.size)
    have hcv := byt_string (h.below hb2)
    rw [show (⟨l0.toArray⟩ : ByteArray) = strB l0 from rfl] at hcv
    have hR2 := hR2.mono (T := fun b => w.heap.size ≤ b ∧ b < w2.heap.size) fun b hb hs => ⟨Nat.le_trans hb1.size hs, hb⟩
    have hq := hR2.1
    clear hb1 h
    go_wp2_with fail
    go_loopw [8] (fun i wr => ∃ (k : Nat) (l m : List UInt8) (e : Int), k ≤ n2 ∧ i = .int .i64 k ∧ Pair w w2 wr q w2.heap.size l m e) (fun i _ => n2 - (intOf i).toNat)
    case atStart => exact ⟨0, l0, l0, 0, Nat.zero_le _, rfl, hb2.alloc hb2.size _, hR2.turned (T := fun _ => False) ((Turned.refl _ _).alloc _) (fun _ _ _ hf => hf), heap_alloc_new _ _, fun _ => rfl, by rw [HL0.out]; exact hn⟩
    case round =>
      obtain ⟨k, l, m, e, hk, rfl, hP⟩ := hrel
      by_cases hlt : k < n2 ∧ k < 40
      · obtain ⟨b, off, hA, hblt, hc⟩ := HA.out.row (by omega)
        subst hA
        obtain ⟨hlt, hlt40⟩ := hlt
        obtain ⟨⟨zk, zn⟩, hz⟩ : ∃ p, acts[k]? = some p := ⟨_, List.getElem?_eq_getElem (by rw [HLEN.out]; exact hlt)⟩
        obtain ⟨c0, c1⟩ := hc k _ hz
        have c0 := (hP.below.cell (p := ⟨_, _, none⟩) hblt).trans c0
        have c1 := (hP.below.cell (p := ⟨_, _, none⟩) hblt).trans c1
        have HW := Lib.hid (HA.out.wf _ (List.mem_of_getElem? hz))
        have HPP := Lib.hid hP
        clear hc hz hP
        go_wp2_with fail
        · have hP0 := HPP.out.later ((Below.refl _ wr).alloc (Nat.le_refl _) (.cells #[.int .i64 zk, .int .i64 zn] 31))
          have hact := heap_alloc_new wr (.cells #[.int .i64 zk, .int .i64 zn] 31)
          generalize World.alloc wr _ = W0 at *
          obtain ⟨a1, a2, a3⟩ := alike_ui hP0.alike
          have hcl := fun w => ref_uint m e w
          simp only [a1, a2] at hcl
          refine (uint_any hP0.rd).mono ?_
          rintro _ wa ⟨rfl, hRa, hga⟩
          obtain ⟨hba, hva⟩ := hP0.read (Nat.le_refl _) hga
          obtain ⟨v0, v1, _, _⟩ := var_facts hva
          clear a1 a2
          go_wp2_with fail
          refine (hcl _).mono ?_
          rintro _ wb ⟨m', rfl, hm', hbb⟩
          have hlb := Nat.le_trans (uiL_length l e) HPP.out.len
          have hvb := (hbb.block _ (Array.getElem?_eq_some_iff.1 hva).1).trans hva
          have hRb := hRa.below hbb
          have hbw := hba.trans (hbb.mono hba.size)
          have hal := fun h => (hm' h).trans (a3 h)
          have HVB := Lib.hid hvb
          have HBW := Lib.hid hbw
          have HRB := Lib.hid hRb
          obtain ⟨v0, v1, f0, f1⟩ := var_facts hvb
          have hgs := (Array.getElem?_eq_some_iff.1 hvb).1
          have HGS := Lib.hid hgs
          have hne := Nat.ne_of_lt hgs
          clear hva hba hRa hga hP0 hact hcl hm' a3 hvb hRb hbw hbb
          unfold RV
          go_wp2_with fail
          generalize hWC : World.alloc (World.setCell (World.setCell _ _ _) _ _) _ = WC
          have hPC : Pair w w2 WC q w2.heap.size (uiL l e) m' (uiE l e) := by rw [← hWC]; exact (pair_put HBW.out HRB.out HVB.out hb2.size (Nat.le_refl _) hal hlb).later ((Below.refl _ _).alloc (Nat.le_refl _) _)
          clear hWC
          have hEnd := alike_end hPC.alike
          have hRC := hPC.rd.drew
          have hPD := hPC.later (Below.refl _ WC).drew
          obtain ⟨x0, x1, _, _⟩ := var_facts hPD.var
          have hre := fun w => ref_end m' (uiE l e) w
          simp only [hEnd] at hre
          clear hPC hEnd
          go_wp2_with fail
          refine wp_region_plan (fun W => W.cell? ⟨w2.heap.size, 0, none⟩ = some (.string (strB m')) ∧ W.cell? ⟨w2.heap.size, 1, none⟩ = some (.int .i64 (uiE l e))) [([0, 2, 3], 1), ([4, 5, 6, 8], 7), ([], 9)] [10, 11] (by kernel_rfl) (by kernel_rfl) (fun _ _ d _ _ h => by cases d <;> exact h) ⟨x0, x1⟩ ?_
          refine plan_eff ?_
          refine seg_read ?v1 (by rfl) (by rfl) ?h1 ?_
          case h1 => intro W hW; obtain ⟨y0, y1⟩ := hW; go_simp; with_reducible rfl
          try simp only [Act.put, List.setIfInBounds_toArray, List.set_cons_zero, List.set_cons_succ]
          refine seg_read ?v2 (by rfl) (by rfl) ?h2 ?_
          case h2 => intro W hW; obtain ⟨y0, y1⟩ := hW; go_simp; with_reducible rfl
          try simp only [Act.put, List.setIfInBounds_toArray, List.set_cons_zero, List.set_cons_succ]
          refine seg_read ?v3 (by rfl) (by rfl) ?h3 ?_
          case h3 => intro W hW; obtain ⟨y0, y1⟩ := hW; go_simp; with_reducible rfl
          try simp only [Act.put, List.setIfInBounds_toArray, List.set_cons_zero, List.set_cons_succ]
          refine seg_nil ?_
          refine eff_step (by rfl) (fun K hK => ?_)
          go_simp
          refine (err_rd hRC).mono ?_
          rintro _ _ ⟨rfl, rfl⟩
          refine hK _ _ ⟨_, ⟨x0, x1⟩, fun W e => e, ?_⟩
          clear hK K
          refine plan_eff ?_
          refine seg_read ?v4 (by rfl) (by rfl) ?h4 ?_
          case h4 => intro W hW; obtain ⟨y0, y1⟩ := hW; go_simp; with_reducible rfl
          try simp only [Act.put, List.setIfInBounds_toArray, List.set_cons_zero, List.set_cons_succ]
          refine seg_read ?v5 (by rfl) (by rfl) ?h5 ?_
          case h5 => intro W hW; obtain ⟨y0, y1⟩ := hW; go_simp; with_reducible rfl
          try simp only [Act.put, List.setIfInBounds_toArray, List.set_cons_zero, List.set_cons_succ]
          refine seg_read ?v6 (by rfl) (by rfl) ?h6 ?_
          case h6 => intro W hW; obtain ⟨y0, y1⟩ := hW; go_simp; with_reducible rfl
          try simp only [Act.put, List.setIfInBounds_toArray, List.set_cons_zero, List.set_cons_succ]
          refine seg_read ?v7 (by rfl) (by rfl) ?h7 ?_
          case h7 => intro W hW; obtain ⟨y0, y1⟩ := hW; go_simp; with_reducible rfl
          try simp only [Act.put, List.setIfInBounds_toArray, List.set_cons_zero, List.set_cons_succ]
          refine seg_nil ?_
          refine eff_step (by rfl) (fun K hK => ?_)
          go_simp
          refine (end_rd hRC).mono ?_
          rintro _ _ ⟨rfl, rfl⟩
          refine hK _ _ ⟨_, ⟨x0, x1⟩, fun W e => e, ?_⟩
          clear hK K
          refine plan_eff ?_
          refine seg_nil ?_
          refine eff_step (by rfl) (fun K hK => ?_)
          go_simp
          refine (hre _).mono ?_
          rintro _ wd ⟨rfl, hbd⟩
          have hPE := hPD.later hbd
          obtain ⟨z0, z1, _, _⟩ := var_facts hPE.var
          refine hK _ _ ⟨fun W => W = wd, rfl, fun W e => e ▸ ⟨z0, z1⟩, ?_⟩
          clear hK K
          refine plan_last ?_
          repeat (refine seg_step (by rfl) (fun K hK => ?_); go_simp; refine hK _ ?_; clear hK K)
          refine seg_nil ?_
          go_wp2_with fail
          go_roundw
          case rel => exact ⟨k + 1, _, _, _, by omega, by go_num, hPE⟩
          case measure => simp [intOf]; omega
        · have hP0 := HPP.out.later ((Below.refl _ wr).alloc (Nat.le_refl _) (.cells #[.int .i64 zk, .int .i64 zn] 31))
          have hact := heap_alloc_new wr (.cells #[.int .i64 zk, .int .i64 zn] 31)
          generalize World.alloc wr _ = W0 at *
          obtain ⟨a1, a2, a3⟩ := alike_ui hP0.alike
          have hcl := fun w => ref_uint m e w
          simp only [a1, a2] at hcl
          refine (uint_any hP0.rd).mono ?_
          rintro _ wa ⟨rfl, hRa, hga⟩
          obtain ⟨hba, hva⟩ := hP0.read (Nat.le_refl _) hga
          obtain ⟨v0, v1, _, _⟩ := var_facts hva
          clear a1 a2
          go_wp2_with fail
          refine (hcl _).mono ?_
          rintro _ wb ⟨m', rfl, hm', hbb⟩
          have hlb := Nat.le_trans (uiL_length l e) HPP.out.len
          have hvb := (hbb.block _ (Array.getElem?_eq_some_iff.1 hva).1).trans hva
          have hRb := hRa.below hbb
          have hbw := hba.trans (hbb.mono hba.size)
          have hal := fun h => (hm' h).trans (a3 h)
          have HVB := Lib.hid hvb
          have HBW := Lib.hid hbw
          have HRB := Lib.hid hRb
          obtain ⟨v0, v1, f0, f1⟩ := var_facts hvb
          have hgs := (Array.getElem?_eq_some_iff.1 hvb).1
          have HGS := Lib.hid hgs
          have hne := Nat.ne_of_lt hgs
          clear hva hba hRa hga hP0 hact hcl hm' a3 hvb hRb hbw hbb
          unfold RV
          go_wp2_with fail
          generalize hWC : World.alloc (World.setCell (World.setCell _ _ _) _ _) _ = WC
          have hPC : Pair w w2 WC q w2.heap.size (uiL l e) m' (uiE l e) := by rw [← hWC]; exact (pair_put HBW.out HRB.out HVB.out hb2.size (Nat.le_refl _) hal hlb).later ((Below.refl _ _).alloc (Nat.le_refl _) _)
          clear hWC
          have hEnd := alike_end hPC.alike
          have hRC := hPC.rd.drew
          have hPD := hPC.later (Below.refl _ WC).drew
          obtain ⟨x0, x1, _, _⟩ := var_facts hPD.var
          have hre := fun w => ref_end m' (uiE l e) w
          simp only [hEnd] at hre
          clear hPC hEnd
          go_wp2_with fail
          refine wp_region_plan (fun W => W.cell? ⟨w2.heap.size, 0, none⟩ = some (.string (strB m')) ∧ W.cell? ⟨w2.heap.size, 1, none⟩ = some (.int .i64 (uiE l e))) [([0, 2, 3], 1), ([4, 5, 6, 8], 7), ([], 9)] [10, 11] (by kernel_rfl) (by kernel_rfl) (fun _ _ d _ _ h => by cases d <;> exact h) ⟨x0, x1⟩ ?_
          refine plan_eff ?_
          refine seg_read ?v8 (by rfl) (by rfl) ?h8 ?_
          case h8 => intro W hW; obtain ⟨y0, y1⟩ := hW; go_simp; with_reducible rfl
          try simp only [Act.put, List.setIfInBounds_toArray, List.set_cons_zero, List.set_cons_succ]
          refine seg_read ?v9 (by rfl) (by rfl) ?h9 ?_
          case h9 => intro W hW; obtain ⟨y0, y1⟩ := hW; go_simp; with_reducible rfl
          try simp only [Act.put, List.setIfInBounds_toArray, List.set_cons_zero, List.set_cons_succ]
          refine seg_read ?v10 (by rfl) (by rfl) ?h10 ?_
          case h10 => intro W hW; obtain ⟨y0, y1⟩ := hW; go_simp; with_reducible rfl
          try simp only [Act.put, List.setIfInBounds_toArray, List.set_cons_zero, List.set_cons_succ]
          refine seg_nil ?_
          refine eff_step (by rfl) (fun K hK => ?_)
          go_simp
          refine (err_rd hRC).mono ?_
          rintro _ _ ⟨rfl, rfl⟩
          refine hK _ _ ⟨_, ⟨x0, x1⟩, fun W e => e, ?_⟩
          clear hK K
          refine plan_eff ?_
          refine seg_read ?v11 (by rfl) (by rfl) ?h11 ?_
          case h11 => intro W hW; obtain ⟨y0, y1⟩ := hW; go_simp; with_reducible rfl
          try simp only [Act.put, List.setIfInBounds_toArray, List.set_cons_zero, List.set_cons_succ]
          refine seg_read ?v12 (by rfl) (by rfl) ?h12 ?_
          case h12 => intro W hW; obtain ⟨y0, y1⟩ := hW; go_simp; with_reducible rfl
          try simp only [Act.put, List.setIfInBounds_toArray, List.set_cons_zero, List.set_cons_succ]
          refine seg_read ?v13 (by rfl) (by rfl) ?h13 ?_
          case h13 => intro W hW; obtain ⟨y0, y1⟩ := hW; go_simp; with_reducible rfl
          try simp only [Act.put, List.setIfInBounds_toArray, List.set_cons_zero, List.set_cons_succ]
          refine seg_read ?v14 (by rfl) (by rfl) ?h14 ?_
          case h14 => intro W hW; obtain ⟨y0, y1⟩ := hW; go_simp; with_reducible rfl
          try simp only [Act.put, List.setIfInBounds_toArray, List.set_cons_zero, List.set_cons_succ]
          refine seg_nil ?_
          refine eff_step (by rfl) (fun K hK => ?_)
          go_simp
          refine (end_rd hRC).mono ?_
          rintro _ _ ⟨rfl, rfl⟩
          refine hK _ _ ⟨_, ⟨x0, x1⟩, fun W e => e, ?_⟩
          clear hK K
          refine plan_eff ?_
          refine seg_nil ?_
          refine eff_step (by rfl) (fun K hK => ?_)
          go_simp
          refine (hre _).mono ?_
          rintro _ wd ⟨rfl, hbd⟩
          have hPE := hPD.later hbd
          obtain ⟨z0, z1, _, _⟩ := var_facts hPE.var
          refine hK _ _ ⟨fun W => W = wd, rfl, fun W e => e ▸ ⟨z0, z1⟩, ?_⟩
          clear hK K
          refine plan_last ?_
          repeat (refine seg_step (by rfl) (fun K hK => ?_); go_simp; refine hK _ ?_; clear hK K)
          refine seg_nil ?_
          go_wp2_with fail
          go_roundw
          case rel => exact ⟨k + 1, _, _, _, by omega, by go_num, hPE⟩
          case measure => simp [intOf]; omega
        · have hP0 := HPP.out.later ((Below.refl _ wr).alloc (Nat.le_refl _) (.cells #[.int .i64 zk, .int .i64 zn] 31))
          have hact := heap_alloc_new wr (.cells #[.int .i64 zk, .int .i64 zn] 31)
          generalize World.alloc wr _ = W0 at *
          have hwb := bounds_i64 HW.out
          have hl9 := HPP.out.len
          obtain ⟨a1, a2, a3⟩ := alike_by zn hP0.alike
          have hcl := fun w => ref_bytes m e zn w HW.out
          simp only [a1, a2] at hcl
          refine (bytes_any (most := zn) hP0.rd (by omega) (by omega)).mono ?_
          rintro _ wa ⟨Ay, ny, cy, rfl, hYy, hRa, hga, _⟩
          obtain ⟨hba, hva⟩ := hP0.read (Nat.le_refl _) hga
          obtain ⟨v0, v1, _, _⟩ := var_facts hva
          have hwr := HPP.out.lt
          have hqq := hP0.rd.1
          have hva9 := (hga.block _ (Array.getElem?_eq_some_iff.1 hact).1 (by intro e; injection e; have := hqq.2; omega)).trans hact
          obtain ⟨p0, p1, _, _⟩ := var_facts hva9
          have hw0 := (Array.getElem?_eq_some_iff.1 hact).1
          clear a1 a2
          go_wp2_with fail
          refine (hcl _).mono ?_
          rintro _ wb ⟨m', rfl, hm', hbb⟩
          have hlb := Nat.le_trans (byL_len l e zn) HPP.out.len
          have hal := fun h => (hm' h).trans (a3 h)
          have hcv := byt_string (((hYy.below hbb).turned (((Turned.refl (fun b => b = w2.heap.size) wb).set rfl 0 (.string (strB m'))).set rfl 1 (.int .i64 (byE l e zn))) (fun b _ hs e => by have e : b = w2.heap.size := e; have hs : W0.heap.size ≤ b := hs; omega)).alloc (.cells #[.string (strB m'), .int .i64 (byE l e zn)] 29))
          rw [show (⟨(byB l e zn).toArray⟩ : ByteArray) = strB (byB l e zn) from rfl] at hcv
          have hvb := (hbb.block _ (Array.getElem?_eq_some_iff.1 hva).1).trans hva
          have hRb := hRa.below hbb
          have hbw := hba.trans (hbb.mono hba.size)
          have HVB := Lib.hid hvb
          have HBW := Lib.hid hbw
          have HRB := Lib.hid hRb
          obtain ⟨v0, v1, f0, f1⟩ := var_facts hvb
          have hgs := (Array.getElem?_eq_some_iff.1 hvb).1
          have hne := Nat.ne_of_lt hgs
          clear hva hba hRa hga hP0 hact hcl hm' a3 hvb hRb hbw hbb hYy hva9 p0 p1 hqq hwb
          unfold RV
          go_wp2_with fail
          generalize hWC : World.alloc (World.setCell (World.setCell _ _ _) _ _) _ = WC
          have hPC : Pair w w2 WC q w2.heap.size (byL l e zn) m' (byE l e zn) := by rw [← hWC]; exact (pair_put HBW.out HRB.out HVB.out hb2.size (Nat.le_refl _) hal hlb).later ((Below.refl _ _).alloc (Nat.le_refl _) _)
          clear hWC
          have hEnd := alike_end hPC.alike
          have hRC := hPC.rd.drew
          have hPD := hPC.later (Below.refl _ WC).drew
          obtain ⟨x0, x1, _, _⟩ := var_facts hPD.var
          have hre := fun w => ref_end m' (byE l e zn) w
          simp only [hEnd] at hre
          clear hPC hEnd
          go_wp2_with fail
          refine wp_region_plan (fun W => W.cell? ⟨w2.heap.size, 0, none⟩ = some (.string (strB m')) ∧ W.cell? ⟨w2.heap.size, 1, none⟩ = some (.int .i64 (byE l e zn))) [([0, 2, 3], 1), ([4, 5, 6, 8], 7), ([], 9)] [10, 11] (by kernel_rfl) (by kernel_rfl) (fun _ _ d _ _ h => by cases d <;> exact h) ⟨x0, x1⟩ ?_
          refine plan_eff ?_
          refine seg_read ?v15 (by rfl) (by rfl) ?h15 ?_
          case h15 => intro W hW; obtain ⟨y0, y1⟩ := hW; go_simp; with_reducible rfl
          try simp only [Act.put, List.setIfInBounds_toArray, List.set_cons_zero, List.set_cons_succ]
          refine seg_read ?v16 (by rfl) (by rfl) ?h16 ?_
          case h16 => intro W hW; obtain ⟨y0, y1⟩ := hW; go_simp; with_reducible rfl
          try simp only [Act.put, List.setIfInBounds_toArray, List.set_cons_zero, List.set_cons_succ]
          refine seg_read ?v17 (by rfl) (by rfl) ?h17 ?_
          case h17 => intro W hW; obtain ⟨y0, y1⟩ := hW; go_simp; with_reducible rfl
          try simp only [Act.put, List.setIfInBounds_toArray, List.set_cons_zero, List.set_cons_succ]
          refine seg_nil ?_
          refine eff_step (by rfl) (fun K hK => ?_)
          go_simp
          refine (err_rd hRC).mono ?_
          rintro _ _ ⟨rfl, rfl⟩
          refine hK _ _ ⟨_, ⟨x0, x1⟩, fun W e => e, ?_⟩
          clear hK K
          refine plan_eff ?_
          refine seg_read ?v18 (by rfl) (by rfl) ?h18 ?_
          case h18 => intro W hW; obtain ⟨y0, y1⟩ := hW; go_simp; with_reducible rfl
          try simp only [Act.put, List.setIfInBounds_toArray, List.set_cons_zero, List.set_cons_succ]
          refine seg_read ?v19 (by rfl) (by rfl) ?h19 ?_
          case h19 => intro W hW; obtain ⟨y0, y1⟩ := hW; go_simp; with_reducible rfl
          try simp only [Act.put, List.setIfInBounds_toArray, List.set_cons_zero, List.set_cons_succ]
          refine seg_read ?v20 (by rfl) (by rfl) ?h20 ?_
          case h20 => intro W hW; obtain ⟨y0, y1⟩ := hW; go_simp; with_reducible rfl
          try simp only [Act.put, List.setIfInBounds_toArray, List.set_cons_zero, List.set_cons_succ]
          refine seg_read ?v21 (by rfl) (by rfl) ?h21 ?_
          case h21 => intro W hW; obtain ⟨y0, y1⟩ := hW; go_simp; with_reducible rfl
          try simp only [Act.put, List.setIfInBounds_toArray, List.set_cons_zero, List.set_cons_succ]
          refine seg_nil ?_
          refine eff_step (by rfl) (fun K hK => ?_)
          go_simp
          refine (end_rd hRC).mono ?_
          rintro _ _ ⟨rfl, rfl⟩
          refine hK _ _ ⟨_, ⟨x0, x1⟩, fun W e => e, ?_⟩
          clear hK K
          refine plan_eff ?_
          refine seg_nil ?_
          refine eff_step (by rfl) (fun K hK => ?_)
          go_simp
          refine (hre _).mono ?_
          rintro _ wd ⟨rfl, hbd⟩
          have hPE := hPD.later hbd
          obtain ⟨z0, z1, _, _⟩ := var_facts hPE.var
          refine hK _ _ ⟨fun W => W = wd, rfl, fun W e => e ▸ ⟨z0, z1⟩, ?_⟩
          clear hK K
          refine plan_last ?_
          repeat (refine seg_step (by rfl) (fun K hK => ?_); go_simp; refine hK _ ?_; clear hK K)
          refine seg_nil ?_
          go_wp2_with fail
          go_roundw
          case rel => exact ⟨k + 1, _, _, _, by omega, by go_num, hPE⟩
          case measure => simp [intOf]; omega
        · have hP0 := HPP.out.later ((Below.refl _ wr).alloc (Nat.le_refl _) (.cells #[.int .i64 zk, .int .i64 zn] 31))
          have hact := heap_alloc_new wr (.cells #[.int .i64 zk, .int .i64 zn] 31)
          generalize World.alloc wr _ = W0 at *
          have hl9 := HPP.out.len
          obtain ⟨a1, a2, a3⟩ := alike_fx zn hP0.alike
          obtain ⟨m', hm'⟩ : ∃ m', fxL m e zn = m' := ⟨_, rfl⟩
          have hcl := fun w => ref_fixed m e zn w
          simp only [a1, a2, hm'] at hcl
          rw [hm'] at a3
          refine (fixed_any (k := zn) hP0.rd (by omega)).mono ?_
          rintro _ wa ⟨Ay, ny, cy, rfl, hYy, hRa, hga, _⟩
          obtain ⟨hba, hva⟩ := hP0.read (Nat.le_refl _) hga
          obtain ⟨v0, v1, _, _⟩ := var_facts hva
          have hwr := HPP.out.lt
          have hqq := hP0.rd.1
          have hva9 := (hga.block _ (Array.getElem?_eq_some_iff.1 hact).1 (by intro e; injection e; have := hqq.2; omega)).trans hact
          obtain ⟨p0, p1, _, _⟩ := var_facts hva9
          have hw0 := (Array.getElem?_eq_some_iff.1 hact).1
          clear a1 a2 hm'
          go_wp2_with fail
          refine (hcl _).mono ?_
          rintro _ wb ⟨rfl, hbb⟩
          have hlb := Nat.le_trans (fxL_len l e zn) HPP.out.len
          have hal := a3
          have hcv := byt_string (((hYy.below hbb).turned (((Turned.refl (fun b => b = w2.heap.size) wb).set rfl 0 (.string (strB m'))).set rfl 1 (.int .i64 (tkE l e zn))) (fun b _ hs e => by have e : b = w2.heap.size := e; have hs : W0.heap.size ≤ b := hs; omega)).alloc (.cells #[.string (strB m'), .int .i64 (tkE l e zn)] 29))
          rw [show (⟨(fxB l e zn).toArray⟩ : ByteArray) = strB (fxB l e zn) from rfl] at hcv
          have hvb := (hbb.block _ (Array.getElem?_eq_some_iff.1 hva).1).trans hva
          have hRb := hRa.below hbb
          have hbw := hba.trans (hbb.mono hba.size)
          have HVB := Lib.hid hvb
          have HBW := Lib.hid hbw
          have HRB := Lib.hid hRb
          obtain ⟨v0, v1, f0, f1⟩ := var_facts hvb
          have hgs := (Array.getElem?_eq_some_iff.1 hvb).1
          have hne := Nat.ne_of_lt hgs
          clear hva hba hRa hga hP0 hact hcl a3 hvb hRb hbw hbb hYy hva9 p0 p1 hqq
          unfold RV
          go_wp2_with fail
          generalize hWC : World.alloc (World.setCell (World.setCell _ _ _) _ _) _ = WC
          have hPC : Pair w w2 WC q w2.heap.size (fxL l e zn) m' (tkE l e zn) := by rw [← hWC]; exact (pair_put HBW.out HRB.out HVB.out hb2.size (Nat.le_refl _) hal hlb).later ((Below.refl _ _).alloc (Nat.le_refl _) _)
          clear hWC
          have hEnd := alike_end hPC.alike
          have hRC := hPC.rd.drew
          have hPD := hPC.later (Below.refl _ WC).drew
          obtain ⟨x0, x1, _, _⟩ := var_facts hPD.var
          have hre := fun w => ref_end m' (tkE l e zn) w
          simp only [hEnd] at hre
          clear hPC hEnd
          go_wp2_with fail
          refine wp_region_plan (fun W => W.cell? ⟨w2.heap.size, 0, none⟩ = some (.string (strB m')) ∧ W.cell? ⟨w2.heap.size, 1, none⟩ = some (.int .i64 (tkE l e zn))) [([0, 2, 3], 1), ([4, 5, 6, 8], 7), ([], 9)] [10, 11] (by kernel_rfl) (by kernel_rfl) (fun _ _ d _ _ h => by cases d <;> exact h) ⟨x0, x1⟩ ?_
          refine plan_eff ?_
          refine seg_read ?v22 (by rfl) (by rfl) ?h22 ?_
          case h22 => intro W hW; obtain ⟨y0, y1⟩ := hW; go_simp; with_reducible rfl
          try simp only [Act.put, List.setIfInBounds_toArray, List.set_cons_zero, List.set_cons_succ]
          refine seg_read ?v23 (by rfl) (by rfl) ?h23 ?_
          case h23 => intro W hW; obtain ⟨y0, y1⟩ := hW; go_simp; with_reducible rfl
          try simp only [Act.put, List.setIfInBounds_toArray, List.set_cons_zero, List.set_cons_succ]
          refine seg_read ?v24 (by rfl) (by rfl) ?h24 ?_
          case h24 => intro W hW; obtain ⟨y0, y1⟩ := hW; go_simp; with_reducible rfl
          try simp only [Act.put, List.setIfInBounds_toArray, List.set_cons_zero, List.set_cons_succ]
          refine seg_nil ?_
          refine eff_step (by rfl) (fun K hK => ?_)
          go_simp
          refine (err_rd hRC).mono ?_
          rintro _ _ ⟨rfl, rfl⟩
          refine hK _ _ ⟨_, ⟨x0, x1⟩, fun W e => e, ?_⟩
          clear hK K
          refine plan_eff ?_
          refine seg_read ?v25 (by rfl) (by rfl) ?h25 ?_
          case h25 => intro W hW; obtain ⟨y0, y1⟩ := hW; go_simp; with_reducible rfl
          try simp only [Act.put, List.setIfInBounds_toArray, List.set_cons_zero, List.set_cons_succ]
          refine seg_read ?v26 (by rfl) (by rfl) ?h26 ?_
          case h26 => intro W hW; obtain ⟨y0, y1⟩ := hW; go_simp; with_reducible rfl
          try simp only [Act.put, List.setIfInBounds_toArray, List.set_cons_zero, List.set_cons_succ]
          refine seg_read ?v27 (by rfl) (by rfl) ?h27 ?_
          case h27 => intro W hW; obtain ⟨y0, y1⟩ := hW; go_simp; with_reducible rfl
          try simp only [Act.put, List.setIfInBounds_toArray, List.set_cons_zero, List.set_cons_succ]
          refine seg_read ?v28 (by rfl) (by rfl) ?h28 ?_
          case h28 => intro W hW; obtain ⟨y0, y1⟩ := hW; go_simp; with_reducible rfl
          try simp only [Act.put, List.setIfInBounds_toArray, List.set_cons_zero, List.set_cons_succ]
          refine seg_nil ?_
          refine eff_step (by rfl) (fun K hK => ?_)
          go_simp
          refine (end_rd hRC).mono ?_
          rintro _ _ ⟨rfl, rfl⟩
          refine hK _ _ ⟨_, ⟨x0, x1⟩, fun W e => e, ?_⟩
          clear hK K
          refine plan_eff ?_
          refine seg_nil ?_
          refine eff_step (by rfl) (fun K hK => ?_)
          go_simp
          refine (hre _).mono ?_
          rintro _ wd ⟨rfl, hbd⟩
          have hPE := hPD.later hbd
          obtain ⟨z0, z1, _, _⟩ := var_facts hPE.var
          refine hK _ _ ⟨fun W => W = wd, rfl, fun W e => e ▸ ⟨z0, z1⟩, ?_⟩
          clear hK K
          refine plan_last ?_
          repeat (refine seg_step (by rfl) (fun K hK => ?_); go_simp; refine hK _ ?_; clear hK K)
          refine seg_nil ?_
          go_wp2_with fail
          go_roundw
          case rel => exact ⟨k + 1, _, _, _, by omega, by go_num, hPE⟩
          case measure => simp [intOf]; omega
        · have hP0 := HPP.out.later ((Below.refl _ wr).alloc (Nat.le_refl _) (.cells #[.int .i64 zk, .int .i64 zn] 31))
          have hact := heap_alloc_new wr (.cells #[.int .i64 zk, .int .i64 zn] 31)
          generalize World.alloc wr _ = W0 at *
          obtain ⟨a1, a2⟩ := alike_bo hP0.alike
          have hcl := fun w => ref_bool m e w
          simp only [a1] at hcl
          refine (bool_any hP0.rd).mono ?_
          rintro _ wa ⟨rfl, hRa, hga⟩
          obtain ⟨hba, hva⟩ := hP0.read (Nat.le_refl _) hga
          obtain ⟨v0, v1, _, _⟩ := var_facts hva
          clear a1
          go_wp2_with fail
          refine (hcl _).mono ?_
          rintro _ wb ⟨y, hy, m', rfl, hm', hbb⟩
          have hlb := Nat.le_trans (fxL_len l e 1) HPP.out.len
          have hal := fun h => (hm' h).trans (a2 h).2
          have hyy := fun h => (hy h).trans (a2 h).1
          have HAL := Lib.hid hal
          clear hal
          generalize boE l e = e2 at *
          have hvb := (hbb.block _ (Array.getElem?_eq_some_iff.1 hva).1).trans hva
          have hRb := hRa.below hbb
          have hbw := hba.trans (hbb.mono hba.size)
          have HVB := Lib.hid hvb
          have HBW := Lib.hid hbw
          have HRB := Lib.hid hRb
          obtain ⟨v0, v1, f0, f1⟩ := var_facts hvb
          have hgs := (Array.getElem?_eq_some_iff.1 hvb).1
          have hne := Nat.ne_of_lt hgs
          clear hva hba hRa hga hP0 hact hcl hm' hvb hRb hbw hbb hy a2
          unfold RV
          by_cases h0 : e2 = 0
          · subst h0
            obtain rfl : y = boX l e := hyy rfl
            clear hyy
            go_wp2_with fail
            generalize hWC : World.alloc (World.setCell (World.setCell _ _ _) _ _) _ = WC
            have hPC : Pair w w2 WC q w2.heap.size (fxL l e 1) m' 0 := by rw [← hWC]; exact (pair_put HBW.out HRB.out HVB.out hb2.size (Nat.le_refl _) (fun _ => HAL.out trivial) hlb).later ((Below.refl _ _).alloc (Nat.le_refl _) _)
            clear hWC
            have hEnd := alike_end hPC.alike
            have hRC := hPC.rd.drew
            have hPD := hPC.later (Below.refl _ WC).drew
            obtain ⟨x0, x1, _, _⟩ := var_facts hPD.var
            have hre := fun w => ref_end m' 0 w
            simp only [hEnd] at hre
            clear hPC hEnd
            go_wp2_with fail
            refine wp_region_plan (fun W => W.cell? ⟨w2.heap.size, 0, none⟩ = some (.string (strB m')) ∧ W.cell? ⟨w2.heap.size, 1, none⟩ = some (.int .i64 0)) [([0, 2, 3], 1), ([4, 5, 6, 8], 7), ([], 9)] [10, 11] (by kernel_rfl) (by kernel_rfl) (fun _ _ d _ _ h => by cases d <;> exact h) ⟨x0, x1⟩ ?_
            refine plan_eff ?_
            refine seg_read ?v29 (by rfl) (by rfl) ?h29 ?_
            case h29 => intro W hW; obtain ⟨y0, y1⟩ := hW; go_simp; with_reducible rfl
            try simp only [Act.put, List.setIfInBounds_toArray, List.set_cons_zero, List.set_cons_succ]
            refine seg_read ?v30 (by rfl) (by rfl) ?h30 ?_
            case h30 => intro W hW; obtain ⟨y0, y1⟩ := hW; go_simp; with_reducible rfl
            try simp only [Act.put, List.setIfInBounds_toArray, List.set_cons_zero, List.set_cons_succ]
            refine seg_read ?v31 (by rfl) (by rfl) ?h31 ?_
            case h31 => intro W hW; obtain ⟨y0, y1⟩ := hW; go_simp; with_reducible rfl
            try simp only [Act.put, List.setIfInBounds_toArray, List.set_cons_zero, List.set_cons_succ]
            refine seg_nil ?_
            refine eff_step (by rfl) (fun K hK => ?_)
            go_simp
            refine (err_rd hRC).mono ?_
            rintro _ _ ⟨rfl, rfl⟩
            refine hK _ _ ⟨_, ⟨x0, x1⟩, fun W e => e, ?_⟩
            clear hK K
            refine plan_eff ?_
            refine seg_read ?v32 (by rfl) (by rfl) ?h32 ?_
            case h32 => intro W hW; obtain ⟨y0, y1⟩ := hW; go_simp; with_reducible rfl
            try simp only [Act.put, List.setIfInBounds_toArray, List.set_cons_zero, List.set_cons_succ]
            refine seg_read ?v33 (by rfl) (by rfl) ?h33 ?_
            case h33 => intro W hW; obtain ⟨y0, y1⟩ := hW; go_simp; with_reducible rfl
            try simp only [Act.put, List.setIfInBounds_toArray, List.set_cons_zero, List.set_cons_succ]
            refine seg_read ?v34 (by rfl) (by rfl) ?h34 ?_
            case h34 => intro W hW; obtain ⟨y0, y1⟩ := hW; go_simp; with_reducible rfl
            try simp only [Act.put, List.setIfInBounds_toArray, List.set_cons_zero, List.set_cons_succ]
            refine seg_read ?v35 (by rfl) (by rfl) ?h35 ?_
            case h35 => intro W hW; obtain ⟨y0, y1⟩ := hW; go_simp; with_reducible rfl
            try simp only [Act.put, List.setIfInBounds_toArray, List.set_cons_zero, List.set_cons_succ]
            refine seg_nil ?_
            refine eff_step (by rfl) (fun K hK => ?_)
            go_simp
            refine (end_rd hRC).mono ?_
            rintro _ _ ⟨rfl, rfl⟩
            refine hK _ _ ⟨_, ⟨x0, x1⟩, fun W e => e, ?_⟩
            clear hK K
            refine plan_eff ?_
            refine seg_nil ?_
            refine eff_step (by rfl) (fun K hK => ?_)
            go_simp
            refine (hre _).mono ?_
            rintro _ wd ⟨rfl, hbd⟩
            have hPE := hPD.later hbd
            obtain ⟨z0, z1, _, _⟩ := var_facts hPE.var
            refine hK _ _ ⟨fun W => W = wd, rfl, fun W e => e ▸ ⟨z0, z1⟩, ?_⟩
            clear hK K
            refine plan_last ?_
            repeat (refine seg_step (by rfl) (fun K hK => ?_); go_simp; refine hK _ ?_; clear hK K)
            refine seg_nil ?_
            go_wp2_with fail
            go_roundw
            case rel => exact ⟨k + 1, _, _, _, by omega, by go_num, hPE⟩
            case measure => simp [intOf]; omega
          · have he0 : (e2 == 0) = false := by simpa using h0
            clear hyy h0
            go_wp2_with fail
            generalize hWC : World.alloc (World.setCell (World.setCell _ _ _) _ _) _ = WC
            have hPC : Pair w w2 WC q w2.heap.size (fxL l e 1) m' e2 := by rw [← hWC]; exact (pair_put HBW.out HRB.out HVB.out hb2.size (Nat.le_refl _) HAL.out hlb).later ((Below.refl _ _).alloc (Nat.le_refl _) _)
            clear hWC
            have hEnd := alike_end hPC.alike
            have hRC := hPC.rd.drew
            have hPD := hPC.later (Below.refl _ WC).drew
            obtain ⟨x0, x1, _, _⟩ := var_facts hPD.var
            have hre := fun w => ref_end m' e2 w
            simp only [hEnd] at hre
            clear hPC hEnd
            go_wp2_with fail
            refine wp_region_plan (fun W => W.cell? ⟨w2.heap.size, 0, none⟩ = some (.string (strB m')) ∧ W.cell? ⟨w2.heap.size, 1, none⟩ = some (.int .i64 e2)) [([0, 2, 3], 1), ([4, 5, 6, 8], 7), ([], 9)] [10, 11] (by kernel_rfl) (by kernel_rfl) (fun _ _ d _ _ h => by cases d <;> exact h) ⟨x0, x1⟩ ?_
            refine plan_eff ?_
            refine seg_read ?v36 (by rfl) (by rfl) ?h36 ?_
            case h36 => intro W hW; obtain ⟨y0, y1⟩ := hW; go_simp; with_reducible rfl
            try simp only [Act.put, List.setIfInBounds_toArray, List.set_cons_zero, List.set_cons_succ]
            refine seg_read ?v37 (by rfl) (by rfl) ?h37 ?_
            case h37 => intro W hW; obtain ⟨y0, y1⟩ := hW; go_simp; with_reducible rfl
            try simp only [Act.put, List.setIfInBounds_toArray, List.set_cons_zero, List.set_cons_succ]
            refine seg_read ?v38 (by rfl) (by rfl) ?h38 ?_
            case h38 => intro W hW; obtain ⟨y0, y1⟩ := hW; go_simp; with_reducible rfl
            try simp only [Act.put, List.setIfInBounds_toArray, List.set_cons_zero, List.set_cons_succ]
            refine seg_nil ?_
            refine eff_step (by rfl) (fun K hK => ?_)
            go_simp
            refine (err_rd hRC).mono ?_
            rintro _ _ ⟨rfl, rfl⟩
            refine hK _ _ ⟨_, ⟨x0, x1⟩, fun W e => e, ?_⟩
            clear hK K
            refine plan_eff ?_
            refine seg_read ?v39 (by rfl) (by rfl) ?h39 ?_
            case h39 => intro W hW; obtain ⟨y0, y1⟩ := hW; go_simp; with_reducible rfl
            try simp only [Act.put, List.setIfInBounds_toArray, List.set_cons_zero, List.set_cons_succ]
            refine seg_read ?v40 (by rfl) (by rfl) ?h40 ?_
            case h40 => intro W hW; obtain ⟨y0, y1⟩ := hW; go_simp; with_reducible rfl
            try simp only [Act.put, List.setIfInBounds_toArray, List.set_cons_zero, List.set_cons_succ]
            refine seg_read ?v41 (by rfl) (by rfl) ?h41 ?_
            case h41 => intro W hW; obtain ⟨y0, y1⟩ := hW; go_simp; with_reducible rfl
            try simp only [Act.put, List.setIfInBounds_toArray, List.set_cons_zero, List.set_cons_succ]
            refine seg_read ?v42 (by rfl) (by rfl) ?h42 ?_
            case h42 => intro W hW; obtain ⟨y0, y1⟩ := hW; go_simp; with_reducible rfl
            try simp only [Act.put, List.setIfInBounds_toArray, List.set_cons_zero, List.set_cons_succ]
            refine seg_nil ?_
            refine eff_step (by rfl) (fun K hK => ?_)
            go_simp
            refine (end_rd hRC).mono ?_
            rintro _ _ ⟨rfl, rfl⟩
            refine hK _ _ ⟨_, ⟨x0, x1⟩, fun W e => e, ?_⟩
            clear hK K
            refine plan_eff ?_
            refine seg_nil ?_
            refine eff_step (by rfl) (fun K hK => ?_)
            go_simp
            refine (hre _).mono ?_
            rintro _ wd ⟨rfl, hbd⟩
            have hPE := hPD.later hbd
            obtain ⟨z0, z1, _, _⟩ := var_facts hPE.var
            refine hK _ _ ⟨fun W => W = wd, rfl, fun W e => e ▸ ⟨z0, z1⟩, ?_⟩
            clear hK K
            refine plan_last ?_
            repeat (refine seg_step (by rfl) (fun K hK => ?_); go_simp; refine hK _ ?_; clear hK K)
            refine seg_nil ?_
            go_wp2_with fail
            go_roundw
            case rel => exact ⟨k + 1, _, _, _, by omega, by go_num, hPE⟩
            case measure => simp [intOf]; omega
        · have hP0 := HPP.out.later ((Below.refl _ wr).alloc (Nat.le_refl _) (.cells #[.int .i64 zk, .int .i64 zn] 31))
          have hact := heap_alloc_new wr (.cells #[.int .i64 zk, .int .i64 zn] 31)
          generalize World.alloc wr _ = W0 at *
          obtain ⟨a0, a2, a3⟩ := alike_fx 32 hP0.alike
          have a1 := alike_id hP0.alike
          obtain ⟨cs, hcs, hcl32⟩ : ∃ cs, idC l e = (u8s cs).toArray ∧ cs.length = 32 := ⟨idL l e, rfl, idL_length l e⟩
          obtain ⟨m', hm'⟩ : ∃ m', fxL m e 32 = m' := ⟨_, rfl⟩
          have hcl := fun w => ref_id m e w
          simp only [a1, a2, hm', hcs] at hcl
          rw [hm'] at a3
          have hid := id_any hP0.rd
          rw [hcs] at hid
          obtain ⟨RS, hRS⟩ : ∃ RS, (u8s cs).toArray = RS := ⟨_, rfl⟩
          have hsz : RS.size = 32 := by rw [← hRS]; simp [u8s_length, hcl32]
          have HI : Hid ((Try.prog.info? 42).map (·.size) = some RS.size) := Lib.hid (by rw [hsz]; exact id_info)
          have HS := Lib.hid hsz
          have HALL : Hid (RS.all (·.oneCell') = true) := Lib.hid (by rw [← hRS]; exact u8s_all _)
          have HQ : Hid (∀ W, (Op.equalIn 10000 42 (.agg RS) (.agg RS)).run Try.prog W = .ok true W) := Lib.hid fun W => by
            obtain ⟨iu, hiu, _⟩ := info_parts u8_info
            rw [← hRS, run_equalIn_bytes W Try.underlying42 Try.underlying5 hiu (by kernel_rfl) 9998 cs cs hcl32 hcl32]; simp
          rw [hRS] at hcl hid
          have HCL := Lib.hid hcl
          have HAL := Lib.hid a3
          have HLB := Lib.hid (Nat.le_trans (fxL_len l e 32) HPP.out.len)
          clear hcl a0 a1 a2 a3 hm' hcs hcl32 hRS hsz
          refine hid.mono ?_
          rintro _ wa ⟨rfl, hRa, hga⟩
          obtain ⟨hba, hva⟩ := hP0.read (Nat.le_refl _) hga
          have HBA := Lib.hid hba
          have HVA := Lib.hid hva
          have HRA := Lib.hid hRa
          have HGW := Lib.hid (Array.getElem?_eq_some_iff.1 hva).1
          clear hid hba hva hRa hga hP0 hact
          go_wp2_with (refine wpList_store_row (by rfl) 42 (.tmp 22) (.tmp 54) (by rfl) wa.heap.size RS (by rfl) (by rfl) 42 _ (heap_alloc_new wa _) HI.out (by rw [HS.out]; rfl) HALL.out ?_; generalize hwx : World.setRow (World.alloc wa _) wa.heap.size RS = wx; obtain ⟨hbx, hxr⟩ := row_stored hwx; clear hwx; have HBX := Lib.hid hbx; have HXR := Lib.hid hxr; clear hbx hxr; obtain ⟨x0, x1, _, _⟩ := var_facts ((HBX.out.block _ HGW.out).trans HVA.out))
          refine (HCL.out _).mono ?_
          rintro _ wb ⟨rfl, hbb⟩
          have hbab := HBX.out.trans (hbb.mono HBX.out.size)
          have hvb := (hbab.block _ HGW.out).trans HVA.out
          have hrb := (hbb.block _ (Array.getElem?_eq_some_iff.1 HXR.out).1).trans HXR.out
          have HRb := Lib.hid (HRA.out.below hbab)
          have HBW := Lib.hid (HBA.out.trans (hbab.mono HBA.out.size))
          have HVB := Lib.hid hvb
          have HR1 := Lib.hid hrb
          have hgs := (Array.getElem?_eq_some_iff.1 hvb).1
          have HGS := Lib.hid hgs
          have HRS := Lib.hid (Array.getElem?_eq_some_iff.1 hrb).1
          clear x0 x1 hbb hbab hvb hrb
          unfold RV
          go_wp2_with (first | (refine wpList_store_row (by rfl) 42 (.tmp 24) (.tmp 59) (by rfl) (wb.heap.size + 1) RS (by rfl) (by rfl) 42 _ (heap_alloc2_new wb _ _) HI.out (by rw [HS.out]; rfl) HALL.out ?_; generalize hwy : World.setRow (World.alloc (World.alloc wb _) _) (wb.heap.size + 1) RS = wy; obtain ⟨hby, hy1, hy2⟩ := row_stored2 hwy; clear hwy; have hvy := (hby.block _ HGS.out).trans HVB.out; have hry := (hby.block _ HRS.out).trans HR1.out; have HBWY := Lib.hid (HBW.out.trans (hby.mono HBW.out.size)); have HRY := Lib.hid (HRb.out.below hby); have HVY := Lib.hid hvy; obtain ⟨y0, y1, g0, g1⟩ := var_facts hvy; obtain ⟨z0, z1, _, _⟩ := var_facts hy1; have hgy := (Array.getElem?_eq_some_iff.1 hvy).1; have Z1 := Lib.hid (fun u v => set_two_else (u := u) (v := v) (Nat.ne_of_gt HGW.out) hry); have Z2 := Lib.hid (fun u v => set_two_else (u := u) (v := v) (Nat.ne_of_gt (Nat.lt_succ_of_lt HGS.out)) hy2); have hq := HQ.out; clear hby hy1 hy2 hvy hry hgs) | (refine wpList_load_row (by rfl) 42 (.tmp 22) (by rfl) wa.heap.size (by rfl) 42 RS (0, 0) _ (Z1.out _ _) Try.underlying42 rfl HI.out ?_) | (refine wpList_load_row (by rfl) 42 (.tmp 24) (by rfl) (wb.heap.size + 1) (by rfl) 42 RS (0, 0) _ (Z2.out _ _) Try.underlying42 rfl HI.out ?_))
          generalize hWC : World.setCell (World.setCell _ _ _) _ _ = WC
          have hPC : Pair w w2 WC q w2.heap.size (fxL l e 32) m' (tkE l e 32) := by rw [← hWC]; exact (pair_put HBWY.out HRY.out HVY.out hb2.size (Nat.le_refl _) HAL.out HLB.out)
          clear hWC
          have hEnd := alike_end hPC.alike
          have hRC := hPC.rd.drew
          have hPD := hPC.later (Below.refl _ WC).drew
          obtain ⟨x0, x1, _, _⟩ := var_facts hPD.var
          have hre := fun w => ref_end m' (tkE l e 32) w
          simp only [hEnd] at hre
          clear hPC hEnd
          go_wp2_with fail
          refine wp_region_plan (fun W => W.cell? ⟨w2.heap.size, 0, none⟩ = some (.string (strB m')) ∧ W.cell? ⟨w2.heap.size, 1, none⟩ = some (.int .i64 (tkE l e 32))) [([0, 2, 3], 1), ([4, 5, 6, 8], 7), ([], 9)] [10, 11] (by kernel_rfl) (by kernel_rfl) (fun _ _ d _ _ h => by cases d <;> exact h) ⟨x0, x1⟩ ?_
          refine plan_eff ?_
          refine seg_read ?v43 (by rfl) (by rfl) ?h43 ?_
          case h43 => intro W hW; obtain ⟨y0, y1⟩ := hW; go_simp; with_reducible rfl
          try simp only [Act.put, List.setIfInBounds_toArray, List.set_cons_zero, List.set_cons_succ]
          refine seg_read ?v44 (by rfl) (by rfl) ?h44 ?_
          case h44 => intro W hW; obtain ⟨y0, y1⟩ := hW; go_simp; with_reducible rfl
          try simp only [Act.put, List.setIfInBounds_toArray, List.set_cons_zero, List.set_cons_succ]
          refine seg_read ?v45 (by rfl) (by rfl) ?h45 ?_
          case h45 => intro W hW; obtain ⟨y0, y1⟩ := hW; go_simp; with_reducible rfl
          try simp only [Act.put, List.setIfInBounds_toArray, List.set_cons_zero, List.set_cons_succ]
          refine seg_nil ?_
          refine eff_step (by rfl) (fun K hK => ?_)
          go_simp
          refine (err_rd hRC).mono ?_
          rintro _ _ ⟨rfl, rfl⟩
          refine hK _ _ ⟨_, ⟨x0, x1⟩, fun W e => e, ?_⟩
          clear hK K
          refine plan_eff ?_
          refine seg_read ?v46 (by rfl) (by rfl) ?h46 ?_
          case h46 => intro W hW; obtain ⟨y0, y1⟩ := hW; go_simp; with_reducible rfl
          try simp only [Act.put, List.setIfInBounds_toArray, List.set_cons_zero, List.set_cons_succ]
          refine seg_read ?v47 (by rfl) (by rfl) ?h47 ?_
          case h47 => intro W hW; obtain ⟨y0, y1⟩ := hW; go_simp; with_reducible rfl
          try simp only [Act.put, List.setIfInBounds_toArray, List.set_cons_zero, List.set_cons_succ]
          refine seg_read ?v48 (by rfl) (by rfl) ?h48 ?_
          case h48 => intro W hW; obtain ⟨y0, y1⟩ := hW; go_simp; with_reducible rfl
          try simp only [Act.put, List.setIfInBounds_toArray, List.set_cons_zero, List.set_cons_succ]
          refine seg_read ?v49 (by rfl) (by rfl) ?h49 ?_
          case h49 => intro W hW; obtain ⟨y0, y1⟩ := hW; go_simp; with_reducible rfl
          try simp only [Act.put, List.setIfInBounds_toArray, List.set_cons_zero, List.set_cons_succ]
          refine seg_nil ?_
          refine eff_step (by rfl) (fun K hK => ?_)
          go_simp
          refine (end_rd hRC).mono ?_
          rintro _ _ ⟨rfl, rfl⟩
          refine hK _ _ ⟨_, ⟨x0, x1⟩, fun W e => e, ?_⟩
          clear hK K
          refine plan_eff ?_
          refine seg_nil ?_
          refine eff_step (by rfl) (fun K hK => ?_)
          go_simp
          refine (hre _).mono ?_
          rintro _ wd ⟨rfl, hbd⟩
          have hPE := hPD.later hbd
          obtain ⟨z0, z1, _, _⟩ := var_facts hPE.var
          refine hK _ _ ⟨fun W => W = wd, rfl, fun W e => e ▸ ⟨z0, z1⟩, ?_⟩
          clear hK K
          refine plan_last ?_
          repeat (refine seg_step (by rfl) (fun K hK => ?_); go_simp; refine hK _ ?_; clear hK K)
          refine seg_nil ?_
          go_wp2_with fail
          go_roundw
          case rel => exact ⟨k + 1, _, _, _, by omega, by go_num, hPE⟩
          case measure => simp [intOf]; omega
      · have hbr := hP.below
        by_cases h1 : k < n2
        · have h40 : ¬ k < 40 := fun h => hlt ⟨h1, h⟩
          clear hlt hP
          go_wp2_with fail
          go_ret
          exact ⟨rfl, hbr⟩
        · clear hlt hP
          go_wp2_with fail
          go_ret
          exact ⟨rfl, hbr⟩
  · go_enter Try.func3, Try.ntmps3
    go_wp2_with (go_at_call 9; refine (awake_true _).mono ?_; rintro _ w1 ⟨rfl, hb1⟩)
    go_ret
    exact ⟨rfl, hb1⟩
end Go.Proofs.Ytbdondgonghooaa
