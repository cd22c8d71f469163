/-
  Dedup, the reference: parts of a list of objects, and one appended to another.
-/
import Derived.Test.YtmmibldchfmleaaPl07
import Derived.Test.YtmmibldchfmleaaPl04
import Derived.Test.YtmmibldchfmleaaPl03
import Derived.Test.YtmmibldchfmleaaPl01
import Derived.Test.YtmmibldchfmleaaPl02
import Derived.Great.BuildSlice
import Derived.Maps.AppendAt
namespace Go.Proofs.Ytmmibldchfmleaa
open Go.RowKit Go.Maps Codec
theorem plB_len {e : List UInt8 × Pl} (h1 : e.1.length = 32) (h2 : e.2.1.length = 32) (h3 : mayN e.2.2 = true) : (plB e).length ≤ 74 := by
 obtain ⟨m, hm, hm2⟩ := mayN_nat h3
 have := put_length_64 (x := e.2.2.toNat) (by omega)
 simp only [plB, List.length_append]
 omega
theorem plsB_len : ∀ {t : Tv Pl}, OkT t → (plsB t).length ≤ 74 * t.length
 | [], _ => by simp [plsB]
 | e :: t, h => by
   have h1 := plsB_len (t := t) fun x hx => h x (by simp [hx])
   obtain ⟨h2, h3, h4⟩ := h e (by simp)
   have h5 := plB_len h2 h3 h4
   simp only [plsB, List.map_cons, List.flatten_cons, List.length_append, List.length_cons] at h1 ⊢
   omega
theorem OkT.take {t : Tv Pl} (h : OkT t) (j : Nat) : OkT (t.take j) := fun e he => h e (List.mem_of_mem_take he)
def dArF (B lo hi k : Nat) : Prop := B ≤ k ∧ ¬ (lo ≤ k ∧ k < hi)
def PtR (w w4 : World) (lo pw : Nat) (pre : List UInt8) (t : Tv Pl) (i : Value) (wr : World) : Prop :=
 ∃ j : Nat, j ≤ t.length ∧ i = .int .i64 (j : Int) ∧ Wr wr (dArF w.heap.size lo w4.heap.size) pw (pre ++ plsB (t.take j)) ∧ Turned (dArF w.heap.size lo w4.heap.size) w4 wr
theorem pl_byt {w : World} {g : Nat} {v : Pl} {VS : Array Value} (hV : VS = plC v) (h : w.heap[g]? = some (.cells VS 37 (0, 0))) (hv : v.1.length = 32) : Byt w (· = g) (some ⟨g, 0, none⟩) 32 32 v.1 :=
 ⟨hv, Nat.le_refl _, by decide, fun _ => ⟨g, 0, rfl, rfl, lt_of_cells h, fun i hi => by
   subst hV
   rw [cell_of_cells h, Nat.zero_add, plC_pack hv i hi, row8, List.getElem?_toArray]
   simp [u8s, show i < v.1.length by omega]⟩⟩
theorem id_byt {w : World} {g : Nat} {l : List UInt8} {XS : Array Value} (hX : XS = row8 l) (h : w.heap[g]? = some (.cells XS 31 (0, 0))) (hl : l.length = 32) : Byt w (· = g) (some ⟨g, 0, none⟩) 32 32 l :=
 ⟨hl, Nat.le_refl _, by decide, fun _ => ⟨g, 0, rfl, rfl, lt_of_cells h, fun i hi => by
   subst hX
   rw [cell_of_cells h, Nat.zero_add, row8, List.getElem?_toArray]
   simp [u8s, show i < l.length by omega]⟩⟩
set_option maxHeartbeats 8000000 in
set_option maxRecDepth 100000 in
theorem ixput_any {w : World} {p b : Nat} {t : Tv Pl} (h : Ix w p b t) (hl : t.length ≤ 100000) (hok : OkT t) :
    Calls Try.prog 19 #[.pointer (some ⟨p, 0, none⟩)] w fun e w' => ∃ A c, e = .returned (.slice A (ixB t).length c) ∧ Byt w' (w.heap.size ≤ ·) A (ixB t).length c (ixB t) ∧ Below w.heap.size w w' := by
 have hzi := zero_id
 obtain ⟨ZS, hZS⟩ : ∃ ZS, ZS = plC zPl := ⟨_, rfl⟩
 have hzp : ∀ W, (zeroValue 37).run Try.prog W = .ok (.agg ZS) W := fun W => by rw [hZS]; exact zero_pl W
 have HZS : Hid (ZS.size = 33) := Lib.hid (by rw [hZS, plC_size zPl_len])
 have hnw := newWriter w
 obtain ⟨n, hn⟩ : ∃ n, n = t.length := ⟨_, rfl⟩
 have hcv := IntWalk.u64_in (n : Int) (by omega)
 have HL := Lib.hid (And.intro h (And.intro hl hok))
 have HN := Lib.hid hn
 clear h hl hn hok hZS
 go_enter Try.func19, Try.ntmps19
 go_upto_region 4 with (go_at_call 31; refine hnw.mono ?_; clear hnw; rintro _ w1 ⟨pw, rfl, hw1, hb1⟩)
 have hi1 := HL.out.1.below hb1
 have hcb := hi1.cell
 have hlen := hi1.map.len Try.underlying64 3
 rw [← HN.out] at hlen
 have h2 := wuint hw1 (x := n) (by have := HN.out; have := HL.out.2.1; omega) (by simp)
 have HB1 := Lib.hid hb1
 clear hw1 hb1 hi1
 go_upto_region 5 with (go_at_call 32; refine h2.mono ?_; clear h2; rintro _ w3 hp2; obtain ⟨rfl, hw2, ht2⟩ := hp2)
 have hp3 := Put.from (e := .returned (.tuple #[])) (show Put w1 (w.heap.size ≤ ·) pw ([] ++ put n) _ w3 from ⟨rfl, hw2, ht2⟩) HB1.out.size
 obtain ⟨pre, hpre⟩ : ∃ pre, pre = put n := ⟨_, rfl⟩
 have H3 := Lib.hid (And.intro (show Wr w3 (w.heap.size ≤ ·) pw pre by rw [hpre]; simpa using hp3.1) (HB1.out.trans hp3.2))
 have HPRE : Hid (pre = put n ∧ pre.length ≤ 10) := Lib.hid ⟨hpre, by rw [hpre]; exact put_length_64 (by have := HN.out; have := HL.out.2.1; omega)⟩
 have hss := ixids_any (HL.out.1.below H3.out.2) (by have := HL.out.2.1; omega)
 rw [← HN.out] at hss
 clear hw2 ht2 hp3 HB1 hpre hlen hcb hcv
 go_wp2_with (go_at_call 22; refine hss.mono ?_; clear hss; rintro _ w4 ⟨A4, c4, rfl, hs4, hb4⟩; have H4 := Lib.hid (And.intro hs4 hb4); clear hs4 hb4)
 have HST := Lib.hid (H4.out.1.mono (T := fun k => w3.heap.size ≤ k ∧ k < w4.heap.size) fun k hk h => ⟨h, hk⟩)
 have H0 : Hid (PtR w w4 w3.heap.size pw pre t (.int .i64 0) w4) := Lib.hid ⟨0, Nat.zero_le _, rfl, by
  have h1 := (H3.out.1.mono (T := dArF w.heap.size w3.heap.size w4.heap.size) fun k hk h => ⟨h, by omega⟩).turned (T := fun _ => False) (Turned.of_below H4.out.2) fun _ _ _ h => h
  simpa [plsB] using h1, Turned.refl _ _⟩
 have HB := Lib.hid (And.intro H3.out.2 (And.intro H4.out.2 (show w.heap.size ≤ w3.heap.size from H3.out.2.size)))
 have HIX := Lib.hid (And.intro (HL.out.1.below (H3.out.2.trans (H4.out.2.mono H3.out.2.size))) (And.intro (lt_of_cells HL.out.1.box) HL.out.1.map.lt))
 clear H3 H4
 go_loopw [5, 6, 21] (fun _ _ i wr => PtR w w4 w3.heap.size pw pre t i wr) (fun _ _ i _ => n - (intOf i).toNat)
 case atStart => exact H0.out
 case round =>
  obtain ⟨j, hj, rfl, hwr, htn⟩ := hrel
  clear H0
  have HK := Lib.hid (And.intro hwr htn)
  clear hwr htn
  by_cases hlt : j < n
  ·have hlt' : (j : Int) < (n : Int) := by omega
   have hjt : j < t.length := by have := HN.out; omega
   obtain ⟨x, hx⟩ : ∃ x, t[j]? = some x := ⟨_, List.getElem?_eq_getElem hjt⟩
   have hxm := List.mem_of_getElem? hx
   obtain ⟨hx1, hx2, hx3⟩ := HL.out.2.2 x hxm
   have hgx := getV_mem HL.out.1.map.srt hxm
   have HIR := Lib.hid (HIX.out.1.turned HK.out.2 (fun h => by have := h.1; have := HIX.out.2; omega) (fun h => by have := h.1; have := HIX.out.2; omega))
   have hidr := HST.out.turned HK.out.2 fun k _ h1 h2 => h2.2 h1
   obtain ⟨ab, ao, rfl, hab, _, hrowc⟩ := hidr.at_ hlt
   have hkey : ((t.map (·.1))[j]?.getD []) = x.1 := by rw [List.getElem?_map, hx]; rfl
   rw [hkey] at hrowc
   obtain ⟨XS, hXS⟩ : ∃ XS, XS = row8 x.1 := ⟨_, rfl⟩
   obtain ⟨FS, hFS⟩ : ∃ FS, FS = plC x.2 := ⟨_, rfl⟩
   rw [← hXS] at hrowc
   have HX : Hid (XS = row8 x.1 ∧ XS.size = 32 ∧ XS.all (·.oneCell') = true ∧ x.1.length = 32 ∧ getV t x.1 = some x.2) := Lib.hid ⟨hXS, by rw [hXS, row8_size, hx1], by rw [hXS]; exact row8_one _, hx1, hgx⟩
   have HF : Hid (FS = plC x.2 ∧ FS.size = 33 ∧ FS.all (·.oneCell') = true ∧ x.2.1.length = 32 ∧ mayN x.2.2 = true ∧ t[j]? = some x) := Lib.hid ⟨hFS, by rw [hFS, plC_size hx2], by rw [hFS]; exact plC_one _, hx2, hx3, hx⟩
   have HRC := Lib.hid hrowc
   have hadd := IntWalk.i64_in ((j : Int) + 1) (by have := HN.out; have := HL.out.2.1; omega)
   obtain ⟨w7, hw7⟩ : ∃ w7, w7 = (wr.alloc (.cells zerosId 31)).setRow wr.heap.size XS := ⟨_, rfl⟩
   have hz5 := heap_alloc_new wr (.cells zerosId 31)
   have H7 : Hid (w7.heap[wr.heap.size]? = some (.cells XS 31 (0, 0)) ∧ Below wr.heap.size wr w7) := Lib.hid ⟨by rw [hw7]; exact setRow_at hz5, by rw [hw7]; exact below_setRow ((Below.refl _ _).alloc (Nat.le_refl _) _) (Nat.le_refl _) _⟩
   have HZ := Lib.hid hz5
   have HW7 := Lib.hid hw7
   clear hz5 hw7 hXS hFS hx hxm hx1 hx2 hx3 hgx hidr hrowc hkey hjt
   obtain ⟨q5, hq5⟩ : ∃ q5, q5 = wr.heap.size := ⟨_, rfl⟩
   have HQ5 := Lib.hid hq5
   go_upto_region 8 with (first
    | (refine wpList_load_at (by rfl) 31 (.tmp 23) (by rfl) ⟨ab, ao + j * 32, none⟩ (by rfl) XS _ HRC.out Try.underlying31 (by rfl) (by rw [HX.out.2.1]; exact id_info) ?_)
    | (refine wpList_store_row (by rfl) 31 (.tmp 5) (.tmp 24) (by rfl) wr.heap.size XS (by rfl) (by rfl) 31 zerosId HZ.out (by rw [HX.out.2.1]; exact id_info) (by rw [HX.out.2.1]; rfl) HX.out.2.2.1 ?_))
   rw [← HW7.out, ← hq5]
   clear HZ HW7 HRC
   have hC : (fun W : World => Ix W p b t ∧ W.heap[q5]? = some (.cells XS 31 (0, 0))) w7.drew := ⟨(HIR.out.below H7.out.2).below ⟨rfl, rfl, rfl, Nat.le_refl _, fun _ _ => rfl⟩, by rw [hq5]; exact H7.out.1⟩
   clear hq5
   refine wp_region_plan (fun W : World => Ix W p b t ∧ W.heap[q5]? = some (.cells XS 31 (0, 0))) [([0, 1, 2, 3, 4, 5], 6), ([], 7)] [] (by kernel_rfl) (by kernel_rfl) (fun _ _ d _ _ h => by cases d <;> exact h) hC ?_
   refine plan_eff ?_
   refine seg_read ?v23 (by rfl) (by rfl) ?h23 ?_
   case h23 => intro W hW; go_simp; with_reducible rfl
   try simp only [Act.put, List.setIfInBounds_toArray, List.set_cons_zero, List.set_cons_succ]
   refine seg_read ?v24 (by rfl) (by rfl) ?h24 ?_
   case h24 => intro W hW; go_simp; with_reducible rfl
   try simp only [Act.put, List.setIfInBounds_toArray, List.set_cons_zero, List.set_cons_succ]
   refine seg_read ?v25 (by rfl) (by rfl) ?h25 ?_
   case h25 => intro W hW; go_simp; with_reducible rfl
   try simp only [Act.put, List.setIfInBounds_toArray, List.set_cons_zero, List.set_cons_succ]
   refine seg_read ?v26 (by rfl) (by rfl) ?h26 ?_
   case h26 => intro W hW; have hcb := hW.1.cell; go_simp; with_reducible rfl
   try simp only [Act.put, List.setIfInBounds_toArray, List.set_cons_zero, List.set_cons_succ]
   refine seg_read (.agg XS) (by rfl) (by rfl) (fun W hW => exec_load_st 31 (.tmp 5) (by rfl) q5 (by rfl) XS (0, 0) hW.2 _ Try.underlying31 (by rfl) (by rw [HX.out.2.1]; exact id_info)) ?_
   try simp only [Act.put, List.setIfInBounds_toArray, List.set_cons_zero, List.set_cons_succ]
   refine seg_read ?v27 (by rfl) (by rfl) ?h27 ?_
   case h27 => intro W hW; have hlk := (hW.1.map.look Try.underlying64 (zero_pl W) HX.out.2.2.2.1).2; rw [← HX.out.1, HX.out.2.2.2.2, show (some x.2).elim (encP zPl) encP = .agg FS by rw [HF.out.1]; rfl] at hlk; go_simp; with_reducible rfl
   try simp only [Act.put, List.setIfInBounds_toArray, List.set_cons_zero, List.set_cons_succ]
   refine seg_nil ?_
   refine eff_alloc (by rfl) (by rfl) 37 (by rfl) (hzp _) ?_
   have hA : (fun W : World => Ix W p b t ∧ W.heap[q5]? = some (.cells XS 31 (0, 0))) (w7.drew.alloc (.cells ZS 37)) := by
    have hbA : Below w7.drew.heap.size w7.drew (w7.drew.alloc (.cells ZS 37)) := (Below.refl _ _).alloc (Nat.le_refl _) _
    exact ⟨hC.1.below hbA, (hbA.block _ (lt_of_cells hC.2)).trans hC.2⟩
   refine ⟨_, hA, fun _ h => h, ?_⟩
   try simp only [Act.put, List.setIfInBounds_toArray, List.set_cons_zero, List.set_cons_succ]
   refine plan_eff ?_
   refine seg_nil ?_
   refine eff_store_row (by rfl) (by rfl) 37 (.tmp 6) (.tmp 30) (by rfl) w7.drew.heap.size FS (by rfl) (by rfl) 37 ZS (heap_alloc_new _ _) (by rw [HF.out.2.1]; exact pl_info) (by rw [HF.out.2.1, HZS.out]) HF.out.2.2.1 ?_
   have hS8 : (fun W : World => Ix W p b t ∧ W.heap[q5]? = some (.cells XS 31 (0, 0))) ((w7.drew.alloc (.cells ZS 37)).setRow w7.drew.heap.size FS) := by
    have hbS : Below w7.drew.heap.size w7.drew ((w7.drew.alloc (.cells ZS 37)).setRow w7.drew.heap.size FS) := below_setRow ((Below.refl _ _).alloc (Nat.le_refl _) _) (Nat.le_refl _) _
    exact ⟨hC.1.below hbS, (hbS.block _ (lt_of_cells hC.2)).trans hC.2⟩
   refine ⟨_, hS8, fun _ h => h, ?_⟩
   try simp only [Act.put]
   refine plan_last ?_
   refine seg_nil ?_
   have hq6b : Below w7.heap.size w7 ((w7.drew.alloc (.cells ZS 37)).setRow w7.drew.heap.size FS) := below_setRow ((below_drew (Below.refl _ _)).alloc (Nat.le_refl _) _) (Nat.le_refl _) _
   have H8 : Hid (((w7.drew.alloc (.cells ZS 37)).setRow w7.drew.heap.size FS).heap[q5]? = some (.cells XS 31 (0, 0)) ∧ ((w7.drew.alloc (.cells ZS 37)).setRow w7.drew.heap.size FS).heap[w7.drew.heap.size]? = some (.cells FS 37 (0, 0)) ∧ Below wr.heap.size wr ((w7.drew.alloc (.cells ZS 37)).setRow w7.drew.heap.size FS) ∧ wr.heap.size < w7.drew.heap.size) := Lib.hid ⟨hS8.2, setRow_at (heap_alloc_new _ _), H7.out.2.trans (hq6b.mono H7.out.2.size), lt_of_cells H7.out.1⟩
   clear hS8 hC hq6b H7
   generalize (w7.drew.alloc (.cells ZS 37)).setRow w7.drew.heap.size FS = w8 at H8 ⊢
   generalize w7.drew.heap.size = q6 at H8 ⊢
   try rw [show w7.heap.size = q6 from rfl]
   have hwr8 := ((HK.out.1.mono (T := fun k => dArF w.heap.size w3.heap.size w4.heap.size k ∧ k < wr.heap.size) fun k hk h => ⟨h, hk⟩).turned (T := fun _ => False) (Turned.of_below H8.out.2.2.1) fun _ _ _ h => h)
   have hlp : (pre ++ plsB (t.take j)).length ≤ 7400010 := by
    have h1 := plsB_len (HL.out.2.2.take j)
    have h2 : (t.take j).length ≤ t.length := by simp; omega
    have h3 := HPRE.out.2
    have h4 := HL.out.2.1
    rw [List.length_append]
    omega
   have hf9 := wfixed hwr8 (id_byt HX.out.1 H8.out.1 HX.out.2.2.2.1) (by omega)
   have HLP := Lib.hid hlp
   have hq6s := lt_of_cells H8.out.2.1
   have HQ6 := Lib.hid hq6s
   obtain ⟨m, hm, hm2⟩ := mayN_nat HF.out.2.2.2.2.1
   have HM := Lib.hid (And.intro hm hm2)
   have hcvm := IntWalk.u64_in (m : Int) (by omega)
   clear hwr8 hlp hq6s hm hm2 hA HQ5
   go_upto_region 10 with (go_at_call 33; refine hf9.mono ?_; clear hf9; rintro _ w9 hp9; obtain ⟨rfl, hw9, ht9⟩ := hp9)
   have h69 : w9.heap[q6]? = some (.cells FS 37 (0, 0)) := (ht9.block _ (lt_of_cells H8.out.2.1) (fun h => by have := h.2; have := H8.out.2.2.2; omega)).trans H8.out.2.1
   have hf10 := wfixed hw9 (pl_byt HF.out.1 h69 HF.out.2.2.2.1) (by rw [List.length_append]; have := HLP.out; have := HX.out.2.2.2.1; omega)
   have H9 := Lib.hid (And.intro h69 ht9)
   clear h69 hw9 ht9
   go_upto_region 11 with (go_at_call 33; refine hf10.mono ?_; clear hf10; rintro _ w10 hp10; obtain ⟨rfl, hw10, ht10⟩ := hp10)
   have h610 : w10.heap[q6]? = some (.cells FS 37 (0, 0)) := (ht10.block _ (lt_of_cells H9.out.1) (fun h => by
    have h1 := HQ6.out
    have h2 := H8.out.2.2.2
    rcases h with h | h
    ·have := h.2; omega
    ·omega)).trans H9.out.1
   have hcn : w10.cell? ⟨q6, 32, none⟩ = some (.int .i64 (m : Int)) := by
    rw [cell_of_cells h610, HF.out.1, plC_n HF.out.2.2.2.1, HM.out.1]
   have hu11 := wuint hw10 (x := m) (by have := HM.out.2; omega) (by rw [List.length_append, List.length_append]; have := HLP.out; have := HX.out.2.2.2.1; have := HF.out.2.2.2.1; omega)
   have H10 := Lib.hid ht10
   clear h610 hw10 ht10
   go_wp2_with (go_at_call 32; refine hu11.mono ?_; clear hu11; rintro _ w11 hp11; obtain ⟨rfl, hw11, ht11⟩ := hp11; have H11 := Lib.hid (And.intro hw11 ht11); clear hw11 ht11)
   refine ⟨?_, by have := HN.out; simp only [intOf]; omega⟩
   have hs8 : w4.heap.size ≤ wr.heap.size := HK.out.2.size
   have hs9 := H8.out.2.2.1.size
   have hs34 : w3.heap.size ≤ w4.heap.size := HB.out.2.1.size
   have hs0 := HB.out.2.2
   have hs89 := H9.out.2.size
   have hs910 := H10.out.size
   have hT : ∀ k, wr.heap.size ≤ k → dArF w.heap.size w3.heap.size w4.heap.size k := fun k hk => ⟨by omega, by omega⟩
   refine ⟨j + 1, by have := HN.out; omega, by simp, ?_, ?_⟩
   ·have htk : t.take (j + 1) = t.take j ++ [x] := by
      obtain ⟨hjl, hxe⟩ := List.getElem?_eq_some_iff.1 HF.out.2.2.2.2.2
      rw [List.take_succ_eq_append_getElem hjl, hxe]
    rw [htk, plsB_snoc]
    have e : pre ++ (plsB (t.take j) ++ plB x) = pre ++ plsB (t.take j) ++ x.1 ++ x.2.1 ++ put m := by
     unfold plB
     rw [HM.out.1, Int.toNat_natCast]
     simp
    rw [e]
    refine H11.out.1.mono fun k hk h => ?_
    rcases h with ((h | h) | h) | h
    ·exact h.1
    ·exact hT k (by omega)
    ·exact hT k (by omega)
    ·exact hT k (by omega)
   ·refine (HK.out.2.trans (Turned.of_below (S := dArF w.heap.size w3.heap.size w4.heap.size) H8.out.2.2.1) fun _ _ h => h).trans ((H9.out.2.trans H10.out fun i hi h => ?_).trans H11.out.2 fun i hi h => ?_) fun i hi h => h.1
    ·rcases h with h | h
     ·exact h
     ·omega
    ·rcases h with (h | h) | h
     ·exact h
     ·omega
     ·omega
  ·obtain rfl : j = n := by have := HN.out; omega
   have hnl : ¬ (j : Int) < (j : Int) := by omega
   have hfull : t.take j = t := List.take_of_length_le (by have := HN.out; omega)
   have h1 := HK.out.1
   rw [hfull, HPRE.out.1, HN.out, show put t.length ++ plsB t = ixB t from rfl] at h1
   have hcl : (ixB t).length ≤ 7400010 := by
    have h2 := plsB_len HL.out.2.2
    have h3 := put_length_64 (x := t.length) (by have := HL.out.2.1; omega)
    have h4 := HL.out.2.1
    unfold ixB
    rw [List.length_append]
    omega
   have hout := wout h1 (by omega)
   have HBW := Lib.hid ((HB.out.1.trans (HB.out.2.1.mono HB.out.2.2)).trans ((HK.out.2.mono (T := (w.heap.size ≤ ·)) fun k _ h => h.1).below (by have := HB.out.2.1.size; have := HB.out.2.2; omega)))
   clear hlt h1 hfull hcl
   obtain ⟨M, hM⟩ : ∃ M, M = (ixB t).length := ⟨_, rfl⟩
   rw [← hM] at hout
   have HM := Lib.hid hM
   clear hM
   go_wp2_with (go_at_call 34; refine hout.mono ?_; clear hout; rintro _ w8 ⟨A8, c8, rfl, hy8, hb8, _⟩; have H8 := Lib.hid (And.intro (hy8.mono (T := (w.heap.size ≤ ·)) fun k _ hk => Nat.le_trans HBW.out.size hk) (HBW.out.trans (hb8.mono HBW.out.size))); clear hy8 hb8)
   go_ret
   exact ⟨A8, c8, by rw [← HM.out]; rfl, by rw [← HM.out]; exact H8.out.1, H8.out.2⟩
end Go.Proofs.Ytmmibldchfmleaa

namespace Go.Proofs.Ytmmibldchfmleaa
open Go.RowKit
theorem st_list (l : List UInt8) : (st l).toList = l := by simp [st]
theorem st_app (l m : List UInt8) : st l ++ st m = st (l ++ m) := by
 unfold st
 apply ByteArray.ext
 simp
end Go.Proofs.Ytmmibldchfmleaa

namespace Go.Proofs.Ytmmibldchfmleaa
open Go.RowKit Codec
theorem esByt {w : World} {b off : Nat} {l : List UInt8} (h : ∀ u v, (row8 l)[u]? = some v → w.cell? ((⟨b, off, none⟩ : Addr).add u) = some v) (hb : b < w.heap.size) (h32 : l.length = 32) : Byt w (fun _ => True) (some ⟨b, off, none⟩) 32 32 l :=
 ⟨h32, Nat.le_refl _, by unfold maxLen; omega, fun _ => ⟨b, off, rfl, trivial, hb, fun i hi => by
   have h1 := h i (.int .u8 ((l[i]?.getD 0).toNat : Int)) (by
    rw [row8, List.getElem?_toArray, u8s, List.getElem?_map, List.getElem?_eq_getElem (by omega)]
    rfl)
   rwa [add_plain] at h1⟩⟩
def DrpR (w : World) (t : Tv Pl) (v i : Value) (wr : World) : Prop :=
 ∃ j : Nat, j ≤ t.length ∧ i = .int .i64 (j : Int) ∧ v = .string (st (put t.length ++ plsB (t.take j))) ∧ Below w.heap.size w wr
theorem dstrB_st (l : List UInt8) : strB l = st l := rfl
set_option maxHeartbeats 8000000 in
set_option maxRecDepth 100000 in
theorem drput_any {w : World} {S : Nat → Prop} {A : Option Addr} {n c : Nat} {t : Tv Pl} (ht : Es w S A n c t) (hok : OkT t) (hn : n ≤ 100000) :
    Calls Try.prog 24 #[.slice A n c] w fun e w' => e = .returned (.string (st (ixB t))) ∧ Below w.heap.size w w' := by
 have HL := Lib.hid (And.intro ht (And.intro ht.len hok))
 have hcv := IntWalk.u64_in (n : Int) (by omega)
 have hpu0 := ref_put 10 n w (by have : (128 : Nat) ^ 10 = 1180591620717411303424 := by decide
                                 omega) (by omega)
 clear ht hok
 go_enter Try.func24, Try.ntmps24
 go_upto_region 2 with (go_at_call 41; refine hpu0.mono ?_; clear hpu0; rintro _ w1 ⟨rfl, hb1⟩)
 obtain ⟨PRE, hPRE⟩ : ∃ PRE, PRE = put n := ⟨_, rfl⟩
 rw [← hPRE, dstrB_st]
 have HP : Hid (PRE = put n ∧ PRE.length ≤ 20) := Lib.hid ⟨hPRE, by rw [hPRE]; have h2 := put_length_64 (x := n) (by omega); omega⟩
 have H0 : Hid (DrpR w t (.string (st PRE)) (.int .i64 0) w1) := Lib.hid ⟨0, Nat.zero_le _, rfl, by rw [hPRE, HL.out.2.1]; simp [plsB], hb1⟩
 clear hb1 hPRE hcv
 go_wp2_with fail
 go_loopw [3, 4] (fun v i wr => DrpR w t v i wr) (fun _ i _ => n - (intOf i).toNat)
 case atStart => exact H0.out
 case round =>
  obtain ⟨j, hj, rfl, rfl, hb⟩ := hrel
  clear H0
  obtain ⟨T, hT⟩ : ∃ T, T = put t.length ++ plsB (t.take j) := ⟨_, rfl⟩
  rw [← hT]
  have HT : Hid (T = put t.length ++ plsB (t.take j) ∧ T.length ≤ 10000000) := Lib.hid ⟨hT, by
   rw [hT, List.length_append]
   have h1 := plsB_len (t := t.take j) fun x hx => HL.out.2.2 x (List.mem_of_mem_take hx)
   have h2 := HP.out
   rw [h2.1, ← HL.out.2.1] at h2
   rw [List.length_take] at h1
   have := HL.out.2.1
   omega⟩
  have HB := Lib.hid hb
  clear hT hb
  by_cases hlt : j < n
  ·have hlt' : (j : Int) < (n : Int) := by omega
   have hadd := IntWalk.i64_in ((j : Int) + 1) (by omega)
   obtain ⟨q, off, e, rfl, hql, he, h1, h2, hc1, hc2, hc3⟩ := HL.out.1.at_ hlt
   obtain ⟨_, _, hmay⟩ := HL.out.2.2 e (List.mem_of_getElem? he)
   obtain ⟨X, hX, hX2⟩ := mayN_nat hmay
   rw [hX] at hc3
   have hXu := IntWalk.u64_in (X : Int) (by omega)
   obtain ⟨PX, hPX⟩ : ∃ PX, PX = put X := ⟨_, rfl⟩
   have HPU : Hid (∀ W, Calls Try.prog 41 #[.int .u64 (X : Int)] W fun e w' => e = .returned (.string (st PX)) ∧ Below W.heap.size W w') := Lib.hid fun W => by
    rw [hPX]
    exact ref_put 10 X W (by have : (128 : Nat) ^ 10 = 1180591620717411303424 := by decide
                             omega) (by omega)
   obtain ⟨I1, hI1⟩ : ∃ I1, I1 = e.1 := ⟨_, rfl⟩
   obtain ⟨I2, hI2⟩ : ∃ I2, I2 = e.2.1 := ⟨_, rfl⟩
   rw [← hI1] at hc1 h1
   rw [← hI2] at hc2 h2
   have HLEN : Hid (I1.length = 32 ∧ I2.length = 32 ∧ PX.length ≤ 20) := Lib.hid ⟨h1, h2, by rw [hPX]; have h2 := put_length_64 (x := X) (by omega); omega⟩
   have HC : Hid (∀ W, Below wr.drew.heap.size wr.drew W → Byt W (fun _ => True) (some ⟨q, off + j * 65, none⟩) 32 32 I1 ∧ Byt W (fun _ => True) (some ⟨q, off + j * 65 + 32, none⟩) 32 32 I2 ∧ W.cell? ⟨q, off + j * 65 + 64, none⟩ = some (.int .i64 (X : Int))) := Lib.hid fun W hW => by
    have hw := HB.out.trans ((Grow.below_of_drew hW).mono HB.out.size)
    exact ⟨(esByt hc1 hql h1).below hw, (esByt hc2 hql h2).below hw, (hw.cell (p := ⟨_, _, none⟩) hql).trans hc3⟩
   have HNX : Hid (T ++ (I1 ++ (I2 ++ PX)) = put t.length ++ plsB (t.take (j + 1))) := Lib.hid (by
    rw [HT.out.1, ddtake_snoc' he, plsB_snoc, plB, hI1, hI2, hPX, hX, Int.toNat_natCast]; simp)
   clear hql he h1 h2 hc1 hc2 hc3 hmay hX hPX hI1 hI2 hj
   go_wp2
   refine wp_region_grow (fun W W' => Below W.heap.size W W') (Grow.nth [fun v _ => v = .string (st T), fun v _ => v = .slice (some ⟨q, off, none⟩) n c, fun v _ => v = .int .i64 (j : Int), fun v _ => v = .pointer (some ⟨q, off + j * 65, none⟩), fun v _ => v = .pointer (some ⟨q, off + j * 65, none⟩), fun v _ => v = .slice (some ⟨q, off + j * 65, none⟩) 32 32, fun v _ => v = .string (st I1), fun v _ => v = .slice (some ⟨q, off, none⟩) n c, fun v _ => v = .int .i64 (j : Int), fun v _ => v = .pointer (some ⟨q, off + j * 65, none⟩), fun v _ => v = .pointer (some ⟨q, off + j * 65 + 32, none⟩), fun v _ => v = .slice (some ⟨q, off + j * 65 + 32, none⟩) 32 32, fun v _ => v = .string (st I2), fun v _ => v = .string (st (I1 ++ I2)), fun v _ => v = .slice (some ⟨q, off, none⟩) n c, fun v _ => v = .int .i64 (j : Int), fun v _ => v = .pointer (some ⟨q, off + j * 65, none⟩), fun v _ => v = .pointer (some ⟨q, off + j * 65 + 64, none⟩), fun v _ => v = .int .i64 (X : Int), fun v _ => v = .int .u64 (X : Int), fun v _ => v = .string (st PX), fun v _ => v = .string (st (I1 ++ (I2 ++ PX))), fun v _ => v = .string (st (T ++ (I1 ++ (I2 ++ PX)))), fun v _ => v = .string (st (T ++ (I1 ++ (I2 ++ PX))))]) 39 (by kernel_rfl) (by kernel_rfl) (by rfl) (fun W => Below.refl _ W) (fun _ _ _ h1 h2 => h1.trans (h2.mono h1.size)) (Grow.mono_nth ?gmono) ?gsteps ?gfin
   case gmono => exact ⟨fun _ _ _ h _ => h, fun _ _ _ h _ => h, fun _ _ _ h _ => h, fun _ _ _ h _ => h, fun _ _ _ h _ => h, fun _ _ _ h _ => h, fun _ _ _ h _ => h, fun _ _ _ h _ => h, fun _ _ _ h _ => h, fun _ _ _ h _ => h, fun _ _ _ h _ => h, fun _ _ _ h _ => h, fun _ _ _ h _ => h, fun _ _ _ h _ => h, fun _ _ _ h _ => h, fun _ _ _ h _ => h, fun _ _ _ h _ => h, fun _ _ _ h _ => h, fun _ _ _ h _ => h, fun _ _ _ h _ => h, fun _ _ _ h _ => h, fun _ _ _ h _ => h, fun _ _ _ h _ => h, fun _ _ _ h _ => h, trivial⟩
   case gsteps =>
    show Grow.allBelow _ 24
    refine And.intro ?_ ?s23
    refine And.intro ?_ ?s22
    refine And.intro ?_ ?s21
    refine And.intro ?_ ?s20
    refine And.intro ?_ ?s19
    refine And.intro ?_ ?s18
    refine And.intro ?_ ?s17
    refine And.intro ?_ ?s16
    refine And.intro ?_ ?s15
    refine And.intro ?_ ?s14
    refine And.intro ?_ ?s13
    refine And.intro ?_ ?s12
    refine And.intro ?_ ?s11
    refine And.intro ?_ ?s10
    refine And.intro ?_ ?s9
    refine And.intro ?_ ?s8
    refine And.intro ?_ ?s7
    refine And.intro ?_ ?s6
    refine And.intro ?_ ?s5
    refine And.intro ?_ ?s4
    refine And.intro ?_ ?s3
    refine And.intro ?_ ?s2
    refine And.intro ?_ ?s1
    refine And.intro ?_ ?s0
    exact trivial
    case s0 =>
     refine Grow.step_in (by rfl) (by rfl) ?_
     intro E W ec eg ef hG hd hu R HR
     have e3 : E (.tmp 3) = .string (st T) := hu 3 (by kernel_rfl)
     clear hd hu
     go_simp
     exact HR.out _ _ (Below.refl _ _) rfl
    case s1 =>
     refine Grow.step_in (by rfl) (by rfl) ?_
     intro E W ec eg ef hG hd hu R HR
     have e0 : E (.tmp 0) = .slice (some ⟨q, off, none⟩) n c := hu 0 (by kernel_rfl)
     clear hd hu
     go_simp
     exact HR.out _ _ (Below.refl _ _) rfl
    case s2 =>
     refine Grow.step_in (by rfl) (by rfl) ?_
     intro E W ec eg ef hG hd hu R HR
     have e4 : E (.tmp 4) = .int .i64 (j : Int) := hu 4 (by kernel_rfl)
     clear hd hu
     go_simp
     exact HR.out _ _ (Below.refl _ _) rfl
    case s3 =>
     refine Grow.step_in (by rfl) (by rfl) ?_
     intro E W ec eg ef hG hd hu R HR
     have e16 : E (.tmp 16) = .slice (some ⟨q, off, none⟩) n c := hd 1 16 (by kernel_rfl)
     have e17 : E (.tmp 17) = .int .i64 (j : Int) := hd 2 17 (by kernel_rfl)
     clear hd hu
     have hjl := hlt'
     go_simp
     first | exact HR.out _ _ (Below.refl _ _) rfl | (rw [if_pos ⟨by omega, by omega⟩]; exact HR.out _ _ (Below.refl _ _) rfl)
    case s4 =>
     refine Grow.step_in (by rfl) (by rfl) ?_
     intro E W ec eg ef hG hd hu R HR
     have e18 : E (.tmp 18) = .pointer (some ⟨q, off + j * 65, none⟩) := hd 3 18 (by kernel_rfl)
     clear hd hu
     go_simp
     exact HR.out _ _ (Below.refl _ _) rfl
    case s5 =>
     refine Grow.step_in (by rfl) (by rfl) ?_
     intro E W ec eg ef hG hd hu R HR
     have e19 : E (.tmp 19) = .pointer (some ⟨q, off + j * 65, none⟩) := hd 4 19 (by kernel_rfl)
     clear hd hu
     go_simp
     exact HR.out _ _ (Below.refl _ _) rfl
    case s6 =>
     refine Grow.step_in (by rfl) (by rfl) ?_
     intro E W ec eg ef hG hd hu R HR
     have e20 : E (.tmp 20) = .slice (some ⟨q, off + j * 65, none⟩) 32 32 := hd 5 20 (by kernel_rfl)
     clear hd hu
     have hcv := byt_string (HC.out W hG).1
     go_simp
     exact HR.out _ _ (Below.refl _ _) rfl
    case s7 =>
     refine Grow.step_in (by rfl) (by rfl) ?_
     intro E W ec eg ef hG hd hu R HR
     have e0 : E (.tmp 0) = .slice (some ⟨q, off, none⟩) n c := hu 0 (by kernel_rfl)
     clear hd hu
     go_simp
     exact HR.out _ _ (Below.refl _ _) rfl
    case s8 =>
     refine Grow.step_in (by rfl) (by rfl) ?_
     intro E W ec eg ef hG hd hu R HR
     have e4 : E (.tmp 4) = .int .i64 (j : Int) := hu 4 (by kernel_rfl)
     clear hd hu
     go_simp
     exact HR.out _ _ (Below.refl _ _) rfl
    case s9 =>
     refine Grow.step_in (by rfl) (by rfl) ?_
     intro E W ec eg ef hG hd hu R HR
     have e22 : E (.tmp 22) = .slice (some ⟨q, off, none⟩) n c := hd 7 22 (by kernel_rfl)
     have e23 : E (.tmp 23) = .int .i64 (j : Int) := hd 8 23 (by kernel_rfl)
     clear hd hu
     have hjl := hlt'
     go_simp
     first | exact HR.out _ _ (Below.refl _ _) rfl | (rw [if_pos ⟨by omega, by omega⟩]; exact HR.out _ _ (Below.refl _ _) rfl)
    case s10 =>
     refine Grow.step_in (by rfl) (by rfl) ?_
     intro E W ec eg ef hG hd hu R HR
     have e24 : E (.tmp 24) = .pointer (some ⟨q, off + j * 65, none⟩) := hd 9 24 (by kernel_rfl)
     clear hd hu
     go_simp
     exact HR.out _ _ (Below.refl _ _) rfl
    case s11 =>
     refine Grow.step_in (by rfl) (by rfl) ?_
     intro E W ec eg ef hG hd hu R HR
     have e25 : E (.tmp 25) = .pointer (some ⟨q, off + j * 65 + 32, none⟩) := hd 10 25 (by kernel_rfl)
     clear hd hu
     go_simp
     exact HR.out _ _ (Below.refl _ _) rfl
    case s12 =>
     refine Grow.step_in (by rfl) (by rfl) ?_
     intro E W ec eg ef hG hd hu R HR
     have e26 : E (.tmp 26) = .slice (some ⟨q, off + j * 65 + 32, none⟩) 32 32 := hd 11 26 (by kernel_rfl)
     clear hd hu
     have hcv := byt_string (HC.out W hG).2.1
     go_simp
     exact HR.out _ _ (Below.refl _ _) rfl
    case s13 =>
     refine Grow.step_in (by rfl) (by rfl) ?_
     intro E W ec eg ef hG hd hu R HR
     have e21 : E (.tmp 21) = .string (st I1) := hd 6 21 (by kernel_rfl)
     have e27 : E (.tmp 27) = .string (st I2) := hd 12 27 (by kernel_rfl)
     clear hd hu
     have s1 := st_size I1
     have s2 := st_size I2
     have s3 := st_size PX
     have s4 := st_size T
     have s5 := st_size (I1 ++ I2)
     have s6 := st_size (I1 ++ (I2 ++ PX))
     rw [List.length_append] at s5
     rw [List.length_append, List.length_append] at s6
     have l1 := HLEN.out
     have l2 := HT.out.2
     go_simp
     first | (rw [st_app]; exact HR.out _ _ (Below.refl _ _) rfl) | (rw [if_neg (by omega), st_app]; exact HR.out _ _ (Below.refl _ _) rfl)
    case s14 =>
     refine Grow.step_in (by rfl) (by rfl) ?_
     intro E W ec eg ef hG hd hu R HR
     have e0 : E (.tmp 0) = .slice (some ⟨q, off, none⟩) n c := hu 0 (by kernel_rfl)
     clear hd hu
     go_simp
     exact HR.out _ _ (Below.refl _ _) rfl
    case s15 =>
     refine Grow.step_in (by rfl) (by rfl) ?_
     intro E W ec eg ef hG hd hu R HR
     have e4 : E (.tmp 4) = .int .i64 (j : Int) := hu 4 (by kernel_rfl)
     clear hd hu
     go_simp
     exact HR.out _ _ (Below.refl _ _) rfl
    case s16 =>
     refine Grow.step_in (by rfl) (by rfl) ?_
     intro E W ec eg ef hG hd hu R HR
     have e29 : E (.tmp 29) = .slice (some ⟨q, off, none⟩) n c := hd 14 29 (by kernel_rfl)
     have e30 : E (.tmp 30) = .int .i64 (j : Int) := hd 15 30 (by kernel_rfl)
     clear hd hu
     have hjl := hlt'
     go_simp
     first | exact HR.out _ _ (Below.refl _ _) rfl | (rw [if_pos ⟨by omega, by omega⟩]; exact HR.out _ _ (Below.refl _ _) rfl)
    case s17 =>
     refine Grow.step_in (by rfl) (by rfl) ?_
     intro E W ec eg ef hG hd hu R HR
     have e31 : E (.tmp 31) = .pointer (some ⟨q, off + j * 65, none⟩) := hd 16 31 (by kernel_rfl)
     clear hd hu
     go_simp
     exact HR.out _ _ (Below.refl _ _) rfl
    case s18 =>
     refine Grow.step_in (by rfl) (by rfl) ?_
     intro E W ec eg ef hG hd hu R HR
     have e32 : E (.tmp 32) = .pointer (some ⟨q, off + j * 65 + 64, none⟩) := hd 17 32 (by kernel_rfl)
     clear hd hu
     have hcc := (HC.out W hG).2.2
     go_simp
     exact HR.out _ _ (Below.refl _ _) rfl
    case s19 =>
     refine Grow.step_in (by rfl) (by rfl) ?_
     intro E W ec eg ef hG hd hu R HR
     have e33 : E (.tmp 33) = .int .i64 (X : Int) := hd 18 33 (by kernel_rfl)
     clear hd hu
     go_simp
     exact HR.out _ _ (Below.refl _ _) rfl
    case s20 =>
     refine Grow.step_in (by rfl) (by rfl) ?_
     intro E W ec eg ef hG hd hu R HR
     have e34 : E (.tmp 34) = .int .u64 (X : Int) := hd 19 34 (by kernel_rfl)
     clear hd hu
     have hcc := HPU.out W
     go_simp
     refine hcc.mono ?_
     rintro _ _ ⟨rfl, hbb⟩
     exact ⟨_, rfl, HR.out _ _ hbb rfl⟩
    case s21 =>
     refine Grow.step_in (by rfl) (by rfl) ?_
     intro E W ec eg ef hG hd hu R HR
     have e28 : E (.tmp 28) = .string (st (I1 ++ I2)) := hd 13 28 (by kernel_rfl)
     have e35 : E (.tmp 35) = .string (st PX) := hd 20 35 (by kernel_rfl)
     clear hd hu
     have s1 := st_size I1
     have s2 := st_size I2
     have s3 := st_size PX
     have s4 := st_size T
     have s5 := st_size (I1 ++ I2)
     have s6 := st_size (I1 ++ (I2 ++ PX))
     rw [List.length_append] at s5
     rw [List.length_append, List.length_append] at s6
     have l1 := HLEN.out
     have l2 := HT.out.2
     go_simp
     first | (rw [st_app, List.append_assoc]; exact HR.out _ _ (Below.refl _ _) rfl) | (rw [if_neg (by omega), st_app, List.append_assoc]; exact HR.out _ _ (Below.refl _ _) rfl)
    case s22 =>
     refine Grow.step_in (by rfl) (by rfl) ?_
     intro E W ec eg ef hG hd hu R HR
     have e15 : E (.tmp 15) = .string (st T) := hd 0 15 (by kernel_rfl)
     have e36 : E (.tmp 36) = .string (st (I1 ++ (I2 ++ PX))) := hd 21 36 (by kernel_rfl)
     clear hd hu
     have s1 := st_size I1
     have s2 := st_size I2
     have s3 := st_size PX
     have s4 := st_size T
     have s5 := st_size (I1 ++ I2)
     have s6 := st_size (I1 ++ (I2 ++ PX))
     rw [List.length_append] at s5
     rw [List.length_append, List.length_append] at s6
     have l1 := HLEN.out
     have l2 := HT.out.2
     go_simp
     first | (rw [st_app]; exact HR.out _ _ (Below.refl _ _) rfl) | (rw [if_neg (by omega), st_app]; exact HR.out _ _ (Below.refl _ _) rfl)
    case s23 =>
     refine Grow.step_in (by rfl) (by rfl) ?_
     intro E W ec eg ef hG hd hu R HR
     have e37 : E (.tmp 37) = .string (st (T ++ (I1 ++ (I2 ++ PX)))) := hd 22 37 (by kernel_rfl)
     clear hd hu
     go_simp
     exact HR.out _ _ (Below.refl _ _) rfl
   case gfin =>
    intro W hG
    refine Grow.fin_dst (by rfl) ?_
    rintro _ rfl
    refine Grow.fin_dst (by rfl) ?_
    rintro _ rfl
    refine Grow.fin_dst (by rfl) ?_
    rintro _ rfl
    refine Grow.fin_dst (by rfl) ?_
    rintro _ rfl
    refine Grow.fin_dst (by rfl) ?_
    rintro _ rfl
    refine Grow.fin_dst (by rfl) ?_
    rintro _ rfl
    refine Grow.fin_dst (by rfl) ?_
    rintro _ rfl
    refine Grow.fin_dst (by rfl) ?_
    rintro _ rfl
    refine Grow.fin_dst (by rfl) ?_
    rintro _ rfl
    refine Grow.fin_dst (by rfl) ?_
    rintro _ rfl
    refine Grow.fin_dst (by rfl) ?_
    rintro _ rfl
    refine Grow.fin_dst (by rfl) ?_
    rintro _ rfl
    refine Grow.fin_dst (by rfl) ?_
    rintro _ rfl
    refine Grow.fin_dst (by rfl) ?_
    rintro _ rfl
    refine Grow.fin_dst (by rfl) ?_
    rintro _ rfl
    refine Grow.fin_dst (by rfl) ?_
    rintro _ rfl
    refine Grow.fin_dst (by rfl) ?_
    rintro _ rfl
    refine Grow.fin_dst (by rfl) ?_
    rintro _ rfl
    refine Grow.fin_dst (by rfl) ?_
    rintro _ rfl
    refine Grow.fin_dst (by rfl) ?_
    rintro _ rfl
    refine Grow.fin_dst (by rfl) ?_
    rintro _ rfl
    refine Grow.fin_dst (by rfl) ?_
    rintro _ rfl
    refine Grow.fin_dst (by rfl) ?_
    rintro _ rfl
    refine Grow.fin_dst (by rfl) ?_
    rintro _ rfl
    simp only [Act.put, List.setIfInBounds_toArray, List.set_cons_zero, List.set_cons_succ]
    refine Grow.fin_end ?_
    have HB2 : Hid (Below w.heap.size w W) := Lib.hid (HB.out.trans ((Grow.below_of_drew hG).mono HB.out.size))
    clear hG
    go_wp2_with fail
    go_roundw
    case rel => exact ⟨j + 1, by have := HL.out.2.1; omega, by simp, by rw [← HNX.out], HB2.out⟩
    case measure => simp only [intOf]; omega
  ·have hlt' : ¬ (j : Int) < (n : Int) := by omega
   have hfull : t.take j = t := List.take_of_length_le (by have := HL.out.2.1; omega)
   have HF : Hid (T = ixB t) := Lib.hid (by rw [HT.out.1, hfull]; rfl)
   clear hlt hfull hj
   go_wp2_with fail
   go_ret
   exact ⟨by rw [HF.out]; rfl, HB.out⟩
end Go.Proofs.Ytmmibldchfmleaa

namespace Go.Proofs.Ytmmibldchfmleaa
open Go.RowKit Go.Maps Codec
def zE : List UInt8 × Pl := (List.replicate 32 0, (List.replicate 32 0, 0))
def zEC : Array Value := (eC zE).toArray
theorem e_info3 : (Try.prog.info? 41).map (fun i => (i.zero, i.size, i.bytes)) = some (some (.agg zEC), 65, 72) := by unfold zEC eC zE u8s; kernel_rfl
theorem made_e : madeCells (Value.agg zEC).cells (1 * 65) = zEC := by unfold zEC eC zE u8s; kernel_rfl
set_option maxRecDepth 100000 in
theorem fill_e' {l m : List UInt8} {X : Int} (h1 : l.length = 32) (h2 : m.length = 32) : Instr.fill (fun i => some (i * 65, 65)) (u8s (List.replicate 32 0) ++ (u8s (List.replicate 32 0) ++ [Value.int .i64 0])).toArray [(0, .agg (u8s l ++ (u8s m ++ [Value.int .i64 X])).toArray)] = some (u8s l ++ (u8s m ++ [Value.int .i64 X])).toArray := by
 obtain ⟨a0, a1, a2, a3, a4, a5, a6, a7, a8, a9, b0, b1, b2, b3, b4, b5, b6, b7, b8, b9, c0, c1, c2, c3, c4, c5, c6, c7, c8, c9, d0, d1, rfl⟩ := list32' h1
 obtain ⟨e0, e1, e2, e3, e4, e5, e6, e7, e8, e9, f0, f1, f2, f3, f4, f5, f6, f7, f8, f9, g0, g1, g2, g3, g4, g5, g6, g7, g8, g9, i0, i1, rfl⟩ := list32' h2
 unfold u8s
 kernel_rfl
theorem fill_e {e : List UInt8 × Pl} (h1 : e.1.length = 32) (h2 : e.2.1.length = 32) : Instr.fill (fun i => some (i * 65, 65)) zEC [(0, .agg (eC e).toArray)] = some (eC e).toArray := fill_e' h1 h2
theorem run_e_lit (w : World) (XS : Array Value) {e : List UInt8 × Pl} (h : XS = (eC e).toArray) (h1 : e.1.length = 32) (h2 : e.2.1.length = 32) : (Instr.buildSlice 26 1 #[(0, .agg XS)]).run Try.prog w = .ok (.slice (some ⟨w.heap.size, 0, none⟩) 1 1) (w.alloc (.cells XS 41)) := by
 obtain ⟨i0, hi, hz0, hz1, _⟩ := info_parts e_info3
 have hm := made_e
 unfold madeCells at hm
 subst h
 refine run_buildSlice w 26 41 1 #[(0, .agg (eC e).toArray)] (eC e).toArray i0 (.agg zEC) Try.underlying26 hi hz0 (by rw [hz1]; omega) (by rw [hz1]; omega) ?_
 rw [hz1, hm]
 exact fill_e h1 h2
theorem eC_one (e : List UInt8 × Pl) : (eC e).all (·.oneCell') = true := by
 rw [List.all_eq_true]
 intro u hu
 unfold eC at hu
 rcases List.mem_append.1 hu with hu | hu
 ·exact u8s_one _ u hu
 ·rcases List.mem_append.1 hu with hu | hu
  ·exact u8s_one _ u hu
  ·simp only [List.mem_singleton] at hu
   rw [hu]
   rfl
def eCs (t : Tv Pl) : List Value := t.flatMap eC
theorem eCs_snoc (t : Tv Pl) (e : List UInt8 × Pl) : eCs (t ++ [e]) = eCs t ++ eC e := by simp [eCs]
theorem eCs_len {t : Tv Pl} (h : ∀ e ∈ t, e.1.length = 32 ∧ e.2.1.length = 32) : (eCs t).length = t.length * 65 := by
 induction t with
 | nil => rfl
 | cons e t ih =>
   have e1 : eCs (e :: t) = eC e ++ eCs t := rfl
   rw [e1, List.length_append, ih fun x hx => h x (by simp [hx]), eC_len (h e (by simp)).1 (h e (by simp)).2, List.length_cons]
   omega
theorem eCs_at : ∀ {t : Tv Pl} (_ : ∀ e ∈ t, e.1.length = 32 ∧ e.2.1.length = 32) {i : Nat} {e : List UInt8 × Pl} (_ : t[i]? = some e) {j : Nat} {v : Value} (_ : (eC e)[j]? = some v), (eCs t)[i * 65 + j]? = some v
 | [], _, i, e, he, _, _, _ => by simp at he
 | x :: t, h, 0, e, he, j, v, hv => by
   obtain rfl : x = e := by simpa using he
   have e1 : eCs (x :: t) = eC x ++ eCs t := rfl
   rw [e1, Nat.zero_mul, Nat.zero_add, List.getElem?_append_left (List.getElem?_eq_some_iff.1 hv).1]
   exact hv
 | x :: t, h, i + 1, e, he, j, v, hv => by
   have e1 : eCs (x :: t) = eC x ++ eCs t := rfl
   have hl := eC_len (h x (by simp)).1 (h x (by simp)).2
   rw [e1, List.getElem?_append_right (by omega), hl, show (i + 1) * 65 + j - 65 = i * 65 + j by omega]
   exact eCs_at (fun y hy => h y (by simp [hy])) (by simpa using he) hv
theorem Es.of_own {W : World} {B : Nat} {A : Option Addr} {n c : Nat} {t : Tv Pl} (h : W.ownsRow B 41 65 (.slice A n c) n (eCs t)) (he : ∀ e ∈ t, e.1.length = 32 ∧ e.2.1.length = 32) (hl : t.length = n) : Es W (B ≤ ·) A n c t := by
 rcases h.2 with ⟨e, e0⟩ | ⟨g, cap, cur, e, hb, hg, hc, hm, _⟩
 ·injection e with e1 e2 e3
  subst e0
  rw [List.eq_nil_of_length_eq_zero hl, e3]
  exact Es.nil _ _ _ _ (Nat.zero_le _)
 ·injection e with e1 e2 e3
  subst e3
  exact ⟨hl, he, hc, hm, fun _ => ⟨g, 0, e1, hb, lt_of_cells hg, fun i x hx j v hv => by
   have h1 := eCs_at he hx hv
   have h2 := (List.getElem?_eq_some_iff.1 h1).1
   subst e1
   rw [Nat.zero_add, h.cellAt _ (by rw [eCs_len he, hl] at h2; exact h2), h1]⟩⟩
theorem epush {W : World} {B : Nat} {v : Value} {t : Tv Pl} {e : List UInt8 × Pl} (h : W.ownsRow B 41 65 v t.length (eCs t)) (h1 : e.1.length = 32) (h2 : e.2.1.length = 32) (hB : B ≤ W.heap.size) (hn : t.length ≤ 1000000) (ty : TypeId) :
    ∃ A' c' W1, (Builtin.append_ #[26, 26] ty #[v, .slice (some ⟨W.heap.size, 0, none⟩) 1 1]).run Try.prog (W.alloc (.cells (eC e).toArray 41)) = .ok (.slice A' (t.length + 1) c') W1 ∧ W1.ownsRow B 41 65 (.slice A' (t.length + 1) c') (t ++ [e]).length (eCs (t ++ [e])) ∧ Below B W W1 := by
 obtain ⟨i1, hi, hz0, hz1, hz2⟩ := info_parts e_info3
 have hk : (W.alloc (.cells (eC e).toArray 41)).ownsRow B 41 65 v t.length (eCs t) := by
  refine ⟨h.1, ?_⟩
  rcases h.2 with hn | ⟨g, cap, cur, x1, x2, x3, rest⟩
  ·exact .inl hn
  ·exact .inr ⟨g, cap, cur, x1, x2, (Below.heap_alloc _ _ _ (lt_of_cells x3)).trans x3, rest⟩
 obtain ⟨v', W1, hrun, g1, g2, _, g4⟩ := run_append_own_at (P := Try.prog) (W.alloc (.cells (eC e).toArray 41)) B 26 ty 41 i1 (.agg zEC) 65 72 Try.underlying26 hi hz0 hz1 hz2 (by unfold zEC eC zE u8s; rfl) (by decide) v _ _ hk ⟨W.heap.size, 0, none⟩ 1 1 (eC e) (eC_len h1 h2)
     (fun j u hj => by rw [add_plain, Nat.zero_add, cell_of_cells (heap_alloc_new W _)]; simpa using hj) (fun u hu => List.all_eq_true.1 (eC_one e) u hu) (by unfold maxLen; omega) (by omega) (by simp; omega)
 obtain ⟨A', c', rfl⟩ : ∃ A' c', v' = .slice A' (t.length + 1) c' := by
  rcases g1.2 with ⟨_, e0⟩ | ⟨g, cap, cur, rfl, _⟩
  ·omega
  ·exact ⟨_, cap, rfl⟩
 refine ⟨A', c', W1, hrun, ?_, ((Below.refl B W).alloc hB _).grown g2 (by simp; omega) fun k hk' => (hk.lt k hk').1⟩
 rw [List.length_append, eCs_snoc]
 exact g1
end Go.Proofs.Ytmmibldchfmleaa

namespace Go.Proofs.Ytmmibldchfmleaa
open Go.RowKit Go.Maps Codec
theorem e_size : (Try.prog.info? 41).map (·.size) = some 65 := by kernel_rfl
theorem dropT_snoc (t : Tv Pl) (e : List UInt8 × Pl) (pk : List UInt8) : dropT (t ++ [e]) pk = dropT t pk ++ (if e.2.1 = pk then [] else [e]) := by
 unfold dropT
 rw [List.filter_append]
 by_cases h : e.2.1 = pk <;> simp [h]
theorem wpList_lit1 {P : Program} {ops : Array Oper} {rest : List Oper} {o : Oper} {a : Act} {w w' : World} {Q : Exit → Act → World → Prop} (hgd : o.guard = none) (t : TypeId) (x : Operand) (ho : o.op = .buildSlice t 1 #[(0, x)]) {u v' : Value} (hx : a.eval x = u)
    (hrun : (Instr.buildSlice t 1 #[(0, u)]).run P w = .ok v' w') (h : wpList P ops Q rest (a.put o.dst v') w') : wpList P ops Q (o :: rest) a w :=
 wpList_plain hgd fun K hK => by
  unfold Oper.wp execOp
  simp only [ho, Sem.run_bind, Sem.run_pure, Result.andThen_ok, List.map_toArray, List.map_cons, List.map_nil, hx, hrun]
  exact hK _ _ h
theorem eslice {W : World} {base : Nat} {e : TypeId} {size k : Nat} {v : Value} {xs : List Value} (h : W.ownsRow base e size v k xs) : ∃ A c, v = .slice A k c := by
 rcases h.2 with ⟨rfl, rfl⟩ | ⟨g, cap, cur, rfl, _⟩
 ·exact ⟨none, 0, rfl⟩
 ·exact ⟨_, cap, rfl⟩
theorem ddkeepE {w w' : World} {base : Nat} {e : TypeId} {size : Nat} {v : Value} {n : Nat} {xs : List Value} (h : w.ownsRow base e size v n xs) (hb : ∀ q, v.ownBlock = some q → w'.heap[q]? = w.heap[q]?) : w'.ownsRow base e size v n xs := by
 refine ⟨h.1, ?_⟩
 rcases h.2 with hn | ⟨g, cap, cur, h1, h2, h3, rest⟩
 ·exact .inl hn
 ·exact .inr ⟨g, cap, cur, h1, h2, (hb g (by rw [h1]; rfl)).trans h3, rest⟩
def DrdR (w1 : World) (t : Tv Pl) (pk : List UInt8) (v i : Value) (wr : World) : Prop :=
 ∃ j : Nat, j ≤ t.length ∧ i = .int .i64 (j : Int) ∧ wr.ownsRow w1.heap.size 41 65 v (dropT (t.take j) pk).length (eCs (dropT (t.take j) pk)) ∧ Below w1.heap.size w1 wr
set_option maxHeartbeats 4000000 in
set_option maxRecDepth 100000 in
theorem drdrop_any {w : World} {S : Nat → Prop} {A : Option Addr} {n c : Nat} {t : Tv Pl} (h : Es w S A n c t) (hn : n ≤ 100000) {pk : List UInt8} (hk : pk.length = 32) :
    Calls Try.prog 12 #[.slice A n c, .agg (row8 pk)] w fun e w' => ∃ A' c', e = .returned (.tuple #[.slice A' (dropT t pk).length c', .int .i64 ((t.length - (dropT t pk).length : Nat) : Int)]) ∧ Es w' (w.heap.size ≤ ·) A' (dropT t pk).length c' (dropT t pk) ∧ Below w.heap.size w w' := by
 obtain ⟨KS, hKS⟩ : ∃ KS, KS = row8 pk := ⟨_, rfl⟩
 have hb1 : Below w.heap.size w (w.alloc (.cells KS 31)) := (Below.refl _ _).alloc (Nat.le_refl _) _
 have hr1 := heap_alloc_new w (.cells KS 31)
 rw [← hKS]
 have HK : Hid (KS = row8 pk ∧ KS.size = 32 ∧ pk.length = 32) := Lib.hid ⟨hKS, by rw [hKS, row8_size, hk], hk⟩
 have HH := Lib.hid (And.intro h (And.intro h.len hn))
 have H1 := Lib.hid (And.intro hb1 hr1)
 clear h hn hk hb1 hr1 hKS
 go_enter Try.func12, Try.ntmps12
 go_upto_region 3 with fail
 have HSZ : Hid ((w.alloc (.cells KS 31)).heap.size = w.heap.size + 1) := Lib.hid (by simp)
 generalize w.alloc (.cells KS 31) = w1 at H1 HSZ ⊢
 generalize hq : w.heap.size = q at H1 HSZ ⊢
 have HQ := Lib.hid hq
 clear hq
 go_loopw [6, 7] (fun v i wr => DrdR w1 t pk v i wr) (fun _ i _ => n - (intOf i).toNat)
 case atStart => exact ⟨0, Nat.zero_le _, rfl, by simpa [dropT, eCs] using World.ownsRow_nil _ _ _ _, Below.refl _ _⟩
 case round =>
  obtain ⟨j, hj, rfl, how, hbw⟩ := hrel
  obtain ⟨Av, cv, rfl⟩ := eslice how
  have hle : (dropT (t.take j) pk).length ≤ n := by
   have h1 := dropT_len (t.take j) pk
   rw [List.length_take] at h1
   have := HH.out.2.1
   omega
  by_cases hlt : j < n
  ·have hlt' : (j : Int) < (n : Int) := by omega
   obtain ⟨b, off, hA, _, hbl, hcc⟩ := HH.out.1.row (by omega)
   obtain ⟨b', off', e, hA', _, he, h1, h2, _, hc, _⟩ := HH.out.1.at_ hlt
   obtain ⟨rfl, rfl⟩ : b' = b ∧ off' = off := by
    rw [hA] at hA'
    injection hA' with e1
    injection e1 with e2 e3
    exact ⟨e2.symm, e3.symm⟩
   subst hA
   have hce := fun u v (hu : (eC e).toArray[u]? = some v) => hcc j e he u v (by rwa [List.getElem?_toArray] at hu)
   obtain ⟨PS, hPS⟩ : ∃ PS, PS = row8 e.2.1 := ⟨_, rfl⟩
   obtain ⟨ES, hES⟩ : ∃ ES, ES = (eC e).toArray := ⟨_, rfl⟩
   rw [← hPS] at hc
   rw [← hES] at hce
   have HE : Hid (PS.size = 32 ∧ ES.size = 65) := Lib.hid ⟨by rw [hPS, row8_size, h2], by rw [hES, List.size_toArray, eC_len h1 h2]⟩
   obtain ⟨Z, hZ⟩ : ∃ Z, Z = decide (e.2.1 = pk) := ⟨_, rfl⟩
   have hqe : ∀ W, (Op.equalIn 10000 31 (.agg PS) (.agg KS)).run Try.prog W = .ok Z W := fun W => by rw [hPS, HK.out.1, hZ]; exact dd_ideq _ _ h2 HK.out.2.2 W
   have hbq : b' < w1.heap.size := by have h1 := HSZ.out; have h2 := HQ.out; omega
   have hw1 : ∀ o, w.cell? ⟨b', o, none⟩ = (wr.drew).cell? ⟨b', o, none⟩ := fun o => ((hbw.cell (p := ⟨b', o, none⟩) hbq).trans (H1.out.1.cell (p := ⟨b', o, none⟩) (by have h2 := HQ.out; show b' < q; omega))).symm
   have hC : (fun W : World => (∀ u v, PS[u]? = some v → W.cell? ((⟨b', off' + j * 65 + 32, none⟩ : Addr).add u) = some v) ∧ W.heap[q]? = some (.cells KS 31 (0, 0))) wr.drew := ⟨fun u v hu => by
       have h := hc u v hu
       rw [add_plain] at h ⊢
       rw [← hw1]
       exact h, (hbw.block q (lt_of_cells H1.out.2)).trans H1.out.2⟩
   have HCE : Hid (∀ u v, ES[u]? = some v → wr.drew.cell? ((⟨b', off' + j * 65, none⟩ : Addr).add u) = some v) := Lib.hid fun u v hu => by
    have h := hce u v hu
    rw [add_plain, Nat.add_assoc, ← hw1]
    exact h
   have hlit := run_e_lit wr.drew ES hES h1 h2
   obtain ⟨A2, c2, w2, hap, how2, hb2⟩ := epush (W := wr.drew) (e := e) (ddkeepE how fun _ _ => rfl) h1 h2 hbw.size (by have := HH.out.2.2; omega) 26
   rw [← hES] at hap
   have hjj := IntWalk.i64_in ((j : Int) + 1) (by have := HH.out.2.2; omega)
   have HJ := Lib.hid (And.intro hlt (And.intro he hZ))
   have HO := Lib.hid (And.intro how (And.intro how2 (And.intro hbw hb2)))
   clear hZ hPS hES hc hcc hce he h1 h2 hbl hj hlt hbq hw1 how how2 hbw hb2 hle
   go_wp2
   refine wp_region_plan (fun W : World => (∀ u v, PS[u]? = some v → W.cell? ((⟨b', off' + j * 65 + 32, none⟩ : Addr).add u) = some v) ∧ W.heap[q]? = some (.cells KS 31 (0, 0))) [] [0, 1, 2, 3, 4, 5, 6] (by kernel_rfl) (by kernel_rfl) (fun _ _ d _ _ h => by cases d <;> exact h) hC ?_
   refine plan_last ?_
   refine seg_read ?v1 (by rfl) (by rfl) ?h1 ?_
   case h1 => intro W hW; go_simp; with_reducible rfl
   try simp only [Act.put, List.setIfInBounds_toArray, List.set_cons_zero, List.set_cons_succ]
   refine seg_read ?v2 (by rfl) (by rfl) ?h2 ?_
   case h2 => intro W hW; go_simp; with_reducible rfl
   try simp only [Act.put, List.setIfInBounds_toArray, List.set_cons_zero, List.set_cons_succ]
   refine seg_read ?v3 (by rfl) (by rfl) ?h3 ?_
   case h3 => intro W hW; go_simp; with_reducible rfl
   try simp only [Act.put, List.setIfInBounds_toArray, List.set_cons_zero, List.set_cons_succ]
   refine seg_read ?v4 (by rfl) (by rfl) ?h4 ?_
   case h4 => intro W hW; go_simp; with_reducible rfl
   try simp only [Act.put, List.setIfInBounds_toArray, List.set_cons_zero, List.set_cons_succ]
   refine seg_read (.agg PS) (by rfl) (by rfl) (fun W hW => exec_load_ad 31 (.tmp 17) (by rfl) ⟨b', off' + j * 65 + 32, none⟩ (by rfl) PS hW.1 Try.underlying31 (by rfl) (by rw [HE.out.1]; exact id_info)) ?_
   try simp only [Act.put, List.setIfInBounds_toArray, List.set_cons_zero, List.set_cons_succ]
   refine seg_read (.agg KS) (by rfl) (by rfl) (fun W hW => exec_load_st 31 (.tmp 3) (by rfl) q (by rfl) KS (0, 0) hW.2 _ Try.underlying31 (by rfl) (by rw [HK.out.2.1]; exact id_info)) ?_
   try simp only [Act.put, List.setIfInBounds_toArray, List.set_cons_zero, List.set_cons_succ]
   refine seg_read ?v5 (by rfl) (by rfl) ?h5 ?_
   case h5 => intro W hW; have hqw := hqe W; go_simp; with_reducible rfl
   try simp only [Act.put, List.setIfInBounds_toArray, List.set_cons_zero, List.set_cons_succ]
   refine seg_nil ?_
   cases Z
   ·go_wp2_with (first
      | (refine wpList_load_at (by rfl) 41 (.tmp 24) (by rfl) ⟨b', off' + j * 65, none⟩ (by rfl) ES _ HCE.out Try.underlying41 (by rfl) (by rw [HE.out.2]; exact e_size) ?_)
      | (refine wpList_lit1 (by rfl) 26 (.tmp 25) (by rfl) (by rfl) hlit ?_)
      | (at_builtin; refine wpList_app (by rfl) _ _ 26 (by rfl) (by rfl) (by rfl) hap ?_))
    have hne : ¬ e.2.1 = pk := of_decide_eq_false HJ.out.2.2.symm
    have hd : dropT (t.take (j + 1)) pk = dropT (t.take j) pk ++ [e] := by rw [ddtake_snoc' HJ.out.2.1, dropT_snoc, if_neg hne]
    exact ⟨⟨j + 1, by have := HJ.out.1; have := HH.out.2.1; omega, by simp, by rw [hd, show (dropT (t.take j) pk ++ [e]).length = (dropT (t.take j) pk).length + 1 by simp]; have h2 := HO.out.2.1; rw [show (dropT (t.take j) pk ++ [e]).length = (dropT (t.take j) pk).length + 1 by simp] at h2; exact h2, by
     have h3 := HO.out.2.2.1
     exact (below_drew h3).trans HO.out.2.2.2⟩, by have := HJ.out.1; simp only [intOf]; omega⟩
   ·go_wp2
    have hye : e.2.1 = pk := of_decide_eq_true HJ.out.2.2.symm
    have hd : dropT (t.take (j + 1)) pk = dropT (t.take j) pk := by rw [ddtake_snoc' HJ.out.2.1, dropT_snoc, if_pos hye, List.append_nil]
    exact ⟨⟨j + 1, by have := HJ.out.1; have := HH.out.2.1; omega, by simp, by rw [hd]; exact ddkeepE HO.out.1 fun _ _ => rfl, below_drew HO.out.2.2.1⟩, by have := HJ.out.1; simp only [intOf]; omega⟩
  ·obtain rfl : j = n := by have := HH.out.2.1; omega
   have hlt' : ¬ (j : Int) < (j : Int) := by omega
   have hfull : t.take j = t := List.take_of_length_le (by have := HH.out.2.1; omega)
   rw [hfull] at how hle ⊢
   obtain ⟨M, hM⟩ : ∃ M, M = (dropT t pk).length := ⟨_, rfl⟩
   rw [← hM] at hle ⊢
   have hsub : IntKind.i64.wrap ((j : Int) - (M : Int)) = ((j - M : Nat) : Int) := by rw [IntWalk.i64_in _ (by have := HH.out.2.2; omega)]; omega
   have HF : Hid (M = (dropT t pk).length ∧ wr.ownsRow w1.heap.size 41 65 (.slice Av (dropT t pk).length cv) (dropT t pk).length (eCs (dropT t pk)) ∧ Below w1.heap.size w1 wr) := Lib.hid ⟨hM, how, hbw⟩
   clear how hbw hle hj hlt hM hfull
   go_wp2
   go_ret2
   refine ⟨Av, cv, by rw [HF.out.1, HH.out.2.1]; rfl, ?_, ?_⟩
   ·exact (Es.of_own HF.out.2.1 (fun e he => HH.out.1.each e (List.mem_filter.1 he).1) rfl).mono fun k _ hk => by have h1 := HSZ.out; have h2 := HQ.out; have hk' : w1.heap.size ≤ k := hk; omega
   ·have h1 := H1.out.1
    rw [← HQ.out] at h1
    exact h1.trans (HF.out.2.2.mono (by have h1 := HSZ.out; have h2 := HQ.out; omega))
end Go.Proofs.Ytmmibldchfmleaa

namespace Go.Proofs.Ytmmibldchfmleaa
open Go.RowKit Go.Maps Codec
theorem e_sizeOf (w : World) : (Go.sizeOf 41).run Try.prog w = .ok 65 w := by
 obtain ⟨i0, hi, _, hz1, _⟩ := info_parts e_info3
 simp [Go.sizeOf, typeInfo, hi, hz1, Sem.run_bind]
def cutE (A : Option Addr) (c k : Nat) : Option Addr := if c = k then A else A.map (·.add (k * 65))
section
variable {w : World} {S : Nat → Prop} {A : Option Addr} {n c k : Nat} {t : Tv Pl}
theorem Es.to (h : Es w S A n c t) (hk : k ≤ n) : Es w S A k c (t.take k) :=
 ⟨by rw [List.length_take, h.len]; omega, fun e he => h.each e (List.mem_of_mem_take he), by have := h.cap; omega, h.max, fun h0 => by
   obtain ⟨b, off, rfl, hB, hb, hc⟩ := h.row (by omega)
   exact ⟨b, off, rfl, hB, hb, fun i e he => hc i e (by
    have hik : i < k := by have := (List.getElem?_eq_some_iff.1 he).1; rw [List.length_take] at this; omega
    rwa [List.getElem?_take_of_lt hik] at he)⟩⟩
theorem Es.from (h : Es w S A n c t) (hk : k ≤ n) : Es w S (cutE A c k) (n - k) (c - k) (t.drop k) :=
 ⟨by rw [List.length_drop, h.len], fun e he => h.each e (List.mem_of_mem_drop he), by have := h.cap; omega, by have := h.max; omega, fun h0 => by
   obtain ⟨b, off, rfl, hB, hb, hc⟩ := h.row (by omega)
   have := h.cap
   refine ⟨b, off + k * 65, ?_, hB, hb, fun i e he j v hv => ?_⟩
   ·unfold cutE
    rw [if_neg (by omega)]
    simp [Addr.add]
   ·rw [List.getElem?_drop] at he
    have h1 := hc (k + i) e he j v hv
    rwa [show off + k * 65 + (i * 65 + j) = off + ((k + i) * 65 + j) by omega]⟩
end
end Go.Proofs.Ytmmibldchfmleaa
