/-
  Dedup: Drop and Ids.
  Dedup: the calls of an index that is none.
  The library at this seat: slices.SortFunc of ids.
  Dedup: compare of two ids.
  A slice literal of one digest.
  Dedup: slices.AppendSeq and slices.Collect of an iterator over ids.
  Dedup: slices.SortedFunc of an iterator over ids, by compare.
  Dedup: 'm[k]++' on a map whose keys are ids.
-/
import Derived.Test.YtmmibldchfmleaaPk07
import Derived.Test.YtmmibldchfmleaaPk08
import Derived.Shelf.SlSortCmp.NoneTotal
import Derived.Ground.SlsfProg
import Derived.Test.YtmmibldchfmleaaProg
import Derived.Shelf.SlGeneric
import Derived.Test.YtmmibldchfmleaaPk02
import Derived.Test.YtmmibldchfmleaaPk03
import Derived.Lib.BytesEntry
import Derived.Laws.Externs
import Derived.Sort.Grow
import Derived.BigQuiet
import Derived.Great.BuildSlice
import Derived.Maps.AppendAt
import Derived.Test.YtmmibldchfmleaaPk04
import Derived.WideKeyEntry
/-! Dedup: Drop and Ids. -/
namespace Go.Proofs.Ytmmibldchfmleaa
open Go.RowKit Go.Maps

theorem dd_u8_info : (Try.prog.info? 5).map (fun i => (i.zero, i.size, i.bytes)) = some (some (.int .u8 0), 1, 1) := by kernel_rfl
theorem dd_ideq (l m : List UInt8) (hl : l.length = 32) (hm : m.length = 32) (w : World) : (Op.equalIn 10000 31 (.agg (row8 l)) (.agg (row8 m))).run Try.prog w = .ok (decide (l = m)) w := by
  obtain ⟨i0, hi, hz0, hz1, hz2⟩ := info_parts dd_u8_info
  exact run_equalIn_bytes w Try.underlying31 Try.underlying5 hi (by kernel_rfl) 9998 l m hl hm
/-- A place's pack, within it. -/
theorem pl_pack {w : World} {g : Nat} {v : Pl} {VS : Array Value} (hV : VS = plC v) (h : w.heap[g]? = some (.cells VS 37 (0, 0))) (hv : v.1.length = 32) {PS : Array Value} (hP : PS = row8 v.1) : ∀ j u, PS[j]? = some u → w.cell? ((⟨g, 0, none⟩ : Addr).add j) = some u := fun j u hj => by
  subst hP hV
  have hjl : j < 32 := by
    have := (Array.getElem?_eq_some_iff.1 hj).1
    rwa [row8_size, hv] at this
  rw [add_plain, Nat.zero_add, cell_of_cells h, plC_pack hv j hjl, hj]
/-- Between two rounds. -/
structure DrS (w : World) (p b r q : Nat) (pk : List UInt8) (t : Tv Pl) (lf : List UInt8 → Bool) (W : World) : Prop where
  rg : Rgv encP W b r (dropL t pk lf) lf
  box : W.heap[p]? = some (.cells #[.map (some b)] 66 (0, 0))
  row : W.heap[q]? = some (.cells (row8 pk) 31 (0, 0))
  tn : Turned (· = b) w W
  lo : w.heap.size ≤ r ∧ w.heap.size ≤ q ∧ q ≠ r
theorem DrS.ix {w W : World} {p b r q : Nat} {pk : List UInt8} {t : Tv Pl} {lf : List UInt8 → Bool} (h : DrS w p b r q pk t lf W) (ht : ∀ e ∈ t, e.2.1.length = 32) : Ix W p b (dropL t pk lf) := ⟨h.box, h.rg.kv, fun e he => ht e (List.mem_filter.1 he).1⟩
theorem DrS.later {w W W' : World} {p b r q : Nat} {pk : List UInt8} {t : Tv Pl} {lf : List UInt8 → Bool} (h : DrS w p b r q pk t lf W) (hb : Below W.heap.size W W') : DrS w p b r q pk t lf W' ∧ W'.rangeLeft b r = W.rangeLeft b r :=
  ⟨⟨(h.rg.below hb).1, (hb.block _ (lt_of_cells h.box)).trans h.box, (hb.block _ (lt_of_cells h.row)).trans h.row, h.tn.trans (Turned.of_below (S := (· = b)) hb) fun _ _ h => h, h.lo⟩, (h.rg.below hb).2⟩
set_option maxHeartbeats 4000000 in
set_option maxRecDepth 100000 in
/-- Drop. -/
theorem ixdrop_any {w : World} {p b : Nat} {t : Tv Pl} (h : Ix w p b t) (hl : t.length ≤ 1000000) {pk : List UInt8} (hk : pk.length = 32) :
    Calls Try.prog 10 #[.pointer (some ⟨p, 0, none⟩), .agg (row8 pk)] w (IxP w p b (dropT t pk) (.int .i64 ((t.length - (dropT t pk).length : Nat) : Int))) := by
  have hzi := zero_id
  obtain ⟨ZS, hZS⟩ : ∃ ZS, ZS = plC zPl := ⟨_, rfl⟩
  have hzp : ∀ W, (zeroValue 37).run Try.prog W = .ok (.agg ZS) W := fun W => by rw [hZS]; exact zero_pl W
  obtain ⟨KS, hKS⟩ : ∃ KS, KS = row8 pk := ⟨_, rfl⟩
  have hb1 : Below w.heap.size w (w.alloc (.cells KS 31)) := (Below.refl _ _).alloc (Nat.le_refl _) _
  have hi1 := h.below hb1
  have hr1 := heap_alloc_new w (.cells KS 31)
  have hcb := hi1.cell
  have hlen := hi1.map.len Try.underlying64 3
  rw [← hKS]
  have HKS : Hid (KS = row8 pk ∧ KS.size = 32) := Lib.hid ⟨hKS, by rw [hKS, row8_size, hk]⟩
  have HZS : Hid (ZS.size = 33) := Lib.hid (by rw [hZS, plC_size zPl_len])
  have HH := Lib.hid (And.intro h (And.intro hl hk))
  have H1 := Lib.hid (And.intro hi1 (And.intro hr1 hb1))
  clear h hl hk hb1 hr1 hKS hZS
  obtain ⟨N, hN⟩ : ∃ N, N = t.length := ⟨_, rfl⟩
  rw [← hN] at hlen ⊢
  have HN := Lib.hid hN
  clear hN
  have hkv := hi1.map
  clear hi1
  go_enter Try.func10, Try.ntmps10
  go_wp2_with (first
    | (at_range; refine wpList_range_kv _ rfl _ rfl Try.underlying64 rfl hkv ?_; intro w0 hrg0 hb0 hs0)
    | go_in)
  have hs1 : (w.alloc (.cells KS 31)).heap.size = w.heap.size + 1 := by simp
  have H0 : Hid (DrS w p b (w.alloc (.cells KS 31)).heap.size w.heap.size pk t (fun k => (getV t k).isSome) w0) := Lib.hid
    ⟨by rw [dropL_start fun e he => getV_isSome.2 (List.mem_map.2 ⟨e, he, rfl⟩)]; exact hrg0, (hb0.block _ (lt_of_cells H1.out.1.box)).trans H1.out.1.box,
     by rw [← HKS.out.1]; exact (hb0.block _ (lt_of_cells H1.out.2.1)).trans H1.out.2.1, (Turned.of_below (S := (· = b)) H1.out.2.2).trans (Turned.of_below (S := (· = b)) hb0) fun _ _ h => h, by omega, by omega, by omega⟩
  have HS := Lib.hid hs1
  clear hrg0 hb0 hs0 hkv hlen hcb H1 hs1
  simp only [World.size_alloc] at H0 ⊢
  obtain ⟨q, hq⟩ : ∃ q, q = w.heap.size := ⟨_, rfl⟩
  rw [← hq] at H0 ⊢
  obtain ⟨r, hr⟩ : ∃ r, r = q + 1 := ⟨_, rfl⟩
  rw [← hr] at H0 ⊢
  clear hr HS hq
  go_frame
  go_loopw [6, 7] (fun _ _ wr => ∃ lf, DrS w p b r q pk t lf wr) (fun _ _ wr => wr.rangeLeft b r)
  case atStart => exact ⟨_, H0.out⟩
  case round =>
    obtain ⟨lf, hdr⟩ := hrel
    clear H0
    have HD := Lib.hid hdr
    clear hdr
    go_wp2_with (first
      | (at_next; refine wpList_next_kv _ rfl _ rfl rfl HD.out.rg ?_ ?_)
      | go_in)
    · intro hlf
      have hix := HD.out.ix HH.out.1.val
      rw [dropL_end hlf] at hix
      have hcb := hix.cell
      obtain ⟨M, hM⟩ : ∃ M, M = (dropT t pk).length := ⟨_, rfl⟩
      have hMN : M ≤ N := by rw [hM, HN.out]; exact dropT_len _ _
      have hlen := hix.map.len Try.underlying64 3
      rw [← hM] at hlen
      have HX : Hid (Ix wr p b (dropT t pk) ∧ Turned (· = b) w wr) := Lib.hid ⟨hix, HD.out.tn⟩
      have hsub : IntKind.i64.wrap ((N : Int) - (M : Int)) = ((N - M : Nat) : Int) := by rw [IntWalk.i64_in _ (by have := HH.out.2.1; have := HN.out; omega)]; omega
      have HM := Lib.hid hM
      clear hix hlf HD hMN hM
      go_wp2
      go_ret
      exact ⟨by rw [← HM.out]; rfl, HX.out.1, HX.out.2⟩
    · intro k v1 v2 w2 hk32 hlk hgv hrg2 hlt hg2 hs2 hen
      obtain ⟨v, hve⟩ : ∃ v : Pl, v = (v1, v2) := ⟨_, rfl⟩
      have hrg2 : Rgv encP w2 b r (dropL t pk lf) (fun x => lf x && decide (x ≠ k)) := by simpa using hrg2
      rw [← hve] at hgv hen ⊢
      clear hve
      have hv32 : v.1.length = 32 := HH.out.1.val _ (List.mem_filter.1 (getV_some hgv)).1
      obtain ⟨XS, hXS⟩ : ∃ XS, XS = row8 k := ⟨_, rfl⟩
      obtain ⟨VS, hVS⟩ : ∃ VS, VS = plC v := ⟨_, rfl⟩
      rw [← hXS, show encP v = .agg VS by rw [hVS]; rfl] at hen ⊢
      have HXS : Hid (XS = row8 k ∧ XS.size = 32 ∧ XS.all (·.oneCell') = true ∧ k.length = 32) := Lib.hid ⟨hXS, by rw [hXS, row8_size, hk32], by rw [hXS]; exact row8_one _, hk32⟩
      have HVS : Hid (VS = plC v ∧ VS.size = 33 ∧ VS.all (·.oneCell') = true ∧ v.1.length = 32) := Lib.hid ⟨hVS, by rw [hVS, plC_size hv32], by rw [hVS]; exact plC_one _, hv32⟩
      have hb2 : Turned (· = r) wr w2 := Turned.of_gr hg2 fun _ e => (Option.some.inj e).symm
      have hlo := HD.out.lo
      have hbl := HH.out.1.map.lt
      have hpl := lt_of_cells HH.out.1.box
      have H2 : Hid (Rgv encP w2 b r (dropL t pk lf) (fun x => lf x && decide (x ≠ k)) ∧ w2.heap[p]? = some (.cells #[.map (some b)] 66 (0, 0)) ∧ w2.heap[q]? = some (.cells (row8 pk) 31 (0, 0)) ∧ Turned (· = b) w w2 ∧ w2.rangeLeft b r < wr.rangeLeft b r ∧ getV (dropL t pk lf) k = some v) := Lib.hid
        ⟨hrg2, (hb2.block _ (lt_of_cells HD.out.box) (by show ¬ p = r; omega)).trans HD.out.box, (hb2.block _ (lt_of_cells HD.out.row) hlo.2.2).trans HD.out.row, ⟨hb2.os.trans HD.out.tn.os, hb2.tape.trans HD.out.tn.tape, hb2.output.trans HD.out.tn.output, Nat.le_trans HD.out.tn.size hb2.size, fun i hi hne => (hb2.block i (Nat.lt_of_lt_of_le hi HD.out.tn.size) (by show ¬ i = r; omega)).trans (HD.out.tn.block i hi hne)⟩, hlt, hgv⟩
      have HLO := Lib.hid (And.intro hlo (And.intro hbl hpl))
      clear hrg2 hlt hg2 hs2 hlk hgv hk32 hXS hVS hb2 HD hlo hbl hpl hv32
      obtain ⟨q6, hq6⟩ : ∃ q6, q6 = w2.heap.size := ⟨_, rfl⟩
      obtain ⟨hz6, hz7, hbz⟩ := two_rows (w := w2) (a := zerosId) (b := ZS) (s := 31) (t := 37)
      obtain ⟨w4, hw4⟩ : ∃ w4, w4 = (((w2.alloc (.cells zerosId 31)).alloc (.cells ZS 37)).setRow w2.heap.size XS).setRow (w2.heap.size + 1) VS := ⟨_, rfl⟩
      have h7 : (((w2.alloc (.cells zerosId 31)).alloc (.cells ZS 37)).setRow w2.heap.size XS).heap[w2.heap.size + 1]? = some (.cells ZS 37 (0, 0)) := (setRow_ne _ _ _ _ (by omega)).trans hz7
      have H4 : Hid (w4.heap[w2.heap.size]? = some (.cells XS 31 (0, 0)) ∧ w4.heap[w2.heap.size + 1]? = some (.cells VS 37 (0, 0)) ∧ Below w2.heap.size w2 w4) := Lib.hid ⟨by rw [hw4]; exact (setRow_ne _ _ _ _ (by omega)).trans (setRow_at hz6), by rw [hw4]; exact setRow_at h7, by rw [hw4]; exact below_setRow (below_setRow hbz (Nat.le_refl _) _) (by omega) _⟩
      have HZ := Lib.hid (And.intro hz6 h7)
      clear hz6 hz7 hbz h7
      have HW4 := Lib.hid hw4
      clear hw4 hq6
      go_upto_region 7 with (first
        | (refine wpList_store_row (by rfl) 31 (.tmp 6) (.tmp 23) (by rfl) w2.heap.size XS (by rfl) (by rfl) 31 zerosId HZ.out.1 (by rw [HXS.out.2.1]; exact id_info) (by rw [HXS.out.2.1]; rfl) HXS.out.2.2.1 ?_)
        | (refine wpList_store_row (by rfl) 37 (.tmp 7) (.tmp 24) (by rfl) (w2.heap.size + 1) VS (by rfl) (by rfl) 37 ZS HZ.out.2 (by rw [HVS.out.2.1]; exact pl_info) (by rw [HVS.out.2.1, HZS.out]) HVS.out.2.2.1 ?_))
      rw [← HW4.out]
      clear HZ HW4 hen
      obtain ⟨Z, hZ⟩ : ∃ Z, Z = decide (v.1 = pk) := ⟨_, rfl⟩
      obtain ⟨PS, hPS⟩ : ∃ PS, PS = row8 v.1 := ⟨_, rfl⟩
      have HQ : Hid (∀ W, (Op.equalIn 10000 31 (.agg PS) (.agg KS)).run Try.prog W = .ok Z W) := Lib.hid fun W => by rw [hPS, HKS.out.1, hZ]; exact dd_ideq _ _ HVS.out.2.2.2 HH.out.2.2 W
      have HP : Hid (PS.size = 32 ∧ ∀ j u, PS[j]? = some u → w4.cell? ((⟨w2.heap.size + 1, 0, none⟩ : Addr).add j) = some u) := Lib.hid ⟨by rw [hPS, row8_size, HVS.out.2.2.2], pl_pack HVS.out.1 H4.out.2.1 HVS.out.2.2.2 hPS⟩
      have hrg4 := H2.out.1.below H4.out.2.2
      have H5 : Hid (Rgv encP w4 b r (dropL t pk lf) (fun x => lf x && decide (x ≠ k)) ∧ w4.heap[p]? = some (.cells #[.map (some b)] 66 (0, 0)) ∧ w4.heap[q]? = some (.cells (row8 pk) 31 (0, 0)) ∧ Turned (· = b) w w4 ∧ w4.rangeLeft b r < wr.rangeLeft b r) := Lib.hid
        ⟨hrg4.1, (H4.out.2.2.block _ (lt_of_cells H2.out.2.1)).trans H2.out.2.1, (H4.out.2.2.block _ (lt_of_cells H2.out.2.2.1)).trans H2.out.2.2.1, H2.out.2.2.2.1.trans (Turned.of_below (S := (· = b)) H4.out.2.2) fun _ _ h => h, by rw [hrg4.2]; exact H2.out.2.2.2.2.1⟩
      have HZZ := Lib.hid (And.intro hZ H2.out.2.2.2.2.2)
      clear hPS hZ hrg4 H2
      generalize w2.heap.size = q6 at H4 HP ⊢
      have hqe := HQ.out
      clear HQ
      clear hzi hzp hrg2
      cases Z
      · have HE : Hid (DrS w p b r q pk t (fun x => lf x && decide (x ≠ k)) w4 ∧ w4.rangeLeft b r < wr.rangeLeft b r) := Lib.hid
          ⟨⟨by rw [← dropL_stay HH.out.1.map.srt HZZ.out.2 (by have := HZZ.out.1; simpa using this)]; exact H5.out.1, H5.out.2.1, H5.out.2.2.1, H5.out.2.2.2.1, HLO.out.1⟩, H5.out.2.2.2.2⟩
        go_wp2_with (first
        | (refine wpList_load_at (by rfl) 31 (.tmp 25) (by rfl) ⟨q6 + 1, 0, none⟩ (by rfl) PS _ HP.out.2 Try.underlying31 (by rfl) (by rw [HP.out.1]; exact id_info) ?_)
        | (refine wpList_load_row (by rfl) 31 (.tmp 3) (by rfl) q (by rfl) 31 KS (0, 0) _ (by rw [HKS.out.1]; exact H5.out.2.2.1) Try.underlying31 (by rfl) (by rw [HKS.out.2]; exact id_info) ?_))
        exact ⟨⟨_, HE.out.1⟩, HE.out.2⟩
      · go_wp2_with (first
        | (refine wpList_load_at (by rfl) 31 (.tmp 25) (by rfl) ⟨q6 + 1, 0, none⟩ (by rfl) PS _ HP.out.2 Try.underlying31 (by rfl) (by rw [HP.out.1]; exact id_info) ?_)
        | (refine wpList_load_row (by rfl) 31 (.tmp 3) (by rfl) q (by rfl) 31 KS (0, 0) _ (by rw [HKS.out.1]; exact H5.out.2.2.1) Try.underlying31 (by rfl) (by rw [HKS.out.2]; exact id_info) ?_))
        have hvp : v.1 = pk := by have := HZZ.out.1; simpa using this
        have hb4 : Below w4.drew.heap.size w4 w4.drew := ⟨rfl, rfl, rfl, Nat.le_refl _, fun _ _ => rfl⟩
        obtain ⟨w5, hrun, hrg5, hlt5, hmt⟩ := (H5.out.1.below hb4).1.drop Try.underlying64 HXS.out.2.2.2 0
        rw [dropL_del HH.out.1.map.srt HZZ.out.2 hvp] at hrg5
        have ht5 : Turned (· = b) w4 w5 := (Turned.of_below hb4).trans (mapTurned_turnedk hmt) fun _ _ h => h
        have HE : Hid (DrS w p b r q pk t (fun x => lf x && decide (x ≠ k)) w5 ∧ w5.rangeLeft b r < wr.rangeLeft b r) := Lib.hid
          ⟨⟨by simpa [Bool.and_assoc] using hrg5, (ht5.block _ (lt_of_cells H5.out.2.1) (by rintro rfl; exact HH.out.1.ne rfl)).trans H5.out.2.1, (ht5.block _ (lt_of_cells H5.out.2.2.1) (by have := HLO.out; show ¬ q = b; omega)).trans H5.out.2.2.1, H5.out.2.2.2.1.trans ht5 fun _ _ h => h, HLO.out.1⟩,
           Nat.lt_of_le_of_lt hlt5 (by rw [(H5.out.1.below hb4).2]; exact H5.out.2.2.2.2)⟩
        rw [← HXS.out.1] at hrun
        have hC : (fun W : World => W.cell? ⟨p, 0, none⟩ = some (.map (some b)) ∧ W.heap[q6]? = some (.cells XS 31 (0, 0))) w4.drew := ⟨by rw [show w4.drew.cell? ⟨p, 0, none⟩ = w4.cell? ⟨p, 0, none⟩ from rfl, cell_of_cells H5.out.2.1]; rfl, H4.out.1⟩
        have hB8 : w5.cell? ⟨p, 0, none⟩ = some (.map (some b)) ∧ w5.heap[q6]? = some (.cells XS 31 (0, 0)) := by
          refine ⟨by rw [cell_of_cells HE.out.1.box]; rfl, (ht5.block _ (lt_of_cells H4.out.1) ?_).trans H4.out.1⟩
          rintro rfl
          obtain ⟨es, clock, hb⟩ := H5.out.1.kv.isMap
          have h1 := H4.out.1
          rw [hb] at h1
          cases h1
        clear hrg5 hlt5 hmt ht5 hb4
        refine wp_region_plan (fun W : World => W.cell? ⟨p, 0, none⟩ = some (.map (some b)) ∧ W.heap[q6]? = some (.cells XS 31 (0, 0))) [([0, 1, 2, 3, 4], 5)] [] (by kernel_rfl) (by kernel_rfl) (fun _ _ d _ _ h => by cases d <;> exact h) hC ?_
        refine plan_eff ?_
        refine seg_read ?v23 (by rfl) (by rfl) ?h23 ?_
        case h23 => intro W hW; go_simp; with_reducible rfl
        try simp only [Act.put, List.setIfInBounds_toArray, List.set_cons_zero, List.set_cons_succ]
        refine seg_read ?v24 (by rfl) (by rfl) ?h24 ?_
        case h24 => intro W hW; go_simp; with_reducible rfl
        try simp only [Act.put, List.setIfInBounds_toArray, List.set_cons_zero, List.set_cons_succ]
        refine seg_read ?v25 (by rfl) (by rfl) ?h25 ?_
        case h25 => intro W hW; go_simp; with_reducible rfl
        try simp only [Act.put, List.setIfInBounds_toArray, List.set_cons_zero, List.set_cons_succ]
        refine seg_read ?v26 (by rfl) (by rfl) ?h26 ?_
        case h26 => intro W hW; have hcb := hW.1; go_simp; with_reducible rfl
        try simp only [Act.put, List.setIfInBounds_toArray, List.set_cons_zero, List.set_cons_succ]
        refine seg_read (.agg XS) (by rfl) (by rfl) (fun W hW => exec_load_st 31 (.tmp 6) (by rfl) q6 (by rfl) XS (0, 0) hW.2 _ Try.underlying31 (by rfl) (by rw [HXS.out.2.1]; exact id_info)) ?_
        try simp only [Act.put, List.setIfInBounds_toArray, List.set_cons_zero, List.set_cons_succ]
        refine seg_nil ?_
        refine eff_step (by rfl) (fun K hK => ?_)
        go_simp
        refine hK _ _ ⟨_, hB8, fun _ h => h, ?_⟩
        clear hK K
        refine plan_last ?_
        refine seg_nil ?_
        try simp only [Act.put]
        go_wp2_with fail
        exact ⟨⟨_, HE.out.1⟩, HE.out.2⟩
end Go.Proofs.Ytmmibldchfmleaa

/-! Dedup: the calls of an index that is none. -/
namespace Go.Proofs.Ytmmibldchfmleaa
open Go.RowKit Go.Maps

set_option maxHeartbeats 2000000 in
set_option maxRecDepth 100000 in
theorem ixadd_nil (w : World) {k : List UInt8} (v : Pl) : Calls Try.prog 13 #[.pointer none, .agg (row8 k), encP v] w fun e w' => e = .returned (.bool false) ∧ Below w.heap.size w w' := by
  obtain ⟨KS, hKS⟩ : ∃ KS, KS = row8 k := ⟨_, rfl⟩
  obtain ⟨VS, hVS⟩ : ∃ VS, VS = plC v := ⟨_, rfl⟩
  rw [← hKS, show encP v = .agg VS by rw [hVS]; rfl]
  have HB := Lib.hid ((two_rows (w := w) (a := KS) (b := VS) (s := 31) (t := 37)).2.2)
  clear hKS hVS
  go_enter Try.func13, Try.ntmps13
  go_wp2
  go_ret
  exact ⟨rfl, HB.out⟩
set_option maxHeartbeats 2000000 in
set_option maxRecDepth 100000 in
theorem ixdrop_nil (w : World) {k : List UInt8} : Calls Try.prog 10 #[.pointer none, .agg (row8 k)] w fun e w' => e = .returned (.int .i64 0) ∧ Below w.heap.size w w' := by
  obtain ⟨KS, hKS⟩ : ∃ KS, KS = row8 k := ⟨_, rfl⟩
  rw [← hKS]
  have HB : Hid (Below w.heap.size w (w.alloc (.cells KS 31))) := Lib.hid ((Below.refl _ _).alloc (Nat.le_refl _) _)
  clear hKS
  go_enter Try.func10, Try.ntmps10
  go_wp2
  go_ret
  exact ⟨rfl, HB.out⟩
set_option maxHeartbeats 2000000 in
set_option maxRecDepth 100000 in
theorem ixpacks_nil (w : World) : Calls Try.prog 21 #[.pointer none] w fun e w' => e = .returned (.tuple #[.slice none 0 0, .slice none 0 0]) ∧ w' = w := by
  go_enter Try.func21, Try.ntmps21
  go_wp2
  refine bodyPost_ret (results_tmp2 rfl _ _ _) rfl ?_
  exact ⟨rfl, rfl⟩
theorem pl_built0 : Try.prog.built 37 [] = some (plC zPl) := by unfold plC zPl u8s; kernel_rfl
set_option maxHeartbeats 2000000 in
set_option maxRecDepth 100000 in
theorem ixfind_nil (w : World) {k : List UInt8} : Calls Try.prog 15 #[.pointer none, .agg (row8 k)] w fun e w' => e = .returned (.tuple #[encP zPl, .bool false]) ∧ Below w.heap.size w w' := by
  obtain ⟨ZS, hZS⟩ : ∃ ZS, ZS = plC zPl := ⟨_, rfl⟩
  have hzp : ∀ W, (zeroValue 37).run Try.prog W = .ok (.agg ZS) W := fun W => by rw [hZS]; exact zero_pl W
  obtain ⟨KS, hKS⟩ : ∃ KS, KS = row8 k := ⟨_, rfl⟩
  obtain ⟨_, hr5, hb2⟩ := two_rows (w := w) (a := KS) (b := ZS) (s := 31) (t := 37)
  rw [← hKS, show encP zPl = .agg ZS by rw [hZS]; rfl]
  have HB := Lib.hid (And.intro hr5 hb2)
  have HZ : Hid (ZS.size = 33 ∧ ZS.all (·.oneCell') = true ∧ Try.prog.built 37 [] = some ZS) := Lib.hid ⟨by rw [hZS, plC_size zPl_len], by rw [hZS]; exact plC_one _, by rw [hZS]; exact pl_built0⟩
  clear hKS hZS hr5 hb2
  go_enter Try.func15, Try.ntmps15
  go_wp2_with (first
    | (refine wpList_built (by rfl) 37 #[] (by rfl) [] (by simp) ZS HZ.out.2.2 ?_)
    | (refine wpList_store_row (by rfl) 37 (.tmp 4) (.tmp 10) (by rfl) (w.heap.size + 1) ZS (by rfl) (by rfl) 37 ZS HB.out.1 (by rw [HZ.out.1]; exact pl_info) (by rfl) HZ.out.2.1 ?_))
  refine bodyPost_ret (results_ct rfl _ _ ⟨w.heap.size + 1, 0, none⟩ (.agg ZS) (.bool false) rfl rfl (run_loadVar_row _ _ _ _ _ _ _ (setRow_at HB.out.1) Try.underlying37 rfl (by rw [HZ.out.1]; exact pl_info))) rfl ?_
  exact ⟨rfl, below_setRow HB.out.2 (by omega) _⟩
end Go.Proofs.Ytmmibldchfmleaa

/-! The library at this seat: slices.SortFunc of ids. -/
namespace Go.Proofs
open Go.Shelf
def Try.sortfL_ren : Go.Shelf.Ren := ⟨fun | 6 => 48 | 15 => 54 | 14 => 53 | 28 => 63 | 29 => 64 | 20 => 55 | 21 => 56 | 22 => 57 | 23 => 58 | 24 => 59 | 25 => 60 | 26 => 61 | 27 => 62 | 46 => 65 | 47 => 66 | 48 => 67 | 49 => 68 | 50 => 69 | 57 => 70 | n => n, fun | 22 => 55 | 24 => 31 | 25 => 76 | 3 => 3 | 39 => 67 | 0 => 0 | 53 => 121 | 55 => 72 | 4 => 4 | 46 => 114 | 45 => 113 | 50 => 118 | 5 => 5 | 9 => 9 | 66 => 123 | 70 => 126 | 76 => 128 | 77 => 129 | n => n, fun | n => n⟩
theorem Try.sortfL : Go.Proofs.SlLaysF0.n6 Try.prog Try.sortfL_ren := {
  mixed := by kernel_rfl
  f6 := ⟨Try.f48.name, by decide, Try.func48.trans (congrArg some (by kernel_rfl))⟩
  f14 := ⟨Try.f53.name, by decide, Try.func53.trans (congrArg some (by kernel_rfl))⟩
  f15 := Try.func54.trans (congrArg some (by kernel_rfl))
  f20 := ⟨Try.f55.name, by decide, Try.func55.trans (congrArg some (by kernel_rfl))⟩
  f21 := ⟨Try.f56.name, by decide, Try.func56.trans (congrArg some (by kernel_rfl))⟩
  f22 := ⟨Try.f57.name, by decide, Try.func57.trans (congrArg some (by kernel_rfl))⟩
  f23 := ⟨Try.f58.name, by decide, Try.func58.trans (congrArg some (by kernel_rfl))⟩
  f24 := ⟨Try.f59.name, by decide, Try.func59.trans (congrArg some (by kernel_rfl))⟩
  f25 := ⟨Try.f60.name, by decide, Try.func60.trans (congrArg some (by kernel_rfl))⟩
  f26 := ⟨Try.f61.name, by decide, Try.func61.trans (congrArg some (by kernel_rfl))⟩
  f27 := ⟨Try.f62.name, by decide, Try.func62.trans (congrArg some (by kernel_rfl))⟩
  f28 := Try.func63.trans (congrArg some (by kernel_rfl))
  f29 := Try.func64.trans (congrArg some (by kernel_rfl))
  f46 := ⟨Try.f65.name, by decide, Try.func65.trans (congrArg some (by kernel_rfl))⟩
  f47 := Try.func66.trans (congrArg some (by kernel_rfl))
  f48 := Try.func67.trans (congrArg some (by kernel_rfl))
  f49 := ⟨Try.f68.name, by decide, Try.func68.trans (congrArg some (by kernel_rfl))⟩
  f50 := ⟨Try.f69.name, by decide, Try.func69.trans (congrArg some (by kernel_rfl))⟩
  f57 := ⟨Try.f70.name, by decide, Try.func70.trans (congrArg some (by kernel_rfl))⟩
  t0 := Try.underlying0
  a0 := Try.isAgg0
  z0 := Try.sizeOf0
  v0 := Try.zeroValue0
  t3 := Try.underlying3
  a3 := Try.isAgg3
  z3 := Try.sizeOf3
  v3 := Try.zeroValue3
  t4 := Try.underlying4
  a4 := Try.isAgg4
  z4 := Try.sizeOf4
  v4 := Try.zeroValue4
  t5 := Try.underlying5
  a5 := Try.isAgg5
  z5 := Try.sizeOf5
  v5 := Try.zeroValue5
  t9 := Try.underlying9
  a9 := Try.isAgg9
  z9 := Try.sizeOf9
  v9 := Try.zeroValue9
  t22 := Try.underlying55
  a22 := Try.isAgg55
  z22 := Try.sizeOf55
  v22 := Try.zeroValue55
  t25 := Try.underlying76
  a25 := Try.isAgg76
  z25 := Try.sizeOf76
  v25 := Try.zeroValue76
  t39 := Try.underlying67
  a39 := Try.isAgg67
  z39 := Try.sizeOf67
  v39 := Try.zeroValue67
  t45 := Try.underlying113
  a45 := Try.isAgg113
  z45 := Try.sizeOf113
  v45 := Try.zeroValue113
  t46 := Try.underlying114
  a46 := Try.isAgg114
  z46 := Try.sizeOf114
  v46 := Try.zeroValue114
  t50 := Try.underlying118
  a50 := Try.isAgg118
  z50 := Try.sizeOf118
  v50 := Try.zeroValue118
  t53 := Try.underlying121
  a53 := Try.isAgg121
  z53 := Try.sizeOf121
  v53 := Try.zeroValue121
  t55 := Try.underlying72
  a55 := Try.isAgg72
  z55 := Try.sizeOf72
  v55 := Try.zeroValue72
  t66 := Try.underlying123
  a66 := Try.isAgg123
  z66 := Try.sizeOf123
  v66 := Try.zeroValue123
  t70 := Try.underlying126
  a70 := Try.isAgg126
  z70 := Try.sizeOf126
  v70 := Try.zeroValue126
  t76 := Try.underlying128
  a76 := Try.isAgg128
  z76 := Try.sizeOf128
  v76 := Try.zeroValue128
  t77 := Try.underlying129
  a77 := Try.isAgg129
  z77 := Try.sizeOf129
  v77 := Try.zeroValue129 }
end Go.Proofs

/-! Dedup: compare of two ids. -/
namespace Go.Proofs.Ytmmibldchfmleaa
open Go.RowKit

theorem cmpB (a b : List UInt8) : Lib.compareBytes a b = if a < b then -1 else if b < a then 1 else 0 := by
  induction a generalizing b with
  | nil => cases b <;> simp [Lib.compareBytes]
  | cons x a ih =>
    cases b with
    | nil => simp [Lib.compareBytes]
    | cons y b =>
      rw [Lib.compareBytes, ih]
      simp only [List.cons_lt_cons_iff]
      by_cases h : x < y
      · simp [h]
      · by_cases h2 : y < x
        · have hne : x ≠ y := fun e => by rw [e] at h2; exact UInt8.lt_irrefl _ h2
          have h3 : ¬ x < y := h
          simp [h2, h3, hne]
        · have he : x = y := UInt8.le_antisymm (UInt8.not_lt.1 h2) (UInt8.not_lt.1 h)
          subst he
          simp
theorem cmpB_neg (a b : List UInt8) : (Lib.compareBytes a b < 0) ↔ a < b := by
  rw [cmpB]
  by_cases h : a < b
  · simp [h]
  · rw [if_neg h]
    by_cases h2 : b < a <;> simp [h, h2]
theorem cmpB_nonneg (a b : List UInt8) : decide (0 ≤ Lib.compareBytes a b) = !decide (a < b) := by
  have h := cmpB_neg a b
  by_cases h2 : a < b
  · have h3 := h.2 h2
    simp [h2]
    omega
  · have h3 : ¬ Lib.compareBytes a b < 0 := fun h4 => h2 (h.1 h4)
    simp [h2]
    omega
theorem bytes_nums (l : List UInt8) : Lib.bytesOf (l.map fun x => (x.toNat : Int)) = l := by
  unfold Lib.bytesOf
  rw [List.map_map]
  conv => rhs; rw [← List.map_id l]
  apply List.map_congr_left
  intro x _
  simp
theorem load_byt {P : Program} {w : World} {S : Nat → Prop} {A : Addr} {n c : Nat} {l : List UInt8} (h : Byt w S (some A) n c l) : (Extern.Bytes.loadBytes A n .empty).run P w = .ok ⟨l.toArray⟩ w := by
  have hl := h.len
  by_cases h0 : 0 < n
  · obtain ⟨b, off, hA, _, _, hc⟩ := h.row h0
    injection hA with hA
    subst hA
    have h1 := Lib.run_loadBytesX (P := P) w (l.map fun x => (x.toNat : Int)) ⟨b, off, none⟩ .empty (fun j x hj => by
      have hjl : j < l.length := by
        have := (List.getElem?_eq_some_iff.1 hj).1
        simpa using this
      rw [add_plain, hc j (by omega)]
      rw [List.getElem?_map, List.getElem?_eq_getElem hjl] at hj
      simp only [Option.map_some, Option.some.injEq] at hj
      rw [List.getElem?_eq_getElem hjl, Option.getD_some, hj])
    rw [List.length_map, hl, bytes_nums] at h1
    rw [h1]
    congr 1
    apply ByteArray.ext
    show (#[] : Array UInt8) ++ l.toArray = l.toArray
    simp
  · have e : n = 0 := by omega
    subst e
    obtain rfl : l = [] := List.eq_nil_of_length_eq_zero hl
    rfl
theorem run_cmp {P : Program} {w : World} {S S' : Nat → Prop} {A B : Addr} {n c m d : Nat} {l l' : List UInt8} (h : Byt w S (some A) n c l) (h' : Byt w S' (some B) m d l') :
    (Extern.BytealgCompare.compare #[.slice (some A) n c, .slice (some B) m d]).run P w = .ok (.int .i64 (Lib.compareBytes l l')) w := by
  change Sem.run P (do pure (goInt (Extern.BytealgCompare.cmp (← Extern.Bytes.bytesOf (.slice (some A) n c)) (← Extern.Bytes.bytesOf (.slice (some B) m d))))) w = _
  simp only [Extern.Bytes.bytesOf, Sem.run_bind, Sem.run_pure, load_byt h, load_byt h', Result.andThen]
  rw [Lib.cmp_eq]
  rfl
set_option maxHeartbeats 2000000 in
theorem bcmp_any {w : World} {S S' : Nat → Prop} {A B : Addr} {n c m d : Nat} {l l' : List UInt8} (h : Byt w S (some A) n c l) (h' : Byt w S' (some B) m d l') :
    Calls Try.prog 45 #[.slice (some A) n c, .slice (some B) m d] w fun e w' => e = .returned (.int .i64 (Lib.compareBytes l l')) ∧ w' = w := by
  have hr := run_cmp (P := Try.prog) h h'
  generalize Lib.compareBytes l l' = r at hr ⊢
  clear h h'
  go_enter Try.func45, Try.ntmps45
  go_wp2
  rw [run_callFunc_extern Try.func51 (by kernel_rfl) (by kernel_rfl) (by kernel_rfl) (e := Extern.BytealgCompare.compare) (by kernel_rfl), hr]
  simp only [Result.andThen]
  rw [Oper.upon_value]
  go_wp2
  go_ret
  exact ⟨rfl, rfl⟩
set_option maxHeartbeats 4000000 in
set_option maxRecDepth 100000 in
/-- compare. -/
theorem cmp_any (x y : List UInt8) (hx : x.length = 32) (hy : y.length = 32) (W : World) :
    Calls Try.prog 29 #[.agg (row8 x), .agg (row8 y)] W fun e w' => e = .returned (.int .i64 (Lib.compareBytes x y)) ∧ ∃ q, w' = ((W.alloc (.cells (row8 x) 31)).alloc (.cells (row8 y) 31)).drewN q := by
  obtain ⟨W2, hW2⟩ : ∃ W2, W2 = (W.alloc (.cells (row8 x) 31)).alloc (.cells (row8 y) 31) := ⟨_, rfl⟩
  have h1 : W2.heap[W.heap.size]? = some (.cells (u8s x).toArray 31 (0, 0)) := by
    rw [hW2]
    exact (Below.heap_alloc _ _ _ (by simp)).trans (heap_alloc_new W _)
  have h2 : W2.heap[W.heap.size + 1]? = some (.cells (u8s y).toArray 31 (0, 0)) := by
    have := heap_alloc_new (W.alloc (.cells (row8 x) 31)) (.cells (row8 y) 31)
    rw [hW2]
    rw [World.size_alloc] at this
    exact this
  have hb := fun q => bcmp_any ((byt_whole h1 (by omega)).drewN q) ((byt_whole h2 (by omega)).drewN q)
  rw [hx, hy] at hb
  obtain ⟨XS, hXS⟩ : ∃ XS, XS = row8 x := ⟨_, rfl⟩
  obtain ⟨YS, hYS⟩ : ∃ YS, YS = row8 y := ⟨_, rfl⟩
  rw [← hXS, ← hYS] at hW2 ⊢
  generalize Lib.compareBytes x y = r at hb ⊢
  have HW2 := Lib.hid hW2
  clear hXS hYS h1 h2 hx hy hW2
  go_enter Try.func29, Try.ntmps29
  go_upto_region 1 with fail
  rw [← HW2.out]
  go_quiet ((go_at_call 45; exact Calls.quiet_of_same (hb _)))
  go_wp2_with fail
  go_ret
  exact ⟨rfl, _, by rw [HW2.out]⟩
end Go.Proofs.Ytmmibldchfmleaa

/-! A slice literal of one digest. -/
namespace Go.Proofs.Ytmmibldchfmleaa
open Go.RowKit

theorem list32' {l : List UInt8} (h : l.length = 32) : ∃ a0 a1 a2 a3 a4 a5 a6 a7 a8 a9 b0 b1 b2 b3 b4 b5 b6 b7 b8 b9 c0 c1 c2 c3 c4 c5 c6 c7 c8 c9 d0 d1, l = [a0, a1, a2, a3, a4, a5, a6, a7, a8, a9, b0, b1, b2, b3, b4, b5, b6, b7, b8, b9, c0, c1, c2, c3, c4, c5, c6, c7, c8, c9, d0, d1] := by
  match l, h with
  | [a0, a1, a2, a3, a4, a5, a6, a7, a8, a9, b0, b1, b2, b3, b4, b5, b6, b7, b8, b9, c0, c1, c2, c3, c4, c5, c6, c7, c8, c9, d0, d1], _ => exact ⟨_, _, _, _, _, _, _, _, _, _, _, _, _, _, _, _, _, _, _, _, _, _, _, _, _, _, _, _, _, _, _, _, rfl⟩
set_option maxRecDepth 100000 in
theorem fill_id {l : List UInt8} (hl : l.length = 32) : Instr.fill (fun i => some (i * 32, 32)) (row8 (List.replicate 1 (List.replicate 32 0)).flatten) [(0, .agg (row8 l))] = some (row8 l) := by
  obtain ⟨a0, a1, a2, a3, a4, a5, a6, a7, a8, a9, b0, b1, b2, b3, b4, b5, b6, b7, b8, b9, c0, c1, c2, c3, c4, c5, c6, c7, c8, c9, d0, d1, rfl⟩ := list32' hl
  unfold row8 u8s
  kernel_rfl
/-- []api.Id{x} -/
theorem run_ids_lit (w : World) (XS : Array Value) {l : List UInt8} (h : XS = row8 l) (hl : l.length = 32) : (Instr.buildSlice 55 1 #[(0, .agg XS)]).run Try.prog w = .ok (.slice (some ⟨w.heap.size, 0, none⟩) 1 1) (w.alloc (.cells XS 31)) := by
  obtain ⟨i0, hi, hz0, hz1, _⟩ := info_parts id_info3
  have hm := made_ids 1
  unfold madeCells at hm
  subst h
  refine run_buildSlice w 55 31 1 #[(0, .agg (row8 l))] (row8 l) i0 (.agg zerosId) Try.underlying55 hi hz0 (by rw [hz1]; omega) (by rw [hz1]; omega) ?_
  rw [hz1, hm]
  exact fill_id hl
end Go.Proofs.Ytmmibldchfmleaa

/-! Dedup: slices.AppendSeq and slices.Collect of an iterator over ids. -/
namespace Go.Proofs.Ytmmibldchfmleaa
open Go.RowKit Go.Shelf
attribute [local go_sem] Oper.semAt_some

/-- What holds of the row that is made: it stands in the box q2. -/
def DaI (w0 : World) (q2 : Nat) (D : Nat → Prop) (pre : List (List UInt8)) (W : World) : Prop :=
  ∃ A l c, W.heap[q2]? = some (.cells #[.slice A l c] 55 (0, 0)) ∧ W.ownsRow (q2 + 1) 31 32 (.slice A l c) pre.length (idsC pre) ∧ ¬ D q2 ∧ (∀ g, (Value.slice A l c).ownBlock = some g → ¬ D g) ∧ Below w0.heap.size w0 W
theorem dd_own_cells {W : World} {base : Nat} {e : TypeId} {size k : Nat} {v : Value} {xs : List Value} (h : W.ownsRow base e size v k xs) : ∀ r, v.ownBlock = some r → base ≤ r ∧ ∃ cs, W.heap[r]? = some (.cells cs e (0, 0)) := by
  intro r hr
  rcases h.2 with ⟨rfl, _⟩ | ⟨g, cap, cur, rfl, hb, hgb, _⟩
  · simp [Value.ownBlock] at hr
  · obtain rfl : g = r := by simpa [Value.ownBlock] using hr
    exact ⟨hb, _, hgb⟩
theorem dd_own_turn {w w' : World} {base : Nat} {e : TypeId} {size : Nat} {v : Value} {n : Nat} {xs : List Value} (h : w.ownsRow base e size v n xs) (hb : ∀ q, v.ownBlock = some q → w'.heap[q]? = w.heap[q]?) : w'.ownsRow base e size v n xs := by
  refine ⟨h.1, ?_⟩
  rcases h.2 with hn | ⟨g, cap, cur, h1, h2, h3, rest⟩
  · exact .inl hn
  · exact .inr ⟨g, cap, cur, h1, h2, (hb g (by rw [h1]; rfl)).trans h3, rest⟩
theorem DaI.still {w0 : World} {q2 B : Nat} (hB : w0.heap.size ≤ B) : Still B (DaI w0 q2) := by
  rintro D D' pre W W' hbd ⟨A, l, c, h1, h2, h3, h4, h5⟩ hs hD
  refine ⟨A, l, c, hs.cells h1 h3, dd_own_turn h2 fun g hg => ?_, fun hd => ?_, fun g hg hd => ?_, hs.below h5 hbd (Nat.le_refl _) hB⟩
  · obtain ⟨_, cs, hc⟩ := dd_own_cells h2 g hg
    exact (hs.cells hc (h4 g hg)).trans hc.symm
  · rcases hD _ hd with h | h
    · exact h3 h
    · have := lt_of_cells h1
      omega
  · rcases hD _ hd with h | h
    · exact h4 g hg h
    · obtain ⟨_, cs, hc⟩ := dd_own_cells h2 g hg
      have := lt_of_cells hc
      omega
theorem dd_appd {F : Fence} {n : Nat} {P : Program} {ops : Array Oper} {rest : List Oper} {o : Oper} {a : Act} {Q : Exit → Act → World → Prop} {w w' : World} (hgd : o.guard = none) (s x : Operand) (t : TypeId)
    (hop : o.op = .call { callee := .builtin .append, args := #[s, x], argTypes := #[t, t] }) {v u v' : Value} (hs : a.eval s = v) (hx : a.eval x = u)
    (hrun : (Builtin.append_ #[t, t] o.type #[v, u]).run P w = .ok v' w') (h : wpListIn F n P ops Q rest (a.put o.dst v') w') : wpListIn F n P ops Q (o :: rest) a w := by
  refine wpListIn_plain hgd fun K hK => ?_
  unfold Oper.wpIn
  refine ⟨?_, ?_⟩
  · simp [Oper.about, hop, resolve, Target.leads, Sem.run_pure]
  · rw [Oper.semAt_plain F _ _ (by rw [hop]; intro c hc; cases hc)]
    unfold execOp
    simp only [hop, resolve, invoke, builtin, Sem.run_bind, Sem.run_pure, Result.andThen_ok, List.map_toArray, List.map_cons, List.map_nil, hs, hx, hrun]
    exact hK _ _ h
theorem dd_lit {F : Fence} {n : Nat} {P : Program} {ops : Array Oper} {rest : List Oper} {o : Oper} {a : Act} {Q : Exit → Act → World → Prop} {w w' : World} (hgd : o.guard = none) (t : TypeId) (x : Operand) (hop : o.op = .buildSlice t 1 #[(0, x)])
    {u : Value} (hx : a.eval x = u) {v : Value} (hrun : (Instr.buildSlice t 1 #[(0, u)]).run P w = .ok v w') (h : wpListIn F n P ops Q rest (a.put o.dst v) w') : wpListIn F n P ops Q (o :: rest) a w := by
  refine wpListIn_plain hgd fun K hK => ?_
  unfold Oper.wpIn
  refine ⟨?_, ?_⟩
  · simp [Oper.about, hop]
  · rw [Oper.semAt_plain F _ _ (by rw [hop]; intro c hc; cases hc)]
    simp [execOp, hop, hx, hrun, Result.andThen]
    exact hK _ _ h
set_option maxHeartbeats 4000000 in
set_option maxRecDepth 100000 in
theorem appendseq_ids {V : Type} {t : Tv V} (ht : ∀ p ∈ t, p.1.length = 32) (hsv : Sv t) (hn : t.length ≤ 1000000) (g : Nat) (lb : Array Value) (K : Nat → Prop) (eg : ∀ args w, (callFunc g args).run Try.prog w = .ok (.enter g args) w) (w : World)
    (hseq : Iter Try.prog g lb (fun k => #[.agg (row8 k)]) K (fun _ pre _ => Kys t pre) (fun xs => xs.Perm (t.map (·.1))) w) (hK : ∀ b, K b → b < w.heap.size) :
    Calls Try.prog 52 #[.slice none 0 0, .func (.func g) #[] lb] w fun e w' => ∃ v xs, e = .returned v ∧ xs.Perm (t.map (·.1)) ∧ w'.ownsRow w.heap.size 31 32 v xs.length (idsC xs) ∧ Below w.heap.size w w' := by
  have hz := zero_id
  obtain ⟨i1, hi, hz0, hz1, hz2⟩ := info_parts id_info3
  have HI := Lib.hid (And.intro hi (And.intro hz0 (And.intro hz1 hz2)))
  have HT := Lib.hid (And.intro ht (And.intro hsv (And.intro hn hK)))
  have HSQ := Lib.hid hseq
  have hbx := Boxed.new w 55 (.slice none 0 0)
  have hbl : Below w.heap.size w (w.alloc (.cells #[.slice none 0 0] 55)) := (Below.refl _ _).alloc (Nat.le_refl _) _
  have H0 : Hid (DaI w w.heap.size (fun _ => False) [] (w.alloc (.cells #[.slice none 0 0] 55))) := Lib.hid ⟨none, 0, 0, hbx, World.ownsRow_nil _ _ _ _, id, fun _ _ => id, hbl⟩
  have HP : Hid ((w.alloc (.cells #[.slice none 0 0] 55)).heap.size = w.heap.size + 1 ∧ Below w.heap.size w (w.alloc (.cells #[.slice none 0 0] 55))) := Lib.hid ⟨by simp, hbl⟩
  clear hi hz0 hz1 hz2 ht hsv hn hK hbx hbl hseq
  obtain ⟨FN, hFN⟩ : ∃ FN, FN = Value.func (.func g) #[] lb := ⟨_, rfl⟩
  have HFN := Lib.hid hFN
  rw [← hFN]
  clear hFN
  refine (callsIn_wide (n := 3)).1 ?_
  refine callsIn_of_wp_marks Try.func52 rfl trivial ?_ rfl
  simp only [Try.ntmps52, List.size_toArray, List.length_cons, List.length_nil, Nat.reduceAdd, Nat.reduceSub, Array.replicate_succ, Array.replicate_zero, List.push_toArray, List.append_toArray, List.nil_append, List.cons_append]
  gi_wp2
  obtain ⟨W1, hW1⟩ : ∃ W1, W1 = w.alloc (.cells #[.slice none 0 0] 55) := ⟨_, rfl⟩
  rw [← hW1] at H0 HP ⊢
  clear hW1
  refine wpIn_rangeFunc_it (gf := g) (lb := lb) HFN.out eg HSQ.out HP.out.2 (fun k hk => by have h1 := HT.out.2.2.2 k hk; have h2 := HP.out.1; omega) (fun _ => rfl)
    (DaI w w.heap.size) (fun _ _ _ _ => False) (DaI.still (by have := HP.out.1; omega)) (fun _ => still_false _) H0.out
    (fun x a' W => ∃ q, W.heap[q]? = some (.cells (row8 x) 31 (0, 0)) ∧ x.length = 32 ∧ a' = { tmps := #[.slice none 0 0, FN, .pointer (some ⟨w.heap.size, 0, none⟩), undef, .slice none 0 0, .pointer (some ⟨q, 0, none⟩), FN, .agg (row8 x), undef, undef, undef, undef, undef], defers := [] })
    (fun x a' s W W' row hs hg hr => by
      obtain ⟨q, h1, h2⟩ := hs
      refine ⟨q, (hg.block _ (lt_of_cells h1) (fun e => ?_)).trans h1, h2⟩
      obtain ⟨_, o, h3, h4⟩ := hr q e.symm
      rw [h1] at h3
      cases h3
      cases h4) ?assign ?body ?done ?stop
  case assign =>
    intro l D pre x W C hBd hi hX hC
    have hx32 : x.length = 32 := by
      obtain ⟨p, hp, hpx⟩ := List.mem_map.1 (getV_isSome.1 (hX.2 x (by simp)))
      rw [← hpx]
      exact HT.out.1 p hp
    obtain ⟨XS, hXS⟩ : ∃ XS, XS = row8 x := ⟨_, rfl⟩
    have HXS : Hid (XS = row8 x ∧ XS.size = 32 ∧ XS.all (·.oneCell') = true) := Lib.hid ⟨hXS, by rw [hXS, row8_size, hx32], by rw [hXS]; exact row8_one _⟩
    have HG := Lib.hid (heap_alloc_new W (.cells zerosId 31))
    have hb : Below W.heap.size W ((W.alloc (.cells zerosId 31)).setRow W.heap.size XS) := below_setRow ((Below.refl _ _).alloc (Nat.le_refl _) _) (Nat.le_refl _) _
    have hset := setRow_at (new := XS) HG.out
    rw [hXS] at hset
    have hsz := HP.out.1
    have HC : Hid (∀ a', a' = _ → C a' ((W.alloc (.cells zerosId 31)).setRow W.heap.size XS)) := Lib.hid fun a' ha => hC a' _ (Kept.of_below hb) (DaI.still (Nat.le_refl _) D D pre W _ (fun b hb => by have := hBd b hb; omega) hi (Steps.of_below hb) (fun _ h => .inl h)) ⟨W.heap.size, hXS ▸ hset, hx32, ha⟩
    rw [← hXS]
    clear hXS hset hb hC hx32 hi hX hBd hsz
    gi_wp2_with (refine wpListIn_store_row (by rfl) 31 (.tmp 5) (.tmp 7) (by rfl) W.heap.size XS (by rfl) (by rfl) 31 zerosId HG.out (by rw [HXS.out.2.1]; exact id_info) (by rw [HXS.out.2.1]; rfl) HXS.out.2.2 ?_)
    exact HC.out _ (by rw [HXS.out.1]; rfl)
  case body =>
    rintro l D pre x a' W hl hW hB ⟨Av, lv, cv, hbx, hown, hnq, hng, hbel⟩ hX ⟨q5, hq5, hx32, rfl⟩
    have hpre : pre.length + 1 ≤ 1000000 := by
      have h1 := hX.len HT.out.2.1
      have h2 := HT.out.2.2.1
      simp at h1
      omega
    have hsz := HP.out.1
    have hlit := fun W => run_ids_lit W (row8 x) rfl hx32
    obtain ⟨v', W', hrun, g1, g2, _, g4⟩ := run_append_own_at (P := Try.prog) (W.alloc (.cells (row8 x) 31)) (w.heap.size + 1) 55 55 31 i1 (.agg zerosId) 32 32 Try.underlying55 HI.out.1 HI.out.2.1 HI.out.2.2.1 HI.out.2.2.2 rfl (by decide) (.slice Av lv cv) pre.length (idsC pre) (hown.alloc _) ⟨W.heap.size, 0, none⟩ 1 1 (u8s x) (by rw [u8s_length, hx32])
      (fun j u hj => by
        rw [add_plain, cell_of_cells (heap_alloc_new W _), Nat.zero_add, row8, List.getElem?_toArray]
        exact hj) (u8s_one x) (by unfold maxLen; omega) (by omega) (by simp; omega)
    have hv' : ∃ A2 n2 c2, v' = .slice A2 n2 c2 := by
      rcases g1.2 with ⟨rfl, _⟩ | ⟨g, cap, cur, rfl, _⟩
      · exact ⟨_, _, _, rfl⟩
      · exact ⟨_, _, _, rfl⟩
    obtain ⟨A2, n2, c2, rfl⟩ := hv'
    have hlt := dd_own_cells hown
    have hq2 : w.heap.size < W.heap.size := lt_of_cells hbx
    have hba : Below W.heap.size W (W.alloc (.cells (row8 x) 31)) := (Below.refl _ _).alloc (Nat.le_refl _) _
    have hsa : (W.alloc (.cells (row8 x) 31)).heap.size = W.heap.size + 1 := by simp
    have hbx2 : W'.heap[w.heap.size]? = some (.cells #[.slice Av lv cv] 55 (0, 0)) := (g2.block _ (by omega) (fun e => by
      have := (hlt _ e.symm).1
      omega)).trans ((hba.block _ hq2).trans hbx)
    have hc1 := cell_of_cells hbx 0
    have hc2 := cell_of_cells hbx2 0
    simp only [List.getElem?_toArray, List.getElem?_cons_zero] at hc1 hc2
    have hf2 := free_of_cells hbx2 0
    have hsz' : W.heap.size + 1 ≤ W'.heap.size := by have := g2.size; omega
    have hng2 : ∀ g, (Value.slice A2 n2 c2).ownBlock = some g → ¬ D g := fun g hg hd => by
      rcases g4 with h | h
      · rw [h] at hg
        exact hng g hg hd
      · rw [h] at hg
        injection hg with hg
        have := (hB g hd).2
        omega
    have HF : Hid (Kept W1.heap.size D K W (W'.setCell ⟨w.heap.size, 0, none⟩ (.slice A2 n2 c2)) ∧ DaI w w.heap.size D (pre ++ [x]) (W'.setCell ⟨w.heap.size, 0, none⟩ (.slice A2 n2 c2))) := Lib.hid (by
      refine ⟨((Kept.of_below hba).trans (Kept.of_gr g2 fun g hg => ?_)).trans (Kept.of_gr (row := some w.heap.size) (grownBy_setCell' W' w.heap.size _) fun g e => ?_), A2, n2, c2, ?_, ?_, hnq, hng2, ?_⟩
      · obtain ⟨h1, cs, h2⟩ := hlt g hg
        exact ⟨hng g hg, fun h => by have h3 := HT.out.2.2.2 g h; omega, cs, _, _, (hba.block g (lt_of_cells h2)).trans h2⟩
      · injection e with e
        subst e
        exact ⟨hnq, fun h => by have h3 := HT.out.2.2.2 _ h; omega, _, _, _, hbx2⟩
      · exact set_of_cells hbx2 0 _
      · rw [List.length_append, idsC, List.flatten_append, u8s_append]
        refine dd_own_turn (by simpa [idsC] using g1) fun g hg => Below.heap_setCell _ _ _ _ ?_
        have := (dd_own_cells g1 g hg).1
        show g ≠ w.heap.size
        omega
      · exact ((hbel.alloc hbel.size _).grown g2 (by omega) (fun g hg => by have := (hlt g hg).1; omega)).setCell (p := ⟨w.heap.size, 0, none⟩) (Nat.le_refl _) _)
    obtain ⟨XS, hXS⟩ : ∃ XS, XS = row8 x := ⟨_, rfl⟩
    rw [← hXS] at hq5 hlit hrun ⊢
    have HXS : Hid (XS.size = 32 ∧ W.heap[q5]? = some (.cells XS 31 (0, 0))) := Lib.hid ⟨by rw [hXS, row8_size, hx32], hq5⟩
    clear hbx hown hnq hng hbel hpre hsz g1 g2 g4 hlt hq2 hba hsa hbx2 hng2 hl hW hB hsz' hX hq5 hx32 hXS
    gi_wp2_with (first
      | (refine wpListIn_load_row (by rfl) 31 (.tmp 5) (by rfl) q5 (by rfl) 31 XS (0, 0) _ HXS.out.2 Try.underlying31 (by rfl) (by rw [HXS.out.1]; exact id_info) ?_)
      | (refine dd_lit (by rfl) 55 (.tmp 9) (by rfl) (by rfl) (hlit W) ?_)
      | (gi_at_builtin; refine dd_appd (by rfl) _ _ 55 (by rfl) (by rfl) (by rfl) hrun ?_))
    exact HF.out
  case done =>
    rintro E D xs W hE hws hB hperm hX ⟨Av, lv, cv, hbx, hown, hnq, hng, hbel⟩ hKd
    have hc := cell_of_cells hbx 0
    simp only [List.getElem?_toArray, List.getElem?_cons_zero] at hc
    have HX := Lib.hid (And.intro hown (And.intro hbel (And.intro hKd hperm)))
    clear hbx hown hnq hng hbel hKd hperm hX
    gi_wp2
    refine ⟨by simp, .inl ⟨_, _, rfl, run_takeDeferred HX.out.2.2.1, ?_⟩⟩
    have hrow := HX.out.1
    refine ⟨_, results_tmp rfl _ _ _, _, xs, rfl, HX.out.2.2.2, own_base (dd_own_turn hrow fun g hg => World.putObj_heap_other ?_) (Nat.le_succ _), HX.out.2.1.trans (belowK_b (w := w) (Nat.le_refl _) W E _ _ (by have := HP.out.1; omega) HX.out.2.2.1 rfl rfl)⟩
    rintro rfl
    obtain ⟨_, cs, hc2⟩ := dd_own_cells hrow _ hg
    have h3 := HX.out.2.2.1
    rw [hc2] at h3
    cases h3
  case stop =>
    intro E D c pre W _ _ _ _ h _
    exact h.elim
set_option maxHeartbeats 2000000 in
/-- slices.Collect. -/
theorem collect_ids {V : Type} {t : Tv V} (ht : ∀ p ∈ t, p.1.length = 32) (hsv : Sv t) (hn : t.length ≤ 1000000) (g : Nat) (lb : Array Value) (K : Nat → Prop) (eg : ∀ args w, (callFunc g args).run Try.prog w = .ok (.enter g args) w) (w : World)
    (hseq : Iter Try.prog g lb (fun k => #[.agg (row8 k)]) K (fun _ pre _ => Kys t pre) (fun xs => xs.Perm (t.map (·.1))) w) (hK : ∀ b, K b → b < w.heap.size) :
    Calls Try.prog 47 #[.func (.func g) #[] lb] w fun e w' => ∃ v xs, e = .returned v ∧ xs.Perm (t.map (·.1)) ∧ w'.ownsRow w.heap.size 31 32 v xs.length (idsC xs) ∧ Below w.heap.size w w' := by
  have happ := appendseq_ids ht hsv hn g lb K eg w hseq hK
  obtain ⟨FN, hFN⟩ : ∃ FN, FN = Value.func (.func g) #[] lb := ⟨_, rfl⟩
  rw [← hFN] at happ ⊢
  clear hFN hseq hK eg ht hsv hn
  go_enter Try.func47, Try.ntmps47
  go_wp2_with (go_at_call 52; refine happ.mono ?_; clear happ; rintro _ w1 ⟨v, xs, rfl, hp, hown, hb1⟩)
  go_ret
  exact ⟨v, xs, rfl, hp, hown, hb1⟩
end Go.Proofs.Ytmmibldchfmleaa

/-! Dedup: slices.SortedFunc of an iterator over ids, by compare. -/
namespace Go.Proofs.Ytmmibldchfmleaa
open Go.RowKit Go.Shelf Go.Sort

abbrev Id32 := {l : List UInt8 // l.length = 32}
instance : Inhabited Id32 := ⟨⟨List.replicate 32 0, by simp⟩⟩
def enc32 (x : Id32) : List Value := u8s x.1
def cf32 (x y : Id32) : Int := Lib.compareBytes x.1 y.1
theorem ltOf32 (x y : Id32) : ltOf cf32 x y = decide (x.1 < y.1) := by
  unfold ltOf cf32
  exact decide_eq_decide.2 (cmpB_neg _ _)
theorem swo32 : SWO (ltOf cf32) where
  irrefl x := by rw [ltOf32]; simp
  trans x y z h1 h2 := by
    rw [ltOf32] at *
    simp only [decide_eq_true_eq] at *
    exact klt_tr h1 h2
  ntrans x y z h1 h2 := by
    rw [ltOf32] at *
    simp only [decide_eq_false_iff_not] at *
    exact fun h => absurd h (List.not_lt.2 (List.le_trans (List.not_lt.1 h2) (List.not_lt.1 h1)))
theorem grow_two (W : World) (a b : Obj) (q : Nat) : ((W.alloc a).alloc b).drewN q = grow (W.drewN q) #[a, b] := by
  rw [alloc_eq_grow, alloc_eq_grow, grow_grow]
  rfl
theorem cmpLays32 (blk off size : Nat) (w : World) : CmpLays Try.prog 29 #[] enc32 32 cf32 blk off size w := fun m os dk hs x y => by
  show Calls Try.prog 29 #[.agg (row8 x.1), .agg (row8 y.1)] _ _
  refine (cmp_any x.1 y.1 x.2 y.2 _).mono ?_
  rintro e w' ⟨rfl, q, rfl⟩
  exact ⟨rfl, q, _, grow_two _ _ _ _⟩
def toId (l : List UInt8) : Id32 := if h : l.length = 32 then ⟨l, h⟩ else default
theorem toId_val {l : List UInt8} (h : l.length = 32) : (toId l).1 = l := by
  unfold toId
  rw [dif_pos h]
theorem toId_map : ∀ {xs : List (List UInt8)}, (∀ x ∈ xs, x.length = 32) → (xs.map toId).map (·.1) = xs
  | [], _ => rfl
  | x :: xs, h => by
    rw [List.map_cons, List.map_cons, toId_val (h x (by simp)), toId_map fun y hy => h y (by simp [hy])]
theorem holds32 {W : World} {g : Nat} {cur : Array Value} {xs : List (List UInt8)} (hb : W.heap[g]? = some (.cells cur 31 (0, 0))) (hx : ∀ x ∈ xs, x.length = 32) (ht : cur.toList.take (xs.length * 32) = idsC xs) :
    HoldsK enc32 32 W g 0 (xs.map toId).toArray := by
  intro j hj
  have hsz : ((xs.map toId).toArray : Array Id32).size = xs.length := by simp
  rw [size_flatK, hsz] at hj
  refine ⟨?_, by simp [World.frozen?, hb]⟩
  have h1 : (cur.toList.take (xs.length * 32))[j]? = (idsC xs)[j]? := by rw [ht]
  rw [List.getElem?_take_of_lt hj] at h1
  have hi : j / 32 < xs.length := by omega
  have hm : j % 32 < 32 := Nat.mod_lt _ (by decide)
  rw [get_flatK _ _ _ _ (by rw [hsz]; exact hj)]
  rw [cell_of_cells hb, Nat.zero_add, ← Array.getElem?_toList, h1]
  have e : ((xs.map toId).toArray : Array Id32)[j / 32]! = toId xs[j / 32] := by
    rw [getElem!_pos _ _ (by simpa using hi)]
    simp
  have h32 : (xs[j / 32]).length = 32 := hx _ (List.getElem_mem hi)
  rw [e, enc32, toId_val h32]
  have hf := flatten_at32 hx (j / 32) (j % 32) hi hm
  rw [show j / 32 * 32 + j % 32 = j by omega, List.getElem?_eq_getElem hi, Option.getD_some] at hf
  unfold idsC u8s
  rw [List.getElem?_map, hf, List.getElem?_eq_getElem (show j % 32 < (xs[j / 32]).length by omega)]
  simp [show j % 32 < (xs[j / 32]).length by omega]
/-- What the row holds, as a slice of ids. -/
theorem ids_of_holds {W : World} {S : Nat → Prop} {g cap : Nat} {d : Array Id32} {N : Nat} (hN : d.size = N) (h : HoldsK enc32 32 W g 0 d) (hg : g < W.heap.size) (hS : S g) (hc : N ≤ cap) (hm : cap ≤ maxLen) :
    Ids W S (some ⟨g, 0, none⟩) N cap (d.toList.map (·.1)) :=
  ⟨by simp [hN], fun x hx => by
    obtain ⟨y, _, rfl⟩ := List.mem_map.1 hx
    exact y.2, hc, hm, fun _ => ⟨g, 0, rfl, hS, hg, fun i j hi hj => by
    have h1 := (h.cell (i := i) (c := j) (by omega) hj).1
    rw [Nat.add_assoc] at h1
    rw [h1]
    have hid : i < d.size := by omega
    have e : ((d.toList.map (·.1))[i]?.getD [] : List UInt8) = (d[i]!).1 := by
      rw [getElem!_pos d i hid]
      simp [hid]
    rw [e]
    have h32 := (d[i]!).2
    unfold enc32 u8s
    generalize (d[i]!).1 = x at *
    have hjx : j < x.length := by omega
    simp [hjx]⟩⟩
theorem gr_sort {w : World} {g n : Nat} {os : Array Obj} {d : Array Id32} : w.grownBy (sortWorldK enc32 32 w g 0 n d os) (some g) := by
  unfold sortWorldK putRowK
  refine ⟨rfl, rfl, rfl, by simp [putRow, mapBlock, Sort.ahead], fun k hk hne => ?_⟩
  rw [heap_grow_old _ _ (by simpa [putRow, mapBlock, Sort.ahead] using hk)]
  have : g ≠ k := fun e => hne (by rw [e])
  simp [putRow, mapBlock, Sort.ahead, Array.getElem?_modify, this]
theorem sort_keys {V : Type} {t : Tv V} {xs : List (List UInt8)} (h : Sv t) (hp : xs.Perm (t.map (·.1))) (hx : ∀ x ∈ xs, x.length = 32) :
    (((xs.map toId).mergeSort fun x y => !(ltOf cf32) y x).map (·.1)) = t.map (·.1) := by
  refine keys_perm_eq h ?_ ?_
  · refine ((List.mergeSort_perm _ _).map _).trans ?_
    rw [toId_map hx]
    exact hp
  · refine List.pairwise_map.2 (List.Pairwise.imp ?_ (List.pairwise_mergeSort (fun a b c h1 h2 => ?_) (fun a b => ?_) _))
    · intro a b hab
      rw [ltOf32] at hab
      simpa using hab
    · rw [ltOf32] at *
      simp only [Bool.not_eq_true', decide_eq_false_iff_not] at *
      exact List.not_lt.2 (List.le_trans (List.not_lt.1 h1) (List.not_lt.1 h2))
    · rw [ltOf32, ltOf32]
      by_cases h1 : b.1 < a.1
      · simp [h1, klt_as h1]
      · simp [h1]
set_option maxHeartbeats 2000000 in
set_option maxRecDepth 100000 in
theorem sortfunc_ids {W : World} {B : Nat} {V : Type} {t : Tv V} {v : Value} {xs : List (List UInt8)} (h : Sv t) (ht : ∀ p ∈ t, p.1.length = 32) (hn : t.length ≤ 1000000) (hp : xs.Perm (t.map (·.1))) (hown : W.ownsRow B 31 32 v xs.length (idsC xs)) (hB : B ≤ W.heap.size) :
    Calls Try.prog 48 #[v, .func (.func 29) #[] #[]] W fun e w' => e = .returned (.tuple #[]) ∧ ∃ A c, v = .slice A t.length c ∧ Ids w' (B ≤ ·) A t.length c (t.map (·.1)) ∧ Below B W w' := by
  have hl : xs.length = t.length := by rw [hp.length_eq]; simp
  have hx : ∀ x ∈ xs, x.length = 32 := fun x hx => by
    obtain ⟨p, hp1, hp2⟩ := List.mem_map.1 (hp.mem_iff.1 hx)
    rw [← hp2]
    exact ht p hp1
  rcases hown.2 with ⟨rfl, hz⟩ | ⟨g, cap, cur, rfl, hbase, hgb, r1, r2, r3, r4⟩
  · have ht0 : t = [] := List.eq_nil_of_length_eq_zero (by omega)
    subst ht0
    have hc : Calls Try.prog 48 #[.slice none 0 0, .func (.func 29) #[] #[]] W _ := AnyF.slices_SortFunc_none Try.sortfL none 0 (.func (.func 29) #[] #[]) W
    refine hc.mono ?_
    rintro e w' ⟨rfl, rfl⟩
    exact ⟨rfl, none, 0, rfl, Ids.nil _ _ _ _ (Nat.zero_le _), Below.refl _ _⟩
  · have hgl : g < W.heap.size := (Array.getElem?_eq_some_iff.1 hgb).1
    have hH := holds32 hgb hx r4
    have hsz : ((xs.map toId).toArray : Array Id32).size = xs.length := by simp
    have hc : Calls Try.prog 48 #[.slice (some ⟨g, 0, none⟩) ((xs.map toId).toArray : Array Id32).size cap, .func (.func 29) #[] #[]] W _ :=
      AnyQ.slices_SortFunc_total Try.sortfL 32 (fun w => by kernel_rfl) (fun w => by kernel_rfl) enc32 (fun x => by rw [enc32, u8s_length, x.2]) (fun x v hv => u8s_one x.1 v hv) cf32 swo32 29 #[] g 0 cap (xs.map toId).toArray W
        (enters_of Try.func29 (by kernel_rfl) rfl) (cmpLays32 _ _ _ _) hH hgl (by rw [hsz]; omega) (fun x y h1 h2 => by
          rw [ltOf32] at h1 h2
          simp only [decide_eq_false_iff_not] at h1 h2
          exact Subtype.ext (klt_tri h1 h2))
    rw [hsz] at hc
    refine hc.mono ?_
    have hk := sort_keys h hp hx
    rw [List.toList_toArray]
    obtain ⟨ys, hys⟩ : ∃ ys, ys = (xs.map toId).mergeSort fun x y => !(ltOf cf32) y x := ⟨_, rfl⟩
    have hyl : ys.length = xs.length := by rw [hys]; simp
    rw [← hys] at hk ⊢
    clear hys
    rintro e w' ⟨rfl, n, os, rfl⟩
    refine ⟨rfl, _, cap, by rw [← hl], ?_, below_gr gr_sort hbase hB⟩
    have hs := ids_of_holds (S := (B ≤ ·)) (N := t.length) (d := ys.toArray) (by simp [hyl, hl]) (holdsK_sortWorldK_c enc32 32 W g 0 (xs.map toId).toArray ys.toArray n os hH hgl (by simp [hyl])) (Nat.lt_of_lt_of_le hgl (gr_sort (w := W)).size) hbase (by omega) r2
    rw [List.toList_toArray, hk] at hs
    exact hs
set_option maxHeartbeats 2000000 in
set_option maxRecDepth 100000 in
/-- slices.SortedFunc. -/
theorem sorted_ids {V : Type} {t : Tv V} (ht : ∀ p ∈ t, p.1.length = 32) (hsv : Sv t) (hn : t.length ≤ 1000000) (g : Nat) (lb : Array Value) (K : Nat → Prop) (eg : ∀ args w, (callFunc g args).run Try.prog w = .ok (.enter g args) w) (w : World)
    (hseq : Iter Try.prog g lb (fun k => #[.agg (row8 k)]) K (fun _ pre _ => Kys t pre) (fun xs => xs.Perm (t.map (·.1))) w) (hK : ∀ b, K b → b < w.heap.size) :
    Calls Try.prog 38 #[.func (.func g) #[] lb, .func (.func 29) #[] #[]] w fun e w' => ∃ A c, e = .returned (.slice A t.length c) ∧ Ids w' (w.heap.size ≤ ·) A t.length c (t.map (·.1)) ∧ Below w.heap.size w w' := by
  have hcol := collect_ids ht hsv hn g lb K eg w hseq hK
  have HT := Lib.hid (And.intro ht (And.intro hsv hn))
  obtain ⟨FN, hFN⟩ : ∃ FN, FN = Value.func (.func g) #[] lb := ⟨_, rfl⟩
  obtain ⟨CM, hCM⟩ : ∃ CM, CM = Value.func (.func 29) #[] #[] := ⟨_, rfl⟩
  have HCM := Lib.hid hCM
  rw [← hFN] at hcol ⊢
  rw [← hCM]
  clear hFN hseq hK eg ht hsv hn hCM
  go_enter Try.func38, Try.ntmps38
  go_wp2_with (first
    | (go_at_call 47; refine hcol.mono ?_; clear hcol; rintro _ w1 ⟨v, xs, rfl, hp, hown, hb1⟩
       have hsf := sortfunc_ids HT.out.2.1 HT.out.1 HT.out.2.2 hp hown hb1.size
       rw [← HCM.out] at hsf
       have HB := Lib.hid hb1
       clear hp hown hb1)
    | (go_at_call 48; refine hsf.mono ?_; clear hsf; rintro _ w2 ⟨rfl, A, c, rfl, hids, hb2⟩))
  go_ret
  exact ⟨A, c, rfl, hids, HB.out.trans hb2⟩
end Go.Proofs.Ytmmibldchfmleaa

/-! Dedup: 'm[k]++' on a map whose keys are ids. -/
namespace Go.Proofs.Ytmmibldchfmleaa
open Go.RowKit Go.Maps
open Go.ChangeMaps (setBlock heap_setBlock_same heap_setBlock_other)

theorem idkeylaw : WideMaps.KeyLaw Try.prog 31 := deep_law_laid dd_laid (m := 2) (by omega) (of_decide_eq_true (by kernel_rfl)) (by kernel_rfl) (by kernel_rfl)
section
variable {V : Type} {enc : V → Value} {w w' : World} {b : Nat} {t : Tv V}
/-- The entry is laid where it isn't there; then it is stored; what is read between is as it was. -/
theorem Kv.entry (h : Kv enc w b t) {T E : TypeId} (hT : Try.prog.underlying T = some (.map 31 E)) {z0 : V} (hz : ∀ W, (zeroValue E).run Try.prog W = .ok (enc z0) W) {k : List UInt8} (hk : k.length = 32) (hl : t.length ≤ 10000000000000) (v : V) :
    ∃ v0 st w1, (Instr.mapEntry T (.map (some b)) (.agg (row8 k))).run Try.prog w = .ok (.tuple #[v0, .int .i64 st]) w1 ∧ w.mapTurned w1 b ∧
      (Instr.lookup T (.map (some b)) (.agg (row8 k)) false).run Try.prog w1 = .ok (enc ((getV t k).getD z0)) w1 ∧
      ∃ w2, (Instr.entryStore T (.map (some b)) (.int .i64 st) (enc v)).run Try.prog w1 = .ok () w2 ∧ Kv enc w2 b (putV t k v) ∧ w.mapTurned w2 b := by
  obtain ⟨D, ⟨es, clock, hb, F, hs, hD⟩, ha⟩ := h
  obtain ⟨v0, st, es1, clock1, hrun, _, hstore⟩ := WideElems.entry_then_store idkeylaw hT hz hb F (id_key hk)
  have hb1 := heap_setBlock_same hb (.map es1 clock1)
  have hput := fun x => Kv.put ⟨D, ⟨es, clock, hb, F, hs, hD⟩, ha⟩ hT hk hl x
  -- the world between: as it was, or with nought there
  have hmid : (Instr.lookup T (.map (some b)) (.agg (row8 k)) false).run Try.prog (setBlock w b (.map es1 clock1)) = .ok (enc ((getV t k).getD z0)) (setBlock w b (.map es1 clock1)) := by
    have hkv : Kv enc w b t := ⟨D, ⟨es, clock, hb, F, hs, hD⟩, ha⟩
    have hset : ∀ (A : World) (o o' : Obj), setBlock (setBlock A b o) b o' = setBlock A b o' := fun A o o' => by simp [setBlock]
    have key : ∃ t', Kv enc (setBlock w b (.map es1 clock1)) b t' ∧ (getV t' k).elim (enc z0) enc = enc ((getV t k).getD z0) := by
      rcases idlaw.find w (id_key hk) es.toList F.keys with ⟨h1, h2⟩ | ⟨j, e0, h1, h2, h3⟩
      · obtain ⟨w', hr, hkv', _⟩ := hput z0
        have e1 : (Instr.mapEntry T (.map (some b)) (.agg (row8 k))).run Try.prog w = .ok (.tuple #[enc z0, goInt clock]) (setBlock w b (.map (es.push ⟨.agg (row8 k), enc z0, clock⟩) (clock + 1))) := by
          simp [Instr.mapEntry, run_underlying hT, MapKept.run_getObj_map hb, idlaw.check w false (id_key hk), h1, hz, MapKept.run_setObj_map _ hb, Result.andThen, setBlock]
        have e2 : (Instr.mapUpdate T (.map (some b)) (.agg (row8 k)) (enc z0)).run Try.prog w = .ok () (setBlock w b (.map (es.push ⟨.agg (row8 k), enc z0, clock⟩) (clock + 1))) := by
          simp [Instr.mapUpdate, run_underlying hT, MapKept.run_getObj_map hb, idlaw.check w false (id_key hk), h1, MapKept.run_setObj_map _ hb, Result.andThen, setBlock]
        rw [hrun] at e1
        rw [hr] at e2
        injection e1 with _ e1
        injection e2 with _ e2
        have hno : getV t k = none := by
          have h5 := (Kv.look hkv hT (hz w) hk).1
          rcases hg : getV t k with _ | x
          · rfl
          · exfalso
            rw [hg] at h5
            simp [Instr.lookup, run_underlying hT, MapKept.run_getObj_map hb, idlaw.check w _ (id_key hk), h1, hz, Result.andThen] at h5
        exact ⟨_, by rw [e1, ← e2]; exact hkv', by rw [getV_put, if_pos rfl, hno]; rfl⟩
      · have hj : es[j]? = some e0 := by simpa using h2
        have hsame : es.modify j (fun e => { e with key := .agg (row8 k) }) = es := by
          apply Array.ext'
          rw [Array.toList_modify, ChangeMaps.modify_eq_set _ _ _ _ h2]
          have : ({ e0 with key := .agg (row8 k) } : MapEntry) = e0 := by rw [← h3]
          rw [this]
          exact WideElems.set_self _ _ _ h2
        have e1 : (Instr.mapEntry T (.map (some b)) (.agg (row8 k))).run Try.prog w = .ok (.tuple #[e0.val, goInt e0.born]) (setBlock w b (.map es clock)) := by
          simp [Instr.mapEntry, run_underlying hT, MapKept.run_getObj_map hb, idlaw.check w false (id_key hk), h1, hj, h3, idlaw.stays w (id_key hk), hsame, MapKept.run_setObj_map _ hb, Result.andThen, setBlock]
        rw [hrun] at e1
        injection e1 with _ e1
        refine ⟨t, by rw [e1]; exact hkv.kept ((heap_setBlock_same hb _).trans hb.symm), ?_⟩
        cases getV t k <;> rfl
    obtain ⟨t', h1, h2⟩ := key
    have h3 := (h1.look hT (hz _) hk).2
    rw [h2] at h3
    exact h3
  obtain ⟨es', clock', hst, hup⟩ := hstore (setBlock w b (.map es1 clock1)) (enc v) hb1
  obtain ⟨w', hr, hkv', hmt⟩ := hput v
  rw [hup] at hr
  injection hr with _ hr
  have hset : setBlock (setBlock w b (.map es1 clock1)) b (.map es' clock') = setBlock w b (.map es' clock') := by simp [setBlock]
  refine ⟨v0, st, _, hrun, ⟨es, clock, es1, clock1, hb, rfl⟩, hmid, _, hst, ?_, ?_⟩
  · rw [hset, hr]
    exact hkv'
  · rw [hset, hr]
    exact hmt
end
end Go.Proofs.Ytmmibldchfmleaa
