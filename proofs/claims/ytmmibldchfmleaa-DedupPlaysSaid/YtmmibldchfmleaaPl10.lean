/-
  Dedup: Find.
-/
import Derived.Test.YtmmibldchfmleaaPl08
import Derived.Test.YtmmibldchfmleaaPl09
import Derived.Test.YtmmibldchfmleaaPl04
namespace Go.Proofs.Ytmmibldchfmleaa
open Go.RowKit Go.Maps Codec
def RpkR (w : World) (t : Tv Pl) (n : Nat) (v4 v5 i : Value) (wr : World) : Prop :=
 ∃ (j : Nat) (A4 : Option Addr) (c4 : Nat) (A5 : Option Addr) (c5 : Nat), j ≤ n ∧ i = .int .i64 (j : Int) ∧ v4 = .slice A4 (packT (t.take j)).length c4 ∧ v5 = .slice A5 (packT (t.take j)).length c5 ∧
   wr.ownsRow w.heap.size 31 32 v4 (packT (t.take j)).length (idsC ((packT (t.take j)).map (·.1))) ∧ wr.ownsRow w.heap.size 3 1 v5 (packT (t.take j)).length (i64s (cntI (packT (t.take j)))) ∧ Below w.heap.size w wr
structure RpkS (w : World) (q M : Nat) (PS : Array Value) (A4 : Option Addr) (c4 : Nat) (A5 : Option Addr) (c5 : Nat) (H : Tv Nat) (W : World) : Prop where
 o4 : W.ownsRow w.heap.size 31 32 (.slice A4 M c4) M (idsC (H.map (·.1)))
 o5 : W.ownsRow w.heap.size 3 1 (.slice A5 M c5) M (i64s (cntI H))
 bl : Below w.heap.size w W
 box : W.heap[q]? = some (.cells PS 31 (0, 0))
theorem RpkS.later {w W W' : World} {q M : Nat} {PS : Array Value} {A4 A5 : Option Addr} {c4 c5 : Nat} {H : Tv Nat} (h : RpkS w q M PS A4 c4 A5 c5 H W) (hb : Below W.heap.size W W') : RpkS w q M PS A4 c4 A5 c5 H W' :=
 ⟨row_below h.o4 hb, row_below h.o5 hb, h.bl.trans (hb.mono h.bl.size), (hb.block _ (lt_of_cells h.box)).trans h.box⟩
theorem idsC_one (l : List (List UInt8)) : ∀ u ∈ idsC l, u.oneCell' = true := fun u hu => u8s_one _ u hu
theorem idsC_parts {l : List (List UInt8)} (h : ∀ x ∈ l, x.length = 32) (p : List UInt8) {k : Nat} (hk : k ≤ l.length) : (idsC l).take (k * 32) ++ (row8 p).toList ++ (idsC l).drop (k * 32) = idsC (l.take k ++ [p] ++ l.drop k) := by
 have h1 : (l.take k).flatten.length = k * 32 := by rw [flatten_length32 fun x hx => h x (List.mem_of_mem_take hx), List.length_take]; congr 1; omega
 have h2 : l.flatten = (l.take k).flatten ++ (l.drop k).flatten := by rw [← List.flatten_append, List.take_append_drop]
 have h3 : idsC l = idsC (l.take k) ++ idsC (l.drop k) := by unfold idsC; rw [h2]; simp [u8s]
 have h4 : (idsC (l.take k)).length = k * 32 := by rw [idsC, u8s_length, h1]
 rw [h3, List.take_append_of_le_length (by omega), List.take_of_length_le (by omega), List.drop_append_of_le_length (by omega), List.drop_of_length_le (by omega)]
 simp [idsC, u8s, row8]
theorem i64s_one (l : List Int) : ∀ u ∈ i64s l, u.oneCell' = true := fun u hu => by
 obtain ⟨x, _, rfl⟩ := List.mem_map.1 hu
 rfl
theorem i64s_parts (l : List Int) (x : Int) (k : Nat) : (i64s l).take (k * 1) ++ [.int .i64 x] ++ (i64s l).drop (k * 1) = i64s (l.take k ++ [x] ++ l.drop k) := by simp [i64s, List.map_take, List.map_drop]
theorem int_sizeOf (w : World) : (Go.sizeOf 3).run Try.prog w = .ok 1 w := by
 obtain ⟨i0, hi, _, hz1, _⟩ := info_parts dd_int_info
 simp [Go.sizeOf, typeInfo, hi, hz1, Sem.run_bind]
theorem cntI_wf {t : Tv Pl} (h : t.length ≤ 100000) : ∀ x ∈ cntI (packT t), (Lit.int .i64 x).wf = true := fun x hx => by
 obtain ⟨y, hy, rfl⟩ := List.mem_map.1 hx
 have h1 := (packT_pos hy).1
 have h2 : cntP t y.1 ≤ t.length := List.countP_le_length
 show (decide (IntKind.i64.min ≤ (y.2 : Int)) && decide ((y.2 : Int) ≤ IntKind.i64.max)) = true
 rw [show IntKind.i64.min = -9223372036854775808 by decide, show IntKind.i64.max = 9223372036854775807 by decide]
 simp
 omega
set_option maxHeartbeats 8000000 in
set_option maxRecDepth 100000 in
theorem drpacks_any {w : World} {S : Nat → Prop} {A : Option Addr} {n c : Nat} {t : Tv Pl} (h : Es w S A n c t) (hn : n ≤ 100000) :
    Calls Try.prog 23 #[.slice A n c] w fun r w' => ∃ A1 c1 A2 c2, r = .returned (.tuple #[.slice A1 (packT t).length c1, .slice A2 (packT t).length c2]) ∧
     Ids w' (w.heap.size ≤ ·) A1 (packT t).length c1 ((packT t).map (·.1)) ∧ Ints .i64 w' (w.heap.size ≤ ·) A2 (packT t).length c2 (cntI (packT t)) ∧ Below w.heap.size w w' := by
 have hzi := zero_id
 have HH := Lib.hid (And.intro h (And.intro h.len hn))
 clear h hn
 go_enter Try.func23, Try.ntmps23
 go_upto_region 4 with fail
 go_loopw [4, 5, 6] (fun v4 v5 i wr => RpkR w t n v4 v5 i wr) (fun _ _ i _ => n - (intOf i).toNat)
 case atStart => exact ⟨0, none, 0, none, 0, Nat.zero_le _, rfl, rfl, rfl, World.ownsRow_nil _ _ _ _, World.ownsRow_nil _ _ _ _, Below.refl _ _⟩
 case round =>
  obtain ⟨j, A4, c4, A5, c5, hj, rfl, rfl, rfl, ho4, ho5, hbw⟩ := hrel
  by_cases hlt : j < n
  ·have hlt' : (j : Int) < (n : Int) := by omega
   obtain ⟨b, off, e, hA, hbl, he, h1, h2, _, hc, _⟩ := HH.out.1.at_ hlt
   subst hA
   obtain ⟨PS, hPS⟩ : ∃ PS, PS = row8 e.2.1 := ⟨_, rfl⟩
   obtain ⟨H, hH⟩ : ∃ H, H = packT (t.take j) := ⟨_, rfl⟩
   rw [← hH] at ho4 ho5 ⊢
   obtain ⟨M, hM⟩ : ∃ M, M = H.length := ⟨_, rfl⟩
   rw [← hM] at ho4 ho5 ⊢
   have hMj : M ≤ j := by rw [hM, hH]; have := packT_len (t.take j); rw [List.length_take] at this; omega
   have hk32 : ∀ y ∈ H, y.1.length = 32 := by rw [hH]; exact packT_keys fun x hx => (HH.out.1.each x (List.mem_of_mem_take hx)).2
   have hsv : Sv H := by rw [hH]; exact packT_srt _
   have hHn : packT (t.take (j + 1)) = incV H e.2.1 := by rw [hH, ddtake_snoc' he, packT_snoc]
   have hcn : ∀ y ∈ H, y.2 ≤ 100000 := fun y hy => by
    rw [hH] at hy
    have h1 := (packT_pos hy).1
    have h2 : cntP (t.take j) y.1 ≤ (t.take j).length := List.countP_le_length
    rw [List.length_take] at h2
    have := HH.out.2.2
    omega
   have HPC : Hid (∀ u v, PS[u]? = some v → wr.cell? ((⟨b, off + j * 65 + 32, none⟩ : Addr).add u) = some v) := Lib.hid fun u v hu => by
    have h := hc u v (by rw [← hPS]; exact hu)
    rw [add_plain] at h ⊢
    exact (hbw.cell (p := ⟨b, _, none⟩) hbl).trans h
   have HE : Hid (PS.size = 32 ∧ PS.all (·.oneCell') = true ∧ e.2.1.length = 32 ∧ PS = row8 e.2.1) := Lib.hid ⟨by rw [hPS, row8_size, h2], by rw [hPS]; exact row8_one _, h2, hPS⟩
   have HJ := Lib.hid (And.intro hlt (And.intro hMj (And.intro hk32 (And.intro hsv (And.intro hHn (And.intro hM hcn))))))
   have HO := Lib.hid (And.intro ho4 (And.intro ho5 hbw))
   clear hcn hPS hH hM hMj hk32 hsv hHn hc he h1 h2 hbl hj hlt ho4 ho5 hbw
   go_wp2_with (first
    | (refine wpList_load_at (by rfl) 31 (.tmp 20) (by rfl) ⟨b, off + j * 65 + 32, none⟩ (by rfl) PS _ HPC.out Try.underlying31 (by rfl) (by rw [HE.out.1]; exact id_info) ?_)
    | (refine wpList_store_row (by rfl) 31 (.tmp 7) (.tmp 21) (by rfl) wr.heap.size PS (by rfl) (by rfl) 31 zerosId (heap_alloc_new _ _) (by rw [HE.out.1]; exact id_info) (by rw [HE.out.1]; rfl) HE.out.2.1 ?_
       have hbS : Below wr.heap.size wr ((wr.alloc (.cells zerosId 31)).setRow wr.heap.size PS) := below_setRow ((Below.refl _ _).alloc (Nat.le_refl _) _) (Nat.le_refl _) _
       have H5 : Hid (RpkS w wr.heap.size M PS A4 c4 A5 c5 H ((wr.alloc (.cells zerosId 31)).setRow wr.heap.size PS)) := Lib.hid ⟨row_below HO.out.1 hbS, row_below HO.out.2.1 hbS, HO.out.2.2.trans (hbS.mono HO.out.2.2.size), setRow_at (heap_alloc_new _ _)⟩
       clear hbS HO HPC
       generalize (wr.alloc (.cells zerosId 31)).setRow wr.heap.size PS = w5 at H5 ⊢
       generalize wr.heap.size = q at H5 ⊢))
   go_loopw [8] (fun kv wi => ∃ k m : Nat, k ≤ M ∧ kv = .int .i64 (k : Int) ∧ wi = w5.drewN m ∧ ∀ y ∈ H.take k, y.1 < e.2.1) (fun kv _ => M - (intOf kv).toNat)
   case atStart => exact ⟨0, 0, Nat.zero_le _, rfl, rfl, by simp⟩
   case round =>
    obtain ⟨k, m, hk, rfl, rfl, hbe⟩ := hrel
    have hS5 : RpkS w q M PS A4 c4 A5 c5 H (w5.drewN m).drew := H5.out.later (below_drew (below_drewN (Below.refl _ _) m))
    by_cases hkl : k < M
    ·have hkl' : (k : Int) < (M : Int) := by omega
     obtain ⟨y, hy⟩ : ∃ y, H[k]? = some y := ⟨_, List.getElem?_eq_getElem (by rw [← HJ.out.2.2.2.2.2.1]; exact hkl)⟩
     have hy32 : y.1.length = 32 := HJ.out.2.2.1 y (List.mem_of_getElem? hy)
     have h32 : ∀ x ∈ H.map (·.1), x.length = 32 := fun x hx => by
      obtain ⟨z, hz, rfl⟩ := List.mem_map.1 hx
      exact HJ.out.2.2.1 z hz
     obtain ⟨Ai, ci, ei, hids⟩ := own_ids hS5.o4 h32
     injection ei with e1 e2 e3
     subst e1 e3
     obtain ⟨b', off', hA4, hbl', hl', hcc⟩ := hids.at_ hkl
     have hyk : ((H.map (·.1))[k]?.getD []) = y.1 := by rw [List.getElem?_map, hy]; rfl
     rw [hyk] at hcc
     have hby := esByt hcc hbl' hy32
     have hbx : Byt (w5.drewN m).drew (fun _ => True) (some ⟨q, 0, none⟩) 32 32 e.2.1 := esByt (fun u v hu => by
      rw [add_plain, Nat.zero_add, cell_of_cells hS5.box u, HE.out.2.2.2]
      exact hu) (lt_of_cells hS5.box) HE.out.2.2.1
     obtain ⟨Z, hZ⟩ : ∃ Z, Z = decide (y.1 < e.2.1) := ⟨_, rfl⟩
     have hls : Op.bytesLess (st y.1).toList (st e.2.1).toList = Z := by rw [st_list, st_list, bytes_less, hZ]
     have hC : (fun W : World => Byt W (fun _ => True) (some ⟨b', off' + k * 32, none⟩) 32 32 y.1 ∧ Byt W (fun _ => True) (some ⟨q, 0, none⟩) 32 32 e.2.1) (w5.drewN m).drew := ⟨hby, hbx⟩
     obtain ⟨SY, hSY⟩ : ∃ SY, SY = st y.1 := ⟨_, rfl⟩
     obtain ⟨SE, hSE⟩ : ∃ SE, SE = st e.2.1 := ⟨_, rfl⟩
     rw [← hSY, ← hSE] at hls
     have HSS := Lib.hid (And.intro hSY hSE)
     have hkk := IntWalk.i64_in ((k : Int) + 1) (by have := HH.out.2.2; have := HJ.out.1; have := HJ.out.2.1; omega)
     have HK := Lib.hid (And.intro hkl (And.intro hbe (And.intro hy (And.intro hZ (And.intro hS5 (And.intro hA4 (And.intro hcc hy32)))))))
     subst hA4
     clear hZ hSY hSE hy hy32 h32 hcc hyk hbl' hl' hby hbx hbe hS5 hk hkl hids
     go_wp2
     refine wp_region_plan (fun W : World => Byt W (fun _ => True) (some ⟨b', off' + k * 32, none⟩) 32 32 y.1 ∧ Byt W (fun _ => True) (some ⟨q, 0, none⟩) 32 32 e.2.1) [] [0, 1, 2, 3, 4, 5, 6, 7, 8, 9, 10, 11, 12, 13] (by kernel_rfl) (by kernel_rfl) (fun _ _ d _ _ h => by cases d <;> exact h) hC ?_
     refine plan_last ?_
     refine seg_read ?v1 (by rfl) (by rfl) ?h1 ?_
     case h1 => intro W hW; go_simp; with_reducible rfl
     try simp only [Act.put, List.setIfInBounds_toArray, List.set_cons_zero, List.set_cons_succ]
     refine seg_read ?v2 (by rfl) (by rfl) ?h2 ?_
     case h2 => intro W hW; go_simp; with_reducible rfl
     try simp only [Act.put, List.setIfInBounds_toArray, List.set_cons_zero, List.set_cons_succ]
     refine seg_read ?v3 (by rfl) (by rfl) ?h3 ?_
     case h3 => intro W hW; go_simp; with_reducible rfl
     try simp only [Act.put, List.setIfInBounds_toArray, List.set_cons_zero, List.set_cons_succ]
     refine seg_read ?v4 (by rfl) (by rfl) ?h4 ?_
     case h4 => intro W hW; go_simp; with_reducible rfl
     try simp only [Act.put, List.setIfInBounds_toArray, List.set_cons_zero, List.set_cons_succ]
     refine seg_read ?v5 (by rfl) (by rfl) ?h5 ?_
     case h5 => intro W hW; go_simp; with_reducible rfl
     try simp only [Act.put, List.setIfInBounds_toArray, List.set_cons_zero, List.set_cons_succ]
     refine seg_read ?v6 (by rfl) (by rfl) ?h6 ?_
     case h6 => intro W hW; go_simp; with_reducible rfl
     try simp only [Act.put, List.setIfInBounds_toArray, List.set_cons_zero, List.set_cons_succ]
     refine seg_read ?v7 (by rfl) (by rfl) ?h7 ?_
     case h7 => intro W hW; go_simp; with_reducible rfl
     try simp only [Act.put, List.setIfInBounds_toArray, List.set_cons_zero, List.set_cons_succ]
     refine seg_read ?v8 (by rfl) (by rfl) ?h8 ?_
     case h8 => intro W hW; go_simp; with_reducible rfl
     try simp only [Act.put, List.setIfInBounds_toArray, List.set_cons_zero, List.set_cons_succ]
     refine seg_read ?v9 (by rfl) (by rfl) ?h9 ?_
     case h9 => intro W hW; go_simp; with_reducible rfl
     try simp only [Act.put, List.setIfInBounds_toArray, List.set_cons_zero, List.set_cons_succ]
     refine seg_read ?v10 (by rfl) (by rfl) ?h10 ?_
     case h10 => intro W hW; have hcv := byt_string hW.1; rw [show (⟨y.1.toArray⟩ : ByteArray) = SY from HSS.out.1.symm] at hcv; go_simp; with_reducible rfl
     try simp only [Act.put, List.setIfInBounds_toArray, List.set_cons_zero, List.set_cons_succ]
     refine seg_read ?v11 (by rfl) (by rfl) ?h11 ?_
     case h11 => intro W hW; go_simp; with_reducible rfl
     try simp only [Act.put, List.setIfInBounds_toArray, List.set_cons_zero, List.set_cons_succ]
     refine seg_read ?v12 (by rfl) (by rfl) ?h12 ?_
     case h12 => intro W hW; have hcv := byt_string hW.2; rw [show (⟨e.2.1.toArray⟩ : ByteArray) = SE from HSS.out.2.symm] at hcv; go_simp; with_reducible rfl
     try simp only [Act.put, List.setIfInBounds_toArray, List.set_cons_zero, List.set_cons_succ]
     refine seg_read ?v13 (by rfl) (by rfl) ?h13 ?_
     case h13 => intro W hW; have hlw := hls; go_simp; with_reducible rfl
     try simp only [Act.put, List.setIfInBounds_toArray, List.set_cons_zero, List.set_cons_succ]
     refine seg_read ?v14 (by rfl) (by rfl) ?h14 ?_
     case h14 => intro W hW; go_simp; with_reducible rfl
     try simp only [Act.put, List.setIfInBounds_toArray, List.set_cons_zero, List.set_cons_succ]
     refine seg_nil ?_
     cases Z
     ·obtain ⟨Ad, hAd⟩ : ∃ Ad : Option Addr, Ad = some ⟨b', off', none⟩ := ⟨_, rfl⟩
      have hnl : ¬ y.1 < e.2.1 := of_decide_eq_false HK.out.2.2.2.1.symm
      have hS5 := HK.out.2.2.2.2.1
      have hcc := HK.out.2.2.2.2.2.2.1
      obtain ⟨YS, hYS⟩ : ∃ YS, YS = row8 y.1 := ⟨_, rfl⟩
      rw [← hYS] at hcc
      have HY : Hid (YS.size = 32) := Lib.hid (by rw [hYS, row8_size, HK.out.2.2.2.2.2.2.2])
      obtain ⟨Z2, hZ2⟩ : ∃ Z2, Z2 = decide (y.1 = e.2.1) := ⟨_, rfl⟩
      have hqe : ∀ W, (Op.equalIn 10000 31 (.agg YS) (.agg PS)).run Try.prog W = .ok Z2 W := fun W => by rw [hYS, HE.out.2.2.2, hZ2]; exact dd_ideq _ _ HK.out.2.2.2.2.2.2.2 HE.out.2.2.1 W
      have hC2 : (fun W : World => (∀ u v, YS[u]? = some v → W.cell? ((⟨b', off' + k * 32, none⟩ : Addr).add u) = some v) ∧ W.heap[q]? = some (.cells PS 31 (0, 0))) (w5.drewN m).drew.drew := ⟨hcc, hS5.box⟩
      have HZ := Lib.hid (And.intro hZ2 hnl)
      clear hZ2 hnl hcc hYS hls hC hkk hS5
      go_wp2
      refine wp_region_plan (fun W : World => (∀ u v, YS[u]? = some v → W.cell? ((⟨b', off' + k * 32, none⟩ : Addr).add u) = some v) ∧ W.heap[q]? = some (.cells PS 31 (0, 0))) [] [0, 1, 2, 3, 4, 5, 6, 7, 8, 9, 10, 11] (by kernel_rfl) (by kernel_rfl) (fun _ _ d _ _ h => by cases d <;> exact h) hC2 ?_
      refine plan_last ?_
      refine seg_read ?v21 (by rfl) (by rfl) ?h21 ?_
      case h21 => intro W hW; go_simp; with_reducible rfl
      try simp only [Act.put, List.setIfInBounds_toArray, List.set_cons_zero, List.set_cons_succ]
      refine seg_read ?v22 (by rfl) (by rfl) ?h22 ?_
      case h22 => intro W hW; go_simp; with_reducible rfl
      try simp only [Act.put, List.setIfInBounds_toArray, List.set_cons_zero, List.set_cons_succ]
      refine seg_read ?v23 (by rfl) (by rfl) ?h23 ?_
      case h23 => intro W hW; go_simp; with_reducible rfl
      try simp only [Act.put, List.setIfInBounds_toArray, List.set_cons_zero, List.set_cons_succ]
      refine seg_read ?v24 (by rfl) (by rfl) ?h24 ?_
      case h24 => intro W hW; go_simp; with_reducible rfl
      try simp only [Act.put, List.setIfInBounds_toArray, List.set_cons_zero, List.set_cons_succ]
      refine seg_read ?v25 (by rfl) (by rfl) ?h25 ?_
      case h25 => intro W hW; go_simp; with_reducible rfl
      try simp only [Act.put, List.setIfInBounds_toArray, List.set_cons_zero, List.set_cons_succ]
      refine seg_read ?v26 (by rfl) (by rfl) ?h26 ?_
      case h26 => intro W hW; go_simp; with_reducible rfl
      try simp only [Act.put, List.setIfInBounds_toArray, List.set_cons_zero, List.set_cons_succ]
      refine seg_read ?v27 (by rfl) (by rfl) ?h27 ?_
      case h27 => intro W hW; go_simp; with_reducible rfl
      try simp only [Act.put, List.setIfInBounds_toArray, List.set_cons_zero, List.set_cons_succ]
      refine seg_read ?v28 (by rfl) (by rfl) ?h28 ?_
      case h28 => intro W hW; go_simp; with_reducible rfl
      try simp only [Act.put, List.setIfInBounds_toArray, List.set_cons_zero, List.set_cons_succ]
      refine seg_read (.agg YS) (by rfl) (by rfl) (fun W hW => exec_load_ad 31 (.tmp 45) (by rfl) ⟨b', off' + k * 32, none⟩ (by rfl) YS hW.1 Try.underlying31 (by rfl) (by rw [HY.out]; exact id_info)) ?_
      try simp only [Act.put, List.setIfInBounds_toArray, List.set_cons_zero, List.set_cons_succ]
      refine seg_read (.agg PS) (by rfl) (by rfl) (fun W hW => exec_load_st 31 (.tmp 7) (by rfl) q (by rfl) PS (0, 0) hW.2 _ Try.underlying31 (by rfl) (by rw [HE.out.1]; exact id_info)) ?_
      try simp only [Act.put, List.setIfInBounds_toArray, List.set_cons_zero, List.set_cons_succ]
      refine seg_read ?v29 (by rfl) (by rfl) ?h29 ?_
      case h29 => intro W hW; have hqw := hqe W; go_simp; with_reducible rfl
      try simp only [Act.put, List.setIfInBounds_toArray, List.set_cons_zero, List.set_cons_succ]
      refine seg_read ?v30 (by rfl) (by rfl) ?h30 ?_
      case h30 => intro W hW; go_simp; with_reducible rfl
      try simp only [Act.put, List.setIfInBounds_toArray, List.set_cons_zero, List.set_cons_succ]
      refine seg_nil ?_
      cases Z2
      ·have hne : y.1 ≠ e.2.1 := of_decide_eq_false HZ.out.1.symm
       have hlt2 : e.2.1 < y.1 := Decidable.byContradiction fun h => hne (klt_tri HZ.out.2 h)
       have hbe := HK.out.2.1
       have hnx : ∀ z, H[k]? = some z → e.2.1 < z.1 := fun z hz => by
        rw [HK.out.2.2.1] at hz
        obtain rfl := Option.some.inj hz
        exact hlt2
       have hkm : k ≤ M := Nat.le_of_lt HK.out.1
       have hS6 : RpkS w q M PS (some ⟨b', off', none⟩) c4 A5 c5 H (w5.drewN (m + 1)).drew := H5.out.later (below_drew (below_drewN (Below.refl _ _) (m + 1)))
       rw [← hAd] at hS6 ⊢
       clear hAd hqe hC2 hne hlt2 HK H5
       generalize (w5.drewN (m + 1)).drew = w6 at hS6 ⊢
       have h32 : ∀ x ∈ H.map (·.1), x.length = 32 := fun x hx => by
        obtain ⟨z, hz, rfl⟩ := List.mem_map.1 hx
        exact HJ.out.2.2.1 z hz
       have hMl : M = H.length := HJ.out.2.2.2.2.2.1
       have hM5 : M ≤ 100000 := by have := HH.out.2.2; have := HJ.out.1; have := HJ.out.2.1; omega
       obtain ⟨I0, hI0, hIz, hIs, hIb⟩ := info_parts id_info3
       obtain ⟨J0, hJ0, hJz, hJs, hJb⟩ := info_parts dd_int_info
       have hcA : M ≤ c4 := by obtain ⟨_, _, e1, h1⟩ := row_slice hS6.o4; injection e1 with e1 e2 e3; omega
       have hcB : M ≤ c5 := by obtain ⟨_, _, e1, h1⟩ := row_slice hS6.o5; injection e1 with e1 e2 e3; omega
       have hp8 : (row8 e.2.1).toList.length = 32 := by rw [← HE.out.2.2.2, Array.length_toList, HE.out.1]
       obtain ⟨A1, c1, w7, A2, c2, w8, A3, c3, w9, r1, r2, r3, o3, b1, b2, b3⟩ := gins (W := w6) (k := k) (pc := (row8 e.2.1).toList) Try.underlying55 hI0 hIz hIs hIb (by unfold zerosId; rfl) (by decide) hS6.o4.1 (row_at hS6.o4) hcA hkm hM5 (idsC_one _) hp8 (fun u hu => u8s_one _ u (by simpa [row8] using hu)) (by decide) 55
       have ho5 := row_below hS6.o5 b3
       obtain ⟨A11, c11, w17, A12, c12, w18, A13, c13, w19, r11, r12, r13, o13, b11, b12, b13⟩ := gins (W := w9) (k := k) (pc := [.int .i64 1]) Try.underlying57 hJ0 hJz hJs hJb (by rfl) (by decide) ho5.1 (row_at ho5) hcB hkm hM5 (i64s_one _) rfl (by simp [Value.oneCell']) (by decide) 57
       rw [idsC_parts h32 e.2.1 (by rw [List.length_map]; omega)] at o3
       rw [i64s_parts] at o13
       have hinc := inc_new (pk := e.2.1) HJ.out.2.2.2.1 hbe hnx
       have hnew : packT (t.take (j + 1)) = H.take k ++ [(e.2.1, 1)] ++ H.drop k := by rw [HJ.out.2.2.2.2.1, hinc]
       have hnl : (packT (t.take (j + 1))).length = M + 1 := by rw [hnew]; simp; omega
       have hk1 : (packT (t.take (j + 1))).map (·.1) = (H.map (·.1)).take k ++ [e.2.1] ++ (H.map (·.1)).drop k := by rw [hnew]; simp [List.map_take, List.map_drop]
       have hk2 : cntI (packT (t.take (j + 1))) = (cntI H).take k ++ [1] ++ (cntI H).drop k := by rw [hnew]; simp [cntI, List.map_take, List.map_drop]
       rw [← hk1] at o3
       rw [← hk2] at o13
       have hB3 := hS6.bl.trans (b3.mono hS6.bl.size)
       have HF : Hid (w19.ownsRow w.heap.size 31 32 (.slice A3 (M + 1) c3) (M + 1) (idsC ((packT (t.take (j + 1))).map (·.1))) ∧ w19.ownsRow w.heap.size 3 1 (.slice A13 (M + 1) c13) (M + 1) (i64s (cntI (packT (t.take (j + 1))))) ∧ Below w.heap.size w w19 ∧ (packT (t.take (j + 1))).length = M + 1) :=
        Lib.hid ⟨row_base (row_below o3 b13) hS6.bl.size, row_base o13 (by have := hB3.size; omega), hB3.trans (b13.mono hB3.size), hnl⟩
       have HQ : Hid (w7.heap[q]? = some (.cells PS 31 (0, 0))) := Lib.hid ((b1.block q (lt_of_cells hS6.box)).trans hS6.box)
       have hlit := run_ids_lit w7 PS HE.out.2.2.2 HE.out.2.2.1
       rw [show (row8 e.2.1).toList.toArray = PS by rw [HE.out.2.2.2]] at r2
       have hto4 := run_gto (ts := 55) Try.underlying55 id_sizeOf Ad M c4 k (by omega) w6
       have hfr4 := run_gfrom (ts := 55) Try.underlying55 id_sizeOf Ad M c4 k hkm w8
       have hto5 := run_gto (ts := 57) Try.underlying57 int_sizeOf A5 M c5 k (by omega) w9
       have hfr5 := run_gfrom (ts := 57) Try.underlying57 int_sizeOf A5 M c5 k hkm w18
       obtain ⟨AC, hAC⟩ : ∃ AC, AC = cutG 32 Ad c4 k := ⟨_, rfl⟩
       obtain ⟨AD, hAD⟩ : ∃ AD, AD = cutG 1 A5 c5 k := ⟨_, rfl⟩
       obtain ⟨NJ, hNJ⟩ : ∃ NJ, NJ = M - k := ⟨_, rfl⟩
       obtain ⟨CJ, hCJ⟩ : ∃ CJ, CJ = c4 - k := ⟨_, rfl⟩
       obtain ⟨CK, hCK⟩ : ∃ CK, CK = c5 - k := ⟨_, rfl⟩
       rw [← hAC, ← hNJ, ← hCJ] at hfr4 r3
       rw [← hAD, ← hNJ, ← hCK] at hfr5 r13
       have HR := Lib.hid (And.intro r1 (And.intro r2 (And.intro r3 (And.intro r11 (And.intro r12 r13)))))
       have hjj := IntWalk.i64_in ((j : Int) + 1) (by have := HH.out.2.2; have := HJ.out.1; omega)
       clear hAC hAD hNJ hCJ hCK r1 r2 r3 r11 r12 r13 o3 o13 b1 b2 b3 b11 b12 b13 hB3 hk1 hk2 hnl hnew hinc ho5 hp8 hcA hcB hM5 hMl h32 hI0 hIz hIs hIb hJ0 hJz hJs hJb hS6 hbe hnx hkm
       go_wp2_with (first
        | (refine wpList_load_row (by rfl) 31 (.tmp 7) (by rfl) q (by rfl) 31 PS (0, 0) _ HQ.out Try.underlying31 (by rfl) (by rw [HE.out.1]; exact id_info) ?_)
        | (refine wpList_lit1 (by rfl) 55 (.tmp 62) (by rfl) (by rfl) hlit ?_)
        | (at_builtin; refine wpList_app (by rfl) (.tmp 56) (.tmp 59) 55 (by rfl) (by rfl) (by rfl) HR.out.1 ?_)
        | (at_builtin; refine wpList_app (by rfl) (.tmp 61) (.tmp 63) 55 (by rfl) (by rfl) (by rfl) HR.out.2.1 ?_)
        | (at_builtin; refine wpList_app (by rfl) (.tmp 65) (.tmp 68) 55 (by rfl) (by rfl) (by rfl) HR.out.2.2.1 ?_)
        | (at_builtin; refine wpList_app (by rfl) (.tmp 70) (.tmp 73) 57 (by rfl) (by rfl) (by rfl) HR.out.2.2.2.1 ?_)
        | (at_builtin; refine wpList_app (by rfl) (.tmp 75) (.tmp 76) 57 (by rfl) (by rfl) (by rfl) HR.out.2.2.2.2.1 ?_)
        | (at_builtin; refine wpList_app (by rfl) (.tmp 78) (.tmp 81) 57 (by rfl) (by rfl) (by rfl) HR.out.2.2.2.2.2 ?_))
       exact ⟨⟨j + 1, A3, c3, A13, c13, HJ.out.1, by simp, by rw [HF.out.2.2.2], by rw [HF.out.2.2.2], by rw [HF.out.2.2.2]; exact HF.out.1, by rw [HF.out.2.2.2]; exact HF.out.2.1, HF.out.2.2.1⟩, by have := HJ.out.1; simp only [intOf]; omega⟩
      ·have hye : y.1 = e.2.1 := of_decide_eq_true HZ.out.1.symm
       have hS6 : RpkS w q M PS (some ⟨b', off', none⟩) c4 A5 c5 H (w5.drewN (m + 1)).drew := H5.out.later (below_drew (below_drewN (Below.refl _ _) (m + 1)))
       rw [← hAd] at hS6 ⊢
       generalize (w5.drewN (m + 1)).drew = w6 at hS6 ⊢
       obtain ⟨g5, hA5, hg5, hgl, ⟨cs5, hcs5, _⟩, _, _, hcc5⟩ := row_cells hS6.o5 (by have := HK.out.1; omega)
       subst hA5
       have hcl : w6.cell? ⟨g5, k, none⟩ = some (.int .i64 (y.2 : Int)) := hcc5 k _ (by
        have hy := HK.out.2.2.1
        simp [i64s, cntI, List.getElem?_map, hy])
       have hfz := hS6.o5.frozenAt k
       have hkk := IntWalk.i64_in ((y.2 : Int) + 1) (by have := HJ.out.2.2.2.2.2.2 y (List.mem_of_getElem? HK.out.2.2.1); omega)
       have hjj := IntWalk.i64_in ((j : Int) + 1) (by have := HH.out.2.2; have := HJ.out.1; omega)
       obtain ⟨hi1, hi2, hi3⟩ := inc_old_keys HJ.out.2.2.2.1 HK.out.2.2.1 hye
       rw [← HJ.out.2.2.2.2.1] at hi1 hi2 hi3
       have hlen : (packT (t.take (j + 1))).length = M := hi3.trans HJ.out.2.2.2.2.2.1.symm
       have HF : Hid ((w6.setCell ⟨g5, k, none⟩ (.int .i64 ((y.2 : Int) + 1))).ownsRow w.heap.size 31 32 (.slice Ad M c4) M (idsC ((packT (t.take (j + 1))).map (·.1))) ∧
           (w6.setCell ⟨g5, k, none⟩ (.int .i64 ((y.2 : Int) + 1))).ownsRow w.heap.size 3 1 (.slice (some ⟨g5, 0, none⟩) M c5) M (i64s (cntI (packT (t.take (j + 1))))) ∧ Below w.heap.size w (w6.setCell ⟨g5, k, none⟩ (.int .i64 ((y.2 : Int) + 1))) ∧ (packT (t.take (j + 1))).length = M) := by
        refine Lib.hid ⟨?_, ?_, hS6.bl.setCell (p := ⟨g5, k, none⟩) hg5 _, hlen⟩
        ·rw [hi1]
         refine row_keep hS6.o4 fun r hr => Below.heap_setCell _ _ _ _ fun (e3 : r = g5) => ?_
         rcases hS6.o4.2 with ⟨h1, _⟩ | ⟨g, cap, cur, h1, _, h2, _⟩
         ·injection h1 with h1; rw [h1] at hr; cases hr
         ·injection h1 with h1
          rw [h1] at hr
          injection hr with hr
          have hr' : g = r := hr
          rw [hr', e3, hcs5] at h2
          injection h2 with h2
          injection h2 with _ h2
          exact absurd h2 (by decide)
        ·have h1 := (hS6.o5.stored k (.int .i64 ((y.2 : Int) + 1))).1
         have h2 : (i64s (cntI H)).set k (.int .i64 ((y.2 : Int) + 1)) = i64s (cntI (packT (t.take (j + 1)))) := by
          rw [show cntI (packT (t.take (j + 1))) = (cntI H).set k ((y.2 + 1 : Nat) : Int) from hi2]
          simp [i64s, List.map_set]
         rw [h2] at h1
         exact h1
       clear hye hAd hcs5 hcc5 hgl hg5 hi1 hi2 hi3 hlen hS6 hqe hC2 H5
       go_wp2
       exact ⟨⟨j + 1, Ad, c4, some ⟨g5, 0, none⟩, c5, HJ.out.1, by simp, by rw [HF.out.2.2.2], by rw [HF.out.2.2.2], by rw [HF.out.2.2.2]; exact HF.out.1, by rw [HF.out.2.2.2]; exact HF.out.2.1, HF.out.2.2.1⟩, by have := HJ.out.1; simp only [intOf]; omega⟩
     ·go_wp2
      exact ⟨⟨k + 1, m + 1, by have := HK.out.1; omega, by simp, by simp [World.drewN], fun x hx => by
       rw [ddtake_snoc' HK.out.2.2.1] at hx
       rcases List.mem_append.1 hx with hx | hx
       ·exact HK.out.2.1 x hx
       ·simp only [List.mem_singleton] at hx
        rw [hx]
        exact of_decide_eq_true HK.out.2.2.2.1.symm⟩, by have := HK.out.1; simp only [intOf]; omega⟩
    ·obtain rfl : k = M := by omega
     have hkl' : ¬ (k : Int) < (k : Int) := by omega
     have hnx : ∀ z, H[k]? = some z → e.2.1 < z.1 := fun z hz => by
      have := (List.getElem?_eq_some_iff.1 hz).1
      have := HJ.out.2.2.2.2.2.1
      omega
     have hkm : k ≤ k := Nat.le_refl k
     clear hk hkl
     have HS5 := Lib.hid hS5
     have HBE := Lib.hid (And.intro hbe hnx)
     clear hS5 hbe hnx
     go_wp2
     refine wp_region_plan (fun _ : World => True) [] [0, 1, 2, 3, 4, 5, 6, 7, 8, 9, 10, 11, 12, 13] (by kernel_rfl) (by kernel_rfl) (fun _ _ d _ _ h => by cases d <;> exact h) trivial ?_
     refine plan_last ?_
     refine seg_read ?v15 (by rfl) (by rfl) ?h15 ?_
     case h15 => intro W hW; go_simp; with_reducible rfl
     try simp only [Act.put, List.setIfInBounds_toArray, List.set_cons_zero, List.set_cons_succ]
     refine seg_read ?v16 (by rfl) (by rfl) ?h16 ?_
     case h16 => intro W hW; go_simp; with_reducible rfl
     try simp only [Act.put, List.setIfInBounds_toArray, List.set_cons_zero, List.set_cons_succ]
     refine seg_read ?v17 (by rfl) (by rfl) ?h17 ?_
     case h17 => intro W hW; go_simp; with_reducible rfl
     try simp only [Act.put, List.setIfInBounds_toArray, List.set_cons_zero, List.set_cons_succ]
     refine seg_read ?v18 (by rfl) (by rfl) ?h18 ?_
     case h18 => intro W hW; go_simp; with_reducible rfl
     try simp only [Act.put, List.setIfInBounds_toArray, List.set_cons_zero, List.set_cons_succ]
     refine seg_read ?v19 (by rfl) (by rfl) ?h19 ?_
     case h19 => intro W hW; go_simp; with_reducible rfl
     try simp only [Act.put, List.setIfInBounds_toArray, List.set_cons_zero, List.set_cons_succ]
     refine seg_off (by rfl) (by rfl) ?_
     try simp only [Act.put, List.setIfInBounds_toArray, List.set_cons_zero, List.set_cons_succ]
     refine seg_off (by rfl) (by rfl) ?_
     try simp only [Act.put, List.setIfInBounds_toArray, List.set_cons_zero, List.set_cons_succ]
     refine seg_off (by rfl) (by rfl) ?_
     try simp only [Act.put, List.setIfInBounds_toArray, List.set_cons_zero, List.set_cons_succ]
     refine seg_off (by rfl) (by rfl) ?_
     try simp only [Act.put, List.setIfInBounds_toArray, List.set_cons_zero, List.set_cons_succ]
     refine seg_off (by rfl) (by rfl) ?_
     try simp only [Act.put, List.setIfInBounds_toArray, List.set_cons_zero, List.set_cons_succ]
     refine seg_off (by rfl) (by rfl) ?_
     try simp only [Act.put, List.setIfInBounds_toArray, List.set_cons_zero, List.set_cons_succ]
     refine seg_off (by rfl) (by rfl) ?_
     try simp only [Act.put, List.setIfInBounds_toArray, List.set_cons_zero, List.set_cons_succ]
     refine seg_off (by rfl) (by rfl) ?_
     try simp only [Act.put, List.setIfInBounds_toArray, List.set_cons_zero, List.set_cons_succ]
     refine seg_read ?v20 (by rfl) (by rfl) ?h20 ?_
     case h20 => intro W hW; go_simp; with_reducible rfl
     try simp only [Act.put, List.setIfInBounds_toArray, List.set_cons_zero, List.set_cons_succ]
     refine seg_nil ?_
     go_wp2
     refine wp_region_plan (fun _ : World => True) [] [0, 1, 2, 3, 4, 5, 6, 7, 8, 9, 10, 11] (by kernel_rfl) (by kernel_rfl) (fun _ _ d _ _ h => by cases d <;> exact h) trivial ?_
     refine plan_last ?_
     refine seg_read ?v31 (by rfl) (by rfl) ?h31 ?_
     case h31 => intro W hW; go_simp; with_reducible rfl
     try simp only [Act.put, List.setIfInBounds_toArray, List.set_cons_zero, List.set_cons_succ]
     refine seg_read ?v32 (by rfl) (by rfl) ?h32 ?_
     case h32 => intro W hW; go_simp; with_reducible rfl
     try simp only [Act.put, List.setIfInBounds_toArray, List.set_cons_zero, List.set_cons_succ]
     refine seg_read ?v33 (by rfl) (by rfl) ?h33 ?_
     case h33 => intro W hW; go_simp; with_reducible rfl
     try simp only [Act.put, List.setIfInBounds_toArray, List.set_cons_zero, List.set_cons_succ]
     refine seg_read ?v34 (by rfl) (by rfl) ?h34 ?_
     case h34 => intro W hW; go_simp; with_reducible rfl
     try simp only [Act.put, List.setIfInBounds_toArray, List.set_cons_zero, List.set_cons_succ]
     refine seg_read ?v35 (by rfl) (by rfl) ?h35 ?_
     case h35 => intro W hW; go_simp; with_reducible rfl
     try simp only [Act.put, List.setIfInBounds_toArray, List.set_cons_zero, List.set_cons_succ]
     refine seg_off (by rfl) (by rfl) ?_
     try simp only [Act.put, List.setIfInBounds_toArray, List.set_cons_zero, List.set_cons_succ]
     refine seg_off (by rfl) (by rfl) ?_
     try simp only [Act.put, List.setIfInBounds_toArray, List.set_cons_zero, List.set_cons_succ]
     refine seg_off (by rfl) (by rfl) ?_
     try simp only [Act.put, List.setIfInBounds_toArray, List.set_cons_zero, List.set_cons_succ]
     refine seg_off (by rfl) (by rfl) ?_
     try simp only [Act.put, List.setIfInBounds_toArray, List.set_cons_zero, List.set_cons_succ]
     refine seg_off (by rfl) (by rfl) ?_
     try simp only [Act.put, List.setIfInBounds_toArray, List.set_cons_zero, List.set_cons_succ]
     refine seg_off (by rfl) (by rfl) ?_
     try simp only [Act.put, List.setIfInBounds_toArray, List.set_cons_zero, List.set_cons_succ]
     refine seg_read ?v36 (by rfl) (by rfl) ?h36 ?_
     case h36 => intro W hW; go_simp; with_reducible rfl
     try simp only [Act.put, List.setIfInBounds_toArray, List.set_cons_zero, List.set_cons_succ]
     refine seg_nil ?_
     have hbe := HBE.out.1
     have hnx := HBE.out.2
     have hS6 : RpkS w q k PS A4 c4 A5 c5 H (w5.drewN m).drew.drew := H5.out.later (below_drew (below_drew (below_drewN (Below.refl _ _) m)))
     clear HS5 HBE H5
     obtain ⟨Ad, hAd⟩ : ∃ Ad : Option Addr, Ad = A4 := ⟨_, rfl⟩
     rw [← hAd] at hS6 ⊢
     clear hAd
     generalize (w5.drewN m).drew.drew = w6 at hS6 ⊢
     have h32 : ∀ x ∈ H.map (·.1), x.length = 32 := fun x hx => by
      obtain ⟨z, hz, rfl⟩ := List.mem_map.1 hx
      exact HJ.out.2.2.1 z hz
     have hMl : k = H.length := HJ.out.2.2.2.2.2.1
     have hM5 : k ≤ 100000 := by have := HH.out.2.2; have := HJ.out.1; have := HJ.out.2.1; omega
     obtain ⟨I0, hI0, hIz, hIs, hIb⟩ := info_parts id_info3
     obtain ⟨J0, hJ0, hJz, hJs, hJb⟩ := info_parts dd_int_info
     have hcA : k ≤ c4 := by obtain ⟨_, _, e1, h1⟩ := row_slice hS6.o4; injection e1 with e1 e2 e3; omega
     have hcB : k ≤ c5 := by obtain ⟨_, _, e1, h1⟩ := row_slice hS6.o5; injection e1 with e1 e2 e3; omega
     have hp8 : (row8 e.2.1).toList.length = 32 := by rw [← HE.out.2.2.2, Array.length_toList, HE.out.1]
     obtain ⟨A1, c1, w7, A2, c2, w8, A3, c3, w9, r1, r2, r3, o3, b1, b2, b3⟩ := gins (W := w6) (k := k) (pc := (row8 e.2.1).toList) Try.underlying55 hI0 hIz hIs hIb (by unfold zerosId; rfl) (by decide) hS6.o4.1 (row_at hS6.o4) hcA hkm hM5 (idsC_one _) hp8 (fun u hu => u8s_one _ u (by simpa [row8] using hu)) (by decide) 55
     have ho5 := row_below hS6.o5 b3
     obtain ⟨A11, c11, w17, A12, c12, w18, A13, c13, w19, r11, r12, r13, o13, b11, b12, b13⟩ := gins (W := w9) (k := k) (pc := [.int .i64 1]) Try.underlying57 hJ0 hJz hJs hJb (by rfl) (by decide) ho5.1 (row_at ho5) hcB hkm hM5 (i64s_one _) rfl (by simp [Value.oneCell']) (by decide) 57
     rw [idsC_parts h32 e.2.1 (by rw [List.length_map]; omega)] at o3
     rw [i64s_parts] at o13
     have hinc := inc_new (pk := e.2.1) HJ.out.2.2.2.1 hbe hnx
     have hnew : packT (t.take (j + 1)) = H.take k ++ [(e.2.1, 1)] ++ H.drop k := by rw [HJ.out.2.2.2.2.1, hinc]
     have hnl : (packT (t.take (j + 1))).length = k + 1 := by rw [hnew]; simp; omega
     have hk1 : (packT (t.take (j + 1))).map (·.1) = (H.map (·.1)).take k ++ [e.2.1] ++ (H.map (·.1)).drop k := by rw [hnew]; simp [List.map_take, List.map_drop]
     have hk2 : cntI (packT (t.take (j + 1))) = (cntI H).take k ++ [1] ++ (cntI H).drop k := by rw [hnew]; simp [cntI, List.map_take, List.map_drop]
     rw [← hk1] at o3
     rw [← hk2] at o13
     have hB3 := hS6.bl.trans (b3.mono hS6.bl.size)
     have HF : Hid (w19.ownsRow w.heap.size 31 32 (.slice A3 (k + 1) c3) (k + 1) (idsC ((packT (t.take (j + 1))).map (·.1))) ∧ w19.ownsRow w.heap.size 3 1 (.slice A13 (k + 1) c13) (k + 1) (i64s (cntI (packT (t.take (j + 1))))) ∧ Below w.heap.size w w19 ∧ (packT (t.take (j + 1))).length = k + 1) :=
      Lib.hid ⟨row_base (row_below o3 b13) hS6.bl.size, row_base o13 (by have := hB3.size; omega), hB3.trans (b13.mono hB3.size), hnl⟩
     have HQ : Hid (w7.heap[q]? = some (.cells PS 31 (0, 0))) := Lib.hid ((b1.block q (lt_of_cells hS6.box)).trans hS6.box)
     have hlit := run_ids_lit w7 PS HE.out.2.2.2 HE.out.2.2.1
     rw [show (row8 e.2.1).toList.toArray = PS by rw [HE.out.2.2.2]] at r2
     have hto4 := run_gto (ts := 55) Try.underlying55 id_sizeOf Ad k c4 k (by omega) w6
     have hfr4 := run_gfrom (ts := 55) Try.underlying55 id_sizeOf Ad k c4 k hkm w8
     have hto5 := run_gto (ts := 57) Try.underlying57 int_sizeOf A5 k c5 k (by omega) w9
     have hfr5 := run_gfrom (ts := 57) Try.underlying57 int_sizeOf A5 k c5 k hkm w18
     obtain ⟨AC, hAC⟩ : ∃ AC, AC = cutG 32 Ad c4 k := ⟨_, rfl⟩
     obtain ⟨AD, hAD⟩ : ∃ AD, AD = cutG 1 A5 c5 k := ⟨_, rfl⟩
     obtain ⟨NJ, hNJ⟩ : ∃ NJ, NJ = k - k := ⟨_, rfl⟩
     obtain ⟨CJ, hCJ⟩ : ∃ CJ, CJ = c4 - k := ⟨_, rfl⟩
     obtain ⟨CK, hCK⟩ : ∃ CK, CK = c5 - k := ⟨_, rfl⟩
     rw [← hAC, ← hNJ, ← hCJ] at hfr4 r3
     rw [← hAD, ← hNJ, ← hCK] at hfr5 r13
     have HR := Lib.hid (And.intro r1 (And.intro r2 (And.intro r3 (And.intro r11 (And.intro r12 r13)))))
     have hjj := IntWalk.i64_in ((j : Int) + 1) (by have := HH.out.2.2; have := HJ.out.1; omega)
     clear hAC hAD hNJ hCJ hCK r1 r2 r3 r11 r12 r13 o3 o13 b1 b2 b3 b11 b12 b13 hB3 hk1 hk2 hnl hnew hinc ho5 hp8 hcA hcB hM5 hMl h32 hI0 hIz hIs hIb hJ0 hJz hJs hJb hS6 hbe hnx hkm
     go_wp2_with (first
      | (refine wpList_load_row (by rfl) 31 (.tmp 7) (by rfl) q (by rfl) 31 PS (0, 0) _ HQ.out Try.underlying31 (by rfl) (by rw [HE.out.1]; exact id_info) ?_)
      | (refine wpList_lit1 (by rfl) 55 (.tmp 62) (by rfl) (by rfl) hlit ?_)
      | (at_builtin; refine wpList_app (by rfl) (.tmp 56) (.tmp 59) 55 (by rfl) (by rfl) (by rfl) HR.out.1 ?_)
      | (at_builtin; refine wpList_app (by rfl) (.tmp 61) (.tmp 63) 55 (by rfl) (by rfl) (by rfl) HR.out.2.1 ?_)
      | (at_builtin; refine wpList_app (by rfl) (.tmp 65) (.tmp 68) 55 (by rfl) (by rfl) (by rfl) HR.out.2.2.1 ?_)
      | (at_builtin; refine wpList_app (by rfl) (.tmp 70) (.tmp 73) 57 (by rfl) (by rfl) (by rfl) HR.out.2.2.2.1 ?_)
      | (at_builtin; refine wpList_app (by rfl) (.tmp 75) (.tmp 76) 57 (by rfl) (by rfl) (by rfl) HR.out.2.2.2.2.1 ?_)
      | (at_builtin; refine wpList_app (by rfl) (.tmp 78) (.tmp 81) 57 (by rfl) (by rfl) (by rfl) HR.out.2.2.2.2.2 ?_))
     exact ⟨⟨j + 1, A3, c3, A13, c13, HJ.out.1, by simp, by rw [HF.out.2.2.2], by rw [HF.out.2.2.2], by rw [HF.out.2.2.2]; exact HF.out.1, by rw [HF.out.2.2.2]; exact HF.out.2.1, HF.out.2.2.1⟩, by have := HJ.out.1; simp only [intOf]; omega⟩
  ·obtain rfl : j = n := by omega
   have hlt' : ¬ (j : Int) < (j : Int) := by omega
   have hfull : t.take j = t := List.take_of_length_le (by have := HH.out.2.1; omega)
   rw [hfull] at ho4 ho5 ⊢
   have HO := Lib.hid (And.intro ho4 (And.intro ho5 hbw))
   clear ho4 ho5 hbw hj hlt hfull
   go_wp2
   go_ret2
   have ho4 := HO.out.1
   have ho5 := HO.out.2.1
   have hle := packT_len t
   have h32 : ∀ x ∈ (packT t).map (·.1), x.length = 32 := fun x hx => by
    obtain ⟨y, hy, rfl⟩ := List.mem_map.1 hx
    exact packT_keys (fun x hx => (HH.out.1.each x hx).2) y hy
   obtain ⟨Ai, ci, ei, hids⟩ := own_ids ho4 h32
   injection ei with e1 e2 e3
   subst e1 e3
   refine ⟨A4, c4, A5, c5, rfl, hids, ?_, HO.out.2.2⟩
   refine ⟨by simp [cntI], ?_, ?_, ?_, fun h0 => ?_⟩
   ·obtain ⟨A1, c1, e1, h1⟩ := row_slice ho5; injection e1 with e1 e2 e3; omega
   ·rcases ho5.2 with ⟨e1, e2⟩ | ⟨g, cap, cur, e1, _, _, _, hm, _⟩
    ·injection e1 with e1 e2 e3; rw [e3]; exact Nat.zero_le _
    ·injection e1 with e1 e2 e3; rw [e3]; exact hm
   ·exact cntI_wf (by have := HH.out.2.1; have := HH.out.2.2; omega)
   ·obtain ⟨g, rfl, hg1, hg2, _, _, _, hcc⟩ := row_cells ho5 h0
    refine ⟨g, 0, rfl, hg1, hg2, fun i hi => ?_⟩
    rw [Nat.zero_add]
    refine hcc i _ ?_
    have hil : i < (packT t).length := hi
    simp [i64s, cntI, List.getElem?_eq_getElem hil]
end Go.Proofs.Ytmmibldchfmleaa

namespace Go.Proofs.Ytmmibldchfmleaa
open Go.RowKit Go.Maps
set_option maxHeartbeats 4000000 in
set_option maxRecDepth 100000 in
theorem ixfind_any {w : World} {p b : Nat} {t : Tv Pl} (h : Ix w p b t) {k : List UInt8} (hk : k.length = 32) :
    Calls Try.prog 15 #[.pointer (some ⟨p, 0, none⟩), .agg (row8 k)] w fun e w' => e = .returned (.tuple #[encP ((getV t k).getD zPl), .bool (getV t k).isSome]) ∧ Below w.heap.size w w' := by
 obtain ⟨ZS, hZS⟩ : ∃ ZS, ZS = plC zPl := ⟨_, rfl⟩
 have hzp : ∀ W, (zeroValue 37).run Try.prog W = .ok (.agg ZS) W := fun W => by rw [hZS]; exact zero_pl W
 obtain ⟨KS, hKS⟩ : ∃ KS, KS = row8 k := ⟨_, rfl⟩
 obtain ⟨hr4, hr5, hb2⟩ := two_rows (w := w) (a := KS) (b := ZS) (s := 31) (t := 37)
 rw [← hKS]
 have HKS : Hid (KS = row8 k ∧ KS.size = 32 ∧ KS.all (·.oneCell') = true) := Lib.hid ⟨hKS, by rw [hKS, row8_size, hk], by rw [hKS]; exact row8_one _⟩
 have HZS : Hid (ZS = plC zPl ∧ ZS.size = 33 ∧ ZS.all (·.oneCell') = true) := Lib.hid ⟨hZS, by rw [hZS, plC_size zPl_len], by rw [hZS]; exact plC_one _⟩
 have HH := Lib.hid (And.intro h (And.intro hk h.map.lt))
 have H2 := Lib.hid (And.intro hr4 (And.intro hr5 (And.intro hb2 (h.below hb2))))
 obtain ⟨is, his⟩ : ∃ is, is = (getV t k).isSome := ⟨_, rfl⟩
 obtain ⟨fv, hfv⟩ : ∃ fv, fv = (getV t k).getD zPl := ⟨_, rfl⟩
 obtain ⟨FS, hFS⟩ : ∃ FS, FS = plC fv := ⟨_, rfl⟩
 have HB : Hid (is = (getV t k).isSome ∧ FS = plC fv ∧ fv = (getV t k).getD zPl ∧ FS.size = 33 ∧ FS.all (·.oneCell') = true) := Lib.hid ⟨his, hFS, hfv, by rw [hFS, plC_size (by rw [hfv]; exact h.at_val)], by rw [hFS]; exact plC_one _⟩
 rw [← his, ← hfv, show encP fv = .agg FS by rw [hFS]; rfl]
 clear h hk hr4 hr5 hb2 hKS hZS his hfv hFS
 go_enter Try.func15, Try.ntmps15
 go_upto_region 3 with fail
 generalize (w.alloc (.cells KS 31)).alloc (.cells ZS 37) = w2 at H2 ⊢
 obtain ⟨q, hq⟩ : ∃ q, q = w.heap.size := ⟨_, rfl⟩
 rw [← hq] at H2 ⊢
 have HQ := Lib.hid hq
 clear hq
 have hC : (fun W : World => Ix W p b t ∧ W.heap[q]? = some (.cells KS 31 (0, 0)) ∧ W.heap[q + 1]? = some (.cells ZS 37 (0, 0))) w2.drew := ⟨H2.out.2.2.2.below ⟨rfl, rfl, rfl, Nat.le_refl _, fun _ _ => rfl⟩, H2.out.1, H2.out.2.1⟩
 refine wp_region_plan (fun W : World => Ix W p b t ∧ W.heap[q]? = some (.cells KS 31 (0, 0)) ∧ W.heap[q + 1]? = some (.cells ZS 37 (0, 0))) [([0, 1, 2, 3, 4, 5, 6, 7, 8], 9), ([], 10)] [11] (by kernel_rfl) (by kernel_rfl) (fun _ _ d _ _ h => by cases d <;> exact h) hC ?_
 refine plan_eff ?_
 refine seg_read ?v14 (by rfl) (by rfl) ?h14 ?_
 case h14 => intro W hW; go_simp; with_reducible rfl
 try simp only [Act.put, List.setIfInBounds_toArray, List.set_cons_zero, List.set_cons_succ]
 refine seg_read ?v15 (by rfl) (by rfl) ?h15 ?_
 case h15 => intro W hW; go_simp; with_reducible rfl
 try simp only [Act.put, List.setIfInBounds_toArray, List.set_cons_zero, List.set_cons_succ]
 refine seg_read ?v16 (by rfl) (by rfl) ?h16 ?_
 case h16 => intro W hW; go_simp; with_reducible rfl
 try simp only [Act.put, List.setIfInBounds_toArray, List.set_cons_zero, List.set_cons_succ]
 refine seg_read ?v17 (by rfl) (by rfl) ?h17 ?_
 case h17 => intro W hW; have hcb := hW.1.cell; go_simp; with_reducible rfl
 try simp only [Act.put, List.setIfInBounds_toArray, List.set_cons_zero, List.set_cons_succ]
 refine seg_read (.agg KS) (by rfl) (by rfl) (fun W hW => exec_load_st 31 (.tmp 3) (by rfl) q (by rfl) KS (0, 0) hW.2.1 _ Try.underlying31 (by rfl) (by rw [HKS.out.2.1]; exact id_info)) ?_
 try simp only [Act.put, List.setIfInBounds_toArray, List.set_cons_zero, List.set_cons_succ]
 refine seg_read ?v18 (by rfl) (by rfl) ?h18 ?_
 case h18 => intro W hW; have hlk := (hW.1.map.look Try.underlying64 (zero_pl W) HH.out.2.1).1; rw [← HKS.out.1, ← HB.out.1, show (getV t k).elim (encP zPl) encP = .agg FS by rw [HB.out.2.1, HB.out.2.2.1]; cases getV t k <;> rfl] at hlk; go_simp; with_reducible rfl
 try simp only [Act.put, List.setIfInBounds_toArray, List.set_cons_zero, List.set_cons_succ]
 refine seg_read ?v19 (by rfl) (by rfl) ?h19 ?_
 case h19 => intro W hW; go_simp; with_reducible rfl
 try simp only [Act.put, List.setIfInBounds_toArray, List.set_cons_zero, List.set_cons_succ]
 refine seg_read ?v20 (by rfl) (by rfl) ?h20 ?_
 case h20 => intro W hW; go_simp; with_reducible rfl
 try simp only [Act.put, List.setIfInBounds_toArray, List.set_cons_zero, List.set_cons_succ]
 refine seg_read ?v21 (by rfl) (by rfl) ?h21 ?_
 case h21 => intro W hW; go_simp; with_reducible rfl
 try simp only [Act.put, List.setIfInBounds_toArray, List.set_cons_zero, List.set_cons_succ]
 refine seg_nil ?_
 refine eff_alloc (by rfl) (by rfl) 37 (by rfl) (hzp _) ?_
 have hA : (fun W : World => Ix W p b t ∧ W.heap[q]? = some (.cells KS 31 (0, 0)) ∧ W.heap[q + 1]? = some (.cells ZS 37 (0, 0))) (w2.drew.alloc (.cells ZS 37)) := by
  have hbA : Below w2.drew.heap.size w2.drew (w2.drew.alloc (.cells ZS 37)) := (Below.refl _ _).alloc (Nat.le_refl _) _
  exact ⟨hC.1.below hbA, (hbA.block _ (lt_of_cells hC.2.1)).trans hC.2.1, (hbA.block _ (lt_of_cells hC.2.2)).trans hC.2.2⟩
 refine ⟨_, hA, fun _ h => h, ?_⟩
 try simp only [Act.put, List.setIfInBounds_toArray, List.set_cons_zero, List.set_cons_succ]
 refine plan_eff ?_
 refine seg_nil ?_
 refine eff_store_row (by rfl) (by rfl) 37 (.tmp 6) (.tmp 18) (by rfl) w2.drew.heap.size FS (by rfl) (by rfl) 37 ZS (heap_alloc_new _ _) (by rw [HB.out.2.2.2.1]; exact pl_info) (by rw [HB.out.2.2.2.1, HZS.out.2.1]) HB.out.2.2.2.2 ?_
 have hS3 : (fun W : World => Ix W p b t ∧ W.heap[q]? = some (.cells KS 31 (0, 0)) ∧ W.heap[q + 1]? = some (.cells ZS 37 (0, 0))) ((w2.drew.alloc (.cells ZS 37)).setRow w2.drew.heap.size FS) := by
  have hbS : Below w2.drew.heap.size w2.drew ((w2.drew.alloc (.cells ZS 37)).setRow w2.drew.heap.size FS) := below_setRow ((Below.refl _ _).alloc (Nat.le_refl _) _) (Nat.le_refl _) _
  exact ⟨hC.1.below hbS, (hbS.block _ (lt_of_cells hC.2.1)).trans hC.2.1, (hbS.block _ (lt_of_cells hC.2.2)).trans hC.2.2⟩
 refine ⟨_, hS3, fun _ h => h, ?_⟩
 try simp only [Act.put]
 refine plan_last ?_
 refine seg_read ?v22 (by rfl) (by rfl) ?h22 ?_
 case h22 => intro W hW; go_simp; with_reducible rfl
 try simp only [Act.put, List.setIfInBounds_toArray, List.set_cons_zero, List.set_cons_succ]
 refine seg_nil ?_
 have HW : Hid (((w2.drew.alloc (.cells ZS 37)).setRow w2.drew.heap.size FS).heap[w2.drew.heap.size]? = some (.cells FS 37 (0, 0)) ∧ ((w2.drew.alloc (.cells ZS 37)).setRow w2.drew.heap.size FS).heap[q + 1]? = some (.cells ZS 37 (0, 0)) ∧ Below q w ((w2.drew.alloc (.cells ZS 37)).setRow w2.drew.heap.size FS)) := Lib.hid
  ⟨setRow_at (heap_alloc_new _ _), hS3.2.2, below_setRow ((below_drew H2.out.2.2.1).alloc (by rw [HQ.out]; exact H2.out.2.2.1.size) _) (by rw [HQ.out]; exact H2.out.2.2.1.size) _⟩
 clear hS3 hC H2 hzp
 generalize (w2.drew.alloc (.cells ZS 37)).setRow w2.drew.heap.size FS = w3 at HW ⊢
 generalize w2.drew.heap.size = q6 at HW ⊢
 try rw [show w2.heap.size = q6 from rfl]
 go_wp2_with (first
  | (refine wpList_load_row (by rfl) 37 (.tmp 6) (by rfl) q6 (by rfl) 37 FS (0, 0) _ HW.out.1 Try.underlying37 (by rfl) (by rw [HB.out.2.2.2.1]; exact pl_info) ?_)
  | (refine wpList_store_row (by rfl) 37 (.tmp 4) (.tmp 20) (by rfl) (q + 1) FS (by rfl) (by rfl) 37 ZS HW.out.2.1 (by rw [HB.out.2.2.2.1]; exact pl_info) (by rw [HB.out.2.2.2.1, HZS.out.2.1]) HB.out.2.2.2.2 ?_))
 refine bodyPost_ret (results_ct rfl _ _ ⟨q + 1, 0, none⟩ (.agg FS) (.bool is) rfl rfl (run_loadVar_row _ _ _ _ _ _ _ (setRow_at HW.out.2.1) Try.underlying37 rfl (by rw [HB.out.2.2.2.1]; exact pl_info))) rfl ?_
 exact ⟨rfl, by rw [← HQ.out]; exact below_setRow HW.out.2.2 (by omega) _⟩
end Go.Proofs.Ytmmibldchfmleaa
