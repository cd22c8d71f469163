/-
  The reference's Open.
-/
import Derived.Test.YtlkkocgjpljibaaDoorSealRefSeal
import Derived.Test.YtlkkocgjpljibaaDoorRegionTree
namespace Go.Proofs.YtlkkocgjpljibaaDoor
open Go.RowKit

/-- What the reference's Open answers. -/
def ROpened (w : World) (k b : List UInt8) (e : Ending) (w' : World) : Prop :=
  e = .returned (.tuple #[.string (st (openP k b)), .int .u8 ((openK k b).toNat : Int), .int .u64 (openN k b : Int), .int .i64 (openE k b : Int)]) ∧ Below w.heap.size w w'
theorem ropened_not {w w' : World} {k b : List UInt8} {E : Nat} (hE : openE k b = E) (h0 : E ≠ 0) (hb : Below w.heap.size w w') : ROpened w k b (.returned (.tuple #[.string { data := #[] }, .int .u8 0, .int .u64 0, .int .i64 (E : Int)])) w' := by
  subst hE
  refine ⟨?_, hb⟩
  rw [openP_not h0, openK, if_neg h0, openN, if_neg h0]
  rfl
set_option maxHeartbeats 4000000 in
set_option maxRecDepth 100000 in
theorem rsopen_short {w : World} {n : Nat} {b : List UInt8} (hl : b.length = n) (k : List UInt8) (hn : n < 41) :
    Calls Tryd.prog 14 #[.agg (row8 k), .string (st b)] w fun e w' => ROpened w k b e w' := by
  have hE : openE k b = 10 := by rw [openE, if_pos (by omega)]
  have hsz := st_size b
  rw [hl] at hsz
  obtain ⟨KS, hKS⟩ : ∃ KS, KS = row8 k := ⟨_, rfl⟩
  rw [← hKS]
  have HB : Hid (Below w.heap.size w (w.alloc (.cells KS 23))) := Lib.hid ((Below.refl _ _).alloc (Nat.le_refl _) _)
  have HE := Lib.hid hE
  clear hE hKS hl
  go_enter Tryd.func14, Tryd.ntmps14
  go_wp2_with fail
  refine bodyPost_ret (results_tmp4 rfl _ _ _) rfl ?_
  exact ropened_not HE.out (by decide) HB.out
set_option maxHeartbeats 4000000 in
set_option maxRecDepth 100000 in
theorem rsopen_long {w : World} {n : Nat} {b : List UInt8} (hl : b.length = n) (k : List UInt8) (hn : 65577 < n) (hm : n ≤ maxLen) :
    Calls Tryd.prog 14 #[.agg (row8 k), .string (st b)] w fun e w' => ROpened w k b e w' := by
  have hE : openE k b = 13 := by rw [openE, if_neg (by omega), if_pos (by omega)]
  have hsz := st_size b
  rw [hl] at hsz
  unfold maxLen at hm
  obtain ⟨KS, hKS⟩ : ∃ KS, KS = row8 k := ⟨_, rfl⟩
  rw [← hKS]
  have HB : Hid (Below w.heap.size w (w.alloc (.cells KS 23))) := Lib.hid ((Below.refl _ _).alloc (Nat.le_refl _) _)
  have HE := Lib.hid hE
  clear hE hKS hl
  go_enter Tryd.func14, Tryd.ntmps14
  go_wp2_with fail
  refine bodyPost_ret (results_tmp4 rfl _ _ _) rfl ?_
  exact ropened_not HE.out (by decide) HB.out

theorem wp_via {P : Program} {Q : Exit → Act → World → Prop} {c : Code} {a : Act} {w : World} (R : Act → World → Prop) (h : c.wp P (fun e a w => e = .normal ∧ R a w) a w) (k : ∀ a w, R a w → Q .normal a w) : c.wp P Q a w :=
  wp_mono h fun e a w hr => by
    obtain ⟨rfl, hr⟩ := hr
    exact k _ _ hr
theorem setRow_ne (w : World) (g k : Nat) (cs : Array Value) (h : k ≠ g) : (w.setRow g cs).heap[k]? = w.heap[k]? := by
  simp only [World.setRow, Array.getElem?_modify]
  rw [if_neg (fun e => h e.symm)]
theorem num8_drop_step {l : List UInt8} {i : Nat} (hi : i < l.length) : num8 (l.drop i) = num8 (l.drop (i + 1)) * 256 + (l[i]?.getD 0).toNat := by
  rw [List.drop_eq_getElem_cons hi, List.getElem?_eq_getElem hi]
  rfl
theorem num8_drop_lt {l : List UInt8} (hl : l.length = 8) (i : Nat) (hi : 1 ≤ i) : num8 (l.drop i) < 72057594037927936 := by
  have h := num8_lt (l.drop i)
  rw [List.length_drop, hl] at h
  have h2 : (256 : Nat) ^ (8 - i) ≤ 256 ^ 7 := Nat.pow_le_pow_right (by decide) (by omega)
  have h3 : (256 : Nat) ^ 7 = 72057594037927936 := rfl
  omega
theorem eight_at {b : List UInt8} {i : Nat} (hi : i < 8) : (eightL b)[i]?.getD 0 = b[i + 1]?.getD 0 := by
  rw [eightL, List.getElem?_take_of_lt hi, List.getElem?_drop, Nat.add_comm 1 i]

set_option maxHeartbeats 16000000 in
set_option maxRecDepth 100000 in
theorem rsopen_fit {w : World} {n : Nat} {b : List UInt8} (hl : b.length = n) (k : List UInt8) (hk : k.length = 32) (hn : 41 ≤ n) (hn2 : n ≤ 65577) :
    Calls Tryd.prog 14 #[.agg (row8 k), .string (st b)] w fun e w' => ROpened w k b e w' := by
  obtain ⟨m, rfl⟩ : ∃ m, n = m + 32 := ⟨n - 32, by omega⟩
  obtain ⟨n, hnm⟩ : ∃ n, n = m + 32 := ⟨_, rfl⟩
  have hsz := st_size b
  rw [hl, ← hnm] at hsz
  have hsub : (n : Int) - 32 = (m : Int) := by omega
  have hn3 : 41 ≤ n := by omega
  have hn4 : n ≤ 65577 := by omega
  have h8 : (eightL b).length = 8 := eightL_length (by omega)
  have htl : (b.take m).length = m := by rw [List.length_take, hl]; omega
  have HBD : Hid ((b.drop 9).take (m - 9) = bodyL b) := Lib.hid (by rw [bodyL, hl, show m + 32 - 41 = m - 9 by omega])
  obtain ⟨T, hT⟩ : ∃ T, T = b.drop m := ⟨_, rfl⟩
  obtain ⟨G, hG0⟩ : ∃ G, G = b.take m := ⟨_, rfl⟩
  obtain ⟨NS, hNS⟩ : ∃ NS, NS = row8 (nonL (eightL b)) := ⟨_, rfl⟩
  obtain ⟨KS, hKS⟩ : ∃ KS, KS = row8 k := ⟨_, rfl⟩
  rw [← hKS]
  obtain ⟨HS, hHS⟩ : ∃ HS, HS = row8 (drvL k hideB (kindL b).toNat) := ⟨_, rfl⟩
  obtain ⟨VS, hVS⟩ : ∃ VS, VS = row8 (drvL k vouchB (kindL b).toNat) := ⟨_, rfl⟩
  obtain ⟨M, hM⟩ : ∃ M, M = macL (drvL k vouchB (kindL b).toNat) G := ⟨_, rfl⟩
  obtain ⟨MS, hMS⟩ : ∃ MS, MS = row8 M := ⟨_, rfl⟩
  have hml : M.length = 32 := by rw [hM]; exact macL_length _ _
  obtain ⟨z, hz⟩ : ∃ z, z = decide (M = T) := ⟨_, rfl⟩
  have HKH : Hid (∀ W, Calls Tryd.prog 21 #[.agg KS, .string { data := #[104, 105, 100, 101] }, .int .u64 ((kindL b).toNat : Int)] W fun e w' => e = .returned (.agg HS) ∧ Below W.heap.size W w') := Lib.hid fun W => by
    rw [hKS, hHS]
    exact rderive_any k hk hideB (by decide) (kindL b).toNat (by have := (kindL b).toNat_lt; omega) W
  have HKV : Hid (∀ W, Calls Tryd.prog 21 #[.agg KS, .string { data := #[118, 111, 117, 99, 104] }, .int .u64 ((kindL b).toNat : Int)] W fun e w' => e = .returned (.agg VS) ∧ Below W.heap.size W w') := Lib.hid fun W => by
    rw [hKS, hVS]
    exact rderive_any k hk vouchB (by decide) (kindL b).toNat (by have := (kindL b).toNat_lt; omega) W
  have HNO : Hid (∀ W, Calls Tryd.prog 22 #[.string (st (eightL b))] W fun e w' => e = .returned (.agg NS) ∧ Below W.heap.size W w') := Lib.hid fun W => by
    rw [hNS]
    exact rsnonce_any _ h8 W
  have HOV : Hid (∀ W, Calls Tryd.prog 20 #[.agg HS, .agg NS, .string (st (bodyL b))] W fun e w' => e = .returned (.string (st (openL k b))) ∧ Below W.heap.size W w') := Lib.hid fun W => by
    rw [hHS, hNS]
    exact srover_any _ _ _ (drvL_length _ _ _) (nonL_length h8) (by rw [bodyL_length (by omega)]; omega) W
  have HMO : Hid (∀ W, Calls Tryd.prog 23 #[.agg VS, .string (st G)] W fun e w' => e = .returned (.agg MS) ∧ Below W.heap.size W w') := Lib.hid fun W => by
    rw [hVS, hMS, hM]
    exact rofm_any _ (drvL_length _ _ _) G (by rw [hG0, htl]; omega) W
  have HW : Hid (IntKind.u64.wrap ((kindL b).toNat : Int) = ((kindL b).toNat : Int)) := Lib.hid (by
    have := (kindL b).toNat_lt
    rw [IntKind.wrap_u64]
    omega)
  have HZ : Hid (z = true ↔ Vouched k b) := Lib.hid (by
    rw [hz, decide_eq_true_iff, Vouched, hl, Nat.add_sub_cancel, hM, hG0, hT]
    exact eq_comm)
  have HZD : Hid (z = decide (M = T)) := Lib.hid hz
  have HTT := Lib.hid hT
  have HGG := Lib.hid hG0
  have HL := Lib.hid hl
  have H8 := Lib.hid h8
  have HSZ : Hid (KS.size = 32) := Lib.hid (by rw [hKS, row8_size, hk])
  have HMS : Hid (MS = row8 M ∧ MS.size = 32 ∧ MS.all (·.oneCell') = true ∧ M.length = 32) := Lib.hid ⟨hMS, by rw [hMS, row8_size, hml], by rw [hMS]; exact row8_one _, hml⟩
  have HK0 : Hid ((w.alloc (.cells KS 23)).heap[w.heap.size]? = some (.cells KS 23 (0, 0)) ∧ Below w.heap.size w (w.alloc (.cells KS 23))) := Lib.hid ⟨heap_alloc_new w _, (Below.refl _ _).alloc (Nat.le_refl _) _⟩
  clear hT hG0 hNS hKS hHS hVS hM hMS hml hz h8 htl hl hk hnm
  go_enter Tryd.func14, Tryd.ntmps14
  go_upto_region 6 with fail
  generalize w.alloc (.cells KS 23) = w1 at *
  refine wp_via (fun a W => ∃ mb : Nat, a = { tmps := #[.agg KS, .string (st b), .pointer (some ⟨w.heap.size, 0, none⟩), undef, .string { data := #[] }, .int .u8 0, .int .u64 0, .int .i64 0, .int .i64 (m : Int), .pointer (some ⟨mb, 0, none⟩), undef, undef, .string (st b), .int .i64 (n : Int), .bool (decide ((n : Int) < 41)), .string (st b), .int .i64 (n : Int), .bool (decide (65577 < (n : Int))), .string (st b), .int .i64 (n : Int), .int .i64 (m : Int), .agg KS, .string (st b), .int .u8 ((kindL b).toNat : Int), .int .u64 ((kindL b).toNat : Int), .agg VS, .string (st b), .int .i64 (m : Int), .string (st G), .agg MS, undef, undef, undef, undef, undef, undef, undef, undef, undef, undef, undef, undef, undef, undef, undef, undef, undef, undef, undef, undef, undef, undef, undef, undef, undef, undef, undef, undef, undef, undef, undef, undef], defers := [] } ∧ Below w.heap.size w W ∧ W.heap[w.heap.size]? = some (.cells KS 23 (0, 0)) ∧ W.heap[mb]? = some (.cells MS 34 (0, 0))) ?_ ?_
  · have hKD : w1.drew.heap[w.heap.size]? = some (.cells KS 23 (0, 0)) := HK0.out.1
    have HB : Hid (Below w.heap.size w w1.drew) := Lib.hid (below_drew HK0.out.2)
    clear HK0
    refine wp_region_tree (fun W => W.heap[w.heap.size]? = some (.cells KS 23 (0, 0))) (.two [0, 1, 2, 3, 5, 6, 7] 4 (.two [] 8 (.one [] 9 (.one [] 10 (.last []))) 9 (.one [] 8 (.one [] 10 (.last [])))) 9 (.one [] 4 (.one [] 8 (.one [] 10 (.last []))))) (by kernel_rfl) (by kernel_rfl) (fun _ _ _ _ _ h => nomatch h.1) hKD ?_
    generalize w1.drew = wd at *
    refine tree_two ?_
    refine seg_read (.agg KS) (by rfl) (by rfl) (fun W hW => exec_load_row 23 (.tmp 2) rfl w.heap.size (by rfl) KS (0, 0) hW Tryd.underlying23 (by rw [HSZ.out]; exact key_info)) ?_
    try simp only [Act.put, List.setIfInBounds_toArray, List.set_cons_zero, List.set_cons_succ]
    refine seg_read ?v1 (by rfl) (by rfl) ?h1 ?_
    case h1 => intro W hW; go_simp; with_reducible rfl
    try simp only [Act.put, List.setIfInBounds_toArray, List.set_cons_zero, List.set_cons_succ]
    refine seg_read ?v2 (by rfl) (by rfl) ?h2 ?_
    case h2 => intro W hW; have hix := st_index (P := Tryd.prog) 9 Tryd.underlying9 b W 0 0 rfl (by rw [HL.out]; omega); rw [show b[0]?.getD 0 = kindL b from rfl] at hix; go_simp; with_reducible rfl
    try simp only [Act.put, List.setIfInBounds_toArray, List.set_cons_zero, List.set_cons_succ]
    refine seg_read ?v3 (by rfl) (by rfl) ?h3 ?_
    case h3 => intro W hW; have hw := HW.out; go_simp; with_reducible rfl
    try simp only [Act.put, List.setIfInBounds_toArray, List.set_cons_zero, List.set_cons_succ]
    refine seg_read ?v5 (by rfl) (by rfl) ?h5 ?_
    case h5 => intro W hW; go_simp; with_reducible rfl
    try simp only [Act.put, List.setIfInBounds_toArray, List.set_cons_zero, List.set_cons_succ]
    refine seg_read ?v6 (by rfl) (by rfl) ?h6 ?_
    case h6 => intro W hW; go_simp; with_reducible rfl
    try simp only [Act.put, List.setIfInBounds_toArray, List.set_cons_zero, List.set_cons_succ]
    refine seg_read ?v7 (by rfl) (by rfl) ?h7 ?_
    case h7 => intro W hW; have hsl := st_to (P := Tryd.prog) 9 Tryd.underlying9 b W m (m : Int) rfl (by rw [HL.out]; omega); rw [← HGG.out] at hsl; go_simp; with_reducible rfl
    try simp only [Act.put, List.setIfInBounds_toArray, List.set_cons_zero, List.set_cons_succ]
    refine seg_nil ⟨?_, ?_⟩
    · refine eff_step (by rfl) (fun K hK => ?_)
      go_simp
      refine (HKV.out wd).mono ?_
      rintro _ v1 ⟨rfl, hb⟩
      have HBn : Hid (Below w.heap.size w v1) := Lib.hid (HB.out.trans (hb.mono HB.out.size))
      have hKn := (hb.block _ (lt_of_cells hKD)).trans hKD
      clear hb hKD HB
      refine hK _ _ ⟨fun W => W.heap[w.heap.size]? = some (.cells KS 23 (0, 0)), hKn, fun _ h => h, ?_⟩
      clear hK K
      try simp only [Act.put, List.setIfInBounds_toArray, List.set_cons_zero, List.set_cons_succ]
      have hKD := hKn
      have HB := HBn
      clear hKn HBn
      refine tree_two ?_
      refine seg_nil ⟨?_, ?_⟩
      · refine eff_step (by rfl) (fun K hK => ?_)
        go_simp
        refine (HMO.out v1).mono ?_
        rintro _ v2 ⟨rfl, hb⟩
        have HBn : Hid (Below w.heap.size w v2) := Lib.hid (HB.out.trans (hb.mono HB.out.size))
        have hKn := (hb.block _ (lt_of_cells hKD)).trans hKD
        clear hb hKD HB
        refine hK _ _ ⟨fun W => W.heap[w.heap.size]? = some (.cells KS 23 (0, 0)), hKn, fun _ h => h, ?_⟩
        clear hK K
        try simp only [Act.put, List.setIfInBounds_toArray, List.set_cons_zero, List.set_cons_succ]
        have hKD := hKn
        have HB := HBn
        clear hKn HBn
        refine tree_one ?_
        refine seg_nil ?_
        refine eff_step (by rfl) (fun K hK => ?_)
        have hzi := zero_id
        go_simp
        clear hzi
        have hbl := (Below.refl v2.heap.size v2).alloc (Nat.le_refl _) (.cells zerosId 34)
        have HBn : Hid (Below w.heap.size w (v2.alloc (.cells zerosId 34))) := Lib.hid (HB.out.trans (hbl.mono HB.out.size))
        have hKn := (hbl.block _ (lt_of_cells hKD)).trans hKD
        have HA : Hid ((v2.alloc (.cells zerosId 34)).heap[v2.heap.size]? = some (.cells zerosId 34 (0, 0))) := Lib.hid (heap_alloc_new v2 _)
        have hmw : w.heap.size ≤ v2.heap.size := HB.out.size
        have hmb : w.heap.size < v2.heap.size := lt_of_cells hKD
        clear hbl hKD HB
        refine hK _ _ ⟨fun W => W.heap[w.heap.size]? = some (.cells KS 23 (0, 0)), hKn, fun _ h => h, ?_⟩
        clear hK K
        try simp only [Act.put, List.setIfInBounds_toArray, List.set_cons_zero, List.set_cons_succ]
        generalize v2.alloc (.cells zerosId 34) = v3 at *
        generalize v2.heap.size = mb at *
        have hKD := hKn
        have HB := HBn
        clear hKn HBn
        refine tree_one ?_
        refine seg_nil ?_
        refine eff_step (by rfl) (fun K hK => ?_)
        rw [if_pos (by rfl)]
        refine wp_store_row 34 (.tmp 9) (.tmp 29) (by rfl) mb MS (by rfl) (by rfl) 34 zerosId HA.out (by rw [HMS.out.2.1]; exact id_info) (by rw [HMS.out.2.1]; rfl) HMS.out.2.2.1 ?_
        have hKn := (setRow_ne v3 mb w.heap.size MS (by omega)).trans hKD
        refine hK _ _ ⟨fun W => W.heap[w.heap.size]? = some (.cells KS 23 (0, 0)), hKn, fun _ h => h, ?_⟩
        clear hK K
        try simp only [Act.put]
        refine tree_last ?_
        refine seg_nil ?_
        exact ⟨rfl, mb, rfl, below_setRow HB.out hmw _, hKn, setRow_at HA.out⟩
      · refine eff_step (by rfl) (fun K hK => ?_)
        have hzi := zero_id
        go_simp
        clear hzi
        have hbl := (Below.refl v1.heap.size v1).alloc (Nat.le_refl _) (.cells zerosId 34)
        have HBn : Hid (Below w.heap.size w (v1.alloc (.cells zerosId 34))) := Lib.hid (HB.out.trans (hbl.mono HB.out.size))
        have hKn := (hbl.block _ (lt_of_cells hKD)).trans hKD
        have HA : Hid ((v1.alloc (.cells zerosId 34)).heap[v1.heap.size]? = some (.cells zerosId 34 (0, 0))) := Lib.hid (heap_alloc_new v1 _)
        have hmw : w.heap.size ≤ v1.heap.size := HB.out.size
        have hmb : w.heap.size < v1.heap.size := lt_of_cells hKD
        clear hbl hKD HB
        refine hK _ _ ⟨fun W => W.heap[w.heap.size]? = some (.cells KS 23 (0, 0)), hKn, fun _ h => h, ?_⟩
        clear hK K
        try simp only [Act.put, List.setIfInBounds_toArray, List.set_cons_zero, List.set_cons_succ]
        generalize v1.alloc (.cells zerosId 34) = v2 at *
        generalize v1.heap.size = mb at *
        have hKD := hKn
        have HB := HBn
        clear hKn HBn
        refine tree_one ?_
        refine seg_nil ?_
        refine eff_step (by rfl) (fun K hK => ?_)
        go_simp
        refine (HMO.out v2).mono ?_
        rintro _ v3 ⟨rfl, hb⟩
        have HBn : Hid (Below w.heap.size w v3) := Lib.hid (HB.out.trans (hb.mono HB.out.size))
        have hKn := (hb.block _ (lt_of_cells hKD)).trans hKD
        have HAn : Hid (v3.heap[mb]? = some (.cells zerosId 34 (0, 0))) := Lib.hid ((hb.block _ (lt_of_cells HA.out)).trans HA.out)
        clear hb hKD HB HA
        refine hK _ _ ⟨fun W => W.heap[w.heap.size]? = some (.cells KS 23 (0, 0)), hKn, fun _ h => h, ?_⟩
        clear hK K
        try simp only [Act.put, List.setIfInBounds_toArray, List.set_cons_zero, List.set_cons_succ]
        have hKD := hKn
        have HB := HBn
        have HA := HAn
        clear hKn HBn HAn
        refine tree_one ?_
        refine seg_nil ?_
        refine eff_step (by rfl) (fun K hK => ?_)
        rw [if_pos (by rfl)]
        refine wp_store_row 34 (.tmp 9) (.tmp 29) (by rfl) mb MS (by rfl) (by rfl) 34 zerosId HA.out (by rw [HMS.out.2.1]; exact id_info) (by rw [HMS.out.2.1]; rfl) HMS.out.2.2.1 ?_
        have hKn := (setRow_ne v3 mb w.heap.size MS (by omega)).trans hKD
        refine hK _ _ ⟨fun W => W.heap[w.heap.size]? = some (.cells KS 23 (0, 0)), hKn, fun _ h => h, ?_⟩
        clear hK K
        try simp only [Act.put]
        refine tree_last ?_
        refine seg_nil ?_
        exact ⟨rfl, mb, rfl, below_setRow HB.out hmw _, hKn, setRow_at HA.out⟩
    · refine eff_step (by rfl) (fun K hK => ?_)
      have hzi := zero_id
      go_simp
      clear hzi
      have hbl := (Below.refl wd.heap.size wd).alloc (Nat.le_refl _) (.cells zerosId 34)
      have HBn : Hid (Below w.heap.size w (wd.alloc (.cells zerosId 34))) := Lib.hid (HB.out.trans (hbl.mono HB.out.size))
      have hKn := (hbl.block _ (lt_of_cells hKD)).trans hKD
      have HA : Hid ((wd.alloc (.cells zerosId 34)).heap[wd.heap.size]? = some (.cells zerosId 34 (0, 0))) := Lib.hid (heap_alloc_new wd _)
      have hmw : w.heap.size ≤ wd.heap.size := HB.out.size
      have hmb : w.heap.size < wd.heap.size := lt_of_cells hKD
      clear hbl hKD HB
      refine hK _ _ ⟨fun W => W.heap[w.heap.size]? = some (.cells KS 23 (0, 0)), hKn, fun _ h => h, ?_⟩
      clear hK K
      try simp only [Act.put, List.setIfInBounds_toArray, List.set_cons_zero, List.set_cons_succ]
      generalize wd.alloc (.cells zerosId 34) = v1 at *
      generalize wd.heap.size = mb at *
      have hKD := hKn
      have HB := HBn
      clear hKn HBn
      refine tree_one ?_
      refine seg_nil ?_
      refine eff_step (by rfl) (fun K hK => ?_)
      go_simp
      refine (HKV.out v1).mono ?_
      rintro _ v2 ⟨rfl, hb⟩
      have HBn : Hid (Below w.heap.size w v2) := Lib.hid (HB.out.trans (hb.mono HB.out.size))
      have hKn := (hb.block _ (lt_of_cells hKD)).trans hKD
      have HAn : Hid (v2.heap[mb]? = some (.cells zerosId 34 (0, 0))) := Lib.hid ((hb.block _ (lt_of_cells HA.out)).trans HA.out)
      clear hb hKD HB HA
      refine hK _ _ ⟨fun W => W.heap[w.heap.size]? = some (.cells KS 23 (0, 0)), hKn, fun _ h => h, ?_⟩
      clear hK K
      try simp only [Act.put, List.setIfInBounds_toArray, List.set_cons_zero, List.set_cons_succ]
      have hKD := hKn
      have HB := HBn
      have HA := HAn
      clear hKn HBn HAn
      refine tree_one ?_
      refine seg_nil ?_
      refine eff_step (by rfl) (fun K hK => ?_)
      go_simp
      refine (HMO.out v2).mono ?_
      rintro _ v3 ⟨rfl, hb⟩
      have HBn : Hid (Below w.heap.size w v3) := Lib.hid (HB.out.trans (hb.mono HB.out.size))
      have hKn := (hb.block _ (lt_of_cells hKD)).trans hKD
      have HAn : Hid (v3.heap[mb]? = some (.cells zerosId 34 (0, 0))) := Lib.hid ((hb.block _ (lt_of_cells HA.out)).trans HA.out)
      clear hb hKD HB HA
      refine hK _ _ ⟨fun W => W.heap[w.heap.size]? = some (.cells KS 23 (0, 0)), hKn, fun _ h => h, ?_⟩
      clear hK K
      try simp only [Act.put, List.setIfInBounds_toArray, List.set_cons_zero, List.set_cons_succ]
      have hKD := hKn
      have HB := HBn
      have HA := HAn
      clear hKn HBn HAn
      refine tree_one ?_
      refine seg_nil ?_
      refine eff_step (by rfl) (fun K hK => ?_)
      rw [if_pos (by rfl)]
      refine wp_store_row 34 (.tmp 9) (.tmp 29) (by rfl) mb MS (by rfl) (by rfl) 34 zerosId HA.out (by rw [HMS.out.2.1]; exact id_info) (by rw [HMS.out.2.1]; rfl) HMS.out.2.2.1 ?_
      have hKn := (setRow_ne v3 mb w.heap.size MS (by omega)).trans hKD
      refine hK _ _ ⟨fun W => W.heap[w.heap.size]? = some (.cells KS 23 (0, 0)), hKn, fun _ h => h, ?_⟩
      clear hK K
      try simp only [Act.put]
      refine tree_last ?_
      refine seg_nil ?_
      exact ⟨rfl, mb, rfl, below_setRow HB.out hmw _, hKn, setRow_at HA.out⟩
  rintro _ w5 ⟨mb, rfl, hx1, hx2, hx3⟩
  have HX5 := Lib.hid (And.intro hx1 (And.intro hx2 hx3))
  clear hx1 hx2 hx3 HK0
  go_upto_region 7 with fail
  have HCV : Hid (∀ W, Below w5.drew.heap.size w5.drew W → (convert 25 9 (.slice (some ⟨mb, 0, none⟩) 32 32)).run Tryd.prog W = .ok (.string (st M)) W) := Lib.hid fun W hW => by
    have hms := ((Grow.below_of_drew hW).block _ (lt_of_cells HX5.out.2.2)).trans HX5.out.2.2
    rw [HMS.out.1] at hms
    have hcv := byt_string (byt_whole hms (by rw [HMS.out.2.2.2]; omega))
    rwa [HMS.out.2.2.2] at hcv
  refine wp_region_grow (fun W W' => Below W.heap.size W W') (Grow.nth [fun v _ => v = .slice (some ⟨mb, 0, none⟩) 32 32, fun v _ => v = .string (st M), fun v _ => v = .string (st b), fun v _ => v = .int .i64 (m : Int), fun v _ => v = .string (st T), fun v _ => v = .bool !z]) 62 (by kernel_rfl) (by kernel_rfl) (by rfl) (fun W => Below.refl _ W) (fun _ _ _ h1 h2 => h1.trans (h2.mono h1.size)) (Grow.mono_nth ?gmono) ?gsteps ?gfin
  case gmono => exact ⟨fun _ _ _ h _ => h, fun _ _ _ h _ => h, fun _ _ _ h _ => h, fun _ _ _ h _ => h, fun _ _ _ h _ => h, fun _ _ _ h _ => h, trivial⟩
  case gsteps =>
    show Grow.allBelow _ 6
    refine And.intro ?_ ?s5
    refine And.intro ?_ ?s4
    refine And.intro ?_ ?s3
    refine And.intro ?_ ?s2
    refine And.intro ?_ ?s1
    refine And.intro ?_ ?s0
    exact trivial
    case s0 =>
      refine Grow.step_in (by rfl) (by rfl) ?_
      intro E W ec eg ef hG hd hu R HR
      have e9 : E (.tmp 9) = .pointer (some ⟨mb, 0, none⟩) := hu 9 (by kernel_rfl)
      clear hd hu
      go_simp
      exact HR.out _ _ (Below.refl _ _) rfl
    case s1 =>
      refine Grow.step_in (by rfl) (by rfl) ?_
      intro E W ec eg ef hG hd hu R HR
      have e30 : E (.tmp 30) = .slice (some ⟨mb, 0, none⟩) 32 32 := hd 0 30 (by kernel_rfl)
      clear hd hu
      have hcv := HCV.out W hG
      go_simp
      exact HR.out _ _ (Below.refl _ _) rfl
    case s2 =>
      refine Grow.step_in (by rfl) (by rfl) ?_
      intro E W ec eg ef hG hd hu R HR
      have e1 : E (.tmp 1) = .string (st b) := hu 1 (by kernel_rfl)
      clear hd hu
      go_simp
      exact HR.out _ _ (Below.refl _ _) rfl
    case s3 =>
      refine Grow.step_in (by rfl) (by rfl) ?_
      intro E W ec eg ef hG hd hu R HR
      have e8 : E (.tmp 8) = .int .i64 (m : Int) := hu 8 (by kernel_rfl)
      clear hd hu
      go_simp
      exact HR.out _ _ (Below.refl _ _) rfl
    case s4 =>
      refine Grow.step_in (by rfl) (by rfl) ?_
      intro E W ec eg ef hG hd hu R HR
      have e32 : E (.tmp 32) = .string (st b) := hd 2 32 (by kernel_rfl)
      have e33 : E (.tmp 33) = .int .i64 (m : Int) := hd 3 33 (by kernel_rfl)
      clear hd hu
      have hsl := st_from (P := Tryd.prog) 9 Tryd.underlying9 b W m (m : Int) rfl (by rw [HL.out]; omega)
      rw [← HTT.out] at hsl
      go_simp
      exact HR.out _ _ (Below.refl _ _) rfl
    case s5 =>
      refine Grow.step_in (by rfl) (by rfl) ?_
      intro E W ec eg ef hG hd hu R HR
      have e31 : E (.tmp 31) = .string (st M) := hd 1 31 (by kernel_rfl)
      have e34 : E (.tmp 34) = .string (st T) := hd 4 34 (by kernel_rfl)
      clear hd hu
      have hbe := st_beq M T
      rw [← HZD.out] at hbe
      go_simp
      exact HR.out _ _ (Below.refl _ _) rfl
  case gfin =>
    intro w6 hG
    refine Grow.fin_dst (by rfl) ?_
    rintro _ rfl
    refine Grow.fin_dst (by rfl) ?_
    rintro _ rfl
    refine Grow.fin_dst (by rfl) ?_
    rintro _ rfl
    refine Grow.fin_dst (by rfl) ?_
    rintro _ rfl
    refine Grow.fin_dst (by rfl) ?_
    rintro _ rfl
    refine Grow.fin_dst (by rfl) ?_
    rintro _ rfl
    simp only [Act.put, List.setIfInBounds_toArray, List.set_cons_zero, List.set_cons_succ]
    refine Grow.fin_end ?_
    have hb6 := Grow.below_of_drew hG
    have HX6 : Hid (w6.heap[w.heap.size]? = some (.cells KS 23 (0, 0)) ∧ Below w.heap.size w w6) := Lib.hid ⟨(hb6.block _ (lt_of_cells HX5.out.2.1)).trans HX5.out.2.1, HX5.out.1.trans (hb6.mono HX5.out.1.size)⟩
    clear hG hb6 HX5 HCV HMO HKV
    by_cases hv : z = true
    · subst hv
      go_wp2_with fail
      go_loopw [10, 11] (fun x i wr => ∃ j : Nat, j ≤ 8 ∧ i = .int .i64 j ∧ x = .int .u64 (num8 ((eightL b).drop j) : Int) ∧ wr = w6) (fun _ i _ => (intOf i).toNat)
      case atStart => exact ⟨8, Nat.le_refl _, rfl, by rw [List.drop_of_length_le (by rw [H8.out]; omega)]; rfl, rfl⟩
      case round =>
        obtain ⟨j, hj, rfl, rfl, rfl⟩ := hrel
        by_cases hlt : 0 < j
        · have hix := st_index (P := Tryd.prog) 9 Tryd.underlying9 b wr j (j : Int) rfl (by rw [HL.out]; omega)
          have HST := Lib.hid (num8_drop_step (l := eightL b) (i := j - 1) (by rw [H8.out]; omega))
          have HLT := Lib.hid (num8_drop_lt H8.out j hlt)
          have HEA := Lib.hid (eight_at (b := b) (i := j - 1) (by omega))
          rw [show j - 1 + 1 = j by omega] at HST HEA
          rw [HEA.out] at HST
          generalize b[j]?.getD 0 = ch at *
          generalize num8 ((eightL b).drop j) = X at *
          obtain ⟨Y, hYE⟩ : ∃ Y, Y = num8 ((eightL b).drop (j - 1)) := ⟨_, rfl⟩
          have HYE := Lib.hid hYE
          rw [← hYE] at HST
          clear hYE
          go_wp2
          have hchl := ch.toNat_lt
          have hX := HLT.out
          have hv1 : IntKind.u64.wrap (IntKind.u64.wrap ((X : Int) * 256) + IntKind.u64.wrap ((ch.toNat : Nat) : Int)) = ((X * 256 + ch.toNat : Nat) : Int) := by
            rw [IntKind.wrap_u64, IntKind.wrap_u64, IntKind.wrap_u64]
            omega
          rw [hv1, ← HST.out]
          exact ⟨⟨j - 1, by omega, by simp only [Value.int.injEq, true_and]; omega, by rw [HYE.out], trivial⟩, by simp [intOf]; omega⟩
        · obtain rfl : j = 0 := by omega
          rw [List.drop_zero]
          go_upto_region 14 with fail
          have HBKS : Hid (w.heap.size < wr.drew.heap.size ∧ wr.drew.heap[w.heap.size]? = some (.cells KS 23 (0, 0))) := Lib.hid ⟨lt_of_cells HX6.out.1, HX6.out.1⟩
          refine wp_region_grow (fun W W' => Below W.heap.size W W') (Grow.nth [fun v _ => v = .agg KS, fun v _ => v = .string (st b), fun v _ => v = .int .u8 ((kindL b).toNat : Int), fun v _ => v = .int .u64 ((kindL b).toNat : Int), fun v _ => v = .agg HS, fun v _ => v = .string (st b), fun v _ => v = .string (st (eightL b)), fun v _ => v = .agg NS, fun v _ => v = .string (st b), fun v _ => v = .int .i64 (m : Int), fun v _ => v = .string (st (bodyL b)), fun v _ => v = .string (st (openL k b)), fun v _ => v = .string (st b), fun v _ => v = .int .u8 ((kindL b).toNat : Int), fun v _ => v = .int .u64 (num8 (eightL b) : Int), fun v _ => v = .string (st (openL k b)), fun v _ => v = .int .u8 ((kindL b).toNat : Int), fun v _ => v = .int .u64 (num8 (eightL b) : Int), fun v _ => v = .int .i64 0]) 62 (by kernel_rfl) (by kernel_rfl) (by rfl) (fun W => Below.refl _ W) (fun _ _ _ h1 h2 => h1.trans (h2.mono h1.size)) (Grow.mono_nth ?gmono) ?gsteps ?gfin
          case gmono => exact ⟨fun _ _ _ h _ => h, fun _ _ _ h _ => h, fun _ _ _ h _ => h, fun _ _ _ h _ => h, fun _ _ _ h _ => h, fun _ _ _ h _ => h, fun _ _ _ h _ => h, fun _ _ _ h _ => h, fun _ _ _ h _ => h, fun _ _ _ h _ => h, fun _ _ _ h _ => h, fun _ _ _ h _ => h, fun _ _ _ h _ => h, fun _ _ _ h _ => h, fun _ _ _ h _ => h, fun _ _ _ h _ => h, fun _ _ _ h _ => h, fun _ _ _ h _ => h, fun _ _ _ h _ => h, trivial⟩
          case gsteps =>
            show Grow.allBelow _ 19
            refine And.intro ?_ ?s18
            refine And.intro ?_ ?s17
            refine And.intro ?_ ?s16
            refine And.intro ?_ ?s15
            refine And.intro ?_ ?s14
            refine And.intro ?_ ?s13
            refine And.intro ?_ ?s12
            refine And.intro ?_ ?s11
            refine And.intro ?_ ?s10
            refine And.intro ?_ ?s9
            refine And.intro ?_ ?s8
            refine And.intro ?_ ?s7
            refine And.intro ?_ ?s6
            refine And.intro ?_ ?s5
            refine And.intro ?_ ?s4
            refine And.intro ?_ ?s3
            refine And.intro ?_ ?s2
            refine And.intro ?_ ?s1
            refine And.intro ?_ ?s0
            exact trivial
            case s0 =>
              refine Grow.step_in (by rfl) (by rfl) ?_
              intro E W ec eg ef hG hd hu R HR
              have e2 : E (.tmp 2) = .pointer (some ⟨w.heap.size, 0, none⟩) := hu 2 (by kernel_rfl)
              clear hd hu
              exact runs_load 23 (.tmp 2) rfl (w.heap.size) e2 KS (0, 0) ((hG.block _ HBKS.out.1).trans HBKS.out.2) Tryd.underlying23 (by rw [HSZ.out]; exact key_info) (HR.out _ _ (Below.refl _ _) rfl)
            case s1 =>
              refine Grow.step_in (by rfl) (by rfl) ?_
              intro E W ec eg ef hG hd hu R HR
              have e1 : E (.tmp 1) = .string (st b) := hu 1 (by kernel_rfl)
              clear hd hu
              go_simp
              exact HR.out _ _ (Below.refl _ _) rfl
            case s2 =>
              refine Grow.step_in (by rfl) (by rfl) ?_
              intro E W ec eg ef hG hd hu R HR
              have e48 : E (.tmp 48) = .string (st b) := hd 1 48 (by kernel_rfl)
              clear hd hu
              have hix := st_index (P := Tryd.prog) 9 Tryd.underlying9 b W 0 0 rfl (by rw [HL.out]; omega)
              rw [show b[0]?.getD 0 = kindL b from rfl] at hix
              go_simp
              exact HR.out _ _ (Below.refl _ _) rfl
            case s3 =>
              refine Grow.step_in (by rfl) (by rfl) ?_
              intro E W ec eg ef hG hd hu R HR
              have e49 : E (.tmp 49) = .int .u8 ((kindL b).toNat : Int) := hd 2 49 (by kernel_rfl)
              clear hd hu
              have hw := HW.out
              go_simp
              exact HR.out _ _ (Below.refl _ _) rfl
            case s4 =>
              refine Grow.step_in (by rfl) (by rfl) ?_
              intro E W ec eg ef hG hd hu R HR
              have e47 : E (.tmp 47) = .agg KS := hd 0 47 (by kernel_rfl)
              have e50 : E (.tmp 50) = .int .u64 ((kindL b).toNat : Int) := hd 3 50 (by kernel_rfl)
              clear hd hu
              go_simp
              refine (HKH.out W).mono ?_
              rintro _ w' ⟨rfl, hb⟩
              exact ⟨_, rfl, HR.out _ _ hb (rfl)⟩
            case s5 =>
              refine Grow.step_in (by rfl) (by rfl) ?_
              intro E W ec eg ef hG hd hu R HR
              have e1 : E (.tmp 1) = .string (st b) := hu 1 (by kernel_rfl)
              clear hd hu
              go_simp
              exact HR.out _ _ (Below.refl _ _) rfl
            case s6 =>
              refine Grow.step_in (by rfl) (by rfl) ?_
              intro E W ec eg ef hG hd hu R HR
              have e52 : E (.tmp 52) = .string (st b) := hd 5 52 (by kernel_rfl)
              clear hd hu
              have hsl := st_mid (P := Tryd.prog) 9 Tryd.underlying9 b W 1 9 1 9 rfl rfl (by omega) (by rw [HL.out]; omega)
              rw [show (b.drop 1).take (9 - 1) = eightL b from rfl] at hsl
              go_simp
              exact HR.out _ _ (Below.refl _ _) rfl
            case s7 =>
              refine Grow.step_in (by rfl) (by rfl) ?_
              intro E W ec eg ef hG hd hu R HR
              have e53 : E (.tmp 53) = .string (st (eightL b)) := hd 6 53 (by kernel_rfl)
              clear hd hu
              go_simp
              refine (HNO.out W).mono ?_
              rintro _ w' ⟨rfl, hb⟩
              exact ⟨_, rfl, HR.out _ _ hb (rfl)⟩
            case s8 =>
              refine Grow.step_in (by rfl) (by rfl) ?_
              intro E W ec eg ef hG hd hu R HR
              have e1 : E (.tmp 1) = .string (st b) := hu 1 (by kernel_rfl)
              clear hd hu
              go_simp
              exact HR.out _ _ (Below.refl _ _) rfl
            case s9 =>
              refine Grow.step_in (by rfl) (by rfl) ?_
              intro E W ec eg ef hG hd hu R HR
              have e8 : E (.tmp 8) = .int .i64 (m : Int) := hu 8 (by kernel_rfl)
              clear hd hu
              go_simp
              exact HR.out _ _ (Below.refl _ _) rfl
            case s10 =>
              refine Grow.step_in (by rfl) (by rfl) ?_
              intro E W ec eg ef hG hd hu R HR
              have e55 : E (.tmp 55) = .string (st b) := hd 8 55 (by kernel_rfl)
              have e56 : E (.tmp 56) = .int .i64 (m : Int) := hd 9 56 (by kernel_rfl)
              clear hd hu
              have hsl := st_mid (P := Tryd.prog) 9 Tryd.underlying9 b W 9 m 9 (m : Int) rfl rfl (by omega) (by rw [HL.out]; omega)
              rw [HBD.out] at hsl
              go_simp
              exact HR.out _ _ (Below.refl _ _) rfl
            case s11 =>
              refine Grow.step_in (by rfl) (by rfl) ?_
              intro E W ec eg ef hG hd hu R HR
              have e51 : E (.tmp 51) = .agg HS := hd 4 51 (by kernel_rfl)
              have e54 : E (.tmp 54) = .agg NS := hd 7 54 (by kernel_rfl)
              have e57 : E (.tmp 57) = .string (st (bodyL b)) := hd 10 57 (by kernel_rfl)
              clear hd hu
              go_simp
              refine (HOV.out W).mono ?_
              rintro _ w' ⟨rfl, hb⟩
              exact ⟨_, rfl, HR.out _ _ hb (rfl)⟩
            case s12 =>
              refine Grow.step_in (by rfl) (by rfl) ?_
              intro E W ec eg ef hG hd hu R HR
              have e1 : E (.tmp 1) = .string (st b) := hu 1 (by kernel_rfl)
              clear hd hu
              go_simp
              exact HR.out _ _ (Below.refl _ _) rfl
            case s13 =>
              refine Grow.step_in (by rfl) (by rfl) ?_
              intro E W ec eg ef hG hd hu R HR
              have e59 : E (.tmp 59) = .string (st b) := hd 12 59 (by kernel_rfl)
              clear hd hu
              have hix := st_index (P := Tryd.prog) 9 Tryd.underlying9 b W 0 0 rfl (by rw [HL.out]; omega)
              rw [show b[0]?.getD 0 = kindL b from rfl] at hix
              go_simp
              exact HR.out _ _ (Below.refl _ _) rfl
            case s14 =>
              refine Grow.step_in (by rfl) (by rfl) ?_
              intro E W ec eg ef hG hd hu R HR
              have e10 : E (.tmp 10) = .int .u64 (num8 (eightL b) : Int) := hu 10 (by kernel_rfl)
              clear hd hu
              go_simp
              exact HR.out _ _ (Below.refl _ _) rfl
            case s15 =>
              refine Grow.step_in (by rfl) (by rfl) ?_
              intro E W ec eg ef hG hd hu R HR
              have e58 : E (.tmp 58) = .string (st (openL k b)) := hd 11 58 (by kernel_rfl)
              clear hd hu
              go_simp
              exact HR.out _ _ (Below.refl _ _) rfl
            case s16 =>
              refine Grow.step_in (by rfl) (by rfl) ?_
              intro E W ec eg ef hG hd hu R HR
              have e60 : E (.tmp 60) = .int .u8 ((kindL b).toNat : Int) := hd 13 60 (by kernel_rfl)
              clear hd hu
              go_simp
              exact HR.out _ _ (Below.refl _ _) rfl
            case s17 =>
              refine Grow.step_in (by rfl) (by rfl) ?_
              intro E W ec eg ef hG hd hu R HR
              have e61 : E (.tmp 61) = .int .u64 (num8 (eightL b) : Int) := hd 14 61 (by kernel_rfl)
              clear hd hu
              go_simp
              exact HR.out _ _ (Below.refl _ _) rfl
            case s18 =>
              refine Grow.step_in (by rfl) (by rfl) ?_
              intro E W ec eg ef hG hd hu R HR
              clear hd hu
              go_simp
              exact HR.out _ _ (Below.refl _ _) rfl
          case gfin =>
            intro V hG
            refine Grow.fin_dst (by rfl) ?_
            rintro _ rfl
            refine Grow.fin_dst (by rfl) ?_
            rintro _ rfl
            refine Grow.fin_dst (by rfl) ?_
            rintro _ rfl
            refine Grow.fin_dst (by rfl) ?_
            rintro _ rfl
            refine Grow.fin_dst (by rfl) ?_
            rintro _ rfl
            refine Grow.fin_dst (by rfl) ?_
            rintro _ rfl
            refine Grow.fin_dst (by rfl) ?_
            rintro _ rfl
            refine Grow.fin_dst (by rfl) ?_
            rintro _ rfl
            refine Grow.fin_dst (by rfl) ?_
            rintro _ rfl
            refine Grow.fin_dst (by rfl) ?_
            rintro _ rfl
            refine Grow.fin_dst (by rfl) ?_
            rintro _ rfl
            refine Grow.fin_dst (by rfl) ?_
            rintro _ rfl
            refine Grow.fin_dst (by rfl) ?_
            rintro _ rfl
            refine Grow.fin_dst (by rfl) ?_
            rintro _ rfl
            refine Grow.fin_dst (by rfl) ?_
            rintro _ rfl
            refine Grow.fin_dst (by rfl) ?_
            rintro _ rfl
            refine Grow.fin_dst (by rfl) ?_
            rintro _ rfl
            refine Grow.fin_dst (by rfl) ?_
            rintro _ rfl
            refine Grow.fin_dst (by rfl) ?_
            rintro _ rfl
            simp only [Act.put, List.setIfInBounds_toArray, List.set_cons_zero, List.set_cons_succ]
            refine Grow.fin_end ?_
            have HBV := Lib.hid (HX6.out.2.trans ((Grow.below_of_drew hG).mono HX6.out.2.size))
            have HE : Hid (openE k b = 0) := Lib.hid (openE_zero.2 ⟨by rw [HL.out]; omega, by rw [HL.out]; omega, HZ.out.1 (by first | rfl | trivial)⟩)
            clear hG
            go_wp2_with fail
            refine bodyPost_ret (results_tmp4 rfl _ _ _) rfl ⟨?_, HBV.out⟩
            rw [openK, if_pos HE.out, openN, if_pos HE.out, openP, if_pos HE.out, HE.out]
            rfl
    · obtain rfl : z = false := by simpa using hv
      have HE : Hid (openE k b = 20) := Lib.hid (by
        rw [openE, if_neg (by rw [HL.out]; omega), if_neg (by rw [HL.out]; omega), if_neg]
        intro hvv
        have := HZ.out.2 hvv
        cases this)
      go_wp2_with fail
      refine bodyPost_ret (results_tmp4 rfl _ _ _) rfl ?_
      exact ropened_not HE.out (by decide) HX6.out.2

theorem rsopen_any {w : World} {b : List UInt8} (hl : b.length ≤ 1000000) (k : List UInt8) (hk : k.length = 32) :
    Calls Tryd.prog 14 #[.agg (row8 k), .string (st b)] w fun e w' => ROpened w k b e w' := by
  by_cases h1 : b.length < 41
  · exact rsopen_short rfl k h1
  · by_cases h2 : 65577 < b.length
    · exact rsopen_long rfl k h2 (by unfold maxLen; omega)
    · exact rsopen_fit rfl k hk (by omega) (by omega)
end Go.Proofs.YtlkkocgjpljibaaDoor
