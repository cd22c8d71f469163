/-
  The law DedupOrder.
  The statement DedupOrder, proved: for every row of ids and every uint16 the law returns true. No condition.
-/
import Derived.Test.YtefhdeipeflfdaaPkOrder01
import Derived.Test.YtefhdeipeflfdaaPk09
import Derived.Test.YtefhdeipeflfdaaPk03
import Derived.Test.YtefhdeipeflfdaaPk02
/-! The law DedupOrder. -/
namespace Go.Proofs.Ytefhdeipeflfdaa
open Go.RowKit Go.Maps Codec

/-- The ids from T on, round and round. -/
def rotD (l : List (List UInt8)) (T j : Nat) : List (List UInt8) := (List.range j).map fun i => l[(i + T) % l.length]?.getD []
theorem rotD_succ (l : List (List UInt8)) (T j : Nat) : rotD l T (j + 1) = rotD l T j ++ [l[(j + T) % l.length]?.getD []] := by simp [rotD, List.range_succ]
theorem rotD_mem (l : List (List UInt8)) (T : Nat) : ∀ x, x ∈ l ↔ x ∈ rotD l T l.length := fun x => by
  unfold rotD
  simp only [List.mem_map, List.mem_range]
  constructor
  · intro h
    obtain ⟨i, hi, rfl⟩ := List.mem_iff_getElem.1 h
    refine ⟨(i + l.length - T % l.length) % l.length, Nat.mod_lt _ (by omega), ?_⟩
    have hm : T % l.length < l.length := Nat.mod_lt _ (by omega)
    have e : ((i + l.length - T % l.length) % l.length + T) % l.length = i := by
      rw [Nat.add_mod, Nat.mod_mod]
      by_cases c : T % l.length ≤ i
      · rw [show i + l.length - T % l.length = (i - T % l.length) + l.length by omega, Nat.add_mod_right, Nat.mod_eq_of_lt (show i - T % l.length < l.length by omega), Nat.sub_add_cancel c, Nat.mod_eq_of_lt hi]
      · rw [Nat.mod_eq_of_lt (show i + l.length - T % l.length < l.length by omega), show i + l.length - T % l.length + T % l.length = i + l.length by omega, Nat.add_mod_right, Nat.mod_eq_of_lt hi]
    rw [e, List.getElem?_eq_getElem hi]
    rfl
  · rintro ⟨i, hi, rfl⟩
    have hm : (i + T) % l.length < l.length := Nat.mod_lt _ (by omega)
    rw [List.getElem?_eq_getElem hm]
    exact List.getElem_mem hm
def ordF (k : List UInt8) : Pl := (k, ((k[3]?.getD 0).toNat : Int))
theorem ordF_may (k : List UInt8) : mayN (ordF k).2 = true := by
  have := (k[3]?.getD 0).toNat_lt
  unfold mayN ordF
  simp
  omega
structure DoS (w : World) (l : List (List UInt8)) (T p1 b1 p2 b2 : Nat) (t1 t2 : Tv Pl) (wr : World) : Prop where
  i1 : Ix wr p1 b1 t1
  i2 : Ix wr p2 b2 t2
  bl : Below w.heap.size w wr
theorem DoS.later {w : World} {l : List (List UInt8)} {T p1 b1 p2 b2 : Nat} {t1 t2 : Tv Pl} {W W' : World} (h : DoS w l T p1 b1 p2 b2 t1 t2 W) (hb : Below W.heap.size W W') : DoS w l T p1 b1 p2 b2 t1 t2 W' :=
  ⟨h.i1.below hb, h.i2.below hb, h.bl.trans (hb.mono h.bl.size)⟩
def DoR (w : World) (l : List (List UInt8)) (T p1 b1 p2 b2 : Nat) (iv : Value) (wr : World) : Prop :=
  ∃ j : Nat, j ≤ l.length ∧ iv = .int .i64 (j : Int) ∧ DoS w l T p1 b1 p2 b2 (bldT ordF (l.take j)) (bldT ordF (rotD l T j)) wr
theorem built_0D : Try.prog.built 31 [] = some (row8 (List.replicate 32 0)) := by unfold row8; kernel_rfl
theorem ordF_cell {W : World} {g : Nat} {k : List UInt8} (h32 : k.length = 32) (h : W.heap[g]? = some (.cells (row8 k) 31 (0, 0))) : W.cell? ⟨g, 3, none⟩ = some (.int .u8 ((k[3]?.getD 0).toNat : Int)) := by
  rw [cell_of_cells h]
  have h3 : k[3]? = some (k[3]?.getD 0) := by rw [List.getElem?_eq_getElem (by omega)]; rfl
  show (row8 k)[3]? = _
  unfold row8 u8s
  rw [List.getElem?_toArray, List.getElem?_map, h3]
  rfl
set_option maxHeartbeats 16000000 in
set_option maxRecDepth 100000 in
theorem law_dorder {w : World} {S : Nat → Prop} {A : Option Addr} {n c : Nat} {l : List (List UInt8)} (hl : Ids w S A n c l) {t0 : Int} (ht0 : (Lit.int .u16 t0).wf = true) :
    Calls Try.prog 5 #[.slice A n c, .int .u16 t0] w fun e w' => e = .returned (.bool true) ∧ Below w.heap.size w w' := by
  have haw := dawake_true w
  have hzi := zero_id
  obtain ⟨T, rfl, hT⟩ : ∃ T : Nat, t0 = (T : Int) ∧ T < 65536 := by
    have hm' : (decide (IntKind.u16.min ≤ t0) && decide (t0 ≤ IntKind.u16.max)) = true := ht0
    rw [show IntKind.u16.min = 0 by decide, show IntKind.u16.max = 65535 by decide] at hm'
    simp at hm'
    exact ⟨t0.toNat, by omega, by omega⟩
  have HL := Lib.hid (And.intro hl (And.intro hl.len hT))
  clear hl ht0 hT
  by_cases hbig : n > 30
  · have hb' : (n : Int) > 30 := by omega
    clear hbig
    go_enter Try.func5, Try.ntmps5
    go_wp2_with (go_at_call 8; refine haw.mono ?_; clear haw; rintro _ w1 ⟨rfl, hb1⟩)
    go_ret
    exact ⟨rfl, hb1⟩
  have hb' : ¬ (n : Int) > 30 := by omega
  have HN : Hid (n ≤ 30) := Lib.hid (by omega)
  clear hbig
  go_enter Try.func5, Try.ntmps5
  go_upto_region 9 with (first
    | (go_at_call 8; refine haw.mono ?_; clear haw; rintro _ w1 ⟨rfl, hb1⟩; have H1 := Lib.hid hb1; have hnw := ixnew_any w1; clear hb1)
    | (go_at_call 9; refine hnw.mono ?_; clear hnw; rintro _ w2 ⟨p1, b1, rfl, hi2, hlp, hlb, hb2⟩; have H2 := Lib.hid (And.intro hi2 (And.intro hlp (And.intro hlb hb2))); have hnv := ixnew_any w2; clear hi2 hlp hlb hb2)
    | (go_at_call 9; refine hnv.mono ?_; clear hnv; rintro _ w3 ⟨p2, b2, rfl, hi3, hlp, hlb, hb3⟩))
  have HD : Hid (w.heap.size ≤ b1 ∧ w.heap.size ≤ b2 ∧ p1 ≠ b2 ∧ b1 ≠ b2 ∧ p2 ≠ b1 ∧ DoS w l T p1 b1 p2 b2 [] [] w3) := by
    have h1 := H1.out.size
    have h2 := H2.out.2.2.2.size
    have h3 := H2.out.1.map.lt
    have h4 := lt_of_cells H2.out.1.box
    have h5 := H2.out.2.2.1
    exact Lib.hid ⟨by omega, by omega, by omega, by omega, by omega, H2.out.1.below hb3, hi3, (H1.out.trans (H2.out.2.2.2.mono h1)).trans (hb3.mono (Nat.le_trans h1 h2))⟩
  clear hi3 hlp hlb hb3 H1 H2
  have hTi := IntWalk.i64_in (T : Int) (by have := HL.out.2.2; omega)
  go_loopw [8, 9, 10] (fun i _ _ wr => DoR w l T p1 b1 p2 b2 i wr) (fun i _ _ _ => n - (intOf i).toNat)
  case atStart => exact ⟨0, Nat.zero_le _, rfl, HD.out.2.2.2.2.2⟩
  case round =>
    obtain ⟨j, hj, rfl, hds⟩ := hrel
    by_cases hlt : j < n
    · have hlt' : (j : Int) < (n : Int) := by omega
      have hjl : j < l.length := by rw [HL.out.2.1]; exact hlt
      obtain ⟨q, off, rfl, hql, h32, hc⟩ := HL.out.1.at_ hlt
      obtain ⟨k, hk⟩ : ∃ k, k = l[j]?.getD [] := ⟨_, rfl⟩
      rw [← hk] at h32 hc
      have hkl : l[j]? = some k := by rw [hk, List.getElem?_eq_getElem hjl]; rfl
      obtain ⟨m, hm⟩ : ∃ m, m = (j + T) % n := ⟨_, rfl⟩
      have hmn : m < n := by rw [hm]; exact Nat.mod_lt _ (by omega)
      obtain ⟨q', off', he, hql', h32', hc'⟩ := HL.out.1.at_ hmn
      injection he with he
      injection he with he1 he2
      subst he1 he2
      obtain ⟨k', hk'⟩ : ∃ k', k' = l[m]?.getD [] := ⟨_, rfl⟩
      rw [← hk'] at h32' hc'
      have ht1 : bldT ordF (l.take (j + 1)) = addT (bldT ordF (l.take j)) k (ordF k) := by rw [ddtake_snoc hkl, bldT_snoc]
      have ht2 : bldT ordF (rotD l T (j + 1)) = addT (bldT ordF (rotD l T j)) k' (ordF k') := by rw [rotD_succ, bldT_snoc, HL.out.2.1, ← hm, ← hk']
      have hle1 : (bldT ordF (l.take j)).length ≤ 30 := by
        have := (bldT_all (f := ordF) (l.take j)).2.1
        rw [List.length_take] at this
        have := HN.out
        omega
      have hle2 : (bldT ordF (rotD l T j)).length ≤ 30 := by
        have := (bldT_all (f := ordF) (rotD l T j)).2.1
        rw [show (rotD l T j).length = j by simp [rotD]] at this
        have := HN.out
        omega
      obtain ⟨KS, hKS⟩ : ∃ KS, KS = row8 k := ⟨_, rfl⟩
      obtain ⟨KT, hKT⟩ : ∃ KT, KT = row8 k' := ⟨_, rfl⟩
      obtain ⟨PS, hPS⟩ : ∃ PS, PS = plC (ordF k) := ⟨_, rfl⟩
      obtain ⟨PT, hPT⟩ : ∃ PT, PT = plC (ordF k') := ⟨_, rfl⟩
      obtain ⟨X, hX⟩ : ∃ X : Nat, X = (k[3]?.getD 0).toNat := ⟨_, rfl⟩
      obtain ⟨Y, hY⟩ : ∃ Y : Nat, Y = (k'[3]?.getD 0).toNat := ⟨_, rfl⟩
      have hXi := IntWalk.i64_in (X : Int) (by have := (k[3]?.getD 0).toNat_lt; omega)
      have hYi := IntWalk.i64_in (Y : Int) (by have := (k'[3]?.getD 0).toNat_lt; omega)
      have HC1 : Hid (∀ W : World, Below w.heap.size w W → ∀ u v, KS[u]? = some v → W.cell? ((⟨q, off + j * 32, none⟩ : Addr).add u) = some v) := Lib.hid fun W hW u v hu => by
        have h := hc u v (by rw [← hKS]; exact hu)
        rw [add_plain] at h ⊢
        exact (hW.cell (p := ⟨q, _, none⟩) hql).trans h
      have HC2 : Hid (∀ W : World, Below w.heap.size w W → ∀ u v, KT[u]? = some v → W.cell? ((⟨q, off + m * 32, none⟩ : Addr).add u) = some v) := Lib.hid fun W hW u v hu => by
        have h := hc' u v (by rw [← hKT]; exact hu)
        rw [add_plain] at h ⊢
        exact (hW.cell (p := ⟨q, _, none⟩) hql').trans h
      have HB : Hid (KS.size = 32 ∧ KT.size = 32 ∧ KS.all (·.oneCell') = true ∧ KT.all (·.oneCell') = true ∧ Try.prog.built 37 [(0, .agg KS), (1, .int .i64 (X : Int))] = some PS ∧ Try.prog.built 37 [(0, .agg KT), (1, .int .i64 (Y : Int))] = some PT) := Lib.hid
        ⟨by rw [hKS, row8_size, h32], by rw [hKT, row8_size, h32'], by rw [hKS]; exact row8_one _, by rw [hKT]; exact row8_one _, by rw [hKS, hPS, hX]; exact build_pl h32 _, by rw [hKT, hPT, hY]; exact build_pl h32' _⟩
      have HCL : Hid ((∀ (W : World) (g : Nat), W.heap[g]? = some (.cells KS 31 (0, 0)) → W.cell? ⟨g, 3, none⟩ = some (.int .u8 (X : Int))) ∧ (∀ (W : World) (g : Nat), W.heap[g]? = some (.cells KT 31 (0, 0)) → W.cell? ⟨g, 3, none⟩ = some (.int .u8 (Y : Int)))) := Lib.hid
        ⟨fun W g h => by rw [hX]; exact ordF_cell h32 (by rw [← hKS]; exact h), fun W g h => by rw [hY]; exact ordF_cell h32' (by rw [← hKT]; exact h)⟩
      have HA : Hid ((∀ W, Ix W p1 b1 (bldT ordF (l.take j)) → Calls Try.prog 13 #[.pointer (some ⟨p1, 0, none⟩), .agg KS, .agg PS] W (IxP W p1 b1 (bldT ordF (l.take (j + 1))) (.bool (addB (bldT ordF (l.take j)) k (ordF k))))) ∧
          (∀ W, Ix W p2 b2 (bldT ordF (rotD l T j)) → Calls Try.prog 13 #[.pointer (some ⟨p2, 0, none⟩), .agg KT, .agg PT] W (IxP W p2 b2 (bldT ordF (rotD l T (j + 1))) (.bool (addB (bldT ordF (rotD l T j)) k' (ordF k')))))) := Lib.hid
        ⟨fun W h => by rw [ht1, hKS, hPS]; exact ixadd_any h (by omega) h32 h32, fun W h => by rw [ht2, hKT, hPT]; exact ixadd_any h (by omega) h32' h32'⟩
      have hjj := IntWalk.i64_in ((j : Int) + 1) (by have := HN.out; omega)
      have hjt := IntWalk.i64_in ((j : Int) + (T : Int)) (by have := HN.out; have := HL.out.2.2; omega)
      have hrm : ((j : Int) + (T : Int)).tmod (n : Int) = (m : Int) := by rw [hm]; rfl
      have hmw := IntWalk.i64_in (m : Int) (by have := HN.out; omega)
      have hmlt : (m : Int) < (n : Int) := by omega
      have hn0 : (n : Int) ≠ 0 := by omega
      have HJ : Hid (j < n ∧ j + 1 ≤ l.length) := Lib.hid ⟨hlt, hjl⟩
      have HDS := Lib.hid hds
      obtain ⟨Z1, hZ1⟩ : ∃ Z1, Z1 = addB (bldT ordF (l.take j)) k (ordF k) := ⟨_, rfl⟩
      obtain ⟨Z2, hZ2⟩ : ∃ Z2, Z2 = addB (bldT ordF (rotD l T j)) k' (ordF k') := ⟨_, rfl⟩
      rw [← hZ1, ← hZ2] at HA
      clear hZ1 hZ2 hX hY hPS hPT hKS hKT hle1 hle2 ht1 ht2 hk hk' hkl hjl hlt hj hds hc hc' hql hql' h32 h32' hm hmn hb'
      go_wp2_with (first
        | (refine wpList_load_at (by rfl) 31 (.tmp 32) (by rfl) ⟨q, off + j * 32, none⟩ (by rfl) KS _ (HC1.out _ HDS.out.bl) Try.underlying31 (by rfl) (by rw [HB.out.1]; exact id_info) ?_)
        | (refine wpList_store_row (by rfl) 31 (.tmp 9) (.tmp 33) (by rfl) wr.heap.size KS (by rfl) (by rfl) 31 zerosId (heap_alloc_new _ _) (by rw [HB.out.1]; exact id_info) (by rw [HB.out.1]; rfl) HB.out.2.2.1 ?_
           have hbS : Below wr.heap.size wr ((wr.alloc (.cells zerosId 31)).setRow wr.heap.size KS) := below_setRow ((Below.refl _ _).alloc (Nat.le_refl _) _) (Nat.le_refl _) _
           have H5 : Hid (((wr.alloc (.cells zerosId 31)).setRow wr.heap.size KS).heap[wr.heap.size]? = some (.cells KS 31 (0, 0)) ∧ DoS w l T p1 b1 p2 b2 (bldT ordF (l.take j)) (bldT ordF (rotD l T j)) ((wr.alloc (.cells zerosId 31)).setRow wr.heap.size KS)) := Lib.hid ⟨setRow_at (heap_alloc_new _ _), HDS.out.later hbS⟩
           clear hbS HDS
           generalize (wr.alloc (.cells zerosId 31)).setRow wr.heap.size KS = w5 at H5 ⊢
           generalize wr.heap.size = qa at H5 ⊢)
        | (refine wpList_load_at (by rfl) 31 (.tmp 42) (by rfl) ⟨q, off + m * 32, none⟩ (by rfl) KT _ (HC2.out _ H5.out.2.bl) Try.underlying31 (by rfl) (by rw [HB.out.2.1]; exact id_info) ?_)
        | (refine wpList_store_row (by rfl) 31 (.tmp 10) (.tmp 43) (by rfl) w5.heap.size KT (by rfl) (by rfl) 31 zerosId (heap_alloc_new _ _) (by rw [HB.out.2.1]; exact id_info) (by rw [HB.out.2.1]; rfl) HB.out.2.2.2.1 ?_
           have hbS : Below w5.heap.size w5 ((w5.alloc (.cells zerosId 31)).setRow w5.heap.size KT) := below_setRow ((Below.refl _ _).alloc (Nat.le_refl _) _) (Nat.le_refl _) _
           have H6 : Hid (((w5.alloc (.cells zerosId 31)).setRow w5.heap.size KT).heap[qa]? = some (.cells KS 31 (0, 0)) ∧ ((w5.alloc (.cells zerosId 31)).setRow w5.heap.size KT).heap[w5.heap.size]? = some (.cells KT 31 (0, 0)) ∧ DoS w l T p1 b1 p2 b2 (bldT ordF (l.take j)) (bldT ordF (rotD l T j)) ((w5.alloc (.cells zerosId 31)).setRow w5.heap.size KT)) := Lib.hid ⟨(hbS.block _ (lt_of_cells H5.out.1)).trans H5.out.1, setRow_at (heap_alloc_new _ _), H5.out.2.later hbS⟩
           clear hbS H5
           generalize (w5.alloc (.cells zerosId 31)).setRow w5.heap.size KT = w6 at H6 ⊢
           generalize w5.heap.size = qb at H6 ⊢
           have hx6 := HCL.out.1 _ _ H6.out.1
           have had := HA.out.1 _ H6.out.2.2.i1)
        | (refine wpList_load_row (by rfl) 31 (.tmp 9) (by rfl) qa (by rfl) 31 KS (0, 0) _ H6.out.1 Try.underlying31 (by rfl) (by rw [HB.out.1]; exact id_info) ?_)
        | (refine wpList_load_row (by rfl) 31 (.tmp 10) (by rfl) qb (by rfl) 31 KT (0, 0) _ H7.out.1 Try.underlying31 (by rfl) (by rw [HB.out.2.1]; exact id_info) ?_)
        | (refine wpList_built_on (by rfl) 37 #[(0, .tmp 46), (1, .tmp 49)] (by rfl) [(0, .agg KS), (1, .int .i64 (X : Int))] (two_parts _ _ _ _ _ rfl rfl) PS HB.out.2.2.2.2.1 ?_)
        | (refine wpList_built_on (by rfl) 37 #[(0, .tmp 54), (1, .tmp 57)] (by rfl) [(0, .agg KT), (1, .int .i64 (Y : Int))] (two_parts _ _ _ _ _ rfl rfl) PT HB.out.2.2.2.2.2 ?_)
        | (go_at_call 13; refine had.mono ?_; clear had; rintro _ w7 ⟨rfl, hi7, ht7⟩
           have hd := HD.out
           have hlq := lt_of_cells H6.out.2.1
           have H7 : Hid (w7.heap[qb]? = some (.cells KT 31 (0, 0)) ∧ DoS w l T p1 b1 p2 b2 (bldT ordF (l.take (j + 1))) (bldT ordF (rotD l T j)) w7) := Lib.hid
             ⟨(ht7.block _ hlq (by
                 show ¬ qb = b1
                 rintro rfl
                 obtain ⟨es, clock, hb⟩ := H6.out.2.2.i1.map.isMap
                 have h1 := H6.out.2.1
                 rw [hb] at h1
                 cases h1)).trans H6.out.2.1, hi7, H6.out.2.2.i2.turned ht7 (by show ¬ p2 = b1; omega) (by show ¬ b2 = b1; omega), below_turn H6.out.2.2.bl (Nat.le_refl _) ht7 fun k hk => by rw [hk]; exact hd.1⟩
           have hx7 := HCL.out.2 _ _ H7.out.1
           have hae := HA.out.2 _ H7.out.2.i2
           clear hi7 ht7 hd hlq)
        | (go_at_call 13; refine hae.mono ?_; clear hae; rintro _ w8 ⟨rfl, hi8, ht8⟩
           have hd := HD.out
           have H8 : Hid (DoS w l T p1 b1 p2 b2 (bldT ordF (l.take (j + 1))) (bldT ordF (rotD l T (j + 1))) w8) := Lib.hid
             ⟨H7.out.2.i1.turned ht8 (by show ¬ p1 = b2; omega) (by show ¬ b1 = b2; omega), hi8, below_turn H7.out.2.bl (Nat.le_refl _) ht8 fun k hk => by rw [hk]; exact hd.2.1⟩
           clear hi8 ht8 hd))
      go_roundw
      case rel => exact ⟨j + 1, HJ.out.2, by simp, H8.out⟩
      case measure => have := HJ.out.1; simp only [intOf]; omega
    · obtain rfl : j = n := by have := HL.out.2.1; omega
      have hlt' : ¬ (j : Int) < (j : Int) := by omega
      have hfull : l.take j = l := List.take_of_length_le (by have := HL.out.2.1; omega)
      have hrot : bldT ordF (rotD l T j) = bldT ordF l := by
        rw [show j = l.length by have := HL.out.2.1; omega]
        exact (bldT_order (fun k _ => ordF_may k) (rotD_mem l T)).symm
      rw [hfull, hrot] at hds
      have hok : OkT (bldT ordF l) := bldT_ok fun k hk => ⟨HL.out.1.each k hk, HL.out.1.each k hk, ordF_may k⟩
      have hln : (bldT ordF l).length ≤ 30 := by
        have := (bldT_all (f := ordF) l).2.1
        have := HN.out
        have := HL.out.2.1
        omega
      obtain ⟨TB, hTB⟩ : ∃ TB, TB = bldT ordF l := ⟨_, rfl⟩
      rw [← hTB] at hds hok hln
      have HT := Lib.hid (And.intro hds (And.intro hok hln))
      clear hTB hds hok hln hrot hfull hj hlt hzi HD hb' hTi
      obtain ⟨K0, hK0⟩ : ∃ K0, K0 = row8 (List.replicate 32 0) := ⟨_, rfl⟩
      obtain ⟨P0, hP0⟩ : ∃ P0, P0 = plC zPl := ⟨_, rfl⟩
      have hzp : ∀ W, (zeroValue 37).run Try.prog W = .ok (.agg P0) W := fun W => by rw [hP0]; exact zero_pl W
      have HB : Hid (P0.size = 33 ∧ P0.all (·.oneCell') = true ∧ Try.prog.built 31 [] = some K0 ∧ Try.prog.built 37 [] = some P0) := Lib.hid ⟨by rw [hP0, plC_size zPl_len], by rw [hP0]; exact plC_one _, by rw [hK0]; exact built_0D, by rw [hP0]; exact pl_built0⟩
      have HNIL : Hid ((∀ W, Calls Try.prog 15 #[.pointer none, .agg K0] W fun e w' => e = .returned (.tuple #[.agg P0, .bool false]) ∧ Below W.heap.size W w') ∧
          (∀ W, Calls Try.prog 13 #[.pointer none, .agg K0, .agg P0] W fun e w' => e = .returned (.bool false) ∧ Below W.heap.size W w') ∧
          (∀ W, Calls Try.prog 10 #[.pointer none, .agg K0] W fun e w' => e = .returned (.int .i64 0) ∧ Below W.heap.size W w')) := Lib.hid ⟨fun W => by rw [hK0, hP0]; exact ixfind_nil W, fun W => by rw [hK0, hP0]; exact ixadd_nil W zPl, fun W => by rw [hK0]; exact ixdrop_nil W⟩
      clear hK0 hP0
      have hfn := HNIL.out.1 wr
      go_wp2_with (first
        | (refine wpList_built_on (by rfl) 31 #[] (by rfl) [] (by simp) K0 HB.out.2.2.1 ?_)
        | (go_at_call 15; refine hfn.mono ?_; clear hfn; rintro _ w5 ⟨rfl, hb5⟩; have H5 := Lib.hid hb5; clear hb5)
        | (refine wpList_store_row (by rfl) 37 (.tmp 12) (.tmp 64) (by rfl) w5.heap.size P0 (by rfl) (by rfl) 37 P0 (heap_alloc_new _ _) (by rw [HB.out.1]; exact pl_info) rfl HB.out.2.1 ?_
           have hbS : Below w.heap.size w ((w5.alloc (.cells P0 37)).setRow w5.heap.size P0) := below_setRow ((HT.out.1.bl.trans (H5.out.mono HT.out.1.bl.size)).alloc (Nat.le_trans HT.out.1.bl.size H5.out.size) _) (Nat.le_trans HT.out.1.bl.size H5.out.size) _
           have hbT : Below wr.heap.size wr ((w5.alloc (.cells P0 37)).setRow w5.heap.size P0) := below_setRow (H5.out.alloc H5.out.size _) H5.out.size _
           have H6 := Lib.hid (And.intro hbS hbT)
           clear hbS hbT H5
           generalize (w5.alloc (.cells P0 37)).setRow w5.heap.size P0 = w6 at H6 ⊢
           have hpn := ixpacks_nil w6)
        | (go_at_call 21; refine hpn.mono ?_; clear hpn; rintro _ w7 ⟨rfl, e7⟩; subst e7))
      have HD : Hid (∀ W, Below w7.drew.heap.size w7.drew W → Below w.heap.size w W ∧ Ix W p1 b1 TB ∧ Ix W p2 b2 TB) := Lib.hid fun W hW => by
        have h6 := H6.out
        have h1 : Below w.heap.size w W := (below_drew h6.1).trans (hW.mono (below_drew h6.1).size)
        have h2 : Below wr.heap.size wr W := (below_drew h6.2).trans (hW.mono (below_drew h6.2).size)
        exact ⟨h1, HT.out.1.i1.below h2, HT.out.1.i2.below h2⟩
      obtain ⟨BS, hBS⟩ : ∃ BS, BS = ixB TB := ⟨_, rfl⟩
      have HP : Hid (∀ W, Below w7.drew.heap.size w7.drew W → (Calls Try.prog 19 #[.pointer (some ⟨p1, 0, none⟩)] W fun e w' => ∃ A c, e = .returned (.slice A BS.length c) ∧ Byt w' (fun _ => True) A BS.length c BS ∧ Below W.heap.size W w') ∧
          (Calls Try.prog 19 #[.pointer (some ⟨p2, 0, none⟩)] W fun e w' => ∃ A c, e = .returned (.slice A BS.length c) ∧ Byt w' (fun _ => True) A BS.length c BS ∧ Below W.heap.size W w')) := Lib.hid fun W hW => by
        have h := HD.out W hW
        rw [hBS]
        exact ⟨(ixput_any h.2.1 (by have := HT.out.2.2; omega) HT.out.2.1).mono (by rintro _ w' ⟨A, c, rfl, h1, h2⟩; exact ⟨A, c, rfl, h1.mono (fun _ _ _ => trivial), h2⟩), (ixput_any h.2.2 (by have := HT.out.2.2; omega) HT.out.2.1).mono (by rintro _ w' ⟨A, c, rfl, h1, h2⟩; exact ⟨A, c, rfl, h1.mono (fun _ _ _ => trivial), h2⟩)⟩
      clear hBS H6 HT
      refine wp_region_grow (fun W W' => Below W.heap.size W W') (Grow.nth [fun v _ => v = .pointer (some ⟨p1, 0, none⟩), fun v W => ∃ A c, v = .slice A BS.length c ∧ Byt W (fun _ => True) A BS.length c BS, fun v _ => v = .string (st BS), fun v _ => v = .pointer (some ⟨p2, 0, none⟩), fun v W => ∃ A c, v = .slice A BS.length c ∧ Byt W (fun _ => True) A BS.length c BS, fun v _ => v = .string (st BS), fun v _ => v = .bool true, fun v _ => v = .bool true, fun v _ => v = .bool false, fun v _ => v = .bool true, fun v _ => v = .bool true, fun v _ => v = .bool true, fun v _ => v = .pointer none, fun v _ => v = .agg K0, fun v _ => v = .agg P0, fun v _ => v = .bool false, fun v _ => v = .bool true, fun v _ => v = .bool true, fun v _ => v = .bool true, fun v _ => v = .pointer none, fun v _ => v = .agg K0, fun v _ => v = .int .i64 0, fun v _ => v = .bool true, fun v _ => v = .bool true, fun v _ => v = .bool true, fun v _ => v = .pointer none, fun v _ => v = .slice none 0 0, fun v _ => v = .int .i64 0, fun v _ => v = .slice none 0 0, fun v _ => v = .int .i64 0, fun v _ => v = .int .i64 0, fun v _ => v = .slice none 0 0, fun v _ => v = .int .i64 0, fun v _ => v = .int .i64 0, fun v _ => v = .pointer none, fun v _ => v = .slice none 0 0, fun v _ => v = .int .i64 0, fun v _ => v = .int .i64 0, fun v _ => v = .bool true, fun v _ => v = .bool true, fun v _ => v = .bool true]) 111 (by kernel_rfl) (by kernel_rfl) (by rfl) (fun W => Below.refl _ W) (fun _ _ _ h1 h2 => h1.trans (h2.mono h1.size)) (Grow.mono_nth ?gmono) ?gsteps ?gfin
      case gmono => exact ⟨fun _ _ _ h _ => h, fun _ _ _ ⟨A, c, h1, h2⟩ hg => ⟨A, c, h1, h2.below hg⟩, fun _ _ _ h _ => h, fun _ _ _ h _ => h, fun _ _ _ ⟨A, c, h1, h2⟩ hg => ⟨A, c, h1, h2.below hg⟩, fun _ _ _ h _ => h, fun _ _ _ h _ => h, fun _ _ _ h _ => h, fun _ _ _ h _ => h, fun _ _ _ h _ => h, fun _ _ _ h _ => h, fun _ _ _ h _ => h, fun _ _ _ h _ => h, fun _ _ _ h _ => h, fun _ _ _ h _ => h, fun _ _ _ h _ => h, fun _ _ _ h _ => h, fun _ _ _ h _ => h, fun _ _ _ h _ => h, fun _ _ _ h _ => h, fun _ _ _ h _ => h, fun _ _ _ h _ => h, fun _ _ _ h _ => h, fun _ _ _ h _ => h, fun _ _ _ h _ => h, fun _ _ _ h _ => h, fun _ _ _ h _ => h, fun _ _ _ h _ => h, fun _ _ _ h _ => h, fun _ _ _ h _ => h, fun _ _ _ h _ => h, fun _ _ _ h _ => h, fun _ _ _ h _ => h, fun _ _ _ h _ => h, fun _ _ _ h _ => h, fun _ _ _ h _ => h, fun _ _ _ h _ => h, fun _ _ _ h _ => h, fun _ _ _ h _ => h, fun _ _ _ h _ => h, fun _ _ _ h _ => h, trivial⟩
      case gsteps =>
        show Grow.allBelow _ 41
        refine And.intro ?_ ?s40
        refine And.intro ?_ ?s39
        refine And.intro ?_ ?s38
        refine And.intro ?_ ?s37
        refine And.intro ?_ ?s36
        refine And.intro ?_ ?s35
        refine And.intro ?_ ?s34
        refine And.intro ?_ ?s33
        refine And.intro ?_ ?s32
        refine And.intro ?_ ?s31
        refine And.intro ?_ ?s30
        refine And.intro ?_ ?s29
        refine And.intro ?_ ?s28
        refine And.intro ?_ ?s27
        refine And.intro ?_ ?s26
        refine And.intro ?_ ?s25
        refine And.intro ?_ ?s24
        refine And.intro ?_ ?s23
        refine And.intro ?_ ?s22
        refine And.intro ?_ ?s21
        refine And.intro ?_ ?s20
        refine And.intro ?_ ?s19
        refine And.intro ?_ ?s18
        refine And.intro ?_ ?s17
        refine And.intro ?_ ?s16
        refine And.intro ?_ ?s15
        refine And.intro ?_ ?s14
        refine And.intro ?_ ?s13
        refine And.intro ?_ ?s12
        refine And.intro ?_ ?s11
        refine And.intro ?_ ?s10
        refine And.intro ?_ ?s9
        refine And.intro ?_ ?s8
        refine And.intro ?_ ?s7
        refine And.intro ?_ ?s6
        refine And.intro ?_ ?s5
        refine And.intro ?_ ?s4
        refine And.intro ?_ ?s3
        refine And.intro ?_ ?s2
        refine And.intro ?_ ?s1
        refine And.intro ?_ ?s0
        exact trivial
        case s0 =>
          refine Grow.step_in (by rfl) (by rfl) ?_
          intro E W ec eg ef hG hd hu R HR
          have e6 : E (.tmp 6) = .pointer (some ⟨p1, 0, none⟩) := hu 6 (by kernel_rfl)
          clear hd hu
          go_simp
          exact HR.out _ _ (Below.refl _ _) rfl
        case s1 =>
          refine Grow.step_in (by rfl) (by rfl) ?_
          intro E W ec eg ef hG hd hu R HR
          have e71 : E (.tmp 71) = .pointer (some ⟨p1, 0, none⟩) := hd 0 71 (by kernel_rfl)
          clear hd hu
          have hpu := (HP.out W hG).1
          go_simp
          refine hpu.mono ?_
          rintro _ w' ⟨A, c, rfl, h, hb⟩
          exact ⟨_, rfl, HR.out _ _ hb ⟨A, c, rfl, h⟩⟩
        case s2 =>
          refine Grow.step_in (by rfl) (by rfl) ?_
          intro E W ec eg ef hG hd hu R HR
          have h72 := hd 1 72 (by kernel_rfl)
          clear hd hu
          obtain ⟨A, c, eA, hA⟩ := h72
          have hcv := byt_string hA
          rw [← eA] at hcv
          clear eA
          go_simp
          exact HR.out _ _ (Below.refl _ _) rfl
        case s3 =>
          refine Grow.step_in (by rfl) (by rfl) ?_
          intro E W ec eg ef hG hd hu R HR
          have e7 : E (.tmp 7) = .pointer (some ⟨p2, 0, none⟩) := hu 7 (by kernel_rfl)
          clear hd hu
          go_simp
          exact HR.out _ _ (Below.refl _ _) rfl
        case s4 =>
          refine Grow.step_in (by rfl) (by rfl) ?_
          intro E W ec eg ef hG hd hu R HR
          have e74 : E (.tmp 74) = .pointer (some ⟨p2, 0, none⟩) := hd 3 74 (by kernel_rfl)
          clear hd hu
          have hpu := (HP.out W hG).2
          go_simp
          refine hpu.mono ?_
          rintro _ w' ⟨A, c, rfl, h, hb⟩
          exact ⟨_, rfl, HR.out _ _ hb ⟨A, c, rfl, h⟩⟩
        case s5 =>
          refine Grow.step_in (by rfl) (by rfl) ?_
          intro E W ec eg ef hG hd hu R HR
          have h75 := hd 4 75 (by kernel_rfl)
          clear hd hu
          obtain ⟨A, c, eA, hA⟩ := h75
          have hcv := byt_string hA
          rw [← eA] at hcv
          clear eA
          go_simp
          exact HR.out _ _ (Below.refl _ _) rfl
        case s6 =>
          refine Grow.step_in (by rfl) (by rfl) ?_
          intro E W ec eg ef hG hd hu R HR
          have e73 : E (.tmp 73) = .string (st BS) := hd 2 73 (by kernel_rfl)
          have e76 : E (.tmp 76) = .string (st BS) := hd 5 76 (by kernel_rfl)
          clear hd hu
          go_simp
          exact HR.out _ _ (Below.refl _ _) rfl
        case s7 =>
          refine Grow.step_in (by rfl) (by rfl) ?_
          intro E W ec eg ef hG hd hu R HR
          have e77 : E (.tmp 77) = .bool true := hd 6 77 (by kernel_rfl)
          clear hd hu
          go_simp
          exact HR.out _ _ (Below.refl _ _) rfl
        case s8 =>
          refine Grow.step_on (g := 7) (b := true) (d := 78) (by rfl) (by rfl) (by rfl) (by kernel_rfl) (fun v W h => h) ?_
          intro E W ec eg ef hG hd hu R HR
          have e13 : E (.tmp 13) = .bool false := hu 13 (by kernel_rfl)
          clear hd hu
          go_simp
          exact HR.out _ _ (Below.refl _ _) rfl
        case s9 =>
          refine Grow.step_on (g := 7) (b := true) (d := 78) (by rfl) (by rfl) (by rfl) (by kernel_rfl) (fun v W h => h) ?_
          intro E W ec eg ef hG hd hu R HR
          have e79 : E (.tmp 79) = .bool false := hd 8 79 (by kernel_rfl)
          clear hd hu
          go_simp
          exact HR.out _ _ (Below.refl _ _) rfl
        case s10 =>
          refine Grow.step_in (by rfl) (by rfl) ?_
          intro E W ec eg ef hG hd hu R HR
          have e78 : E (.tmp 78) = .bool true := hd 7 78 (by kernel_rfl)
          have e80 : E (.tmp 80) = .bool true := hd 9 80 (by kernel_rfl)
          clear hd hu
          go_simp
          exact HR.out _ _ (Below.refl _ _) rfl
        case s11 =>
          refine Grow.step_in (by rfl) (by rfl) ?_
          intro E W ec eg ef hG hd hu R HR
          have e81 : E (.tmp 81) = .bool true := hd 10 81 (by kernel_rfl)
          clear hd hu
          go_simp
          exact HR.out _ _ (Below.refl _ _) rfl
        case s12 =>
          refine Grow.step_on (g := 11) (b := true) (d := 82) (by rfl) (by rfl) (by rfl) (by kernel_rfl) (fun v W h => h) ?_
          intro E W ec eg ef hG hd hu R HR
          have e11 : E (.tmp 11) = .pointer none := hu 11 (by kernel_rfl)
          clear hd hu
          go_simp
          exact HR.out _ _ (Below.refl _ _) rfl
        case s13 =>
          refine Grow.step_on (g := 11) (b := true) (d := 82) (by rfl) (by rfl) (by rfl) (by kernel_rfl) (fun v W h => h) ?_
          intro E W ec eg ef hG hd hu R HR
          clear hd hu
          exact runs_build 31 _ rfl [] (by simp) K0 HB.out.2.2.1 (HR.out _ _ (Below.refl _ _) rfl)
        case s14 =>
          refine Grow.step_on (g := 11) (b := true) (d := 82) (by rfl) (by rfl) (by rfl) (by kernel_rfl) (fun v W h => h) ?_
          intro E W ec eg ef hG hd hu R HR
          clear hd hu
          exact runs_build 37 _ rfl [] (by simp) P0 HB.out.2.2.2 (HR.out _ _ (Below.refl _ _) rfl)
        case s15 =>
          refine Grow.step_on (g := 11) (b := true) (d := 82) (by rfl) (by rfl) (by rfl) (by kernel_rfl) (fun v W h => h) ?_
          intro E W ec eg ef hG hd hu R HR
          have e83 : E (.tmp 83) = .pointer none := hd 12 83 (by kernel_rfl)
          have e84 : E (.tmp 84) = .agg K0 := hd 13 84 (by kernel_rfl)
          have e85 : E (.tmp 85) = .agg P0 := hd 14 85 (by kernel_rfl)
          clear hd hu
          have hcl := HNIL.out.2.1 W
          go_simp
          refine hcl.mono ?_
          rintro _ w' ⟨rfl, hb⟩
          exact ⟨_, rfl, HR.out _ _ hb rfl⟩
        case s16 =>
          refine Grow.step_on (g := 11) (b := true) (d := 82) (by rfl) (by rfl) (by rfl) (by kernel_rfl) (fun v W h => h) ?_
          intro E W ec eg ef hG hd hu R HR
          have e86 : E (.tmp 86) = .bool false := hd 15 86 (by kernel_rfl)
          clear hd hu
          go_simp
          exact HR.out _ _ (Below.refl _ _) rfl
        case s17 =>
          refine Grow.step_in (by rfl) (by rfl) ?_
          intro E W ec eg ef hG hd hu R HR
          have e82 : E (.tmp 82) = .bool true := hd 11 82 (by kernel_rfl)
          have e87 : E (.tmp 87) = .bool true := hd 16 87 (by kernel_rfl)
          clear hd hu
          go_simp
          exact HR.out _ _ (Below.refl _ _) rfl
        case s18 =>
          refine Grow.step_in (by rfl) (by rfl) ?_
          intro E W ec eg ef hG hd hu R HR
          have e88 : E (.tmp 88) = .bool true := hd 17 88 (by kernel_rfl)
          clear hd hu
          go_simp
          exact HR.out _ _ (Below.refl _ _) rfl
        case s19 =>
          refine Grow.step_on (g := 18) (b := true) (d := 89) (by rfl) (by rfl) (by rfl) (by kernel_rfl) (fun v W h => h) ?_
          intro E W ec eg ef hG hd hu R HR
          have e11 : E (.tmp 11) = .pointer none := hu 11 (by kernel_rfl)
          clear hd hu
          go_simp
          exact HR.out _ _ (Below.refl _ _) rfl
        case s20 =>
          refine Grow.step_on (g := 18) (b := true) (d := 89) (by rfl) (by rfl) (by rfl) (by kernel_rfl) (fun v W h => h) ?_
          intro E W ec eg ef hG hd hu R HR
          clear hd hu
          exact runs_build 31 _ rfl [] (by simp) K0 HB.out.2.2.1 (HR.out _ _ (Below.refl _ _) rfl)
        case s21 =>
          refine Grow.step_on (g := 18) (b := true) (d := 89) (by rfl) (by rfl) (by rfl) (by kernel_rfl) (fun v W h => h) ?_
          intro E W ec eg ef hG hd hu R HR
          have e90 : E (.tmp 90) = .pointer none := hd 19 90 (by kernel_rfl)
          have e91 : E (.tmp 91) = .agg K0 := hd 20 91 (by kernel_rfl)
          clear hd hu
          have hcl := HNIL.out.2.2 W
          go_simp
          refine hcl.mono ?_
          rintro _ w' ⟨rfl, hb⟩
          exact ⟨_, rfl, HR.out _ _ hb rfl⟩
        case s22 =>
          refine Grow.step_on (g := 18) (b := true) (d := 89) (by rfl) (by rfl) (by rfl) (by kernel_rfl) (fun v W h => h) ?_
          intro E W ec eg ef hG hd hu R HR
          have e92 : E (.tmp 92) = .int .i64 0 := hd 21 92 (by kernel_rfl)
          clear hd hu
          go_simp
          exact HR.out _ _ (Below.refl _ _) rfl
        case s23 =>
          refine Grow.step_in (by rfl) (by rfl) ?_
          intro E W ec eg ef hG hd hu R HR
          have e89 : E (.tmp 89) = .bool true := hd 18 89 (by kernel_rfl)
          have e93 : E (.tmp 93) = .bool true := hd 22 93 (by kernel_rfl)
          clear hd hu
          go_simp
          exact HR.out _ _ (Below.refl _ _) rfl
        case s24 =>
          refine Grow.step_in (by rfl) (by rfl) ?_
          intro E W ec eg ef hG hd hu R HR
          have e94 : E (.tmp 94) = .bool true := hd 23 94 (by kernel_rfl)
          clear hd hu
          go_simp
          exact HR.out _ _ (Below.refl _ _) rfl
        case s25 =>
          refine Grow.step_on (g := 24) (b := true) (d := 95) (by rfl) (by rfl) (by rfl) (by kernel_rfl) (fun v W h => h) ?_
          intro E W ec eg ef hG hd hu R HR
          have e11 : E (.tmp 11) = .pointer none := hu 11 (by kernel_rfl)
          clear hd hu
          go_simp
          exact HR.out _ _ (Below.refl _ _) rfl
        case s26 =>
          refine Grow.step_on (g := 24) (b := true) (d := 95) (by rfl) (by rfl) (by rfl) (by kernel_rfl) (fun v W h => h) ?_
          intro E W ec eg ef hG hd hu R HR
          have e96 : E (.tmp 96) = .pointer none := hd 25 96 (by kernel_rfl)
          clear hd hu
          have hcl := ixids_nil W
          go_simp
          refine hcl.mono ?_
          rintro _ w' ⟨rfl, rfl⟩
          exact ⟨_, rfl, HR.out _ _ (Below.refl _ _) rfl⟩
        case s27 =>
          refine Grow.step_on (g := 24) (b := true) (d := 95) (by rfl) (by rfl) (by rfl) (by kernel_rfl) (fun v W h => h) ?_
          intro E W ec eg ef hG hd hu R HR
          have e97 : E (.tmp 97) = .slice none 0 0 := hd 26 97 (by kernel_rfl)
          clear hd hu
          go_simp
          exact HR.out _ _ (Below.refl _ _) rfl
        case s28 =>
          refine Grow.step_on (g := 24) (b := true) (d := 95) (by rfl) (by rfl) (by rfl) (by kernel_rfl) (fun v W h => h) ?_
          intro E W ec eg ef hG hd hu R HR
          have e14 : E (.tmp 14) = .slice none 0 0 := hu 14 (by kernel_rfl)
          clear hd hu
          go_simp
          exact HR.out _ _ (Below.refl _ _) rfl
        case s29 =>
          refine Grow.step_on (g := 24) (b := true) (d := 95) (by rfl) (by rfl) (by rfl) (by kernel_rfl) (fun v W h => h) ?_
          intro E W ec eg ef hG hd hu R HR
          have e99 : E (.tmp 99) = .slice none 0 0 := hd 28 99 (by kernel_rfl)
          clear hd hu
          go_simp
          exact HR.out _ _ (Below.refl _ _) rfl
        case s30 =>
          refine Grow.step_on (g := 24) (b := true) (d := 95) (by rfl) (by rfl) (by rfl) (by kernel_rfl) (fun v W h => h) ?_
          intro E W ec eg ef hG hd hu R HR
          have e98 : E (.tmp 98) = .int .i64 0 := hd 27 98 (by kernel_rfl)
          have e100 : E (.tmp 100) = .int .i64 0 := hd 29 100 (by kernel_rfl)
          clear hd hu
          go_simp
          exact HR.out _ _ (Below.refl _ _) rfl
        case s31 =>
          refine Grow.step_on (g := 24) (b := true) (d := 95) (by rfl) (by rfl) (by rfl) (by kernel_rfl) (fun v W h => h) ?_
          intro E W ec eg ef hG hd hu R HR
          have e15 : E (.tmp 15) = .slice none 0 0 := hu 15 (by kernel_rfl)
          clear hd hu
          go_simp
          exact HR.out _ _ (Below.refl _ _) rfl
        case s32 =>
          refine Grow.step_on (g := 24) (b := true) (d := 95) (by rfl) (by rfl) (by rfl) (by kernel_rfl) (fun v W h => h) ?_
          intro E W ec eg ef hG hd hu R HR
          have e102 : E (.tmp 102) = .slice none 0 0 := hd 31 102 (by kernel_rfl)
          clear hd hu
          go_simp
          exact HR.out _ _ (Below.refl _ _) rfl
        case s33 =>
          refine Grow.step_on (g := 24) (b := true) (d := 95) (by rfl) (by rfl) (by rfl) (by kernel_rfl) (fun v W h => h) ?_
          intro E W ec eg ef hG hd hu R HR
          have e101 : E (.tmp 101) = .int .i64 0 := hd 30 101 (by kernel_rfl)
          have e103 : E (.tmp 103) = .int .i64 0 := hd 32 103 (by kernel_rfl)
          clear hd hu
          go_simp
          exact HR.out _ _ (Below.refl _ _) rfl
        case s34 =>
          refine Grow.step_on (g := 24) (b := true) (d := 95) (by rfl) (by rfl) (by rfl) (by kernel_rfl) (fun v W h => h) ?_
          intro E W ec eg ef hG hd hu R HR
          have e11 : E (.tmp 11) = .pointer none := hu 11 (by kernel_rfl)
          clear hd hu
          go_simp
          exact HR.out _ _ (Below.refl _ _) rfl
        case s35 =>
          refine Grow.step_on (g := 24) (b := true) (d := 95) (by rfl) (by rfl) (by rfl) (by kernel_rfl) (fun v W h => h) ?_
          intro E W ec eg ef hG hd hu R HR
          have e105 : E (.tmp 105) = .pointer none := hd 34 105 (by kernel_rfl)
          clear hd hu
          have hcl := ixput_nil W
          go_simp
          refine hcl.mono ?_
          rintro _ w' ⟨rfl, rfl⟩
          exact ⟨_, rfl, HR.out _ _ (Below.refl _ _) rfl⟩
        case s36 =>
          refine Grow.step_on (g := 24) (b := true) (d := 95) (by rfl) (by rfl) (by rfl) (by kernel_rfl) (fun v W h => h) ?_
          intro E W ec eg ef hG hd hu R HR
          have e106 : E (.tmp 106) = .slice none 0 0 := hd 35 106 (by kernel_rfl)
          clear hd hu
          go_simp
          exact HR.out _ _ (Below.refl _ _) rfl
        case s37 =>
          refine Grow.step_on (g := 24) (b := true) (d := 95) (by rfl) (by rfl) (by rfl) (by kernel_rfl) (fun v W h => h) ?_
          intro E W ec eg ef hG hd hu R HR
          have e104 : E (.tmp 104) = .int .i64 0 := hd 33 104 (by kernel_rfl)
          have e107 : E (.tmp 107) = .int .i64 0 := hd 36 107 (by kernel_rfl)
          clear hd hu
          go_simp
          exact HR.out _ _ (Below.refl _ _) rfl
        case s38 =>
          refine Grow.step_on (g := 24) (b := true) (d := 95) (by rfl) (by rfl) (by rfl) (by kernel_rfl) (fun v W h => h) ?_
          intro E W ec eg ef hG hd hu R HR
          have e108 : E (.tmp 108) = .int .i64 0 := hd 37 108 (by kernel_rfl)
          clear hd hu
          go_simp
          exact HR.out _ _ (Below.refl _ _) rfl
        case s39 =>
          refine Grow.step_in (by rfl) (by rfl) ?_
          intro E W ec eg ef hG hd hu R HR
          have e95 : E (.tmp 95) = .bool true := hd 24 95 (by kernel_rfl)
          have e109 : E (.tmp 109) = .bool true := hd 38 109 (by kernel_rfl)
          clear hd hu
          go_simp
          exact HR.out _ _ (Below.refl _ _) rfl
        case s40 =>
          refine Grow.step_in (by rfl) (by rfl) ?_
          intro E W ec eg ef hG hd hu R HR
          have e110 : E (.tmp 110) = .bool true := hd 39 110 (by kernel_rfl)
          clear hd hu
          go_simp
          exact HR.out _ _ (Below.refl _ _) rfl
      case gfin =>
        intro W hG
        refine Grow.fin_dst (by rfl) ?_
        rintro _ rfl
        refine Grow.fin_dst (by rfl) ?_
        rintro _ ⟨_, _, rfl, _⟩
        refine Grow.fin_dst (by rfl) ?_
        rintro _ rfl
        refine Grow.fin_dst (by rfl) ?_
        rintro _ rfl
        refine Grow.fin_dst (by rfl) ?_
        rintro _ ⟨_, _, rfl, _⟩
        refine Grow.fin_dst (by rfl) ?_
        rintro _ rfl
        refine Grow.fin_dst (by rfl) ?_
        rintro _ rfl
        refine Grow.fin_dst (by rfl) ?_
        rintro _ rfl
        refine Grow.fin_dst (by rfl) ?_
        rintro _ rfl
        refine Grow.fin_dst (by rfl) ?_
        rintro _ rfl
        refine Grow.fin_dst (by rfl) ?_
        rintro _ rfl
        refine Grow.fin_dst (by rfl) ?_
        rintro _ rfl
        refine Grow.fin_dst (by rfl) ?_
        rintro _ rfl
        refine Grow.fin_dst (by rfl) ?_
        rintro _ rfl
        refine Grow.fin_dst (by rfl) ?_
        rintro _ rfl
        refine Grow.fin_dst (by rfl) ?_
        rintro _ rfl
        refine Grow.fin_dst (by rfl) ?_
        rintro _ rfl
        refine Grow.fin_dst (by rfl) ?_
        rintro _ rfl
        refine Grow.fin_dst (by rfl) ?_
        rintro _ rfl
        refine Grow.fin_dst (by rfl) ?_
        rintro _ rfl
        refine Grow.fin_dst (by rfl) ?_
        rintro _ rfl
        refine Grow.fin_dst (by rfl) ?_
        rintro _ rfl
        refine Grow.fin_dst (by rfl) ?_
        rintro _ rfl
        refine Grow.fin_dst (by rfl) ?_
        rintro _ rfl
        refine Grow.fin_dst (by rfl) ?_
        rintro _ rfl
        refine Grow.fin_dst (by rfl) ?_
        rintro _ rfl
        refine Grow.fin_dst (by rfl) ?_
        rintro _ rfl
        refine Grow.fin_dst (by rfl) ?_
        rintro _ rfl
        refine Grow.fin_dst (by rfl) ?_
        rintro _ rfl
        refine Grow.fin_dst (by rfl) ?_
        rintro _ rfl
        refine Grow.fin_dst (by rfl) ?_
        rintro _ rfl
        refine Grow.fin_dst (by rfl) ?_
        rintro _ rfl
        refine Grow.fin_dst (by rfl) ?_
        rintro _ rfl
        refine Grow.fin_dst (by rfl) ?_
        rintro _ rfl
        refine Grow.fin_dst (by rfl) ?_
        rintro _ rfl
        refine Grow.fin_dst (by rfl) ?_
        rintro _ rfl
        refine Grow.fin_dst (by rfl) ?_
        rintro _ rfl
        refine Grow.fin_dst (by rfl) ?_
        rintro _ rfl
        refine Grow.fin_dst (by rfl) ?_
        rintro _ rfl
        refine Grow.fin_dst (by rfl) ?_
        rintro _ rfl
        refine Grow.fin_dst (by rfl) ?_
        rintro _ rfl
        simp only [Act.put, List.setIfInBounds_toArray, List.set_cons_zero, List.set_cons_succ]
        refine Grow.fin_end ?_
        have HF := Lib.hid (HD.out W hG).1
        clear hG
        go_wp2_with fail
        go_ret
        exact ⟨rfl, HF.out⟩
end Go.Proofs.Ytefhdeipeflfdaa

/-! The statement DedupOrder, proved: for every row of ids and every uint16 the law returns true. No condition. -/
namespace Go.Proofs.Ytefhdeipeflfdaa.dedupOrder
open Go.ChangeShapes Go.WideShapes Go.ChangeAt Go.RowKit
set_option linter.unusedVariables false

set_option maxRecDepth 100000 in
theorem lifted (os : Os) (started : os.Started) (H : Type) (enc : TypeId × Value → H) :
    ReturnsInHanded {} Try.checked os 5 .any (Rows.dedupOrderSpec.pre6 enc Try.prog Try.f5 Rows.dedupOrderRow.domain false) (Rows.dedupOrderSpec.post enc Try.prog Try.f5 false true false false) := by
  refine returnsInHanded_of_change (C := Try.checked) own_knob started (by kernel_rfl) Try.func5
    (ChangeSpec.witness6 (enc := enc) (C := Try.checked) false ⟨#[], #[.slice none 0 0, .int .u16 0], []⟩ 8 (by kernel_rfl) (by kernel_rfl) (by kernel_rfl) (by kernel_rfl)) ?_
  intro W base args ds gs before hval0 hW hcnd _
  have hval : ∀ (j : Nat) t v, Try.f5.params[j]? = some t → args[j]? = some v → Value.okWide Try.prog W .any base t v := hval0
  have hW' := hW
  obtain ⟨p, q, hA0, hV, rfl, hfz, hnd⟩ := hW
  have hA : DataW.TrodAll enc Try.prog W 0 (fun _ => true) true Try.f5.params.toList args.toList ds p := hA0
  rw [Try.params5] at hA hval
  obtain ⟨v0, vs0, d0, ds0, p0, q0, hargs, rfl, rfl, h0, r0⟩ := trodAll_cons hA
  obtain ⟨v1, vs1, d1, ds1, p1, q1, rfl, rfl, rfl, h1, r1⟩ := trodAll_cons r0
  obtain ⟨rfl, rfl, rfl⟩ := trodAll_nil r1
  obtain rfl : args = #[v0, v1] := by cases args; simp_all
  obtain ⟨rfl, rfl⟩ := trodVars_none hV
  obtain ⟨a0, len0, cap0, rfl⟩ := okWide_slice Try.underlying55 (hval 0 55 v0 rfl rfl)
  obtain ⟨l0, w0⟩ := (ids_in Try.underlying55 Try.underlying31 Try.underlying5 (by kernel_rfl) (by kernel_rfl)) rfl h0
  obtain ⟨a1, rfl, rfl, rfl, w1⟩ := open_int Try.underlying56 (hval 1 56 v1 rfl rfl) h1
  clear hA0 hval0
  refine (law_dorder w0 w1).mono fun e W' ⟨he, bel⟩ => ?_
  subst he
  exact ⟨_, rfl, _, _, _, [], _, [], hW', trodAll_mk1 (shut_bool Try.underlying4 _), (trodAll_cons_mk (Below.trod laid_out (by kernel_rfl) (of_decide_eq_true (by kernel_rfl)) h0 bel (trod_lt h0)) (trodAll_cons_mk (shut_int Try.underlying56 w1) trodAll_mk0)), rfl, bel.frame _, fun h => by cases h⟩

theorem proved : Rows.DedupOrderSaid :=
  OpenClaim.holds_of_wide 5 Try.f5 rfl rfl rfl rfl rfl rfl rfl ⟨rfl, rfl, rfl, rfl, rfl⟩ rfl rfl rfl rfl rfl (by kernel_rfl) Try.func5 (by kernel_rfl)
    (of_decide_eq_true (by kernel_rfl)) (by unfold Func.isWrapper; first | (rw [if_pos (by decide +kernel)]; kernel_rfl) | (rw [if_neg (by decide +kernel)]; exact ⟨rfl, rfl⟩))
    (fun os started H enc _ => lifted os started H enc)
#print axioms proved
end Go.Proofs.Ytefhdeipeflfdaa.dedupOrder
