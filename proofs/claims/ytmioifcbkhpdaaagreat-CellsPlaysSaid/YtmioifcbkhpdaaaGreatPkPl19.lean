/-
  Cells: the laws' modelOf.
-/
import Derived.Test.YtmioifcbkhpdaaaGreatPkPl16
import Derived.Test.YtmioifcbkhpdaaaGreatPkPl01
import Derived.Test.YtmioifcbkhpdaaaGreatPkPl12
import Derived.Test.YtmioifcbkhpdaaaGreatPkPl03
namespace Go.Proofs.YtmioifcbkhpdaaaGreat
set_option maxHeartbeats 16000000
set_option maxRecDepth 100000
open Go.RowKit Codec
def RrR1 (w : World) (q M N : Nat) (l0 : List UInt8) (v i : Value) (wr : World) : Prop :=
 ∃ (j : Nat) (acc : Tb) (l : List UInt8), i = .int .u64 (j : Int) ∧ j ≤ M ∧ raGo M [] [] l0 0 = raGo (M - j) acc ((acc.getLast?.map (·.1)).getD []) l 0 ∧ RrO w wr q l 0 v (tb2 acc) ∧ acc.length = j ∧ acc.length + l.length ≤ N
theorem rcread1_any (b : List UInt8) (hbl : b.length ≤ 900000) (w : World) :
    Calls Tryz.prog 32 #[.string (st b), .int .u64 1] w fun e w' => RrPost w ((raM b).map tb2) e w' := by
 have hui := ref_uint b 0 w;have hzr := cr_zero_r;have hzf := zero_cm;have HNB := Lib.hid hbl;obtain ⟨k0, hk0⟩ := sqz (uiX b 0);obtain ⟨e0, he0⟩ := sqz (uiE b 0);obtain ⟨l0, hl0⟩ := sqz (uiL b 0);have hl0n : l0.length ≤ b.length := by rw [hl0]; exact yK b 0
 have HGF : Hid (((raM b).map tb2) = if k0 ≠ 1 then none else (raEnd (raGo (uiX l0 e0) [] [] (uiL l0 e0) (uiE l0 e0))).map tb2) := Lib.hid (by rw [hk0, hl0, he0]; unfold raM; split <;> rfl);rw [← hk0, ← he0, ← hl0] at hui;clear hk0 he0 hl0 hbl
 go_enter Tryz.func32, Tryz.ntmps32
 go_upto_region 2 with (first
  | (go_at_call 59; refine hui.mono ?_; clear hui; rintro _ w1 ⟨m0, rfl, hm0, hb1⟩)
  | (refine zl 6 17 (crv m0 e0) (heap_alloc_new w1 _) yI (by rfl) (crv_one _ _) ?_))
 have H2 : Hid (RrO w ((w1.alloc (.cells #[.string ⟨#[]⟩, .int .i64 0] 126)).setRow w1.heap.size (crv m0 e0)) w1.heap.size m0 e0 (.slice none 0 0) []) :=
  Lib.hid ⟨hb1.size, zF (heap_alloc_new w1 _), World.ownsRow_nil _ _ _ _, zD (hb1.alloc hb1.size _) hb1.size _⟩
 obtain ⟨a1, a2, a3⟩ := cr_like_ui (l := l0) (m := m0) (e := e0) hm0;clear hm0 hb1 hzr;obtain ⟨q, hq⟩ := sqz w1.heap.size;rw [← hq] at H2 ⊢
 generalize (w1.alloc (.cells #[.string ⟨#[]⟩, .int .i64 0] 126)).setRow q (crv m0 e0) = w2 at *
 clear hq;have hui2 := ref_uint m0 e0 w2;obtain ⟨M, hM⟩ := sqz (uiX l0 e0);obtain ⟨e1, he1⟩ := sqz (uiE l0 e0);obtain ⟨l1, hl1⟩ := sqz (uiL l0 e0);have hMlt : M < 18446744073709551616 := by rw [hM]; exact uiX_lt _ _
 have HLN : Hid (l1.length ≤ b.length ∧ M < 18446744073709551616) := Lib.hid ⟨by rw [hl1]; have := yK l0 e0; omega, hMlt⟩;rw [a1, a2, ← hM, ← he1] at hui2;rw [← hM, ← he1, ← hl1] at HGF;have HA3 : Hid (e1 = 0 → uiL m0 e0 = l1) := Lib.hid fun h => by rw [hl1]; exact a3 (by rw [← he1]; exact h)
 clear a1 a2 a3 hM he1 hl1 hMlt hl0n
 go_upto_region 3 with (first
  | (refine yA 6 H2.out.row Tryz.underlying126 yI ?_)
  | (go_at_call 59; refine hui2.mono ?_; clear hui2; rintro _ w3 ⟨m1, rfl, hm1, hb3⟩; have H3 := Lib.hid (H2.out.later hb3); clear hb3)
  | (refine zl 6 22 (crv m1 e1) H3.out.row yI (by rfl) (crv_one _ _) ?_))
 have H4 := Lib.hid (H3.out.setr m1 e1);have HM1 : Hid (e1 = 0 → m1 = l1) := Lib.hid fun h => (hm1 h).trans (HA3.out h)
 clear H2 H3 hm1 HA3
 generalize w3.setRow q (crv m1 e1) = w4 at *
 have hc1 := H4.out.cell1
 by_cases he : ¬ e1 = 0
 ·have hne : (e1 != 0) = true := by simpa using he
  have HR : Hid (((raM b).map tb2) = none) := Lib.hid (by
   rw [HGF.out]
   split
   ·rfl
   ·rw [raGo_bad he]; rfl)
  clear he
  go_wp2_with fail
  go_ret2
  exact yH HR.out H4.out.bel
 obtain rfl : e1 = 0 := Classical.not_not.1 he;obtain rfl : m1 = l1 := HM1.out rfl;clear he HM1
 by_cases hk : ¬ k0 = 1
 ·have hkne : ((k0 : Int) != 1) = true := by simp; omega
  have HR : Hid (((raM b).map tb2) = none) := Lib.hid (by rw [HGF.out, if_pos hk]);clear hk
  go_wp2_with fail
  go_ret2
  exact yH HR.out H4.out.bel
 have hkne : ((k0 : Int) != 1) = false := by rw [Classical.not_not.1 hk]; rfl
 have HG : Hid (((raM b).map tb2) = (raEnd (raGo M [] [] m1 0)).map tb2) := Lib.hid (by rw [HGF.out, if_neg hk]);clear hk HGF;have H0 : Hid (RrR1 w q M b.length m1 (.slice none 0 0) (.int .u64 0) w4) := Lib.hid ⟨0, [], m1, rfl, Nat.zero_le _, rfl, H4.out, rfl, by simpa using HLN.out.1⟩
 go_upto_region 7 with fail
 clear hc1 hkne
 go_loopw [9, 10] (fun v i wr => RrR1 w q M b.length m1 v i wr) (fun _ i _ => M - (intOf i).toNat)
 case atStart => exact H0.out
 case round =>
  obtain ⟨j, acc, l, rfl, hj, hgo, hO, hac, hlen⟩ := hrel;clear H0 H4;have HO := Lib.hid hO;have hc1 := HO.out.cell1;have HGO := sq3 hgo hac hlen;clear hO hgo hac hlen
  by_cases hlt : j < M
  ·(have hlt' : (j : Int) < (M : Int) := by omega);have hadd : IntKind.u64.wrap ((j : Int) + 1) = (j : Int) + 1 := IntWalk.u64_in _ (by have := HLN.out.2; omega);obtain ⟨Av, cv, hv, hcms⟩ := xC HO.out.own;subst hv;have HCM := Lib.hid hcms;have H5 := Lib.hid HO.out.file;have HLT := Lib.hid hlt;clear hlt hj hcms
   go_upto_region 10 with fail
   clear hc1;obtain ⟨x0, hx0⟩ := sqz wr.heap.size;rw [← hx0] at H5 ⊢;have hbw5 : Below wr.heap.size wr (wr.alloc (.cells #[.string ⟨#[]⟩, .string ⟨#[]⟩, .bool false] 95)) := (Below.refl _ _).alloc (Nat.le_refl _) _;have HBW5 := Lib.hid hbw5;clear hbw5
   (generalize wr.alloc (.cells #[.string ⟨#[]⟩, .string ⟨#[]⟩, .bool false] 95) = w5 at *);clear hx0;have hby := ref_bytes l 0 64 w5 (by decide);obtain ⟨K, hK⟩ := sqz (byB l 0 64);obtain ⟨l2, hl2⟩ := sqz (byL l 0 64);obtain ⟨e2, he2⟩ := sqz (byE l 0 64);rw [← hK, ← hl2, ← he2] at hby
   have HEQ := sq3 hK hl2 he2;clear hK hl2 he2
   go_upto_region 11 with (first
    | (refine yA 6 H5.out.o.row Tryz.underlying126 yI ?_)
    | (go_at_call 60; refine hby.mono ?_; clear hby; rintro _ w6 ⟨m2, rfl, hm2, hb6⟩; rw [cr_strB]; have H6 := Lib.hid (H5.out.later hb6); have H6s := Lib.hid (H6.out.setr m2 e2); have hc0 := zA H6s.out.frow 0; have hf0 := zC H6s.out.frow 0; have HB6 := Lib.hid hb6; clear hb6)
    | (refine zl 6 45 (crv m2 e2) H6.out.o.row yI (by rfl) (crv_one _ _) ?_))
   have H7 := Lib.hid (H6s.out.setc 0 (.string (st K)) (F' := ⟨K, [], false⟩) (by rfl));have HM2 := Lib.hid hm2;clear hc0 hf0 H6 H6s H5 hm2
   (generalize (w6.setRow q (crv m2 e2)).setCell ⟨x0, 0, none⟩ (.string (st K)) = w7 at *);have hc2 : w7.cell? ⟨x0, 2, none⟩ = some (.bool false) := zA H7.out.frow 2;have hby2 := ref_bytes m2 e2 4096 w7 (by decide);obtain ⟨a1, a2, a3⟩ := cr_like_by (l := l2) (m := m2) (e := e2) 4096 HM2.out;obtain ⟨V, hV⟩ := sqz (byB l2 e2 4096);obtain ⟨l4, hl4⟩ := sqz (byL l2 e2 4096);obtain ⟨e4, he4⟩ := sqz (byE l2 e2 4096);rw [a1, a2, ← hV, ← he4] at hby2;(have HA3 : Hid (e4 = 0 → byL m2 e2 4096 = l4) := Lib.hid fun h => by rw [hl4]; exact a3 (by rw [← he4]; exact h));(obtain ⟨X, hX⟩ : ∃ X : Ch, X = ⟨K, V, false⟩ := ⟨_, rfl⟩);have HN := Lib.hid (fun m => ra_next (m := m) (t := acc) (last := (acc.getLast?.map (·.1)).getD []) HEQ.out ⟨hV, hl4, he4⟩ hX);have HXE := Lib.hid hX;clear hV hl4 he4 a1 a2 a3 HM2 hX
   go_upto_region 15 with (first
    | (refine yA 6 H7.out.o.row Tryz.underlying126 yI ?_)
    | (go_at_call 60; refine hby2.mono ?_; clear hby2; rintro _ wa ⟨m4, rfl, hm4, hba⟩; rw [cr_strB]; have Ha := Lib.hid (H7.out.later hba); have Has := Lib.hid (Ha.out.setr m4 e4); have hc1 := zA Has.out.frow 1; have hf1 := zC Has.out.frow 1; have HBA := Lib.hid hba; clear hba)
    | (refine zl 6 62 (crv m4 e4) Ha.out.o.row yI (by rfl) (crv_one _ _) ?_))
   have HX := Lib.hid (Has.out.setc 1 (.string (st V)) (F' := ⟨K, V, false⟩) (by rfl));(have HM4 : Hid (e4 = 0 → m4 = l4) := Lib.hid fun h => (hm4 h).trans (HA3.out h));clear hc1 hf1 hc2 Ha Has H7 hm4 HA3
   (generalize (wa.setRow q (crv m4 e4)).setCell ⟨x0, 1, none⟩ (.string (st V)) = wx at *);rw [← HXE.out] at HX;have hmb := xG X wx;obtain ⟨CX, hCX⟩ := sqz (cmV X);rw [← hCX] at hmb;have HCX := Lib.hid hCX;have HFR := Lib.hid (show wx.heap[x0]? = some (.cells CX 95 (0, 0)) by rw [hCX]; exact HX.out.frow);obtain ⟨Y, hY⟩ := sqz (zq X);rw [← hY] at hmb HN;have HMY := Lib.hid hY;clear hCX hY
   go_upto_region 16 with (first
    | (refine yA 11 HFR.out Tryz.underlying95 (by rw [HCX.out]; exact xN) ?_)
    | (go_at_call 38; refine hmb.mono ?_; clear hmb; rintro _ w12 ⟨rfl, hb12⟩; have H12 := Lib.hid (HX.out.later hb12); clear hb12))
   have hc1 := H12.out.o.cell1
   by_cases h4 : ¬ e4 = 0
   ·have hne : (e4 != 0) = true := by simpa using h4
    have HR : Hid ((raM b).map tb2 = none) := Lib.hid (by
     rw [HG.out, HGO.out.1, show M - j = (M - (j + 1)) + 1 by have := HLT.out; omega];rw [(HN.out _).1 (.inl h4)]; rfl)
    clear h4
    go_quiet (fail)
    go_wp2_with fail
    go_ret2
    exact yH HR.out (yW H12.out.o.bel _)
   obtain rfl : e4 = 0 := Classical.not_not.1 h4;obtain rfl : m4 = l4 := HM4.out rfl;clear h4
   cases hYc : Y with
   | false =>
     subst hYc
     have HR : Hid ((raM b).map tb2 = none) := Lib.hid (by
      rw [HG.out, HGO.out.1, show M - j = (M - (j + 1)) + 1 by have := HLT.out; omega];rw [(HN.out _).1 (.inr (.inl rfl))]; rfl)
     go_quiet (fail)
     go_wp2_with fail
     go_ret2
     exact yH HR.out (yW H12.out.o.bel _)
   | true =>
     subst hYc;have HMAY : Hid (zq X = true) := Lib.hid HMY.out.symm;have hk0 : w12.cell? ⟨x0, 0, none⟩ = some (.string (st X.k)) := zA H12.out.frow 0
     by_cases hj0 : (0 : Int) < (j : Int)
     ·obtain ⟨bq, bo, px, hpA, hpS, hpb, hpx, hpc, _, _⟩ := (xC H12.out.o.own).choose_spec.choose_spec.2.at_ (i := j - 1) (by have := HGO.out.2.1; have := tb2_len acc; omega);have hsl := (xC H12.out.o.own).choose_spec.choose_spec.1
      obtain rfl : Av = some ⟨bq, bo, none⟩ := by
       have h1 := hsl;(injection h1 with h1 _ _);rw [h1, hpA]
      have hlast : ((acc.getLast?.map (·.1)).getD [] : List UInt8) = px.k := by
       have h1 := tb2_at hpx;rw [List.getLast?_eq_getElem?, HGO.out.2.1, h1];rfl
      (have hsub : IntKind.u64.wrap ((j : Int) - 1) = ((j - 1 : Nat) : Int) := by rw [IntWalk.u64_in _ (by have := HLN.out.2; have := HLT.out; omega)]; omega);(have hin : ((j - 1 : Nat) : Int) < ((tb2 acc).length : Int) := by have := HGO.out.2.1; have := tb2_len acc; omega);(have hjB : 0 < j := by omega);have hjC : decide (0 < j) = true := decide_eq_true hjB;have hge := cr_run_geq 9 px.k X.k;have HLA := Lib.hid hlast;clear hpA hpS hpb hpx hsl hlast
      by_cases hle : px.k < X.k
      ·rw [decide_eq_true hle] at hge;simp only [Bool.not_true] at hge;have HKN : Hid (¬ X.k ≤ (acc.getLast?.map (·.1)).getD []) := Lib.hid (by rw [HLA.out]; exact List.not_le.2 hle);clear hle
       go_quiet (fail)
       go_upto_region 18 with fail
       have H13 := Lib.hid (H12.out.later (yW (Below.refl _ _) nq))
       (generalize w12.drewN nq = wz at *);have HFZ : Hid (wz.heap[x0]? = some (.cells #[.string (st X.k), .string (st X.v), .bool X.g] 95 (0, 0))) := Lib.hid H13.out.frow;have hb14 : Below wz.heap.size wz (wz.alloc (.cells #[.string (st X.k), .string (st X.v), .bool X.g] 95)) := (Below.refl _ _).alloc (Nat.le_refl _) _
       obtain ⟨A15, c15, w15, hap, hown15, hb15⟩ := yz (m := [X]) (n2 := 1) (c2 := 1) (a := ⟨wz.heap.size, 0, none⟩) (H13.out.o.later hb14).own (by have h1 := zB H13.out.o.row; have h2 := hb14.size; omega) rfl (fun o u hu => by
        rw [zK, Nat.zero_add, zA (heap_alloc_new wz _)]
        simpa [yB, cmV] using hu) (by have h1 := HGO.out.2.2; have h2 := HNB.out; have h3 := tb2_len acc; omega) 36
       have H15 : Hid (RrO w w15 q m4 0 (.slice A15 (tb2 acc ++ [X]).length c15) (tb2 acc ++ [X])) := Lib.hid ⟨H13.out.o.qw, (hb15.block q (by omega)).trans (H13.out.o.later hb14).row, hown15, (H13.out.o.later hb14).bel.trans (hb15.mono (by have := H13.out.o.qw; omega))⟩;have HN0 := Lib.hid ((HN.out (M - (j + 1))).2 rfl HKN.out);clear hb14 hown15 hb15 hc1 HN HM4
       go_wp2_with (first
        | (refine yA 11 HFZ.out Tryz.underlying95 xN ?_)
        | (at_builtin; refine zh (by rfl) (.tmp 93) (.tmp 95) 36 (by rfl) (by rfl) (by rfl) hap ?_))
       go_roundw
       case rel =>
        have h1 := HLT.out;have h2 := HGO.out;have h3 := HN0.out;exact ⟨j + 1, acc ++ [(X.k, X.v)], m4, by simp, by omega, by rw [h2.1, show M - j = (M - (j + 1)) + 1 by omega, cr_last]; exact h3.1, (by have h4 := H15.out; rw [List.length_append, List.length_singleton] at h4; rw [tb2_snoc (X := X) (by rw [HXE.out])]; exact h4), by rw [List.length_append, List.length_singleton, h2.2.1], by rw [List.length_append, List.length_singleton]; omega⟩
       case measure => have := HLT.out; simp only [intOf]; omega
      ·rw [decide_eq_false hle] at hge;simp only [Bool.not_false] at hge
       have HR : Hid ((raM b).map tb2 = none) := Lib.hid (by
        rw [HG.out, HGO.out.1, show M - j = (M - (j + 1)) + 1 by have := HLT.out; omega];rw [(HN.out _).1 (.inr (.inr (by rw [HLA.out]; exact List.not_lt.1 hle)))];rfl)
       clear hle
       go_quiet (fail)
       go_wp2_with fail
       go_ret2
       exact yH HR.out (yW H12.out.o.bel _)
     ·(have hjB : ¬ 0 < j := by omega);have hjC : decide (0 < j) = false := decide_eq_false hjB
      have hKne : ¬ X.k ≤ (acc.getLast?.map (·.1)).getD [] := by
       have h1 := HMAY.out;have h2 : acc = [] := List.eq_nil_of_length_eq_zero (by have := HGO.out.2.1; omega);rw [h2];intro h3;have h4 : X.k = [] := List.le_antisymm h3 (List.nil_le _);have h5 := may_small h1;rw [h4] at h5;simp at h5
      have HKN := Lib.hid hKne;clear hKne
      go_quiet (fail)
      go_upto_region 18 with fail
      have H13 := Lib.hid (H12.out.later (yW (Below.refl _ _) nq))
      (generalize w12.drewN nq = wz at *);have HFZ : Hid (wz.heap[x0]? = some (.cells #[.string (st X.k), .string (st X.v), .bool X.g] 95 (0, 0))) := Lib.hid H13.out.frow;have hb14 : Below wz.heap.size wz (wz.alloc (.cells #[.string (st X.k), .string (st X.v), .bool X.g] 95)) := (Below.refl _ _).alloc (Nat.le_refl _) _
      obtain ⟨A15, c15, w15, hap, hown15, hb15⟩ := yz (m := [X]) (n2 := 1) (c2 := 1) (a := ⟨wz.heap.size, 0, none⟩) (H13.out.o.later hb14).own (by have h1 := zB H13.out.o.row; have h2 := hb14.size; omega) rfl (fun o u hu => by
       rw [zK, Nat.zero_add, zA (heap_alloc_new wz _)]
       simpa [yB, cmV] using hu) (by have h1 := HGO.out.2.2; have h2 := HNB.out; have h3 := tb2_len acc; omega) 36
      have H15 : Hid (RrO w w15 q m4 0 (.slice A15 (tb2 acc ++ [X]).length c15) (tb2 acc ++ [X])) := Lib.hid ⟨H13.out.o.qw, (hb15.block q (by omega)).trans (H13.out.o.later hb14).row, hown15, (H13.out.o.later hb14).bel.trans (hb15.mono (by have := H13.out.o.qw; omega))⟩;have HN0 := Lib.hid ((HN.out (M - (j + 1))).2 rfl HKN.out);clear hb14 hown15 hb15 hc1 HN HM4
      go_wp2_with (first
       | (refine yA 11 HFZ.out Tryz.underlying95 xN ?_)
       | (at_builtin; refine zh (by rfl) (.tmp 93) (.tmp 95) 36 (by rfl) (by rfl) (by rfl) hap ?_))
      go_roundw
      case rel =>
       have h1 := HLT.out;have h2 := HGO.out;have h3 := HN0.out;exact ⟨j + 1, acc ++ [(X.k, X.v)], m4, by simp, by omega, by rw [h2.1, show M - j = (M - (j + 1)) + 1 by omega, cr_last]; exact h3.1, (by have h4 := H15.out; rw [List.length_append, List.length_singleton] at h4; rw [tb2_snoc (X := X) (by rw [HXE.out])]; exact h4), by rw [List.length_append, List.length_singleton, h2.2.1], by rw [List.length_append, List.length_singleton]; omega⟩
      case measure => have := HLT.out; simp only [intOf]; omega
  ·(have hlt' : ¬ (j : Int) < (M : Int) := by omega);have HF : Hid (((raM b).map tb2) = (if endE l 0 = 0 then some acc else none).map tb2) := Lib.hid (by rw [HG.out, HGO.out.1, show M - j = 0 by omega]; rfl);obtain ⟨Av, cv, hv, hcms⟩ := xC HO.out.own;have HCM := Lib.hid (hcms.mono (T := (w.heap.size ≤ ·)) fun k _ h => by have h1 := HO.out.qw; have h2 : q + 1 ≤ k := h; omega);subst hv;have hen := ref_end l 0 wr;clear hlt hj hcms
   by_cases h0 : endE l 0 = 0
   ·rw [h0] at hen;have HR : Hid (((raM b).map tb2) = some (tb2 acc)) := Lib.hid (by rw [HF.out, if_pos h0]; rfl);clear h0;obtain ⟨NA, hNA⟩ := sqz (List.length (tb2 acc));rw [← hNA];have HNA := Lib.hid hNA;clear hNA
    go_wp2_with (first
     | (refine yA 6 HO.out.row Tryz.underlying126 yI ?_)
     | (go_at_call 62; refine hen.mono ?_; clear hen; rintro _ w9 ⟨rfl, hb9⟩))
    go_ret2
    unfold RrPost;rw [HR.out];exact ⟨⟨Av, cv, by rw [← HNA.out]; rfl, HCM.out.below hb9⟩, HO.out.bel.trans (hb9.mono HO.out.bel.size)⟩
   ·have HR : Hid (((raM b).map tb2) = none) := Lib.hid (by rw [HF.out, if_neg h0]; rfl);(have he0 : (endE l 0 == 0) = false := by simpa using h0);obtain ⟨E, hE⟩ := sqz (endE l 0);rw [← hE] at hen he0;clear h0 hE
    go_wp2_with (first
     | (refine yA 6 HO.out.row Tryz.underlying126 yI ?_)
     | (go_at_call 62; refine hen.mono ?_; clear hen; rintro _ w9 ⟨rfl, hb9⟩))
    go_ret2
    exact yH HR.out (HO.out.bel.trans (hb9.mono HO.out.bel.size))
end Go.Proofs.YtmioifcbkhpdaaaGreat
set_option maxHeartbeats 16000000
set_option maxRecDepth 100000
namespace Go.Proofs.YtmioifcbkhpdaaaGreat
open Go.RowKit
namespace Grow
def pairB (ops : Array Oper) : Bool := ((List.range (ops.size - 2)).all fun j => (List.range (ops.size - 1)).any fun k => decide (j < k) && waitsB ops k j) && waitsB ops (ops.size - 1) (ops.size - 2)
theorem pairB_spec {ops : Array Oper} (h : pairB ops = true) : (∀ j, j < ops.size - 2 → ∃ k, j < k ∧ k < ops.size - 1 ∧ waitsB ops k j = true) ∧ waitsB ops (ops.size - 1) (ops.size - 2) = true := by
 unfold pairB at h;rw [Bool.and_eq_true] at h;refine ⟨fun j hj => ?_, h.2⟩;obtain ⟨k, hk, hkb⟩ := List.any_eq_true.1 (List.all_eq_true.1 h.1 j (List.mem_range.2 hj));simp only [Bool.and_eq_true, decide_eq_true_eq] at hkb;exact ⟨k, hkb.1, List.mem_range.1 hk, hkb.2⟩
theorem waitsB_spec {ops : Array Oper} {k j : Nat} {o : Oper} (h : waitsB ops k j = true) (ho : ops[k]? = some o) : ∃ e ∈ o.after, Region.binds .any e = true ∧ e.on = j := by
 unfold waitsB at h;rw [ho] at h;obtain ⟨e, he, hb⟩ := Array.any_eq_true'.1 h;simp only [Bool.and_eq_true, beq_iff_eq] at hb;exact ⟨e, he, hb.1, hb.2⟩
section
variable {P : Program} {ops : Array Oper} {Q : Exit → Act → World → Prop} {G : World → World → Prop} {Φ : Nat → Value → World → Prop} {a0 : Act} {w0 : World} {F : Fence} {nr : Nat}
theorem any_of_invP (hF : Open F nr P) {n : Nat} (hnd : noDefer ops = true) (hB : growB ops n = true) (hL : pairB ops = true) (hn : a0.tmps.size = n) (htr : ∀ A B C, G A B → G B C → G A C) (hmono : ∀ j v W W', Φ j v W → G W W' → Φ j v W') (hrefl : ∀ W, G W W)
    {front : List Oper} {oy oz : Oper} (hsp : ops.toList = front ++ [oy, oz]) (hgy : oy.guard = none) (hgz : oz.guard = none)
    (hs : ∀ i, i < front.length → GStep P ops G Φ a0 w0 i) (hfin : ∀ W, G w0 W → fin Φ (fun _ a w => oy.wpIn F nr P a w (fun a' w' => oz.wpIn F nr P a' w' (fun a'' w'' => Q .normal a'' w'') Q) Q) W front 0 a0) :
    ∀ (fuel : Nat) (listed : Array Bool) (a : Act) (w : World), Inv ops G Φ a0 w0 listed a w → listed.getD front.length true = false → listed.toList.count false ≤ fuel → wpAnyIn F nr P .any ops Q fuel listed a w := by
 have hsz : ops.size = front.length + 2 := by
  rw [← Array.length_toList, hsp];simp
 have hoy : ops[front.length]? = some oy := by
  rw [← Array.getElem?_toList, hsp];simp
 have hoz : ops[front.length + 1]? = some oz := by
  rw [← Array.getElem?_toList, hsp, List.getElem?_append_right (by omega)];simp
 obtain ⟨hL1, hL2⟩ := pairB_spec hL;have e1 : ops.size - 1 = front.length + 1 := by omega
 have e2 : ops.size - 2 = front.length := by omega
 rw [e1, e2] at hL2;rw [e1, e2] at hL1;intro fuel
 induction fuel with
 | zero =>
   intro listed a w hI hz hc;have := count_set hz;omega
 | succ fuel ih =>
   intro listed a w hI hz hc;refine ⟨fun hr => ?_, fun i hi => ?_⟩
   ·have hall := all_of_ready hB hI.lsize hr front.length (by omega);obtain ⟨h1, _⟩ := yk hz;rw [hall] at h1
    cases h1
   obtain ⟨h1, o, ho, hall⟩ := mem_ready.1 hi;have hz1 := (yk hz).1
   have hlast : listed.getD (front.length + 1) false = false := by
    cases hq : listed.getD (front.length + 1) false with
    | false => rfl
    | true =>
      obtain ⟨e, he, hb, hon⟩ := waitsB_spec hL2 hoz;have := hI.closed _ oz hoz hq e he hb;rw [hon, hz1] at this
      cases this
   by_cases hiz : i = front.length
   ·subst hiz
    have hlt : ∀ d j, j < front.length → front.length - j ≤ d → listed.getD j false = true := by
     intro d
     induction d with
     | zero => intro j hj hd; omega
     | succ d ihd =>
       intro j hj hd;obtain ⟨k, hjk, hk, hw⟩ := hL1 j hj
       by_cases hkz : k = front.length
       ·subst hkz;obtain ⟨e, he, hb, hon⟩ := waitsB_spec hw hoy;(obtain rfl : o = oy := by rw [ho] at hoy; exact Option.some.inj hoy);exact hon ▸ hall e he hb
       ·have hkl := ihd k (by omega) (by omega)
        cases hok : ops[k]? with
        | none => unfold waitsB at hw; rw [hok] at hw; cases hw
        | some ok =>
          obtain ⟨e, he, hb, hon⟩ := waitsB_spec hw hok;exact hon ▸ hI.closed k ok hok hkl e he hb
    have hq := front_done (Q := fun _ a w => oy.wpIn F nr P a w (fun a' w' => oz.wpIn F nr P a' w' (fun a'' w'' => Q .normal a'' w'') Q) Q) (m := front.length) hB hn hI hsp rfl (fun j hj => hlt _ j hj (Nat.le_refl _)) (fun j hj => by
     rcases Nat.lt_or_ge j ops.size with h | h
     ·by_cases hj2 : j = front.length
      ·subst hj2; exact hz1
      ·(obtain rfl : j = front.length + 1 := by omega);exact hlast
     ·rw [Array.getD_eq_getD_getElem?, Array.getElem?_eq_none (by rw [hI.lsize]; exact h)];rfl) (hfin w hI.grow)
    have hop : wpOpIn F nr P ops Q front.length (fun a' w' => oz.wpIn F nr P a' w' (fun a'' w'' => Q .normal a'' w'') Q) a w := by
     unfold wpOpIn;rw [hoy];show if Region.wanted oy (yielded ops a.tmps) = true then _ else _
     rw [if_pos (by unfold Region.wanted; rw [hgy])];exact hq
    refine wpOpIn_mono ?_ hop;intro a' w' hQ;(have hsz2 : (listed.setIfInBounds front.length true).size = ops.size := by simpa using hI.lsize);have hz2 : (listed.setIfInBounds front.length true).getD (front.length + 1) false = false := by rw [yD (by omega)]; exact hlast
    cases fuel with
    | zero =>
      have h2 := count_set h1
      have h3 : (listed.setIfInBounds front.length true).getD (front.length + 1) true = false := by
       rw [Array.getD_eq_getD_getElem?, Array.getElem?_eq_getElem (by rw [hsz2]; omega)] at hz2 ⊢;exact hz2
      have := count_set h3;omega
    | succ fuel =>
      refine ⟨fun hr => ?_, fun k hk => ?_⟩
      ·have := all_of_ready hB hsz2 hr (front.length + 1) (by omega);rw [hz2] at this
       cases this
      ·obtain ⟨hun, ok, hok, _⟩ := mem_ready.1 hk;obtain ⟨hun, hkl⟩ := yk hun;have hks := (Array.getElem?_eq_some_iff.1 hok).1
       have hkz : k = front.length + 1 := by
        by_cases hkf : k = front.length
        ·subst hkf;rw [ye (by rw [hI.lsize]; omega)] at hun
         cases hun
        ·by_cases hkl : k < front.length
         ·rw [yD (fun e => hkf e.symm), hlt _ k hkl (Nat.le_refl _)] at hun
          cases hun
         ·omega
       subst hkz
       have hop2 : wpOpIn F nr P ops Q (front.length + 1) (fun a' w' => Q .normal a' w') a' w' := by
        unfold wpOpIn;rw [hoz];show if Region.wanted oz (yielded ops a'.tmps) = true then _ else _
        rw [if_pos (by unfold Region.wanted; rw [hgz])];exact hQ
       refine wpOpIn_mono ?_ hop2;intro a'' w'' hQ2
       have hr : Region.ready .any ops ((listed.setIfInBounds front.length true).setIfInBounds (front.length + 1) true) = [] := by
        rw [List.eq_nil_iff_forall_not_mem];intro k hk;obtain ⟨hun, ok, hok, _⟩ := mem_ready.1 hk;obtain ⟨hun, hkl⟩ := yk hun;have hks := (Array.getElem?_eq_some_iff.1 hok).1
        by_cases hkz : k = front.length + 1
        ·subst hkz;rw [ye (by rw [hsz2]; omega)] at hun
         cases hun
        ·rw [yD (fun e => hkz e.symm)] at hun
         by_cases hkf : k = front.length
         ·subst hkf;rw [ye (by rw [hI.lsize]; omega)] at hun
          cases hun
         ·rw [yD (fun e => hkf e.symm), hlt _ k (by omega) (Nat.le_refl _)] at hun
          cases hun
       cases fuel with
       | zero => exact ⟨hr, hQ2⟩
       | succ fuel => exact ⟨fun _ => hQ2, fun k hk => by rw [hr] at hk; cases hk⟩
   ·have hlt : i < front.length := by
      have h5 := (Array.getElem?_eq_some_iff.1 ho).1
      by_cases h6 : i = front.length + 1
      ·subst h6;obtain ⟨e, he, hb, hon⟩ := waitsB_spec hL2 ho;have := hall e he hb;rw [hon, hz1] at this
       cases this
      ·omega
    refine wpOpIn_mono ?_ (step_invF hF hnd hB hn htr hmono hrefl hI hi (hs i hlt));intro a' w' hI';refine ih _ a' w' hI' ?_ (by have := count_set h1; omega);rw [Array.getD_eq_getD_getElem?, Array.getElem?_setIfInBounds_ne hiz, ← Array.getD_eq_getD_getElem?];exact hz
end
end Grow
section
variable {P : Program} {ops : Array Oper} {Q : Exit → Act → World → Prop} {F : Fence} {nr id : Nat} {a : Act} {w : World}
theorem wpIn_region_growP (hF : Grow.Open F nr P) (G : World → World → Prop) (Φ : Nat → Value → World → Prop) (n : Nat) (hm : P.follows .mixedOrders = true) (hnd : Grow.noDefer ops = true)
    (hB : Grow.growB ops n = true) (hL : Grow.pairB ops = true) (hn : a.tmps.size = n) (hrefl : ∀ W, G W W) (htr : ∀ A B C, G A B → G B C → G A C) (hmono : ∀ j v W W', Φ j v W → G W W' → Φ j v W')
    (k : Nat) {oy oz : Oper} (hsz : ops.size = k + 2) (hoy : ops.toList[k]? = some oy) (hoz : ops.toList[k + 1]? = some oz) (hgy : oy.guard = none) (hgz : oz.guard = none)
    (hs : Grow.allBelow (Grow.GStep P ops G Φ a w.drew) k) (hfin : ∀ W, G w.drew W → Grow.fin Φ (fun _ a w => oy.wpIn F nr P a w (fun a' w' => oz.wpIn F nr P a' w' (fun a'' w'' => Q .normal a'' w'') Q) Q) W (ops.toList.take k) 0 a) : (Code.region id ops true).wpIn F nr P Q a w := by
 obtain ⟨hk, he⟩ := List.getElem?_eq_some_iff.1 hoy;obtain ⟨hk2, he2⟩ := List.getElem?_eq_some_iff.1 hoz
 have hsp : ops.toList = ops.toList.take k ++ [oy, oz] := by
  apply List.ext_getElem?;intro i;have hl : (ops.toList.take k).length = k := by rw [List.length_take, Array.length_toList]; omega
  by_cases h1 : i < k
  ·rw [List.getElem?_append_left (by omega), List.getElem?_take_of_lt h1]
  ·rw [List.getElem?_append_right (by omega), hl]
   by_cases h2 : i = k
   ·subst h2; rw [hoy]; simp
   ·by_cases h3 : i = k + 1
    ·subst h3; rw [hoz]; simp
    ·rw [List.getElem?_eq_none (by rw [Array.length_toList]; omega), List.getElem?_eq_none (by simp; omega)]
 have hfl : (ops.toList.take k).length = k := by rw [List.length_take, Array.length_toList]; omega
 rw [← hfl] at hs;exact wpIn_region_any hm (Grow.any_of_invP hF hnd hB hL hn htr hmono hrefl hsp hgy hgz (Grow.allBelow_at hs) hfin ops.size _ a _ (inv_start (hrefl _)) (by rw [hfl]; simp [hsz]) (by simp))
end
theorem operIn_app {F : Fence} {n : Nat} {P : Program} {o : Oper} {a : Act} {K : Act → World → Prop} {Q : Exit → Act → World → Prop} {w w' : World} (s x : Operand) (t : TypeId)
    (hop : o.op = .call { callee := .builtin .append, args := #[s, x], argTypes := #[t, t] }) {v u v' : Value} (hs : a.eval s = v) (hx : a.eval x = u)
    (hrun : (Builtin.append_ #[t, t] o.type #[v, u]).run P w = .ok v' w') (h : K (a.put o.dst v') w') : o.wpIn F n P a w K Q := by
 unfold Oper.wpIn;refine ⟨?_, ?_⟩
 ·simp [Oper.about, hop, resolve, Target.leads, Sem.run_pure]
 ·rw [Oper.semAt_plain F _ _ (by rw [hop]; intro c hc; cases hc)];unfold execOp;simp only [hop, resolve, invoke, builtin, Sem.run_bind, Sem.run_pure, Result.andThen_ok, List.map_toArray, List.map_cons, List.map_nil, hs, hx, hrun];exact h
end Go.Proofs.YtmioifcbkhpdaaaGreat
namespace Go.Proofs.YtmioifcbkhpdaaaGreat
set_option maxHeartbeats 16000000
set_option maxRecDepth 100000
open Go.RowKit Codec
def RMod (w : World) (l : List Ch) (t i : Value) (wr : World) : Prop :=
 ∃ j : Nat, j ≤ l.length ∧ i = .int .i64 (j : Int) ∧ wr.ownsRow w.heap.size 95 3 t (l.take j).length (yB (l.take j)) ∧ Below w.heap.size w wr
theorem modelof_long {w : World} {S : Nat → Prop} {A : Option Addr} {n c : Nat} {l : List Ch} (h : Chs w S A n c l) (hn : n ≤ 100000) :
    Calls Tryz.prog 12 #[.slice A n c] w fun e w' => ∃ A' c', e = .returned (.slice A' n c') ∧ Cms w' (w.heap.size ≤ ·) A' n c' l ∧ Below w.heap.size w w' := by
 have HS := sq3 h h.len hn;clear h hn
 go_enter Tryz.func12, Tryz.ntmps12
 go_wp2_with fail
 go_loopw [3, 4] (fun t i wr => RMod w l t i wr) (fun _ i _ => n - (intOf i).toNat)
 case atStart => exact ⟨0, Nat.zero_le _, rfl, World.ownsRow_nil _ _ _ _, Below.refl _ _⟩
 case round =>
  obtain ⟨j, hj, rfl, hown, hbel⟩ := hrel
  by_cases hlt : j < n
  ·(have hlt' : (j : Int) < (n : Int) := by omega);have hadd1 := IntWalk.i64_in ((j : Int) + 1) (by have := HS.out.2.2; omega);obtain ⟨b, off, x, Ax, nx, cx, rfl, _, hb, hx, hcs, hy⟩ := HS.out.1.at_ hlt;(have hcell : ∀ o u, (chV Ax nx cx x)[o]? = some u → w.cell? ⟨b, off + j * 3 + o, none⟩ = some u := fun o u hu => by have := hcs o u hu; rwa [zK] at this);have HC : Hid (b < wr.drew.heap.size ∧ wr.drew.cell? ⟨b, off + j * 3, none⟩ = some (.string (st x.k)) ∧ wr.drew.cell? ⟨b, off + j * 3 + 1, none⟩ = some (.slice Ax nx cx) ∧ wr.drew.cell? ⟨b, off + j * 3 + 2, none⟩ = some (.bool x.g)) := Lib.hid ⟨Nat.lt_of_lt_of_le hb hbel.size, (hbel.cell (p := ⟨_, _, none⟩) hb).trans (hcell 0 _ rfl), (hbel.cell (p := ⟨_, _, none⟩) hb).trans (hcell 1 _ rfl), (hbel.cell (p := ⟨_, _, none⟩) hb).trans (hcell 2 _ rfl)⟩;obtain ⟨V, hV⟩ := sqz x.v
   have HY : Hid (Byt wr.drew S Ax nx cx V) := Lib.hid (by
    have h1 := (hy.mono (T := fun k => S k ∧ k < w.heap.size) fun k hk h => ⟨h, hk⟩).below hbel;rw [hV];exact (h1.mono fun k _ h => h.1).below (yG (Below.refl _ _)))
   have HX := sq3 hx hV hlt;have HR := sq2 hown hbel;clear hown hbel hb hx hcs hy hcell hj hlt hV
   go_upto_region 5 with fail
   refine (wpIn_wide (n := 3)).1 ?_;refine wpIn_region_growP (Grow.open_wide _ _) (fun W W' => Below W.heap.size W W') (Grow.nth [sqv u3, sqv (.slice (some ⟨b, off, none⟩) n c), sqv (.int .i64 (j : Int)), sqv (.pointer (some ⟨b, off + j * 3, none⟩)), sqv (.pointer (some ⟨b, off + j * 3, none⟩)), sqv (.string (st x.k)), sqv (.slice (some ⟨b, off, none⟩) n c), sqv (.int .i64 (j : Int)), sqv (.pointer (some ⟨b, off + j * 3, none⟩)), sqv (.pointer (some ⟨b, off + j * 3 + 1, none⟩)), sqv (.slice Ax nx cx), sqv (.string (st V)), sqv (.slice (some ⟨b, off, none⟩) n c), sqv (.int .i64 (j : Int)), sqv (.pointer (some ⟨b, off + j * 3, none⟩)), sqv (.pointer (some ⟨b, off + j * 3 + 2, none⟩)), sqv (.bool x.g), sqv (.agg #[.string (st x.k), .string (st V), .bool x.g]), fun v W => ∃ q2, v = .slice (some ⟨q2, 0, none⟩) 1 1 ∧ W.heap[q2]? = some (.cells #[.string (st x.k), .string (st V), .bool x.g] 95 (0, 0)) ∧ wr.heap.size ≤ q2]) 32 (by kernel_rfl) (by kernel_rfl) (by kernel_rfl) (by kernel_rfl) (by rfl) (fun W => Below.refl _ W) (fun _ _ _ h1 h2 => h1.trans (h2.mono h1.size)) (Grow.mono_nth ?gmono) 19 (by rfl) (by rfl) (by rfl) (by rfl) (by rfl) ?gsteps ?gfin
   case gmono => exact ⟨sqm, sqm, sqm, sqm, sqm, sqm, sqm, sqm, sqm, sqm, sqm, sqm, sqm, sqm, sqm, sqm, sqm, sqm, fun _ _ _ ⟨A, h1, h2, h3⟩ hg => ⟨A, h1, (hg.block A (zB h2)).trans h2, h3⟩, trivial⟩
   case gsteps =>
    show Grow.allBelow _ 19
    iterate 19 refine And.intro ?_ ?_
    exact trivial
    ·exact squ 3
    ·exact squ 0
    ·exact squ 4
    ·refine sqi ?_;intro E W ec eg ef hG hd hu R HR1;have e12 := sqe (hd 1 12);have e13 := sqe (hd 2 13);clear hd hu;have hjl := HX.out.2.2;go_simp
     first | exact sqh HR1 | (rw [if_pos ⟨by omega, by omega⟩]; exact sqh HR1)
    ·refine sqi ?_;intro E W ec eg ef hG hd hu R HR1;have e14 := sqe (hd 3 14);clear hd hu;go_simp;exact sqh HR1
    ·refine sqi ?_;intro E W ec eg ef hG hd hu R HR1;have e15 := sqe (hd 4 15);clear hd hu;have hcl := (hG.cell (p := ⟨b, off + j * 3, none⟩) HC.out.1).trans HC.out.2.1;go_simp;exact sqh HR1
    ·exact squ 0
    ·exact squ 4
    ·refine sqi ?_;intro E W ec eg ef hG hd hu R HR1;have e17 := sqe (hd 6 17);have e18 := sqe (hd 7 18);clear hd hu;have hjl := HX.out.2.2;go_simp
     first | exact sqh HR1 | (rw [if_pos ⟨by omega, by omega⟩]; exact sqh HR1)
    ·refine sqi ?_;intro E W ec eg ef hG hd hu R HR1;have e19 := sqe (hd 8 19);clear hd hu;go_simp;exact sqh HR1
    ·refine sqi ?_;intro E W ec eg ef hG hd hu R HR1;have e20 := sqe (hd 9 20);clear hd hu;have hcl := (hG.cell (p := ⟨b, off + j * 3 + 1, none⟩) HC.out.1).trans HC.out.2.2.1;go_simp;exact sqh HR1
    ·refine sqi ?_;intro E W ec eg ef hG hd hu R HR1;have e21 := sqe (hd 10 21);clear hd hu;have hcv := yM (HY.out.below hG);go_simp;exact sqh HR1
    ·exact squ 0
    ·exact squ 4
    ·refine sqi ?_;intro E W ec eg ef hG hd hu R HR1;have e23 := sqe (hd 12 23);have e24 := sqe (hd 13 24);clear hd hu;have hjl := HX.out.2.2;go_simp
     first | exact sqh HR1 | (rw [if_pos ⟨by omega, by omega⟩]; exact sqh HR1)
    ·refine sqi ?_;intro E W ec eg ef hG hd hu R HR1;have e25 := sqe (hd 14 25);clear hd hu;go_simp;exact sqh HR1
    ·refine sqi ?_;intro E W ec eg ef hG hd hu R HR1;have e26 := sqe (hd 15 26);clear hd hu;have hcl := (hG.cell (p := ⟨b, off + j * 3 + 2, none⟩) HC.out.1).trans HC.out.2.2.2;go_simp;exact sqh HR1
    ·refine sqi ?_;intro E W ec eg ef hG hd hu R HR1;have e16 := sqe (hd 5 16);have e22 := sqe (hd 11 22);have e27 := sqe (hd 16 27);clear hd hu;go_simp;exact sqh HR1
    ·refine sqi ?_;intro E W ec eg ef hG hd hu R HR1;have e28 := sqe (hd 17 28);clear hd hu;go_simp;exact HR1.out _ _ ((Below.refl _ _).alloc (Nat.le_refl _) _) ⟨_, rfl, heap_alloc_new W _, by have h1 := hG.size; have h2 : wr.drew.heap.size = wr.heap.size := rfl; omega⟩
   case gfin =>
    intro W hG
    iterate 18 (refine Grow.fin_dst (by rfl) ?_; rintro _ rfl)
    refine Grow.fin_dst (by rfl) ?_;rintro _ ⟨q8, rfl, hq8⟩;simp only [Act.put, sqp];refine Grow.fin_end ?_;have HW := Lib.hid hG;clear hG
    have htk : l.take j ++ [x] = l.take (j + 1) := by
     rw [List.take_add_one, HX.out.1];rfl
    obtain ⟨A9, c9, w9, hap, hown9, hb9⟩ := yz (m := [x]) (n2 := 1) (c2 := 1) (a := ⟨q8, 0, none⟩) (yN HR.out.1 ((yG (Below.refl _ _)).trans HW.out)) (by have h1 := HW.out.size; have h2 := HR.out.2.size; have h3 : wr.drew.heap.size = wr.heap.size := rfl; omega) rfl (fun o u hu => by
     rw [zK, Nat.zero_add, zA hq8.1, HX.out.2.1]
     simpa [yB, cmV] using hu) (by have := HS.out.2.2; rw [List.length_take]; omega) 36
    have hb9' := (HR.out.2.trans (((yG (Below.refl _ _)).trans HW.out).mono HR.out.2.size)).trans hb9;(have hlen1 : (l.take j ++ [x]).length = (l.take (j + 1)).length := by rw [htk]);rw [htk] at hown9 hap;have HO := sq2 hown9 hb9';clear hown9 hb9 hb9' htk hq8 hlen1;refine operIn_app _ _ 36 (by rfl) (by rfl) (by rfl) hap ?_
    gi_wp2_with fail
    go_wp2_with fail
    go_roundw
    case rel =>
     unfold RMod;exact ⟨j + 1, by have := HX.out.2.2; have := HS.out.2.1; omega, by simp, by have h := HO.out.1; simp only [List.length_take] at h ⊢; exact h, HO.out.2⟩
    case measure => simp only [intOf]; have h1 := HX.out.2.2; omega
  ·(have hlt' : ¬ (j : Int) < (n : Int) := by omega);(have hjn : j = l.length := by have := HS.out.2.1; omega);rw [hjn, List.take_length] at hown;obtain ⟨A', c', rfl, hcm⟩ := xC hown;have HB := sq2 hcm hbel;clear hcm hbel hown hj
   go_wp2_with fail
   go_ret
   have hnl := HS.out.2.1;subst hnl;exact ⟨A', c', rfl, HB.out.1, HB.out.2⟩
end Go.Proofs.YtmioifcbkhpdaaaGreat
