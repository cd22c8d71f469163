/-
  The reference's Apply: the disk is down.
-/
import Derived.Test.YtmioifcbkhpdaaaGreatPkPl23
import Derived.Test.YtmioifcbkhpdaaaGreatPkPl02
namespace Go.Proofs.YtmioifcbkhpdaaaGreat
set_option maxHeartbeats 16000000
set_option maxRecDepth 100000
open Go.RowKit Codec
theorem rcapply_down0 {w : World} {U V : Nat → Prop} {A At A2 A3 : Option Addr} {nl c nt ct n2 c2 n3 c3 : Nat} {d : DM} {s : SM} {l : List Ch} (h : Strs w U A nl c d.l) (ht : Cms w U At nt ct (tb2 s.t)) (h2 : Strs w U A2 n2 c2 s.log.l) (hc : Cms w V A3 n3 c3 l) (he0 : s.e = 0) (hmay : ∀ x ∈ l, zq x = true) (ok : d.Ok) (hnl : nl ≤ 24) (h1 : 1 ≤ hn d) {X : Nat} (hv : SInv s X) (hX : X ≤ 500) (hw : wtC l ≤ 768) (hln : s.log.n = (hn d : Int)) (hne : l ≠ []) (hcond : s.log.first = 0) (hdn : d.down = true) : Calls Tryz.prog 11 #[.agg (dmV d A nl c), .agg (smV s At nt ct A2 n2 c2), .slice A3 n3 c3] w fun e w' => RapPost w U nl (zc d s l) e w' := by
 have href : yu s l = 0 := by
  unfold yu;rw [if_neg (by simp [he0]), if_pos (by rw [List.all_eq_true]; exact hmay)]
 have HMAY := Lib.hid hmay;clear hmay
 have hr : zc d s l = if (zJ d s l).2.2 = 0 then ((zJ d s l).1, { (zJ d s l).2.1 with t := doL s.t l }, 0) else ((zJ d s l).1, (if (zJ d s l).2.2 = 31 then s else { s with e := (zJ d s l).2.2 }), (zJ d s l).2.2) := by
  unfold zc;rw [href, if_neg (by simp [hne])]
 have HB := sq8 ok hnl h1 hv hX hw hln hne;have HR := Lib.hid hr;have HRF := Lib.hid href;have HZE := Lib.hid he0;clear hr href ok hnl h1 hv hX hw hln hne;have HWT : Hid (zJ d s l = yy d s l) := Lib.hid (by unfold zJ; rw [if_neg (by intro h; exact h.1 hcond)]);have HCO := Lib.hid hcond;have HDN := Lib.hid hdn;clear hcond hdn;have hz := zero_sm;have hzd := xT;obtain ⟨ZS, hZS⟩ := sqz (smV sm0 none 0 0 none 0 0);rw [← hZS] at hz;obtain ⟨ZD, hZD⟩ := sqz dz;rw [← hZD] at hzd;obtain ⟨DV, hDV⟩ := sqz (dmV d A nl c);rw [← hDV];obtain ⟨SV, hSV⟩ := sqz (smV s At nt ct A2 n2 c2);rw [← hSV];have hO := raw_start w DV SV ZD ZS;have HV : Hid (DV = dmV d A nl c ∧ SV = smV s At nt ct A2 n2 c2 ∧ DV.size = 4 ∧ SV.size = 11 ∧ ZD.size = 4 ∧ ZS.size = 11 ∧ DV.all (·.oneCell') = true ∧ SV.all (·.oneCell') = true ∧ (∀ (i : Nat) (b : ByteArray), ZD[i]? ≠ some (.string b)) ∧ (∀ (i : Nat) (b : ByteArray), ZS[i]? ≠ some (.string b))) := Lib.hid ⟨hDV, hSV, by rw [hDV]; rfl, by rw [hSV]; rfl, by rw [hZD]; rfl, by rw [hZS]; rfl, by rw [hDV]; exact zt _ _ _ _, by rw [hSV]; exact yL _ _ _ _ _ _ _, by rw [hZD]; exact dmV_no ⟨[], 0, 0, false⟩ none 0 0, by rw [hZS]; exact smV_no _ _ _ _ _ _ _⟩;have HH := sq5 h ht h2 hc hc.len;clear hZS hZD hDV hSV h ht h2 hc
 go_enter Tryz.func11, Tryz.ntmps11
 go_upto_region 1 with fail
 generalize ((((w.alloc (.cells DV 30)).alloc (.cells SV 41)).alloc (.cells ZD 30)).alloc (.cells ZS 41)) = w2 at *
 have HO := Lib.hid hO;clear hO hz hzd;have hce : w2.cell? ⟨w.heap.size + 1, 10, none⟩ = some (.int .i64 s.e) := by rw [zA HO.out.sv, HV.out.2.1]; rfl
 have hce' : (s.e != 0) = false := by simpa using he0
 go_upto_region 3 with fail
 clear hce hce'
 go_upto_region 4 with fail
 go_loopw [9] (fun iv wr => ∃ j : Nat, j ≤ n3 ∧ iv = .int .i64 (j : Int) ∧ RaW w DV SV ZD ZS wr ∧ ∀ x ∈ l.take j, zq x = true) (fun iv _ => n3 - (intOf iv).toNat)
 case atStart => exact ⟨0, Nat.zero_le _, rfl, HO.out, by simp⟩
 case round =>
  obtain ⟨j, hj, rfl, hO, hall⟩ := hrel;clear HO
  by_cases hlt : j < n3
  ·(have hlt' : (j : Int) < (n3 : Int) := by omega);(obtain ⟨x, hx⟩ : ∃ x, l[j]? = some x := ⟨_, List.getElem?_eq_getElem (by rw [HH.out.2.2.2.2]; exact hlt)⟩);obtain ⟨b, off, hA, _, hbl, hrow⟩ := HH.out.2.2.2.1.row (by omega);subst hA;obtain ⟨XS, hXS⟩ := sqz (cmV x)
   have HX : Hid (XS.size = 3 ∧ ∀ u v, XS[u]? = some v → wr.cell? ((⟨b, off + j * 3, none⟩ : Addr).add u) = some v) := Lib.hid ⟨by rw [hXS]; rfl, fun u v hu => by
    rw [zK];exact (hO.bel.cell (p := ⟨b, _, none⟩) hbl).trans (hrow j x hx u v (by rw [hXS] at hu; exact hu))⟩
   obtain ⟨Z, hZ⟩ := sqz (zq x);have hmy := xG x wr;rw [← hZ, ← hXS] at hmy;have hjj := IntWalk.i64_in ((j : Int) + 1) (by have := HH.out.2.2.2.1.max; have := HH.out.2.2.2.1.cap; unfold maxLen at *; omega);have HJ := sq5 hlt hx hZ hall hO;clear hXS hZ hrow hbl hx hlt hj hall hO
   go_wp2_with (first
    | (refine sqwa 33 HX.out.2 Tryz.underlying95 (by rw [HX.out.1]; exact xN) ?_)
    | (go_at_call 38; refine hmy.mono ?_; clear hmy; rintro _ w3 ⟨rfl, hb3⟩; have HO := Lib.hid (HJ.out.2.2.2.2.below hb3); clear hb3; cases Z))
   ·have hz : zq x = true := HMAY.out x (List.mem_of_getElem? HJ.out.2.1);rw [hz] at HJ;exact absurd HJ.out.2.2.1 (by decide)
   ·go_wp2
    exact ⟨⟨j + 1, HJ.out.1, by simp, HO.out, fun y hy => by
     rw [List.take_add_one, HJ.out.2.1, List.mem_append] at hy;rcases hy with hy | hy
     ·exact HJ.out.2.2.2.1 y hy
     ·simp at hy; rw [hy]; exact HJ.out.2.2.1.symm⟩, by have := HJ.out.1; simp only [intOf]; omega⟩
  ·(obtain rfl : j = n3 := by omega);(have hlt' : ¬ (j : Int) < (j : Int) := by omega);have HO := Lib.hid hO;(have HALL : Hid (∀ x ∈ l, zq x = true) := Lib.hid fun x hx => hall x (by rw [List.take_of_length_le (by have := HH.out.2.2.2.2; omega)]; exact hx));clear hlt hj hall hO
   have hj0 : ((j : Int) == 0) = false := by
    have : j ≠ 0 := fun e => HB.out.2.2.2.2.2.2.2 (List.eq_nil_of_length_eq_zero (by rw [HH.out.2.2.2.2, e]))
    simpa using this
   (have hat : wr.cell? ⟨w.heap.size + 1, 0, none⟩ = some (.slice At nt ct) := by rw [zA HO.out.sv, HV.out.2.1]; rfl);(have hnt : nt = s.t.length := by rw [← HH.out.2.1.len]; simp [tb2])
   have hdo := rdo_any (HH.out.2.1.below HO.out.bel) HB.out.2.2.2.1.srt (HH.out.2.2.2.1.below HO.out.bel) (by
    have h1 := wtT_len s.t;have h2 := wtC_len l;have h3 := HB.out.2.2.2.1.wt;have h4 := HB.out.2.2.2.2.1;have h5 := HB.out.2.2.2.2.2.1;have h6 := HH.out.2.2.2.2;omega)
   clear hnt;obtain ⟨B, hB⟩ := sqz (chsB l);obtain ⟨T', hT'⟩ := sqz (doL s.t l);rw [← hT'] at hdo;obtain ⟨SB, hSB⟩ := sqz (st B);have HN0 := sq3 hB hSB hT';clear hB hSB hT'
   go_upto_region 12 with (go_at_call 34; refine hdo.mono ?_; clear hdo; rintro _ w3 ⟨At', nt', ct', rfl, hct, hb3⟩)
   have H3 := sq2 (HO.out.below hb3) (hct.mono (T := fun k => U k ∨ w.heap.size ≤ k) fun k _ h => h.imp id fun h => Nat.le_trans HO.out.bel.size h);clear hct hb3;have hsm := rcsome_any (HH.out.2.2.2.1.below H3.out.1.bel) (by have := HB.out.2.2.2.2.2.1; omega);rw [← HN0.out.1, ← HN0.out.2.1] at hsm;clear hat HO
   go_upto_region 13 with (go_at_call 39; refine hsm.mono ?_; clear hsm; rintro _ w4 ⟨rfl, hb4⟩)
   have H4 := sq2 (H3.out.1.below hb4) (H3.out.2.below hb4);clear hb4;(have hdl : w4.cell? ⟨w.heap.size, 0, none⟩ = some (.slice A nl c) := by rw [zA H4.out.1.dv, HV.out.1]; rfl);obtain ⟨n, hn⟩ := sqz (Go.Proofs.YtmioifcbkhpdaaaGreat.hn d)
   have hq : IntKind.i64.wrap ((nl : Int) / 2) = (n : Int) := by
    have h1 : Go.Proofs.YtmioifcbkhpdaaaGreat.hn d = d.l.length / 2 := rfl;have h2 := HH.out.1.len;have h3 := HB.out.2.1;rw [IntWalk.i64_in _ (by omega)];omega
   have hzl := yb;obtain ⟨ZL, hZL⟩ := sqz (lmV lm0 none 0 0);rw [← hZL] at hzl;obtain ⟨LV, hLV⟩ := sqz (lmV s.log A2 n2 c2)
   have HL : Hid (LV = lmV s.log A2 n2 c2 ∧ LV.size = 7 ∧ ZL.size = 7 ∧ LV.all (·.oneCell') = true ∧ ∀ u v, LV[u]? = some v → w4.cell? ((⟨w.heap.size + 1, 2, none⟩ : Addr).add u) = some v) := Lib.hid ⟨hLV, by rw [hLV]; rfl, by rw [hZL]; rfl, by rw [hLV]; exact zw _ _ _ _, fun u v hu => by
    rw [zK, zA H4.out.1.sv, HV.out.2.1];rw [hLV] at hu;exact lm_in_sm _ _ _ _ _ _ _ hu⟩
   (have hhf : w4.cell? ⟨w.heap.size + 1, 1, none⟩ = some (.int .i64 (s.half : Int)) := by rw [zA H4.out.1.sv, HV.out.2.1]; rfl);(have htn : w4.cell? ⟨w.heap.size + 1, 9, none⟩ = some (.int .i64 (s.turns : Int)) := by rw [zA H4.out.1.sv, HV.out.2.1]; rfl);have HN := sq2 hn HN0.out;clear hZL hLV hn H3 HN0
   go_upto_region 16 with (first
    | (refine sqwa 55 HL.out.2.2.2.2 Tryz.underlying39 (by rw [HL.out.2.1]; exact zL) ?_)
    | (refine zl 15 56 LV (heap_alloc_new w4 _) (by rw [HL.out.2.1]; exact zL) (by rw [HL.out.2.1, HL.out.2.2.1]) HL.out.2.2.2.1 ?_
       have hbS : Below w4.heap.size w4 ((w4.alloc (.cells ZL 39)).setRow w4.heap.size LV) := zD ((Below.refl _ _).alloc (Nat.le_refl _) _) (Nat.le_refl _) _
       have H5 : Hid (RaW w DV SV ZD ZS ((w4.alloc (.cells ZL 39)).setRow w4.heap.size LV) ∧ ((w4.alloc (.cells ZL 39)).setRow w4.heap.size LV).heap[w4.heap.size]? = some (.cells LV 39 (0, 0)) ∧ w.heap.size + 4 ≤ w4.heap.size ∧ Cms ((w4.alloc (.cells ZL 39)).setRow w4.heap.size LV) (fun k => U k ∨ w.heap.size ≤ k) At' nt' ct' (tb2 T')) :=
        Lib.hid ⟨H4.out.1.below hbS, zF (heap_alloc_new w4 _), by have := zB H4.out.1.rs; omega, H4.out.2.below hbS⟩
       have hhf5 : ((w4.alloc (.cells ZL 39)).setRow w4.heap.size LV).cell? ⟨w.heap.size + 1, 1, none⟩ = some (.int .i64 (s.half : Int)) := (hbS.cell (p := ⟨w.heap.size + 1, 1, none⟩) (zB H4.out.1.sv)).trans hhf;have htn5 : ((w4.alloc (.cells ZL 39)).setRow w4.heap.size LV).cell? ⟨w.heap.size + 1, 9, none⟩ = some (.int .i64 (s.turns : Int)) := (hbS.cell (p := ⟨w.heap.size + 1, 9, none⟩) (zB H4.out.1.sv)).trans htn;clear hbS
       generalize (w4.alloc (.cells ZL 39)).setRow w4.heap.size LV = w5 at H5 hhf5 htn5 ⊢
       generalize w4.heap.size = q at H5 ⊢))
   clear hhf htn hdl
   go_upto_region 18 with fail
   clear hhf5 htn5 hzl;have HRA := HR;clear HR
   have HC : Hid (∀ W : World, Below w5.drew.heap.size w5.drew W → W.cell? ⟨q, 5, none⟩ = some (.slice A2 n2 c2) ∧ W.cell? ⟨q, 4, none⟩ = some (.int .i64 (s.log.have_ : Int))) := Lib.hid fun W hW => by
    have hr : W.heap[q]? = some (.cells LV 39 (0, 0)) := (hW.block q (zB H5.out.2.1)).trans H5.out.2.1;exact ⟨by rw [zA hr, HL.out.1]; rfl, by rw [zA hr, HL.out.1]; rfl⟩
   have hn2 : n2 = 0 := by
    have h1 := HH.out.2.2.1.len
    have h2 : s.log.l = [] := by
     rcases hl : s.log.l with _ | ⟨r, rest⟩
     ·rfl
     ·exact absurd HCO.out (HB.out.2.2.2.1.fst.2 (by rw [hl]; simp)).1
    rw [h2] at h1;exact h1.symm
   (have hn2b : decide (0 < n2) = false := by simp [hn2]);have HN2 := Lib.hid hn2;clear hn2;refine sqg [sqv (.pointer (some ⟨q, 5, none⟩)), sqv (.slice A2 n2 c2), sqv (.int .i64 (n2 : Int)), sqv (.bool false), sqv (.bool false), sqv undef, sqv undef, sqv undef, sqv undef, sqv undef, sqv undef, sqv undef, sqv undef, sqv (.bool false)] 128 ?gmono ?gsteps ?gfin
   case gmono => (iterate 14 refine ⟨sqm, ?_⟩); trivial
   case gsteps =>
    show Grow.allBelow _ 14
    iterate 14 refine And.intro ?_ ?_
    exact trivial
    ·refine sqi ?_;intro E W ec eg ef hG hd hu R HR;have e15 : E (.tmp 15) = .pointer (some ⟨q, 0, none⟩) := hu 15;clear hd hu;go_simp;exact sqh HR
    ·refine sqi ?_;intro E W ec eg ef hG hd hu R HR;have e61 := sqe (hd 0 61);clear hd hu;have hx := (HC.out W hG).1;go_simp;exact sqh HR
    ·refine sqi ?_;intro E W ec eg ef hG hd hu R HR;have e62 := sqe (hd 1 62);clear hd hu;go_simp;exact sqh HR
    ·refine sqi ?_;intro E W ec eg ef hG hd hu R HR;have e63 := sqe (hd 2 63);clear hd hu;go_simp;exact sqh HR
    ·exact sqd 3 64
    ·exact sqx 4 65
    ·exact sqx 4 65
    ·exact sqx 4 65
    ·exact sqx 4 65
    ·exact sqx 4 65
    ·exact sqx 4 65
    ·exact sqx 4 65
    ·exact sqx 4 65
    ·refine sqi ?_;intro E W ec eg ef hG hd hu R HR;have e65 := sqe (hd 4 65);have e73 := sqe (hd 12 73);clear hd hu;go_simp;exact sqh HR
   case gfin =>
    intro W hG
    iterate 14 (refine Grow.fin_dst (by rfl) ?_; rintro _ rfl)
    simp only [Act.put, sqp];refine Grow.fin_end ?_
    have H6 : Hid (RaW w DV SV ZD ZS W ∧ W.heap[q]? = some (.cells LV 39 (0, 0)) ∧ w.heap.size + 4 ≤ q ∧ Cms W (fun k => U k ∨ w.heap.size ≤ k) At' nt' ct' (tb2 T')) := Lib.hid (by
     have hd := (yG (Below.refl w5.heap.size w5)).trans hG;exact ⟨H5.out.1.below hd, (hd.block q (zB H5.out.2.1)).trans H5.out.2.1, H5.out.2.2.1, H5.out.2.2.2.below hd⟩)
    have HQQ := Lib.hid H5.out.2.2.1;clear hG HC H5 hn2b
    (generalize W = w6 at H6 ⊢);obtain ⟨H1, hH1⟩ := sqz (1 - s.half);obtain ⟨TN, hTN⟩ := sqz (s.turns + 1);obtain ⟨F, hF⟩ := sqz (H1 * n);(have hH1l : H1 ≤ 1 := by omega)
    have hhs : IntKind.i64.wrap (1 - (s.half : Int)) = (H1 : Int) := by
     have h1 := HB.out.2.2.2.1.ok.half;rw [IntWalk.i64_in _ (by omega)];omega
    have htw : IntKind.i64.wrap ((s.turns : Int) + 1) = (TN : Int) := by
     have h1 := HB.out.2.2.2.1.ok.turns;rw [IntWalk.i64_in _ (by omega)];omega
    have hnl12 : n ≤ 12 := by
     have h1 : Go.Proofs.YtmioifcbkhpdaaaGreat.hn d = d.l.length / 2 := rfl;have h2 := HH.out.1.len;have h3 := HB.out.2.1;have h4 := HN.out.1;omega
    have hFi : (n : Int) * (H1 : Int) = (F : Int) := by
     rw [hF, Nat.mul_comm];simp
    have hmul : IntKind.i64.wrap ((n : Int) * (H1 : Int)) = (F : Int) := by
     have h5 : F ≤ 12 := by
      rw [hF];rcases (show H1 = 0 ∨ H1 = 1 by omega) with h | h <;> rw [h] <;> omega
     rw [hFi, IntWalk.i64_in _ (by omega)]
    (have hnx : w6.cell? ⟨w.heap.size + 1, 5, none⟩ = some (.int .u64 (s.log.next : Int)) := by rw [zA H6.out.1.sv, HV.out.2.1]; rfl);(have hbg := rwbegin_any (HH.out.1.below H6.out.1.bel) HB.out.1 (by have := HB.out.2.1; omega) (F : Int) (n : Int) s.log.next)
    have her : zo nl d.down (F : Int) (n : Int) = 30 := by
     have h1 := hn_err HB.out.2.2.1 H1 hH1l;rw [HH.out.1.len, ← HN.out.1, ← hF, HDN.out] at h1;rw [HDN.out]
     simpa using h1
    rw [her] at hbg;unfold xL at hbg;obtain ⟨MB, hMB⟩ := sqz lm0;rw [show (if (30 : Int) = 0 then zj (yd (zW d.l (F : Int) (n : Int)) (F : Int) (n : Int)) (F : Int) (n : Int) s.log.next else lm0) = MB from hMB.symm, ← HV.out.1] at hbg;obtain ⟨LB, hLB⟩ := sqz (lmV MB none 0 0);rw [← hLB] at hbg;have HLB : Hid (LB.size = 7 ∧ LB.all (·.oneCell') = true ∧ LB = lmV MB none 0 0) := Lib.hid ⟨by rw [hLB]; rfl, by rw [hLB]; exact zw _ _ _ _, hLB⟩;have HM := sq5 hMB hH1 hTN hF hH1l;clear hMB hLB hH1 hTN hF hH1l hFi hnl12 her
    go_upto_region 23 with (first
     | (refine yA 3 H6.out.1.dv Tryz.underlying30 (by rw [HV.out.2.2.1]; exact zI) ?_)
     | (go_at_call 33; refine hbg.mono ?_; clear hbg; rintro _ w7 ⟨rfl, hb7⟩
        have H7 : Hid (RaW w DV SV ZD ZS w7 ∧ w7.heap[q]? = some (.cells LV 39 (0, 0)) ∧ Cms w7 (fun k => U k ∨ w.heap.size ≤ k) At' nt' ct' (tb2 T')) := Lib.hid ⟨H6.out.1.below hb7, (hb7.block q (zB H6.out.2.1)).trans H6.out.2.1, H6.out.2.2.2.below hb7⟩;clear hb7)
     | (refine zl 15 97 LB H7.out.2.1 (by rw [HLB.out.1]; exact zL) (by rw [HL.out.2.1, HLB.out.1]) HLB.out.2.1 ?_
        (have hno : ∀ (i : Nat) (b : ByteArray), LV[i]? ≠ some (.string b) := by rw [HL.out.1]; exact lmV_no _ _ _ _);have H9 : Hid (RaW w DV SV ZD ZS (w7.setRow q LB) ∧ (w7.setRow q LB).heap[q]? = some (.cells LB 39 (0, 0)) ∧ Cms (w7.setRow q LB) (fun k => U k ∨ w.heap.size ≤ k) At' nt' ct' (tb2 T')) := Lib.hid ⟨H7.out.1.setO HQQ.out LB, zF H7.out.2.1, H7.out.2.2.set H7.out.2.1 hno LB⟩;clear hno H7
        generalize w7.setRow q LB = w8 at H9 ⊢))
    clear H6 hnx hmul hhs htw;have HW : Hid (zJ d s l = (d, s, 30)) := Lib.hid (by rw [HWT.out]; unfold yy; rw [HDN.out, if_pos rfl]);have HO := Lib.hid H9.out.1;clear H9;have HAP : Hid (zc d s l = (d, { s with e := 30 }, 30)) := Lib.hid (by rw [HRA.out, HW.out]; simp only; rw [if_neg (by decide), if_neg (by decide)]);obtain ⟨SV2, hSV2⟩ := sqz (SV.setIfInBounds 10 (.int .i64 30))
    have HS2 : Hid (SV2 = smV { s with e := 30 } At nt ct A2 n2 c2 ∧ SV2.size = 11 ∧ SV2.all (·.oneCell') = true) := by
     (have h : SV2 = smV { s with e := 30 } At nt ct A2 n2 c2 := by rw [hSV2, HV.out.2.1]; rfl);exact Lib.hid ⟨h, by rw [h]; rfl, by rw [h]; exact yL _ _ _ _ _ _ _⟩
    (have hc10 : w8.cell? ⟨w.heap.size + 1, 10, none⟩ = some (.int .i64 s.e) := by rw [zA HO.out.sv, HV.out.2.1]; rfl);have hf10 := zC HO.out.sv 10;have HO2 : Hid (RaW w DV SV2 ZD ZS (w8.setCell ⟨w.heap.size + 1, 10, none⟩ (.int .i64 30))) := Lib.hid (by rw [hSV2]; exact HO.out.setE 10 _);clear hSV2
    go_upto_region 29 with fail
    clear hc10 hf10 HO
    (generalize w8.setCell ⟨w.heap.size + 1, 10, none⟩ (.int .i64 30) = w9 at HO2 ⊢);refine sqpl (fun W => ∃ RD RS, RaW w DV SV2 RD RS W) [([0, 1, 2], 3), ([], 4)] [5] ⟨_, _, HO2.out.drew⟩ ?_;have HD := Lib.hid HO2.out.drew;clear HO2
    (generalize (w9).drew = wd at *);refine zR ?_;refine zE (.agg DV) (by rfl) (by rfl) (fun W hW => yU 3 hW.choose_spec.choose_spec.dv Tryz.underlying30 (by rw [HV.out.2.2.1]; exact zI)) ?_
    try simp only [Act.put, sqp]
    refine zE (.agg SV2) (by rfl) (by rfl) (fun W hW => yU 4 hW.choose_spec.choose_spec.sv Tryz.underlying41 (by rw [HS2.out.2.1]; exact za)) ?_
    try simp only [Act.put, sqp]
    refine sqr ?_
    try simp only [Act.put, sqp]
    refine zH ?_;refine yO 6 119 DV HD.out.rd (by rw [HV.out.2.2.1]; exact zI) (by rw [HV.out.2.2.2.2.1, HV.out.2.2.1]) (HV.out.2.2.2.2.2.2.1) ?_;have HE := Lib.hid (HD.out.setRD DV);clear HD
    (generalize wd.setRow (w.heap.size + 2) DV = we at *);refine ⟨fun W => ∃ RD RS, RaW w DV SV2 RD RS W, ⟨_, _, HE.out⟩, fun _ h => h, ?_⟩
    try simp only [Act.put]
    refine zR ?_;refine zH ?_;refine yO 7 120 SV2 HE.out.rs (by rw [HS2.out.2.1]; exact za) (by rw [HV.out.2.2.2.2.2.1, HS2.out.2.1]) (HS2.out.2.2) ?_;have HF := Lib.hid (HE.out.setRS SV2);clear HE
    (generalize we.setRow (w.heap.size + 3) SV2 = wf at *);refine ⟨fun W => W = wf, rfl, fun W (e : W = wf) => ⟨_, _, e ▸ HF.out⟩, ?_⟩;refine zZ ?_
    try simp only [Act.put]
    repeat (refine zb (by rfl) (fun K hK => ?_); go_simp; refine hK _ ?_; clear hK K)
    refine zH ?_
    go_wp2_with fail
    (try simp only [Exit.inBlock, Exit.then])
    refine bodyPost_ret (yY (p := 6) (q := 7) (u := 8) rfl _ HF.out rfl rfl (by rw [HV.out.2.2.1]) (by rw [HS2.out.2.1])) rfl ?_;rw [HAP.out];exact ⟨A, c, At, nt, ct, A2, n2, c2, by rw [HV.out.1, HS2.out.1]; rfl, (HH.out.1.below HF.out.bel).mono fun _ _ h => .inl h, (HH.out.2.1.below HF.out.bel).mono fun _ _ h => .inl h, (HH.out.2.2.1.below HF.out.bel).mono fun _ _ h => .inl h, HF.out.bel⟩
theorem rcapply_down1 {w : World} {U V : Nat → Prop} {A At A2 A3 : Option Addr} {nl c nt ct n2 c2 n3 c3 : Nat} {d : DM} {s : SM} {l : List Ch} (h : Strs w U A nl c d.l) (ht : Cms w U At nt ct (tb2 s.t)) (h2 : Strs w U A2 n2 c2 s.log.l) (hc : Cms w V A3 n3 c3 l) (he0 : s.e = 0) (hmay : ∀ x ∈ l, zq x = true) (ok : d.Ok) (hnl : nl ≤ 24) (h1 : 1 ≤ hn d) {X : Nat} (hv : SInv s X) (hX : X ≤ 500) (hw : wtC l ≤ 768) (hln : s.log.n = (hn d : Int)) (hne : l ≠ []) (hcond : s.log.first ≠ 0 ∧ ¬ (zP (chsB l).length : Int) ≤ s.log.n - (s.log.have_ : Int)) (hdn : d.down = true) : Calls Tryz.prog 11 #[.agg (dmV d A nl c), .agg (smV s At nt ct A2 n2 c2), .slice A3 n3 c3] w fun e w' => RapPost w U nl (zc d s l) e w' := by
 have href : yu s l = 0 := by
  unfold yu;rw [if_neg (by simp [he0]), if_pos (by rw [List.all_eq_true]; exact hmay)]
 have HMAY := Lib.hid hmay;clear hmay
 have hr : zc d s l = if (zJ d s l).2.2 = 0 then ((zJ d s l).1, { (zJ d s l).2.1 with t := doL s.t l }, 0) else ((zJ d s l).1, (if (zJ d s l).2.2 = 31 then s else { s with e := (zJ d s l).2.2 }), (zJ d s l).2.2) := by
  unfold zc;rw [href, if_neg (by simp [hne])]
 have HB := sq8 ok hnl h1 hv hX hw hln hne;have HR := Lib.hid hr;have HRF := Lib.hid href;have HZE := Lib.hid he0;clear hr href ok hnl h1 hv hX hw hln hne;have HWT : Hid (zJ d s l = yy d s l) := Lib.hid (by unfold zJ; rw [if_neg (by intro h; exact hcond.2 h.2)]);have HCO := Lib.hid hcond;have HDN := Lib.hid hdn;clear hcond hdn;have hz := zero_sm;have hzd := xT;obtain ⟨ZS, hZS⟩ := sqz (smV sm0 none 0 0 none 0 0);rw [← hZS] at hz;obtain ⟨ZD, hZD⟩ := sqz dz;rw [← hZD] at hzd;obtain ⟨DV, hDV⟩ := sqz (dmV d A nl c);rw [← hDV];obtain ⟨SV, hSV⟩ := sqz (smV s At nt ct A2 n2 c2);rw [← hSV];have hO := raw_start w DV SV ZD ZS;have HV : Hid (DV = dmV d A nl c ∧ SV = smV s At nt ct A2 n2 c2 ∧ DV.size = 4 ∧ SV.size = 11 ∧ ZD.size = 4 ∧ ZS.size = 11 ∧ DV.all (·.oneCell') = true ∧ SV.all (·.oneCell') = true ∧ (∀ (i : Nat) (b : ByteArray), ZD[i]? ≠ some (.string b)) ∧ (∀ (i : Nat) (b : ByteArray), ZS[i]? ≠ some (.string b))) := Lib.hid ⟨hDV, hSV, by rw [hDV]; rfl, by rw [hSV]; rfl, by rw [hZD]; rfl, by rw [hZS]; rfl, by rw [hDV]; exact zt _ _ _ _, by rw [hSV]; exact yL _ _ _ _ _ _ _, by rw [hZD]; exact dmV_no ⟨[], 0, 0, false⟩ none 0 0, by rw [hZS]; exact smV_no _ _ _ _ _ _ _⟩;have HH := sq5 h ht h2 hc hc.len;clear hZS hZD hDV hSV h ht h2 hc
 go_enter Tryz.func11, Tryz.ntmps11
 go_upto_region 1 with fail
 generalize ((((w.alloc (.cells DV 30)).alloc (.cells SV 41)).alloc (.cells ZD 30)).alloc (.cells ZS 41)) = w2 at *
 have HO := Lib.hid hO;clear hO hz hzd;have hce : w2.cell? ⟨w.heap.size + 1, 10, none⟩ = some (.int .i64 s.e) := by rw [zA HO.out.sv, HV.out.2.1]; rfl
 have hce' : (s.e != 0) = false := by simpa using he0
 go_upto_region 3 with fail
 clear hce hce'
 go_upto_region 4 with fail
 go_loopw [9] (fun iv wr => ∃ j : Nat, j ≤ n3 ∧ iv = .int .i64 (j : Int) ∧ RaW w DV SV ZD ZS wr ∧ ∀ x ∈ l.take j, zq x = true) (fun iv _ => n3 - (intOf iv).toNat)
 case atStart => exact ⟨0, Nat.zero_le _, rfl, HO.out, by simp⟩
 case round =>
  obtain ⟨j, hj, rfl, hO, hall⟩ := hrel;clear HO
  by_cases hlt : j < n3
  ·(have hlt' : (j : Int) < (n3 : Int) := by omega);(obtain ⟨x, hx⟩ : ∃ x, l[j]? = some x := ⟨_, List.getElem?_eq_getElem (by rw [HH.out.2.2.2.2]; exact hlt)⟩);obtain ⟨b, off, hA, _, hbl, hrow⟩ := HH.out.2.2.2.1.row (by omega);subst hA;obtain ⟨XS, hXS⟩ := sqz (cmV x)
   have HX : Hid (XS.size = 3 ∧ ∀ u v, XS[u]? = some v → wr.cell? ((⟨b, off + j * 3, none⟩ : Addr).add u) = some v) := Lib.hid ⟨by rw [hXS]; rfl, fun u v hu => by
    rw [zK];exact (hO.bel.cell (p := ⟨b, _, none⟩) hbl).trans (hrow j x hx u v (by rw [hXS] at hu; exact hu))⟩
   obtain ⟨Z, hZ⟩ := sqz (zq x);have hmy := xG x wr;rw [← hZ, ← hXS] at hmy;have hjj := IntWalk.i64_in ((j : Int) + 1) (by have := HH.out.2.2.2.1.max; have := HH.out.2.2.2.1.cap; unfold maxLen at *; omega);have HJ := sq5 hlt hx hZ hall hO;clear hXS hZ hrow hbl hx hlt hj hall hO
   go_wp2_with (first
    | (refine sqwa 33 HX.out.2 Tryz.underlying95 (by rw [HX.out.1]; exact xN) ?_)
    | (go_at_call 38; refine hmy.mono ?_; clear hmy; rintro _ w3 ⟨rfl, hb3⟩; have HO := Lib.hid (HJ.out.2.2.2.2.below hb3); clear hb3; cases Z))
   ·have hz : zq x = true := HMAY.out x (List.mem_of_getElem? HJ.out.2.1);rw [hz] at HJ;exact absurd HJ.out.2.2.1 (by decide)
   ·go_wp2
    exact ⟨⟨j + 1, HJ.out.1, by simp, HO.out, fun y hy => by
     rw [List.take_add_one, HJ.out.2.1, List.mem_append] at hy;rcases hy with hy | hy
     ·exact HJ.out.2.2.2.1 y hy
     ·simp at hy; rw [hy]; exact HJ.out.2.2.1.symm⟩, by have := HJ.out.1; simp only [intOf]; omega⟩
  ·(obtain rfl : j = n3 := by omega);(have hlt' : ¬ (j : Int) < (j : Int) := by omega);have HO := Lib.hid hO;(have HALL : Hid (∀ x ∈ l, zq x = true) := Lib.hid fun x hx => hall x (by rw [List.take_of_length_le (by have := HH.out.2.2.2.2; omega)]; exact hx));clear hlt hj hall hO
   have hj0 : ((j : Int) == 0) = false := by
    have : j ≠ 0 := fun e => HB.out.2.2.2.2.2.2.2 (List.eq_nil_of_length_eq_zero (by rw [HH.out.2.2.2.2, e]))
    simpa using this
   (have hat : wr.cell? ⟨w.heap.size + 1, 0, none⟩ = some (.slice At nt ct) := by rw [zA HO.out.sv, HV.out.2.1]; rfl);(have hnt : nt = s.t.length := by rw [← HH.out.2.1.len]; simp [tb2])
   have hdo := rdo_any (HH.out.2.1.below HO.out.bel) HB.out.2.2.2.1.srt (HH.out.2.2.2.1.below HO.out.bel) (by
    have h1 := wtT_len s.t;have h2 := wtC_len l;have h3 := HB.out.2.2.2.1.wt;have h4 := HB.out.2.2.2.2.1;have h5 := HB.out.2.2.2.2.2.1;have h6 := HH.out.2.2.2.2;omega)
   clear hnt;obtain ⟨B, hB⟩ := sqz (chsB l);obtain ⟨T', hT'⟩ := sqz (doL s.t l);rw [← hT'] at hdo;obtain ⟨SB, hSB⟩ := sqz (st B);have HN0 := sq3 hB hSB hT';clear hB hSB hT'
   go_upto_region 12 with (go_at_call 34; refine hdo.mono ?_; clear hdo; rintro _ w3 ⟨At', nt', ct', rfl, hct, hb3⟩)
   have H3 := sq2 (HO.out.below hb3) (hct.mono (T := fun k => U k ∨ w.heap.size ≤ k) fun k _ h => h.imp id fun h => Nat.le_trans HO.out.bel.size h);clear hct hb3;have hsm := rcsome_any (HH.out.2.2.2.1.below H3.out.1.bel) (by have := HB.out.2.2.2.2.2.1; omega);rw [← HN0.out.1, ← HN0.out.2.1] at hsm;clear hat HO
   go_upto_region 13 with (go_at_call 39; refine hsm.mono ?_; clear hsm; rintro _ w4 ⟨rfl, hb4⟩)
   have H4 := sq2 (H3.out.1.below hb4) (H3.out.2.below hb4);clear hb4;(have hdl : w4.cell? ⟨w.heap.size, 0, none⟩ = some (.slice A nl c) := by rw [zA H4.out.1.dv, HV.out.1]; rfl);obtain ⟨n, hn⟩ := sqz (Go.Proofs.YtmioifcbkhpdaaaGreat.hn d)
   have hq : IntKind.i64.wrap ((nl : Int) / 2) = (n : Int) := by
    have h1 : Go.Proofs.YtmioifcbkhpdaaaGreat.hn d = d.l.length / 2 := rfl;have h2 := HH.out.1.len;have h3 := HB.out.2.1;rw [IntWalk.i64_in _ (by omega)];omega
   have hzl := yb;obtain ⟨ZL, hZL⟩ := sqz (lmV lm0 none 0 0);rw [← hZL] at hzl;obtain ⟨LV, hLV⟩ := sqz (lmV s.log A2 n2 c2)
   have HL : Hid (LV = lmV s.log A2 n2 c2 ∧ LV.size = 7 ∧ ZL.size = 7 ∧ LV.all (·.oneCell') = true ∧ ∀ u v, LV[u]? = some v → w4.cell? ((⟨w.heap.size + 1, 2, none⟩ : Addr).add u) = some v) := Lib.hid ⟨hLV, by rw [hLV]; rfl, by rw [hZL]; rfl, by rw [hLV]; exact zw _ _ _ _, fun u v hu => by
    rw [zK, zA H4.out.1.sv, HV.out.2.1];rw [hLV] at hu;exact lm_in_sm _ _ _ _ _ _ _ hu⟩
   (have hhf : w4.cell? ⟨w.heap.size + 1, 1, none⟩ = some (.int .i64 (s.half : Int)) := by rw [zA H4.out.1.sv, HV.out.2.1]; rfl);(have htn : w4.cell? ⟨w.heap.size + 1, 9, none⟩ = some (.int .i64 (s.turns : Int)) := by rw [zA H4.out.1.sv, HV.out.2.1]; rfl);have HN := sq2 hn HN0.out;clear hZL hLV hn H3 HN0
   go_upto_region 16 with (first
    | (refine sqwa 55 HL.out.2.2.2.2 Tryz.underlying39 (by rw [HL.out.2.1]; exact zL) ?_)
    | (refine zl 15 56 LV (heap_alloc_new w4 _) (by rw [HL.out.2.1]; exact zL) (by rw [HL.out.2.1, HL.out.2.2.1]) HL.out.2.2.2.1 ?_
       have hbS : Below w4.heap.size w4 ((w4.alloc (.cells ZL 39)).setRow w4.heap.size LV) := zD ((Below.refl _ _).alloc (Nat.le_refl _) _) (Nat.le_refl _) _
       have H5 : Hid (RaW w DV SV ZD ZS ((w4.alloc (.cells ZL 39)).setRow w4.heap.size LV) ∧ ((w4.alloc (.cells ZL 39)).setRow w4.heap.size LV).heap[w4.heap.size]? = some (.cells LV 39 (0, 0)) ∧ w.heap.size + 4 ≤ w4.heap.size ∧ Cms ((w4.alloc (.cells ZL 39)).setRow w4.heap.size LV) (fun k => U k ∨ w.heap.size ≤ k) At' nt' ct' (tb2 T')) :=
        Lib.hid ⟨H4.out.1.below hbS, zF (heap_alloc_new w4 _), by have := zB H4.out.1.rs; omega, H4.out.2.below hbS⟩
       have hhf5 : ((w4.alloc (.cells ZL 39)).setRow w4.heap.size LV).cell? ⟨w.heap.size + 1, 1, none⟩ = some (.int .i64 (s.half : Int)) := (hbS.cell (p := ⟨w.heap.size + 1, 1, none⟩) (zB H4.out.1.sv)).trans hhf;have htn5 : ((w4.alloc (.cells ZL 39)).setRow w4.heap.size LV).cell? ⟨w.heap.size + 1, 9, none⟩ = some (.int .i64 (s.turns : Int)) := (hbS.cell (p := ⟨w.heap.size + 1, 9, none⟩) (zB H4.out.1.sv)).trans htn;clear hbS
       generalize (w4.alloc (.cells ZL 39)).setRow w4.heap.size LV = w5 at H5 hhf5 htn5 ⊢
       generalize w4.heap.size = q at H5 ⊢))
   clear hhf htn hdl
   go_upto_region 18 with fail
   clear hhf5 htn5 hzl;have HRA := HR;clear HR
   have HC : Hid (∀ W : World, Below w5.drew.heap.size w5.drew W → W.cell? ⟨q, 5, none⟩ = some (.slice A2 n2 c2) ∧ W.cell? ⟨q, 4, none⟩ = some (.int .i64 (s.log.have_ : Int))) := Lib.hid fun W hW => by
    have hr : W.heap[q]? = some (.cells LV 39 (0, 0)) := (hW.block q (zB H5.out.2.1)).trans H5.out.2.1;exact ⟨by rw [zA hr, HL.out.1]; rfl, by rw [zA hr, HL.out.1]; rfl⟩
   obtain ⟨BL, hBL⟩ := sqz B.length;(have hsz : SB.size = BL := by rw [HN.out.2.2.1, zN, hBL]);obtain ⟨K, hK⟩ := sqz (zP B.length)
   have hBs : B.length ≤ 100000 := by
    have h2 := HB.out.2.2.2.2.2.1;have h1 := chsB_len l (by omega);rw [HN.out.2.1];omega
   have HBK : Hid (∀ W, Calls Tryz.prog 40 #[.int .i64 (BL : Int)] W fun e w' => e = .returned (.int .i64 (K : Int)) ∧ W = w') := Lib.hid fun W => by
    have h1 := xB (BL : Int) (by rw [hBL]; omega) W;rw [Int.toNat_natCast] at h1;rw [hK, ← hBL];exact h1
   obtain ⟨MM, hMM⟩ : ∃ MM : Int, MM = (n : Int) - (s.log.have_ : Int) := ⟨_, rfl⟩
   have hsub : IntKind.i64.wrap ((n : Int) - (s.log.have_ : Int)) = MM := by
    have h1 := HB.out.2.2.2.1.ok.log.have_;have h2 := HB.out.2.2.2.1.ok.log.n;have h3 := HB.out.2.2.2.2.2.2.1;have h4 := HN.out.1;rw [IntWalk.i64_in _ (by omega), hMM]
   have hle : ¬ (K : Int) ≤ MM := by
    have h3 := HB.out.2.2.2.2.2.2.1;have h4 := HN.out.1;have h5 := HCO.out.2;rw [hMM, hK, HN.out.2.1, h4];omega
   have hn2 : 0 < n2 := by
    have h1 := HH.out.2.2.1.len;rcases hl : s.log.l with _ | ⟨r, rest⟩
    ·exact absurd (HB.out.2.2.2.1.fst.1 hl).1 HCO.out.1
    ·rw [hl] at h1; simp at h1; omega
   (have hn2b : decide (0 < n2) = true := by simpa using hn2);have HBL := Lib.hid hBs;clear hBL hK hMM hBs;refine sqg [sqv (.pointer (some ⟨q, 5, none⟩)), sqv (.slice A2 n2 c2), sqv (.int .i64 (n2 : Int)), sqv (.bool true), sqv (.bool true), sqv (.string SB), sqv (.int .i64 (BL : Int)), sqv (.int .i64 (K : Int)), sqv (.int .i64 (n : Int)), sqv (.pointer (some ⟨q, 4, none⟩)), sqv (.int .i64 (s.log.have_ : Int)), sqv (.int .i64 MM), sqv (.bool false), sqv (.bool false)] 128 ?gmono ?gsteps ?gfin
   case gmono => (iterate 14 refine ⟨sqm, ?_⟩); trivial
   case gsteps =>
    show Grow.allBelow _ 14
    iterate 14 refine And.intro ?_ ?_
    exact trivial
    ·refine sqi ?_;intro E W ec eg ef hG hd hu R HR;have e15 : E (.tmp 15) = .pointer (some ⟨q, 0, none⟩) := hu 15;clear hd hu;go_simp;exact sqh HR
    ·refine sqi ?_;intro E W ec eg ef hG hd hu R HR;have e61 := sqe (hd 0 61);clear hd hu;have hx := (HC.out W hG).1;go_simp;exact sqh HR
    ·refine sqi ?_;intro E W ec eg ef hG hd hu R HR;have e62 := sqe (hd 1 62);clear hd hu;go_simp;exact sqh HR
    ·refine sqi ?_;intro E W ec eg ef hG hd hu R HR;have e63 := sqe (hd 2 63);clear hd hu;go_simp;exact sqh HR
    ·exact sqd 3 64
    ·exact yX 4 65 true 12
    ·refine sqo 4 65 ?_;intro E W ec eg ef hG hd hu R HR;have e66 := sqe (hd 5 66);clear hd hu;go_simp;exact sqh HR
    ·refine sqo 4 65 ?_;intro E W ec eg ef hG hd hu R HR;have e67 := sqe (hd 6 67);clear hd hu;have hcl := HBK.out W;go_simp;refine hcl.mono ?_;rintro _ w' ⟨rfl, rfl⟩;exact ⟨_, rfl, HR.out _ _ (Below.refl _ _) rfl⟩
    ·exact yX 4 65 true 13
    ·refine sqo 4 65 ?_;intro E W ec eg ef hG hd hu R HR;have e15 : E (.tmp 15) = .pointer (some ⟨q, 0, none⟩) := hu 15;clear hd hu;go_simp;exact sqh HR
    ·refine sqo 4 65 ?_;intro E W ec eg ef hG hd hu R HR;have e70 := sqe (hd 9 70);clear hd hu;have hx := (HC.out W hG).2;go_simp;exact sqh HR
    ·refine sqo 4 65 ?_;intro E W ec eg ef hG hd hu R HR;have e69 := sqe (hd 8 69);have e71 := sqe (hd 10 71);clear hd hu;go_simp;exact sqh HR
    ·refine sqo 4 65 ?_;intro E W ec eg ef hG hd hu R HR;have e68 := sqe (hd 7 68);have e72 := sqe (hd 11 72);clear hd hu;go_simp;exact sqh HR
    ·refine sqi ?_;intro E W ec eg ef hG hd hu R HR;have e65 := sqe (hd 4 65);have e73 := sqe (hd 12 73);clear hd hu;go_simp;exact sqh HR
   case gfin =>
    intro W hG
    iterate 14 (refine Grow.fin_dst (by rfl) ?_; rintro _ rfl)
    simp only [Act.put, sqp];refine Grow.fin_end ?_
    have H6 : Hid (RaW w DV SV ZD ZS W ∧ W.heap[q]? = some (.cells LV 39 (0, 0)) ∧ w.heap.size + 4 ≤ q ∧ Cms W (fun k => U k ∨ w.heap.size ≤ k) At' nt' ct' (tb2 T')) := Lib.hid (by
     have hd := (yG (Below.refl w5.heap.size w5)).trans hG;exact ⟨H5.out.1.below hd, (hd.block q (zB H5.out.2.1)).trans H5.out.2.1, H5.out.2.2.1, H5.out.2.2.2.below hd⟩)
    have HQQ := Lib.hid H5.out.2.2.1;clear hG HC H5 HBK hsub hle hn2 hn2b hsz
    (generalize W = w6 at H6 ⊢);obtain ⟨H1, hH1⟩ := sqz (1 - s.half);obtain ⟨TN, hTN⟩ := sqz (s.turns + 1);obtain ⟨F, hF⟩ := sqz (H1 * n);(have hH1l : H1 ≤ 1 := by omega)
    have hhs : IntKind.i64.wrap (1 - (s.half : Int)) = (H1 : Int) := by
     have h1 := HB.out.2.2.2.1.ok.half;rw [IntWalk.i64_in _ (by omega)];omega
    have htw : IntKind.i64.wrap ((s.turns : Int) + 1) = (TN : Int) := by
     have h1 := HB.out.2.2.2.1.ok.turns;rw [IntWalk.i64_in _ (by omega)];omega
    have hnl12 : n ≤ 12 := by
     have h1 : Go.Proofs.YtmioifcbkhpdaaaGreat.hn d = d.l.length / 2 := rfl;have h2 := HH.out.1.len;have h3 := HB.out.2.1;have h4 := HN.out.1;omega
    have hFi : (n : Int) * (H1 : Int) = (F : Int) := by
     rw [hF, Nat.mul_comm];simp
    have hmul : IntKind.i64.wrap ((n : Int) * (H1 : Int)) = (F : Int) := by
     have h5 : F ≤ 12 := by
      rw [hF];rcases (show H1 = 0 ∨ H1 = 1 by omega) with h | h <;> rw [h] <;> omega
     rw [hFi, IntWalk.i64_in _ (by omega)]
    (have hnx : w6.cell? ⟨w.heap.size + 1, 5, none⟩ = some (.int .u64 (s.log.next : Int)) := by rw [zA H6.out.1.sv, HV.out.2.1]; rfl);(have hbg := rwbegin_any (HH.out.1.below H6.out.1.bel) HB.out.1 (by have := HB.out.2.1; omega) (F : Int) (n : Int) s.log.next)
    have her : zo nl d.down (F : Int) (n : Int) = 30 := by
     have h1 := hn_err HB.out.2.2.1 H1 hH1l;rw [HH.out.1.len, ← HN.out.1, ← hF, HDN.out] at h1;rw [HDN.out]
     simpa using h1
    rw [her] at hbg;unfold xL at hbg;obtain ⟨MB, hMB⟩ := sqz lm0;rw [show (if (30 : Int) = 0 then zj (yd (zW d.l (F : Int) (n : Int)) (F : Int) (n : Int)) (F : Int) (n : Int) s.log.next else lm0) = MB from hMB.symm, ← HV.out.1] at hbg;obtain ⟨LB, hLB⟩ := sqz (lmV MB none 0 0);rw [← hLB] at hbg;have HLB : Hid (LB.size = 7 ∧ LB.all (·.oneCell') = true ∧ LB = lmV MB none 0 0) := Lib.hid ⟨by rw [hLB]; rfl, by rw [hLB]; exact zw _ _ _ _, hLB⟩;have HM := sq5 hMB hH1 hTN hF hH1l;clear hMB hLB hH1 hTN hF hH1l hFi hnl12 her
    go_upto_region 23 with (first
     | (refine yA 3 H6.out.1.dv Tryz.underlying30 (by rw [HV.out.2.2.1]; exact zI) ?_)
     | (go_at_call 33; refine hbg.mono ?_; clear hbg; rintro _ w7 ⟨rfl, hb7⟩
        have H7 : Hid (RaW w DV SV ZD ZS w7 ∧ w7.heap[q]? = some (.cells LV 39 (0, 0)) ∧ Cms w7 (fun k => U k ∨ w.heap.size ≤ k) At' nt' ct' (tb2 T')) := Lib.hid ⟨H6.out.1.below hb7, (hb7.block q (zB H6.out.2.1)).trans H6.out.2.1, H6.out.2.2.2.below hb7⟩;clear hb7)
     | (refine zl 15 97 LB H7.out.2.1 (by rw [HLB.out.1]; exact zL) (by rw [HL.out.2.1, HLB.out.1]) HLB.out.2.1 ?_
        (have hno : ∀ (i : Nat) (b : ByteArray), LV[i]? ≠ some (.string b) := by rw [HL.out.1]; exact lmV_no _ _ _ _);have H9 : Hid (RaW w DV SV ZD ZS (w7.setRow q LB) ∧ (w7.setRow q LB).heap[q]? = some (.cells LB 39 (0, 0)) ∧ Cms (w7.setRow q LB) (fun k => U k ∨ w.heap.size ≤ k) At' nt' ct' (tb2 T')) := Lib.hid ⟨H7.out.1.setO HQQ.out LB, zF H7.out.2.1, H7.out.2.2.set H7.out.2.1 hno LB⟩;clear hno H7
        generalize w7.setRow q LB = w8 at H9 ⊢))
    clear H6 hnx hmul hhs htw;have HW : Hid (zJ d s l = (d, s, 30)) := Lib.hid (by rw [HWT.out]; unfold yy; rw [HDN.out, if_pos rfl]);have HO := Lib.hid H9.out.1;clear H9;have HAP : Hid (zc d s l = (d, { s with e := 30 }, 30)) := Lib.hid (by rw [HRA.out, HW.out]; simp only; rw [if_neg (by decide), if_neg (by decide)]);obtain ⟨SV2, hSV2⟩ := sqz (SV.setIfInBounds 10 (.int .i64 30))
    have HS2 : Hid (SV2 = smV { s with e := 30 } At nt ct A2 n2 c2 ∧ SV2.size = 11 ∧ SV2.all (·.oneCell') = true) := by
     (have h : SV2 = smV { s with e := 30 } At nt ct A2 n2 c2 := by rw [hSV2, HV.out.2.1]; rfl);exact Lib.hid ⟨h, by rw [h]; rfl, by rw [h]; exact yL _ _ _ _ _ _ _⟩
    (have hc10 : w8.cell? ⟨w.heap.size + 1, 10, none⟩ = some (.int .i64 s.e) := by rw [zA HO.out.sv, HV.out.2.1]; rfl);have hf10 := zC HO.out.sv 10;have HO2 : Hid (RaW w DV SV2 ZD ZS (w8.setCell ⟨w.heap.size + 1, 10, none⟩ (.int .i64 30))) := Lib.hid (by rw [hSV2]; exact HO.out.setE 10 _);clear hSV2
    go_upto_region 29 with fail
    clear hc10 hf10 HO
    (generalize w8.setCell ⟨w.heap.size + 1, 10, none⟩ (.int .i64 30) = w9 at HO2 ⊢);refine sqpl (fun W => ∃ RD RS, RaW w DV SV2 RD RS W) [([0, 1, 2], 3), ([], 4)] [5] ⟨_, _, HO2.out.drew⟩ ?_;have HD := Lib.hid HO2.out.drew;clear HO2
    (generalize (w9).drew = wd at *);refine zR ?_;refine zE (.agg DV) (by rfl) (by rfl) (fun W hW => yU 3 hW.choose_spec.choose_spec.dv Tryz.underlying30 (by rw [HV.out.2.2.1]; exact zI)) ?_
    try simp only [Act.put, sqp]
    refine zE (.agg SV2) (by rfl) (by rfl) (fun W hW => yU 4 hW.choose_spec.choose_spec.sv Tryz.underlying41 (by rw [HS2.out.2.1]; exact za)) ?_
    try simp only [Act.put, sqp]
    refine sqr ?_
    try simp only [Act.put, sqp]
    refine zH ?_;refine yO 6 119 DV HD.out.rd (by rw [HV.out.2.2.1]; exact zI) (by rw [HV.out.2.2.2.2.1, HV.out.2.2.1]) (HV.out.2.2.2.2.2.2.1) ?_;have HE := Lib.hid (HD.out.setRD DV);clear HD
    (generalize wd.setRow (w.heap.size + 2) DV = we at *);refine ⟨fun W => ∃ RD RS, RaW w DV SV2 RD RS W, ⟨_, _, HE.out⟩, fun _ h => h, ?_⟩
    try simp only [Act.put]
    refine zR ?_;refine zH ?_;refine yO 7 120 SV2 HE.out.rs (by rw [HS2.out.2.1]; exact za) (by rw [HV.out.2.2.2.2.2.1, HS2.out.2.1]) (HS2.out.2.2) ?_;have HF := Lib.hid (HE.out.setRS SV2);clear HE
    (generalize we.setRow (w.heap.size + 3) SV2 = wf at *);refine ⟨fun W => W = wf, rfl, fun W (e : W = wf) => ⟨_, _, e ▸ HF.out⟩, ?_⟩;refine zZ ?_
    try simp only [Act.put]
    repeat (refine zb (by rfl) (fun K hK => ?_); go_simp; refine hK _ ?_; clear hK K)
    refine zH ?_
    go_wp2_with fail
    (try simp only [Exit.inBlock, Exit.then])
    refine bodyPost_ret (yY (p := 6) (q := 7) (u := 8) rfl _ HF.out rfl rfl (by rw [HV.out.2.2.1]) (by rw [HS2.out.2.1])) rfl ?_;rw [HAP.out];exact ⟨A, c, At, nt, ct, A2, n2, c2, by rw [HV.out.1, HS2.out.1]; rfl, (HH.out.1.below HF.out.bel).mono fun _ _ h => .inl h, (HH.out.2.1.below HF.out.bel).mono fun _ _ h => .inl h, (HH.out.2.2.1.below HF.out.bel).mono fun _ _ h => .inl h, HF.out.bel⟩
end Go.Proofs.YtmioifcbkhpdaaaGreat
