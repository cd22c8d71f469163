/-
  The laws' example: a name that is kept, and there again (what it comes to by the kernel's own reckoning).
-/
import Derived.Test.YtmioifcbkhpdaaaGreatPkPl23
import Derived.Test.YtmioifcbkhpdaaaGreatPkPl02
import Derived.Test.YtmioifcbkhpdaaaGreatPkPl26
import Derived.Test.YtmioifcbkhpdaaaGreatPkPl27
import Derived.Test.YtmioifcbkhpdaaaGreatPkPl28
import Derived.Test.YtmioifcbkhpdaaaGreatPkPl24
import Derived.Test.YtmioifcbkhpdaaaGreatPkPl21
import Derived.Test.YtmioifcbkhpdaaaGreatPkPl08
import Derived.Test.YtmioifcbkhpdaaaGreatPkPl03
import Derived.Test.YtmioifcbkhpdaaaGreatPkPl01
namespace Go.Proofs.YtmioifcbkhpdaaaGreat
set_option maxHeartbeats 16000000
set_option maxRecDepth 100000
open Go.RowKit Codec
theorem rcapply_turn1 {w : World} {U V : Nat → Prop} {A At A2 A3 : Option Addr} {nl c nt ct n2 c2 n3 c3 : Nat} {d : DM} {s : SM} {l : List Ch} (h : Strs w U A nl c d.l) (ht : Cms w U At nt ct (tb2 s.t)) (h2 : Strs w U A2 n2 c2 s.log.l) (hc : Cms w V A3 n3 c3 l) (he0 : s.e = 0) (hmay : ∀ x ∈ l, zq x = true) (ok : d.Ok) (hnl : nl ≤ 24) (h1 : 1 ≤ hn d) {X : Nat} (hv : SInv s X) (hX : X ≤ 500) (hw : wtC l ≤ 768) (hln : s.log.n = (hn d : Int)) (hne : l ≠ []) (hcond : s.log.first ≠ 0 ∧ ¬ (zP (chsB l).length : Int) ≤ s.log.n - (s.log.have_ : Int)) (hdn : d.down = false) : Calls Tryz.prog 11 #[.agg (dmV d A nl c), .agg (smV s At nt ct A2 n2 c2), .slice A3 n3 c3] w fun e w' => RapPost w U nl (zc d s l) e w' := by
 have href : yu s l = 0 := by
  unfold yu;rw [if_neg (by simp [he0]), if_pos (by rw [List.all_eq_true]; exact hmay)]
 have HMAY := Lib.hid hmay;clear hmay
 have hr : zc d s l = if (zJ d s l).2.2 = 0 then ((zJ d s l).1, { (zJ d s l).2.1 with t := doL s.t l }, 0) else ((zJ d s l).1, (if (zJ d s l).2.2 = 31 then s else { s with e := (zJ d s l).2.2 }), (zJ d s l).2.2) := by
  unfold zc;rw [href, if_neg (by simp [hne])]
 have HB := sq8 ok hnl h1 hv hX hw hln hne;have HR := Lib.hid hr;have HRF := Lib.hid href;have HZE := Lib.hid he0;clear hr href ok hnl h1 hv hX hw hln hne;have HWT : Hid (zJ d s l = yy d s l) := Lib.hid (by unfold zJ; rw [if_neg (by intro h; exact hcond.2 h.2)]);have HCO := Lib.hid hcond;have HDN := Lib.hid hdn;clear hcond hdn;have hz := zero_sm;have hzd := xT;obtain ⟨ZS, hZS⟩ := sqz (smV sm0 none 0 0 none 0 0);rw [← hZS] at hz;obtain ⟨ZD, hZD⟩ := sqz dz;rw [← hZD] at hzd;obtain ⟨DV, hDV⟩ := sqz (dmV d A nl c);rw [← hDV];obtain ⟨SV, hSV⟩ := sqz (smV s At nt ct A2 n2 c2);rw [← hSV];have hO := raw_start w DV SV ZD ZS;have HV : Hid (DV = dmV d A nl c ∧ SV = smV s At nt ct A2 n2 c2 ∧ DV.size = 4 ∧ SV.size = 11 ∧ ZD.size = 4 ∧ ZS.size = 11 ∧ DV.all (·.oneCell') = true ∧ SV.all (·.oneCell') = true ∧ (∀ (i : Nat) (b : ByteArray), ZD[i]? ≠ some (.string b)) ∧ (∀ (i : Nat) (b : ByteArray), ZS[i]? ≠ some (.string b))) := Lib.hid ⟨hDV, hSV, by rw [hDV]; rfl, by rw [hSV]; rfl, by rw [hZD]; rfl, by rw [hZS]; rfl, by rw [hDV]; exact zt _ _ _ _, by rw [hSV]; exact yL _ _ _ _ _ _ _, by rw [hZD]; exact dmV_no ⟨[], 0, 0, false⟩ none 0 0, by rw [hZS]; exact smV_no _ _ _ _ _ _ _⟩;have HH := sq5 h ht h2 hc hc.len;clear hZS hZD hDV hSV h ht h2 hc
 go_enter Tryz.func11, Tryz.ntmps11
 go_upto_region 1 with fail
 generalize ((((w.alloc (.cells DV 30)).alloc (.cells SV 41)).alloc (.cells ZD 30)).alloc (.cells ZS 41)) = w2 at *
 have HO := Lib.hid hO;clear hO hz hzd;have hce : w2.cell? ⟨w.heap.size + 1, 10, none⟩ = some (.int .i64 s.e) := by rw [zA HO.out.sv, HV.out.2.1]; rfl
 have hce' : (s.e != 0) = false := by simpa using he0
 go_upto_region 3 with fail
 clear hce hce'
 go_upto_region 4 with fail
 go_loopw [9] (fun iv wr => ∃ j : Nat, j ≤ n3 ∧ iv = .int .i64 (j : Int) ∧ RaW w DV SV ZD ZS wr ∧ ∀ x ∈ l.take j, zq x = true) (fun iv _ => n3 - (intOf iv).toNat)
 case atStart => exact ⟨0, Nat.zero_le _, rfl, HO.out, by simp⟩
 case round =>
  obtain ⟨j, hj, rfl, hO, hall⟩ := hrel;clear HO
  by_cases hlt : j < n3
  ·(have hlt' : (j : Int) < (n3 : Int) := by omega);(obtain ⟨x, hx⟩ : ∃ x, l[j]? = some x := ⟨_, List.getElem?_eq_getElem (by rw [HH.out.2.2.2.2]; exact hlt)⟩);obtain ⟨b, off, hA, _, hbl, hrow⟩ := HH.out.2.2.2.1.row (by omega);subst hA;obtain ⟨XS, hXS⟩ := sqz (cmV x)
   have HX : Hid (XS.size = 3 ∧ ∀ u v, XS[u]? = some v → wr.cell? ((⟨b, off + j * 3, none⟩ : Addr).add u) = some v) := Lib.hid ⟨by rw [hXS]; rfl, fun u v hu => by
    rw [zK];exact (hO.bel.cell (p := ⟨b, _, none⟩) hbl).trans (hrow j x hx u v (by rw [hXS] at hu; exact hu))⟩
   obtain ⟨Z, hZ⟩ := sqz (zq x);have hmy := xG x wr;rw [← hZ, ← hXS] at hmy;have hjj := IntWalk.i64_in ((j : Int) + 1) (by have := HH.out.2.2.2.1.max; have := HH.out.2.2.2.1.cap; unfold maxLen at *; omega);have HJ := sq5 hlt hx hZ hall hO;clear hXS hZ hrow hbl hx hlt hj hall hO
   go_wp2_with (first
    | (refine sqwa 33 HX.out.2 Tryz.underlying95 (by rw [HX.out.1]; exact xN) ?_)
    | (go_at_call 38; refine hmy.mono ?_; clear hmy; rintro _ w3 ⟨rfl, hb3⟩; have HO := Lib.hid (HJ.out.2.2.2.2.below hb3); clear hb3; cases Z))
   ·have hz : zq x = true := HMAY.out x (List.mem_of_getElem? HJ.out.2.1);rw [hz] at HJ;exact absurd HJ.out.2.2.1 (by decide)
   ·go_wp2
    exact ⟨⟨j + 1, HJ.out.1, by simp, HO.out, fun y hy => by
     rw [List.take_add_one, HJ.out.2.1, List.mem_append] at hy;rcases hy with hy | hy
     ·exact HJ.out.2.2.2.1 y hy
     ·simp at hy; rw [hy]; exact HJ.out.2.2.1.symm⟩, by have := HJ.out.1; simp only [intOf]; omega⟩
  ·(obtain rfl : j = n3 := by omega);(have hlt' : ¬ (j : Int) < (j : Int) := by omega);have HO := Lib.hid hO;(have HALL : Hid (∀ x ∈ l, zq x = true) := Lib.hid fun x hx => hall x (by rw [List.take_of_length_le (by have := HH.out.2.2.2.2; omega)]; exact hx));clear hlt hj hall hO
   have hj0 : ((j : Int) == 0) = false := by
    have : j ≠ 0 := fun e => HB.out.2.2.2.2.2.2.2 (List.eq_nil_of_length_eq_zero (by rw [HH.out.2.2.2.2, e]))
    simpa using this
   (have hat : wr.cell? ⟨w.heap.size + 1, 0, none⟩ = some (.slice At nt ct) := by rw [zA HO.out.sv, HV.out.2.1]; rfl);(have hnt : nt = s.t.length := by rw [← HH.out.2.1.len]; simp [tb2])
   have hdo := rdo_any (HH.out.2.1.below HO.out.bel) HB.out.2.2.2.1.srt (HH.out.2.2.2.1.below HO.out.bel) (by
    have h1 := wtT_len s.t;have h2 := wtC_len l;have h3 := HB.out.2.2.2.1.wt;have h4 := HB.out.2.2.2.2.1;have h5 := HB.out.2.2.2.2.2.1;have h6 := HH.out.2.2.2.2;omega)
   clear hnt;obtain ⟨B, hB⟩ := sqz (chsB l);obtain ⟨T', hT'⟩ := sqz (doL s.t l);rw [← hT'] at hdo;obtain ⟨SB, hSB⟩ := sqz (st B);have HN0 := sq3 hB hSB hT';clear hB hSB hT'
   go_upto_region 12 with (go_at_call 34; refine hdo.mono ?_; clear hdo; rintro _ w3 ⟨At', nt', ct', rfl, hct, hb3⟩)
   have H3 := sq2 (HO.out.below hb3) (hct.mono (T := fun k => U k ∨ w.heap.size ≤ k) fun k _ h => h.imp id fun h => Nat.le_trans HO.out.bel.size h);clear hct hb3;have hsm := rcsome_any (HH.out.2.2.2.1.below H3.out.1.bel) (by have := HB.out.2.2.2.2.2.1; omega);rw [← HN0.out.1, ← HN0.out.2.1] at hsm;clear hat HO
   go_upto_region 13 with (go_at_call 39; refine hsm.mono ?_; clear hsm; rintro _ w4 ⟨rfl, hb4⟩)
   have H4 := sq2 (H3.out.1.below hb4) (H3.out.2.below hb4);clear hb4;(have hdl : w4.cell? ⟨w.heap.size, 0, none⟩ = some (.slice A nl c) := by rw [zA H4.out.1.dv, HV.out.1]; rfl);obtain ⟨n, hn⟩ := sqz (Go.Proofs.YtmioifcbkhpdaaaGreat.hn d)
   have hq : IntKind.i64.wrap ((nl : Int) / 2) = (n : Int) := by
    have h1 : Go.Proofs.YtmioifcbkhpdaaaGreat.hn d = d.l.length / 2 := rfl;have h2 := HH.out.1.len;have h3 := HB.out.2.1;rw [IntWalk.i64_in _ (by omega)];omega
   have hzl := yb;obtain ⟨ZL, hZL⟩ := sqz (lmV lm0 none 0 0);rw [← hZL] at hzl;obtain ⟨LV, hLV⟩ := sqz (lmV s.log A2 n2 c2)
   have HL : Hid (LV = lmV s.log A2 n2 c2 ∧ LV.size = 7 ∧ ZL.size = 7 ∧ LV.all (·.oneCell') = true ∧ ∀ u v, LV[u]? = some v → w4.cell? ((⟨w.heap.size + 1, 2, none⟩ : Addr).add u) = some v) := Lib.hid ⟨hLV, by rw [hLV]; rfl, by rw [hZL]; rfl, by rw [hLV]; exact zw _ _ _ _, fun u v hu => by
    rw [zK, zA H4.out.1.sv, HV.out.2.1];rw [hLV] at hu;exact lm_in_sm _ _ _ _ _ _ _ hu⟩
   (have hhf : w4.cell? ⟨w.heap.size + 1, 1, none⟩ = some (.int .i64 (s.half : Int)) := by rw [zA H4.out.1.sv, HV.out.2.1]; rfl);(have htn : w4.cell? ⟨w.heap.size + 1, 9, none⟩ = some (.int .i64 (s.turns : Int)) := by rw [zA H4.out.1.sv, HV.out.2.1]; rfl);have HN := sq2 hn HN0.out;clear hZL hLV hn H3 HN0
   go_upto_region 16 with (first
    | (refine sqwa 55 HL.out.2.2.2.2 Tryz.underlying39 (by rw [HL.out.2.1]; exact zL) ?_)
    | (refine zl 15 56 LV (heap_alloc_new w4 _) (by rw [HL.out.2.1]; exact zL) (by rw [HL.out.2.1, HL.out.2.2.1]) HL.out.2.2.2.1 ?_
       have hbS : Below w4.heap.size w4 ((w4.alloc (.cells ZL 39)).setRow w4.heap.size LV) := zD ((Below.refl _ _).alloc (Nat.le_refl _) _) (Nat.le_refl _) _
       have H5 : Hid (RaW w DV SV ZD ZS ((w4.alloc (.cells ZL 39)).setRow w4.heap.size LV) ∧ ((w4.alloc (.cells ZL 39)).setRow w4.heap.size LV).heap[w4.heap.size]? = some (.cells LV 39 (0, 0)) ∧ w.heap.size + 4 ≤ w4.heap.size ∧ Cms ((w4.alloc (.cells ZL 39)).setRow w4.heap.size LV) (fun k => U k ∨ w.heap.size ≤ k) At' nt' ct' (tb2 T')) :=
        Lib.hid ⟨H4.out.1.below hbS, zF (heap_alloc_new w4 _), by have := zB H4.out.1.rs; omega, H4.out.2.below hbS⟩
       have hhf5 : ((w4.alloc (.cells ZL 39)).setRow w4.heap.size LV).cell? ⟨w.heap.size + 1, 1, none⟩ = some (.int .i64 (s.half : Int)) := (hbS.cell (p := ⟨w.heap.size + 1, 1, none⟩) (zB H4.out.1.sv)).trans hhf;have htn5 : ((w4.alloc (.cells ZL 39)).setRow w4.heap.size LV).cell? ⟨w.heap.size + 1, 9, none⟩ = some (.int .i64 (s.turns : Int)) := (hbS.cell (p := ⟨w.heap.size + 1, 9, none⟩) (zB H4.out.1.sv)).trans htn;clear hbS
       generalize (w4.alloc (.cells ZL 39)).setRow w4.heap.size LV = w5 at H5 hhf5 htn5 ⊢
       generalize w4.heap.size = q at H5 ⊢))
   clear hhf htn hdl
   go_upto_region 18 with fail
   clear hhf5 htn5 hzl;have HRA := HR;clear HR
   have HC : Hid (∀ W : World, Below w5.drew.heap.size w5.drew W → W.cell? ⟨q, 5, none⟩ = some (.slice A2 n2 c2) ∧ W.cell? ⟨q, 4, none⟩ = some (.int .i64 (s.log.have_ : Int))) := Lib.hid fun W hW => by
    have hr : W.heap[q]? = some (.cells LV 39 (0, 0)) := (hW.block q (zB H5.out.2.1)).trans H5.out.2.1;exact ⟨by rw [zA hr, HL.out.1]; rfl, by rw [zA hr, HL.out.1]; rfl⟩
   obtain ⟨BL, hBL⟩ := sqz B.length;(have hsz : SB.size = BL := by rw [HN.out.2.2.1, zN, hBL]);obtain ⟨K, hK⟩ := sqz (zP B.length)
   have hBs : B.length ≤ 100000 := by
    have h2 := HB.out.2.2.2.2.2.1;have h1 := chsB_len l (by omega);rw [HN.out.2.1];omega
   have HBK : Hid (∀ W, Calls Tryz.prog 40 #[.int .i64 (BL : Int)] W fun e w' => e = .returned (.int .i64 (K : Int)) ∧ W = w') := Lib.hid fun W => by
    have h1 := xB (BL : Int) (by rw [hBL]; omega) W;rw [Int.toNat_natCast] at h1;rw [hK, ← hBL];exact h1
   obtain ⟨MM, hMM⟩ : ∃ MM : Int, MM = (n : Int) - (s.log.have_ : Int) := ⟨_, rfl⟩
   have hsub : IntKind.i64.wrap ((n : Int) - (s.log.have_ : Int)) = MM := by
    have h1 := HB.out.2.2.2.1.ok.log.have_;have h2 := HB.out.2.2.2.1.ok.log.n;have h3 := HB.out.2.2.2.2.2.2.1;have h4 := HN.out.1;rw [IntWalk.i64_in _ (by omega), hMM]
   have hle : ¬ (K : Int) ≤ MM := by
    have h3 := HB.out.2.2.2.2.2.2.1;have h4 := HN.out.1;have h5 := HCO.out.2;rw [hMM, hK, HN.out.2.1, h4];omega
   have hn2 : 0 < n2 := by
    have h1 := HH.out.2.2.1.len;rcases hl : s.log.l with _ | ⟨r, rest⟩
    ·exact absurd (HB.out.2.2.2.1.fst.1 hl).1 HCO.out.1
    ·rw [hl] at h1; simp at h1; omega
   (have hn2b : decide (0 < n2) = true := by simpa using hn2);have HBL := Lib.hid hBs;clear hBL hK hMM hBs;refine sqg [sqv (.pointer (some ⟨q, 5, none⟩)), sqv (.slice A2 n2 c2), sqv (.int .i64 (n2 : Int)), sqv (.bool true), sqv (.bool true), sqv (.string SB), sqv (.int .i64 (BL : Int)), sqv (.int .i64 (K : Int)), sqv (.int .i64 (n : Int)), sqv (.pointer (some ⟨q, 4, none⟩)), sqv (.int .i64 (s.log.have_ : Int)), sqv (.int .i64 MM), sqv (.bool false), sqv (.bool false)] 128 ?gmono ?gsteps ?gfin
   case gmono => (iterate 14 refine ⟨sqm, ?_⟩); trivial
   case gsteps =>
    show Grow.allBelow _ 14
    iterate 14 refine And.intro ?_ ?_
    exact trivial
    ·refine sqi ?_;intro E W ec eg ef hG hd hu R HR;have e15 : E (.tmp 15) = .pointer (some ⟨q, 0, none⟩) := hu 15;clear hd hu;go_simp;exact sqh HR
    ·refine sqi ?_;intro E W ec eg ef hG hd hu R HR;have e61 := sqe (hd 0 61);clear hd hu;have hx := (HC.out W hG).1;go_simp;exact sqh HR
    ·refine sqi ?_;intro E W ec eg ef hG hd hu R HR;have e62 := sqe (hd 1 62);clear hd hu;go_simp;exact sqh HR
    ·refine sqi ?_;intro E W ec eg ef hG hd hu R HR;have e63 := sqe (hd 2 63);clear hd hu;go_simp;exact sqh HR
    ·exact sqd 3 64
    ·exact yX 4 65 true 12
    ·refine sqo 4 65 ?_;intro E W ec eg ef hG hd hu R HR;have e66 := sqe (hd 5 66);clear hd hu;go_simp;exact sqh HR
    ·refine sqo 4 65 ?_;intro E W ec eg ef hG hd hu R HR;have e67 := sqe (hd 6 67);clear hd hu;have hcl := HBK.out W;go_simp;refine hcl.mono ?_;rintro _ w' ⟨rfl, rfl⟩;exact ⟨_, rfl, HR.out _ _ (Below.refl _ _) rfl⟩
    ·exact yX 4 65 true 13
    ·refine sqo 4 65 ?_;intro E W ec eg ef hG hd hu R HR;have e15 : E (.tmp 15) = .pointer (some ⟨q, 0, none⟩) := hu 15;clear hd hu;go_simp;exact sqh HR
    ·refine sqo 4 65 ?_;intro E W ec eg ef hG hd hu R HR;have e70 := sqe (hd 9 70);clear hd hu;have hx := (HC.out W hG).2;go_simp;exact sqh HR
    ·refine sqo 4 65 ?_;intro E W ec eg ef hG hd hu R HR;have e69 := sqe (hd 8 69);have e71 := sqe (hd 10 71);clear hd hu;go_simp;exact sqh HR
    ·refine sqo 4 65 ?_;intro E W ec eg ef hG hd hu R HR;have e68 := sqe (hd 7 68);have e72 := sqe (hd 11 72);clear hd hu;go_simp;exact sqh HR
    ·refine sqi ?_;intro E W ec eg ef hG hd hu R HR;have e65 := sqe (hd 4 65);have e73 := sqe (hd 12 73);clear hd hu;go_simp;exact sqh HR
   case gfin =>
    intro W hG
    iterate 14 (refine Grow.fin_dst (by rfl) ?_; rintro _ rfl)
    simp only [Act.put, sqp];refine Grow.fin_end ?_
    have H6 : Hid (RaW w DV SV ZD ZS W ∧ W.heap[q]? = some (.cells LV 39 (0, 0)) ∧ w.heap.size + 4 ≤ q ∧ Cms W (fun k => U k ∨ w.heap.size ≤ k) At' nt' ct' (tb2 T')) := Lib.hid (by
     have hd := (yG (Below.refl w5.heap.size w5)).trans hG;exact ⟨H5.out.1.below hd, (hd.block q (zB H5.out.2.1)).trans H5.out.2.1, H5.out.2.2.1, H5.out.2.2.2.below hd⟩)
    have HQQ := Lib.hid H5.out.2.2.1;clear hG HC H5 HBK hsub hle hn2 hn2b hsz
    (generalize W = w6 at H6 ⊢);obtain ⟨H1, hH1⟩ := sqz (1 - s.half);obtain ⟨TN, hTN⟩ := sqz (s.turns + 1);obtain ⟨F, hF⟩ := sqz (H1 * n);(have hH1l : H1 ≤ 1 := by omega)
    have hhs : IntKind.i64.wrap (1 - (s.half : Int)) = (H1 : Int) := by
     have h1 := HB.out.2.2.2.1.ok.half;rw [IntWalk.i64_in _ (by omega)];omega
    have htw : IntKind.i64.wrap ((s.turns : Int) + 1) = (TN : Int) := by
     have h1 := HB.out.2.2.2.1.ok.turns;rw [IntWalk.i64_in _ (by omega)];omega
    have hnl12 : n ≤ 12 := by
     have h1 : Go.Proofs.YtmioifcbkhpdaaaGreat.hn d = d.l.length / 2 := rfl;have h2 := HH.out.1.len;have h3 := HB.out.2.1;have h4 := HN.out.1;omega
    have hFi : (n : Int) * (H1 : Int) = (F : Int) := by
     rw [hF, Nat.mul_comm];simp
    have hmul : IntKind.i64.wrap ((n : Int) * (H1 : Int)) = (F : Int) := by
     have h5 : F ≤ 12 := by
      rw [hF];rcases (show H1 = 0 ∨ H1 = 1 by omega) with h | h <;> rw [h] <;> omega
     rw [hFi, IntWalk.i64_in _ (by omega)]
    (have hnx : w6.cell? ⟨w.heap.size + 1, 5, none⟩ = some (.int .u64 (s.log.next : Int)) := by rw [zA H6.out.1.sv, HV.out.2.1]; rfl);(have hbg := rwbegin_any (HH.out.1.below H6.out.1.bel) HB.out.1 (by have := HB.out.2.1; omega) (F : Int) (n : Int) s.log.next)
    have her : zo nl d.down (F : Int) (n : Int) = 0 := by
     have h1 := hn_err HB.out.2.2.1 H1 hH1l;rw [HH.out.1.len, ← HN.out.1, ← hF, HDN.out] at h1;rw [HDN.out]
     simpa using h1
    rw [her] at hbg;unfold xL at hbg;(obtain ⟨MB, hMB⟩ : ∃ MB, MB = zj (yd (zW d.l (F : Int) (n : Int)) (F : Int) (n : Int)) (F : Int) (n : Int) s.log.next := ⟨_, rfl⟩);rw [show (if (0 : Int) = 0 then zj (yd (zW d.l (F : Int) (n : Int)) (F : Int) (n : Int)) (F : Int) (n : Int) s.log.next else lm0) = MB from hMB.symm, ← HV.out.1] at hbg;obtain ⟨LB, hLB⟩ := sqz (lmV MB none 0 0);rw [← hLB] at hbg;have HLB : Hid (LB.size = 7 ∧ LB.all (·.oneCell') = true ∧ LB = lmV MB none 0 0) := Lib.hid ⟨by rw [hLB]; rfl, by rw [hLB]; exact zw _ _ _ _, hLB⟩;have HM := sq5 hMB hH1 hTN hF hH1l;clear hMB hLB hH1 hTN hF hH1l hFi hnl12 her
    go_upto_region 23 with (first
     | (refine yA 3 H6.out.1.dv Tryz.underlying30 (by rw [HV.out.2.2.1]; exact zI) ?_)
     | (go_at_call 33; refine hbg.mono ?_; clear hbg; rintro _ w7 ⟨rfl, hb7⟩
        have H7 : Hid (RaW w DV SV ZD ZS w7 ∧ w7.heap[q]? = some (.cells LV 39 (0, 0)) ∧ Cms w7 (fun k => U k ∨ w.heap.size ≤ k) At' nt' ct' (tb2 T')) := Lib.hid ⟨H6.out.1.below hb7, (hb7.block q (zB H6.out.2.1)).trans H6.out.2.1, H6.out.2.2.2.below hb7⟩;clear hb7)
     | (refine zl 15 97 LB H7.out.2.1 (by rw [HLB.out.1]; exact zL) (by rw [HL.out.2.1, HLB.out.1]) HLB.out.2.1 ?_
        (have hno : ∀ (i : Nat) (b : ByteArray), LV[i]? ≠ some (.string b) := by rw [HL.out.1]; exact lmV_no _ _ _ _);have H9 : Hid (RaW w DV SV ZD ZS (w7.setRow q LB) ∧ (w7.setRow q LB).heap[q]? = some (.cells LB 39 (0, 0)) ∧ Cms (w7.setRow q LB) (fun k => U k ∨ w.heap.size ≤ k) At' nt' ct' (tb2 T')) := Lib.hid ⟨H7.out.1.setO HQQ.out LB, zF H7.out.2.1, H7.out.2.2.set H7.out.2.1 hno LB⟩;clear hno H7
        generalize w7.setRow q LB = w8 at H9 ⊢))
    clear H6 hnx hmul hhs htw
    go_upto_region 24 with fail
    have H9d : Hid (RaW w DV SV ZD ZS w8.drew ∧ w8.drew.heap[q]? = some (.cells LB 39 (0, 0)) ∧ Cms w8.drew (fun k => U k ∨ w.heap.size ≤ k) At' nt' ct' (tb2 T')) := Lib.hid ⟨H9.out.1.drew, H9.out.2.1, H9.out.2.2.below (yG (Below.refl _ _))⟩;clear H9;refine wp_region_dead (fun W => (∃ RD RS, RaW w DV SV RD RS W) ∧ W.heap[q]? = some (.cells LB 39 (0, 0))) [9, 10, 11] [5, 6, 7, 8] [([0, 1, 2], 3), ([], 4), ([5, 6, 7, 8], 9), ([], 10)] [11] (by kernel_rfl) (by kernel_rfl) (fun _ _ d _ _ h => by cases d <;> exact h) ⟨⟨_, _, H9d.out.1⟩, H9d.out.2.1⟩ ?_
    generalize w8.drew = wd at H9d ⊢
    have hwt : wtT T' ≤ 900000 := by
     have h1 := wtT_doL l s.t;have h2 := HB.out.2.2.2.1.wt;have h3 := HB.out.2.2.2.2.1;have h4 := HB.out.2.2.2.2.2.1;rw [HN.out.2.2.2];omega
    have hwh := rcwhole_any H9d.out.2.2 hwt;obtain ⟨BA, hBA⟩ := sqz (allB T');obtain ⟨SA, hSA⟩ := sqz (st BA);rw [← hBA, ← hSA] at hwh
    have HBA : Hid (BA = allB T' ∧ SA = st BA ∧ BA.length ≤ 1000000) := Lib.hid ⟨hBA, hSA, by rw [hBA]; exact allB_few (by
     have h1 := wtT_doL l s.t;have h2 := HB.out.2.2.2.1.wt;have h3 := HB.out.2.2.2.2.1;have h4 := HB.out.2.2.2.2.2.1;rw [HN.out.2.2.2];omega)⟩
    clear hBA hSA hwt;refine yn ?_;refine yg (.agg DV) (by rfl) (by rfl) (by rfl) (fun W hW => yU 3 hW.1.choose_spec.choose_spec.dv Tryz.underlying30 (by rw [HV.out.2.2.1]; exact zI)) ?_
    try simp only [Act.put, sqp]
    refine yg (.agg LB) (by rfl) (by rfl) (by rfl) (fun W hW => yU 15 hW.2 Tryz.underlying39 (by rw [HLB.out.1]; exact zL)) ?_
    try simp only [Act.put, sqp]
    refine yg ?v2 (by rfl) (by rfl) (by rfl) ?h2 ?_
    case h2 => intro W hW; go_simp; with_reducible rfl
    try simp only [Act.put, sqp]
    refine yj ?_;refine zr (by rfl) (fun K hK => ?_);go_simp;refine hwh.mono ?_;clear hwh;rintro _ w9 ⟨rfl, hb9⟩;have H10 : Hid (RaW w DV SV ZD ZS w9 ∧ w9.heap[q]? = some (.cells LB 39 (0, 0)) ∧ Cms w9 (fun k => U k ∨ w.heap.size ≤ k) At' nt' ct' (tb2 T')) := Lib.hid ⟨H9d.out.1.below hb9, (hb9.block q (zB H9d.out.2.1)).trans H9d.out.2.1, H9d.out.2.2.below hb9⟩;have hadd := rwadd_any ((HH.out.1.mono (T := fun k => U k ∨ w.heap.size ≤ k) fun _ _ h => .inl h).below H10.out.1.bel) (show Strs w9 (fun k => U k ∨ w.heap.size ≤ k) none 0 0 MB.l by rw [HM.out.1]; exact Strs.nil _ _ _ _ (Nat.zero_le _)) BA HB.out.1 (by have := HB.out.2.1; omega) HBA.out.2.2 (m := MB) (by rw [HM.out.1]; exact beginM_ok (half_okx HB.out.2.2.1 HH.out.1.len HB.out.2.1 HN.out.1 HM.out.2.2.2.1 HM.out.2.2.2.2) rfl rfl HB.out.2.2.2.1.ok.log.next);obtain ⟨r, hr⟩ := sqz (yJ d MB BA);rw [← hr, ← HV.out.1, ← HLB.out.2.2, ← HBA.out.2.1] at hadd;obtain ⟨r1, r2, E⟩ := r;have HR3 := Lib.hid hr;clear hr hb9 H9d;refine hK _ _ ⟨fun W => (∃ RD RS, RaW w DV SV RD RS W) ∧ W.heap[q]? = some (.cells LB 39 (0, 0)), ⟨⟨_, _, H10.out.1⟩, H10.out.2.1⟩, .inr fun _ h => h, ?_⟩;clear hK K;refine yn ?_;refine yj ?_;refine zr (by rfl) (fun K hK => ?_);go_simp;refine hadd.mono ?_;clear hadd;rintro _ w7 ⟨A', c', A2', n2', c2', rfl, hs1, hs2, hb7⟩;obtain ⟨DV2, hDV2⟩ := sqz (dmV r1 A' nl c');obtain ⟨LV2, hLV2⟩ := sqz (lmV r2 A2' n2' c2');rw [show dmV (r1, r2, E).1 A' nl c' = DV2 from hDV2.symm, show lmV (r1, r2, E).2.1 A2' n2' c2' = LV2 from hLV2.symm];have HV2 : Hid (DV2 = dmV r1 A' nl c' ∧ LV2 = lmV r2 A2' n2' c2' ∧ DV2.size = 4 ∧ LV2.size = 7 ∧ DV2.all (·.oneCell') = true ∧ LV2.all (·.oneCell') = true) := Lib.hid ⟨hDV2, hLV2, by rw [hDV2]; rfl, by rw [hLV2]; rfl, by rw [hDV2]; exact zt _ _ _ _, by rw [hLV2]; exact zw _ _ _ _⟩
    have H7 : Hid (RaW w DV SV ZD ZS w7 ∧ w7.heap[q]? = some (.cells LB 39 (0, 0)) ∧ Cms w7 (fun k => U k ∨ w.heap.size ≤ k) At' nt' ct' (tb2 T') ∧ Strs w7 (fun k => U k ∨ w.heap.size ≤ k) A' nl c' r1.l ∧ Strs w7 (fun k => U k ∨ w.heap.size ≤ k) A2' n2' c2' r2.l) :=
     Lib.hid ⟨H10.out.1.below hb7, (hb7.block q (zB H10.out.2.1)).trans H10.out.2.1, H10.out.2.2.below hb7, hs1.mono fun k _ h => h.elim id fun h => .inr (Nat.le_trans H10.out.1.bel.size h), hs2.mono fun k _ h => h.elim id fun h => .inr (Nat.le_trans H10.out.1.bel.size h)⟩
    clear hDV2 hLV2 hs1 hs2 hb7 H10;refine hK _ _ ⟨fun W => (∃ RD RS, RaW w DV SV RD RS W) ∧ W.heap[q]? = some (.cells LB 39 (0, 0)), ⟨⟨_, _, H7.out.1⟩, H7.out.2.1⟩, .inr fun _ h => h, ?_⟩;clear hK K;refine yn ?_;refine xD ?v3 (by rfl) (by rfl) (by rfl) ?h3 ?_
    case h3 => intro W; go_simp; with_reducible rfl
    try simp only [Act.put, sqp]
    refine xD ?v4 (by rfl) (by rfl) (by rfl) ?h4 ?_
    case h4 => intro W; go_simp; with_reducible rfl
    try simp only [Act.put, sqp]
    refine xD ?v5 (by rfl) (by rfl) (by rfl) ?h5 ?_
    case h5 => intro W; go_simp; with_reducible rfl
    try simp only [Act.put, sqp]
    refine xD ?v6 (by rfl) (by rfl) (by rfl) ?h6 ?_
    case h6 => intro W; go_simp; with_reducible rfl
    try simp only [Act.put, sqp]
    refine yj ?_;refine yO 3 107 DV2 H7.out.1.dv (by rw [HV2.out.2.2.1]; exact zI) (by rw [HV.out.2.2.1, HV2.out.2.2.1]) HV2.out.2.2.2.2.1 ?_;have hq4 : w.heap.size + 4 ≤ q := HQQ.out;have hqr : (w7.setRow w.heap.size DV2).heap[q]? = some (.cells LB 39 (0, 0)) := (zM _ _ _ _ (by omega)).trans H7.out.2.1;(have hn1 : ∀ (i : Nat) (b : ByteArray), DV[i]? ≠ some (.string b) := by rw [HV.out.1]; exact dmV_no _ _ _ _);(have hn2 : ∀ (i : Nat) (b : ByteArray), LB[i]? ≠ some (.string b) := by rw [HLB.out.2.2]; exact lmV_no _ _ _ _);have H7b : Hid (RaW w DV2 SV ZD ZS (w7.setRow w.heap.size DV2) ∧ (w7.setRow w.heap.size DV2).heap[q]? = some (.cells LB 39 (0, 0)) ∧ Cms (w7.setRow w.heap.size DV2) (fun k => U k ∨ w.heap.size ≤ k) At' nt' ct' (tb2 T') ∧ Strs (w7.setRow w.heap.size DV2) (fun k => U k ∨ w.heap.size ≤ k) A' nl c' r1.l ∧ Strs (w7.setRow w.heap.size DV2) (fun k => U k ∨ w.heap.size ≤ k) A2' n2' c2' r2.l) := Lib.hid ⟨H7.out.1.setD DV2, hqr, H7.out.2.2.1.set H7.out.1.dv hn1 DV2, H7.out.2.2.2.1.set H7.out.1.dv hn1 DV2, H7.out.2.2.2.2.set H7.out.1.dv hn1 DV2⟩;clear H7 hqr hn1
    (generalize w7.setRow w.heap.size DV2 = w11 at H7b ⊢);refine ⟨fun _ => True, trivial, .inl rfl, ?_⟩
    try simp only [Act.put]
    refine yn ?_;refine yj ?_;refine yO 15 108 LV2 H7b.out.2.1 (by rw [HV2.out.2.2.2.1]; exact zL) (by rw [HLB.out.1, HV2.out.2.2.2.1]) HV2.out.2.2.2.2.2 ?_;have H8 : Hid (RaW w DV2 SV ZD ZS (w11.setRow q LV2) ∧ (w11.setRow q LV2).heap[q]? = some (.cells LV2 39 (0, 0)) ∧ Cms (w11.setRow q LV2) (fun k => U k ∨ w.heap.size ≤ k) At' nt' ct' (tb2 T') ∧ Strs (w11.setRow q LV2) (fun k => U k ∨ w.heap.size ≤ k) A' nl c' r1.l ∧ Strs (w11.setRow q LV2) (fun k => U k ∨ w.heap.size ≤ k) A2' n2' c2' r2.l) := Lib.hid ⟨H7b.out.1.setO hq4 LV2, zF H7b.out.2.1, H7b.out.2.2.1.set H7b.out.2.1 hn2 LV2, H7b.out.2.2.2.1.set H7b.out.2.1 hn2 LV2, H7b.out.2.2.2.2.set H7b.out.2.1 hn2 LV2⟩;clear H7b hn2 hq4
    (generalize w11.setRow q LV2 = w8' at H8 ⊢);refine ⟨fun W => W = w8', rfl, .inl rfl, ?_⟩;refine planX_last ?_
    try simp only [Act.put]
    refine yg ?vlast (by rfl) (by rfl) (by rfl) ?hlast ?_
    case hlast => intro W hW; go_simp; with_reducible rfl
    try simp only [Act.put, sqp]
    refine yj ?_
    have HW : Hid (zJ d s l = (r1, (if E = 0 then { s with half := H1, log := r2, turns := TN } else s), E) ∧ (E = 0 → (if E = 0 then ({ s with half := H1, log := r2, turns := TN } : SM) else s) = { s with half := H1, log := r2, turns := TN })) := Lib.hid ⟨by
     rw [HWT.out];unfold yy;rw [HDN.out, if_neg (by decide)]
     have e1 : yJ d (zj (zT d (1 - s.half)) (((1 - s.half) * Go.Proofs.YtmioifcbkhpdaaaGreat.hn d : Nat) : Int) ((Go.Proofs.YtmioifcbkhpdaaaGreat.hn d : Nat) : Int) s.log.next) (allB (doL s.t l)) = (r1, r2, E) := by
      rw [HR3.out, HM.out.1, HBA.out.1, HN.out.2.2.2, HM.out.2.2.2.1, HM.out.2.1, HN.out.1];rfl
     rw [e1];simp only
     split <;> simp_all [HM.out.2.1, HM.out.2.2.1], fun h => if_pos h⟩
    have HE0 : Hid (yu s l = 0) := HRF
    (generalize w8' = w8 at H8 ⊢);have HK := Lib.hid (RaK.mk H8.out.2.2.2.1 H8.out.2.2.1 H8.out.2.2.2.2);have HL8 := Lib.hid H8.out.2.1;have HO := Lib.hid H8.out.1;clear H8
    by_cases h31 : E = 31
    ·(have h31b : (E == 31) = true := by simpa using h31);have HAP : Hid (zc d s l = (r1, s, E)) := Lib.hid (by rw [HRA.out, HW.out.1]; simp only; rw [if_neg (by omega), if_pos h31]);clear h31
     go_upto_region 26 with fail
     refine sqpl (fun W => ∃ RD RS, RaW w DV2 SV RD RS W) [([0, 1, 2], 3), ([], 4)] [5] ⟨_, _, HO.out.drew⟩ ?_;have HK1 := Lib.hid HK.out.drew;clear HK;have HD := Lib.hid HO.out.drew;clear HO
     (generalize (w8).drew = wd at *);refine zR ?_;refine zE (.agg DV2) (by rfl) (by rfl) (fun W hW => yU 3 hW.choose_spec.choose_spec.dv Tryz.underlying30 (by rw [HV2.out.2.2.1]; exact zI)) ?_
     try simp only [Act.put, sqp]
     refine zE (.agg SV) (by rfl) (by rfl) (fun W hW => yU 4 hW.choose_spec.choose_spec.sv Tryz.underlying41 (by rw [HV.out.2.2.2.1]; exact za)) ?_
     try simp only [Act.put, sqp]
     refine sqr ?_
     try simp only [Act.put, sqp]
     refine zH ?_;refine yO 6 112 DV2 HD.out.rd (by rw [HV2.out.2.2.1]; exact zI) (by rw [HV.out.2.2.2.2.1, HV2.out.2.2.1]) (HV2.out.2.2.2.2.1) ?_;have HE := Lib.hid (HD.out.setRD DV2);have HK2 := Lib.hid (HK1.out.set HD.out.rd HV.out.2.2.2.2.2.2.2.2.1 DV2);clear HK1;clear HD
     (generalize wd.setRow (w.heap.size + 2) DV2 = we at *);refine ⟨fun W => ∃ RD RS, RaW w DV2 SV RD RS W, ⟨_, _, HE.out⟩, fun _ h => h, ?_⟩
     try simp only [Act.put]
     refine zR ?_;refine zH ?_;refine yO 7 113 SV HE.out.rs (by rw [HV.out.2.2.2.1]; exact za) (by rw [HV.out.2.2.2.2.2.1, HV.out.2.2.2.1]) (HV.out.2.2.2.2.2.2.2.1) ?_;have HF := Lib.hid (HE.out.setRS SV);have HK3 := Lib.hid (HK2.out.set HE.out.rs HV.out.2.2.2.2.2.2.2.2.2 SV);clear HK2;clear HE
     (generalize we.setRow (w.heap.size + 3) SV = wf at *);refine ⟨fun W => W = wf, rfl, fun W (e : W = wf) => ⟨_, _, e ▸ HF.out⟩, ?_⟩;refine zZ ?_
     try simp only [Act.put]
     repeat (refine zb (by rfl) (fun K hK => ?_); go_simp; refine hK _ ?_; clear hK K)
     refine zH ?_
     go_wp2_with fail
     (try simp only [Exit.inBlock, Exit.then])
     refine bodyPost_ret (yY (p := 6) (q := 7) (u := 8) rfl _ HF.out rfl rfl (by rw [HV2.out.2.2.1]) (by rw [HV.out.2.2.2.1])) rfl ?_;rw [HAP.out];exact ⟨A', c', At, nt, ct, A2, n2, c2, by rw [HV2.out.1, HV.out.2.1]; rfl, HK3.out.s1, (HH.out.2.1.below HF.out.bel).mono fun _ _ h => .inl h, (HH.out.2.2.1.below HF.out.bel).mono fun _ _ h => .inl h, HF.out.bel⟩
    have h31b : (E == 31) = false := by simpa using h31
    by_cases hE : E = 0
    ·(have hE0 : (E != 0) = false := by simpa using hE);have HE0b := Lib.hid hE;clear h31 hE;(obtain ⟨SV3, hSV3⟩ : ∃ SV3 : Array Value, SV3 = #[.slice At' nt' ct', .int .i64 (H1 : Int), .int .i64 r2.from_, .int .i64 r2.n, .int .u64 (r2.first : Int), .int .u64 (r2.next : Int), .int .i64 (r2.have_ : Int), .slice A2' n2' c2', .int .i64 r2.e, .int .i64 (TN : Int), .int .i64 0] := ⟨_, rfl⟩);have HS3 : Hid (SV3 = smV ⟨T', H1, r2, TN, 0⟩ At' nt' ct' A2' n2' c2' ∧ SV3.size = 11 ∧ SV3.all (·.oneCell') = true ∧ Tryz.prog.built 41 [(0, .slice At' nt' ct'), (1, .int .i64 (H1 : Int)), (2, .agg LV2), (3, .int .i64 (TN : Int))] = some SV3) := Lib.hid ⟨by rw [hSV3]; rfl, by rw [hSV3]; rfl, by rw [hSV3]; simp [Value.oneCell'], by rw [hSV3, HV2.out.2.1]; exact sm_built _ _ _ _ _ _ _ _ _⟩;clear hSV3;have HAP : Hid (zc d s l = (r1, ⟨T', H1, r2, TN, 0⟩, 0)) := Lib.hid (by rw [HRA.out, HW.out.1]; simp only; rw [if_pos HE0b.out]; (try rw [HW.out.2 HE0b.out]); simp [HN.out.2.2.2, HZE.out])
     go_upto_region 30 with fail
     have HQ4 := Lib.hid (zB HO.out.rs);have hq0 : w.heap.size + 4 ≤ q := HQQ.out;refine sqpl (fun W => (∃ RD RS, RaW w DV2 SV RD RS W) ∧ W.heap[q]? = some (.cells LV2 39 (0, 0))) [([0, 1, 2, 3, 4, 5], 6), ([], 7)] [8] ⟨⟨_, _, HO.out.drew⟩, HL8.out⟩ ?_;have HK1 := Lib.hid HK.out.drew;have HLd : Hid (w8.drew.heap[q]? = some (.cells LV2 39 (0, 0))) := Lib.hid HL8.out;have HD := Lib.hid HO.out.drew;clear HO HK HL8
     (generalize (w8).drew = wd at *);refine zR ?_;refine zE (.agg DV2) (by rfl) (by rfl) (fun W hW => yU 3 hW.1.choose_spec.choose_spec.dv Tryz.underlying30 (by rw [HV2.out.2.2.1]; exact zI)) ?_
     try simp only [Act.put, sqp]
     refine sqr ?_
     try simp only [Act.put, sqp]
     refine sqr ?_
     try simp only [Act.put, sqp]
     refine zE (.agg LV2) (by rfl) (by rfl) (fun W hW => yU 15 hW.2 Tryz.underlying39 (by rw [HV2.out.2.2.2.1]; exact zL)) ?_
     try simp only [Act.put, sqp]
     refine sqr ?_
     try simp only [Act.put, sqp]
     refine zE (.agg SV3) (by rfl) (by rfl) (fun W hW => exec_build4 41 (.tmp 123) (.tmp 124) (.tmp 125) (.tmp 126) (by rfl) (.slice At' nt' ct') (.int .i64 (H1 : Int)) (.agg LV2) (.int .i64 (TN : Int)) (by rfl) (by rfl) (by rfl) (by rfl) SV3 HS3.out.2.2.2) ?_
     try simp only [Act.put, sqp]
     refine zH ?_;refine yO 6 122 DV2 HD.out.rd (by rw [HV2.out.2.2.1]; exact zI) (by rw [HV.out.2.2.2.2.1, HV2.out.2.2.1]) (HV2.out.2.2.2.2.1) ?_;have HE := Lib.hid (HD.out.setRD DV2);have HK2 := Lib.hid (HK1.out.set HD.out.rd HV.out.2.2.2.2.2.2.2.2.1 DV2);have HLe : Hid ((wd.setRow (w.heap.size + 2) DV2).heap[q]? = some (.cells LV2 39 (0, 0))) := Lib.hid ((zM _ _ _ _ (by omega)).trans HLd.out);clear HD HK1 HLd
     (generalize wd.setRow (w.heap.size + 2) DV2 = we at *);refine ⟨fun W => (∃ RD RS, RaW w DV2 SV RD RS W) ∧ W.heap[q]? = some (.cells LV2 39 (0, 0)), ⟨⟨_, _, HE.out⟩, HLe.out⟩, fun _ h => h, ?_⟩
     try simp only [Act.put]
     refine zR ?_;refine zH ?_;refine yO 7 127 SV3 HE.out.rs (by rw [HS3.out.2.1]; exact za) (by rw [HV.out.2.2.2.2.2.1, HS3.out.2.1]) (HS3.out.2.2.1) ?_;have HF := Lib.hid (HE.out.setRS SV3);have HK3 := Lib.hid (HK2.out.set HE.out.rs HV.out.2.2.2.2.2.2.2.2.2 SV3);have HLf : Hid ((we.setRow (w.heap.size + 3) SV3).heap[q]? = some (.cells LV2 39 (0, 0))) := Lib.hid ((zM _ _ _ _ (by omega)).trans HLe.out);clear HE HK2 HLe
     (generalize we.setRow (w.heap.size + 3) SV3 = wf at *);refine ⟨fun W => W = wf, rfl, fun W (e : W = wf) => ⟨⟨_, _, e ▸ HF.out⟩, e ▸ HLf.out⟩, ?_⟩;refine zZ ?_
     try simp only [Act.put]
     repeat (refine zb (by rfl) (fun K hK => ?_); go_simp; refine hK _ ?_; clear hK K)
     refine zH ?_
     go_wp2_with fail
     (try simp only [Exit.inBlock, Exit.then])
     refine bodyPost_ret (yY (p := 6) (q := 7) (u := 8) rfl _ HF.out rfl rfl (by rw [HV2.out.2.2.1]) (by rw [HS3.out.2.1])) rfl ?_;rw [HAP.out];exact ⟨A', c', At', nt', ct', A2', n2', c2', by rw [HV2.out.1, HS3.out.1]; rfl, HK3.out.s1, HK3.out.cm, HK3.out.s2, HF.out.bel⟩
    (have hE0 : (E != 0) = true := by simpa using hE);have HAP : Hid (zc d s l = (r1, { s with e := E }, E)) := Lib.hid (by rw [HRA.out, HW.out.1]; simp only; rw [if_neg hE, if_neg h31]);clear h31 hE;obtain ⟨SV2, hSV2⟩ := sqz (SV.setIfInBounds 10 (.int .i64 E))
    have HS2 : Hid (SV2 = smV { s with e := E } At nt ct A2 n2 c2 ∧ SV2.size = 11 ∧ SV2.all (·.oneCell') = true) := by
     (have h : SV2 = smV { s with e := E } At nt ct A2 n2 c2 := by rw [hSV2, HV.out.2.1]; rfl);exact Lib.hid ⟨h, by rw [h]; rfl, by rw [h]; exact yL _ _ _ _ _ _ _⟩
    (have hc10 : w8.cell? ⟨w.heap.size + 1, 10, none⟩ = some (.int .i64 s.e) := by rw [zA HO.out.sv, HV.out.2.1]; rfl);have hf10 := zC HO.out.sv 10;have HO2 : Hid (RaW w DV2 SV2 ZD ZS (w8.setCell ⟨w.heap.size + 1, 10, none⟩ (.int .i64 E))) := Lib.hid (by rw [hSV2]; exact HO.out.setE 10 _);have HKb := Lib.hid (HK.out.setC HO.out.sv (by rw [HV.out.2.1]; exact smV_no _ _ _ _ _ _ _) 10 (.int .i64 E));clear hSV2 HK
    go_upto_region 29 with fail
    clear hc10 hf10 HO
    (generalize w8.setCell ⟨w.heap.size + 1, 10, none⟩ (.int .i64 E) = w9 at HO2 HKb ⊢);refine sqpl (fun W => ∃ RD RS, RaW w DV2 SV2 RD RS W) [([0, 1, 2], 3), ([], 4)] [5] ⟨_, _, HO2.out.drew⟩ ?_;have HK1 := Lib.hid HKb.out.drew;clear HKb;have HD := Lib.hid HO2.out.drew;clear HO2
    (generalize (w9).drew = wd at *);refine zR ?_;refine zE (.agg DV2) (by rfl) (by rfl) (fun W hW => yU 3 hW.choose_spec.choose_spec.dv Tryz.underlying30 (by rw [HV2.out.2.2.1]; exact zI)) ?_
    try simp only [Act.put, sqp]
    refine zE (.agg SV2) (by rfl) (by rfl) (fun W hW => yU 4 hW.choose_spec.choose_spec.sv Tryz.underlying41 (by rw [HS2.out.2.1]; exact za)) ?_
    try simp only [Act.put, sqp]
    refine sqr ?_
    try simp only [Act.put, sqp]
    refine zH ?_;refine yO 6 119 DV2 HD.out.rd (by rw [HV2.out.2.2.1]; exact zI) (by rw [HV.out.2.2.2.2.1, HV2.out.2.2.1]) (HV2.out.2.2.2.2.1) ?_;have HE := Lib.hid (HD.out.setRD DV2);have HK2 := Lib.hid (HK1.out.set HD.out.rd HV.out.2.2.2.2.2.2.2.2.1 DV2);clear HK1;clear HD
    (generalize wd.setRow (w.heap.size + 2) DV2 = we at *);refine ⟨fun W => ∃ RD RS, RaW w DV2 SV2 RD RS W, ⟨_, _, HE.out⟩, fun _ h => h, ?_⟩
    try simp only [Act.put]
    refine zR ?_;refine zH ?_;refine yO 7 120 SV2 HE.out.rs (by rw [HS2.out.2.1]; exact za) (by rw [HV.out.2.2.2.2.2.1, HS2.out.2.1]) (HS2.out.2.2) ?_;have HF := Lib.hid (HE.out.setRS SV2);have HK3 := Lib.hid (HK2.out.set HE.out.rs HV.out.2.2.2.2.2.2.2.2.2 SV2);clear HK2;clear HE
    (generalize we.setRow (w.heap.size + 3) SV2 = wf at *);refine ⟨fun W => W = wf, rfl, fun W (e : W = wf) => ⟨_, _, e ▸ HF.out⟩, ?_⟩;refine zZ ?_
    try simp only [Act.put]
    repeat (refine zb (by rfl) (fun K hK => ?_); go_simp; refine hK _ ?_; clear hK K)
    refine zH ?_
    go_wp2_with fail
    (try simp only [Exit.inBlock, Exit.then])
    refine bodyPost_ret (yY (p := 6) (q := 7) (u := 8) rfl _ HF.out rfl rfl (by rw [HV2.out.2.2.1]) (by rw [HS2.out.2.1])) rfl ?_;rw [HAP.out];exact ⟨A', c', At, nt, ct, A2, n2, c2, by rw [HV2.out.1, HS2.out.1]; rfl, HK3.out.s1, (HH.out.2.1.below HF.out.bel).mono fun _ _ h => .inl h, (HH.out.2.2.1.below HF.out.bel).mono fun _ _ h => .inl h, HF.out.bel⟩
theorem rcapply_any {w : World} {U V : Nat → Prop} {A At A2 A3 : Option Addr} {nl c nt ct n2 c2 n3 c3 : Nat} {d : DM} {s : SM} {l : List Ch} (h : Strs w U A nl c d.l) (ht : Cms w U At nt ct (tb2 s.t)) (h2 : Strs w U A2 n2 c2 s.log.l) (hc : Cms w V A3 n3 c3 l) (ok : d.Ok) (hnl : nl ≤ 24) (h1 : 1 ≤ hn d) {X : Nat} (hv : SInv s X) (hX : X ≤ 500) (hw : (∀ x ∈ l, zq x = true) → wtC l ≤ 768) (hln : s.log.n = (hn d : Int)) :
    Calls Tryz.prog 11 #[.agg (dmV d A nl c), .agg (smV s At nt ct A2 n2 c2), .slice A3 n3 c3] w fun e w' => RapPost w U nl (zc d s l) e w' := by
 by_cases he : s.e = 0
 ·by_cases hmay : ∀ x ∈ l, zq x = true
  ·by_cases hl : l = []
   ·exact rcapply_nil h ht h2 hc he hmay hl
   ·have hw' := hw hmay
    by_cases hf : s.log.first = 0
    ·cases hd : d.down with
     | true => exact rcapply_down0 h ht h2 hc he hmay ok hnl h1 hv hX hw' hln hl hf hd
     | false => exact rcapply_turn0 h ht h2 hc he hmay ok hnl h1 hv hX hw' hln hl hf hd
    ·by_cases hb : (zP (chsB l).length : Int) ≤ s.log.n - (s.log.have_ : Int)
     ·exact rcapply_add h ht h2 hc he hmay ok hnl h1 hv hX hw' hln hl ⟨hf, hb⟩
     ·cases hd : d.down with
      | true => exact rcapply_down1 h ht h2 hc he hmay ok hnl h1 hv hX hw' hln hl ⟨hf, hb⟩ hd
      | false => exact rcapply_turn1 h ht h2 hc he hmay ok hnl h1 hv hX hw' hln hl ⟨hf, hb⟩ hd
  ·exact rcapply_no h ht h2 hc he hmay
 ·exact rcapply_e h ht h2 hc he
structure Cel (B : Nat) (W W' : World) : Prop where
 os : W'.os = W.os
 tape : W'.tape = W.tape
 output : W'.output = W.output
 size : W.heap.size ≤ W'.heap.size
 block : ∀ k, k < W.heap.size → k < B → W'.heap[k]? = W.heap[k]?
 cell : ∀ b o, b < W.heap.size → W'.cell? ⟨b, o, none⟩ = W.cell? ⟨b, o, none⟩
section
variable {B : Nat} {W W' V : World}
theorem Cel.refl (B : Nat) (W : World) : Cel B W W := ⟨rfl, rfl, rfl, Nat.le_refl _, fun _ _ _ => rfl, fun _ _ _ => rfl⟩
theorem Byt.cel {S : Nat → Prop} {A : Option Addr} {n c : Nat} {l : List UInt8} (h : Byt W S A n c l) (k : Cel B W W') : Byt W' S A n c l := h.keep k.size k.cell
theorem conv_mark {P : Program} (W : World) (t e : TypeId) (ht : P.underlying t = some (.slice e)) (he : P.underlying e = some (.int .u8)) (g n c : Nat) (hB : B ≤ g) :
    ∃ W', (convert t t (.slice (some ⟨g, 0, none⟩) n c)).run P W = .ok (.slice (some ⟨g, 0, none⟩) n c) W' ∧ Cel B W W' := by
 have hf : ∀ k, Cel B W (W.freeze ⟨g, k, none⟩ 1) := fun k => by
  unfold World.freeze;rw [if_neg (by decide)];refine ⟨rfl, rfl, rfl, by simp, fun i _ hi => ?_, fun b o _ => ?_⟩
  ·simp only [Array.getElem?_modify];rw [if_neg (by omega)]
  ·simp only [World.cell?, Array.getElem?_modify]
   by_cases hbg : g = b
   ·rw [if_pos hbg]
    cases hh : W.heap[b]? with
    | none => rfl
    | some ob => cases ob <;> rfl
   ·rw [if_neg hbg]
 cases hs : W.shape? g with
 | none =>
   refine ⟨W, ?_, Cel.refl _ _⟩;simp [convert, run_underlying ht, run_underlying he, markStringish, hs]
 | some p =>
   obtain ⟨x, k⟩ := p;refine ⟨_, ?_, hf k⟩;simp [convert, run_underlying ht, run_underlying he, markStringish, hs]
end
def ay0 : DM := (newM ((8 : Nat) : Int)).1
def ayL : List Ch := [⟨[98], [120], false⟩, ⟨[97], [], false⟩]
def ayT : Tb := [([97], []), ([98], [120])]
theorem ay_w : wtC ayL ≤ 60 := by decide +kernel
theorem ay_g : xE ayT [98] = some [120] := by decide +kernel
theorem ay_a : (zY ay0).2 = 0 ∧ (zY ay0).1.t = [] ∧ hn ay0 = 4 ∧ ay0.l.length = 8 := by decide +kernel
theorem ay_b : (zg ay0 (zY ay0).1 ayL).2.2 = 0 ∧ (zg ay0 (zY ay0).1 ayL).2.1.turns = 1 ∧ (zY (zg ay0 (zY ay0).1 ayL).1).2 = 0 ∧ (zY (zg ay0 (zY ay0).1 ayL).1).1.t = ayT := by decide +kernel
theorem newM_len (n : Nat) (h1 : 1 ≤ n) (h2 : n ≤ 65536) : (newM (n : Int)).1.l.length = n := by
 unfold newM;rw [if_neg (by omega)];simp
section
variable {w0 W : World} {m g p : Nat} {d : DM} {s : SM} {T U : Nat → Prop}
theorem Dsk.copp (h : Dsk w0 m W g d) (h0 : (zY d).2 = 0) :
    Calls Tryz.prog 7 #[.pointer (some ⟨g, 0, none⟩)] W fun e w' => ∃ p, e = .returned (.tuple #[.pointer (some ⟨p, 0, none⟩), .int .i64 0]) ∧ Cs w' (W.heap.size ≤ ·) p g (zY d).1 ∧ Dsk w0 m w' g d ∧ Below W.heap.size W w' := by
 refine (copen_any h.dk).mono ?_;rintro e w' ⟨h1, h2⟩;rw [if_pos h0] at h1;obtain ⟨p, rfl, h8⟩ := h1;exact ⟨p, rfl, h8, h.below h2, h2⟩
theorem Dsk.capp (h : Dsk w0 m W g d) (hc : Cs W T p g s) (hT : ∀ k, T k → m ≤ k) (ok : SOk s) (h1 : 1 ≤ hn d) {A : Option Addr} {n c : Nat} {l : List Ch} (hl : Chs W U A n c l) (hU : ∀ k, U k → ¬ T k ∧ (k < w0.heap.size ∨ m ≤ k)) (hb : wtT s.t + wtC l ≤ 800000) :
    Calls Tryz.prog 10 #[.pointer (some ⟨p, 0, none⟩), .slice A n c] W fun e w' => e = .returned (.int .i64 (zg d s l).2.2) ∧ Dsk w0 m w' g (zg d s l).1 ∧ Cs w' (fun k => T k ∨ W.heap.size ≤ k) p g (zg d s l).2.1 ∧ Turned (fun k => (w0.heap.size ≤ k ∧ k < m) ∨ T k) W w' := by
 have hle := h.le;refine (capply_any hc h.dk (fun k _ h1 h2 => by have := hT k h2; omega) ok h1 hl (fun k _ hk => ?_) hb).mono ?_
 ·have := hU k hk;exact ⟨fun h1 => by omega, this.1⟩
 ·rintro _ w' ⟨rfl, h2, h3, h4⟩;refine ⟨rfl, ⟨h2, h.bel.trans ((h4.mono fun k _ hk => ?_).below h.bel.size), Nat.le_trans h.top h4.size⟩, h3, h4⟩;rcases hk with hk | hk
  ·exact hk.1
  ·have := hT k hk; omega
end
theorem chs_block {w : World} {q : Nat} {S : Nat → Prop} (L : List (Ro × Ch)) (h : w.heap[q]? = some (.cells (chCells L).toArray 64 (0, 0))) (hq : S q) (hL : ∀ y ∈ L, Byt w S y.1.1 y.1.2.1 y.1.2.2 y.2.v) (hlen : L.length ≤ 1000) : Chs w S (some ⟨q, 0, none⟩) L.length L.length (L.map (·.2)) := by
 refine ⟨by simp, Nat.le_refl _, by unfold maxLen; omega, fun _ => ⟨q, 0, rfl, hq, zB h, fun i x hx => ?_⟩⟩;rw [List.getElem?_map] at hx
 cases hy : L[i]? with
 | none => rw [hy] at hx; cases hx
 | some y =>
   rw [hy] at hx;(have hyx : y.2 = x := by simpa using hx);refine ⟨y.1.1, y.1.2.1, y.1.2.2, fun j u hu => ?_, by rw [← hyx]; exact hL y (List.mem_of_getElem? hy)⟩;rw [← hyx] at hu;rw [zA h, Nat.zero_add, List.getElem?_toArray];exact chCells_at L i y hy j u hu
theorem celawk_true (w : World) : Calls Tryz.prog 4 #[] w fun e w' => e = .returned (.bool true) ∧ Below w.heap.size w w' := by
 have hnew := Dsk.new (Below.refl w.heap.size w) 8 (by omega) (by omega);have hd0 : (newM ((8 : Nat) : Int)).1 = ay0 := rfl;rw [hd0] at hnew;obtain ⟨s1, hs1⟩ := sqz ((zY ay0).1);have HPS := sq3 (show SOk s1 by rw [hs1]; exact (openC_inv (by rw [ay_a.2.2.2]; omega) ay_a.1).1.ok) (show s1.t = [] by rw [hs1]; exact ay_a.2.1) hs1;clear hd0 hs1
 go_enter Tryz.func4, Tryz.ntmps4
 go_upto_region 2 with (go_at_call 5; refine hnew.mono ?_; clear hnew; rintro _ w1 ⟨g, rfl, hd1⟩)
 obtain ⟨m, hm⟩ := sqz w1.heap.size;rw [← hm] at hd1;have HM := Lib.hid (show m ≤ w1.heap.size by omega);have hop := hd1.copp ay_a.1;rw [← HPS.out.2.2] at hop;clear hd1 hm
 go_upto_region 3 with (go_at_call 7; refine hop.mono ?_; clear hop; rintro _ w2 ⟨p, rfl, hc2, hd2, hb2⟩)
 have H2 := sq3 (hc2.mono (T := fun k => m ≤ k ∧ k < w2.heap.size) fun k hk h => ⟨by have := HM.out; omega, hk⟩) hd2 hd2.top;clear hc2 hd2 hb2
 go_upto_region 5 with fail
 obtain ⟨w3, hcv, hce⟩ := conv_mark (P := Tryz.prog) (B := w2.heap.size) (w2.alloc (.cells #[.int .u8 120] 5)) 54 5 Tryz.underlying54 Tryz.underlying5 w2.heap.size 1 1 (Nat.le_refl _);have hb3 : Below w2.heap.size w2 w3 := ⟨hce.os, hce.tape, hce.output, by have := hce.size; simp at this; omega, fun k hk => (hce.block k (by simp; omega) hk).trans (Below.heap_alloc _ _ _ hk)⟩;have hy3 : Byt w3 (w2.heap.size ≤ ·) (some ⟨w2.heap.size, 0, none⟩) 1 1 [120] := (byt_filled' (w' := w2.alloc (.cells #[.int .u8 120] 5)) (l := [120]) (n := 1) (heap_alloc_new w2 _) rfl (by omega) (Nat.le_refl _)).cel hce;obtain ⟨w4, hw4⟩ := sqz (w3.alloc (Obj.cells #[.string ⟨#[98]⟩, .slice (some ⟨w2.heap.size, 0, none⟩) 1 1, .bool false, .string ⟨#[97]⟩, .slice none 0 0, .bool false] 64));have hb4 : Below w2.heap.size w2 w4 := hb3.trans (by rw [hw4]; exact (Below.refl _ _).alloc hb3.size _)
 have hch : Chs w4 (w2.heap.size ≤ ·) (some ⟨w3.heap.size, 0, none⟩) 2 2 ayL := by
  refine chs_block (L := [((some ⟨w2.heap.size, 0, none⟩, 1, 1), ⟨[98], [120], false⟩), ((none, 0, 0), ⟨[97], [], false⟩)]) (by rw [hw4]; exact heap_alloc_new w3 _) hb3.size (fun y hy => ?_) (by simp);rcases List.mem_cons.1 hy with rfl | hy
  ·rw [hw4]; exact hy3.alloc _
  ·obtain rfl := List.mem_singleton.1 hy;exact Byt.nil _ _ _ _ (Nat.zero_le _)
 have hap := (H2.out.2.1.below hb4).capp (H2.out.1.below hb4) (fun k h => h.1) HPS.out.1 (by rw [ay_a.2.2.1]; omega) hch (fun k hk => ⟨fun h => by omega, .inr (by have := H2.out.2.2; omega)⟩) (by rw [HPS.out.2.1]; have := ay_w; simp [wtT]; omega);rw [HPS.out.2.2, ay_b.1] at hap;obtain ⟨d6, hd6⟩ := sqz ((zg ay0 (zY ay0).1 ayL).1);obtain ⟨s6, hs6⟩ := sqz ((zg ay0 (zY ay0).1 ayL).2.1);rw [← hd6, ← hs6] at hap;have H6 := Lib.hid (show (zY d6).2 = 0 ∧ (zY d6).1.t = ayT ∧ s6.turns = 1 by rw [hd6, hs6]; exact ⟨ay_b.2.2.1, ay_b.2.2.2, ay_b.2.1⟩);have HS4 := Lib.hid hb4.size;clear hd6 hs6 hch hb4 hb3 hce hy3;rw [hw4] at hap
 go_upto_region 6 with (go_at_call 10; refine hap.mono ?_; clear hap; rintro _ w7 ⟨rfl, hd7, hc7, hr7⟩)
 clear hcv;rw [← hw4] at hc7 hr7;have H7 := sq2 (hc7.mono (T := fun k => m ≤ k ∧ k < w7.heap.size) fun k hk h => by have := H2.out.2.2; have := HS4.out; rcases h with h | h <;> exact ⟨by omega, hk⟩) hd7;clear hc7 hr7 hw4 HS4;have hop := hd7.copp H6.out.1;obtain ⟨s8, hs8⟩ := sqz ((zY d6).1);rw [← hs8] at hop;have ht8 : s8.t = ayT := by rw [hs8]; exact H6.out.2.1
 clear hd7 hs8
 go_upto_region 7 with (go_at_call 7; refine hop.mono ?_; clear hop; rintro _ w8 ⟨p8, rfl, hc8, hd8, hb8⟩)
 have HT := sq2 (H7.out.1.below hb8) hd8.bel;have hget := cget_any hc8 [98] (by simp) (by rw [ht8, ay_g]; simp);rw [ht8, ay_g] at hget;have H8 := sq2 hc8 ht8;clear hc8 hd8 hb8 ht8 H7
 go_upto_region 8 with (go_at_call 23; refine hget.mono ?_; clear hget; rintro _ w9 ⟨A9, n9, c9, rfl, hy9, hb9⟩)
 have hks := ckeys_any (H8.out.1.below hb9) (by rw [H8.out.2]; simp [ayT]);rw [H8.out.2] at hks;have H9 := sq2 (HT.out.1.below hb9) (HT.out.2.trans (hb9.mono HT.out.2.size));clear hb9
 go_upto_region 9 with (go_at_call 24; refine hks.mono ?_; clear hks; rintro _ w10 ⟨A10, n10, c10, rfl, hs10, hb10⟩)
 have hc10 := H9.out.1.below hb10;have HB10 := Lib.hid (H9.out.2.trans (hb10.mono H9.out.2.size));have hcv9 := yM (hy9.below hb10);have htr := cturns_any hc10;rw [H6.out.2.2] at htr;obtain rfl : n10 = 2 := by rw [← hs10.len]; rfl
 obtain ⟨q, o, rfl, _, hq, hc⟩ := hs10.row (by omega);have hc0 : w10.cell? ⟨q, o, none⟩ = some (.string ⟨#[97]⟩) := hc 0 (by omega);clear hs10 hc hq hb10 hy9 hc10
 go_wp2_with (go_at_call 22; refine htr.mono ?_; clear htr; rintro _ _ ⟨rfl, rfl⟩)
 go_ret
 exact ⟨rfl, HB10.out⟩
end Go.Proofs.YtmioifcbkhpdaaaGreat
