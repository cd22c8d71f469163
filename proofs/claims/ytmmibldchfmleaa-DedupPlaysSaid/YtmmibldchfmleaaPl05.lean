/-
  The law of drawn regions (Grow) within a round of a loop over an iterator; whole rows loaded and stored there.
-/
import Derived.Test.YtmmibldchfmleaaPl04
import Derived.Test.YtmmibldchfmleaaPl03
import Derived.Test.YtmmibldchfmleaaPl01
import Derived.RangeFuncNested
import Derived.RangeFuncBound
import Derived.RangeFuncCalls
import Derived.RangeFuncLeaves
import Derived.Test.YtmmibldchfmleaaPl02
import Derived.OrdersIn
import Derived.OwnWalkIn
namespace Go.Proofs.Ytmmibldchfmleaa
open Go.RowKit Go.Maps Codec
def aheadL (acc : List DRow) : List UInt8 := match acc.getLast? with | none => List.replicate 32 0 | some y => y.1
theorem aheadL_snoc (acc : List DRow) (y : DRow) : aheadL (acc ++ [y]) = y.1 := by simp [aheadL]
theorem dg_len {l : List UInt8} {e : Int} (h : dgE l e = 0) : (dgL l e).length + 65 ≤ l.length := by
 obtain ⟨_, h2⟩ := row_put h
 have h3 : (dgR l e).1.length = 32 := idL_length _ _
 have h4 : (dgR l e).2.1.length = 32 := idL_length _ _
 have h5 := put_length_pos (dgR l e).2.2
 have h6 := congrArg List.length h2
 simp only [List.length_append] at h6
 omega
theorem ui_lenD (l : List UInt8) (e : Int) : (uiL l e).length ≤ l.length := uiL_length l e
structure GtS (w : World) (B1 pr px b qa L : Nat) (acc : List DRow) (l : List UInt8) (e : Int) (W : World) : Prop where
 rd : Rd W (fun k => w.heap.size ≤ k ∧ k < B1) pr l e
 ix : Ix W px b (gdT acc)
 ah : W.heap[qa]? = some (.cells (row8 (aheadL acc)) 31 (0, 0))
 bl : Below w.heap.size w W
 lo : w.heap.size ≤ pr ∧ pr < B1 ∧ B1 ≤ px ∧ B1 ≤ b ∧ B1 ≤ qa ∧ px ≠ qa
 wf : ∀ y ∈ acc, y.1.length = 32 ∧ y.2.1.length = 32
 cn : (e = 0 → acc.length * 65 + l.length ≤ L) ∧ acc.length ≤ L + 1
section
variable {w W W' : World} {B1 pr px b qa L : Nat} {acc : List DRow} {l l' : List UInt8} {e e' : Int}
theorem GtS.later (h : GtS w B1 pr px b qa L acc l e W) (hb : Below W.heap.size W W') : GtS w B1 pr px b qa L acc l e W' :=
 ⟨h.rd.turned (Turned.of_below (S := fun _ => False) hb) fun _ _ _ h => h, h.ix.below hb, (hb.block _ (lt_of_cells h.ah)).trans h.ah, h.bl.trans (hb.mono h.bl.size), h.lo, h.wf, h.cn⟩
theorem GtS.ahl (h : GtS w B1 pr px b qa L acc l e W) : (aheadL acc).length = 32 := by
 unfold aheadL
 rcases hg : acc.getLast? with _ | y
 ·simp
 ·exact (h.wf y (List.mem_of_getLast? hg)).1
end
theorem GtS.read {w W W' : World} {B1 pr px b qa L : Nat} {acc : List DRow} {l l' : List UInt8} {e e' : Int} (h : GtS w B1 pr px b qa L acc l e W) (hr : Rd W' (fun k => w.heap.size ≤ k ∧ k < B1) pr l' e') (hg : W.grownBy W' (some pr)) :
    Rd W' (fun k => w.heap.size ≤ k ∧ k < B1) pr l' e' ∧ Ix W' px b (gdT acc) ∧ W'.heap[qa]? = some (.cells (row8 (aheadL acc)) 31 (0, 0)) ∧ Below w.heap.size w W' := by
 have hlo := h.lo
 have ht : Turned (· = pr) W W' := Turned.of_gr hg fun _ e => (Option.some.inj e).symm
 exact ⟨hr, h.ix.turned ht (by show ¬ px = pr; omega) (by show ¬ b = pr; omega), (ht.block _ (lt_of_cells h.ah) (by show ¬ qa = pr; omega)).trans h.ah, h.bl.trans ⟨ht.os, ht.tape, ht.output, ht.size, fun i hi => ht.block i (Nat.lt_of_lt_of_le hi h.bl.size) (by show ¬ i = pr; omega)⟩⟩
set_option maxRecDepth 100000 in
theorem build_pl {l : List UInt8} (hl : l.length = 32) (X : Int) : Try.prog.built 37 [(0, .agg (row8 l)), (1, .int .i64 X)] = some (plC (l, X)) := by
 obtain ⟨a0, a1, a2, a3, a4, a5, a6, a7, a8, a9, b0, b1, b2, b3, b4, b5, b6, b7, b8, b9, c0, c1, c2, c3, c4, c5, c6, c7, c8, c9, d0, d1, rfl⟩ := list32' hl
 unfold row8 plC u8s
 kernel_rfl
theorem exec_build {P : Program} {E : Operand → Value} {o : Oper} {W : World} (t : TypeId) (x0 x1 : Operand) (ho : o.op = .build t #[(0, x0), (1, x1)]) (u0 u1 : Value) (h0 : E x0 = u0) (h1 : E x1 = u1) (cells : Array Value) (hb : P.built t [(0, u0), (1, u1)] = some cells) : (execOp E o).run P W = .ok (.value (.agg cells)) W := by
 have hr : (Instr.build t #[(0, u0), (1, u1)]).run P W = .ok (.agg cells) W := run_build W t _ cells hb
 unfold execOp
 simp [ho, h0, h1, hr, Result.andThen]
def GePost (w : World) (g : Tv Pl × Int) (e : Ending) (w' : World) : Prop :=
 (∃ p b, e = .returned (.tuple #[.pointer (some ⟨p, 0, none⟩), .int .i64 0]) ∧ g.2 = 0 ∧ Ix w' p b g.1 ∧ w.heap.size ≤ p ∧ w.heap.size ≤ b ∧ Below w.heap.size w w') ∨
 (e = .returned (.tuple #[.pointer none, .int .i64 g.2]) ∧ g.2 ≠ 0 ∧ Below w.heap.size w w')
def GtR (w : World) (B1 pr px b qa L : Nat) (R : List DRow × List UInt8 × Int) (may left : Value) (W : World) : Prop :=
 ∃ (M : Nat) (acc : List DRow) (l : List UInt8) (e : Int), left = .int .u64 (M : Int) ∧ M < 18446744073709551616 ∧ may = .bool (mayG acc) ∧ GtS w B1 pr px b qa L acc l e W ∧ gdGo M acc l e = R
structure GuS (w : World) (B1 pr px b qa q9 q10 L : Nat) (acc : List DRow) (y : DRow) (l' : List UInt8) (e' : Int) (W : World) : Prop where
 rd : Rd W (fun k => w.heap.size ≤ k ∧ k < B1) pr l' e'
 ix : Ix W px b (gdT acc)
 ah : W.heap[qa]? = some (.cells (row8 (aheadL acc)) 31 (0, 0))
 bl : Below w.heap.size w W
 r9 : W.heap[q9]? = some (.cells (row8 y.1) 31 (0, 0))
 r10 : W.heap[q10]? = some (.cells (row8 y.2.1) 31 (0, 0))
 ne : qa < q9 ∧ qa < q10 ∧ b < q9 ∧ b < q10 ∧ px < q9 ∧ px < q10
theorem GuS.later {w W W' : World} {B1 pr px b qa q9 q10 L : Nat} {acc : List DRow} {y : DRow} {l' : List UInt8} {e' : Int} (h : GuS w B1 pr px b qa q9 q10 L acc y l' e' W) (hb : Below W.heap.size W W') : GuS w B1 pr px b qa q9 q10 L acc y l' e' W' :=
 ⟨h.rd.turned (Turned.of_below (S := fun _ => False) hb) fun _ _ _ h => h, h.ix.below hb, (hb.block _ (lt_of_cells h.ah)).trans h.ah, h.bl.trans (hb.mono h.bl.size), (hb.block _ (lt_of_cells h.r9)).trans h.r9, (hb.block _ (lt_of_cells h.r10)).trans h.r10, h.ne⟩
set_option maxHeartbeats 8000000 in
set_option maxRecDepth 100000 in
theorem ixget_any {w : World} {S : Nat → Prop} {A : Option Addr} {n c : Nat} {bs : List UInt8} (hb : Byt w S A n c bs) (hn : n ≤ 1000000) :
    Calls Try.prog 18 #[.slice A n c] w (GePost w (getD bs)) := by
 have hzi := zero_id
 have hnr := newReader hb (by omega)
 have hL : bs.length = n := hb.len
 have HN := Lib.hid (And.intro hn hL)
 clear hb hn hL
 go_enter Try.func18, Try.ntmps18
 go_upto_region 2 with (go_at_call 25; refine hnr.mono ?_; clear hnr; rintro _ w1 ⟨pr, rfl, hr1, hb1⟩)
 have hix := ixnew_any w1
 have H1 := Lib.hid (And.intro (hr1.mono (T := fun k => w.heap.size ≤ k ∧ k < w1.heap.size) fun k hk h => ⟨h, hk⟩) (And.intro hb1 (And.intro hr1.1 hr1.lt)))
 clear hr1 hb1
 go_upto_region 3 with (go_at_call 9; refine hix.mono ?_; clear hix; rintro _ w2 ⟨px, b, rfl, hi2, hlp, hlb, hb2⟩)
 have H2 := Lib.hid (And.intro hi2 (And.intro hlp (And.intro hlb hb2)))
 clear hi2 hlp hlb hb2
 go_upto_region 4 with fail
 have h3a := heap_alloc_new w2 (.cells zerosId 31)
 have hb3 : Below w2.heap.size w2 (w2.alloc (.cells zerosId 31)) := (Below.refl _ _).alloc (Nat.le_refl _) _
 have hrd3 := (H1.out.1.turned (T := fun _ => False) (Turned.of_below H2.out.2.2.2) fun _ _ _ h => h).turned (T := fun _ => False) (Turned.of_below hb3) fun _ _ _ h => h
 have hui := uint_any hrd3
 have hs12 := H2.out.2.2.2.size
 have H3 : Hid (GtS w w1.heap.size pr px b w2.heap.size bs.length [] bs 0 (w2.alloc (.cells zerosId 31))) := Lib.hid
  ⟨hrd3, H2.out.1.below hb3, h3a, (H1.out.2.1.trans (H2.out.2.2.2.mono H1.out.2.1.size)).trans (hb3.mono (Nat.le_trans H1.out.2.1.size hs12)), by
    have h1 := H1.out.2.2
    have h2 := lt_of_cells H2.out.1.box
    have h3 := H2.out
    omega, by simp, by simp, Nat.zero_le _⟩
 clear h3a hb3 hrd3 hs12
 generalize w2.heap.size = qa at H3 ⊢
 generalize w2.alloc (.cells zerosId 31) = w3 at H3 hui ⊢
 have HS1 := Lib.hid (show w.heap.size ≤ w1.heap.size from H1.out.2.1.size)
 generalize w1.heap.size = B1 at H3 HS1 hui
 clear H1 H2
 have hux := uiX_lt bs 0
 go_wp2_with (go_at_call 26; refine hui.mono ?_; clear hui; rintro _ w4 ⟨rfl, hr4, hg4⟩)
 obtain ⟨R, hR⟩ : ∃ R, R = gdGo (uiX bs 0) [] (uiL bs 0) (uiE bs 0) := ⟨_, rfl⟩
 have H4 : Hid (GtR w B1 pr px b qa bs.length R (.bool true) (.int .u64 (uiX bs 0 : Int)) w4) := Lib.hid (by
  obtain ⟨h1, h2, h3, h4⟩ := H3.out.read hr4 hg4
  exact ⟨uiX bs 0, [], uiL bs 0, uiE bs 0, rfl, hux, rfl, ⟨h1, h2, h3, h4, H3.out.lo, by simp, fun _ => by simp [ui_lenD bs 0], Nat.zero_le _⟩, hR.symm⟩)
 have HRR := Lib.hid (show getD bs = getDEnd R by rw [hR]; rfl)
 clear hr4 hg4 H3 hR hux
 generalize uiX bs 0 = M0 at H4 ⊢
 go_loopw [6, 8, 9, 10, 11, 12] (fun may left _ _ _ _ wr => GtR w B1 pr px b qa bs.length R may left wr) (fun _ left _ _ _ _ _ => (intOf left).toNat)
 case atStart => exact H4.out
 case round =>
  obtain ⟨M, acc, l, e, rfl, hM, rfl, hgs, hgo⟩ := hrel
  clear H4
  have HG := Lib.hid (And.intro hgs (And.intro hgo hM))
  have her := err_rd hgs.rd
  clear hgs hgo hM
  by_cases hM0 : M = 0
  ·have hMd : decide ((M : Int) > 0) = false := by simp; omega
   have hMd2 : decide (0 < M) = false := by simp; omega
   have hRe : R = (acc, l, e) := by rw [← HG.out.2.1, hM0]; rfl
   clear her hM0
   have hend := end_rd HG.out.1.rd
   obtain ⟨E, hE⟩ : ∃ E, E = endE l e := ⟨_, rfl⟩
   rw [← hE] at hend
   have HD : Hid (getD bs = getDEnd (acc, l, e) ∧ E = endE l e) := Lib.hid ⟨by rw [HRR.out, hRe], hE⟩
   have HX : Hid (Ix wr px b (gdT acc) ∧ Below w.heap.size w wr ∧ w.heap.size ≤ px ∧ w.heap.size ≤ b) := Lib.hid ⟨HG.out.1.ix, HG.out.1.bl, by have h1 := HG.out.1.lo; have h2 := HS1.out; omega, by have h1 := HG.out.1.lo; have h2 := HS1.out; omega⟩
   obtain ⟨Z, hZ⟩ : ∃ Z, Z = mayG acc := ⟨_, rfl⟩
   rw [← hZ]
   have HZ2 := Lib.hid hZ
   clear hE hRe HG HRR hZ
   by_cases hE0 : E = 0
   ·subst hE0
    cases Z
    ·have HP : Hid (getD bs = ([], 11)) := Lib.hid (by rw [HD.out.1]; unfold getDEnd; simp only; rw [if_neg (by rw [← HD.out.2]; simp), if_neg (by rw [← HZ2.out]; simp)])
     go_wp2_with (go_at_call 30; refine hend.mono ?_; clear hend; rintro _ _ ⟨rfl, rfl⟩)
     refine bodyPost_ret (results_tmp2 rfl _ _ _) rfl ?_
     exact .inr ⟨by rw [HP.out]; rfl, by rw [HP.out]; decide, HX.out.2.1⟩
    ·have HP : Hid (getD bs = (gdT acc, 0)) := Lib.hid (by rw [HD.out.1]; unfold getDEnd; simp only; rw [if_neg (by rw [← HD.out.2]; simp), if_pos HZ2.out.symm, gdT_may _ HZ2.out.symm])
     go_wp2_with (go_at_call 30; refine hend.mono ?_; clear hend; rintro _ _ ⟨rfl, rfl⟩)
     refine bodyPost_ret (results_tmp2 rfl _ _ _) rfl ?_
     exact .inl ⟨px, b, rfl, by rw [HP.out], by rw [HP.out]; exact HX.out.1, HX.out.2.2.1, HX.out.2.2.2, HX.out.2.1⟩
   ·have hEb : (E == 0) = false := by simpa using hE0
    have hEn : (E != 0) = true := by simpa using hE0
    have hEd : decide (E = 0) = false := by simpa using hE0
    have HP : Hid (getD bs = ([], E) ∧ E ≠ 0) := Lib.hid ⟨by rw [HD.out.1]; unfold getDEnd; simp only; rw [if_pos (by rw [← HD.out.2]; exact hE0), ← HD.out.2], hE0⟩
    clear hE0
    go_wp2_with (go_at_call 30; refine hend.mono ?_; clear hend; rintro _ _ ⟨rfl, rfl⟩)
    refine bodyPost_ret (results_tmp2 rfl _ _ _) rfl ?_
    exact .inr ⟨by rw [HP.out.1]; rfl, by rw [HP.out.1]; exact HP.out.2, HX.out.2.1⟩
  by_cases he : e = 0
  ·--[RD
   subst he
   have hMp : 0 < M := by omega
   have hMd : decide ((M : Int) > 0) = true := by simpa using hMp
   have hMd2 : decide (0 < M) = true := by simpa using hMp
   have hid1 := id_any HG.out.1.rd
   go_upto_region 7 with (go_at_call 27; refine her.mono ?_; clear her; rintro _ _ ⟨rfl, rfl⟩)
   clear hMd hMd2
   obtain ⟨y, hy⟩ : ∃ y, y = dgR l 0 := ⟨_, rfl⟩
   obtain ⟨XS, hXS⟩ : ∃ XS, XS = idC l 0 := ⟨_, rfl⟩
   obtain ⟨PS, hPS⟩ : ∃ PS, PS = idC (fxL l 0 32) (tkE l 0 32) := ⟨_, rfl⟩
   obtain ⟨l', hl'⟩ : ∃ l', l' = dgL l 0 := ⟨_, rfl⟩
   obtain ⟨e', he'⟩ : ∃ e', e' = dgE l 0 := ⟨_, rfl⟩
   obtain ⟨nn, hnn⟩ : ∃ nn, nn = uiX (fxL (fxL l 0 32) (tkE l 0 32) 32) (tkE (fxL l 0 32) (tkE l 0 32) 32) := ⟨_, rfl⟩
   have HY : Hid (XS = row8 y.1 ∧ XS.size = 32 ∧ XS.all (·.oneCell') = true ∧ PS = row8 y.2.1 ∧ PS.size = 32 ∧ PS.all (·.oneCell') = true ∧ nn = y.2.2 ∧ nn < 18446744073709551616 ∧ y.1.length = 32 ∧ y.2.1.length = 32) := Lib.hid (by
    have h1 : y.1.length = 32 := by rw [hy]; exact idL_length _ _
    have h2 : y.2.1.length = 32 := by rw [hy]; exact idL_length _ _
    have h3 : XS = row8 y.1 := by rw [hXS, hy]; rfl
    have h4 : PS = row8 y.2.1 := by rw [hPS, hy]; rfl
    exact ⟨h3, by rw [h3, row8_size, h1], by rw [h3]; exact row8_one _, h4, by rw [h4, row8_size, h2], by rw [h4]; exact row8_one _, by rw [hnn, hy]; rfl, by rw [hnn]; exact uiX_lt _ _, h1, h2⟩)
   have HL := Lib.hid (And.intro hy (And.intro hl' he'))
   rw [← hXS] at hid1
   clear hy hXS
   go_upto_region 8 with (first
    | (go_at_call 28; refine hid1.mono ?_; clear hid1; rintro _ w5 ⟨rfl, hr5, hg5⟩; have hid2 := id_any hr5; rw [← hPS] at hid2; have HG5 := Lib.hid hg5; clear hr5 hg5 hPS)
    | (go_at_call 28; refine hid2.mono ?_; clear hid2; rintro _ w6 ⟨rfl, hr6, hg6⟩; have hui7 := uint_any hr6; rw [← hnn, show uiL (fxL (fxL l 0 32) (tkE l 0 32) 32) (tkE (fxL l 0 32) (tkE l 0 32) 32) = l' from hl'.symm, show uiE (fxL (fxL l 0 32) (tkE l 0 32) 32) (tkE (fxL l 0 32) (tkE l 0 32) 32) = e' from he'.symm] at hui7; have HG6 := Lib.hid hg6; clear hr6 hg6 hnn hl' he')
    | (go_at_call 26; refine hui7.mono ?_; clear hui7; rintro _ w7 ⟨rfl, hr7, hg7⟩
       have H7 := Lib.hid (HG.out.1.read hr7 (gr_trans (gr_trans HG5.out HG6.out) hg7))
       clear hr7 hg7 HG5 HG6
       obtain ⟨hz6, hz7, hbz⟩ := two_rows (w := w7) (a := zerosId) (b := zerosId) (s := 31) (t := 31)
       obtain ⟨w8, hw8⟩ : ∃ w8, w8 = (((w7.alloc (.cells zerosId 31)).alloc (.cells zerosId 31)).setRow w7.heap.size XS).setRow (w7.heap.size + 1) PS := ⟨_, rfl⟩
       have h7 : (((w7.alloc (.cells zerosId 31)).alloc (.cells zerosId 31)).setRow w7.heap.size XS).heap[w7.heap.size + 1]? = some (.cells zerosId 31 (0, 0)) := (setRow_ne _ _ _ _ (by omega)).trans hz7
       have H8 : Hid (w8.heap[w7.heap.size]? = some (.cells XS 31 (0, 0)) ∧ w8.heap[w7.heap.size + 1]? = some (.cells PS 31 (0, 0)) ∧ Below w7.heap.size w7 w8) := Lib.hid ⟨by rw [hw8]; exact (setRow_ne _ _ _ _ (by omega)).trans (setRow_at hz6), by rw [hw8]; exact setRow_at h7, by rw [hw8]; exact below_setRow (below_setRow hbz (Nat.le_refl _) _) (by omega) _⟩
       have HZ := Lib.hid (And.intro hz6 h7)
       have HW8 := Lib.hid hw8
       clear hz6 hz7 hbz h7 hw8)
    | (refine wpList_store_row (by rfl) 31 (.tmp 9) (.tmp 29) (by rfl) w7.heap.size XS (by rfl) (by rfl) 31 zerosId HZ.out.1 (by rw [HY.out.2.1]; exact id_info) (by rw [HY.out.2.1]; rfl) HY.out.2.2.1 ?_)
    | (refine wpList_store_row (by rfl) 31 (.tmp 10) (.tmp 31) (by rfl) (w7.heap.size + 1) PS (by rfl) (by rfl) 31 zerosId HZ.out.2 (by rw [HY.out.2.2.2.2.1]; exact id_info) (by rw [HY.out.2.2.2.2.1]; rfl) HY.out.2.2.2.2.2.1 ?_))
   rw [← HW8.out]
   clear HZ HW8
   have HU : Hid (GuS w B1 pr px b qa w7.heap.size (w7.heap.size + 1) bs.length acc y l' e' w8) := Lib.hid (by
    have h7 := H7.out
    have h1 := lt_of_cells h7.2.2.1
    have h2 := lt_of_cells h7.2.1.box
    have h3 := h7.2.1.map.lt
    exact ⟨h7.1.turned (T := fun _ => False) (Turned.of_below H8.out.2.2) fun _ _ _ h => h, h7.2.1.below H8.out.2.2, (H8.out.2.2.block _ h1).trans h7.2.2.1, h7.2.2.2.trans (H8.out.2.2.mono h7.2.2.2.size), by rw [← HY.out.1]; exact H8.out.1, by rw [← HY.out.2.2.2.1]; exact H8.out.2.1, by omega, by omega, by omega, by omega, by omega, by omega⟩)
   clear H7 H8
   generalize w7.heap.size + 1 = q10 at HU ⊢
   generalize w7.heap.size = q9 at HU ⊢
   have hcb := HU.out.ix.cell
   have hlen := HU.out.ix.map.len Try.underlying64 3
   obtain ⟨N, hN⟩ : ∃ N, N = (gdT acc).length := ⟨_, rfl⟩
   rw [← hN] at hlen
   obtain ⟨F, hF⟩ : ∃ F, F = decide (acc = []) := ⟨_, rfl⟩
   have hNF : ((N : Int) == 0) = F := by
    rw [show ((N : Int) == 0) = decide ((N : Int) = 0) from rfl, hF, hN]
    refine decide_eq_decide.2 ⟨fun h => Classical.byContradiction fun h2 => ?_, fun h => by rw [h]; rfl⟩
    have h3 := (gdT_len acc).2.2 h2
    exact h3 (List.eq_nil_of_length_eq_zero (by omega))
   have HF := Lib.hid hF
   clear hN hF
   have hadd : IntKind.u64.wrap ((M : Int) - 1) = ((M - 1 : Nat) : Int) := by rw [IntWalk.u64_in _ (by have := HG.out.2.2; omega)]; omega
   have hahl := HG.out.1.ahl
   go_upto_region 9 with fail
   clear hcb hlen hNF
   obtain ⟨Q, hQ⟩ : ∃ Q, Q = !mayS acc y := ⟨_, rfl⟩
   have HQ : Hid (Q = !mayS acc y ∧ mayG (acc ++ [y]) = (mayG acc && !Q)) := Lib.hid ⟨hQ, by rw [mayG_snoc, hQ]; simp⟩
   clear hQ
   go_cut [51] from 40 to 51 (fun qv wx => qv = .bool Q ∧ GuS w B1 pr px b qa q9 q10 bs.length acc y l' e' wx)
   case first =>
    by_cases h1 : 1023 < nn
    ·have hd1 : decide ((nn : Int) > 1023) = true := by simp; omega
     have hd2 : decide ((1023 : Int) < (nn : Int)) = true := by simp; omega
     have hd3 : decide (1023 < nn) = true := by simpa using h1
     obtain rfl : Q = true := by
      rw [HQ.out.1]
      unfold mayS
      rw [← HY.out.2.2.2.2.2.2.1, show decide (nn ≤ 1023) = false by simpa using h1]
      simp
     clear h1
     go_wp2_with fail
     go_meet
     exact ⟨rfl, HU.out⟩
    have hd1 : decide ((nn : Int) > 1023) = false := by simp; omega
    have hd2 : decide ((1023 : Int) < (nn : Int)) = false := by simp; omega
    have hd3 : decide (1023 < nn) = false := by simpa using h1
    cases F
    ·have hne : acc ≠ [] := by have := HF.out; simpa using this
     obtain ⟨z, hz⟩ : ∃ z, acc.getLast? = some z := by
      rcases hg : acc.getLast? with _ | z
      ·exact absurd (List.getLast?_eq_none_iff.1 hg) hne
      ·exact ⟨z, rfl⟩
     have haz : aheadL acc = z.1 := by unfold aheadL; rw [hz]
     have hcm := fun W => cmp_any (aheadL acc) y.1 hahl HY.out.2.2.2.2.2.2.2.2.1 W
     have hnn' : decide (0 ≤ Lib.compareBytes (aheadL acc) y.1) = Q := by
      rw [cmpB_nonneg, haz, HQ.out.1]
      unfold mayS
      rw [← HY.out.2.2.2.2.2.2.1, show decide (nn ≤ 1023) = true by simpa using h1, hz]
      simp
     obtain ⟨AS, hAS⟩ : ∃ AS, AS = row8 (aheadL acc) := ⟨_, rfl⟩
     have HAS : Hid (AS = row8 (aheadL acc) ∧ AS.size = 32) := Lib.hid ⟨hAS, by rw [hAS, row8_size, hahl]⟩
     rw [← hAS, ← HY.out.1] at hcm
     generalize Lib.compareBytes (aheadL acc) y.1 = cr at hcm hnn'
     have hnn2 : decide (cr ≥ 0) = Q := hnn'
     clear hne hz haz hAS h1
     cases Q
     ·go_wp2_with (first
        | (go_at_call 29; refine (hcm _).mono ?_; clear hcm; rintro _ w9 ⟨rfl, q, hw9⟩
           have HU9 := Lib.hid (HU.out.later (W' := w9) (by rw [hw9]; exact below_drewN (((Below.refl _ _).alloc (Nat.le_refl _) _).alloc (by simp) _) q))
           clear hw9)
        | (refine wpList_load_row_on (by rfl) 31 (.tmp 7) (by rfl) qa (by rfl) 31 AS (0, 0) _ (by rw [HAS.out.1]; exact HU.out.ah) Try.underlying31 (by rfl) (by rw [HAS.out.2]; exact id_info) ?_)
        | (refine wpList_load_row_on (by rfl) 31 (.tmp 9) (by rfl) q9 (by rfl) 31 XS (0, 0) _ (by rw [HY.out.1]; exact HU.out.r9) Try.underlying31 (by rfl) (by rw [HY.out.2.1]; exact id_info) ?_))
      go_meet
      exact ⟨rfl, HU9.out⟩
     ·go_wp2_with (first
        | (go_at_call 29; refine (hcm _).mono ?_; clear hcm; rintro _ w9 ⟨rfl, q, hw9⟩
           have HU9 := Lib.hid (HU.out.later (W' := w9) (by rw [hw9]; exact below_drewN (((Below.refl _ _).alloc (Nat.le_refl _) _).alloc (by simp) _) q))
           clear hw9)
        | (refine wpList_load_row_on (by rfl) 31 (.tmp 7) (by rfl) qa (by rfl) 31 AS (0, 0) _ (by rw [HAS.out.1]; exact HU.out.ah) Try.underlying31 (by rfl) (by rw [HAS.out.2]; exact id_info) ?_)
        | (refine wpList_load_row_on (by rfl) 31 (.tmp 9) (by rfl) q9 (by rfl) 31 XS (0, 0) _ (by rw [HY.out.1]; exact HU.out.r9) Try.underlying31 (by rfl) (by rw [HY.out.2.1]; exact id_info) ?_))
      go_meet
      exact ⟨rfl, HU9.out⟩
    ·obtain rfl : Q = false := by
       have h0 : acc = [] := by have := HF.out; simpa using this
       rw [HQ.out.1]
       unfold mayS
       rw [← HY.out.2.2.2.2.2.2.1, show decide (nn ≤ 1023) = true by simpa using h1, h0]
       simp
     clear h1
     go_wp2_with fail
     go_meet
     exact ⟨rfl, HU.out⟩
   case rest =>
    obtain ⟨rfl, hu⟩ := hcut
    clear HU
    have hbd : Below wc.heap.size wc wc.drew := ⟨rfl, rfl, rfl, Nat.le_refl _, fun _ _ => rfl⟩
    have hud := hu.later hbd
    have hgl := (gdT_len acc).2.1
    have hcn := HG.out.1.cn
    obtain ⟨w5', hrun, hkv5, hmt5⟩ := hud.ix.map.put Try.underlying64 HY.out.2.2.2.2.2.2.2.2.1 (by have := HN.out; omega) (gdV y)
    have ht5 : Turned (· = b) wc w5' := (Turned.of_below hbd).trans (mapTurned_turnedk hmt5) fun _ _ h => h
    obtain ⟨VS, hVS⟩ : ∃ VS, VS = plC (gdV y) := ⟨_, rfl⟩
    rw [← HY.out.1, show encP (gdV y) = .agg VS by rw [hVS]; rfl] at hrun
    have hne := hu.ne
    have hqb : qa ≠ b := by
     rintro rfl
     obtain ⟨es, clock, hb⟩ := hu.ix.map.isMap
     have h1 := hu.ah
     rw [hb] at h1
     cases h1
    have HF5 : Hid (w5'.heap[qa]? = some (.cells (row8 (aheadL acc)) 31 (0, 0)) ∧ w5'.heap[q9]? = some (.cells XS 31 (0, 0)) ∧ w5'.heap[q10]? = some (.cells PS 31 (0, 0)) ∧ Ix w5' px b (gdT (acc ++ [y]))) := Lib.hid
     ⟨(ht5.block _ (lt_of_cells hu.ah) hqb).trans hu.ah, by rw [HY.out.1]; exact (ht5.block _ (lt_of_cells hu.r9) (by show ¬ q9 = b; omega)).trans hu.r9, by rw [HY.out.2.2.2.1]; exact (ht5.block _ (lt_of_cells hu.r10) (by show ¬ q10 = b; omega)).trans hu.r10,
      by rw [gdT_snoc]; exact ⟨(ht5.block _ (lt_of_cells hu.ix.box) hu.ix.ne).trans hu.ix.box, hkv5, fun e he => by
       unfold putV at he
       rcases List.mem_append.1 he with he | he
       ·rcases List.mem_append.1 he with he | he
        ·exact hu.ix.val e (List.mem_filter.1 he).1
        ·simp only [List.mem_singleton] at he
         rw [he]
         exact HY.out.2.2.2.2.2.2.2.2.2
       ·exact hu.ix.val e (List.mem_filter.1 he).1⟩⟩
    have hlo := HG.out.1.lo
    have HEND : Hid (∀ may, may = mayG (acc ++ [y]) → GtR w B1 pr px b qa bs.length R (.bool may) (.int .u64 ((M - 1 : Nat) : Int)) (w5'.setRow qa XS)) := Lib.hid (fun may hm => by
     have ht6 : Turned (· = qa) w5' (w5'.setRow qa XS) := Turned.of_gr (row := some qa) (gr_row _ _ _) fun _ e => (Option.some.inj e).symm
     have hM1 : M = (M - 1) + 1 := by omega
     have hg1 := HG.out.2.1
     rw [hM1, gdGo, if_pos rfl, ← HL.out.1, ← HL.out.2.1, ← HL.out.2.2] at hg1
     have hbw : Below w.heap.size w (w5'.setRow qa XS) := by
      have h1 := HS1.out
      refine hu.bl.trans ⟨ht6.os.trans ht5.os, ht6.tape.trans ht5.tape, ht6.output.trans ht5.output, Nat.le_trans ht5.size ht6.size, fun i hi => (ht6.block i (by have := hu.bl.size; have := ht5.size; omega) (by show ¬ i = qa; omega)).trans (ht5.block i (by have := hu.bl.size; omega) (by show ¬ i = b; omega))⟩
     refine ⟨M - 1, acc ++ [y], l', e', rfl, by have := HG.out.2.2; omega, by rw [hm], ⟨?_, ?_, ?_, hbw, hlo, fun z hz => ?_, fun he0 => ?_, ?_⟩, hg1⟩
     ·refine (hu.rd.turned ht5 fun k _ h1 h2 => ?_).turned ht6 fun k _ h1 h2 => ?_
      ·have h3 : k = b := h2
       have := h1.2
       omega
      ·have h3 : k = qa := h2
       have := h1.2
       omega
     ·exact HF5.out.2.2.2.turned ht6 (by show ¬ px = qa; omega) (by show ¬ b = qa; omega)
     ·rw [aheadL_snoc, ← HY.out.1]
      exact setRow_at HF5.out.1
     ·rcases List.mem_append.1 hz with hz | hz
      ·exact HG.out.1.wf z hz
      ·simp only [List.mem_singleton] at hz
       rw [hz]
       exact ⟨HY.out.2.2.2.2.2.2.2.2.1, HY.out.2.2.2.2.2.2.2.2.2⟩
     ·have h1 := dg_len (l := l) (e := 0) (by rw [← HL.out.2.2]; exact he0)
      rw [← HL.out.2.1] at h1
      have h2 := hcn.1 rfl
      rw [List.length_append, List.length_singleton]
      omega
     ·have h2 := hcn.1 rfl
      rw [List.length_append, List.length_singleton]
      omega)
    have hid : (∃ t', Ix wc.drew px b t') ∧ wc.drew.heap[q9]? = some (.cells XS 31 (0, 0)) ∧ wc.drew.heap[q10]? = some (.cells PS 31 (0, 0)) := ⟨⟨_, hud.ix⟩, by rw [HY.out.1]; exact hu.r9, by rw [HY.out.2.2.2.1]; exact hu.r10⟩
    have hid : Ix wc.drew px b (gdT acc) ∧ wc.drew.heap[q9]? = some (.cells XS 31 (0, 0)) ∧ wc.drew.heap[q10]? = some (.cells PS 31 (0, 0)) := ⟨hud.ix, hid.2.1, hid.2.2⟩
    have HVS : Hid (VS = plC (y.2.1, IntKind.i64.wrap (nn : Int))) := Lib.hid (by rw [hVS, HY.out.2.2.2.2.2.2.1]; rfl)
    clear hu hud hkv5 hmt5 ht5 hVS hne hqb hbd hgl hcn hlo
    have hML : 0 < M := hMp
    clear hM0 hMp
    cases Q
    ·go_upto_region 11 with fail
     have hC : (fun W : World => (∃ t', Ix W px b t') ∧ W.heap[q9]? = some (.cells XS 31 (0, 0)) ∧ W.heap[q10]? = some (.cells PS 31 (0, 0))) wc.drew := ⟨⟨_, hid.1⟩, hid.2.1, hid.2.2⟩
     refine wp_region_plan (fun W : World => (∃ t', Ix W px b t') ∧ W.heap[q9]? = some (.cells XS 31 (0, 0)) ∧ W.heap[q10]? = some (.cells PS 31 (0, 0))) [([0, 1, 2, 3, 4, 5, 6, 7, 8], 9)] [] (by kernel_rfl) (by kernel_rfl) (fun _ _ d _ _ h => by cases d <;> exact h) hC ?_
     refine plan_eff ?_
     refine seg_read ?v23 (by rfl) (by rfl) ?h23 ?_
     case h23 => intro W hW; go_simp; with_reducible rfl
     try simp only [Act.put, List.setIfInBounds_toArray, List.set_cons_zero, List.set_cons_succ]
     refine seg_read ?v24 (by rfl) (by rfl) ?h24 ?_
     case h24 => intro W hW; go_simp; with_reducible rfl
     try simp only [Act.put, List.setIfInBounds_toArray, List.set_cons_zero, List.set_cons_succ]
     refine seg_read ?v25 (by rfl) (by rfl) ?h25 ?_
     case h25 => intro W hW; go_simp; with_reducible rfl
     try simp only [Act.put, List.setIfInBounds_toArray, List.set_cons_zero, List.set_cons_succ]
     refine seg_read ?v26 (by rfl) (by rfl) ?h26 ?_
     case h26 => intro W hW; obtain ⟨⟨t', hx⟩, h1, h2⟩ := hW; have hcb := hx.cell; go_simp; with_reducible rfl
     try simp only [Act.put, List.setIfInBounds_toArray, List.set_cons_zero, List.set_cons_succ]
     refine seg_read (.agg XS) (by rfl) (by rfl) (fun W hW => exec_load_st 31 (.tmp 9) (by rfl) q9 (by rfl) XS (0, 0) hW.2.1 _ Try.underlying31 (by rfl) (by rw [HY.out.2.1]; exact id_info)) ?_
     try simp only [Act.put, List.setIfInBounds_toArray, List.set_cons_zero, List.set_cons_succ]
     refine seg_read (.agg PS) (by rfl) (by rfl) (fun W hW => exec_load_st 31 (.tmp 10) (by rfl) q10 (by rfl) PS (0, 0) hW.2.2 _ Try.underlying31 (by rfl) (by rw [HY.out.2.2.2.2.1]; exact id_info)) ?_
     try simp only [Act.put, List.setIfInBounds_toArray, List.set_cons_zero, List.set_cons_succ]
     refine seg_read ?v27 (by rfl) (by rfl) ?h27 ?_
     case h27 => intro W hW; go_simp; with_reducible rfl
     try simp only [Act.put, List.setIfInBounds_toArray, List.set_cons_zero, List.set_cons_succ]
     refine seg_read ?v28 (by rfl) (by rfl) ?h28 ?_
     case h28 => intro W hW; go_simp; with_reducible rfl
     try simp only [Act.put, List.setIfInBounds_toArray, List.set_cons_zero, List.set_cons_succ]
     refine seg_read (.agg VS) (by rfl) (by rfl) (fun W hW => exec_build 37 (.tmp 57) (.tmp 59) (by rfl) (.agg PS) (.int .i64 (IntKind.i64.wrap (nn : Int))) (by rfl) (by rfl) VS (by rw [HVS.out, ← build_pl HY.out.2.2.2.2.2.2.2.2.2, ← HY.out.2.2.2.1])) ?_
     try simp only [Act.put, List.setIfInBounds_toArray, List.set_cons_zero, List.set_cons_succ]
     refine seg_nil ?_
     refine eff_step (by rfl) (fun K hK => ?_)
     go_simp
     refine hK _ _ ⟨_, ⟨⟨_, HF5.out.2.2.2⟩, HF5.out.2.1, HF5.out.2.2.1⟩, fun _ h => h, ?_⟩
     clear hK K
     refine plan_last ?_
     refine seg_nil ?_
     try simp only [Act.put]
     go_wp2_with (first
      | (refine wpList_load_row (by rfl) 31 (.tmp 9) (by rfl) q9 (by rfl) 31 XS (0, 0) _ HF5.out.2.1 Try.underlying31 (by rfl) (by rw [HY.out.2.1]; exact id_info) ?_)
      | (refine wpList_store_row (by rfl) 31 (.tmp 7) (.tmp 61) (by rfl) qa XS (by rfl) (by rfl) 31 (row8 (aheadL acc)) HF5.out.1 (by rw [HY.out.2.1]; exact id_info) (by rw [HY.out.2.1, row8_size, hahl]) HY.out.2.2.1 ?_))
     exact ⟨HEND.out _ (by rw [HQ.out.2]; simp), by simp only [intOf]; omega⟩
    ·go_upto_region 11 with fail
     have hC : (fun W : World => (∃ t', Ix W px b t') ∧ W.heap[q9]? = some (.cells XS 31 (0, 0)) ∧ W.heap[q10]? = some (.cells PS 31 (0, 0))) wc.drew := ⟨⟨_, hid.1⟩, hid.2.1, hid.2.2⟩
     refine wp_region_plan (fun W : World => (∃ t', Ix W px b t') ∧ W.heap[q9]? = some (.cells XS 31 (0, 0)) ∧ W.heap[q10]? = some (.cells PS 31 (0, 0))) [([0, 1, 2, 3, 4, 5, 6, 7, 8], 9)] [] (by kernel_rfl) (by kernel_rfl) (fun _ _ d _ _ h => by cases d <;> exact h) hC ?_
     refine plan_eff ?_
     refine seg_read ?v29 (by rfl) (by rfl) ?h29 ?_
     case h29 => intro W hW; go_simp; with_reducible rfl
     try simp only [Act.put, List.setIfInBounds_toArray, List.set_cons_zero, List.set_cons_succ]
     refine seg_read ?v30 (by rfl) (by rfl) ?h30 ?_
     case h30 => intro W hW; go_simp; with_reducible rfl
     try simp only [Act.put, List.setIfInBounds_toArray, List.set_cons_zero, List.set_cons_succ]
     refine seg_read ?v31 (by rfl) (by rfl) ?h31 ?_
     case h31 => intro W hW; go_simp; with_reducible rfl
     try simp only [Act.put, List.setIfInBounds_toArray, List.set_cons_zero, List.set_cons_succ]
     refine seg_read ?v32 (by rfl) (by rfl) ?h32 ?_
     case h32 => intro W hW; obtain ⟨⟨t', hx⟩, h1, h2⟩ := hW; have hcb := hx.cell; go_simp; with_reducible rfl
     try simp only [Act.put, List.setIfInBounds_toArray, List.set_cons_zero, List.set_cons_succ]
     refine seg_read (.agg XS) (by rfl) (by rfl) (fun W hW => exec_load_st 31 (.tmp 9) (by rfl) q9 (by rfl) XS (0, 0) hW.2.1 _ Try.underlying31 (by rfl) (by rw [HY.out.2.1]; exact id_info)) ?_
     try simp only [Act.put, List.setIfInBounds_toArray, List.set_cons_zero, List.set_cons_succ]
     refine seg_read (.agg PS) (by rfl) (by rfl) (fun W hW => exec_load_st 31 (.tmp 10) (by rfl) q10 (by rfl) PS (0, 0) hW.2.2 _ Try.underlying31 (by rfl) (by rw [HY.out.2.2.2.2.1]; exact id_info)) ?_
     try simp only [Act.put, List.setIfInBounds_toArray, List.set_cons_zero, List.set_cons_succ]
     refine seg_read ?v33 (by rfl) (by rfl) ?h33 ?_
     case h33 => intro W hW; go_simp; with_reducible rfl
     try simp only [Act.put, List.setIfInBounds_toArray, List.set_cons_zero, List.set_cons_succ]
     refine seg_read ?v34 (by rfl) (by rfl) ?h34 ?_
     case h34 => intro W hW; go_simp; with_reducible rfl
     try simp only [Act.put, List.setIfInBounds_toArray, List.set_cons_zero, List.set_cons_succ]
     refine seg_read (.agg VS) (by rfl) (by rfl) (fun W hW => exec_build 37 (.tmp 57) (.tmp 59) (by rfl) (.agg PS) (.int .i64 (IntKind.i64.wrap (nn : Int))) (by rfl) (by rfl) VS (by rw [HVS.out, ← build_pl HY.out.2.2.2.2.2.2.2.2.2, ← HY.out.2.2.2.1])) ?_
     try simp only [Act.put, List.setIfInBounds_toArray, List.set_cons_zero, List.set_cons_succ]
     refine seg_nil ?_
     refine eff_step (by rfl) (fun K hK => ?_)
     go_simp
     refine hK _ _ ⟨_, ⟨⟨_, HF5.out.2.2.2⟩, HF5.out.2.1, HF5.out.2.2.1⟩, fun _ h => h, ?_⟩
     clear hK K
     refine plan_last ?_
     refine seg_nil ?_
     try simp only [Act.put]
     go_wp2_with (first
      | (refine wpList_load_row (by rfl) 31 (.tmp 9) (by rfl) q9 (by rfl) 31 XS (0, 0) _ HF5.out.2.1 Try.underlying31 (by rfl) (by rw [HY.out.2.1]; exact id_info) ?_)
      | (refine wpList_store_row (by rfl) 31 (.tmp 7) (.tmp 61) (by rfl) qa XS (by rfl) (by rfl) 31 (row8 (aheadL acc)) HF5.out.1 (by rw [HY.out.2.1]; exact id_info) (by rw [HY.out.2.1, row8_size, hahl]) HY.out.2.2.1 ?_))
     exact ⟨HEND.out _ (by rw [HQ.out.2]; simp), by simp only [intOf]; omega⟩
   --RD]
  ·have hMp : 0 < M := by omega
   have hMd : decide ((M : Int) > 0) = true := by simpa using hMp
   have hMd2 : decide (0 < M) = true := by simpa using hMp
   have heb : (e == 0) = false := by simpa using he
   have hed : decide (e = 0) = false := by simpa using he
   have hRe : R = (acc, l, e) := by rw [← HG.out.2.1, gdGo_bad he]
   clear hM0 hMp he
   have hend := end_rd HG.out.1.rd
   obtain ⟨E, hE⟩ : ∃ E, E = endE l e := ⟨_, rfl⟩
   rw [← hE] at hend
   have HD : Hid (getD bs = getDEnd (acc, l, e) ∧ E = endE l e) := Lib.hid ⟨by rw [HRR.out, hRe], hE⟩
   have HX : Hid (Ix wr px b (gdT acc) ∧ Below w.heap.size w wr ∧ w.heap.size ≤ px ∧ w.heap.size ≤ b) := Lib.hid ⟨HG.out.1.ix, HG.out.1.bl, by have h1 := HG.out.1.lo; have h2 := HS1.out; omega, by have h1 := HG.out.1.lo; have h2 := HS1.out; omega⟩
   obtain ⟨Z, hZ⟩ : ∃ Z, Z = mayG acc := ⟨_, rfl⟩
   rw [← hZ]
   have HZ2 := Lib.hid hZ
   clear hE hRe HG HRR hZ
   by_cases hE0 : E = 0
   ·subst hE0
    cases Z
    ·have HP : Hid (getD bs = ([], 11)) := Lib.hid (by rw [HD.out.1]; unfold getDEnd; simp only; rw [if_neg (by rw [← HD.out.2]; simp), if_neg (by rw [← HZ2.out]; simp)])
     go_wp2_with (first | (go_at_call 30; refine hend.mono ?_; clear hend; rintro _ _ ⟨rfl, rfl⟩) | (go_at_call 27; refine her.mono ?_; clear her; rintro _ _ ⟨rfl, rfl⟩))
     refine bodyPost_ret (results_tmp2 rfl _ _ _) rfl ?_
     exact .inr ⟨by rw [HP.out]; rfl, by rw [HP.out]; decide, HX.out.2.1⟩
    ·have HP : Hid (getD bs = (gdT acc, 0)) := Lib.hid (by rw [HD.out.1]; unfold getDEnd; simp only; rw [if_neg (by rw [← HD.out.2]; simp), if_pos HZ2.out.symm, gdT_may _ HZ2.out.symm])
     go_wp2_with (first | (go_at_call 30; refine hend.mono ?_; clear hend; rintro _ _ ⟨rfl, rfl⟩) | (go_at_call 27; refine her.mono ?_; clear her; rintro _ _ ⟨rfl, rfl⟩))
     refine bodyPost_ret (results_tmp2 rfl _ _ _) rfl ?_
     exact .inl ⟨px, b, rfl, by rw [HP.out], by rw [HP.out]; exact HX.out.1, HX.out.2.2.1, HX.out.2.2.2, HX.out.2.1⟩
   ·have hEb : (E == 0) = false := by simpa using hE0
    have hEn : (E != 0) = true := by simpa using hE0
    have hEd : decide (E = 0) = false := by simpa using hE0
    have HP : Hid (getD bs = ([], E) ∧ E ≠ 0) := Lib.hid ⟨by rw [HD.out.1]; unfold getDEnd; simp only; rw [if_pos (by rw [← HD.out.2]; exact hE0), ← HD.out.2], hE0⟩
    clear hE0
    go_wp2_with (first | (go_at_call 30; refine hend.mono ?_; clear hend; rintro _ _ ⟨rfl, rfl⟩) | (go_at_call 27; refine her.mono ?_; clear her; rintro _ _ ⟨rfl, rfl⟩))
    refine bodyPost_ret (results_tmp2 rfl _ _ _) rfl ?_
    exact .inr ⟨by rw [HP.out.1]; rfl, by rw [HP.out.1]; exact HP.out.2, HX.out.2.1⟩
end Go.Proofs.Ytmmibldchfmleaa

namespace Go.Proofs.Ytmmibldchfmleaa
open Go.RowKit
structure Steps (B : Nat) (D : Nat → Prop) (W W' : World) : Prop where
 os : W'.os = W.os
 tape : W'.tape = W.tape
 output : W'.output = W.output
 size : W.heap.size ≤ W'.heap.size
 block : ∀ b, b < W.heap.size → ¬ D b → (b < B ∨ ∃ o : Obj, W.heap[b]? = some o ∧ o.isCells = true) → W'.heap[b]? = W.heap[b]?
theorem Steps.of_below {B : Nat} {D : Nat → Prop} {W W' : World} (h : Below W.heap.size W W') : Steps B D W W' := ⟨h.os, h.tape, h.output, h.size, fun b hb _ _ => h.block b hb⟩
theorem Steps.lower {B B' : Nat} {D : Nat → Prop} {W W' : World} (h : Steps B' D W W') (hB : B ≤ B') : Steps B D W W' :=
 ⟨h.os, h.tape, h.output, h.size, fun b hb hd hc => h.block b hb hd (hc.imp (fun h => by omega) id)⟩
theorem Steps.putObj {B : Nat} {D : Nat → Prop} {W : World} {l : Nat} {o : Obj} (o' : Obj) (hB : B ≤ l) (hl : W.heap[l]? = some o) (ho : o.isCells = false) : Steps B D W (W.putObj l o') :=
 ⟨rfl, rfl, rfl, by simp, fun b _ _ hc => World.putObj_heap_other (by
   rintro rfl
   rcases hc with hc | ⟨o2, h2, h3⟩
   ·omega
   ·rw [hl] at h2
    cases h2
    rw [ho] at h3
    cases h3)⟩
theorem Steps.cells {B : Nat} {D : Nat → Prop} {W W' : World} (h : Steps B D W W') {b : Nat} {cs : Array Value} {t : TypeId} {f : Nat × Nat} (hb : W.heap[b]? = some (.cells cs t f)) (hd : ¬ D b) : W'.heap[b]? = some (.cells cs t f) :=
 (h.block b (Array.getElem?_eq_some_iff.1 hb).1 hd (.inr ⟨_, hb, rfl⟩)).trans hb
def Bounds (B : Nat) (D : Nat → Prop) (W : World) : Prop := ∀ b, D b → B ≤ b ∧ b < W.heap.size
theorem Bounds.none_ (B : Nat) (W : World) : Bounds B (fun _ => False) W := fun _ h => h.elim
theorem Bounds.grow {B : Nat} {D : Nat → Prop} {W W' : World} (h : Bounds B D W) (hs : W.heap.size ≤ W'.heap.size) : Bounds B D W' := fun b hb => ⟨(h b hb).1, Nat.lt_of_lt_of_le (h b hb).2 hs⟩
theorem Bounds.not {B b : Nat} {D : Nat → Prop} {W : World} (h : Bounds B D W) (hb : b < B) : ¬ D b := fun hd => by
 have := (h b hd).1
 omega
theorem Steps.below {B n0 : Nat} {D : Nat → Prop} {w0 W W' : World} (h : Steps B D W W') (hb : Below n0 w0 W) (hB : Bounds B D W) (h0 : n0 ≤ w0.heap.size) (h1 : n0 ≤ B) : Below n0 w0 W' :=
 hb.trans ⟨h.os, h.tape, h.output, h.size, fun k hk => h.block k (by have := hb.size; omega) (hB.not (by omega)) (.inl (by omega))⟩
def Still {σ : Type} (B : Nat) (J : (Nat → Prop) → σ → World → Prop) : Prop :=
 ∀ (D D' : Nat → Prop) (s : σ) (W W' : World), Bounds B D W → J D s W → Steps B D W W' → (∀ b, D' b → D b ∨ (W.heap.size ≤ b ∧ b < W'.heap.size)) → J D' s W'
theorem still_false {σ : Type} (B : Nat) : Still B (fun _ (_ : σ) _ => False) := fun _ _ _ _ _ _ h _ _ => h
structure Kept (B : Nat) (D K : Nat → Prop) (W W' : World) : Prop where
 turned : Turned (fun b => ¬ (D b ∨ K b)) W W'
 keeps : KeepsFrom B W W'
theorem Kept.refl (B : Nat) (D K : Nat → Prop) (W : World) : Kept B D K W W := ⟨Turned.refl _ _, KeepsFrom.refl _ _⟩
theorem Kept.trans {B : Nat} {D K : Nat → Prop} {X Y Z : World} (h : Kept B D K X Y) (k : Kept B D K Y Z) : Kept B D K X Z := ⟨h.turned.trans k.turned fun _ _ h => h, h.keeps.trans k.keeps⟩
theorem Kept.raise {B B' : Nat} {D K : Nat → Prop} {W W' : World} (h : Kept B D K W W') (hB : B ≤ B') : Kept B' D K W W' := ⟨h.turned, ⟨h.keeps.size, fun k o hk => h.keeps.same k o (by omega)⟩⟩
theorem Kept.of_below {B : Nat} {D K : Nat → Prop} {W W' : World} (h : Below W.heap.size W W') : Kept B D K W W' :=
 ⟨Turned.of_below h, ⟨h.size, fun k _ _ hk _ => (h.block k (Array.getElem?_eq_some_iff.1 hk).1).trans hk⟩⟩
theorem Kept.of_gr {B : Nat} {D K : Nat → Prop} {W W' : World} {row : Option Nat} (h : W.grownBy W' row) (hr : ∀ g, row = some g → ¬ D g ∧ ¬ K g ∧ ∃ cs t f, W.heap[g]? = some (.cells cs t f)) : Kept B D K W W' :=
 ⟨Turned.of_gr h fun g e => by
     have := hr g e
     rintro (h1 | h1)
     ·exact this.1 h1
     ·exact this.2.1 h1,
  ⟨h.size, fun k o _ hk ho => (h.block k (Array.getElem?_eq_some_iff.1 hk).1 (fun e => by
     obtain ⟨_, _, cs, t, f, hc⟩ := hr k e.symm
     rw [hk] at hc
     cases hc
     cases ho)).trans hk⟩⟩
theorem Kept.putObj {B : Nat} {D K : Nat → Prop} {W : World} {l : Nat} (o' : Obj) (hB : l < B) (hd : ¬ D l) (hk : ¬ K l) : Kept B D K W (W.putObj l o') :=
 ⟨⟨rfl, rfl, rfl, by simp, fun b _ hb => World.putObj_heap_other (by
     rintro rfl
     exact hb (fun h => h.elim hd hk))⟩,
  ⟨by simp, fun _ _ _ hk _ => (World.putObj_heap_other (by omega)).trans hk⟩⟩
theorem RoundIn.wide {m m' : Nat} {P : Program} {l : Nat} {f : FuncId} {tmps : Array Value} {assign body : Code} {w : World} {R : Ending → World → Prop} (h : RoundIn Fence.wide m P l f tmps assign body w R) : RoundIn Fence.wide m' P l f tmps assign body w R :=
 ⟨h.1, fun c cs _ => h.2 c cs (room_wide _)⟩
def Iter {α : Type} (P : Program) (g : Nat) (lb : Array Value) (encs : α → Array Value) (K : Nat → Prop) (X : (Nat → Prop) → List α → World → Prop) (S : List α → Prop) (w : World) : Prop :=
 (∀ D s W W', X D s W → Turned (fun b => ¬ (D b ∨ K b)) W W' → X D s W') ∧
 ∀ (l : Nat) (J Jx : (Nat → Prop) → List α → World → Prop) (W : World), Below w.heap.size w W → Still W.heap.size J → Still W.heap.size Jx →
   (∀ D pre x W1, Bounds W.heap.size D W1 → J D pre W1 → X D (pre ++ [x]) W1 → YieldAt Fence.wide 1 P l (encs x) W1 fun e W' =>
     (e = .returned (.bool true) ∧ J D (pre ++ [x]) W' ∧ Kept W.heap.size D K W1 W') ∨ (e = .returned (.bool false) ∧ Jx D (pre ++ [x]) W' ∧ Kept W.heap.size D K W1 W')) →
   J (fun _ => False) [] W →
   Calls P g (#[.func (.yield l) #[] #[]] ++ lb) W fun e W' => (∃ v, e = .returned v) ∧ ∃ D, Bounds W.heap.size D W' ∧ ((∃ xs, S xs ∧ X D xs W' ∧ J D xs W') ∨ (∃ pre, X D pre W' ∧ Jx D pre W'))
def itPost {α : Type} (B : Nat) (K : Nat → Prop) (I : (Nat → Prop) → List α → World → Prop) (Ix : Code → (Nat → Prop) → List α → World → Prop) (D : Nat → Prop) (xs : List α) (W : World) : Exit → Act → World → Prop
 | .normal, _, W' => Kept B D K W W' ∧ I D xs W'
 | .ret, _, W' => Kept B D K W W' ∧ Ix .ret D xs W'
 | .exit id, _, W' => Kept B D K W W' ∧ Ix (.exit id) D xs W'
 | .goto t, _, W' => Kept B D K W W' ∧ Ix (.goto t) D xs W'
 | .panic _, _, _ => False
 | .outgrown, _, _ => False
theorem wpIn_rangeFunc_it {α : Type} {P : Program} {g : Operand} {ps : Array Tmp} {assign body : Code} {Q : Exit → Act → World → Prop} {a : Act} {w : World}
    {gf : Nat} {lb : Array Value} (hg : a.eval g = .func (.func gf) #[] lb) (eg : ∀ args w, (callFunc gf args).run P w = .ok (.enter gf args) w)
    {encs : α → Array Value} {K : Nat → Prop} {X : (Nat → Prop) → List α → World → Prop} {S : List α → Prop} {w0 : World} (hseq : Iter P gf lb encs K X S w0) (hb0 : Below w0.heap.size w0 w) (hK : ∀ b, K b → b < w.heap.size) (hps : ∀ x, (encs x).size = ps.size)
    (I : (Nat → Prop) → List α → World → Prop) (Ix : Code → (Nat → Prop) → List α → World → Prop) (hI : Still w.heap.size I) (hIx : ∀ c, Still w.heap.size (Ix c)) (h0 : I (fun _ => False) [] w)
    (Ax : α → Act → World → Prop) (hAx : ∀ x a', OwnFrom w.heap.size (fun (_ : Unit) W => Ax x a' W))
    (hassign : ∀ (l : Nat) (D : Nat → Prop) (pre : List α) (x : α) (W : World) (C : Act → World → Prop), Bounds (w.heap.size + 2) D W → I D pre W → X D (pre ++ [x]) W → (∀ a' W', Kept w.heap.size D K W W' → I D pre W' → Ax x a' W' → C a' W') →
      assign.wpIn (Fence.wide.inRound l) 1 P (Exit.then C (fun _ _ _ => False)) { tmps := (ps.zip (encs x)).foldl (fun t (p, v) => t.setIfInBounds p v) a.tmps, defers := [] } W)
    (hbody : ∀ (l : Nat) (D : Nat → Prop) (pre : List α) (x : α) (a' : Act) (W : World), w.heap.size ≤ l → w.heap.size + 2 ≤ W.heap.size → Bounds (w.heap.size + 2) D W → I D pre W → X D (pre ++ [x]) W → Ax x a' W → body.wpIn (Fence.wide.inRound l) 1 P (itPost w.heap.size K I Ix D (pre ++ [x]) W) a' W)
    (hdone : ∀ (E : Nat) (D : Nat → Prop) (xs : List α) (W : World), E = w.heap.size → w.heap.size + 2 ≤ W.heap.size → Bounds (w.heap.size + 2) D W → S xs → X D xs W → I D xs W → W.heap[E]? = some (.deferred (some [])) → Q .normal { a with defers := { target := .collected E, args := #[] } :: a.defers } W)
    (hstop : ∀ (E : Nat) (D : Nat → Prop) (c : Code) (pre : List α) (W : World), E = w.heap.size → w.heap.size + 2 ≤ W.heap.size → Bounds (w.heap.size + 2) D W → X D pre W → Ix c D pre W → W.heap[E]? = some (.deferred (some [])) → c.wpIn Fence.wide 3 P Q { a with defers := { target := .collected E, args := #[] } :: a.defers } W) :
    (Code.rangeFunc g ps assign body).wpIn Fence.wide 3 P Q a w := by
 refine wpIn_rangeFunc ?_
 intro fn hfn
 obtain ⟨rec, hrec⟩ : ∃ rec : LoopState → Option Code → Loop, rec = fun st pe => { state := st, pending := pe, fn, tmps := a.tmps, params := ps, assign, body, defers := w.heap.size } := ⟨_, rfl⟩
 obtain ⟨W1, hW1⟩ : ∃ W1, (w.alloc (.deferred (some []))).alloc (.loop (rec .ready none)) = W1 := ⟨_, rfl⟩
 have hs1 : W1.heap.size = w.heap.size + 2 := by rw [← hW1]; simp
 have hL1 : W1.heap[w.heap.size + 1]? = some (.loop (rec .ready none)) := by
  rw [← hW1]
  have := World.alloc_heap_new (w.alloc (.deferred (some []))) (.loop (rec .ready none))
  rwa [World.size_alloc] at this
 have hD1 : W1.heap[w.heap.size]? = some (.deferred (some [])) := by
  rw [← hW1]
  exact (Below.heap_alloc _ _ _ (by simp)).trans (World.alloc_heap_new w _)
 have hb01 : Below w.heap.size w W1 := by
  rw [← hW1]
  exact ((Below.refl _ w).alloc (Nat.le_refl _) _).alloc (by simp) _
 have hI1 : I (fun _ => False) [] W1 := hI _ _ _ _ _ (Bounds.none_ _ _) h0 (Steps.of_below hb01) (fun _ h => .inl h)
 have hb1 : Below w0.heap.size w0 W1 := hb0.trans (hb01.mono hb0.size)
 have hnK : ∀ b, w.heap.size ≤ b → ¬ K b := fun b hb hk => by
  have := hK b hk
  omega
 -- the record's and the deferred block's facts don't mind the iterator's steps
 have hrk : ∀ {D : Nat → Prop} {A C : World} {o : Obj} {b : Nat}, Bounds W1.heap.size D A → Steps W1.heap.size D A C → b < W1.heap.size → A.heap[b]? = some o → C.heap[b]? = some o := fun {D A C o b} hB hS hb ho =>
  (hS.block b (Array.getElem?_eq_some_iff.1 ho).1 (fun hd => by have := (hB b hd).1; omega) (.inl hb)).trans ho
 refine ⟨w.heap.size + 1, [{ target := .collected w.heap.size, args := #[] }], W1, { target := .fn (.func gf) lb, args := #[.func (.yield (w.heap.size + 1)) #[] #[]] }, W1, gf,
  #[.func (.yield (w.heap.size + 1)) #[] #[]] ++ lb, W1, ?_, ?_, ?_, ?_, fun _ => by omega, callsIn_wide.2 ?_⟩
 ·rw [← hW1, hrec]
  exact run_enterLoop_outer _ _ _ _ _
 ·simp only [resolve, hg]
  simp [go_sem]
 ·intro f' _
  trivial
 ·simp [invoke, go_sem, eg]
 ·refine (hseq.2 (w.heap.size + 1)
    (fun D pre W => I D pre W ∧ W.heap[w.heap.size + 1]? = some (.loop (rec .ready none)) ∧ W.heap[w.heap.size]? = some (.deferred (some [])))
    (fun D pre W => ∃ c, Ix c D pre W ∧ W.heap[w.heap.size + 1]? = some (.loop (rec .done (some c))) ∧ W.heap[w.heap.size]? = some (.deferred (some [])))
    W1 hb1
    (fun D D' s A C hB hs hS hD => ⟨hI _ _ _ _ _ (fun b hb => ⟨by have := (hB b hb).1; omega, (hB b hb).2⟩) hs.1 (hS.lower (by omega)) hD, hrk hB hS (by omega) hs.2.1, hrk hB hS (by omega) hs.2.2⟩)
    (fun D D' s A C hB hs hS hD => by
      obtain ⟨c, hc, hl, hk⟩ := hs
      exact ⟨c, hIx c _ _ _ _ _ (fun b hb => ⟨by have := (hB b hb).1; omega, (hB b hb).2⟩) hc (hS.lower (by omega)) hD, hrk hB hS (by omega) hl, hrk hB hS (by omega) hk⟩)
    ?_ ⟨hI1, hL1, hD1⟩).mono ?_
  ·-- one round
   rintro D pre x W hB ⟨hi, hl, hk⟩ hx
   rw [hs1] at hB
   have hnD : ¬ D (w.heap.size + 1) := fun h => by have := (hB _ h).1; omega
   have hy := run_yield (P := P) (args := encs x) hl (by rw [hrec]; exact hps x)
   rw [hrec] at hy
   refine ⟨fn, _, assign, body, hy, roundIn_of_wpIn hfn (hassign _ D pre x W _ hB hi hx ?_)⟩
   clear hy
   intro a' Wa hka hia hax
   have hla := hka.keeps.same _ _ (by omega) hl rfl
   have hda := hka.keeps.same _ _ (Nat.le_refl _) hk rfl
   have hxa := hseq.1 _ _ _ _ hx hka.turned
   have hBa := hB.grow hka.turned.size
   have hlt : w.heap.size + 1 < Wa.heap.size := (Array.getElem?_eq_some_iff.1 hla).1
   refine ⟨_, run_beginRound hla (by rw [hrec]), ?_⟩
   obtain ⟨Wb, hWb⟩ : ∃ Wb, Wa.putObj (w.heap.size + 1) (.loop { rec .ready none with state := .busy }) = Wb := ⟨_, rfl⟩
   have hkb : Kept W1.heap.size D K Wa Wb := by
    rw [← hWb]
    exact Kept.putObj _ (by omega) hnD (hnK _ (by omega))
   have hsb : Steps w.heap.size D Wa Wb := by
    rw [← hWb]
    exact Steps.putObj _ (by omega) hla rfl
   have hlb : Wb.heap[w.heap.size + 1]? = some (.loop { rec .ready none with state := .busy }) := by
    rw [← hWb]
    exact World.putObj_heap_same hlt
   have hdb : Wb.heap[w.heap.size]? = some (.deferred (some [])) := by
    rw [← hWb]
    exact (World.putObj_heap_other (by omega)).trans hda
   have hBl : Bounds w.heap.size D Wa := fun b hb => ⟨by have := (hBa b hb).1; omega, (hBa b hb).2⟩
   have hib := hI _ _ _ _ _ hBl hia hsb (fun _ h => .inl h)
   have haxb : Ax x a' Wb := by
    rw [← hWb]
    exact (hAx x a').putObj (s := ()) _ hax (by omega) hla rfl
   rw [hWb]
   refine wpIn_mono (hbody _ D pre x a' Wb (by omega) (by have := hkb.turned.size; omega) (hBa.grow hkb.turned.size) hib (hseq.1 _ _ _ _ hxa hkb.turned) haxb) ?_
   have fin : ∀ (jump : Option Code) (W3 : World), Kept w.heap.size D K Wb W3 →
       (Instr.endRound (w.heap.size + 1) jump).run P W3 = .ok (.bool jump.isNone) (W3.putObj (w.heap.size + 1) (.loop (rec (if jump.isNone then .ready else .done) jump))) ∧
       (W3.putObj (w.heap.size + 1) (.loop (rec (if jump.isNone then .ready else .done) jump))).heap[w.heap.size + 1]? = some (.loop (rec (if jump.isNone then .ready else .done) jump)) ∧
       (W3.putObj (w.heap.size + 1) (.loop (rec (if jump.isNone then .ready else .done) jump))).heap[w.heap.size]? = some (.deferred (some [])) ∧
       Kept W1.heap.size D K W (W3.putObj (w.heap.size + 1) (.loop (rec (if jump.isNone then .ready else .done) jump))) ∧
       Steps w.heap.size D W3 (W3.putObj (w.heap.size + 1) (.loop (rec (if jump.isNone then .ready else .done) jump))) ∧ Bounds w.heap.size D W3 := fun jump W3 hk3 => by
    have hl3 := hk3.keeps.same _ _ (by omega) hlb rfl
    have hd3 := hk3.keeps.same _ _ (Nat.le_refl _) hdb rfl
    have hend := run_endRound (P := P) jump hl3
    rw [hrec] at hend
    refine ⟨by rw [hrec]; exact hend, World.putObj_heap_same (Array.getElem?_eq_some_iff.1 hl3).1, (World.putObj_heap_other (by omega)).trans hd3, ?_, Steps.putObj _ (by omega) hl3 rfl, (hBl.grow hkb.turned.size).grow hk3.turned.size⟩
    exact (hka.raise (by omega)).trans (hkb.trans ((hk3.raise (by omega)).trans (Kept.putObj _ (by omega) hnD (hnK _ (by omega)))))
   rintro e a3 W3 hp
   cases e with
   | normal =>
     obtain ⟨hr, hl4, hd4, hk4, hs4, hB4⟩ := fin none W3 hp.1
     exact ⟨_, _, hr, .inl ⟨rfl, ⟨hI _ _ _ _ _ hB4 hp.2 hs4 (fun _ h => .inl h), hl4, hd4⟩, hk4⟩⟩
   | ret =>
     obtain ⟨hr, hl4, hd4, hk4, hs4, hB4⟩ := fin (some .ret) W3 hp.1
     exact ⟨_, _, hr, .inr ⟨rfl, ⟨.ret, hIx _ _ _ _ _ _ hB4 hp.2 hs4 (fun _ h => .inl h), hl4, hd4⟩, hk4⟩⟩
   | exit id =>
     obtain ⟨hr, hl4, hd4, hk4, hs4, hB4⟩ := fin (some (.exit id)) W3 hp.1
     exact ⟨_, _, hr, .inr ⟨rfl, ⟨.exit id, hIx _ _ _ _ _ _ hB4 hp.2 hs4 (fun _ h => .inl h), hl4, hd4⟩, hk4⟩⟩
   | goto t =>
     obtain ⟨hr, hl4, hd4, hk4, hs4, hB4⟩ := fin (some (.goto t)) W3 hp.1
     exact ⟨_, _, hr, .inr ⟨rfl, ⟨.goto t, hIx _ _ _ _ _ _ hB4 hp.2 hs4 (fun _ h => .inl h), hl4, hd4⟩, hk4⟩⟩
   | panic ch => exact hp.elim
   | outgrown => exact hp.elim
  ·-- behind the iterator
   rintro e W2 ⟨⟨v, rfl⟩, D, hB, (⟨xs, hS, hx, hi, hl, hk⟩ | ⟨pre, hx, c, hi, hl, hk⟩)⟩
   ·have hnD : ¬ D (w.heap.size + 1) := fun h => by have := (hB _ h).1; omega
    rw [hs1] at hB
    have hBl : Bounds w.heap.size D W2 := fun b hb => ⟨by have := (hB b hb).1; omega, (hB b hb).2⟩
    have hend := run_endLoop (P := P) hl (by rw [hrec]; simp)
    rw [hrec] at hend
    refine ⟨none, _, hend, hdone _ D xs _ rfl (by have := (Array.getElem?_eq_some_iff.1 hl).1; simp; omega) (hB.grow (by simp)) hS (hseq.1 _ _ _ _ hx (Kept.putObj (B := W1.heap.size) _ (by omega) hnD (hnK _ (by omega))).turned) (hI _ _ _ _ _ hBl hi (Steps.putObj _ (by omega) hl rfl) (fun _ h => .inl h)) ((World.putObj_heap_other (by omega)).trans hk)⟩
   ·have hnD : ¬ D (w.heap.size + 1) := fun h => by have := (hB _ h).1; omega
    rw [hs1] at hB
    have hBl : Bounds w.heap.size D W2 := fun b hb => ⟨by have := (hB b hb).1; omega, (hB b hb).2⟩
    have hend := run_endLoop (P := P) hl (by rw [hrec]; simp)
    rw [hrec] at hend
    refine ⟨some c, _, hend, hstop _ D c pre _ rfl (by have := (Array.getElem?_eq_some_iff.1 hl).1; simp; omega) (hB.grow (by simp)) (hseq.1 _ _ _ _ hx (Kept.putObj (B := W1.heap.size) _ (by omega) hnD (hnK _ (by omega))).turned) (hIx c _ _ _ _ _ hBl hi (Steps.putObj _ (by omega) hl rfl) (fun _ h => .inl h)) ((World.putObj_heap_other (by omega)).trans hk)⟩
end Go.Proofs.Ytmmibldchfmleaa

namespace Go.Proofs.Ytmmibldchfmleaa
open Go.RowKit
namespace Grow
section
variable {P : Program} {ops : Array Oper} {Q : Exit → Act → World → Prop} {G : World → World → Prop} {Φ : Nat → Value → World → Prop} {a0 : Act} {w0 : World} {lr nr : Nat}
end
end Grow
theorem wpListIn_load_row {F : Fence} {n : Nat} {P : Program} {ops : Array Oper} {rest : List Oper} {o : Oper} {a : Act} {w : World} {Q : Exit → Act → World → Prop} (hgd : o.guard = none) (ty : TypeId) (x : Operand) (ho : o.op = .load ty x)
    (g : Nat) (hx : a.eval x = .pointer (some ⟨g, 0, none⟩)) (t : TypeId) (cs : Array Value) (fr : Nat × Nat) (d : TypeDesc) (hg : w.heap[g]? = some (.cells cs t fr))
    (hu : P.underlying ty = some d) (hd : (match d with | .struct _ | .array _ _ => true | _ => false) = true) (hi : (P.info? ty).map (·.size) = some cs.size)
    (h : wpListIn F n P ops Q rest (a.put o.dst (.agg cs)) w) : wpListIn F n P ops Q (o :: rest) a w := by
 refine wpListIn_plain hgd fun K hK => ?_
 unfold Oper.wpIn
 refine ⟨?_, ?_⟩
 ·simp [Oper.about, ho]
 ·rw [Oper.semAt_plain F _ _ (by rw [ho]; intro c hc; cases hc)]
  unfold execOp
  simp only [ho, hx, Instr.loadAt, Instr.sureAddr, Sem.run_bind, Sem.run_pure, Result.andThen_ok, run_loadVar_row w g t ty cs fr d hg hu hd hi]
  exact hK _ _ h
theorem wpListIn_store_row {F : Fence} {n : Nat} {P : Program} {ops : Array Oper} {rest : List Oper} {o : Oper} {a : Act} {w : World} {Q : Exit → Act → World → Prop} (hgd : o.guard = none) (ty : TypeId) (x y : Operand) (ho : o.op = .store ty x y)
    (g : Nat) (cells : Array Value) (hx : a.eval x = .pointer (some ⟨g, 0, none⟩)) (hy : a.eval y = .agg cells)
    (t : TypeId) (old : Array Value) (hg : w.heap[g]? = some (.cells old t (0, 0))) (hi : (P.info? ty).map (·.size) = some cells.size)
    (hold : old.size = cells.size) (h1 : cells.all (·.oneCell') = true)
    (h : wpListIn F n P ops Q rest (a.put o.dst undef) (w.setRow g cells)) : wpListIn F n P ops Q (o :: rest) a w := by
 refine wpListIn_plain hgd fun K hK => ?_
 unfold Oper.wpIn
 refine ⟨?_, ?_⟩
 ·simp [Oper.about, ho]
 ·rw [Oper.semAt_plain F _ _ (by rw [ho]; intro c hc; cases hc)]
  unfold execOp
  simp only [ho, hx, hy, Instr.storeAt, Instr.sureAddr, Sem.run_bind, Sem.run_pure, Result.andThen_ok, run_storeVar_row w g t ty old cells hg hi hold h1]
  exact hK _ _ h
end Go.Proofs.Ytmmibldchfmleaa
