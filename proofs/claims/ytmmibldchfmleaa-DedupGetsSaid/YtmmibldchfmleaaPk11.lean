/-
  Dedup: Get.
  Dedup: awake.
-/
import Derived.Test.YtmmibldchfmleaaPk07
import Derived.Test.YtmmibldchfmleaaPk09
import Derived.Test.YtmmibldchfmleaaPk05
import Derived.Test.YtmmibldchfmleaaPk10
/-! Dedup: Get. -/
namespace Go.Proofs.Ytmmibldchfmleaa
open Go.RowKit Go.Maps Codec

/-- The id ahead. -/
def aheadL (acc : List DRow) : List UInt8 := match acc.getLast? with | none => List.replicate 32 0 | some y => y.1
theorem aheadL_snoc (acc : List DRow) (y : DRow) : aheadL (acc ++ [y]) = y.1 := by simp [aheadL]
theorem idC_row (l : List UInt8) (e : Int) : idC l e = row8 (idL l e) := rfl
theorem dg_len {l : List UInt8} {e : Int} (h : dgE l e = 0) : (dgL l e).length + 65 ≤ l.length := by
  obtain ⟨_, h2⟩ := row_put h
  have h3 : (dgR l e).1.length = 32 := idL_length _ _
  have h4 : (dgR l e).2.1.length = 32 := idL_length _ _
  have h5 := put_length_pos (dgR l e).2.2
  have h6 := congrArg List.length h2
  simp only [List.length_append] at h6
  omega
theorem ui_lenD (l : List UInt8) (e : Int) : (uiL l e).length ≤ l.length := uiL_length l e
/-- While it is read. -/
structure GtS (w : World) (B1 pr px b qa L : Nat) (acc : List DRow) (l : List UInt8) (e : Int) (W : World) : Prop where
  rd : Rd W (fun k => w.heap.size ≤ k ∧ k < B1) pr l e
  ix : Ix W px b (gdT acc)
  ah : W.heap[qa]? = some (.cells (row8 (aheadL acc)) 31 (0, 0))
  bl : Below w.heap.size w W
  lo : w.heap.size ≤ pr ∧ pr < B1 ∧ B1 ≤ px ∧ B1 ≤ b ∧ B1 ≤ qa ∧ px ≠ qa
  wf : ∀ y ∈ acc, y.1.length = 32 ∧ y.2.1.length = 32
  cn : (e = 0 → acc.length * 65 + l.length ≤ L) ∧ acc.length ≤ L + 1
section
variable {w W W' : World} {B1 pr px b qa L : Nat} {acc : List DRow} {l l' : List UInt8} {e e' : Int}
theorem GtS.later (h : GtS w B1 pr px b qa L acc l e W) (hb : Below W.heap.size W W') : GtS w B1 pr px b qa L acc l e W' :=
  ⟨h.rd.turned (Turned.of_below (S := fun _ => False) hb) fun _ _ _ h => h, h.ix.below hb, (hb.block _ (lt_of_cells h.ah)).trans h.ah, h.bl.trans (hb.mono h.bl.size), h.lo, h.wf, h.cn⟩
theorem GtS.ahl (h : GtS w B1 pr px b qa L acc l e W) : (aheadL acc).length = 32 := by
  unfold aheadL
  rcases hg : acc.getLast? with _ | y
  · simp
  · exact (h.wf y (List.mem_of_getLast? hg)).1
end
/-- Behind the three calls: all but the reader is as it was. -/
theorem GtS.read {w W W' : World} {B1 pr px b qa L : Nat} {acc : List DRow} {l l' : List UInt8} {e e' : Int} (h : GtS w B1 pr px b qa L acc l e W) (hr : Rd W' (fun k => w.heap.size ≤ k ∧ k < B1) pr l' e') (hg : W.grownBy W' (some pr)) :
    Rd W' (fun k => w.heap.size ≤ k ∧ k < B1) pr l' e' ∧ Ix W' px b (gdT acc) ∧ W'.heap[qa]? = some (.cells (row8 (aheadL acc)) 31 (0, 0)) ∧ Below w.heap.size w W' := by
  have hlo := h.lo
  have ht : Turned (· = pr) W W' := Turned.of_gr hg fun _ e => (Option.some.inj e).symm
  exact ⟨hr, h.ix.turned ht (by show ¬ px = pr; omega) (by show ¬ b = pr; omega), (ht.block _ (lt_of_cells h.ah) (by show ¬ qa = pr; omega)).trans h.ah, h.bl.trans ⟨ht.os, ht.tape, ht.output, ht.size, fun i hi => ht.block i (Nat.lt_of_lt_of_le hi h.bl.size) (by show ¬ i = pr; omega)⟩⟩
set_option maxRecDepth 100000 in
theorem build_pl {l : List UInt8} (hl : l.length = 32) (X : Int) : Try.prog.built 37 [(0, .agg (row8 l)), (1, .int .i64 X)] = some (plC (l, X)) := by
  obtain ⟨a0, a1, a2, a3, a4, a5, a6, a7, a8, a9, b0, b1, b2, b3, b4, b5, b6, b7, b8, b9, c0, c1, c2, c3, c4, c5, c6, c7, c8, c9, d0, d1, rfl⟩ := list32' hl
  unfold row8 plC u8s
  kernel_rfl
theorem exec_build {P : Program} {E : Operand → Value} {o : Oper} {W : World} (t : TypeId) (x0 x1 : Operand) (ho : o.op = .build t #[(0, x0), (1, x1)]) (u0 u1 : Value) (h0 : E x0 = u0) (h1 : E x1 = u1) (cells : Array Value) (hb : P.built t [(0, u0), (1, u1)] = some cells) : (execOp E o).run P W = .ok (.value (.agg cells)) W := by
  have hr : (Instr.build t #[(0, u0), (1, u1)]).run P W = .ok (.agg cells) W := run_build W t _ cells hb
  unfold execOp
  simp [ho, h0, h1, hr, Result.andThen]
def GePost (w : World) (g : Tv Pl × Int) (e : Ending) (w' : World) : Prop :=
  (∃ p b, e = .returned (.tuple #[.pointer (some ⟨p, 0, none⟩), .int .i64 0]) ∧ g.2 = 0 ∧ Ix w' p b g.1 ∧ w.heap.size ≤ p ∧ w.heap.size ≤ b ∧ Below w.heap.size w w') ∨
  (e = .returned (.tuple #[.pointer none, .int .i64 g.2]) ∧ g.2 ≠ 0 ∧ Below w.heap.size w w')
def GtR (w : World) (B1 pr px b qa L : Nat) (R : List DRow × List UInt8 × Int) (may left : Value) (W : World) : Prop :=
  ∃ (M : Nat) (acc : List DRow) (l : List UInt8) (e : Int), left = .int .u64 (M : Int) ∧ M < 18446744073709551616 ∧ may = .bool (mayG acc) ∧ GtS w B1 pr px b qa L acc l e W ∧ gdGo M acc l e = R
/-- In a round, behind the calls. -/
structure GuS (w : World) (B1 pr px b qa q9 q10 L : Nat) (acc : List DRow) (y : DRow) (l' : List UInt8) (e' : Int) (W : World) : Prop where
  rd : Rd W (fun k => w.heap.size ≤ k ∧ k < B1) pr l' e'
  ix : Ix W px b (gdT acc)
  ah : W.heap[qa]? = some (.cells (row8 (aheadL acc)) 31 (0, 0))
  bl : Below w.heap.size w W
  r9 : W.heap[q9]? = some (.cells (row8 y.1) 31 (0, 0))
  r10 : W.heap[q10]? = some (.cells (row8 y.2.1) 31 (0, 0))
  ne : qa < q9 ∧ qa < q10 ∧ b < q9 ∧ b < q10 ∧ px < q9 ∧ px < q10
theorem GuS.later {w W W' : World} {B1 pr px b qa q9 q10 L : Nat} {acc : List DRow} {y : DRow} {l' : List UInt8} {e' : Int} (h : GuS w B1 pr px b qa q9 q10 L acc y l' e' W) (hb : Below W.heap.size W W') : GuS w B1 pr px b qa q9 q10 L acc y l' e' W' :=
  ⟨h.rd.turned (Turned.of_below (S := fun _ => False) hb) fun _ _ _ h => h, h.ix.below hb, (hb.block _ (lt_of_cells h.ah)).trans h.ah, h.bl.trans (hb.mono h.bl.size), (hb.block _ (lt_of_cells h.r9)).trans h.r9, (hb.block _ (lt_of_cells h.r10)).trans h.r10, h.ne⟩
set_option maxHeartbeats 8000000 in
set_option maxRecDepth 100000 in
/-- Get. -/
theorem ixget_any {w : World} {S : Nat → Prop} {A : Option Addr} {n c : Nat} {bs : List UInt8} (hb : Byt w S A n c bs) (hn : n ≤ 1000000) :
    Calls Try.prog 18 #[.slice A n c] w (GePost w (getD bs)) := by
  have hzi := zero_id
  have hnr := newReader hb (by omega)
  have hL : bs.length = n := hb.len
  have HN := Lib.hid (And.intro hn hL)
  clear hb hn hL
  go_enter Try.func18, Try.ntmps18
  go_upto_region 2 with (go_at_call 25; refine hnr.mono ?_; clear hnr; rintro _ w1 ⟨pr, rfl, hr1, hb1⟩)
  have hix := ixnew_any w1
  have H1 := Lib.hid (And.intro (hr1.mono (T := fun k => w.heap.size ≤ k ∧ k < w1.heap.size) fun k hk h => ⟨h, hk⟩) (And.intro hb1 (And.intro hr1.1 hr1.lt)))
  clear hr1 hb1
  go_upto_region 3 with (go_at_call 9; refine hix.mono ?_; clear hix; rintro _ w2 ⟨px, b, rfl, hi2, hlp, hlb, hb2⟩)
  have H2 := Lib.hid (And.intro hi2 (And.intro hlp (And.intro hlb hb2)))
  clear hi2 hlp hlb hb2
  go_upto_region 4 with fail
  have h3a := heap_alloc_new w2 (.cells zerosId 31)
  have hb3 : Below w2.heap.size w2 (w2.alloc (.cells zerosId 31)) := (Below.refl _ _).alloc (Nat.le_refl _) _
  have hrd3 := (H1.out.1.turned (T := fun _ => False) (Turned.of_below H2.out.2.2.2) fun _ _ _ h => h).turned (T := fun _ => False) (Turned.of_below hb3) fun _ _ _ h => h
  have hui := uint_any hrd3
  have hs12 := H2.out.2.2.2.size
  have H3 : Hid (GtS w w1.heap.size pr px b w2.heap.size bs.length [] bs 0 (w2.alloc (.cells zerosId 31))) := Lib.hid
    ⟨hrd3, H2.out.1.below hb3, h3a, (H1.out.2.1.trans (H2.out.2.2.2.mono H1.out.2.1.size)).trans (hb3.mono (Nat.le_trans H1.out.2.1.size hs12)), by
      have h1 := H1.out.2.2
      have h2 := lt_of_cells H2.out.1.box
      have h3 := H2.out
      omega, by simp, by simp, Nat.zero_le _⟩
  clear h3a hb3 hrd3 hs12
  generalize w2.heap.size = qa at H3 ⊢
  generalize w2.alloc (.cells zerosId 31) = w3 at H3 hui ⊢
  have HS1 := Lib.hid (show w.heap.size ≤ w1.heap.size from H1.out.2.1.size)
  generalize w1.heap.size = B1 at H3 HS1 hui
  clear H1 H2
  have hux := uiX_lt bs 0
  go_wp2_with (go_at_call 26; refine hui.mono ?_; clear hui; rintro _ w4 ⟨rfl, hr4, hg4⟩)
  obtain ⟨R, hR⟩ : ∃ R, R = gdGo (uiX bs 0) [] (uiL bs 0) (uiE bs 0) := ⟨_, rfl⟩
  have H4 : Hid (GtR w B1 pr px b qa bs.length R (.bool true) (.int .u64 (uiX bs 0 : Int)) w4) := Lib.hid (by
    obtain ⟨h1, h2, h3, h4⟩ := H3.out.read hr4 hg4
    exact ⟨uiX bs 0, [], uiL bs 0, uiE bs 0, rfl, hux, rfl, ⟨h1, h2, h3, h4, H3.out.lo, by simp, fun _ => by simp [ui_lenD bs 0], Nat.zero_le _⟩, hR.symm⟩)
  have HRR := Lib.hid (show getD bs = getDEnd R by rw [hR]; rfl)
  clear hr4 hg4 H3 hR hux
  generalize uiX bs 0 = M0 at H4 ⊢
  go_loopw [6, 8, 9, 10, 11, 12] (fun may left _ _ _ _ wr => GtR w B1 pr px b qa bs.length R may left wr) (fun _ left _ _ _ _ _ => (intOf left).toNat)
  case atStart => exact H4.out
  case round =>
    obtain ⟨M, acc, l, e, rfl, hM, rfl, hgs, hgo⟩ := hrel
    clear H4
    have HG := Lib.hid (And.intro hgs (And.intro hgo hM))
    have her := err_rd hgs.rd
    clear hgs hgo hM
    by_cases hM0 : M = 0
    · have hMd : decide ((M : Int) > 0) = false := by simp; omega
      have hMd2 : decide (0 < M) = false := by simp; omega
      have hRe : R = (acc, l, e) := by rw [← HG.out.2.1, hM0]; rfl
      clear her hM0
      have hend := end_rd HG.out.1.rd
      obtain ⟨E, hE⟩ : ∃ E, E = endE l e := ⟨_, rfl⟩
      rw [← hE] at hend
      have HD : Hid (getD bs = getDEnd (acc, l, e) ∧ E = endE l e) := Lib.hid ⟨by rw [HRR.out, hRe], hE⟩
      have HX : Hid (Ix wr px b (gdT acc) ∧ Below w.heap.size w wr ∧ w.heap.size ≤ px ∧ w.heap.size ≤ b) := Lib.hid ⟨HG.out.1.ix, HG.out.1.bl, by have h1 := HG.out.1.lo; have h2 := HS1.out; omega, by have h1 := HG.out.1.lo; have h2 := HS1.out; omega⟩
      obtain ⟨Z, hZ⟩ : ∃ Z, Z = mayG acc := ⟨_, rfl⟩
      rw [← hZ]
      have HZ2 := Lib.hid hZ
      clear hE hRe HG HRR hZ
      by_cases hE0 : E = 0
      · subst hE0
        cases Z
        · have HP : Hid (getD bs = ([], 11)) := Lib.hid (by rw [HD.out.1]; unfold getDEnd; simp only; rw [if_neg (by rw [← HD.out.2]; simp), if_neg (by rw [← HZ2.out]; simp)])
          go_wp2_with (go_at_call 30; refine hend.mono ?_; clear hend; rintro _ _ ⟨rfl, rfl⟩)
          refine bodyPost_ret (results_tmp2 rfl _ _ _) rfl ?_
          exact .inr ⟨by rw [HP.out]; rfl, by rw [HP.out]; decide, HX.out.2.1⟩
        · have HP : Hid (getD bs = (gdT acc, 0)) := Lib.hid (by rw [HD.out.1]; unfold getDEnd; simp only; rw [if_neg (by rw [← HD.out.2]; simp), if_pos HZ2.out.symm, gdT_may _ HZ2.out.symm])
          go_wp2_with (go_at_call 30; refine hend.mono ?_; clear hend; rintro _ _ ⟨rfl, rfl⟩)
          refine bodyPost_ret (results_tmp2 rfl _ _ _) rfl ?_
          exact .inl ⟨px, b, rfl, by rw [HP.out], by rw [HP.out]; exact HX.out.1, HX.out.2.2.1, HX.out.2.2.2, HX.out.2.1⟩
      · have hEb : (E == 0) = false := by simpa using hE0
        have hEn : (E != 0) = true := by simpa using hE0
        have hEd : decide (E = 0) = false := by simpa using hE0
        have HP : Hid (getD bs = ([], E) ∧ E ≠ 0) := Lib.hid ⟨by rw [HD.out.1]; unfold getDEnd; simp only; rw [if_pos (by rw [← HD.out.2]; exact hE0), ← HD.out.2], hE0⟩
        clear hE0
        go_wp2_with (go_at_call 30; refine hend.mono ?_; clear hend; rintro _ _ ⟨rfl, rfl⟩)
        refine bodyPost_ret (results_tmp2 rfl _ _ _) rfl ?_
        exact .inr ⟨by rw [HP.out.1]; rfl, by rw [HP.out.1]; exact HP.out.2, HX.out.2.1⟩
    by_cases he : e = 0
    · --[RD
      subst he
      have hMp : 0 < M := by omega
      have hMd : decide ((M : Int) > 0) = true := by simpa using hMp
      have hMd2 : decide (0 < M) = true := by simpa using hMp
      have hid1 := id_any HG.out.1.rd
      go_upto_region 7 with (go_at_call 27; refine her.mono ?_; clear her; rintro _ _ ⟨rfl, rfl⟩)
      clear hMd hMd2
      obtain ⟨y, hy⟩ : ∃ y, y = dgR l 0 := ⟨_, rfl⟩
      obtain ⟨XS, hXS⟩ : ∃ XS, XS = idC l 0 := ⟨_, rfl⟩
      obtain ⟨PS, hPS⟩ : ∃ PS, PS = idC (fxL l 0 32) (tkE l 0 32) := ⟨_, rfl⟩
      obtain ⟨l', hl'⟩ : ∃ l', l' = dgL l 0 := ⟨_, rfl⟩
      obtain ⟨e', he'⟩ : ∃ e', e' = dgE l 0 := ⟨_, rfl⟩
      obtain ⟨nn, hnn⟩ : ∃ nn, nn = uiX (fxL (fxL l 0 32) (tkE l 0 32) 32) (tkE (fxL l 0 32) (tkE l 0 32) 32) := ⟨_, rfl⟩
      have HY : Hid (XS = row8 y.1 ∧ XS.size = 32 ∧ XS.all (·.oneCell') = true ∧ PS = row8 y.2.1 ∧ PS.size = 32 ∧ PS.all (·.oneCell') = true ∧ nn = y.2.2 ∧ nn < 18446744073709551616 ∧ y.1.length = 32 ∧ y.2.1.length = 32) := Lib.hid (by
        have h1 : y.1.length = 32 := by rw [hy]; exact idL_length _ _
        have h2 : y.2.1.length = 32 := by rw [hy]; exact idL_length _ _
        have h3 : XS = row8 y.1 := by rw [hXS, hy]; rfl
        have h4 : PS = row8 y.2.1 := by rw [hPS, hy]; rfl
        exact ⟨h3, by rw [h3, row8_size, h1], by rw [h3]; exact row8_one _, h4, by rw [h4, row8_size, h2], by rw [h4]; exact row8_one _, by rw [hnn, hy]; rfl, by rw [hnn]; exact uiX_lt _ _, h1, h2⟩)
      have HL := Lib.hid (And.intro hy (And.intro hl' he'))
      rw [← hXS] at hid1
      clear hy hXS
      go_upto_region 8 with (first
        | (go_at_call 28; refine hid1.mono ?_; clear hid1; rintro _ w5 ⟨rfl, hr5, hg5⟩; have hid2 := id_any hr5; rw [← hPS] at hid2; have HG5 := Lib.hid hg5; clear hr5 hg5 hPS)
        | (go_at_call 28; refine hid2.mono ?_; clear hid2; rintro _ w6 ⟨rfl, hr6, hg6⟩; have hui7 := uint_any hr6; rw [← hnn, show uiL (fxL (fxL l 0 32) (tkE l 0 32) 32) (tkE (fxL l 0 32) (tkE l 0 32) 32) = l' from hl'.symm, show uiE (fxL (fxL l 0 32) (tkE l 0 32) 32) (tkE (fxL l 0 32) (tkE l 0 32) 32) = e' from he'.symm] at hui7; have HG6 := Lib.hid hg6; clear hr6 hg6 hnn hl' he')
        | (go_at_call 26; refine hui7.mono ?_; clear hui7; rintro _ w7 ⟨rfl, hr7, hg7⟩
           have H7 := Lib.hid (HG.out.1.read hr7 (gr_trans (gr_trans HG5.out HG6.out) hg7))
           clear hr7 hg7 HG5 HG6
           obtain ⟨hz6, hz7, hbz⟩ := two_rows (w := w7) (a := zerosId) (b := zerosId) (s := 31) (t := 31)
           obtain ⟨w8, hw8⟩ : ∃ w8, w8 = (((w7.alloc (.cells zerosId 31)).alloc (.cells zerosId 31)).setRow w7.heap.size XS).setRow (w7.heap.size + 1) PS := ⟨_, rfl⟩
           have h7 : (((w7.alloc (.cells zerosId 31)).alloc (.cells zerosId 31)).setRow w7.heap.size XS).heap[w7.heap.size + 1]? = some (.cells zerosId 31 (0, 0)) := (setRow_ne _ _ _ _ (by omega)).trans hz7
           have H8 : Hid (w8.heap[w7.heap.size]? = some (.cells XS 31 (0, 0)) ∧ w8.heap[w7.heap.size + 1]? = some (.cells PS 31 (0, 0)) ∧ Below w7.heap.size w7 w8) := Lib.hid ⟨by rw [hw8]; exact (setRow_ne _ _ _ _ (by omega)).trans (setRow_at hz6), by rw [hw8]; exact setRow_at h7, by rw [hw8]; exact below_setRow (below_setRow hbz (Nat.le_refl _) _) (by omega) _⟩
           have HZ := Lib.hid (And.intro hz6 h7)
           have HW8 := Lib.hid hw8
           clear hz6 hz7 hbz h7 hw8)
        | (refine wpList_store_row (by rfl) 31 (.tmp 9) (.tmp 29) (by rfl) w7.heap.size XS (by rfl) (by rfl) 31 zerosId HZ.out.1 (by rw [HY.out.2.1]; exact id_info) (by rw [HY.out.2.1]; rfl) HY.out.2.2.1 ?_)
        | (refine wpList_store_row (by rfl) 31 (.tmp 10) (.tmp 31) (by rfl) (w7.heap.size + 1) PS (by rfl) (by rfl) 31 zerosId HZ.out.2 (by rw [HY.out.2.2.2.2.1]; exact id_info) (by rw [HY.out.2.2.2.2.1]; rfl) HY.out.2.2.2.2.2.1 ?_))
      rw [← HW8.out]
      clear HZ HW8
      have HU : Hid (GuS w B1 pr px b qa w7.heap.size (w7.heap.size + 1) bs.length acc y l' e' w8) := Lib.hid (by
        have h7 := H7.out
        have h1 := lt_of_cells h7.2.2.1
        have h2 := lt_of_cells h7.2.1.box
        have h3 := h7.2.1.map.lt
        exact ⟨h7.1.turned (T := fun _ => False) (Turned.of_below H8.out.2.2) fun _ _ _ h => h, h7.2.1.below H8.out.2.2, (H8.out.2.2.block _ h1).trans h7.2.2.1, h7.2.2.2.trans (H8.out.2.2.mono h7.2.2.2.size), by rw [← HY.out.1]; exact H8.out.1, by rw [← HY.out.2.2.2.1]; exact H8.out.2.1, by omega, by omega, by omega, by omega, by omega, by omega⟩)
      clear H7 H8
      generalize w7.heap.size + 1 = q10 at HU ⊢
      generalize w7.heap.size = q9 at HU ⊢
      have hcb := HU.out.ix.cell
      have hlen := HU.out.ix.map.len Try.underlying64 3
      obtain ⟨N, hN⟩ : ∃ N, N = (gdT acc).length := ⟨_, rfl⟩
      rw [← hN] at hlen
      obtain ⟨F, hF⟩ : ∃ F, F = decide (acc = []) := ⟨_, rfl⟩
      have hNF : ((N : Int) == 0) = F := by
        rw [show ((N : Int) == 0) = decide ((N : Int) = 0) from rfl, hF, hN]
        refine decide_eq_decide.2 ⟨fun h => Classical.byContradiction fun h2 => ?_, fun h => by rw [h]; rfl⟩
        have h3 := (gdT_len acc).2.2 h2
        exact h3 (List.eq_nil_of_length_eq_zero (by omega))
      have HF := Lib.hid hF
      clear hN hF
      have hadd : IntKind.u64.wrap ((M : Int) - 1) = ((M - 1 : Nat) : Int) := by rw [IntWalk.u64_in _ (by have := HG.out.2.2; omega)]; omega
      have hahl := HG.out.1.ahl
      go_upto_region 9 with fail
      clear hcb hlen hNF
      obtain ⟨Q, hQ⟩ : ∃ Q, Q = !mayS acc y := ⟨_, rfl⟩
      have HQ : Hid (Q = !mayS acc y ∧ mayG (acc ++ [y]) = (mayG acc && !Q)) := Lib.hid ⟨hQ, by rw [mayG_snoc, hQ]; simp⟩
      clear hQ
      go_cut [51] from 40 to 51 (fun qv wx => qv = .bool Q ∧ GuS w B1 pr px b qa q9 q10 bs.length acc y l' e' wx)
      case first =>
        by_cases h1 : 1023 < nn
        · have hd1 : decide ((nn : Int) > 1023) = true := by simp; omega
          have hd2 : decide ((1023 : Int) < (nn : Int)) = true := by simp; omega
          have hd3 : decide (1023 < nn) = true := by simpa using h1
          obtain rfl : Q = true := by
            rw [HQ.out.1]
            unfold mayS
            rw [← HY.out.2.2.2.2.2.2.1, show decide (nn ≤ 1023) = false by simpa using h1]
            simp
          clear h1
          go_wp2_with fail
          go_meet
          exact ⟨rfl, HU.out⟩
        have hd1 : decide ((nn : Int) > 1023) = false := by simp; omega
        have hd2 : decide ((1023 : Int) < (nn : Int)) = false := by simp; omega
        have hd3 : decide (1023 < nn) = false := by simpa using h1
        cases F
        · have hne : acc ≠ [] := by have := HF.out; simpa using this
          obtain ⟨z, hz⟩ : ∃ z, acc.getLast? = some z := by
            rcases hg : acc.getLast? with _ | z
            · exact absurd (List.getLast?_eq_none_iff.1 hg) hne
            · exact ⟨z, rfl⟩
          have haz : aheadL acc = z.1 := by unfold aheadL; rw [hz]
          have hcm := fun W => cmp_any (aheadL acc) y.1 hahl HY.out.2.2.2.2.2.2.2.2.1 W
          have hnn' : decide (0 ≤ Lib.compareBytes (aheadL acc) y.1) = Q := by
            rw [cmpB_nonneg, haz, HQ.out.1]
            unfold mayS
            rw [← HY.out.2.2.2.2.2.2.1, show decide (nn ≤ 1023) = true by simpa using h1, hz]
            simp
          obtain ⟨AS, hAS⟩ : ∃ AS, AS = row8 (aheadL acc) := ⟨_, rfl⟩
          have HAS : Hid (AS = row8 (aheadL acc) ∧ AS.size = 32) := Lib.hid ⟨hAS, by rw [hAS, row8_size, hahl]⟩
          rw [← hAS, ← HY.out.1] at hcm
          generalize Lib.compareBytes (aheadL acc) y.1 = cr at hcm hnn'
          have hnn2 : decide (cr ≥ 0) = Q := hnn'
          clear hne hz haz hAS h1
          cases Q
          · go_wp2_with (first
              | (go_at_call 29; refine (hcm _).mono ?_; clear hcm; rintro _ w9 ⟨rfl, q, hw9⟩
                 have HU9 := Lib.hid (HU.out.later (W' := w9) (by rw [hw9]; exact below_drewN (((Below.refl _ _).alloc (Nat.le_refl _) _).alloc (by simp) _) q))
                 clear hw9)
              | (refine wpList_load_row_on (by rfl) 31 (.tmp 7) (by rfl) qa (by rfl) 31 AS (0, 0) _ (by rw [HAS.out.1]; exact HU.out.ah) Try.underlying31 (by rfl) (by rw [HAS.out.2]; exact id_info) ?_)
              | (refine wpList_load_row_on (by rfl) 31 (.tmp 9) (by rfl) q9 (by rfl) 31 XS (0, 0) _ (by rw [HY.out.1]; exact HU.out.r9) Try.underlying31 (by rfl) (by rw [HY.out.2.1]; exact id_info) ?_))
            go_meet
            exact ⟨rfl, HU9.out⟩
          · go_wp2_with (first
              | (go_at_call 29; refine (hcm _).mono ?_; clear hcm; rintro _ w9 ⟨rfl, q, hw9⟩
                 have HU9 := Lib.hid (HU.out.later (W' := w9) (by rw [hw9]; exact below_drewN (((Below.refl _ _).alloc (Nat.le_refl _) _).alloc (by simp) _) q))
                 clear hw9)
              | (refine wpList_load_row_on (by rfl) 31 (.tmp 7) (by rfl) qa (by rfl) 31 AS (0, 0) _ (by rw [HAS.out.1]; exact HU.out.ah) Try.underlying31 (by rfl) (by rw [HAS.out.2]; exact id_info) ?_)
              | (refine wpList_load_row_on (by rfl) 31 (.tmp 9) (by rfl) q9 (by rfl) 31 XS (0, 0) _ (by rw [HY.out.1]; exact HU.out.r9) Try.underlying31 (by rfl) (by rw [HY.out.2.1]; exact id_info) ?_))
            go_meet
            exact ⟨rfl, HU9.out⟩
        · obtain rfl : Q = false := by
            have h0 : acc = [] := by have := HF.out; simpa using this
            rw [HQ.out.1]
            unfold mayS
            rw [← HY.out.2.2.2.2.2.2.1, show decide (nn ≤ 1023) = true by simpa using h1, h0]
            simp
          clear h1
          go_wp2_with fail
          go_meet
          exact ⟨rfl, HU.out⟩
      case rest =>
        obtain ⟨rfl, hu⟩ := hcut
        clear HU
        have hbd : Below wc.heap.size wc wc.drew := ⟨rfl, rfl, rfl, Nat.le_refl _, fun _ _ => rfl⟩
        have hud := hu.later hbd
        have hgl := (gdT_len acc).2.1
        have hcn := HG.out.1.cn
        obtain ⟨w5', hrun, hkv5, hmt5⟩ := hud.ix.map.put Try.underlying64 HY.out.2.2.2.2.2.2.2.2.1 (by have := HN.out; omega) (gdV y)
        have ht5 : Turned (· = b) wc w5' := (Turned.of_below hbd).trans (mapTurned_turnedk hmt5) fun _ _ h => h
        obtain ⟨VS, hVS⟩ : ∃ VS, VS = plC (gdV y) := ⟨_, rfl⟩
        rw [← HY.out.1, show encP (gdV y) = .agg VS by rw [hVS]; rfl] at hrun
        have hne := hu.ne
        have hqb : qa ≠ b := by
          rintro rfl
          obtain ⟨es, clock, hb⟩ := hu.ix.map.isMap
          have h1 := hu.ah
          rw [hb] at h1
          cases h1
        have HF5 : Hid (w5'.heap[qa]? = some (.cells (row8 (aheadL acc)) 31 (0, 0)) ∧ w5'.heap[q9]? = some (.cells XS 31 (0, 0)) ∧ w5'.heap[q10]? = some (.cells PS 31 (0, 0)) ∧ Ix w5' px b (gdT (acc ++ [y]))) := Lib.hid
          ⟨(ht5.block _ (lt_of_cells hu.ah) hqb).trans hu.ah, by rw [HY.out.1]; exact (ht5.block _ (lt_of_cells hu.r9) (by show ¬ q9 = b; omega)).trans hu.r9, by rw [HY.out.2.2.2.1]; exact (ht5.block _ (lt_of_cells hu.r10) (by show ¬ q10 = b; omega)).trans hu.r10,
           by rw [gdT_snoc]; exact ⟨(ht5.block _ (lt_of_cells hu.ix.box) hu.ix.ne).trans hu.ix.box, hkv5, fun e he => by
            unfold putV at he
            rcases List.mem_append.1 he with he | he
            · rcases List.mem_append.1 he with he | he
              · exact hu.ix.val e (List.mem_filter.1 he).1
              · simp only [List.mem_singleton] at he
                rw [he]
                exact HY.out.2.2.2.2.2.2.2.2.2
            · exact hu.ix.val e (List.mem_filter.1 he).1⟩⟩
        have hlo := HG.out.1.lo
        have HEND : Hid (∀ may, may = mayG (acc ++ [y]) → GtR w B1 pr px b qa bs.length R (.bool may) (.int .u64 ((M - 1 : Nat) : Int)) (w5'.setRow qa XS)) := Lib.hid (fun may hm => by
          have ht6 : Turned (· = qa) w5' (w5'.setRow qa XS) := Turned.of_gr (row := some qa) (gr_row _ _ _) fun _ e => (Option.some.inj e).symm
          have hM1 : M = (M - 1) + 1 := by omega
          have hg1 := HG.out.2.1
          rw [hM1, gdGo, if_pos rfl, ← HL.out.1, ← HL.out.2.1, ← HL.out.2.2] at hg1
          have hbw : Below w.heap.size w (w5'.setRow qa XS) := by
            have h1 := HS1.out
            refine hu.bl.trans ⟨ht6.os.trans ht5.os, ht6.tape.trans ht5.tape, ht6.output.trans ht5.output, Nat.le_trans ht5.size ht6.size, fun i hi => (ht6.block i (by have := hu.bl.size; have := ht5.size; omega) (by show ¬ i = qa; omega)).trans (ht5.block i (by have := hu.bl.size; omega) (by show ¬ i = b; omega))⟩
          refine ⟨M - 1, acc ++ [y], l', e', rfl, by have := HG.out.2.2; omega, by rw [hm], ⟨?_, ?_, ?_, hbw, hlo, fun z hz => ?_, fun he0 => ?_, ?_⟩, hg1⟩
          · refine (hu.rd.turned ht5 fun k _ h1 h2 => ?_).turned ht6 fun k _ h1 h2 => ?_
            · have h3 : k = b := h2
              have := h1.2
              omega
            · have h3 : k = qa := h2
              have := h1.2
              omega
          · exact HF5.out.2.2.2.turned ht6 (by show ¬ px = qa; omega) (by show ¬ b = qa; omega)
          · rw [aheadL_snoc, ← HY.out.1]
            exact setRow_at HF5.out.1
          · rcases List.mem_append.1 hz with hz | hz
            · exact HG.out.1.wf z hz
            · simp only [List.mem_singleton] at hz
              rw [hz]
              exact ⟨HY.out.2.2.2.2.2.2.2.2.1, HY.out.2.2.2.2.2.2.2.2.2⟩
          · have h1 := dg_len (l := l) (e := 0) (by rw [← HL.out.2.2]; exact he0)
            rw [← HL.out.2.1] at h1
            have h2 := hcn.1 rfl
            rw [List.length_append, List.length_singleton]
            omega
          · have h2 := hcn.1 rfl
            rw [List.length_append, List.length_singleton]
            omega)
        have hid : (∃ t', Ix wc.drew px b t') ∧ wc.drew.heap[q9]? = some (.cells XS 31 (0, 0)) ∧ wc.drew.heap[q10]? = some (.cells PS 31 (0, 0)) := ⟨⟨_, hud.ix⟩, by rw [HY.out.1]; exact hu.r9, by rw [HY.out.2.2.2.1]; exact hu.r10⟩
        have hid : Ix wc.drew px b (gdT acc) ∧ wc.drew.heap[q9]? = some (.cells XS 31 (0, 0)) ∧ wc.drew.heap[q10]? = some (.cells PS 31 (0, 0)) := ⟨hud.ix, hid.2.1, hid.2.2⟩
        have HVS : Hid (VS = plC (y.2.1, IntKind.i64.wrap (nn : Int))) := Lib.hid (by rw [hVS, HY.out.2.2.2.2.2.2.1]; rfl)
        clear hu hud hkv5 hmt5 ht5 hVS hne hqb hbd hgl hcn hlo
        have hML : 0 < M := hMp
        clear hM0 hMp
        cases Q
        · go_upto_region 11 with fail
          have hC : (fun W : World => (∃ t', Ix W px b t') ∧ W.heap[q9]? = some (.cells XS 31 (0, 0)) ∧ W.heap[q10]? = some (.cells PS 31 (0, 0))) wc.drew := ⟨⟨_, hid.1⟩, hid.2.1, hid.2.2⟩
          refine wp_region_plan (fun W : World => (∃ t', Ix W px b t') ∧ W.heap[q9]? = some (.cells XS 31 (0, 0)) ∧ W.heap[q10]? = some (.cells PS 31 (0, 0))) [([0, 1, 2, 3, 4, 5, 6, 7, 8], 9)] [] (by kernel_rfl) (by kernel_rfl) (fun _ _ d _ _ h => by cases d <;> exact h) hC ?_
          refine plan_eff ?_
          refine seg_read ?v23 (by rfl) (by rfl) ?h23 ?_
          case h23 => intro W hW; go_simp; with_reducible rfl
          try simp only [Act.put, List.setIfInBounds_toArray, List.set_cons_zero, List.set_cons_succ]
          refine seg_read ?v24 (by rfl) (by rfl) ?h24 ?_
          case h24 => intro W hW; go_simp; with_reducible rfl
          try simp only [Act.put, List.setIfInBounds_toArray, List.set_cons_zero, List.set_cons_succ]
          refine seg_read ?v25 (by rfl) (by rfl) ?h25 ?_
          case h25 => intro W hW; go_simp; with_reducible rfl
          try simp only [Act.put, List.setIfInBounds_toArray, List.set_cons_zero, List.set_cons_succ]
          refine seg_read ?v26 (by rfl) (by rfl) ?h26 ?_
          case h26 => intro W hW; obtain ⟨⟨t', hx⟩, h1, h2⟩ := hW; have hcb := hx.cell; go_simp; with_reducible rfl
          try simp only [Act.put, List.setIfInBounds_toArray, List.set_cons_zero, List.set_cons_succ]
          refine seg_read (.agg XS) (by rfl) (by rfl) (fun W hW => exec_load_st 31 (.tmp 9) (by rfl) q9 (by rfl) XS (0, 0) hW.2.1 _ Try.underlying31 (by rfl) (by rw [HY.out.2.1]; exact id_info)) ?_
          try simp only [Act.put, List.setIfInBounds_toArray, List.set_cons_zero, List.set_cons_succ]
          refine seg_read (.agg PS) (by rfl) (by rfl) (fun W hW => exec_load_st 31 (.tmp 10) (by rfl) q10 (by rfl) PS (0, 0) hW.2.2 _ Try.underlying31 (by rfl) (by rw [HY.out.2.2.2.2.1]; exact id_info)) ?_
          try simp only [Act.put, List.setIfInBounds_toArray, List.set_cons_zero, List.set_cons_succ]
          refine seg_read ?v27 (by rfl) (by rfl) ?h27 ?_
          case h27 => intro W hW; go_simp; with_reducible rfl
          try simp only [Act.put, List.setIfInBounds_toArray, List.set_cons_zero, List.set_cons_succ]
          refine seg_read ?v28 (by rfl) (by rfl) ?h28 ?_
          case h28 => intro W hW; go_simp; with_reducible rfl
          try simp only [Act.put, List.setIfInBounds_toArray, List.set_cons_zero, List.set_cons_succ]
          refine seg_read (.agg VS) (by rfl) (by rfl) (fun W hW => exec_build 37 (.tmp 57) (.tmp 59) (by rfl) (.agg PS) (.int .i64 (IntKind.i64.wrap (nn : Int))) (by rfl) (by rfl) VS (by rw [HVS.out, ← build_pl HY.out.2.2.2.2.2.2.2.2.2, ← HY.out.2.2.2.1])) ?_
          try simp only [Act.put, List.setIfInBounds_toArray, List.set_cons_zero, List.set_cons_succ]
          refine seg_nil ?_
          refine eff_step (by rfl) (fun K hK => ?_)
          go_simp
          refine hK _ _ ⟨_, ⟨⟨_, HF5.out.2.2.2⟩, HF5.out.2.1, HF5.out.2.2.1⟩, fun _ h => h, ?_⟩
          clear hK K
          refine plan_last ?_
          refine seg_nil ?_
          try simp only [Act.put]
          go_wp2_with (first
            | (refine wpList_load_row (by rfl) 31 (.tmp 9) (by rfl) q9 (by rfl) 31 XS (0, 0) _ HF5.out.2.1 Try.underlying31 (by rfl) (by rw [HY.out.2.1]; exact id_info) ?_)
            | (refine wpList_store_row (by rfl) 31 (.tmp 7) (.tmp 61) (by rfl) qa XS (by rfl) (by rfl) 31 (row8 (aheadL acc)) HF5.out.1 (by rw [HY.out.2.1]; exact id_info) (by rw [HY.out.2.1, row8_size, hahl]) HY.out.2.2.1 ?_))
          exact ⟨HEND.out _ (by rw [HQ.out.2]; simp), by simp only [intOf]; omega⟩
        · go_upto_region 11 with fail
          have hC : (fun W : World => (∃ t', Ix W px b t') ∧ W.heap[q9]? = some (.cells XS 31 (0, 0)) ∧ W.heap[q10]? = some (.cells PS 31 (0, 0))) wc.drew := ⟨⟨_, hid.1⟩, hid.2.1, hid.2.2⟩
          refine wp_region_plan (fun W : World => (∃ t', Ix W px b t') ∧ W.heap[q9]? = some (.cells XS 31 (0, 0)) ∧ W.heap[q10]? = some (.cells PS 31 (0, 0))) [([0, 1, 2, 3, 4, 5, 6, 7, 8], 9)] [] (by kernel_rfl) (by kernel_rfl) (fun _ _ d _ _ h => by cases d <;> exact h) hC ?_
          refine plan_eff ?_
          refine seg_read ?v29 (by rfl) (by rfl) ?h29 ?_
          case h29 => intro W hW; go_simp; with_reducible rfl
          try simp only [Act.put, List.setIfInBounds_toArray, List.set_cons_zero, List.set_cons_succ]
          refine seg_read ?v30 (by rfl) (by rfl) ?h30 ?_
          case h30 => intro W hW; go_simp; with_reducible rfl
          try simp only [Act.put, List.setIfInBounds_toArray, List.set_cons_zero, List.set_cons_succ]
          refine seg_read ?v31 (by rfl) (by rfl) ?h31 ?_
          case h31 => intro W hW; go_simp; with_reducible rfl
          try simp only [Act.put, List.setIfInBounds_toArray, List.set_cons_zero, List.set_cons_succ]
          refine seg_read ?v32 (by rfl) (by rfl) ?h32 ?_
          case h32 => intro W hW; obtain ⟨⟨t', hx⟩, h1, h2⟩ := hW; have hcb := hx.cell; go_simp; with_reducible rfl
          try simp only [Act.put, List.setIfInBounds_toArray, List.set_cons_zero, List.set_cons_succ]
          refine seg_read (.agg XS) (by rfl) (by rfl) (fun W hW => exec_load_st 31 (.tmp 9) (by rfl) q9 (by rfl) XS (0, 0) hW.2.1 _ Try.underlying31 (by rfl) (by rw [HY.out.2.1]; exact id_info)) ?_
          try simp only [Act.put, List.setIfInBounds_toArray, List.set_cons_zero, List.set_cons_succ]
          refine seg_read (.agg PS) (by rfl) (by rfl) (fun W hW => exec_load_st 31 (.tmp 10) (by rfl) q10 (by rfl) PS (0, 0) hW.2.2 _ Try.underlying31 (by rfl) (by rw [HY.out.2.2.2.2.1]; exact id_info)) ?_
          try simp only [Act.put, List.setIfInBounds_toArray, List.set_cons_zero, List.set_cons_succ]
          refine seg_read ?v33 (by rfl) (by rfl) ?h33 ?_
          case h33 => intro W hW; go_simp; with_reducible rfl
          try simp only [Act.put, List.setIfInBounds_toArray, List.set_cons_zero, List.set_cons_succ]
          refine seg_read ?v34 (by rfl) (by rfl) ?h34 ?_
          case h34 => intro W hW; go_simp; with_reducible rfl
          try simp only [Act.put, List.setIfInBounds_toArray, List.set_cons_zero, List.set_cons_succ]
          refine seg_read (.agg VS) (by rfl) (by rfl) (fun W hW => exec_build 37 (.tmp 57) (.tmp 59) (by rfl) (.agg PS) (.int .i64 (IntKind.i64.wrap (nn : Int))) (by rfl) (by rfl) VS (by rw [HVS.out, ← build_pl HY.out.2.2.2.2.2.2.2.2.2, ← HY.out.2.2.2.1])) ?_
          try simp only [Act.put, List.setIfInBounds_toArray, List.set_cons_zero, List.set_cons_succ]
          refine seg_nil ?_
          refine eff_step (by rfl) (fun K hK => ?_)
          go_simp
          refine hK _ _ ⟨_, ⟨⟨_, HF5.out.2.2.2⟩, HF5.out.2.1, HF5.out.2.2.1⟩, fun _ h => h, ?_⟩
          clear hK K
          refine plan_last ?_
          refine seg_nil ?_
          try simp only [Act.put]
          go_wp2_with (first
            | (refine wpList_load_row (by rfl) 31 (.tmp 9) (by rfl) q9 (by rfl) 31 XS (0, 0) _ HF5.out.2.1 Try.underlying31 (by rfl) (by rw [HY.out.2.1]; exact id_info) ?_)
            | (refine wpList_store_row (by rfl) 31 (.tmp 7) (.tmp 61) (by rfl) qa XS (by rfl) (by rfl) 31 (row8 (aheadL acc)) HF5.out.1 (by rw [HY.out.2.1]; exact id_info) (by rw [HY.out.2.1, row8_size, hahl]) HY.out.2.2.1 ?_))
          exact ⟨HEND.out _ (by rw [HQ.out.2]; simp), by simp only [intOf]; omega⟩
      --RD]
    · have hMp : 0 < M := by omega
      have hMd : decide ((M : Int) > 0) = true := by simpa using hMp
      have hMd2 : decide (0 < M) = true := by simpa using hMp
      have heb : (e == 0) = false := by simpa using he
      have hed : decide (e = 0) = false := by simpa using he
      have hRe : R = (acc, l, e) := by rw [← HG.out.2.1, gdGo_bad he]
      clear hM0 hMp he
      have hend := end_rd HG.out.1.rd
      obtain ⟨E, hE⟩ : ∃ E, E = endE l e := ⟨_, rfl⟩
      rw [← hE] at hend
      have HD : Hid (getD bs = getDEnd (acc, l, e) ∧ E = endE l e) := Lib.hid ⟨by rw [HRR.out, hRe], hE⟩
      have HX : Hid (Ix wr px b (gdT acc) ∧ Below w.heap.size w wr ∧ w.heap.size ≤ px ∧ w.heap.size ≤ b) := Lib.hid ⟨HG.out.1.ix, HG.out.1.bl, by have h1 := HG.out.1.lo; have h2 := HS1.out; omega, by have h1 := HG.out.1.lo; have h2 := HS1.out; omega⟩
      obtain ⟨Z, hZ⟩ : ∃ Z, Z = mayG acc := ⟨_, rfl⟩
      rw [← hZ]
      have HZ2 := Lib.hid hZ
      clear hE hRe HG HRR hZ
      by_cases hE0 : E = 0
      · subst hE0
        cases Z
        · have HP : Hid (getD bs = ([], 11)) := Lib.hid (by rw [HD.out.1]; unfold getDEnd; simp only; rw [if_neg (by rw [← HD.out.2]; simp), if_neg (by rw [← HZ2.out]; simp)])
          go_wp2_with (first | (go_at_call 30; refine hend.mono ?_; clear hend; rintro _ _ ⟨rfl, rfl⟩) | (go_at_call 27; refine her.mono ?_; clear her; rintro _ _ ⟨rfl, rfl⟩))
          refine bodyPost_ret (results_tmp2 rfl _ _ _) rfl ?_
          exact .inr ⟨by rw [HP.out]; rfl, by rw [HP.out]; decide, HX.out.2.1⟩
        · have HP : Hid (getD bs = (gdT acc, 0)) := Lib.hid (by rw [HD.out.1]; unfold getDEnd; simp only; rw [if_neg (by rw [← HD.out.2]; simp), if_pos HZ2.out.symm, gdT_may _ HZ2.out.symm])
          go_wp2_with (first | (go_at_call 30; refine hend.mono ?_; clear hend; rintro _ _ ⟨rfl, rfl⟩) | (go_at_call 27; refine her.mono ?_; clear her; rintro _ _ ⟨rfl, rfl⟩))
          refine bodyPost_ret (results_tmp2 rfl _ _ _) rfl ?_
          exact .inl ⟨px, b, rfl, by rw [HP.out], by rw [HP.out]; exact HX.out.1, HX.out.2.2.1, HX.out.2.2.2, HX.out.2.1⟩
      · have hEb : (E == 0) = false := by simpa using hE0
        have hEn : (E != 0) = true := by simpa using hE0
        have hEd : decide (E = 0) = false := by simpa using hE0
        have HP : Hid (getD bs = ([], E) ∧ E ≠ 0) := Lib.hid ⟨by rw [HD.out.1]; unfold getDEnd; simp only; rw [if_pos (by rw [← HD.out.2]; exact hE0), ← HD.out.2], hE0⟩
        clear hE0
        go_wp2_with (first | (go_at_call 30; refine hend.mono ?_; clear hend; rintro _ _ ⟨rfl, rfl⟩) | (go_at_call 27; refine her.mono ?_; clear her; rintro _ _ ⟨rfl, rfl⟩))
        refine bodyPost_ret (results_tmp2 rfl _ _ _) rfl ?_
        exact .inr ⟨by rw [HP.out.1]; rfl, by rw [HP.out.1]; exact HP.out.2, HX.out.2.1⟩
end Go.Proofs.Ytmmibldchfmleaa

/-! Dedup: awake. -/
namespace Go.Proofs.Ytmmibldchfmleaa
open Go.RowKit Go.Maps Codec

def k1D : List UInt8 := 1 :: List.replicate 31 0
def k2D : List UInt8 := 2 :: List.replicate 31 0
def tA : Tv Pl := [(k1D, (k2D, 3))]
theorem aw_add1 : addB [] k1D (k2D, 3) = true ∧ addT [] k1D (k2D, 3) = tA := ⟨by decide +kernel, rfl⟩
theorem aw_add2 : addB tA k1D zPl = false ∧ addT tA k1D zPl = tA := by
  have h : addB tA k1D zPl = false := by decide +kernel
  exact ⟨h, by unfold addT; rw [h]; rfl⟩
theorem aw_find : getV tA k1D = some (k2D, 3) := by decide +kernel
theorem aw_ok : Sv tA ∧ OkT tA := ⟨List.pairwise_singleton _ _, fun e he => by
  simp only [tA, List.mem_singleton] at he
  subst he
  exact ⟨rfl, rfl, by decide⟩⟩
theorem aw_packs : packT tA = [(k2D, 1)] := by decide +kernel
theorem aw_drop : dropT tA k2D = [] := by decide +kernel
theorem aw_ne : decide (k2D = k2D) = true := by simp
theorem build_1D : Try.prog.built 31 [(0, .int .u8 1)] = some (row8 k1D) := by unfold k1D row8; kernel_rfl
theorem build_2D : Try.prog.built 31 [(0, .int .u8 2)] = some (row8 k2D) := by unfold k2D row8; kernel_rfl
theorem below_turn {m : Nat} {a b c : World} {S : Nat → Prop} (h : Below m a b) (hm : m ≤ a.heap.size) (ht : Turned S b c) (hS : ∀ k, S k → m ≤ k) : Below m a c :=
  ⟨ht.os.trans h.os, ht.tape.trans h.tape, ht.output.trans h.output, Nat.le_trans h.size ht.size, fun i hi => (ht.block i (Nat.lt_of_lt_of_le hi (Nat.le_trans hm h.size)) fun hs => by have := hS i hs; omega).trans (h.block i hi)⟩
theorem ddload_at_on {P : Program} {ops : Array Oper} {rest : List Oper} {o : Oper} {a : Act} {w : World} {Q : Exit → Act → World → Prop} (hw : Region.wanted o (yielded ops a.tmps) = true) (ty : TypeId) (x : Operand) (ho : o.op = .load ty x) (ad : Addr) (hx : a.eval x = .pointer (some ad)) (cs : Array Value) (d : TypeDesc)
    (hc : ∀ (j : Nat) (v : Value), cs[j]? = some v → w.cell? (ad.add j) = some v) (hu : P.underlying ty = some d) (hd : (match d with | .struct _ | .array _ _ => true | _ => false) = true) (hi : (P.info? ty).map (·.size) = some cs.size)
    (h : wpList P ops Q rest (a.put o.dst (.agg cs)) w) : wpList P ops Q (o :: rest) a w := by
  unfold wpList
  rw [if_pos hw]
  refine .inl ?_
  unfold Oper.wp execOp
  simp only [ho, hx, Instr.loadAt, Instr.sureAddr, Sem.run_bind, Sem.run_pure, Result.andThen_ok, run_loadVar_at w ad ty cs d hc hu hd hi]
  exact h
theorem two_parts {x0 x1 : Operand} (a : Act) (u0 u1 : Value) (n m : Nat) (h0 : a.eval x0 = u0) (h1 : a.eval x1 = u1) : ((#[(n, x0), (m, x1)] : Array (Nat × Operand)).map fun (i, x) => (i, a.eval x)).toList = [(n, u0), (m, u1)] := by simp [h0, h1]
set_option maxHeartbeats 8000000 in
set_option maxRecDepth 100000 in
theorem dawake_true (w : World) : Calls Try.prog 8 #[] w fun e w' => e = .returned (.bool true) ∧ Below w.heap.size w w' := by
  obtain ⟨ZS, hZS⟩ : ∃ ZS, ZS = plC zPl := ⟨_, rfl⟩
  have hzp : ∀ W, (zeroValue 37).run Try.prog W = .ok (.agg ZS) W := fun W => by rw [hZS]; exact zero_pl W
  obtain ⟨K1, hK1⟩ : ∃ K1, K1 = row8 k1D := ⟨_, rfl⟩
  obtain ⟨K2, hK2⟩ : ∃ K2, K2 = row8 k2D := ⟨_, rfl⟩
  obtain ⟨P3, hP3⟩ : ∃ P3, P3 = plC (k2D, 3) := ⟨_, rfl⟩
  have HB : Hid (Try.prog.built 31 [(0, .int .u8 1)] = some K1 ∧ Try.prog.built 31 [(0, .int .u8 2)] = some K2 ∧ Try.prog.built 37 [(0, .agg K2), (1, .int .i64 3)] = some P3 ∧ Try.prog.built 37 [] = some ZS) := Lib.hid
    ⟨by rw [hK1]; exact build_1D, by rw [hK2]; exact build_2D, by rw [hK2, hP3]; exact build_pl rfl 3, by rw [hZS]; exact pl_built0⟩
  have HS : Hid (ZS.size = 33 ∧ K1.size = 32 ∧ K2.size = 32 ∧ P3.size = 33 ∧ P3.all (·.oneCell') = true) := Lib.hid ⟨by rw [hZS]; rfl, by rw [hK1]; rfl, by rw [hK2]; rfl, by rw [hP3]; rfl, by rw [hP3]; exact plC_one _⟩
  have HE := Lib.hid (And.intro hZS (And.intro hK1 (And.intro hK2 hP3)))
  clear hZS hK1 hK2 hP3
  have hnw := ixnew_any w
  go_enter Try.func8, Try.ntmps8
  go_upto_region 2 with (go_at_call 9; refine hnw.mono ?_; clear hnw; rintro _ w1 ⟨p, b, rfl, hi1, hlp, hlb, hb1⟩)
  have ha1 := ixadd_any hi1 (by simp) (k := k1D) rfl (v := (k2D, 3)) rfl
  rw [aw_add1.1, aw_add1.2, ← HE.out.2.1, show encP (k2D, 3) = .agg P3 by rw [HE.out.2.2.2]; rfl] at ha1
  have H1 := Lib.hid (And.intro hlp (And.intro hlb hb1))
  clear hi1 hlp hlb hb1
  go_upto_region 4 with (first
    | (go_at_call 13; refine ha1.mono ?_; clear ha1; rintro _ w2 ⟨rfl, hi2, ht2⟩
       have ha2 := ixadd_any hi2 (by simp [tA]) (k := k1D) rfl (v := zPl) zPl_len
       rw [aw_add2.1, aw_add2.2, ← HE.out.2.1, show encP zPl = .agg ZS by rw [HE.out.1]; rfl] at ha2
       have H2 := Lib.hid ht2
       clear hi2 ht2)
    | (go_at_call 13; refine ha2.mono ?_; clear ha2; rintro _ w3 ⟨rfl, hi3, ht3⟩; have H3 := Lib.hid (And.intro hi3 ht3); clear hi3 ht3)
    | (refine wpList_built_on (by rfl) 31 #[(0, .const (.int .u8 1))] (by rfl) [(0, .int .u8 1)] (by simp [Act.eval]) K1 HB.out.1 ?_)
    | (refine wpList_built_on (by rfl) 31 #[(0, .const (.int .u8 2))] (by rfl) [(0, .int .u8 2)] (by simp [Act.eval]) K2 HB.out.2.1 ?_)
    | (refine wpList_built_on (by rfl) 37 #[(0, .tmp 11), (1, .const (.int .i64 3))] (by rfl) [(0, .agg K2), (1, .int .i64 3)] (two_parts _ _ _ _ _ rfl rfl) P3 HB.out.2.2.1 ?_)
    | (refine wpList_built_on (by rfl) 37 #[] (by rfl) [] (by simp) ZS HB.out.2.2.2 ?_))
  have hf := ixfind_any H3.out.1 (k := k1D) rfl
  rw [aw_find, ← HE.out.2.1, show encP ((some (k2D, (3 : Int))).getD zPl) = .agg P3 by rw [HE.out.2.2.2]; rfl] at hf
  go_upto_region 5 with (first
    | (go_at_call 15; refine hf.mono ?_; clear hf; rintro _ w4 ⟨rfl, hb4⟩)
    | (refine wpList_built_on (by rfl) 31 #[(0, .const (.int .u8 1))] (by rfl) [(0, .int .u8 1)] (by simp [Act.eval]) K1 HB.out.1 ?_)
    | (refine wpList_store_row (by rfl) 37 (.tmp 2) (.tmp 25) (by rfl) w4.heap.size P3 (by rfl) (by rfl) 37 ZS (heap_alloc_new _ _) (by rw [HS.out.2.2.2.1]; exact pl_info) (by rw [HS.out.1, HS.out.2.2.2.1]) HS.out.2.2.2.2 ?_))
  have H4 : Hid (Ix ((w4.alloc (.cells ZS 37)).setRow w4.heap.size P3) p b tA ∧ ((w4.alloc (.cells ZS 37)).setRow w4.heap.size P3).heap[w4.heap.size]? = some (.cells P3 37 (0, 0)) ∧ Turned (· = b) w3 ((w4.alloc (.cells ZS 37)).setRow w4.heap.size P3)) := by
    have hbS : Below w3.heap.size w3 ((w4.alloc (.cells ZS 37)).setRow w4.heap.size P3) := below_setRow (hb4.alloc hb4.size _) hb4.size _
    exact Lib.hid ⟨H3.out.1.below hbS, setRow_at (heap_alloc_new _ _), Turned.of_below (S := (· = b)) hbS⟩
  clear hb4
  generalize (w4.alloc (.cells ZS 37)).setRow w4.heap.size P3 = w5 at H4 ⊢
  obtain ⟨g, hg⟩ : ∃ g, g = w4.heap.size := ⟨_, rfl⟩
  rw [← hg] at H4 ⊢
  clear hg
  have hpu := ixput_any H4.out.1 (by simp [tA]) aw_ok.2
  go_upto_region 6 with (first
    | (go_at_call 19; refine hpu.mono ?_; clear hpu; rintro _ w6 ⟨A, c, rfl, hby, hb6⟩
       have hge := ixget_any hby (by decide +kernel)
       have H6 := Lib.hid hb6
       clear hby hb6)
    | (go_at_call 18; refine hge.mono ?_; clear hge; intro _ w7 hG
       rw [GePost, dd_get_put aw_ok.1 aw_ok.2 (by simp [tA])] at hG
       obtain ⟨q, b2, rfl, -, hi7, hlq, hl2, hb7⟩ : ∃ q b2, _ = Ending.returned (.tuple #[.pointer (some ⟨q, 0, none⟩), .int .i64 0]) ∧ True ∧ Ix w7 q b2 tA ∧ _ ≤ q ∧ _ ≤ b2 ∧ Below _ _ w7 := by
         rcases hG with ⟨q, b2, h1, h2, h3⟩ | ⟨h1, h2, h3⟩
         · exact ⟨q, b2, h1, trivial, h3⟩
         · exact absurd rfl h2
       have H7 := Lib.hid (And.intro hlq (And.intro hl2 hb7))
       have hpk := ixpacks_any hi7 (by simp [tA])
       rw [aw_packs] at hpk
       clear hG hi7 hlq hl2 hb7))
  have H8 : Hid (Ix w7 p b tA ∧ w7.heap[g]? = some (.cells P3 37 (0, 0)) ∧ Turned (· = b) w3 w7) := by
    have hb7 := H6.out.trans (H7.out.2.2.mono H6.out.size)
    exact Lib.hid ⟨H4.out.1.below hb7, (hb7.block _ (lt_of_cells H4.out.2.1)).trans H4.out.2.1, H4.out.2.2.trans (Turned.of_below (S := (· = b)) hb7) fun _ _ h => h⟩
  clear H4 H6 H7
  go_upto_region 7 with (go_at_call 21; refine hpk.mono ?_; clear hpk; rintro _ w8 ⟨A8, c8, A9, c9, rfl, hid8, hin8, hb8⟩)
  simp only [List.length_cons, List.length_nil, Nat.zero_add] at hid8 hin8 ⊢
  obtain ⟨b8, off8, rfl, -, -, hc8⟩ := hid8.at_ (i := 0) (by decide)
  obtain ⟨b9, off9, rfl, -, -, hc9⟩ := hin8.row (by decide)
  have hr8 : Hid (∀ j u, K2[j]? = some u → w8.cell? ((⟨b8, off8 + 0, none⟩ : Addr).add j) = some u) := Lib.hid (by rw [HE.out.2.2.1]; exact hc8)
  have hc90 : w8.cell? ⟨b9, off9, none⟩ = some (.int .i64 1) := hc9 0 (by decide)
  have hg32 : w8.cell? ⟨g, 32, none⟩ = some (.int .i64 3) := by
    rw [cell_of_cells ((hb8.block _ (lt_of_cells H8.out.2.1)).trans H8.out.2.1), HE.out.2.2.2]
    rfl
  have hqe : (Op.equalIn 10000 31 (.agg K2) (.agg K2)).run Try.prog w8 = .ok true w8 := by rw [HE.out.2.2.1]; exact dd_ideq k2D k2D rfl rfl w8
  have hi8 := H8.out.1.below hb8
  have hdr := ixdrop_any hi8 (by simp [tA]) (pk := k2D) rfl
  rw [aw_drop, ← HE.out.2.2.1] at hdr
  have H9 : Hid (Below w.heap.size w w1) := Lib.hid H1.out.2.2
  have H10 : Hid (w.heap.size ≤ b ∧ Turned (· = b) w1 w8) := Lib.hid ⟨H1.out.2.1, (H2.out.trans H3.out.2 fun _ _ h => h).trans (H8.out.2.2.trans (Turned.of_below (S := (· = b)) hb8) fun _ _ h => h) fun _ _ h => h⟩
  clear hid8 hin8 hb8 hc8 hc9 hi8 H1 H2 H3 H8
  go_wp2_with (first
    | (go_at_call 10; refine hdr.mono ?_; clear hdr; rintro _ w10 ⟨rfl, hi10, ht10⟩
       have hids := ixids_any hi10 (by simp)
       have H11 := Lib.hid ht10
       clear hi10 ht10)
    | (go_at_call 22; refine hids.mono ?_; clear hids; rintro _ w11 ⟨A11, c11, rfl, -, hb11⟩; have H12 := Lib.hid hb11; clear hb11)
    | (refine ddload_at_on (by rfl) 31 (.tmp 55) (by rfl) ⟨b8, off8 + 0, none⟩ (by rfl) K2 _ hr8.out Try.underlying31 (by rfl) (by rw [HS.out.2.2.1]; exact id_info) ?_)
    | (refine wpList_built_on (by rfl) 31 #[(0, .const (.int .u8 2))] (by rfl) [(0, .int .u8 2)] (by simp [Act.eval]) K2 HB.out.2.1 ?_))
  go_ret
  have h1 : Below w.heap.size w w8 := below_turn H9.out (Nat.le_refl _) H10.out.2 fun k hk => by rw [hk]; exact H10.out.1
  have h2 : Below w.heap.size w w10 := below_turn h1 (Nat.le_refl _) H11.out fun k hk => by rw [hk]; exact H10.out.1
  exact ⟨rfl, h2.trans (H12.out.mono h2.size)⟩
end Go.Proofs.Ytmmibldchfmleaa
