/-
  The reference: Add, the ways that write nothing.
  The reference: Add, where it writes.
  The reference: Add, of any log and any record.
-/
import Derived.Test.YtmioifcbkhpdaaaGreatPkPl01
import Derived.Test.YtmioifcbkhpdaaaGreatPkPl06
import Derived.Test.YtmioifcbkhpdaaaGreatPkPl17
import Derived.Test.YtmioifcbkhpdaaaGreatPkPl04
import Derived.Test.YtmioifcbkhpdaaaGreatPkPl02
set_option maxHeartbeats 16000000
set_option maxRecDepth 100000
/-! The reference: Add, the ways that write nothing. -/
namespace Go.Proofs.YtmioifcbkhpdaaaGreat
open Go.RowKit
structure AdW (w0 : World) (DV LV RD RL : Array Value) (w : World) : Prop where
 dv : w.heap[w0.heap.size]? = some (.cells DV 30 (0, 0))
 lv : w.heap[w0.heap.size + 1]? = some (.cells LV 39 (0, 0))
 rd : w.heap[w0.heap.size + 2]? = some (.cells RD 30 (0, 0))
 rl : w.heap[w0.heap.size + 3]? = some (.cells RL 39 (0, 0))
 bel : Below w0.heap.size w0 w
section
variable {w0 w w' : World} {DV LV RD RL : Array Value}
theorem AdW.setL (h : AdW w0 DV LV RD RL w) (i : Nat) (u : Value) : AdW w0 DV (LV.setIfInBounds i u) RD RL (w.setCell ⟨w0.heap.size + 1, i, none⟩ u) :=
 ⟨(Below.heap_setCell _ _ _ _ (by simp)).trans h.dv, zG h.lv i u, (Below.heap_setCell _ _ _ _ (by simp)).trans h.rd, (Below.heap_setCell _ _ _ _ (by simp)).trans h.rl, h.bel.setCell (by simp) u⟩
theorem AdW.below (h : AdW w0 DV LV RD RL w) (hb : Below w.heap.size w w') : AdW w0 DV LV RD RL w' :=
 ⟨(hb.block _ (zB h.dv)).trans h.dv, (hb.block _ (zB h.lv)).trans h.lv, (hb.block _ (zB h.rd)).trans h.rd, (hb.block _ (zB h.rl)).trans h.rl, h.bel.trans (hb.mono h.bel.size)⟩
theorem AdW.drew (h : AdW w0 DV LV RD RL w) : AdW w0 DV LV RD RL w.drew := ⟨h.dv, h.lv, h.rd, h.rl, h.bel.drew⟩
theorem AdW.setD (h : AdW w0 DV LV RD RL w) (N : Array Value) : AdW w0 N LV RD RL (w.setRow w0.heap.size N) :=
 ⟨zF h.dv, (zM _ _ _ _ (by omega)).trans h.lv, (zM _ _ _ _ (by omega)).trans h.rd, (zM _ _ _ _ (by omega)).trans h.rl, zD h.bel (by omega) _⟩
theorem AdW.setRD (h : AdW w0 DV LV RD RL w) (N : Array Value) : AdW w0 DV LV N RL (w.setRow (w0.heap.size + 2) N) :=
 ⟨(zM _ _ _ _ (by omega)).trans h.dv, (zM _ _ _ _ (by omega)).trans h.lv, zF h.rd, (zM _ _ _ _ (by omega)).trans h.rl, zD h.bel (by omega) _⟩
theorem AdW.setRL (h : AdW w0 DV LV RD RL w) (N : Array Value) : AdW w0 DV LV RD N (w.setRow (w0.heap.size + 3) N) :=
 ⟨(zM _ _ _ _ (by omega)).trans h.dv, (zM _ _ _ _ (by omega)).trans h.lv, (zM _ _ _ _ (by omega)).trans h.rd, zF h.rl, zD h.bel (by omega) _⟩
end
theorem xK {fn : Func} {p q u : Tmp} (h : fn.results = #[.cell p 30, .cell q 39, .tmp u]) (tmps : Array Value) {w0 w : World} {DV LV RD RL : Array Value} (hw : AdW w0 DV LV RD RL w) (hp : tmps.getD p undef = .pointer (some ⟨w0.heap.size + 2, 0, none⟩)) (hq : tmps.getD q undef = .pointer (some ⟨w0.heap.size + 3, 0, none⟩)) (hd : RD.size = 4) (hl : RL.size = 7) :
    (results fn tmps).run Tryz.prog w = .ok (.tuple #[.agg RD, .agg RL, tmps.getD u undef]) w := by
 have hp' : tmps[p]?.getD undef = .pointer (some ⟨w0.heap.size + 2, 0, none⟩) := by simpa using hp
 have hq' : tmps[q]?.getD undef = .pointer (some ⟨w0.heap.size + 3, 0, none⟩) := by simpa using hq
 simp [results, h, hp', hq', asAddr, run_loadVar_row w _ 30 30 RD (0, 0) _ hw.rd Tryz.underlying30 rfl (by rw [hd]; exact zI), run_loadVar_row w _ 39 39 RL (0, 0) _ hw.rl Tryz.underlying39 rfl (by rw [hl]; exact zL), Result.andThen, Sem.run_bind]
def yw (w : World) (S : Nat → Prop) (nl : Nat) (r : DM × LM × Int) (e : Ending) (w' : World) : Prop :=
 ∃ A c A2 n2 c2, e = .returned (.tuple #[.agg (dmV r.1 A nl c), .agg (lmV r.2.1 A2 n2 c2), .int .i64 r.2.2]) ∧ Strs w' (fun k => S k ∨ w.heap.size ≤ k) A nl c r.1.l ∧ Strs w' (fun k => S k ∨ w.heap.size ≤ k) A2 n2 c2 r.2.1.l ∧ Below w.heap.size w w'
theorem zt (d : DM) (A : Option Addr) (n c : Nat) : (dmV d A n c).all (·.oneCell') = true := dm_one _ _ _ _ _ _
def dz : Array Value := #[.slice none 0 0, .int .i64 0, .int .i64 0, .bool false]
theorem xT : ∀ W, (zeroValue 30).run Tryz.prog W = .ok (.agg dz) W := xM
theorem adw_start (w : World) (DV LV ZD ZV : Array Value) : AdW w DV LV ZD ZV ((((w.alloc (.cells DV 30)).alloc (.cells LV 39)).alloc (.cells ZD 30)).alloc (.cells ZV 39)) := by
 have h1 := heap_alloc_new w (.cells DV 30);have h2 := heap_alloc_new (w.alloc (.cells DV 30)) (.cells LV 39);have h3 := heap_alloc_new ((w.alloc (.cells DV 30)).alloc (.cells LV 39)) (.cells ZD 30);have h4 := heap_alloc_new (((w.alloc (.cells DV 30)).alloc (.cells LV 39)).alloc (.cells ZD 30)) (.cells ZV 39);have up : ∀ (W : World) (o : Obj) {k : Nat} {cs : Array Value} {t : TypeId}, W.heap[k]? = some (.cells cs t (0, 0)) → (W.alloc o).heap[k]? = some (.cells cs t (0, 0)) := fun W o {k cs t} h => (heap_alloc_old W o (zB h)).trans h
 simp only [World.size_alloc] at h2 h3 h4;exact ⟨up _ _ (up _ _ (up _ _ h1)), up _ _ (up _ _ h2), up _ _ h3, h4, (((((Below.refl _ _).alloc (Nat.le_refl _) _).alloc (by simp) _).alloc (by simp <;> omega) _).alloc (by simp <;> omega) _)⟩
theorem rwadd_e {w : World} {S : Nat → Prop} {A A2 : Option Addr} {nl c n2 c2 : Nat} {d : DM} {m : LM} (h : Strs w S A nl c d.l) (h2 : Strs w S A2 n2 c2 m.l) (b : List UInt8) (he : m.e ≠ 0) :
    Calls Tryz.prog 41 #[.agg (dmV d A nl c), .agg (lmV m A2 n2 c2), .string (st b)] w fun e w' => yw w S nl (yJ d m b) e w' := by
 have hr : yJ d m b = (d, m, m.e) := by rw [yJ, if_pos he]
 rw [hr];have hz := yb;have hzd := xT;obtain ⟨ZV, hZV⟩ := sqz (lmV lm0 none 0 0);rw [← hZV] at hz;obtain ⟨ZD, hZD⟩ := sqz dz;rw [← hZD] at hzd;obtain ⟨DV, hDV⟩ := sqz (dmV d A nl c);rw [← hDV];obtain ⟨LV, hLV⟩ := sqz (lmV m A2 n2 c2);rw [← hLV];have hO := adw_start w DV LV ZD ZV;have HV := sq4 hZV hZD hDV hLV;have he' : (m.e != 0) = true := by simpa using he
 have HH := sq2 h h2;clear hZV hZD hDV hLV h h2 hr he
 go_enter Tryz.func41, Tryz.ntmps41
 go_upto_region 1 with fail
 generalize ((((w.alloc (.cells DV 30)).alloc (.cells LV 39)).alloc (.cells ZD 30)).alloc (.cells ZV 39)) = w2 at *
 have hc6 : w2.cell? ⟨w.heap.size + 1, 6, none⟩ = some (.int .i64 m.e) := by rw [zA hO.lv, HV.out.2.2.2]; rfl
 have HO := Lib.hid hO;clear hO hz hzd
 go_upto_region 2 with fail
 clear hc6;refine sqpl (fun W => ∃ RD RL, AdW w DV LV RD RL W) [([0, 1, 2, 3], 4), ([], 5)] [6] ⟨_, _, HO.out.drew⟩ ?_;have HD := Lib.hid HO.out.drew;clear HO
 generalize w2.drew = wd at *
 refine zR ?_;refine zE (.agg DV) (by rfl) (by rfl) (fun W hW => yU 3 hW.choose_spec.choose_spec.dv Tryz.underlying30 (by rw [HV.out.2.2.1]; exact zI)) ?_
 try simp only [Act.put, sqp]
 refine zE (.agg LV) (by rfl) (by rfl) (fun W hW => yU 4 hW.choose_spec.choose_spec.lv Tryz.underlying39 (by rw [HV.out.2.2.2]; exact zL)) ?_
 try simp only [Act.put, sqp]
 refine sqr ?_
 try simp only [Act.put, sqp]
 refine zE (.int .i64 m.e) (by rfl) (by rfl) ?h4 ?_
 case h4 => intro W hW; have hc : W.cell? ⟨w.heap.size + 1, 6, none⟩ = some (.int .i64 m.e) := by { rw [zA hW.choose_spec.choose_spec.lv 6, HV.out.2.2.2]; rfl }; clear hW; go_simp
 try simp only [Act.put, sqp]
 refine zH ?_;refine yO 6 18 DV HD.out.rd (by rw [HV.out.2.2.1]; exact zI) (by rw [HV.out.2.1, HV.out.2.2.1]; rfl) (by rw [HV.out.2.2.1]; exact zt _ _ _ _) ?_;have HE := Lib.hid (HD.out.setRD DV);clear HD
 generalize wd.setRow (w.heap.size + 2) DV = we at *
 refine ⟨fun W => ∃ RD RL, AdW w DV LV RD RL W, ⟨_, _, HE.out⟩, fun _ h => h, ?_⟩
 try simp only [Act.put]
 refine zR ?_;refine zH ?_;refine yO 7 19 LV HE.out.rl (by rw [HV.out.2.2.2]; exact zL) (by rw [HV.out.1, HV.out.2.2.2]; rfl) (by rw [HV.out.2.2.2]; exact zw _ _ _ _) ?_;have HF := Lib.hid (HE.out.setRL LV);clear HE
 generalize we.setRow (w.heap.size + 3) LV = wf at *
 refine ⟨fun W => W = wf, rfl, fun W (e : W = wf) => ⟨DV, LV, e ▸ HF.out⟩, ?_⟩;refine zZ ?_
 try simp only [Act.put]
 repeat (refine zb (by rfl) (fun K hK => ?_); go_simp; refine hK _ ?_; clear hK K)
 refine zH ?_
 go_wp2_with fail
 (try simp only [Exit.inBlock, Exit.then])
 refine bodyPost_ret (xK (p := 6) (q := 7) (u := 8) rfl _ HF.out rfl rfl (by rw [HV.out.2.2.1]; rfl) (by rw [HV.out.2.2.2]; rfl)) rfl ?_;exact (show yw w S nl (d, m, m.e) _ _ from ⟨A, c, A2, n2, c2, by rw [HV.out.2.2.1, HV.out.2.2.2]; rfl, (HH.out.1.below HF.out.bel).mono fun _ _ h => .inl h, (HH.out.2.below HF.out.bel).mono fun _ _ h => .inl h, HF.out.bel⟩)
theorem rwadd_s {w : World} {S : Nat → Prop} {A A2 : Option Addr} {nl c n2 c2 : Nat} {d : DM} {m : LM} (h : Strs w S A nl c d.l) (h2 : Strs w S A2 n2 c2 m.l) (b : List UInt8) (hb : b.length ≤ 1000000) (ok : m.Ok) (he : m.e = 0) (hs : m.n - (m.have_ : Int) < (zP b.length : Int)) :
    Calls Tryz.prog 41 #[.agg (dmV d A nl c), .agg (lmV m A2 n2 c2), .string (st b)] w fun e w' => yw w S nl (yJ d m b) e w' := by
 have hr : yJ d m b = (d, m, 31) := by rw [yJ, if_neg (by simpa using he), if_pos hs]
 rw [hr];have hz := yb;have hzd := xT;obtain ⟨ZV, hZV⟩ := sqz (lmV lm0 none 0 0);rw [← hZV] at hz;obtain ⟨ZD, hZD⟩ := sqz dz;rw [← hZD] at hzd;obtain ⟨DV, hDV⟩ := sqz (dmV d A nl c);rw [← hDV];obtain ⟨LV, hLV⟩ := sqz (lmV m A2 n2 c2);rw [← hLV];have hO := adw_start w DV LV ZD ZV;have HV := sq4 hZV hZD hDV hLV;have he' : (m.e != 0) = false := by simpa using he
 obtain ⟨K, hK⟩ := sqz (zP b.length);rw [← hK] at hs;have hbl := fun W => xB (b.length : Int) (by omega) W
 rw [Int.toNat_natCast, ← hK] at hbl;have hbs := zN b;obtain ⟨R, hR⟩ : ∃ R, R = m.n - (m.have_ : Int) := ⟨_, rfl⟩
 have hRw : IntKind.i64.wrap (m.n - (m.have_ : Int)) = R := by rw [hR]; exact IntWalk.i64_in _ (by have h1 := ok.n; have h2 := ok.have_; omega)
 rw [← hR] at hs
 generalize b.length = bl at *
 have HK := sq2 hK hR;clear hK hR ok hb;have HH := sq2 h h2;clear hZV hZD hDV hLV h h2 hr he
 go_enter Tryz.func41, Tryz.ntmps41
 go_upto_region 1 with fail
 generalize ((((w.alloc (.cells DV 30)).alloc (.cells LV 39)).alloc (.cells ZD 30)).alloc (.cells ZV 39)) = w2 at *
 have hc6 : w2.cell? ⟨w.heap.size + 1, 6, none⟩ = some (.int .i64 m.e) := by rw [zA hO.lv, HV.out.2.2.2]; rfl
 have hc1 : w2.cell? ⟨w.heap.size + 1, 1, none⟩ = some (.int .i64 m.n) := by rw [zA hO.lv, HV.out.2.2.2]; rfl
 have hc4 : w2.cell? ⟨w.heap.size + 1, 4, none⟩ = some (.int .i64 (m.have_ : Int)) := by rw [zA hO.lv, HV.out.2.2.2]; rfl
 have HO := Lib.hid hO;clear hO hz hzd
 go_upto_region 5 with (go_at_call 40; refine (hbl _).mono ?_; clear hbl; rintro _ _ ⟨rfl, rfl⟩)
 clear hc6 hc1 hc4 hRw;refine sqpl (fun W => ∃ RD RL, AdW w DV LV RD RL W) [([0, 1], 2), ([], 3)] [4] ⟨_, _, HO.out.drew⟩ ?_;have HD := Lib.hid HO.out.drew;clear HO
 generalize w2.drew = wd at *
 refine zR ?_;refine zE (.agg DV) (by rfl) (by rfl) (fun W hW => yU 3 hW.choose_spec.choose_spec.dv Tryz.underlying30 (by rw [HV.out.2.2.1]; exact zI)) ?_
 try simp only [Act.put, sqp]
 refine zE (.agg LV) (by rfl) (by rfl) (fun W hW => yU 4 hW.choose_spec.choose_spec.lv Tryz.underlying39 (by rw [HV.out.2.2.2]; exact zL)) ?_
 try simp only [Act.put, sqp]
 refine zH ?_;refine yO 6 32 DV HD.out.rd (by rw [HV.out.2.2.1]; exact zI) (by rw [HV.out.2.1, HV.out.2.2.1]; rfl) (by rw [HV.out.2.2.1]; exact zt _ _ _ _) ?_;have HE := Lib.hid (HD.out.setRD DV);clear HD
 generalize wd.setRow (w.heap.size + 2) DV = we at *
 refine ⟨fun W => ∃ RD RL, AdW w DV LV RD RL W, ⟨_, _, HE.out⟩, fun _ h => h, ?_⟩
 try simp only [Act.put]
 refine zR ?_;refine zH ?_;refine yO 7 33 LV HE.out.rl (by rw [HV.out.2.2.2]; exact zL) (by rw [HV.out.1, HV.out.2.2.2]; rfl) (by rw [HV.out.2.2.2]; exact zw _ _ _ _) ?_;have HF := Lib.hid (HE.out.setRL LV);clear HE
 generalize we.setRow (w.heap.size + 3) LV = wf at *
 refine ⟨fun W => W = wf, rfl, fun W (e : W = wf) => ⟨DV, LV, e ▸ HF.out⟩, ?_⟩;refine zZ ?_
 try simp only [Act.put]
 repeat (refine zb (by rfl) (fun K hK => ?_); go_simp; refine hK _ ?_; clear hK K)
 refine zH ?_
 go_wp2_with fail
 (try simp only [Exit.inBlock, Exit.then])
 refine bodyPost_ret (xK (p := 6) (q := 7) (u := 8) rfl _ HF.out rfl rfl (by rw [HV.out.2.2.1]; rfl) (by rw [HV.out.2.2.2]; rfl)) rfl ?_;exact (show yw w S nl (d, m, 31) _ _ from ⟨A, c, A2, n2, c2, by rw [HV.out.2.2.1, HV.out.2.2.2]; rfl, (HH.out.1.below HF.out.bel).mono fun _ _ h => .inl h, (HH.out.2.below HF.out.bel).mono fun _ _ h => .inl h, HF.out.bel⟩)
theorem rwadd_n {w : World} {S : Nat → Prop} {A A2 : Option Addr} {nl c n2 c2 : Nat} {d : DM} {m : LM} (h : Strs w S A nl c d.l) (h2 : Strs w S A2 n2 c2 m.l) (b : List UInt8) (hb : b.length ≤ 1000000) (ok : m.Ok) (he : m.e = 0) (hs : ¬ m.n - (m.have_ : Int) < (zP b.length : Int)) (hx : m.next = 0) :
    Calls Tryz.prog 41 #[.agg (dmV d A nl c), .agg (lmV m A2 n2 c2), .string (st b)] w fun e w' => yw w S nl (yJ d m b) e w' := by
 have hr : yJ d m b = (d, m, 38) := by rw [yJ, if_neg (by simpa using he), if_neg hs, if_pos (.inl hx)]
 rw [hr];have hz := yb;have hzd := xT;obtain ⟨ZV, hZV⟩ := sqz (lmV lm0 none 0 0);rw [← hZV] at hz;obtain ⟨ZD, hZD⟩ := sqz dz;rw [← hZD] at hzd;obtain ⟨DV, hDV⟩ := sqz (dmV d A nl c);rw [← hDV];obtain ⟨LV, hLV⟩ := sqz (lmV m A2 n2 c2);rw [← hLV];have hO := adw_start w DV LV ZD ZV;have HV := sq4 hZV hZD hDV hLV;have he' : (m.e != 0) = false := by simpa using he
 obtain ⟨K, hK⟩ := sqz (zP b.length);rw [← hK] at hs;have hbl := fun W => xB (b.length : Int) (by omega) W
 rw [Int.toNat_natCast, ← hK] at hbl;have hbs := zN b;obtain ⟨R, hR⟩ : ∃ R, R = m.n - (m.have_ : Int) := ⟨_, rfl⟩
 have hRw : IntKind.i64.wrap (m.n - (m.have_ : Int)) = R := by rw [hR]; exact IntWalk.i64_in _ (by have h1 := ok.n; have h2 := ok.have_; omega)
 rw [← hR] at hs
 generalize b.length = bl at *
 have HK := sq2 hK hR;have hxc : ((m.next : Int) == 0) = true := by rw [hx]; rfl
 clear hK hR ok hb;have HH := sq2 h h2;clear hZV hZD hDV hLV h h2 hr he hx
 go_enter Tryz.func41, Tryz.ntmps41
 go_upto_region 1 with fail
 generalize ((((w.alloc (.cells DV 30)).alloc (.cells LV 39)).alloc (.cells ZD 30)).alloc (.cells ZV 39)) = w2 at *
 have hc6 : w2.cell? ⟨w.heap.size + 1, 6, none⟩ = some (.int .i64 m.e) := by rw [zA hO.lv, HV.out.2.2.2]; rfl
 have hc1 : w2.cell? ⟨w.heap.size + 1, 1, none⟩ = some (.int .i64 m.n) := by rw [zA hO.lv, HV.out.2.2.2]; rfl
 have hc4 : w2.cell? ⟨w.heap.size + 1, 4, none⟩ = some (.int .i64 (m.have_ : Int)) := by rw [zA hO.lv, HV.out.2.2.2]; rfl
 have hc3 : w2.cell? ⟨w.heap.size + 1, 3, none⟩ = some (.int .u64 (m.next : Int)) := by rw [zA hO.lv, HV.out.2.2.2]; rfl
 have HO := Lib.hid hO;clear hO hz hzd
 go_upto_region 7 with (go_at_call 40; refine (hbl _).mono ?_; clear hbl; rintro _ _ ⟨rfl, rfl⟩)
 clear hc6 hc1 hc4 hRw hc3 hxc;refine sqpl (fun W => ∃ RD RL, AdW w DV LV RD RL W) [([0, 1], 2), ([], 3)] [4] ⟨_, _, HO.out.drew⟩ ?_;have HD := Lib.hid HO.out.drew;clear HO
 generalize w2.drew = wd at *
 refine zR ?_;refine zE (.agg DV) (by rfl) (by rfl) (fun W hW => yU 3 hW.choose_spec.choose_spec.dv Tryz.underlying30 (by rw [HV.out.2.2.1]; exact zI)) ?_
 try simp only [Act.put, sqp]
 refine zE (.agg LV) (by rfl) (by rfl) (fun W hW => yU 4 hW.choose_spec.choose_spec.lv Tryz.underlying39 (by rw [HV.out.2.2.2]; exact zL)) ?_
 try simp only [Act.put, sqp]
 refine zH ?_;refine yO 6 45 DV HD.out.rd (by rw [HV.out.2.2.1]; exact zI) (by rw [HV.out.2.1, HV.out.2.2.1]; rfl) (by rw [HV.out.2.2.1]; exact zt _ _ _ _) ?_;have HE := Lib.hid (HD.out.setRD DV);clear HD
 generalize wd.setRow (w.heap.size + 2) DV = we at *
 refine ⟨fun W => ∃ RD RL, AdW w DV LV RD RL W, ⟨_, _, HE.out⟩, fun _ h => h, ?_⟩
 try simp only [Act.put]
 refine zR ?_;refine zH ?_;refine yO 7 46 LV HE.out.rl (by rw [HV.out.2.2.2]; exact zL) (by rw [HV.out.1, HV.out.2.2.2]; rfl) (by rw [HV.out.2.2.2]; exact zw _ _ _ _) ?_;have HF := Lib.hid (HE.out.setRL LV);clear HE
 generalize we.setRow (w.heap.size + 3) LV = wf at *
 refine ⟨fun W => W = wf, rfl, fun W (e : W = wf) => ⟨DV, LV, e ▸ HF.out⟩, ?_⟩;refine zZ ?_
 try simp only [Act.put]
 repeat (refine zb (by rfl) (fun K hK => ?_); go_simp; refine hK _ ?_; clear hK K)
 refine zH ?_
 go_wp2_with fail
 (try simp only [Exit.inBlock, Exit.then])
 refine bodyPost_ret (xK (p := 6) (q := 7) (u := 8) rfl _ HF.out rfl rfl (by rw [HV.out.2.2.1]; rfl) (by rw [HV.out.2.2.2]; rfl)) rfl ?_;exact (show yw w S nl (d, m, 38) _ _ from ⟨A, c, A2, n2, c2, by rw [HV.out.2.2.1, HV.out.2.2.2]; rfl, (HH.out.1.below HF.out.bel).mono fun _ _ h => .inl h, (HH.out.2.below HF.out.bel).mono fun _ _ h => .inl h, HF.out.bel⟩)
theorem rwadd_w {w : World} {S : Nat → Prop} {A A2 : Option Addr} {nl c n2 c2 : Nat} {d : DM} {m : LM} (h : Strs w S A nl c d.l) (h2 : Strs w S A2 n2 c2 m.l) (b : List UInt8) (hb : b.length ≤ 1000000) (ok : m.Ok) (he : m.e = 0) (hs : ¬ m.n - (m.have_ : Int) < (zP b.length : Int)) (hx : m.next ≠ 0) (hy : 18446744073709551615 - m.next < zP b.length) :
    Calls Tryz.prog 41 #[.agg (dmV d A nl c), .agg (lmV m A2 n2 c2), .string (st b)] w fun e w' => yw w S nl (yJ d m b) e w' := by
 have hr : yJ d m b = (d, m, 38) := by rw [yJ, if_neg (by simpa using he), if_neg hs, if_pos (.inr hy)]
 rw [hr];have hz := yb;have hzd := xT;obtain ⟨ZV, hZV⟩ := sqz (lmV lm0 none 0 0);rw [← hZV] at hz;obtain ⟨ZD, hZD⟩ := sqz dz;rw [← hZD] at hzd;obtain ⟨DV, hDV⟩ := sqz (dmV d A nl c);rw [← hDV];obtain ⟨LV, hLV⟩ := sqz (lmV m A2 n2 c2);rw [← hLV];have hO := adw_start w DV LV ZD ZV;have HV := sq4 hZV hZD hDV hLV;have he' : (m.e != 0) = false := by simpa using he
 obtain ⟨K, hK⟩ := sqz (zP b.length);rw [← hK] at hs;have hbl := fun W => xB (b.length : Int) (by omega) W
 rw [Int.toNat_natCast, ← hK] at hbl;have hbs := zN b;obtain ⟨R, hR⟩ : ∃ R, R = m.n - (m.have_ : Int) := ⟨_, rfl⟩
 have hRw : IntKind.i64.wrap (m.n - (m.have_ : Int)) = R := by rw [hR]; exact IntWalk.i64_in _ (by have h1 := ok.n; have h2 := ok.have_; omega)
 rw [← hR] at hs
 generalize b.length = bl at *
 have HK := sq2 hK hR;rw [← hK] at hy;have hxc : ((m.next : Int) == 0) = false := by simpa using hx
 have hKl : K ≤ 1000001 := by have := blocksN_le bl; omega
 have hKw : IntKind.u64.wrap (K : Int) = (K : Int) := IntWalk.u64_in _ (by omega);obtain ⟨Y, hY⟩ := sqz (18446744073709551615 - m.next);rw [← hY] at hy;have hYw : IntKind.u64.wrap (18446744073709551615 - (m.next : Int)) = (Y : Int) := by have h4 := ok.next; rw [IntKind.wrap_u64]; omega
 have hyc : (Y : Int) < (K : Int) := by omega
 clear hK hR ok hb hY hKl hy;have HH := sq2 h h2;clear hZV hZD hDV hLV h h2 hr he hx
 go_enter Tryz.func41, Tryz.ntmps41
 go_upto_region 1 with fail
 generalize ((((w.alloc (.cells DV 30)).alloc (.cells LV 39)).alloc (.cells ZD 30)).alloc (.cells ZV 39)) = w2 at *
 have hc6 : w2.cell? ⟨w.heap.size + 1, 6, none⟩ = some (.int .i64 m.e) := by rw [zA hO.lv, HV.out.2.2.2]; rfl
 have hc1 : w2.cell? ⟨w.heap.size + 1, 1, none⟩ = some (.int .i64 m.n) := by rw [zA hO.lv, HV.out.2.2.2]; rfl
 have hc4 : w2.cell? ⟨w.heap.size + 1, 4, none⟩ = some (.int .i64 (m.have_ : Int)) := by rw [zA hO.lv, HV.out.2.2.2]; rfl
 have hc3 : w2.cell? ⟨w.heap.size + 1, 3, none⟩ = some (.int .u64 (m.next : Int)) := by rw [zA hO.lv, HV.out.2.2.2]; rfl
 have HO := Lib.hid hO;clear hO hz hzd
 go_upto_region 7 with (go_at_call 40; refine (hbl _).mono ?_; clear hbl; rintro _ _ ⟨rfl, rfl⟩)
 clear hc6 hc1 hc4 hRw hc3 hxc hKw hYw hyc;refine sqpl (fun W => ∃ RD RL, AdW w DV LV RD RL W) [([0, 1], 2), ([], 3)] [4] ⟨_, _, HO.out.drew⟩ ?_;have HD := Lib.hid HO.out.drew;clear HO
 generalize w2.drew = wd at *
 refine zR ?_;refine zE (.agg DV) (by rfl) (by rfl) (fun W hW => yU 3 hW.choose_spec.choose_spec.dv Tryz.underlying30 (by rw [HV.out.2.2.1]; exact zI)) ?_
 try simp only [Act.put, sqp]
 refine zE (.agg LV) (by rfl) (by rfl) (fun W hW => yU 4 hW.choose_spec.choose_spec.lv Tryz.underlying39 (by rw [HV.out.2.2.2]; exact zL)) ?_
 try simp only [Act.put, sqp]
 refine zH ?_;refine yO 6 45 DV HD.out.rd (by rw [HV.out.2.2.1]; exact zI) (by rw [HV.out.2.1, HV.out.2.2.1]; rfl) (by rw [HV.out.2.2.1]; exact zt _ _ _ _) ?_;have HE := Lib.hid (HD.out.setRD DV);clear HD
 generalize wd.setRow (w.heap.size + 2) DV = we at *
 refine ⟨fun W => ∃ RD RL, AdW w DV LV RD RL W, ⟨_, _, HE.out⟩, fun _ h => h, ?_⟩
 try simp only [Act.put]
 refine zR ?_;refine zH ?_;refine yO 7 46 LV HE.out.rl (by rw [HV.out.2.2.2]; exact zL) (by rw [HV.out.1, HV.out.2.2.2]; rfl) (by rw [HV.out.2.2.2]; exact zw _ _ _ _) ?_;have HF := Lib.hid (HE.out.setRL LV);clear HE
 generalize we.setRow (w.heap.size + 3) LV = wf at *
 refine ⟨fun W => W = wf, rfl, fun W (e : W = wf) => ⟨DV, LV, e ▸ HF.out⟩, ?_⟩;refine zZ ?_
 try simp only [Act.put]
 repeat (refine zb (by rfl) (fun K hK => ?_); go_simp; refine hK _ ?_; clear hK K)
 refine zH ?_
 go_wp2_with fail
 (try simp only [Exit.inBlock, Exit.then])
 refine bodyPost_ret (xK (p := 6) (q := 7) (u := 8) rfl _ HF.out rfl rfl (by rw [HV.out.2.2.1]; rfl) (by rw [HV.out.2.2.2]; rfl)) rfl ?_;exact (show yw w S nl (d, m, 38) _ _ from ⟨A, c, A2, n2, c2, by rw [HV.out.2.2.1, HV.out.2.2.2]; rfl, (HH.out.1.below HF.out.bel).mono fun _ _ h => .inl h, (HH.out.2.below HF.out.bel).mono fun _ _ h => .inl h, HF.out.bel⟩)
end Go.Proofs.YtmioifcbkhpdaaaGreat
/-! The reference: Add, where it writes. -/
namespace Go.Proofs.YtmioifcbkhpdaaaGreat
open Go.RowKit
def ADT (w : World) (S : Nat → Prop) (k : Nat) : Prop := (S k ∧ k < w.heap.size) ∨ w.heap.size + 4 ≤ k
theorem eff_load_row {P : Program} {ops : Array Oper} {Q : Exit → Act → World → Prop} {i : Nat} {o : Oper} {K : Act → World → Prop} {a : Act} {w : World} (ho : ops.toList[i]? = some o) (hgd : o.guard = none) (ty : TypeId) (x : Operand) (hop : o.op = .load ty x)
    (g : Nat) (cells : Array Value) (hx : a.eval x = .pointer (some ⟨g, 0, none⟩)) (t : TypeId) (f : Nat × Nat) (hg : w.heap[g]? = some (.cells cells t f)) (d : TypeDesc)
    (hu : P.underlying ty = some d) (hd : (match d with | .struct _ | .array _ _ => true | _ => false) = true) (hi : (P.info? ty).map (·.size) = some cells.size) (h : K (a.put o.dst (.agg cells)) w) : wpOp P ops Q i K a w :=
 zr ho fun K' hK' => by
  rw [if_pos (by unfold Region.wanted; rw [hgd])];exact wp_load_row ty x hop g hx t cells f d hg hu hd hi (hK' _ _ h)
theorem addGo_at {at_ : Int} {x : Nat} {b : List UInt8} {n j : Nat} {d : DM} (h : j < n) : yF at_ x b n (n - j) j d = if (zm d (at_ + (j : Int)) (recB x b n j)).2 = 0 then yF at_ x b n (n - (j + 1)) (j + 1) (zm d (at_ + (j : Int)) (recB x b n j)).1 else zm d (at_ + (j : Int)) (recB x b n j) := by
 rw [show n - j = (n - (j + 1)) + 1 by omega, yF]
theorem append_strs_any {W : World} {S : Nat → Prop} {A : Option Addr} {n c : Nat} {l : List (List UInt8)} (h : Strs W S A n c l) (hn : n ≤ 1000000) (ty : TypeId) :
    ∃ A' c' W', (Builtin.append_ #[28, 28] ty #[.slice none 0 0, .slice A n c]).run Tryz.prog W = .ok (.slice A' n c') W' ∧ W'.ownsRow W.heap.size 9 1 (.slice A' n c') n (yq l) ∧ Below W.heap.size W W' := by
 by_cases h0 : 0 < n
 ·obtain ⟨g, c', W', h1, h2, h3⟩ := append_strs h h0 hn ty;exact ⟨_, c', W', h1, h2, h3⟩
 ·obtain rfl : n = 0 := by omega
  obtain rfl : l = [] := List.eq_nil_of_length_eq_zero h.len;obtain ⟨i0, hi, hz0, hz1, hz2⟩ := info_parts str_info2;refine ⟨none, 0, W, ?_, World.ownsRow_nil _ _ _ _, Below.refl _ _⟩;rcases A with _ | a
  ·exact run_append_zero (P := Tryz.prog) W 28 ty 9 i0 Tryz.underlying28 hi none 0 0 c (by omega)
  ·simp [Builtin.append_, run_underlying (P := Tryz.prog) Tryz.underlying28, sizeOf, typeInfo, hi, Builtin.lenOf, Builtin.firstCells, loadCells, loadCellsFrom]
theorem own_row_ne {w : World} {B : Nat} {e : TypeId} {v : Value} {k : Nat} {xs : List Value} (h : w.ownsRow B e 1 v k xs) {p : Nat} (hp : p < B) (cs : Array Value) : (w.setRow p cs).ownsRow B e 1 v k xs := by
 have ht := zO (w := w) (g := p) cs;refine h.kept (row := some p) ⟨ht.os, ht.tape, ht.output, ht.size, fun i hi hne => ht.block i hi fun e => hne (by rw [e])⟩ ?_;rcases hv : v.ownBlock with _ | g
 ·exact .inl rfl
 ·refine .inr fun e => ?_
  injection e with e
  have := (h.lt g hv).1;omega
theorem own_drew1 {w : World} {B : Nat} {e : TypeId} {v : Value} {k : Nat} {xs : List Value} (h : w.ownsRow B e 1 v k xs) : w.drew.ownsRow B e 1 v k xs := h
structure AdE (w0 : World) (S : Nat → Prop) (DV LV ZD ZV : Array Value) (A : Option Addr) (nl c : Nat) (l : List (List UInt8)) (v : Value) (k : Nat) (xs : List Value) (B : Nat) (w : World) : Prop where
 ad : AdW w0 DV LV ZD ZV w
 st : Strs w (ADT w0 S) A nl c l
 own : w.ownsRow B 9 1 v k xs
theorem AdE.set {w0 : World} {S : Nat → Prop} {DV LV ZD ZV : Array Value} {A : Option Addr} {nl c : Nat} {l : List (List UInt8)} {v : Value} {k : Nat} {xs : List Value} {B : Nat} {w : World} (h : AdE w0 S DV LV ZD ZV A nl c l v k xs B w) (hB : w0.heap.size + 1 < B) (i : Nat) (u : Value) :
    AdE w0 S DV (LV.setIfInBounds i u) ZD ZV A nl c l v k xs B (w.setCell ⟨w0.heap.size + 1, i, none⟩ u) :=
 ⟨h.ad.setL i u, h.st.turned ((Turned.refl (fun k => k = w0.heap.size + 1) w).set (p := w0.heap.size + 1) rfl i u) fun k _ h1 h2 => by rcases h1 with h1 | h1 <;> omega, own_set h.own hB i u⟩
def RAd (w : World) (S : Nat → Prop) (LV ZD ZV : Array Value) (nl : Nat) (b : List UInt8) (at_ : Int) (x K : Nat) (d : DM) (rest i : Value) (wr : World) : Prop :=
 ∃ (j : Nat) (dj : DM) (A : Option Addr) (c : Nat), j ≤ K ∧ i = .int .i64 (j : Int) ∧ rest = .string (st (b.drop (110 * j))) ∧ AdW w (dmV dj A nl c) LV ZD ZV wr ∧ Strs wr (ADT w S) A nl c dj.l ∧ dj.Ok ∧ yF at_ x b K K 0 d = yF at_ x b K (K - j) j dj ∧ 0 ≤ at_
theorem rwadd_run {w : World} {S : Nat → Prop} {A A2 : Option Addr} {nl c n2 c2 : Nat} {d : DM} {m : LM} (h : Strs w S A nl c d.l) (h2 : Strs w S A2 n2 c2 m.l) (b : List UInt8) (ok : d.Ok) (hn : nl ≤ 1000000) (hb : b.length ≤ 1000000) (lok : m.Ok) (he : m.e = 0) (hs : ¬ m.n - (m.have_ : Int) < (zP b.length : Int)) (hx : m.next ≠ 0) (hy : ¬ 18446744073709551615 - m.next < zP b.length) :
    Calls Tryz.prog 41 #[.agg (dmV d A nl c), .agg (lmV m A2 n2 c2), .string (st b)] w fun e w' => yw w S nl (yJ d m b) e w' := by
 obtain ⟨r, hr0⟩ := sqz (yJ d m b);rw [← hr0];have hr : r = (let r := yF (m.from_ + (m.have_ : Int)) m.next b (zP b.length) (zP b.length) 0 d; if r.2 = 0 then (r.1, addOk m b, 0) else (r.1, { m with e := r.2 }, r.2)) := by rw [hr0, yJ, if_neg (by simpa using he), if_neg hs, if_neg (by omega)]
 clear hr0;have hz := yb;have hzd := xT;obtain ⟨ZV, hZV⟩ := sqz (lmV lm0 none 0 0);rw [← hZV] at hz;obtain ⟨ZD, hZD⟩ := sqz dz;rw [← hZD] at hzd;obtain ⟨DV, hDV⟩ := sqz (dmV d A nl c);rw [← hDV];obtain ⟨LV, hLV⟩ := sqz (lmV m A2 n2 c2);rw [← hLV];have hO := adw_start w DV LV ZD ZV;have HV := sq4 hZV hZD hDV hLV;have he' : (m.e != 0) = false := by simpa using he
 obtain ⟨K, hK⟩ := sqz (zP b.length);rw [← hK] at hs hy hr;have hbl := fun W => xB (b.length : Int) (by omega) W
 rw [Int.toNat_natCast, ← hK] at hbl;have hbs := zN b;obtain ⟨R, hR⟩ : ∃ R, R = m.n - (m.have_ : Int) := ⟨_, rfl⟩
 have hRw : IntKind.i64.wrap (m.n - (m.have_ : Int)) = R := by rw [hR]; exact IntWalk.i64_in _ (by have h1 := lok.n; have h2 := lok.have_; omega)
 rw [← hR] at hs;have hxc : ((m.next : Int) == 0) = false := by simpa using hx
 have hKl : K ≤ 1000001 := by have := blocksN_le b.length; omega
 have hKw : IntKind.u64.wrap (K : Int) = (K : Int) := IntWalk.u64_in _ (by omega);obtain ⟨Y, hY⟩ := sqz (18446744073709551615 - m.next);rw [← hY] at hy;have hYw : IntKind.u64.wrap (18446744073709551615 - (m.next : Int)) = (Y : Int) := by have h4 := lok.next; rw [IntKind.wrap_u64]; omega
 have hyc : ¬ (Y : Int) < (K : Int) := by omega
 have HK := sq7 hK hR hKl hY hy (blocksN_one b.length) hs;have HN := sq6 hn ok lok he hx hb;have hsK : ¬ R < (K : Int) := hs;clear hs;have HRr := Lib.hid hr;have H0 := Lib.hid ((h.mono (T := ADT w S) fun k hk hS => .inl ⟨hS, hk⟩).below hO.bel);clear hK hR lok hY hKl hy ok hn;have HH := sq4 h h2 HN.out.1 True.intro;clear hZV hZD hDV hLV h h2 hr he hx hb
 go_enter Tryz.func41, Tryz.ntmps41
 go_upto_region 1 with fail
 generalize ((((w.alloc (.cells DV 30)).alloc (.cells LV 39)).alloc (.cells ZD 30)).alloc (.cells ZV 39)) = w2 at *
 have hc6 : w2.cell? ⟨w.heap.size + 1, 6, none⟩ = some (.int .i64 m.e) := by rw [zA hO.lv, HV.out.2.2.2]; rfl
 have hc1 : w2.cell? ⟨w.heap.size + 1, 1, none⟩ = some (.int .i64 m.n) := by rw [zA hO.lv, HV.out.2.2.2]; rfl
 have hc4 : w2.cell? ⟨w.heap.size + 1, 4, none⟩ = some (.int .i64 (m.have_ : Int)) := by rw [zA hO.lv, HV.out.2.2.2]; rfl
 have hc3 : w2.cell? ⟨w.heap.size + 1, 3, none⟩ = some (.int .u64 (m.next : Int)) := by rw [zA hO.lv, HV.out.2.2.2]; rfl
 have HO := Lib.hid hO;clear hO hz hzd
 go_upto_region 8 with (go_at_call 40; refine (hbl _).mono ?_; clear hbl; rintro _ _ ⟨rfl, rfl⟩)
 clear hc6 hc1 hc4 hRw hc3 hxc hKw hYw hyc hsK he' hbs
 go_wp2_with fail
 go_loopw [10, 11] (fun rest i wr => RAd w S LV ZD ZV nl b (m.from_ + (m.have_ : Int)) m.next K d rest i wr) (fun _ i _ => K - (intOf i).toNat)
 case atStart => exact ⟨0, d, A, c, Nat.zero_le _, rfl, rfl, by rw [← HV.out.2.2.1]; exact HO.out, H0.out, HN.out.2.1, rfl, by have h1 := HN.out.2.2.1.from_; omega⟩
 case round =>
  obtain ⟨j, dj, Aj, cj, hj, rfl, rfl, hAj, hSj, hokj, hgo, hat0⟩ := hrel
  by_cases hlt : j < K
  ·(have hlt' : (j : Int) < (K : Int) := by omega);obtain ⟨DJ, hDJ⟩ := sqz (dmV dj Aj nl cj);rw [← hDJ] at hAj;have HR := sq5 hAj hSj hokj hgo hat0;have HDJ := Lib.hid hDJ;clear hAj hSj hokj hgo hDJ hat0;obtain ⟨RS, hRS⟩ := sqz (b.drop (110 * j));rw [← hRS];have hsz := zN RS;obtain ⟨RL, hRL⟩ := sqz RS.length;rw [← hRL] at hsz;(obtain ⟨AT, hAT⟩ : ∃ AT, AT = m.from_ + (m.have_ : Int) := ⟨_, rfl⟩);(obtain ⟨I, hI⟩ : ∃ I, I = AT + (j : Int) := ⟨_, rfl⟩);obtain ⟨N, hN⟩ := sqz (m.next + j);obtain ⟨K1, hK1⟩ := sqz ((K : Int) - 1);obtain ⟨LB, hLB⟩ := sqz (decide (j + 1 = K));have hbnd := And.intro HN.out.2.2.1.from_ (And.intro HN.out.2.2.1.n (And.intro HN.out.2.2.1.have_ (And.intro HN.out.2.2.1.next HK.out.2.2.1)));have hyq := HK.out.2.2.2.2.1;have hYq := HK.out.2.2.2.1;(have hATw : IntKind.i64.wrap (m.from_ + (m.have_ : Int)) = AT := by rw [hAT]; exact IntWalk.i64_in _ (by omega));(have hIw : IntKind.i64.wrap (AT + (j : Int)) = I := by rw [hI]; exact IntWalk.i64_in _ (by omega));have hjw : IntKind.u64.wrap (j : Int) = (j : Int) := IntWalk.u64_in _ (by omega);(have hNw : IntKind.u64.wrap ((m.next : Int) + (j : Int)) = (N : Int) := by rw [IntKind.wrap_u64, hN]; omega);(have hK1w : IntKind.i64.wrap ((K : Int) - 1) = K1 := by rw [hK1]; exact IntWalk.i64_in _ (by omega));(have hlb : ((j : Int) == K1) = LB := by rw [hLB, hK1]; by_cases hq : j + 1 = K <;> simp [hq] <;> omega);have hadd := IntWalk.i64_in ((j : Int) + 1) (by omega);(have hblk := fun (P : List UInt8) (hp : P.length ≤ 110) (W : World) => rwblock_any N (by omega) P hp LB W);have HW := sq6 hRS hRL hAT hI hN hLB;clear hbnd hyq hYq hRS hRL hAT hI hN hK1 hLB hj
   by_cases hcut : 110 < RL
   ·(have hcut' : (110 : Int) < (RL : Int) := by omega);obtain ⟨P, hP⟩ := sqz (RS.take 110);obtain ⟨RJ, hRJ⟩ := sqz (RS.drop 110);have hto := st_to 9 Tryz.underlying9 RS wr 110 110 rfl (by rw [← HW.out.2.1]; omega);have hfr := st_from 9 Tryz.underlying9 RS wr 110 110 rfl (by rw [← HW.out.2.1]; omega);rw [← hP] at hto;rw [← hRJ] at hfr;(have hPl : P.length = 110 := by rw [hP, List.length_take, ← HW.out.2.1]; omega);have hsP := zN P;rw [hPl] at hsP;have HPE : Hid (P = partL b j) := Lib.hid (by rw [hP, HW.out.1]; rfl);have HRJ : Hid (RJ = b.drop (110 * (j + 1))) := Lib.hid (by rw [hRJ, HW.out.1, List.drop_drop]; congr 1)
    replace hblk := hblk P (by omega)
    obtain ⟨BK, hBK⟩ := sqz (zU N P LB);rw [← hBK] at hblk;(obtain ⟨⟨d5, e5⟩, hWM⟩ : ∃ r, zm dj I BK = r := ⟨_, rfl⟩)
    have HJ : Hid (j + 1 ≤ K ∧ d5.Ok ∧ yF (m.from_ + (m.have_ : Int)) m.next b K (K - j) j dj = if e5 = 0 then yF (m.from_ + (m.have_ : Int)) m.next b K (K - (j + 1)) (j + 1) d5 else (d5, e5)) := by
     have hq : zm dj (m.from_ + (m.have_ : Int) + (j : Int)) (recB m.next b K j) = (d5, e5) := by
      rw [← hWM, hBK, recB, HPE.out, HW.out.2.2.2.1, HW.out.2.2.1, HW.out.2.2.2.2.1, HW.out.2.2.2.2.2]
     refine Lib.hid ⟨hlt, ?_, ?_⟩
     ·have hk := writeM_ok HR.out.2.2.1 I BK;rw [hWM] at hk;exact hk
     ·rw [addGo_at hlt, hq]
    have HWM := Lib.hid hWM;clear hBK hWM hlt';clear hP hRJ hPl hcut
    go_upto_region 17 with fail
    clear hto hfr hsP hsz hcut';refine wp_region_tree (fun W => ∃ DX RD RL, AdW w DX LV RD RL W) (.two [1, 2, 3, 4, 5, 6, 7, 8, 9, 10, 11, 12, 13, 14, 15, 16, 17] 0 (.one [] 18 (.one [] 19 (.one [20, 21, 22] 23 (.last [24])))) 18 (.one [] 0 (.one [] 19 (.one [20, 21, 22] 23 (.last [24]))))) (by kernel_rfl) (by kernel_rfl) (fun _ _ d _ _ h => by cases d <;> exact h) ⟨_, _, _, HR.out.1.drew⟩ ?_;have HD := sq2 HR.out.1.drew HR.out.2.1.drew
    (generalize wr.drew = wd at *);refine tree_two ?_;refine zE ?v1 (by rfl) (by rfl) ?h1 ?_
    case h1 => intro W hW; clear hW; go_simp; with_reducible rfl
    try simp only [Act.put, sqp]
    refine zE (.int .i64 m.from_) (by rfl) (by rfl) ?h2 ?_
    case h2 => intro W hW; have hc : W.cell? ⟨w.heap.size + 1, 0, none⟩ = some (.int .i64 m.from_) := by { rw [zA hW.choose_spec.choose_spec.choose_spec.lv 0, HV.out.2.2.2]; rfl }; clear hW; go_simp
    try simp only [Act.put, sqp]
    refine zE ?v3 (by rfl) (by rfl) ?h3 ?_
    case h3 => intro W hW; clear hW; go_simp; with_reducible rfl
    try simp only [Act.put, sqp]
    refine zE (.int .i64 (m.have_ : Int)) (by rfl) (by rfl) ?h4 ?_
    case h4 => intro W hW; have hc : W.cell? ⟨w.heap.size + 1, 4, none⟩ = some (.int .i64 (m.have_ : Int)) := by { rw [zA hW.choose_spec.choose_spec.choose_spec.lv 4, HV.out.2.2.2]; rfl }; clear hW; go_simp
    try simp only [Act.put, sqp]
    refine zE (.int .i64 AT) (by rfl) (by rfl) ?h5 ?_
    case h5 => intro W hW; clear hW; go_simp
    try simp only [Act.put, sqp]
    refine zE ?v6 (by rfl) (by rfl) ?h6 ?_
    case h6 => intro W hW; clear hW; go_simp; with_reducible rfl
    try simp only [Act.put, sqp]
    refine zE (.int .i64 I) (by rfl) (by rfl) ?h7 ?_
    case h7 => intro W hW; clear hW; go_simp
    try simp only [Act.put, sqp]
    refine zE ?v8 (by rfl) (by rfl) ?h8 ?_
    case h8 => intro W hW; clear hW; go_simp; with_reducible rfl
    try simp only [Act.put, sqp]
    refine zE (.int .u64 (m.next : Int)) (by rfl) (by rfl) ?h9 ?_
    case h9 => intro W hW; have hc : W.cell? ⟨w.heap.size + 1, 3, none⟩ = some (.int .u64 (m.next : Int)) := by { rw [zA hW.choose_spec.choose_spec.choose_spec.lv 3, HV.out.2.2.2]; rfl }; clear hW; go_simp
    try simp only [Act.put, sqp]
    refine zE ?v10 (by rfl) (by rfl) ?h10 ?_
    case h10 => intro W hW; clear hW; go_simp; with_reducible rfl
    try simp only [Act.put, sqp]
    refine zE (.int .u64 (j : Int)) (by rfl) (by rfl) ?h11 ?_
    case h11 => intro W hW; clear hW; go_simp
    try simp only [Act.put, sqp]
    refine zE (.int .u64 (N : Int)) (by rfl) (by rfl) ?h12 ?_
    case h12 => intro W hW; clear hW; go_simp
    try simp only [Act.put, sqp]
    refine zE ?v13 (by rfl) (by rfl) ?h13 ?_
    case h13 => intro W hW; clear hW; go_simp; with_reducible rfl
    try simp only [Act.put, sqp]
    refine zE ?v14 (by rfl) (by rfl) ?h14 ?_
    case h14 => intro W hW; clear hW; go_simp; with_reducible rfl
    try simp only [Act.put, sqp]
    refine zE ?v15 (by rfl) (by rfl) ?h15 ?_
    case h15 => intro W hW; clear hW; go_simp; with_reducible rfl
    try simp only [Act.put, sqp]
    refine zE (.int .i64 K1) (by rfl) (by rfl) ?h16 ?_
    case h16 => intro W hW; clear hW; go_simp
    try simp only [Act.put, sqp]
    refine zE (.bool LB) (by rfl) (by rfl) ?h17 ?_
    case h17 => intro W hW; clear hW; go_simp
    try simp only [Act.put, sqp]
    clear hATw hIw hjw hNw hK1w hlb;refine zH ⟨?_, ?_⟩
    ·refine eff_load_row (by rfl) (by rfl) 30 (.tmp 3) (by rfl) w.heap.size DJ (by rfl) 30 (0, 0) HD.out.1.dv _ Tryz.underlying30 (by rfl) (by rw [HDJ.out]; exact zI) ?_;refine ⟨fun W => ∃ DX RD RL, AdW w DX LV RD RL W, ⟨_, _, _, HD.out.1⟩, fun _ h => h, ?_⟩
     try simp only [Act.put, sqp]
     refine yp ?_;refine zH ?_;refine zr (by rfl) (fun K0 hK0 => ?_);go_simp;refine (hblk wd).mono ?_;rintro _ w4 ⟨rfl, hb4⟩;have H4 := sq2 (HD.out.1.below hb4) (HD.out.2.below hb4);clear hb4 hblk HD;refine hK0 _ _ ⟨fun W => ∃ DX RD RL, AdW w DX LV RD RL W, ⟨_, _, _, H4.out.1⟩, fun _ h => h, ?_⟩;clear hK0 K0
     try simp only [Act.put, sqp]
     refine yp ?_;refine zH ?_;refine zr (by rfl) (fun K0 hK0 => ?_);go_simp;have hwr := rbwrite_any H4.out.2 HH.out.2.2.1 HR.out.2.2.1 I BK;rw [HWM.out, ← HDJ.out] at hwr;simp only at hwr;refine hwr.mono ?_;clear hwr;rintro _ w5 ⟨A5, c5, rfl, hs5, hb5⟩;have H5 := sq2 (H4.out.1.below hb5) (hs5.mono (T := ADT w S) fun k _ hk => by rcases hk with hk | hk; exact hk; exact .inr (by have := zB H4.out.1.rl; omega));clear hs5 hb5;obtain ⟨D5, hD5⟩ := sqz (dmV d5 A5 nl c5);rw [← hD5];have HD5 := Lib.hid hD5;clear hD5 H4;refine hK0 _ _ ⟨fun W => ∃ DX RD RL, AdW w DX LV RD RL W, ⟨_, _, _, H5.out.1⟩, fun _ h => h, ?_⟩;clear hK0 K0
     try simp only [Act.put, sqp]
     refine yp ?_;refine zE ?v18 (by rfl) (by rfl) ?h18 ?_
     case h18 => intro W hW; clear hW; go_simp; with_reducible rfl
     try simp only [Act.put, sqp]
     refine zE ?v19 (by rfl) (by rfl) ?h19 ?_
     case h19 => intro W hW; clear hW; go_simp; with_reducible rfl
     try simp only [Act.put, sqp]
     refine zE ?v20 (by rfl) (by rfl) ?h20 ?_
     case h20 => intro W hW; clear hW; go_simp; with_reducible rfl
     try simp only [Act.put, sqp]
     refine zH ?_;refine yO 3 84 D5 H5.out.1.dv (by rw [HD5.out]; exact zI) (by rw [HD5.out, HDJ.out]; rfl) (by rw [HD5.out]; exact zt _ _ _ _) ?_;have H6 := sq2 (H5.out.1.setD D5) (H5.out.2.turned (zO (w := w5) (g := w.heap.size) D5) fun k _ h1 h2 => by rcases h1 with h1 | h1 <;> omega);clear H5
     (generalize w5.setRow w.heap.size D5 = w6 at *);refine ⟨fun W => ∃ DX RD RL, AdW w DX LV RD RL W, ⟨_, _, _, H6.out.1⟩, fun _ h => h, ?_⟩
     try simp only [Act.put]
     refine tree_last ?_;refine zE ?v21 (by rfl) (by rfl) ?h21 ?_
     case h21 => intro W hW; clear hW; go_simp; with_reducible rfl
     try simp only [Act.put, sqp]
     refine zH ?_
     by_cases hE5 : e5 = 0
     ·subst hE5
      have hGO : yF (m.from_ + (m.have_ : Int)) m.next b K (K - j) j dj = yF (m.from_ + (m.have_ : Int)) m.next b K (K - (j + 1)) (j + 1) d5 := by
       have hx1 := HJ.out.2.2;rw [hx1, if_pos rfl]
      have H7 := Lib.hid hGO;clear hGO
      go_wp2_with fail
      go_roundw
      case rel =>
       refine ⟨_, _, _, ?_, rfl, rfl, rfl⟩;unfold RAd; exact ⟨j + 1, d5, A5, c5, HJ.out.1, by simp, by rw [HRJ.out], by rw [← HD5.out]; exact H6.out.1, H6.out.2, HJ.out.2.1, HR.out.2.2.2.1.trans H7.out, HR.out.2.2.2.2⟩
      case measure => simp only [intOf]; have := HJ.out.1; omega
     ·have hne : (e5 != 0) = true := by simpa using hE5
      have hgo : yF (m.from_ + (m.have_ : Int)) m.next b K K 0 d = (d5, e5) := by
       have hx1 := HJ.out.2.2;rw [if_neg hE5] at hx1;exact HR.out.2.2.2.1.trans hx1
      have HRES : Hid (r = (d5, { m with e := e5 }, e5)) := Lib.hid (by rw [HRr.out, hgo]; exact if_neg hE5);clear hgo hE5;(have hc6 : w6.cell? ⟨w.heap.size + 1, 6, none⟩ = some (.int .i64 m.e) := by rw [zA H6.out.1.lv, HV.out.2.2.2]; rfl);have hf6 := zC H6.out.1.lv 6
      go_upto_region 20 with fail
      clear hc6 hf6;obtain ⟨L2, hL2⟩ := sqz (lmV { m with e := e5 } A2 n2 c2)
      have h7 : AdW w D5 L2 ZD ZV (w6.setCell ⟨w.heap.size + 1, 6, none⟩ (.int .i64 e5)) := by
       have hk := H6.out.1.setL 6 (.int .i64 e5);rw [show LV.setIfInBounds 6 (.int .i64 e5) = L2 by rw [hL2, HV.out.2.2.2]; rfl] at hk;exact hk
      have HS7 := Lib.hid (H6.out.2.turned ((Turned.refl (fun k => k = w.heap.size + 1) w6).set (p := w.heap.size + 1) rfl 6 (.int .i64 e5)) fun k _ h1 h2 => by rcases h1 with h1 | h1 <;> omega);have HO7 := Lib.hid h7;have HL2 := Lib.hid hL2;clear h7 hL2 H6
      (generalize hw7 : w6.setCell ⟨w.heap.size + 1, 6, none⟩ (.int .i64 e5) = w7 at *);clear hw7;refine sqpl (fun W => ∃ RD RL, AdW w D5 L2 RD RL W) [([0, 1, 2], 3), ([], 4)] [5] ⟨_, _, HO7.out.drew⟩ ?_;have HD := Lib.hid HO7.out.drew;clear HO7;have HSD := Lib.hid HS7.out.drew;clear HS7
      (generalize w7.drew = wd at *);refine zR ?_;refine zE (.agg D5) (by rfl) (by rfl) (fun W hW => yU 3 hW.choose_spec.choose_spec.dv Tryz.underlying30 (by rw [HD5.out]; exact zI)) ?_
      try simp only [Act.put, sqp]
      refine zE (.agg L2) (by rfl) (by rfl) (fun W hW => yU 4 hW.choose_spec.choose_spec.lv Tryz.underlying39 (by rw [HL2.out]; exact zL)) ?_
      try simp only [Act.put, sqp]
      refine zE ?v22 (by rfl) (by rfl) ?h22 ?_
      case h22 => intro W hW; clear hW; go_simp; with_reducible rfl
      try simp only [Act.put, sqp]
      refine zH ?_;refine yO 6 90 D5 HD.out.rd (by rw [HD5.out]; exact zI) (by rw [HV.out.2.1, HD5.out]; rfl) (by rw [HD5.out]; exact zt _ _ _ _) ?_;have HSE := Lib.hid (HSD.out.turned (zO (w := wd) (g := w.heap.size + 2) D5) fun k _ h1 h2 => by rcases h1 with h1 | h1 <;> omega);clear HSD;have HE := Lib.hid (HD.out.setRD D5);clear HD
      (generalize wd.setRow (w.heap.size + 2) D5 = we at *);refine ⟨fun W => ∃ RD RL, AdW w D5 L2 RD RL W, ⟨_, _, HE.out⟩, fun _ h => h, ?_⟩
      try simp only [Act.put]
      refine zR ?_;refine zH ?_;refine yO 7 91 L2 HE.out.rl (by rw [HL2.out]; exact zL) (by rw [HV.out.1, HL2.out]; rfl) (by rw [HL2.out]; exact zw _ _ _ _) ?_;have HSF := Lib.hid (HSE.out.turned (zO (w := we) (g := w.heap.size + 3) L2) fun k _ h1 h2 => by rcases h1 with h1 | h1 <;> omega);clear HSE;have HF := Lib.hid (HE.out.setRL L2);clear HE
      (generalize we.setRow (w.heap.size + 3) L2 = wf at *);refine ⟨fun W => W = wf, rfl, fun W (e : W = wf) => ⟨D5, L2, e ▸ HF.out⟩, ?_⟩;refine zZ ?_
      try simp only [Act.put]
      repeat (refine zb (by rfl) (fun K hK => ?_); go_simp; refine hK _ ?_; clear hK K)
      refine zH ?_
      go_wp2_with fail
      (try simp only [Exit.inBlock, Exit.then])
      refine bodyPost_ret (xK (p := 6) (q := 7) (u := 8) rfl _ HF.out rfl rfl (by rw [HD5.out]; rfl) (by rw [HL2.out]; rfl)) rfl ?_
      exact (show yw w S nl r _ _ from by
       rw [HRES.out];exact ⟨A5, c5, A2, n2, c2, by rw [HD5.out, HL2.out]; rfl, HSF.out.mono fun k _ hk => by rcases hk with hk | hk; exact .inl hk.1; exact .inr (by omega), (HH.out.2.1.below HF.out.bel).mono fun _ _ h => .inl h, HF.out.bel⟩)
    ·refine zr (by rfl) (fun K0 hK0 => ?_);go_simp;refine (hblk wd).mono ?_;rintro _ w4 ⟨rfl, hb4⟩;have H4 := sq2 (HD.out.1.below hb4) (HD.out.2.below hb4);clear hb4 hblk HD;refine hK0 _ _ ⟨fun W => ∃ DX RD RL, AdW w DX LV RD RL W, ⟨_, _, _, H4.out.1⟩, fun _ h => h, ?_⟩;clear hK0 K0
     try simp only [Act.put, sqp]
     refine yp ?_;refine zH ?_;refine eff_load_row (by rfl) (by rfl) 30 (.tmp 3) (by rfl) w.heap.size DJ (by rfl) 30 (0, 0) H4.out.1.dv _ Tryz.underlying30 (by rfl) (by rw [HDJ.out]; exact zI) ?_;refine ⟨fun W => ∃ DX RD RL, AdW w DX LV RD RL W, ⟨_, _, _, H4.out.1⟩, fun _ h => h, ?_⟩
     try simp only [Act.put, sqp]
     refine yp ?_;refine zH ?_;refine zr (by rfl) (fun K0 hK0 => ?_);go_simp;have hwr := rbwrite_any H4.out.2 HH.out.2.2.1 HR.out.2.2.1 I BK;rw [HWM.out, ← HDJ.out] at hwr;simp only at hwr;refine hwr.mono ?_;clear hwr;rintro _ w5 ⟨A5, c5, rfl, hs5, hb5⟩;have H5 := sq2 (H4.out.1.below hb5) (hs5.mono (T := ADT w S) fun k _ hk => by rcases hk with hk | hk; exact hk; exact .inr (by have := zB H4.out.1.rl; omega));clear hs5 hb5;obtain ⟨D5, hD5⟩ := sqz (dmV d5 A5 nl c5);rw [← hD5];have HD5 := Lib.hid hD5;clear hD5 H4;refine hK0 _ _ ⟨fun W => ∃ DX RD RL, AdW w DX LV RD RL W, ⟨_, _, _, H5.out.1⟩, fun _ h => h, ?_⟩;clear hK0 K0
     try simp only [Act.put, sqp]
     refine yp ?_;refine zE ?v23 (by rfl) (by rfl) ?h23 ?_
     case h23 => intro W hW; clear hW; go_simp; with_reducible rfl
     try simp only [Act.put, sqp]
     refine zE ?v24 (by rfl) (by rfl) ?h24 ?_
     case h24 => intro W hW; clear hW; go_simp; with_reducible rfl
     try simp only [Act.put, sqp]
     refine zE ?v25 (by rfl) (by rfl) ?h25 ?_
     case h25 => intro W hW; clear hW; go_simp; with_reducible rfl
     try simp only [Act.put, sqp]
     refine zH ?_;refine yO 3 84 D5 H5.out.1.dv (by rw [HD5.out]; exact zI) (by rw [HD5.out, HDJ.out]; rfl) (by rw [HD5.out]; exact zt _ _ _ _) ?_;have H6 := sq2 (H5.out.1.setD D5) (H5.out.2.turned (zO (w := w5) (g := w.heap.size) D5) fun k _ h1 h2 => by rcases h1 with h1 | h1 <;> omega);clear H5
     (generalize w5.setRow w.heap.size D5 = w6 at *);refine ⟨fun W => ∃ DX RD RL, AdW w DX LV RD RL W, ⟨_, _, _, H6.out.1⟩, fun _ h => h, ?_⟩
     try simp only [Act.put]
     refine tree_last ?_;refine zE ?v26 (by rfl) (by rfl) ?h26 ?_
     case h26 => intro W hW; clear hW; go_simp; with_reducible rfl
     try simp only [Act.put, sqp]
     refine zH ?_
     by_cases hE5 : e5 = 0
     ·subst hE5
      have hGO : yF (m.from_ + (m.have_ : Int)) m.next b K (K - j) j dj = yF (m.from_ + (m.have_ : Int)) m.next b K (K - (j + 1)) (j + 1) d5 := by
       have hx1 := HJ.out.2.2;rw [hx1, if_pos rfl]
      have H7 := Lib.hid hGO;clear hGO
      go_wp2_with fail
      go_roundw
      case rel =>
       refine ⟨_, _, _, ?_, rfl, rfl, rfl⟩;unfold RAd; exact ⟨j + 1, d5, A5, c5, HJ.out.1, by simp, by rw [HRJ.out], by rw [← HD5.out]; exact H6.out.1, H6.out.2, HJ.out.2.1, HR.out.2.2.2.1.trans H7.out, HR.out.2.2.2.2⟩
      case measure => simp only [intOf]; have := HJ.out.1; omega
     ·have hne : (e5 != 0) = true := by simpa using hE5
      have hgo : yF (m.from_ + (m.have_ : Int)) m.next b K K 0 d = (d5, e5) := by
       have hx1 := HJ.out.2.2;rw [if_neg hE5] at hx1;exact HR.out.2.2.2.1.trans hx1
      have HRES : Hid (r = (d5, { m with e := e5 }, e5)) := Lib.hid (by rw [HRr.out, hgo]; exact if_neg hE5);clear hgo hE5;(have hc6 : w6.cell? ⟨w.heap.size + 1, 6, none⟩ = some (.int .i64 m.e) := by rw [zA H6.out.1.lv, HV.out.2.2.2]; rfl);have hf6 := zC H6.out.1.lv 6
      go_upto_region 20 with fail
      clear hc6 hf6;obtain ⟨L2, hL2⟩ := sqz (lmV { m with e := e5 } A2 n2 c2)
      have h7 : AdW w D5 L2 ZD ZV (w6.setCell ⟨w.heap.size + 1, 6, none⟩ (.int .i64 e5)) := by
       have hk := H6.out.1.setL 6 (.int .i64 e5);rw [show LV.setIfInBounds 6 (.int .i64 e5) = L2 by rw [hL2, HV.out.2.2.2]; rfl] at hk;exact hk
      have HS7 := Lib.hid (H6.out.2.turned ((Turned.refl (fun k => k = w.heap.size + 1) w6).set (p := w.heap.size + 1) rfl 6 (.int .i64 e5)) fun k _ h1 h2 => by rcases h1 with h1 | h1 <;> omega);have HO7 := Lib.hid h7;have HL2 := Lib.hid hL2;clear h7 hL2 H6
      (generalize hw7 : w6.setCell ⟨w.heap.size + 1, 6, none⟩ (.int .i64 e5) = w7 at *);clear hw7;refine sqpl (fun W => ∃ RD RL, AdW w D5 L2 RD RL W) [([0, 1, 2], 3), ([], 4)] [5] ⟨_, _, HO7.out.drew⟩ ?_;have HD := Lib.hid HO7.out.drew;clear HO7;have HSD := Lib.hid HS7.out.drew;clear HS7
      (generalize w7.drew = wd at *);refine zR ?_;refine zE (.agg D5) (by rfl) (by rfl) (fun W hW => yU 3 hW.choose_spec.choose_spec.dv Tryz.underlying30 (by rw [HD5.out]; exact zI)) ?_
      try simp only [Act.put, sqp]
      refine zE (.agg L2) (by rfl) (by rfl) (fun W hW => yU 4 hW.choose_spec.choose_spec.lv Tryz.underlying39 (by rw [HL2.out]; exact zL)) ?_
      try simp only [Act.put, sqp]
      refine zE ?v27 (by rfl) (by rfl) ?h27 ?_
      case h27 => intro W hW; clear hW; go_simp; with_reducible rfl
      try simp only [Act.put, sqp]
      refine zH ?_;refine yO 6 90 D5 HD.out.rd (by rw [HD5.out]; exact zI) (by rw [HV.out.2.1, HD5.out]; rfl) (by rw [HD5.out]; exact zt _ _ _ _) ?_;have HSE := Lib.hid (HSD.out.turned (zO (w := wd) (g := w.heap.size + 2) D5) fun k _ h1 h2 => by rcases h1 with h1 | h1 <;> omega);clear HSD;have HE := Lib.hid (HD.out.setRD D5);clear HD
      (generalize wd.setRow (w.heap.size + 2) D5 = we at *);refine ⟨fun W => ∃ RD RL, AdW w D5 L2 RD RL W, ⟨_, _, HE.out⟩, fun _ h => h, ?_⟩
      try simp only [Act.put]
      refine zR ?_;refine zH ?_;refine yO 7 91 L2 HE.out.rl (by rw [HL2.out]; exact zL) (by rw [HV.out.1, HL2.out]; rfl) (by rw [HL2.out]; exact zw _ _ _ _) ?_;have HSF := Lib.hid (HSE.out.turned (zO (w := we) (g := w.heap.size + 3) L2) fun k _ h1 h2 => by rcases h1 with h1 | h1 <;> omega);clear HSE;have HF := Lib.hid (HE.out.setRL L2);clear HE
      (generalize we.setRow (w.heap.size + 3) L2 = wf at *);refine ⟨fun W => W = wf, rfl, fun W (e : W = wf) => ⟨D5, L2, e ▸ HF.out⟩, ?_⟩;refine zZ ?_
      try simp only [Act.put]
      repeat (refine zb (by rfl) (fun K hK => ?_); go_simp; refine hK _ ?_; clear hK K)
      refine zH ?_
      go_wp2_with fail
      (try simp only [Exit.inBlock, Exit.then])
      refine bodyPost_ret (xK (p := 6) (q := 7) (u := 8) rfl _ HF.out rfl rfl (by rw [HD5.out]; rfl) (by rw [HL2.out]; rfl)) rfl ?_
      exact (show yw w S nl r _ _ from by
       rw [HRES.out];exact ⟨A5, c5, A2, n2, c2, by rw [HD5.out, HL2.out]; rfl, HSF.out.mono fun k _ hk => by rcases hk with hk | hk; exact .inl hk.1; exact .inr (by omega), (HH.out.2.1.below HF.out.bel).mono fun _ _ h => .inl h, HF.out.bel⟩)
   ·(have hcut' : ¬ (110 : Int) < (RL : Int) := by omega);obtain ⟨RJ, hRJ⟩ := sqz (RS.drop RL);have hfr := st_from 9 Tryz.underlying9 RS wr RL (RL : Int) rfl (by rw [← HW.out.2.1]; omega);rw [← hRJ] at hfr;have HPE : Hid (RS = partL b j) := Lib.hid (by unfold partL; rw [← HW.out.1, List.take_of_length_le (by rw [← HW.out.2.1]; omega)])
    have HRJ : Hid (RJ = b.drop (110 * (j + 1))) := Lib.hid (by
     have h1 := HW.out.2.1;(have h2 : b.drop (110 * (j + 1)) = RS.drop 110 := by rw [HW.out.1, List.drop_drop]; congr 1);rw [h2, hRJ, List.drop_eq_nil_of_le (by omega), List.drop_eq_nil_of_le (by omega)])
    replace hblk := hblk RS (by rw [← HW.out.2.1]; omega)
    obtain ⟨BK, hBK⟩ := sqz (zU N RS LB);rw [← hBK] at hblk;(obtain ⟨⟨d5, e5⟩, hWM⟩ : ∃ r, zm dj I BK = r := ⟨_, rfl⟩)
    have HJ : Hid (j + 1 ≤ K ∧ d5.Ok ∧ yF (m.from_ + (m.have_ : Int)) m.next b K (K - j) j dj = if e5 = 0 then yF (m.from_ + (m.have_ : Int)) m.next b K (K - (j + 1)) (j + 1) d5 else (d5, e5)) := by
     have hq : zm dj (m.from_ + (m.have_ : Int) + (j : Int)) (recB m.next b K j) = (d5, e5) := by
      rw [← hWM, hBK, recB, HPE.out, HW.out.2.2.2.1, HW.out.2.2.1, HW.out.2.2.2.2.1, HW.out.2.2.2.2.2]
     refine Lib.hid ⟨hlt, ?_, ?_⟩
     ·have hk := writeM_ok HR.out.2.2.1 I BK;rw [hWM] at hk;exact hk
     ·rw [addGo_at hlt, hq]
    have HWM := Lib.hid hWM;clear hBK hWM hlt';clear hRJ hcut
    go_upto_region 17 with fail
    clear hfr hsz hcut';refine wp_region_tree (fun W => ∃ DX RD RL, AdW w DX LV RD RL W) (.two [1, 2, 3, 4, 5, 6, 7, 8, 9, 10, 11, 12, 13, 14, 15, 16, 17] 0 (.one [] 18 (.one [] 19 (.one [20, 21, 22] 23 (.last [24])))) 18 (.one [] 0 (.one [] 19 (.one [20, 21, 22] 23 (.last [24]))))) (by kernel_rfl) (by kernel_rfl) (fun _ _ d _ _ h => by cases d <;> exact h) ⟨_, _, _, HR.out.1.drew⟩ ?_;have HD := sq2 HR.out.1.drew HR.out.2.1.drew
    (generalize wr.drew = wd at *);refine tree_two ?_;refine zE ?v28 (by rfl) (by rfl) ?h28 ?_
    case h28 => intro W hW; clear hW; go_simp; with_reducible rfl
    try simp only [Act.put, sqp]
    refine zE (.int .i64 m.from_) (by rfl) (by rfl) ?h29 ?_
    case h29 => intro W hW; have hc : W.cell? ⟨w.heap.size + 1, 0, none⟩ = some (.int .i64 m.from_) := by { rw [zA hW.choose_spec.choose_spec.choose_spec.lv 0, HV.out.2.2.2]; rfl }; clear hW; go_simp
    try simp only [Act.put, sqp]
    refine zE ?v30 (by rfl) (by rfl) ?h30 ?_
    case h30 => intro W hW; clear hW; go_simp; with_reducible rfl
    try simp only [Act.put, sqp]
    refine zE (.int .i64 (m.have_ : Int)) (by rfl) (by rfl) ?h31 ?_
    case h31 => intro W hW; have hc : W.cell? ⟨w.heap.size + 1, 4, none⟩ = some (.int .i64 (m.have_ : Int)) := by { rw [zA hW.choose_spec.choose_spec.choose_spec.lv 4, HV.out.2.2.2]; rfl }; clear hW; go_simp
    try simp only [Act.put, sqp]
    refine zE (.int .i64 AT) (by rfl) (by rfl) ?h32 ?_
    case h32 => intro W hW; clear hW; go_simp
    try simp only [Act.put, sqp]
    refine zE ?v33 (by rfl) (by rfl) ?h33 ?_
    case h33 => intro W hW; clear hW; go_simp; with_reducible rfl
    try simp only [Act.put, sqp]
    refine zE (.int .i64 I) (by rfl) (by rfl) ?h34 ?_
    case h34 => intro W hW; clear hW; go_simp
    try simp only [Act.put, sqp]
    refine zE ?v35 (by rfl) (by rfl) ?h35 ?_
    case h35 => intro W hW; clear hW; go_simp; with_reducible rfl
    try simp only [Act.put, sqp]
    refine zE (.int .u64 (m.next : Int)) (by rfl) (by rfl) ?h36 ?_
    case h36 => intro W hW; have hc : W.cell? ⟨w.heap.size + 1, 3, none⟩ = some (.int .u64 (m.next : Int)) := by { rw [zA hW.choose_spec.choose_spec.choose_spec.lv 3, HV.out.2.2.2]; rfl }; clear hW; go_simp
    try simp only [Act.put, sqp]
    refine zE ?v37 (by rfl) (by rfl) ?h37 ?_
    case h37 => intro W hW; clear hW; go_simp; with_reducible rfl
    try simp only [Act.put, sqp]
    refine zE (.int .u64 (j : Int)) (by rfl) (by rfl) ?h38 ?_
    case h38 => intro W hW; clear hW; go_simp
    try simp only [Act.put, sqp]
    refine zE (.int .u64 (N : Int)) (by rfl) (by rfl) ?h39 ?_
    case h39 => intro W hW; clear hW; go_simp
    try simp only [Act.put, sqp]
    refine zE ?v40 (by rfl) (by rfl) ?h40 ?_
    case h40 => intro W hW; clear hW; go_simp; with_reducible rfl
    try simp only [Act.put, sqp]
    refine zE ?v41 (by rfl) (by rfl) ?h41 ?_
    case h41 => intro W hW; clear hW; go_simp; with_reducible rfl
    try simp only [Act.put, sqp]
    refine zE ?v42 (by rfl) (by rfl) ?h42 ?_
    case h42 => intro W hW; clear hW; go_simp; with_reducible rfl
    try simp only [Act.put, sqp]
    refine zE (.int .i64 K1) (by rfl) (by rfl) ?h43 ?_
    case h43 => intro W hW; clear hW; go_simp
    try simp only [Act.put, sqp]
    refine zE (.bool LB) (by rfl) (by rfl) ?h44 ?_
    case h44 => intro W hW; clear hW; go_simp
    try simp only [Act.put, sqp]
    clear hATw hIw hjw hNw hK1w hlb;refine zH ⟨?_, ?_⟩
    ·refine eff_load_row (by rfl) (by rfl) 30 (.tmp 3) (by rfl) w.heap.size DJ (by rfl) 30 (0, 0) HD.out.1.dv _ Tryz.underlying30 (by rfl) (by rw [HDJ.out]; exact zI) ?_;refine ⟨fun W => ∃ DX RD RL, AdW w DX LV RD RL W, ⟨_, _, _, HD.out.1⟩, fun _ h => h, ?_⟩
     try simp only [Act.put, sqp]
     refine yp ?_;refine zH ?_;refine zr (by rfl) (fun K0 hK0 => ?_);go_simp;refine (hblk wd).mono ?_;rintro _ w4 ⟨rfl, hb4⟩;have H4 := sq2 (HD.out.1.below hb4) (HD.out.2.below hb4);clear hb4 hblk HD;refine hK0 _ _ ⟨fun W => ∃ DX RD RL, AdW w DX LV RD RL W, ⟨_, _, _, H4.out.1⟩, fun _ h => h, ?_⟩;clear hK0 K0
     try simp only [Act.put, sqp]
     refine yp ?_;refine zH ?_;refine zr (by rfl) (fun K0 hK0 => ?_);go_simp;have hwr := rbwrite_any H4.out.2 HH.out.2.2.1 HR.out.2.2.1 I BK;rw [HWM.out, ← HDJ.out] at hwr;simp only at hwr;refine hwr.mono ?_;clear hwr;rintro _ w5 ⟨A5, c5, rfl, hs5, hb5⟩;have H5 := sq2 (H4.out.1.below hb5) (hs5.mono (T := ADT w S) fun k _ hk => by rcases hk with hk | hk; exact hk; exact .inr (by have := zB H4.out.1.rl; omega));clear hs5 hb5;obtain ⟨D5, hD5⟩ := sqz (dmV d5 A5 nl c5);rw [← hD5];have HD5 := Lib.hid hD5;clear hD5 H4;refine hK0 _ _ ⟨fun W => ∃ DX RD RL, AdW w DX LV RD RL W, ⟨_, _, _, H5.out.1⟩, fun _ h => h, ?_⟩;clear hK0 K0
     try simp only [Act.put, sqp]
     refine yp ?_;refine zE ?v45 (by rfl) (by rfl) ?h45 ?_
     case h45 => intro W hW; clear hW; go_simp; with_reducible rfl
     try simp only [Act.put, sqp]
     refine zE ?v46 (by rfl) (by rfl) ?h46 ?_
     case h46 => intro W hW; clear hW; go_simp; with_reducible rfl
     try simp only [Act.put, sqp]
     refine zE ?v47 (by rfl) (by rfl) ?h47 ?_
     case h47 => intro W hW; clear hW; go_simp; with_reducible rfl
     try simp only [Act.put, sqp]
     refine zH ?_;refine yO 3 84 D5 H5.out.1.dv (by rw [HD5.out]; exact zI) (by rw [HD5.out, HDJ.out]; rfl) (by rw [HD5.out]; exact zt _ _ _ _) ?_;have H6 := sq2 (H5.out.1.setD D5) (H5.out.2.turned (zO (w := w5) (g := w.heap.size) D5) fun k _ h1 h2 => by rcases h1 with h1 | h1 <;> omega);clear H5
     (generalize w5.setRow w.heap.size D5 = w6 at *);refine ⟨fun W => ∃ DX RD RL, AdW w DX LV RD RL W, ⟨_, _, _, H6.out.1⟩, fun _ h => h, ?_⟩
     try simp only [Act.put]
     refine tree_last ?_;refine zE ?v48 (by rfl) (by rfl) ?h48 ?_
     case h48 => intro W hW; clear hW; go_simp; with_reducible rfl
     try simp only [Act.put, sqp]
     refine zH ?_
     by_cases hE5 : e5 = 0
     ·subst hE5
      have hGO : yF (m.from_ + (m.have_ : Int)) m.next b K (K - j) j dj = yF (m.from_ + (m.have_ : Int)) m.next b K (K - (j + 1)) (j + 1) d5 := by
       have hx1 := HJ.out.2.2;rw [hx1, if_pos rfl]
      have H7 := Lib.hid hGO;clear hGO
      go_wp2_with fail
      go_roundw
      case rel =>
       refine ⟨_, _, _, ?_, rfl, rfl, rfl⟩;unfold RAd; exact ⟨j + 1, d5, A5, c5, HJ.out.1, by simp, by rw [HRJ.out], by rw [← HD5.out]; exact H6.out.1, H6.out.2, HJ.out.2.1, HR.out.2.2.2.1.trans H7.out, HR.out.2.2.2.2⟩
      case measure => simp only [intOf]; have := HJ.out.1; omega
     ·have hne : (e5 != 0) = true := by simpa using hE5
      have hgo : yF (m.from_ + (m.have_ : Int)) m.next b K K 0 d = (d5, e5) := by
       have hx1 := HJ.out.2.2;rw [if_neg hE5] at hx1;exact HR.out.2.2.2.1.trans hx1
      have HRES : Hid (r = (d5, { m with e := e5 }, e5)) := Lib.hid (by rw [HRr.out, hgo]; exact if_neg hE5);clear hgo hE5;(have hc6 : w6.cell? ⟨w.heap.size + 1, 6, none⟩ = some (.int .i64 m.e) := by rw [zA H6.out.1.lv, HV.out.2.2.2]; rfl);have hf6 := zC H6.out.1.lv 6
      go_upto_region 20 with fail
      clear hc6 hf6;obtain ⟨L2, hL2⟩ := sqz (lmV { m with e := e5 } A2 n2 c2)
      have h7 : AdW w D5 L2 ZD ZV (w6.setCell ⟨w.heap.size + 1, 6, none⟩ (.int .i64 e5)) := by
       have hk := H6.out.1.setL 6 (.int .i64 e5);rw [show LV.setIfInBounds 6 (.int .i64 e5) = L2 by rw [hL2, HV.out.2.2.2]; rfl] at hk;exact hk
      have HS7 := Lib.hid (H6.out.2.turned ((Turned.refl (fun k => k = w.heap.size + 1) w6).set (p := w.heap.size + 1) rfl 6 (.int .i64 e5)) fun k _ h1 h2 => by rcases h1 with h1 | h1 <;> omega);have HO7 := Lib.hid h7;have HL2 := Lib.hid hL2;clear h7 hL2 H6
      (generalize hw7 : w6.setCell ⟨w.heap.size + 1, 6, none⟩ (.int .i64 e5) = w7 at *);clear hw7;refine sqpl (fun W => ∃ RD RL, AdW w D5 L2 RD RL W) [([0, 1, 2], 3), ([], 4)] [5] ⟨_, _, HO7.out.drew⟩ ?_;have HD := Lib.hid HO7.out.drew;clear HO7;have HSD := Lib.hid HS7.out.drew;clear HS7
      (generalize w7.drew = wd at *);refine zR ?_;refine zE (.agg D5) (by rfl) (by rfl) (fun W hW => yU 3 hW.choose_spec.choose_spec.dv Tryz.underlying30 (by rw [HD5.out]; exact zI)) ?_
      try simp only [Act.put, sqp]
      refine zE (.agg L2) (by rfl) (by rfl) (fun W hW => yU 4 hW.choose_spec.choose_spec.lv Tryz.underlying39 (by rw [HL2.out]; exact zL)) ?_
      try simp only [Act.put, sqp]
      refine zE ?v49 (by rfl) (by rfl) ?h49 ?_
      case h49 => intro W hW; clear hW; go_simp; with_reducible rfl
      try simp only [Act.put, sqp]
      refine zH ?_;refine yO 6 90 D5 HD.out.rd (by rw [HD5.out]; exact zI) (by rw [HV.out.2.1, HD5.out]; rfl) (by rw [HD5.out]; exact zt _ _ _ _) ?_;have HSE := Lib.hid (HSD.out.turned (zO (w := wd) (g := w.heap.size + 2) D5) fun k _ h1 h2 => by rcases h1 with h1 | h1 <;> omega);clear HSD;have HE := Lib.hid (HD.out.setRD D5);clear HD
      (generalize wd.setRow (w.heap.size + 2) D5 = we at *);refine ⟨fun W => ∃ RD RL, AdW w D5 L2 RD RL W, ⟨_, _, HE.out⟩, fun _ h => h, ?_⟩
      try simp only [Act.put]
      refine zR ?_;refine zH ?_;refine yO 7 91 L2 HE.out.rl (by rw [HL2.out]; exact zL) (by rw [HV.out.1, HL2.out]; rfl) (by rw [HL2.out]; exact zw _ _ _ _) ?_;have HSF := Lib.hid (HSE.out.turned (zO (w := we) (g := w.heap.size + 3) L2) fun k _ h1 h2 => by rcases h1 with h1 | h1 <;> omega);clear HSE;have HF := Lib.hid (HE.out.setRL L2);clear HE
      (generalize we.setRow (w.heap.size + 3) L2 = wf at *);refine ⟨fun W => W = wf, rfl, fun W (e : W = wf) => ⟨D5, L2, e ▸ HF.out⟩, ?_⟩;refine zZ ?_
      try simp only [Act.put]
      repeat (refine zb (by rfl) (fun K hK => ?_); go_simp; refine hK _ ?_; clear hK K)
      refine zH ?_
      go_wp2_with fail
      (try simp only [Exit.inBlock, Exit.then])
      refine bodyPost_ret (xK (p := 6) (q := 7) (u := 8) rfl _ HF.out rfl rfl (by rw [HD5.out]; rfl) (by rw [HL2.out]; rfl)) rfl ?_
      exact (show yw w S nl r _ _ from by
       rw [HRES.out];exact ⟨A5, c5, A2, n2, c2, by rw [HD5.out, HL2.out]; rfl, HSF.out.mono fun k _ hk => by rcases hk with hk | hk; exact .inl hk.1; exact .inr (by omega), (HH.out.2.1.below HF.out.bel).mono fun _ _ h => .inl h, HF.out.bel⟩)
    ·refine zr (by rfl) (fun K0 hK0 => ?_);go_simp;refine (hblk wd).mono ?_;rintro _ w4 ⟨rfl, hb4⟩;have H4 := sq2 (HD.out.1.below hb4) (HD.out.2.below hb4);clear hb4 hblk HD;refine hK0 _ _ ⟨fun W => ∃ DX RD RL, AdW w DX LV RD RL W, ⟨_, _, _, H4.out.1⟩, fun _ h => h, ?_⟩;clear hK0 K0
     try simp only [Act.put, sqp]
     refine yp ?_;refine zH ?_;refine eff_load_row (by rfl) (by rfl) 30 (.tmp 3) (by rfl) w.heap.size DJ (by rfl) 30 (0, 0) H4.out.1.dv _ Tryz.underlying30 (by rfl) (by rw [HDJ.out]; exact zI) ?_;refine ⟨fun W => ∃ DX RD RL, AdW w DX LV RD RL W, ⟨_, _, _, H4.out.1⟩, fun _ h => h, ?_⟩
     try simp only [Act.put, sqp]
     refine yp ?_;refine zH ?_;refine zr (by rfl) (fun K0 hK0 => ?_);go_simp;have hwr := rbwrite_any H4.out.2 HH.out.2.2.1 HR.out.2.2.1 I BK;rw [HWM.out, ← HDJ.out] at hwr;simp only at hwr;refine hwr.mono ?_;clear hwr;rintro _ w5 ⟨A5, c5, rfl, hs5, hb5⟩;have H5 := sq2 (H4.out.1.below hb5) (hs5.mono (T := ADT w S) fun k _ hk => by rcases hk with hk | hk; exact hk; exact .inr (by have := zB H4.out.1.rl; omega));clear hs5 hb5;obtain ⟨D5, hD5⟩ := sqz (dmV d5 A5 nl c5);rw [← hD5];have HD5 := Lib.hid hD5;clear hD5 H4;refine hK0 _ _ ⟨fun W => ∃ DX RD RL, AdW w DX LV RD RL W, ⟨_, _, _, H5.out.1⟩, fun _ h => h, ?_⟩;clear hK0 K0
     try simp only [Act.put, sqp]
     refine yp ?_;refine zE ?v50 (by rfl) (by rfl) ?h50 ?_
     case h50 => intro W hW; clear hW; go_simp; with_reducible rfl
     try simp only [Act.put, sqp]
     refine zE ?v51 (by rfl) (by rfl) ?h51 ?_
     case h51 => intro W hW; clear hW; go_simp; with_reducible rfl
     try simp only [Act.put, sqp]
     refine zE ?v52 (by rfl) (by rfl) ?h52 ?_
     case h52 => intro W hW; clear hW; go_simp; with_reducible rfl
     try simp only [Act.put, sqp]
     refine zH ?_;refine yO 3 84 D5 H5.out.1.dv (by rw [HD5.out]; exact zI) (by rw [HD5.out, HDJ.out]; rfl) (by rw [HD5.out]; exact zt _ _ _ _) ?_;have H6 := sq2 (H5.out.1.setD D5) (H5.out.2.turned (zO (w := w5) (g := w.heap.size) D5) fun k _ h1 h2 => by rcases h1 with h1 | h1 <;> omega);clear H5
     (generalize w5.setRow w.heap.size D5 = w6 at *);refine ⟨fun W => ∃ DX RD RL, AdW w DX LV RD RL W, ⟨_, _, _, H6.out.1⟩, fun _ h => h, ?_⟩
     try simp only [Act.put]
     refine tree_last ?_;refine zE ?v53 (by rfl) (by rfl) ?h53 ?_
     case h53 => intro W hW; clear hW; go_simp; with_reducible rfl
     try simp only [Act.put, sqp]
     refine zH ?_
     by_cases hE5 : e5 = 0
     ·subst hE5
      have hGO : yF (m.from_ + (m.have_ : Int)) m.next b K (K - j) j dj = yF (m.from_ + (m.have_ : Int)) m.next b K (K - (j + 1)) (j + 1) d5 := by
       have hx1 := HJ.out.2.2;rw [hx1, if_pos rfl]
      have H7 := Lib.hid hGO;clear hGO
      go_wp2_with fail
      go_roundw
      case rel =>
       refine ⟨_, _, _, ?_, rfl, rfl, rfl⟩;unfold RAd; exact ⟨j + 1, d5, A5, c5, HJ.out.1, by simp, by rw [HRJ.out], by rw [← HD5.out]; exact H6.out.1, H6.out.2, HJ.out.2.1, HR.out.2.2.2.1.trans H7.out, HR.out.2.2.2.2⟩
      case measure => simp only [intOf]; have := HJ.out.1; omega
     ·have hne : (e5 != 0) = true := by simpa using hE5
      have hgo : yF (m.from_ + (m.have_ : Int)) m.next b K K 0 d = (d5, e5) := by
       have hx1 := HJ.out.2.2;rw [if_neg hE5] at hx1;exact HR.out.2.2.2.1.trans hx1
      have HRES : Hid (r = (d5, { m with e := e5 }, e5)) := Lib.hid (by rw [HRr.out, hgo]; exact if_neg hE5);clear hgo hE5;(have hc6 : w6.cell? ⟨w.heap.size + 1, 6, none⟩ = some (.int .i64 m.e) := by rw [zA H6.out.1.lv, HV.out.2.2.2]; rfl);have hf6 := zC H6.out.1.lv 6
      go_upto_region 20 with fail
      clear hc6 hf6;obtain ⟨L2, hL2⟩ := sqz (lmV { m with e := e5 } A2 n2 c2)
      have h7 : AdW w D5 L2 ZD ZV (w6.setCell ⟨w.heap.size + 1, 6, none⟩ (.int .i64 e5)) := by
       have hk := H6.out.1.setL 6 (.int .i64 e5);rw [show LV.setIfInBounds 6 (.int .i64 e5) = L2 by rw [hL2, HV.out.2.2.2]; rfl] at hk;exact hk
      have HS7 := Lib.hid (H6.out.2.turned ((Turned.refl (fun k => k = w.heap.size + 1) w6).set (p := w.heap.size + 1) rfl 6 (.int .i64 e5)) fun k _ h1 h2 => by rcases h1 with h1 | h1 <;> omega);have HO7 := Lib.hid h7;have HL2 := Lib.hid hL2;clear h7 hL2 H6
      (generalize hw7 : w6.setCell ⟨w.heap.size + 1, 6, none⟩ (.int .i64 e5) = w7 at *);clear hw7;refine sqpl (fun W => ∃ RD RL, AdW w D5 L2 RD RL W) [([0, 1, 2], 3), ([], 4)] [5] ⟨_, _, HO7.out.drew⟩ ?_;have HD := Lib.hid HO7.out.drew;clear HO7;have HSD := Lib.hid HS7.out.drew;clear HS7
      (generalize w7.drew = wd at *);refine zR ?_;refine zE (.agg D5) (by rfl) (by rfl) (fun W hW => yU 3 hW.choose_spec.choose_spec.dv Tryz.underlying30 (by rw [HD5.out]; exact zI)) ?_
      try simp only [Act.put, sqp]
      refine zE (.agg L2) (by rfl) (by rfl) (fun W hW => yU 4 hW.choose_spec.choose_spec.lv Tryz.underlying39 (by rw [HL2.out]; exact zL)) ?_
      try simp only [Act.put, sqp]
      refine zE ?v54 (by rfl) (by rfl) ?h54 ?_
      case h54 => intro W hW; clear hW; go_simp; with_reducible rfl
      try simp only [Act.put, sqp]
      refine zH ?_;refine yO 6 90 D5 HD.out.rd (by rw [HD5.out]; exact zI) (by rw [HV.out.2.1, HD5.out]; rfl) (by rw [HD5.out]; exact zt _ _ _ _) ?_;have HSE := Lib.hid (HSD.out.turned (zO (w := wd) (g := w.heap.size + 2) D5) fun k _ h1 h2 => by rcases h1 with h1 | h1 <;> omega);clear HSD;have HE := Lib.hid (HD.out.setRD D5);clear HD
      (generalize wd.setRow (w.heap.size + 2) D5 = we at *);refine ⟨fun W => ∃ RD RL, AdW w D5 L2 RD RL W, ⟨_, _, HE.out⟩, fun _ h => h, ?_⟩
      try simp only [Act.put]
      refine zR ?_;refine zH ?_;refine yO 7 91 L2 HE.out.rl (by rw [HL2.out]; exact zL) (by rw [HV.out.1, HL2.out]; rfl) (by rw [HL2.out]; exact zw _ _ _ _) ?_;have HSF := Lib.hid (HSE.out.turned (zO (w := we) (g := w.heap.size + 3) L2) fun k _ h1 h2 => by rcases h1 with h1 | h1 <;> omega);clear HSE;have HF := Lib.hid (HE.out.setRL L2);clear HE
      (generalize we.setRow (w.heap.size + 3) L2 = wf at *);refine ⟨fun W => W = wf, rfl, fun W (e : W = wf) => ⟨D5, L2, e ▸ HF.out⟩, ?_⟩;refine zZ ?_
      try simp only [Act.put]
      repeat (refine zb (by rfl) (fun K hK => ?_); go_simp; refine hK _ ?_; clear hK K)
      refine zH ?_
      go_wp2_with fail
      (try simp only [Exit.inBlock, Exit.then])
      refine bodyPost_ret (xK (p := 6) (q := 7) (u := 8) rfl _ HF.out rfl rfl (by rw [HD5.out]; rfl) (by rw [HL2.out]; rfl)) rfl ?_
      exact (show yw w S nl r _ _ from by
       rw [HRES.out];exact ⟨A5, c5, A2, n2, c2, by rw [HD5.out, HL2.out]; rfl, HSF.out.mono fun k _ hk => by rcases hk with hk | hk; exact .inl hk.1; exact .inr (by omega), (HH.out.2.1.below HF.out.bel).mono fun _ _ h => .inl h, HF.out.bel⟩)
  ·(have hlt' : ¬ (j : Int) < (K : Int) := by omega);(obtain rfl : K = j := by omega)
   have hres : r = (dj, addOk m b, 0) := by
    rw [HRr.out, hgo, Nat.sub_self];rfl
   have HRES := Lib.hid hres;have HS0 := Lib.hid hSj;obtain ⟨DJ, hDJ⟩ := sqz (dmV dj Aj nl cj);rw [← hDJ] at hAj;have HDJ := Lib.hid hDJ;have HA0 := Lib.hid hAj;(have hLA : LV = lvA m.from_ m.n m.first m.next m.have_ (.slice A2 n2 c2) := by rw [HV.out.2.2.2]; unfold lmV lvA; rw [HN.out.2.2.2.1]);have HLA := Lib.hid hLA;clear hres hSj hDJ hAj hokj hgo hat0 hj hlt hLA
   go_upto_region 22 with fail
   have hbw : Below w.heap.size w wr := HA0.out.bel;have hn2 : n2 = m.l.length := HH.out.2.1.len.symm;have hfew : m.l.length ≤ m.have_ := HN.out.2.2.1.few;have hhave := And.intro HN.out.2.2.1.have_ (And.intro HN.out.2.2.1.n HN.out.2.2.1.next);obtain ⟨A6, c6, w6, hrun, hown, hb6⟩ := append_strs_any (HH.out.2.1.below hbw) (by omega) 28;(have hc5 : wr.cell? ⟨w.heap.size + 1, 5, none⟩ = some (.slice A2 n2 c2) := by rw [zA HA0.out.lv, HLA.out]; rfl);have H6 := sq5 hown hb6 hn2 hfew hhave;clear hown hb6 hbw hn2 hfew hhave hlt'
   go_upto_region 23 with (at_builtin; refine zh (by rfl) _ _ 28 (by rfl) (by rfl) (by rfl) hrun ?_; clear hrun)
   clear hc5;obtain ⟨i0, hi, hz0, hz1, hz2⟩ := info_parts str_info3;have HI := sq4 hi hz0 hz1 hz2;clear hi hz0 hz1 hz2
   go_wp2_with (at_builtin; refine wpList_append_own_at _ rfl _ _ 28 rfl wr.heap.size 9 i0 (.string ByteArray.empty) 1 16 Tryz.underlying28 HI.out.1 HI.out.2.1 HI.out.2.2.1 HI.out.2.2.2 rfl (by decide) _ n2 (yq m.l) rfl (H6.out.1.alloc _) ⟨w6.heap.size, 0, none⟩ 1 1 [.string (st b)] rfl rfl (cell_one_new _ _ _) (one_of rfl) (by have h1 := H6.out.2.2.1; have h2 := H6.out.2.2.2.1; have h3 := H6.out.2.2.2.2.1; have h4 := H6.out.2.2.2.2.2.1; unfold maxLen; omega) (by have h1 := H6.out.2.2.1; have h2 := H6.out.2.2.2.1; have h3 := H6.out.2.2.2.2.1; have h4 := H6.out.2.2.2.2.2.1; omega) (by have := H6.out.2.1.size; simp; omega) ?_)
   intro V7 w7 hown7 hgrow _ _;obtain ⟨g7, cap7, hv7, _, _⟩ := hown7.form (by omega);subst hv7;(have hb7 : Below wr.heap.size wr w7 := (H6.out.2.1.alloc H6.out.2.1.size _).grown hgrow (by have := H6.out.2.1.size; simp; omega) fun i hi => (H6.out.1.lt i hi).1);have H7 : Hid (AdE w S DJ (lvA m.from_ m.n m.first m.next m.have_ (.slice A2 n2 c2)) ZD ZV Aj nl cj dj.l (.slice (some ⟨g7, 0, none⟩) (n2 + 1) cap7) (n2 + 1) (yq m.l ++ [.string (st b)]) wr.heap.size w7) := Lib.hid ⟨by rw [← HLA.out]; exact HA0.out.below hb7, HS0.out.below hb7, hown7⟩;have HWR := Lib.hid (show w.heap.size + 3 < wr.heap.size by have := zB HA0.out.rl; omega);clear hown7 hgrow hb7;have hc5 : w7.cell? ⟨w.heap.size + 1, 5, none⟩ = some (.slice A2 n2 c2) := zA H7.out.ad.lv 5;have hf5 := zC H7.out.ad.lv 5
   go_upto_region 24 with fail
   have h8 := H7.out.set (by have := HWR.out; omega) 5 (.slice (some ⟨g7, 0, none⟩) (n2 + 1) cap7);clear hc5 hf5 H7
   (generalize hw8 : w7.setCell ⟨w.heap.size + 1, 5, none⟩ (.slice (some ⟨g7, 0, none⟩) (n2 + 1) cap7) = w8 at *);clear hw8;have H8 : Hid (AdE w S DJ (lvA m.from_ m.n m.first m.next m.have_ (.slice (some ⟨g7, 0, none⟩) (n2 + 1) cap7)) ZD ZV Aj nl cj dj.l (.slice (some ⟨g7, 0, none⟩) (n2 + 1) cap7) (n2 + 1) (yq m.l ++ [.string (st b)]) wr.heap.size w8) := Lib.hid h8;clear h8;have hcov := And.intro H6.out.2.2.2.2.1 (And.intro H6.out.2.2.2.2.2.1 (And.intro H6.out.2.2.2.2.2.2 (And.intro HK.out.2.2.1 (And.intro HK.out.2.2.2.1 (And.intro HK.out.2.2.2.2.1 (And.intro HK.out.2.2.2.2.2.2 HK.out.2.1))))));(have hHw : IntKind.i64.wrap ((m.have_ : Int) + (K : Int)) = ((m.have_ + K : Nat) : Int) := by rw [IntWalk.i64_in _ (by omega)]; omega);have hKw : IntKind.u64.wrap (K : Int) = (K : Int) := IntWalk.u64_in _ (by omega);obtain ⟨NX, hNX⟩ := sqz (m.next + K);(have hNw : IntKind.u64.wrap ((m.next : Int) + (K : Int)) = (NX : Int) := by rw [IntWalk.u64_in _ (by omega), hNX]; omega);obtain ⟨HX, hHX⟩ := sqz (m.have_ + K);rw [← hHX] at hHw;obtain ⟨FX, hFX⟩ := sqz ((if m.have_ = 0 then m.next else m.first));have HXX := sq3 hNX hHX hFX;clear hcov hNX hHX;have hc4 : w8.cell? ⟨w.heap.size + 1, 4, none⟩ = some (.int .i64 (m.have_ : Int)) := zA H8.out.ad.lv 4
   by_cases hq0 : m.have_ = 0
   ·(have hq : ((m.have_ : Int) == 0) = true := by rw [hq0]; rfl);rw [if_pos hq0] at hFX;clear hq0;subst hFX;have hc3 : w8.cell? ⟨w.heap.size + 1, 3, none⟩ = some (.int .u64 (m.next : Int)) := zA H8.out.ad.lv 3;have hc2 : w8.cell? ⟨w.heap.size + 1, 2, none⟩ = some (.int .u64 (m.first : Int)) := zA H8.out.ad.lv 2;have hf2 := zC H8.out.ad.lv 2
    go_upto_region 26 with fail
    have h9 := H8.out.set (by have := HWR.out; omega) 2 (.int .u64 (m.next : Int));clear hc3 hc2 hf2 H8 hc4 hq
    (generalize hw9 : w8.setCell ⟨w.heap.size + 1, 2, none⟩ (.int .u64 (m.next : Int)) = w9 at *);clear hw9;have H9 : Hid (AdE w S DJ (lvA m.from_ m.n m.next m.next m.have_ (.slice (some ⟨g7, 0, none⟩) (n2 + 1) cap7)) ZD ZV Aj nl cj dj.l (.slice (some ⟨g7, 0, none⟩) (n2 + 1) cap7) (n2 + 1) (yq m.l ++ [.string (st b)]) wr.heap.size w9) := Lib.hid h9;clear h9;have hc4 : w9.cell? ⟨w.heap.size + 1, 4, none⟩ = some (.int .i64 (m.have_ : Int)) := zA H9.out.ad.lv 4;have hf4 := zC H9.out.ad.lv 4
    go_upto_region 27 with fail
    have h10 := H9.out.set (by have := HWR.out; omega) 4 (.int .i64 (HX : Int));clear hc4 hf4 H9
    (generalize hw10 : w9.setCell ⟨w.heap.size + 1, 4, none⟩ (.int .i64 (HX : Int)) = w10 at *);clear hw10;have H10 : Hid (AdE w S DJ (lvA m.from_ m.n m.next m.next HX (.slice (some ⟨g7, 0, none⟩) (n2 + 1) cap7)) ZD ZV Aj nl cj dj.l (.slice (some ⟨g7, 0, none⟩) (n2 + 1) cap7) (n2 + 1) (yq m.l ++ [.string (st b)]) wr.heap.size w10) := Lib.hid h10;clear h10;have hc3 : w10.cell? ⟨w.heap.size + 1, 3, none⟩ = some (.int .u64 (m.next : Int)) := zA H10.out.ad.lv 3;have hf3 := zC H10.out.ad.lv 3
    go_upto_region 28 with fail
    have h11 := H10.out.set (by have := HWR.out; omega) 3 (.int .u64 (NX : Int));clear hc3 hf3 H10
    (generalize hw11 : w10.setCell ⟨w.heap.size + 1, 3, none⟩ (.int .u64 (NX : Int)) = w11 at *);clear hw11;have H11 : Hid (AdE w S DJ (lvA m.from_ m.n m.next NX HX (.slice (some ⟨g7, 0, none⟩) (n2 + 1) cap7)) ZD ZV Aj nl cj dj.l (.slice (some ⟨g7, 0, none⟩) (n2 + 1) cap7) (n2 + 1) (yq m.l ++ [.string (st b)]) wr.heap.size w11) := Lib.hid h11;clear h11 hHw hKw hNw;obtain ⟨LF, hLF⟩ := sqz (lmV (addOk m b) (some ⟨g7, 0, none⟩) (n2 + 1) cap7)
    have hLE : lvA m.from_ m.n m.next NX HX (.slice (some ⟨g7, 0, none⟩) (n2 + 1) cap7) = LF := by
     (have hadd : addOk m b = ⟨m.from_, m.n, m.next, NX, HX, m.l ++ [b], 0⟩ := by rw [addOk, ← HK.out.1, ← HXX.out.2.2, ← HXX.out.1, ← HXX.out.2.1]);rw [hLF, hadd];rfl
    have HLF := Lib.hid hLF;have HS11 := sq2 H11.out.st H11.out.own;have HO11 := Lib.hid (show AdW w DJ LF ZD ZV w11 by rw [← hLE]; exact H11.out.ad);clear hLF hLE H11;refine sqpl (fun W => ∃ RD RL, AdW w DJ LF RD RL W) [([0, 1], 2), ([], 3)] [4] ⟨_, _, HO11.out.drew⟩ ?_;have HD := Lib.hid HO11.out.drew;clear HO11;have HSD := sq2 HS11.out.1.drew (own_drew1 HS11.out.2);clear HS11
    (generalize w11.drew = wd at *);refine zR ?_;refine zE (.agg DJ) (by rfl) (by rfl) (fun W hW => yU 3 hW.choose_spec.choose_spec.dv Tryz.underlying30 (by rw [HDJ.out]; exact zI)) ?_
    try simp only [Act.put, sqp]
    refine zE (.agg LF) (by rfl) (by rfl) (fun W hW => yU 4 hW.choose_spec.choose_spec.lv Tryz.underlying39 (by rw [HLF.out]; exact zL)) ?_
    try simp only [Act.put, sqp]
    refine zH ?_;refine yO 6 119 DJ HD.out.rd (by rw [HDJ.out]; exact zI) (by rw [HV.out.2.1, HDJ.out]; rfl) (by rw [HDJ.out]; exact zt _ _ _ _) ?_;have HSE := sq2 (HSD.out.1.turned (zO (w := wd) (g := w.heap.size + 2) DJ) fun k _ h1 h2 => by rcases h1 with h1 | h1 <;> omega) (own_row_ne (p := w.heap.size + 2) HSD.out.2 (by have := HWR.out; omega) DJ);clear HSD;have HE := Lib.hid (HD.out.setRD DJ);clear HD
    (generalize wd.setRow (w.heap.size + 2) DJ = we at *);refine ⟨fun W => ∃ RD RL, AdW w DJ LF RD RL W, ⟨_, _, HE.out⟩, fun _ h => h, ?_⟩
    try simp only [Act.put]
    refine zR ?_;refine zH ?_;refine yO 7 120 LF HE.out.rl (by rw [HLF.out]; exact zL) (by rw [HV.out.1, HLF.out]; rfl) (by rw [HLF.out]; exact zw _ _ _ _) ?_;have HSF := sq2 (HSE.out.1.turned (zO (w := we) (g := w.heap.size + 3) LF) fun k _ h1 h2 => by rcases h1 with h1 | h1 <;> omega) (own_row_ne (p := w.heap.size + 3) HSE.out.2 (by have := HWR.out; omega) LF);clear HSE;have HF := Lib.hid (HE.out.setRL LF);clear HE
    (generalize we.setRow (w.heap.size + 3) LF = wf at *);refine ⟨fun W => W = wf, rfl, fun W (e : W = wf) => ⟨DJ, LF, e ▸ HF.out⟩, ?_⟩;refine zZ ?_
    try simp only [Act.put]
    repeat (refine zb (by rfl) (fun K hK => ?_); go_simp; refine hK _ ?_; clear hK K)
    refine zH ?_
    go_wp2_with fail
    (try simp only [Exit.inBlock, Exit.then])
    refine bodyPost_ret (xK (p := 6) (q := 7) (u := 8) rfl _ HF.out rfl rfl (by rw [HDJ.out]; rfl) (by rw [HLF.out]; rfl)) rfl ?_
    exact (show yw w S nl r _ _ from by
     rw [HRES.out];obtain ⟨A8, c8, hv8, hst8⟩ := own_strs (l := m.l ++ [b]) (by rw [yq, List.map_append]; exact HSF.out.2);(injection hv8 with e1 e2 e3);subst e1 e3;refine ⟨Aj, cj, _, n2 + 1, _, by rw [HDJ.out, HLF.out]; rfl, HSF.out.1.mono fun k _ hk => by rcases hk with hk | hk; exact .inl hk.1; exact .inr (by omega), ?_, HF.out.bel⟩;exact hst8.mono fun k _ hk => .inr (by have := HWR.out; omega))
   ·(have hq : ((m.have_ : Int) == 0) = false := by simpa using hq0);rw [if_neg hq0] at hFX;clear hq0;subst hFX
    go_upto_region 26 with fail
    clear hc4 hq;have H9 : Hid (AdE w S DJ (lvA m.from_ m.n m.first m.next m.have_ (.slice (some ⟨g7, 0, none⟩) (n2 + 1) cap7)) ZD ZV Aj nl cj dj.l (.slice (some ⟨g7, 0, none⟩) (n2 + 1) cap7) (n2 + 1) (yq m.l ++ [.string (st b)]) wr.heap.size w8) := H8;clear H8;have hc4 : w8.cell? ⟨w.heap.size + 1, 4, none⟩ = some (.int .i64 (m.have_ : Int)) := zA H9.out.ad.lv 4;have hf4 := zC H9.out.ad.lv 4
    go_upto_region 27 with fail
    have h10 := H9.out.set (by have := HWR.out; omega) 4 (.int .i64 (HX : Int));clear hc4 hf4 H9
    (generalize hw10 : w8.setCell ⟨w.heap.size + 1, 4, none⟩ (.int .i64 (HX : Int)) = w10 at *);clear hw10;have H10 : Hid (AdE w S DJ (lvA m.from_ m.n m.first m.next HX (.slice (some ⟨g7, 0, none⟩) (n2 + 1) cap7)) ZD ZV Aj nl cj dj.l (.slice (some ⟨g7, 0, none⟩) (n2 + 1) cap7) (n2 + 1) (yq m.l ++ [.string (st b)]) wr.heap.size w10) := Lib.hid h10;clear h10;have hc3 : w10.cell? ⟨w.heap.size + 1, 3, none⟩ = some (.int .u64 (m.next : Int)) := zA H10.out.ad.lv 3;have hf3 := zC H10.out.ad.lv 3
    go_upto_region 28 with fail
    have h11 := H10.out.set (by have := HWR.out; omega) 3 (.int .u64 (NX : Int));clear hc3 hf3 H10
    (generalize hw11 : w10.setCell ⟨w.heap.size + 1, 3, none⟩ (.int .u64 (NX : Int)) = w11 at *);clear hw11;have H11 : Hid (AdE w S DJ (lvA m.from_ m.n m.first NX HX (.slice (some ⟨g7, 0, none⟩) (n2 + 1) cap7)) ZD ZV Aj nl cj dj.l (.slice (some ⟨g7, 0, none⟩) (n2 + 1) cap7) (n2 + 1) (yq m.l ++ [.string (st b)]) wr.heap.size w11) := Lib.hid h11;clear h11 hHw hKw hNw;obtain ⟨LF, hLF⟩ := sqz (lmV (addOk m b) (some ⟨g7, 0, none⟩) (n2 + 1) cap7)
    have hLE : lvA m.from_ m.n m.first NX HX (.slice (some ⟨g7, 0, none⟩) (n2 + 1) cap7) = LF := by
     (have hadd : addOk m b = ⟨m.from_, m.n, m.first, NX, HX, m.l ++ [b], 0⟩ := by rw [addOk, ← HK.out.1, ← HXX.out.2.2, ← HXX.out.1, ← HXX.out.2.1]);rw [hLF, hadd];rfl
    have HLF := Lib.hid hLF;have HS11 := sq2 H11.out.st H11.out.own;have HO11 := Lib.hid (show AdW w DJ LF ZD ZV w11 by rw [← hLE]; exact H11.out.ad);clear hLF hLE H11;refine sqpl (fun W => ∃ RD RL, AdW w DJ LF RD RL W) [([0, 1], 2), ([], 3)] [4] ⟨_, _, HO11.out.drew⟩ ?_;have HD := Lib.hid HO11.out.drew;clear HO11;have HSD := sq2 HS11.out.1.drew (own_drew1 HS11.out.2);clear HS11
    (generalize w11.drew = wd at *);refine zR ?_;refine zE (.agg DJ) (by rfl) (by rfl) (fun W hW => yU 3 hW.choose_spec.choose_spec.dv Tryz.underlying30 (by rw [HDJ.out]; exact zI)) ?_
    try simp only [Act.put, sqp]
    refine zE (.agg LF) (by rfl) (by rfl) (fun W hW => yU 4 hW.choose_spec.choose_spec.lv Tryz.underlying39 (by rw [HLF.out]; exact zL)) ?_
    try simp only [Act.put, sqp]
    refine zH ?_;refine yO 6 119 DJ HD.out.rd (by rw [HDJ.out]; exact zI) (by rw [HV.out.2.1, HDJ.out]; rfl) (by rw [HDJ.out]; exact zt _ _ _ _) ?_;have HSE := sq2 (HSD.out.1.turned (zO (w := wd) (g := w.heap.size + 2) DJ) fun k _ h1 h2 => by rcases h1 with h1 | h1 <;> omega) (own_row_ne (p := w.heap.size + 2) HSD.out.2 (by have := HWR.out; omega) DJ);clear HSD;have HE := Lib.hid (HD.out.setRD DJ);clear HD
    (generalize wd.setRow (w.heap.size + 2) DJ = we at *);refine ⟨fun W => ∃ RD RL, AdW w DJ LF RD RL W, ⟨_, _, HE.out⟩, fun _ h => h, ?_⟩
    try simp only [Act.put]
    refine zR ?_;refine zH ?_;refine yO 7 120 LF HE.out.rl (by rw [HLF.out]; exact zL) (by rw [HV.out.1, HLF.out]; rfl) (by rw [HLF.out]; exact zw _ _ _ _) ?_;have HSF := sq2 (HSE.out.1.turned (zO (w := we) (g := w.heap.size + 3) LF) fun k _ h1 h2 => by rcases h1 with h1 | h1 <;> omega) (own_row_ne (p := w.heap.size + 3) HSE.out.2 (by have := HWR.out; omega) LF);clear HSE;have HF := Lib.hid (HE.out.setRL LF);clear HE
    (generalize we.setRow (w.heap.size + 3) LF = wf at *);refine ⟨fun W => W = wf, rfl, fun W (e : W = wf) => ⟨DJ, LF, e ▸ HF.out⟩, ?_⟩;refine zZ ?_
    try simp only [Act.put]
    repeat (refine zb (by rfl) (fun K hK => ?_); go_simp; refine hK _ ?_; clear hK K)
    refine zH ?_
    go_wp2_with fail
    (try simp only [Exit.inBlock, Exit.then])
    refine bodyPost_ret (xK (p := 6) (q := 7) (u := 8) rfl _ HF.out rfl rfl (by rw [HDJ.out]; rfl) (by rw [HLF.out]; rfl)) rfl ?_
    exact (show yw w S nl r _ _ from by
     rw [HRES.out];obtain ⟨A8, c8, hv8, hst8⟩ := own_strs (l := m.l ++ [b]) (by rw [yq, List.map_append]; exact HSF.out.2);(injection hv8 with e1 e2 e3);subst e1 e3;refine ⟨Aj, cj, _, n2 + 1, _, by rw [HDJ.out, HLF.out]; rfl, HSF.out.1.mono fun k _ hk => by rcases hk with hk | hk; exact .inl hk.1; exact .inr (by omega), ?_, HF.out.bel⟩;exact hst8.mono fun k _ hk => .inr (by have := HWR.out; omega))
end Go.Proofs.YtmioifcbkhpdaaaGreat
/-! The reference: Add, of any log and any record. -/
namespace Go.Proofs.YtmioifcbkhpdaaaGreat
open Go.RowKit
theorem rwadd_any {w : World} {S : Nat → Prop} {A A2 : Option Addr} {nl c n2 c2 : Nat} {d : DM} {m : LM} (h : Strs w S A nl c d.l) (h2 : Strs w S A2 n2 c2 m.l) (b : List UInt8) (ok : d.Ok) (hn : nl ≤ 1000000) (hb : b.length ≤ 1000000) (lok : m.Ok) :
    Calls Tryz.prog 41 #[.agg (dmV d A nl c), .agg (lmV m A2 n2 c2), .string (st b)] w fun e w' => yw w S nl (yJ d m b) e w' := by
 by_cases he : m.e = 0
 ·by_cases hs : m.n - (m.have_ : Int) < (zP b.length : Int)
  ·exact rwadd_s h h2 b hb lok he hs
  ·by_cases hx : m.next = 0
   ·exact rwadd_n h h2 b hb lok he hs hx
   ·by_cases hy : 18446744073709551615 - m.next < zP b.length
    ·exact rwadd_w h h2 b hb lok he hs hx hy
    ·exact rwadd_run h h2 b ok hn hb lok he hs hx hy
 ·exact rwadd_e h h2 b he
end Go.Proofs.YtmioifcbkhpdaaaGreat
