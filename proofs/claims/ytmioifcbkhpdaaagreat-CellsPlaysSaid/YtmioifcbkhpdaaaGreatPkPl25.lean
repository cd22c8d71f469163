/-
  The law CellsPlays: what stands in memory, the code's side and the reference's.
-/
import Derived.Test.YtmioifcbkhpdaaaGreatPkPl03
import Derived.Test.YtmioifcbkhpdaaaGreatPkPl01
import Derived.Test.YtmioifcbkhpdaaaGreatPkPl23
import Derived.Test.YtmioifcbkhpdaaaGreatPkPl24
import Derived.Test.YtmioifcbkhpdaaaGreatRows
import Derived.ProofKit
import Derived.OpenShut
import Derived.ShutString
import Derived.ChangeOld
import Derived.Deep.Strs
import Derived.Test.YtmioifcbkhpdaaaGreatPkPl07
namespace Go.Proofs.YtmioifcbkhpdaaaGreat
set_option maxHeartbeats 16000000
set_option maxRecDepth 100000
open Go.RowKit Codec
def sumC (l : List Ch) : Nat := (l.map fun x => x.k.length + x.v.length).sum
def RSm10 (w : World) (n : Nat) (l : List Ch) (z i : Value) (wr : World) : Prop :=
 ∃ (j : Nat) (s : Int), j ≤ n ∧ i = .int .i64 (j : Int) ∧ z = .int .i64 s ∧ (n ≤ 8 → (∀ x ∈ l, zq x = true) → s = (sumC (l.take j) : Int) ∧ s ≤ 5000 * j) ∧ Below w.heap.size w wr
def SmP (w : World) (n : Nat) (l : List Ch) (e : Ending) (w' : World) : Prop := ∃ B, e = .returned (.bool B) ∧ (B = true → n ≤ 8 ∧ ((∀ x ∈ l, zq x = true) → sumC l ≤ 600)) ∧ Below w.heap.size w w'
theorem small_any {w : World} {S : Nat → Prop} {A : Option Addr} {n c : Nat} {l : List Ch} (h : Chs w S A n c l) :
    Calls Tryz.prog 9 #[.slice A n c] w fun e w' => SmP w n l e w' := by
 have hmx := h.max;have HS := sq3 h h.len (show n ≤ maxLen from Nat.le_trans h.cap hmx);clear h hmx
 go_enter Tryz.func9, Tryz.ntmps9
 go_wp2_with fail
 go_loopw [3, 4] (fun z i wr => RSm10 w n l z i wr) (fun _ i _ => n - (intOf i).toNat)
 case atStart => exact ⟨0, 0, Nat.zero_le _, rfl, rfl, fun _ _ => by simp [sumC], Below.refl _ _⟩
 case round =>
  obtain ⟨j, s, hj, rfl, rfl, hs, hbel⟩ := hrel
  by_cases hlt : j < n
  ·(have hlt' : (j : Int) < (n : Int) := by omega);have hadd1 := IntWalk.i64_in ((j : Int) + 1) (by have h1 := HS.out.2.2; unfold maxLen at h1; omega);obtain ⟨b, off, x, Ax, nx, cx, rfl, _, hb, hx, hcs, hy⟩ := HS.out.1.at_ hlt;have hnx := hy.len;(have hcell : ∀ o u, (chV Ax nx cx x)[o]? = some u → w.cell? ⟨b, off + j * 3 + o, none⟩ = some u := fun o u hu => by have := hcs o u hu; rwa [zK] at this);have HC : Hid (b < wr.drew.heap.size ∧ wr.drew.cell? ⟨b, off + j * 3, none⟩ = some (.string (st x.k)) ∧ wr.drew.cell? ⟨b, off + j * 3 + 1, none⟩ = some (.slice Ax nx cx)) := Lib.hid ⟨Nat.lt_of_lt_of_le hb hbel.size, (hbel.cell (p := ⟨_, _, none⟩) hb).trans (hcell 0 _ rfl), (hbel.cell (p := ⟨_, _, none⟩) hb).trans (hcell 1 _ rfl)⟩;(obtain ⟨S1, hS1⟩ : ∃ S1, S1 = IntKind.i64.wrap ((x.k.length : Int) + (nx : Int)) := ⟨_, rfl⟩);obtain ⟨S2, hS2⟩ := sqz (IntKind.i64.wrap (s + S1));have HX := sq5 hx hlt hnx hS1 hS2;have HR := sq2 hs hbel;have HK := sq3 (zN x.k) hS1.symm hS2.symm;clear hs hbel hb hx hcs hy hcell hj hlt hnx hS1 hS2
   go_upto_region 5 with fail
   refine sqg [sqv (.int .i64 s), sqv (.slice (some ⟨b, off, none⟩) n c), sqv (.int .i64 (j : Int)), sqv (.pointer (some ⟨b, off + j * 3, none⟩)), sqv (.pointer (some ⟨b, off + j * 3, none⟩)), sqv (.string (st x.k)), sqv (.int .i64 (x.k.length : Int)), sqv (.slice (some ⟨b, off, none⟩) n c), sqv (.int .i64 (j : Int)), sqv (.pointer (some ⟨b, off + j * 3, none⟩)), sqv (.pointer (some ⟨b, off + j * 3 + 1, none⟩)), sqv (.slice Ax nx cx), sqv (.int .i64 (nx : Int)), sqv (.int .i64 S1), sqv (.int .i64 S2), sqv (.int .i64 S2)] 33 ?gmono ?gsteps ?gfin
   case gmono => (iterate 16 refine ⟨sqm, ?_⟩); trivial
   case gsteps =>
    show Grow.allBelow _ 16
    iterate 16 refine And.intro ?_ ?_
    exact trivial
    ·exact squ 3
    ·exact squ 0
    ·exact squ 4
    ·refine sqi ?_;intro E W ec eg ef hG hd hu R HR1;have e12 := sqe (hd 1 12);have e13 := sqe (hd 2 13);clear hd hu;have hjl := HX.out.2.1;go_simp
     first | exact sqh HR1 | (rw [if_pos ⟨by omega, by omega⟩]; exact sqh HR1)
    ·refine sqi ?_;intro E W ec eg ef hG hd hu R HR1;have e14 := sqe (hd 3 14);clear hd hu;go_simp;exact sqh HR1
    ·refine sqi ?_;intro E W ec eg ef hG hd hu R HR1;have e15 := sqe (hd 4 15);clear hd hu;have hcl := (hG.cell (p := ⟨b, off + j * 3, none⟩) HC.out.1).trans HC.out.2.1;go_simp;exact sqh HR1
    ·refine sqi ?_;intro E W ec eg ef hG hd hu R HR1;have e16 := sqe (hd 5 16);clear hd hu;have hsz := HK.out.1;go_simp;exact sqh HR1
    ·exact squ 0
    ·exact squ 4
    ·refine sqi ?_;intro E W ec eg ef hG hd hu R HR1;have e18 := sqe (hd 7 18);have e19 := sqe (hd 8 19);clear hd hu;have hjl := HX.out.2.1;go_simp
     first | exact sqh HR1 | (rw [if_pos ⟨by omega, by omega⟩]; exact sqh HR1)
    ·refine sqi ?_;intro E W ec eg ef hG hd hu R HR1;have e20 := sqe (hd 9 20);clear hd hu;go_simp;exact sqh HR1
    ·refine sqi ?_;intro E W ec eg ef hG hd hu R HR1;have e21 := sqe (hd 10 21);clear hd hu;have hcl := (hG.cell (p := ⟨b, off + j * 3 + 1, none⟩) HC.out.1).trans HC.out.2.2;go_simp;exact sqh HR1
    ·refine sqi ?_;intro E W ec eg ef hG hd hu R HR1;have e22 := sqe (hd 11 22);clear hd hu;go_simp;exact sqh HR1
    ·refine sqi ?_;intro E W ec eg ef hG hd hu R HR1;have e17 := sqe (hd 6 17);have e23 := sqe (hd 12 23);clear hd hu;have hs1 := HK.out.2.1;go_simp;exact sqh HR1
    ·refine sqi ?_;intro E W ec eg ef hG hd hu R HR1;have e11 := sqe (hd 0 11);have e24 := sqe (hd 13 24);clear hd hu;have hs2 := HK.out.2.2;go_simp;exact sqh HR1
    ·exact sqd 14 25
   case gfin =>
    intro W hG
    iterate 16 (refine Grow.fin_dst (by rfl) ?_; rintro _ rfl)
    simp only [Act.put, sqp];refine Grow.fin_end ?_;have HW := Lib.hid (Grow.below_of_drew hG);clear hG
    go_wp2_with fail
    go_roundw
    case rel =>
     unfold RSm10;refine ⟨j + 1, S2, by have := HX.out.2.1; omega, by simp, rfl, fun h8 hm => ?_, HR.out.2.trans (HW.out.mono HR.out.2.size)⟩;obtain ⟨h1, h2⟩ := HR.out.1 h8 hm;have hx := HX.out;have hmx := hm x (List.mem_of_getElem? hx.1);unfold zq at hmx;simp only [Bool.and_eq_true, decide_eq_true_eq] at hmx
     have hv : x.v.length ≤ 4096 := by
      have := hmx.2
      split at this <;> omega
     (have e1 : S1 = (x.k.length : Int) + (nx : Int) := by rw [hx.2.2.2.1]; exact IntWalk.i64_in _ (by omega));have hj8 := hx.2.1;(have e2 : S2 = s + S1 := by rw [hx.2.2.2.2]; exact IntWalk.i64_in _ (by rw [e1]; omega))
     have e3 : sumC (l.take (j + 1)) = sumC (l.take j) + (x.k.length + x.v.length) := by
      unfold sumC;rw [List.take_add_one, hx.1];simp
     rw [e2, e1, e3];omega
    case measure => simp only [intOf]; have h1 := HX.out.2.1; omega
  ·(have hlt' : ¬ (j : Int) < (n : Int) := by omega);(have hjn : j = n := by omega);have HR := sq3 hs hbel hjn;clear hs hbel hj hlt hjn
   by_cases h8 : n ≤ 8
   ·have h8' : (n : Int) ≤ 8 := by omega
    by_cases h6 : s ≤ 600
    ·have H6 := sq2 h8 h6;clear h8
     go_wp2_with fail
     go_ret
     refine ⟨true, rfl, fun _ => ⟨H6.out.1, fun hm => ?_⟩, HR.out.2.1⟩;have h1 := (HR.out.1 H6.out.1 hm).1;rw [HR.out.2.2, List.take_of_length_le (by have := HS.out.2.1; omega)] at h1;have := H6.out.2;omega
    ·clear h8
     go_wp2_with fail
     go_ret
     exact ⟨false, rfl, fun h => (by cases h), HR.out.2.1⟩
   ·(have h8' : ¬ (n : Int) ≤ 8 := by omega);clear h8
    go_wp2_with fail
    go_ret
    exact ⟨false, rfl, fun h => (by cases h), HR.out.2.1⟩
structure RlS (s M : SM) : Prop where
 t : M.t = s.t
 n : M.turns = s.turns
 e : M.e = s.e
 eq : s.e = 0 → M = s
theorem writeM_ne31 (d : DM) (i : Int) (b : List UInt8) : (zm d i b).2 ≠ 31 := by
 unfold zm
 repeat' split
 all_goals simp
theorem addGo_ne31 {a : Int} {x : Nat} {b : List UInt8} {n : Nat} : ∀ (k i : Nat) (d : DM), (yF a x b n k i d).2 ≠ 31
 | 0, _, _ => by simp [yF]
 | k + 1, i, d => by
   unfold yF
   split
   ·exact addGo_ne31 k _ _
   ·exact writeM_ne31 _ _ _
theorem addM_31 {d : DM} {m : LM} {b : List UInt8} (h : (yJ d m b).2.2 = 31) : (yJ d m b).2.1 = m := by
 unfold yJ at h ⊢
 split
 ·rfl
 ·rename_i h1
  rw [if_neg h1] at h
  split
  ·rfl
  ·rename_i h2
   rw [if_neg h2] at h
   split
   ·rfl
   ·rename_i h3
    rw [if_neg h3] at h;simp only at h ⊢
    split at h
    ·simp at h
    ·exact absurd h (addGo_ne31 _ _ _)
theorem turnC_no {d : DM} {s : SM} {l : List Ch} (h : (yy d s l).2.2 ≠ 0) : (yy d s l).2.1 = s := by
 unfold yy at h ⊢
 split
 ·rfl
 ·rename_i h1
  rw [if_neg h1] at h
  split at h
  ·simp at h
  ·rename_i h2
   rw [if_neg h2]
theorem writeC_no {d : DM} {s : SM} {l : List Ch} (h : (zJ d s l).2.2 ≠ 0) : (zJ d s l).2.1.t = s.t ∧ (zJ d s l).2.1.turns = s.turns ∧ ((zJ d s l).2.2 = 31 → (zJ d s l).2.1 = s) := by
 unfold zJ at h ⊢
 split
 ·refine ⟨rfl, rfl, fun h3 => ?_⟩;simp only at h3 ⊢;rw [addM_31 h3]
 ·rename_i h1
  rw [if_neg h1] at h;rw [turnC_no h];exact ⟨rfl, rfl, fun _ => rfl⟩
structure InvP (d : DM) (s M : SM) (X : Nat) : Prop where
 len : d.l.length ≤ 24
 one : 1 ≤ hn d
 ss : SInv s X
 ms : SInv M X
 sn : s.log.n = (hn d : Int)
 mn : M.log.n = (hn d : Int)
 rl : RlS s M
theorem SInv.more {s : SM} {X Y : Nat} (h : SInv s X) (hY : X ≤ Y) : SInv s Y := ⟨h.ok, h.fst, h.srt, by have := h.wt; omega, by have := h.tn; omega⟩
theorem SInv.err {s : SM} {X : Nat} (h : SInv s X) (e : Int) : SInv { s with e := e } X := ⟨⟨h.ok.log, h.ok.half, h.ok.turns⟩, h.fst, h.srt, h.wt, h.tn⟩
theorem hn_eq {d d' : DM} (h : d'.l.length = d.l.length) : hn d' = hn d := by unfold hn; rw [h]
theorem InvP.disk {d d' : DM} {s M : SM} {X : Nat} (h : InvP d s M X) (hl : d'.l.length = d.l.length) : InvP d' s M (X + 1) := by
 have e := hn_eq hl;exact ⟨by rw [hl]; exact h.len, by rw [e]; exact h.one, h.ss.more (by omega), h.ms.more (by omega), by rw [e]; exact h.sn, by rw [e]; exact h.mn, h.rl⟩
theorem InvP.open_ {d : DM} (hl : d.l.length ≤ 24) (h : (zY d).2 = 0) (X : Nat) : InvP d (zY d).1 (zY d).1 X := by
 obtain ⟨a, b, _⟩ := openC_inv hl h;have := openC_n h;exact ⟨hl, b, a.more (by omega), a.more (by omega), this, this, ⟨rfl, rfl, rfl, fun _ => rfl⟩⟩
theorem InvP.apply {d : DM} {s M : SM} {X : Nat} (h : InvP d s M X) (hX : X ≤ 500) {l : List Ch} (hw : (∀ x ∈ l, zq x = true) → wtC l ≤ 768) :
    (zc d M l).1 = (zg d s l).1 ∧ (zc d M l).2.2 = (zg d s l).2.2 ∧ InvP (zg d s l).1 (zg d s l).2.1 (zc d M l).2.1 (X + 1) := by
 by_cases he : s.e = 0
 ·obtain rfl := (h.rl.eq he).symm
  by_cases hm : yu s l ≠ 0 ∨ l = []
  ·(have e1 : zc d s l = (d, s, yu s l) := by unfold zc; rw [if_pos hm]);(have e2 : zg d s l = (d, s, yu s l) := by unfold zg; rw [if_pos hm]);rw [e1, e2];exact ⟨rfl, rfl, h.disk rfl⟩
  ·have hmay : ∀ x ∈ l, zq x = true := by
     (have h1 : yu s l = 0 := Classical.byContradiction fun h1 => hm (.inl h1));unfold yu at h1;rw [if_neg (by simp [he])] at h1
     split at h1
     ·rename_i h2; exact List.all_eq_true.1 h2
     ·simp at h1
   have hi := applyC_inv h.one h.len h.ss (by omega) (hw hmay);have hlen := applyC_len d s l;have hen := hn_eq hlen;have hsn : (zg d s l).2.1.log.n = (hn (zg d s l).1 : Int) := by rw [hen]; exact applyC_n h.sn
   by_cases hz : (zJ d s l).2.2 = 0
   ·(have e1 : zc d s l = zg d s l := by unfold zc zg; rw [if_neg hm, if_neg hm, if_pos hz, if_pos hz]);rw [e1];exact ⟨rfl, rfl, by rw [hlen]; exact h.len, by rw [hen]; exact h.one, hi, hi, hsn, hsn, ⟨rfl, rfl, rfl, fun _ => rfl⟩⟩
   ·obtain ⟨w1, w2, w3⟩ := writeC_no hz;(have e1 : zc d s l = ((zJ d s l).1, (if (zJ d s l).2.2 = 31 then s else { s with e := (zJ d s l).2.2 }), (zJ d s l).2.2) := by unfold zc; rw [if_neg hm, if_neg hz]);(have e2 : zg d s l = ((zJ d s l).1, (if (zJ d s l).2.2 = 31 then (zJ d s l).2.1 else { (zJ d s l).2.1 with e := (zJ d s l).2.2 }), (zJ d s l).2.2) := by unfold zg; rw [if_neg hm, if_neg hz]);rw [e2] at hi hlen hen hsn;rw [e1, e2];simp only at hi hlen hen hsn ⊢;refine ⟨trivial, trivial, by rw [hlen]; exact h.len, by rw [hen]; exact h.one, hi, ?_, hsn, ?_, ?_⟩
    ·split
     ·exact h.ss.more (by omega)
     ·exact (h.ss.err _).more (by omega)
    ·split
     ·rw [hen]; exact h.sn
     ·rw [hen]; exact h.sn
    ·by_cases h31 : (zJ d s l).2.2 = 31
     ·rw [if_pos h31, if_pos h31, w3 h31];exact ⟨rfl, rfl, rfl, fun _ => rfl⟩
     ·rw [if_neg h31, if_neg h31];exact ⟨w1.symm, w2.symm, rfl, fun h0 => absurd h0 hz⟩
 ·have hM : M.e ≠ 0 := by rw [h.rl.e]; exact he
  have r1 : yu s l = s.e := by unfold yu; rw [if_pos he]
  have r2 : yu M l = s.e := by unfold yu; rw [if_pos hM, h.rl.e]
  have e1 : zc d M l = (d, M, s.e) := by unfold zc; rw [if_pos (.inl (by rw [r2]; exact he)), r2]
  have e2 : zg d s l = (d, s, s.e) := by unfold zg; rw [if_pos (.inl (by rw [r1]; exact he)), r1]
  rw [e1, e2];exact ⟨rfl, rfl, h.disk rfl⟩
open Go.ChangeShapes Go.WideShapes Go.ChangeAt
theorem own_knob : ownKnob Tryz.prog.godebug = none := by kernel_rfl
theorem laid_out : laidOutB Tryz.prog = true := by kernel_rfl
theorem u8_bounds {z : Int} (h : (Lit.int .u8 z).wf = true) : 0 ≤ z ∧ z < 256 := by
 have := bounds_u8 h;omega
theorem byt_of_ints {w : World} {x : Addr} {len cap : Nat} {zs : List Int} (hl : len ≤ cap) (hm : cap ≤ maxLen) (hz : zs.length = cap) (hcell : ∀ i, i < zs.length → w.cell? (x.add i) = some (.int .u8 (zs.getD i 0)))
    (hwz : ∀ n ∈ zs, (Lit.int .u8 n).wf = true) : Byt w (fun _ => True) (some x) len cap ((zs.take len).map fun z => UInt8.ofNat z.toNat) := by
 refine ⟨by simp; omega, hl, hm, fun h0 => ?_⟩;obtain ⟨b, off, spot⟩ := x;have hc0 := hcell 0 (by omega);have hspot : spot = none := by simpa [Addr.add] using World.cell?_spot hc0
 subst hspot;have hlt := World.block_lt_of_cell? _ _ hc0;rw [zK] at hlt;refine ⟨b, off, rfl, trivial, hlt, fun i hi => ?_⟩;have hc := hcell i (by omega);rw [zK] at hc;rw [hc];have hi2 : i < zs.length := by omega
 have hb := u8_bounds (hwz zs[i] (List.getElem_mem hi2));simp only [List.getD, List.getElem?_eq_getElem hi2, Option.getD_some, List.getElem?_map, List.getElem?_take_of_lt hi, Option.map_some]
 congr 2
 simp;omega
theorem bytes_in {w : World} {H : Type} {enc : TypeId × Value → H} {base : Nat} {spare : Nat → Bool} {held : Bool} {a : Option Addr} {len cap : Nat} {d : DataW H} {p : List MemPlace}
    (hs : spare = fun _ => true) (h : DataW.Trod enc Tryz.prog w base spare held 54 (.slice a len cap) d p) : ∃ l, Byt w (fun _ => True) a len cap l := by
 subst hs;obtain ⟨fuel, hf⟩ := h;rcases open_ints Tryz.underlying54 Tryz.underlying5 (by kernel_rfl) hf with ⟨hcs, _⟩ | ⟨x, l, c, zs, hcs, _, hl, hm, hz, _, hcell, hwz⟩
 ·simp [Value.cells] at hcs;obtain ⟨rfl, rfl, rfl⟩ := hcs;exact ⟨[], Byt.nil _ _ _ _ (Nat.zero_le _)⟩
 ·simp [Value.cells] at hcs;obtain ⟨rfl, rfl, rfl⟩ := hcs;exact ⟨_, byt_of_ints hl hm (by simpa using hz) hcell hwz⟩
theorem trod_lt {w : World} {H : Type} {enc : TypeId × Value → H} {base : Nat} {spare : Nat → Bool} {held : Bool} {t : TypeId} {v : Value} {d : DataW H} {p : List MemPlace}
    (h : DataW.Trod enc Tryz.prog w base spare held t v d p) : ∀ x ∈ p, x.block < w.heap.size := by
 obtain ⟨m, hm⟩ := h;exact DataW.trod_lt m _ _ _ hm
open Go.Deep
set_option maxRecDepth 100000
theorem trod_bool {H : Type} {enc : TypeId × Value → H} {P : Program} {w : World} {base : Nat} {spare : Nat → Bool} {held : Bool} {t : TypeId} {fuel : Nat} {cs : List Value} {x : DataW H × List MemPlace} (ht : P.underlying t = some .bool) (h : DataW.trod enc P w base spare held fuel t cs = some x) : ∃ b : Bool, cs = [.bool b] := by
 cases fuel with
 | zero => simp [DataW.trod] at h
 | succ n =>
   unfold DataW.trod at h;rw [ht] at h
   split at h <;> simp_all
theorem chg_cells {w : World} {H : Type} {enc : TypeId × Value → H} {base : Nat} {held : Bool} {cs : List Value} {fuel : Nat} {x : DataW H × List MemPlace} (hl : cs.length = 3) (h : DataW.trod enc Tryz.prog w base (fun _ => true) held fuel 64 cs = some x) :
    ∃ (A : Option Addr) (n c : Nat) (q : Ch), cs = (chV A n c q).toList ∧ Byt w (· < w.heap.size) A n c q.v ∧ q.k.length ≤ maxLen := by
 have h3 : Tryz.prog.cellsOf 9 = 1 := by kernel_rfl
 have h8 : Tryz.prog.cellsOf 54 = 1 := by kernel_rfl
 have h1 : Tryz.prog.cellsOf 4 = 1 := by kernel_rfl
 obtain ⟨y0, y1, y2, n', _, _, t0, t1, t2⟩ := trod_struct3 Tryz.underlying64 h
 match cs, hl with
 | [v0, v1, v2], _ =>
   simp only [h3, h8, h1] at t0 t1 t2;obtain ⟨s, e0, _, hs⟩ := DataW.trod_string Tryz.underlying9 t0;obtain ⟨b, e2⟩ := trod_bool Tryz.underlying4 t2;simp at e0 e2;subst e0 e2;have t1' : DataW.trod enc Tryz.prog w base (fun _ => true) held n' 54 [v1] = some y1 := t1
   have hv : ∃ A k c', v1 = .slice A k c' := by
    rcases open_ints Tryz.underlying54 Tryz.underlying5 (by kernel_rfl) t1' with ⟨e, _⟩ | ⟨_, _, _, _, e, _⟩ <;> simp at e <;> exact ⟨_, _, _, e⟩
   obtain ⟨A, k, c', rfl⟩ := hv;obtain ⟨bb, hb2⟩ := bytes_in (enc := enc) (base := base) (held := held) (d := y1.1) (p := y1.2) rfl ⟨n', t1'⟩;refine ⟨A, k, c', ⟨s.data.toList, bb, b⟩, ?_, hb2.mono fun b hb _ => hb, ?_⟩
   ·have hs2 : st s.data.toList = s := by
      show (⟨s.data.toList.toArray⟩ : ByteArray) = s;rw [Array.toArray_toList]
    rw [show (chV A k c' ⟨s.data.toList, bb, b⟩).toList = [.string (st s.data.toList), .slice A k c', .bool b] from rfl, hs2]
   ·show s.data.toList.length ≤ maxLen;rw [Array.length_toList];exact hs
theorem chgs_in {w : World} {H : Type} {enc : TypeId × Value → H} {base : Nat} {spare : Nat → Bool} {held : Bool} {a : Option Addr} {len cap : Nat} {d : DataW H} {p : List MemPlace}
    (hs : spare = fun _ => true) (h : DataW.Trod enc Tryz.prog w base spare held 44 (.slice a len cap) d p) : ∃ l, Chs w (· < w.heap.size) a len cap l := by
 subst hs;obtain ⟨fuel, hf⟩ := h;rcases open_slice Tryz.underlying44 hf with ⟨hcs, _⟩ | ⟨x, l, c, m, n, D, Pl, hcs, _, hl, hm, hmm, _, hi⟩
 ·simp [Value.cells] at hcs;obtain ⟨rfl, rfl, rfl⟩ := hcs;exact ⟨[], Chs.nil _ _ _ _ (Nat.zero_le _)⟩
 ·simp [Value.cells] at hcs;obtain ⟨rfl, rfl, rfl⟩ := hcs;have hce : Tryz.prog.cellsOf 64 = 3 := by kernel_rfl
  rw [hce] at hi;simp only [if_true] at hmm
  have one : ∀ i, ∃ q : (Option Addr × Nat × Nat) × Ch, i < len → (∀ (j : Nat) (v : Value), (chV q.1.1 q.1.2.1 q.1.2.2 q.2)[j]? = some v → w.cell? ((x.add (i * 3)).add j) = some v) ∧ Byt w (· < w.heap.size) q.1.1 q.1.2.1 q.1.2.2 q.2.v := fun i => by
   by_cases him : i < len
   ·obtain ⟨cs', hc, ht⟩ := hi i (by omega);obtain ⟨_, hcl, hat⟩ := World.cells?_some hc;obtain ⟨A, k, c', q, rfl, hb, _⟩ := chg_cells hcl ht;refine ⟨((A, k, c'), q), fun _ => ⟨fun j v hv => ?_, hb⟩⟩
    have hj : j < 3 := by
     have := (Array.getElem?_eq_some_iff.1 hv).1
     simpa [chV] using this
    have h5 := hat j hj;rw [h5]
    simpa using hv
   ·exact ⟨((none, 0, 0), ⟨[], [], false⟩), fun h => absurd h him⟩
  obtain ⟨f, hf⟩ := Classical.skolem.1 one;refine ⟨(List.range len).map fun i => (f i).2, by simp, hl, hm, fun h0 => ?_⟩;obtain ⟨b, off, spot⟩ := x;have hc0 := (hf 0 h0).1 0 _ rfl;have hspot : spot = none := by simpa [Addr.add] using World.cell?_spot hc0
  subst hspot;have hlt := World.block_lt_of_cell? _ _ hc0;rw [zK, zK] at hlt;refine ⟨b, off, rfl, hlt, hlt, fun i q hq => ?_⟩
  have hil : i < len := by
   have := (List.getElem?_eq_some_iff.1 hq).1; simpa using this
  obtain rfl : (f i).2 = q := by simpa [hil] using hq
  refine ⟨_, _, _, fun j v hv => ?_, (hf i hil).2⟩;have := (hf i hil).1 j v hv
  rwa [zK, zK] at this
structure CAct where
 kd : Int
 A : Option Addr
 n : Nat
 c : Nat
 l : List Ch
 ii : Int
 nn : Int
 torn : Int
def cactV (q : CAct) : Array Value := #[.int .i64 q.kd, .slice q.A q.n q.c, .int .i64 q.ii, .int .i64 q.nn, .int .i64 q.torn]
theorem cact_info : (Tryz.prog.info? 46).map (·.size) = some 5 := by kernel_rfl
theorem zero_cact : ∀ W, (zeroValue 46).run Tryz.prog W = .ok (.agg #[.int .i64 0, .slice none 0 0, .int .i64 0, .int .i64 0, .int .i64 0]) W := fun W => by kernel_rfl
theorem cact_one (a : CAct) : (cactV a).all (·.oneCell') = true := by simp [cactV, Value.oneCell']
structure CActs (w : World) (A : Option Addr) (n c : Nat) (l : List CAct) : Prop where
 len : l.length = n
 cap : n ≤ c
 max : c ≤ maxLen
 row : 0 < n → ∃ b off, A = some ⟨b, off, none⟩ ∧ b < w.heap.size ∧ ∀ i q, l[i]? = some q → ∀ (j : Nat) (v : Value), (cactV q)[j]? = some v → w.cell? ⟨b, off + i * 5 + j, none⟩ = some v
 each : ∀ q ∈ l, Chs w (· < w.heap.size) q.A q.n q.c q.l ∧ (-9223372036854775808 ≤ q.nn ∧ q.nn ≤ 9223372036854775807)
theorem cel_bounds_i64 {z : Int} (h : (Lit.int .i64 z).wf = true) : -9223372036854775808 ≤ z ∧ z ≤ 9223372036854775807 := by
 have h : (decide (-9223372036854775808 ≤ z) && decide (z ≤ 9223372036854775807)) = true := h
 simpa using h
theorem cel_struct5 {H : Type} {enc : TypeId × Value → H} {P : Program} {w : World} {base : Nat} {spare : Nat → Bool} {held : Bool} {t : TypeId} {f0 f1 f2 f3 f4 : Field} {fuel : Nat} {cs : List Value} {x : DataW H × List MemPlace} (ht : P.underlying t = some (.struct #[f0, f1, f2, f3, f4])) (h : DataW.trod enc P w base spare held fuel t cs = some x) :
    ∃ y0 y1 y2 y3 y4 n, DataW.trod enc P w base spare held n f0.type ((cs.drop f0.offset).take (P.cellsOf f0.type)) = some y0 ∧ DataW.trod enc P w base spare held n f1.type ((cs.drop f1.offset).take (P.cellsOf f1.type)) = some y1 ∧ DataW.trod enc P w base spare held n f2.type ((cs.drop f2.offset).take (P.cellsOf f2.type)) = some y2 ∧
      DataW.trod enc P w base spare held n f3.type ((cs.drop f3.offset).take (P.cellsOf f3.type)) = some y3 ∧ DataW.trod enc P w base spare held n f4.type ((cs.drop f4.offset).take (P.cellsOf f4.type)) = some y4 := by
 obtain ⟨xs, n, _, rfl, _, hlen, hf⟩ := DataW.trod_struct ht h
 match xs, hlen with
 | [y0, y1, y2, y3, y4], _ => exact ⟨y0, y1, y2, y3, y4, n, by simpa using hf 0 f0 rfl, by simpa using hf 1 f1 rfl, by simpa using hf 2 f2 rfl, by simpa using hf 3 f3 rfl, by simpa using hf 4 f4 rfl⟩
theorem cel_acts_in {w : World} {H : Type} {enc : TypeId × Value → H} {base : Nat} {spare : Nat → Bool} {held : Bool} {a : Option Addr} {len cap : Nat} {d : DataW H} {p : List MemPlace}
    (hs : spare = fun _ => true) (h : DataW.Trod enc Tryz.prog w base spare held 22 (.slice a len cap) d p) : ∃ l, CActs w a len cap l := by
 subst hs;obtain ⟨fuel, hf⟩ := h;rcases open_slice Tryz.underlying22 hf with ⟨hcs, _⟩ | ⟨x, l, c, m, n, D, Pl, hcs, _, hl, hm, hmm, _, hi⟩
 ·simp [Value.cells] at hcs;obtain ⟨rfl, rfl, rfl⟩ := hcs;exact ⟨[], rfl, Nat.zero_le _, Nat.zero_le _, fun h => absurd h (by omega), by simp⟩
 ·simp [Value.cells] at hcs;obtain ⟨rfl, rfl, rfl⟩ := hcs;have hce : Tryz.prog.cellsOf 46 = 5 := by kernel_rfl
  have h3 : Tryz.prog.cellsOf 3 = 1 := by kernel_rfl
  have h8 : Tryz.prog.cellsOf 44 = 1 := by kernel_rfl
  rw [hce] at hi;simp only [if_true] at hmm
  have one : ∀ i, ∃ q : CAct, i < len → (∀ (j : Nat) (v : Value), (cactV q)[j]? = some v → w.cell? ((x.add (i * 5)).add j) = some v) ∧ Chs w (· < w.heap.size) q.A q.n q.c q.l ∧ (-9223372036854775808 ≤ q.nn ∧ q.nn ≤ 9223372036854775807) := fun i => by
   by_cases him : i < len
   ·obtain ⟨cs', hc, ht⟩ := hi i (by omega);obtain ⟨_, hcl, hat⟩ := World.cells?_some hc;obtain ⟨y0, y1, y2, y3, y4, n', t0, t1, t2, t3, t4⟩ := cel_struct5 Tryz.underlying46 ht
    match cs', hcl with
    | [v0, v1, v2, v3, v4], _ =>
      simp only [h3, h8] at t0 t1 t2 t3 t4;obtain ⟨z0, e0, _, _⟩ := DataW.trod_int Tryz.underlying3 t0;obtain ⟨z2, e2, _, _⟩ := DataW.trod_int Tryz.underlying3 t2;obtain ⟨z3, e3, _, w3⟩ := DataW.trod_int Tryz.underlying3 t3;obtain ⟨z4, e4, _, _⟩ := DataW.trod_int Tryz.underlying3 t4;simp at e0 e2 e3 e4 t1;subst e0 e2 e3 e4
      have hv : ∃ A k c', v1 = .slice A k c' := by
       rcases open_slice Tryz.underlying44 t1 with ⟨e, _⟩ | ⟨_, _, _, _, _, _, _, e, _⟩ <;> simp at e <;> exact ⟨_, _, _, e⟩
      obtain ⟨A, k, c', rfl⟩ := hv;obtain ⟨bb, hb2⟩ := chgs_in (w := w) (enc := enc) (base := base) (held := held) rfl ⟨_, t1⟩;refine ⟨⟨z0, A, k, c', bb, z2, z3, z4⟩, fun _ => ⟨fun j v hv => ?_, hb2, cel_bounds_i64 w3⟩⟩
      match j, hv with
      | 0, hv => injection hv with hv; subst hv; exact hat 0 (by omega)
      | 1, hv => injection hv with hv; subst hv; exact hat 1 (by omega)
      | 2, hv => injection hv with hv; subst hv; exact hat 2 (by omega)
      | 3, hv => injection hv with hv; subst hv; exact hat 3 (by omega)
      | 4, hv => injection hv with hv; subst hv; exact hat 4 (by omega)
      | j + 5, hv => simp [cactV] at hv
   ·exact ⟨⟨0, none, 0, 0, [], 0, 0, 0⟩, fun h => absurd h him⟩
  obtain ⟨f, hf⟩ := Classical.skolem.1 one;refine ⟨(List.range len).map f, by simp, hl, hm, fun h0 => ?_, fun q hq => ?_⟩
  ·obtain ⟨b, off, spot⟩ := x;have hc0 := (hf 0 h0).1 0 _ rfl;(have hspot : spot = none := by simpa [Addr.add] using World.cell?_spot hc0);subst hspot;have hlt := World.block_lt_of_cell? _ _ hc0;rw [zK, zK] at hlt;refine ⟨b, off, rfl, hlt, fun i q hq j v hv => ?_⟩
   have hil : i < len := by
    have := (List.getElem?_eq_some_iff.1 hq).1; simpa using this
   (obtain rfl : f i = q := by simpa [hil] using hq);have := (hf i hil).1 j v hv
   rwa [zK, zK] at this
  ·obtain ⟨i, hi', rfl⟩ := List.mem_map.1 hq;exact (hf i (by simpa using hi')).2
def RLk (w0 : World) (A : Option Addr) (n c : Nat) (d : DM) (i : Value) (wr : World) : Prop :=
 ∃ i' : Nat, i' ≤ n ∧ i = .int .i64 (i' : Int) ∧ Below w0.heap.size w0 wr ∧ wr.heap[w0.heap.size]? = some (.cells (dmV d A n c) 30 (0, 0))
theorem like_any {w : World} {S T : Nat → Prop} {g : Nat} {d : DM} (h : Dk w S g d) {A : Option Addr} {n c : Nat} (hs : Strs w T A n c d.l) :
    Calls Tryz.prog 19 #[.pointer (some ⟨g, 0, none⟩), .agg (dmV d A n c)] w fun e w' => e = .returned (.bool true) ∧ Below w.heap.size w w' := by
 have hb0 : Below w.heap.size w (w.alloc (.cells (dmV d A n c) 30)) := (Below.refl _ _).alloc (Nat.le_refl _) _;have hx0 := heap_alloc_new w (.cells (dmV d A n c) 30);have hln := hs.len;have H := sq4 h hs hb0 hx0;have HFW := Lib.hid h.few;clear h hs hb0 hx0;obtain ⟨l, left, torn, down⟩ := d;simp only at hln
 have HC1 : Hid (∀ W, Below (w.alloc (.cells (dmV ⟨l, left, torn, down⟩ A n c) 30)).drew.heap.size (w.alloc (.cells (dmV ⟨l, left, torn, down⟩ A n c) 30)).drew W → W.cell? ⟨w.heap.size, 0, none⟩ = some (.slice A n c) ∧ W.cell? ⟨w.heap.size, 3, none⟩ = some (.bool down) ∧ Dk W S g ⟨l, left, torn, down⟩) := Lib.hid fun W hW => by
  have hW2 := Grow.below_of_drew hW;have hx := (hW2.block _ (zB H.out.2.2.2)).trans H.out.2.2.2;exact ⟨zA hx 0, zA hx 3, H.out.1.below (H.out.2.2.1.trans (hW2.mono H.out.2.2.1.size))⟩
 have HLN := Lib.hid hln;clear hln
 go_enter Tryz.func19, Tryz.ntmps19
 unfold dmV at *
 go_wp2_with fail
 refine sqg [sqv (.pointer (some ⟨g, 0, none⟩)), sqv (.int .i64 (n : Int)), sqv (.pointer (some ⟨w.heap.size, 0, none⟩)), sqv (.slice A n c), sqv (.int .i64 (n : Int)), sqv (.bool false), sqv (.bool false), sqv (.pointer (some ⟨g, 0, none⟩)), sqv (.bool down), sqv (.pointer (some ⟨w.heap.size, 3, none⟩)), sqv (.bool down), sqv (.bool false), sqv (.bool false)] 51 ?gmono ?gsteps ?gfin
 case gmono => (iterate 13 refine ⟨sqm, ?_⟩); trivial
 case gsteps =>
  show Grow.allBelow _ 13
  iterate 13 refine And.intro ?_ ?_
  exact trivial
  ·exact squ 0
  ·refine sqi ?_;intro E W ec eg ef hG hd hu R HR1;have e8 := sqe (hd 0 8);clear hd hu;obtain ⟨k1, k2, k3⟩ := HC1.out W hG;go_simp;refine (blen_any k3).mono ?_;rintro _ _ ⟨rfl, rfl⟩;exact ⟨_, rfl, HR1.out _ _ (Below.refl _ _) (show Value.int .i64 (l.length : Int) = _ by rw [HLN.out])⟩
  ·refine sqi ?_;intro E W ec eg ef hG hd hu R HR1;have e3 : E (.tmp 3) = .pointer (some ⟨w.heap.size, 0, none⟩) := hu 3;clear hd hu;go_simp;exact sqh HR1
  ·refine sqi ?_;intro E W ec eg ef hG hd hu R HR1;have e10 := sqe (hd 2 10);clear hd hu;obtain ⟨k1, k2, k3⟩ := HC1.out W hG;go_simp;exact sqh HR1
  ·refine sqi ?_;intro E W ec eg ef hG hd hu R HR1;have e11 := sqe (hd 3 11);clear hd hu;go_simp;exact sqh HR1
  ·refine sqi ?_;intro E W ec eg ef hG hd hu R HR1;have e9 := sqe (hd 1 9);have e12 := sqe (hd 4 12);clear hd hu;go_simp;exact sqh HR1
  ·exact sqd 5 13
  ·exact yX 6 14 false 0
  ·refine sqn 6 14 ?_;intro E W ec eg ef hG hd hu R HR1;have e15 := sqe (hd 7 15);clear hd hu;obtain ⟨k1, k2, k3⟩ := HC1.out W hG;go_simp;refine (bdown_any k3).mono ?_;rintro _ _ ⟨rfl, rfl⟩;exact ⟨_, rfl, HR1.out _ _ (Below.refl _ _) rfl⟩
  ·refine sqn 6 14 ?_;intro E W ec eg ef hG hd hu R HR1;have e3 : E (.tmp 3) = .pointer (some ⟨w.heap.size, 0, none⟩) := hu 3;clear hd hu;go_simp;exact sqh HR1
  ·refine sqn 6 14 ?_;intro E W ec eg ef hG hd hu R HR1;have e17 := sqe (hd 9 17);clear hd hu;obtain ⟨k1, k2, k3⟩ := HC1.out W hG;go_simp;exact sqh HR1
  ·refine sqn 6 14 ?_;intro E W ec eg ef hG hd hu R HR1;have e16 := sqe (hd 8 16);have e18 := sqe (hd 10 18);clear hd hu;go_simp;exact sqh HR1
  ·refine sqi ?_;intro E W ec eg ef hG hd hu R HR1;have e14 := sqe (hd 6 14);have e19 := sqe (hd 11 19);clear hd hu;go_simp;exact sqh HR1
 case gfin =>
  intro W hG
  iterate 13 (refine Grow.fin_dst (by rfl) ?_; rintro _ rfl)
  simp only [Act.put, sqp];refine Grow.fin_end ?_;have hbw := H.out.2.2.1.trans ((Grow.below_of_drew hG).mono H.out.2.2.1.size);have hxw := ((Grow.below_of_drew hG).block _ (zB H.out.2.2.2)).trans H.out.2.2.2;have H1 := sq2 hbw hxw;clear hbw hxw hG HC1
  go_wp2_with fail
  go_loopw [5] (fun i wr => RLk w A n c ⟨l, left, torn, down⟩ i wr) (fun i _ => n - (intOf i).toNat)
  case atStart => exact ⟨0, Nat.zero_le _, rfl, H1.out.1, H1.out.2⟩
  case round =>
   obtain ⟨i', hi', rfl, hbr, hxr⟩ := hrel;unfold dmV at *;have hc0 : wr.cell? ⟨w.heap.size, 0, none⟩ = some (.slice A n c) := zA hxr 0;have hc3 : wr.cell? ⟨w.heap.size, 3, none⟩ = some (.bool down) := zA hxr 3;have HR := sq3 hbr hxr hi';clear hbr hxr hi'
   by_cases hlt : i' < n
   ·have hlt' : (i' : Int) < (n : Int) := by omega
    cases down with
    | true =>
      go_wp2_with fail
      go_ret
      exact ⟨rfl, HR.out.1⟩
    | false =>
      have hrd := bread_any (H.out.1.below HR.out.1) (i' : Int);(have hrm : zz ⟨l, left, torn, false⟩ (i' : Int) = (l[i']?.getD [], 0) := by simp [zz, HLN.out, hlt]);rw [hrm] at hrd;have hadd := IntWalk.i64_in ((i' : Int) + 1) (by have h1 := HFW.out; have h2 := HLN.out; omega);obtain ⟨q, o, rfl, _, _, hst⟩ := (H.out.2.1.below HR.out.1).row (by omega);have hsc := hst i' hlt;have HSC := Lib.hid hsc;clear hst hrm hsc
      go_upto_region 7 with (go_at_call 47; refine hrd.mono ?_; clear hrd; rintro _ w2 ⟨A2, n2, c2, rfl, hy, hb2, _⟩)
      have HC : Hid (∀ W, Below w2.drew.heap.size w2.drew W → W.cell? ⟨w.heap.size, 0, none⟩ = some (.slice (some ⟨q, o, none⟩) n c) ∧ W.cell? ⟨q, o + i', none⟩ = some (.string (st (l[i']?.getD []))) ∧ (convert 54 9 (.slice A2 n2 c2)).run Tryz.prog W = .ok (.string (st (l[i']?.getD []))) W) := Lib.hid fun W hW => by
       have hW2 : Below wr.heap.size wr W := hb2.trans ((Grow.below_of_drew hW).mono hb2.size);have hx := (hW2.block _ (zB HR.out.2.1)).trans HR.out.2.1;exact ⟨zA hx 0, (hW2.cell (p := ⟨_, _, none⟩) (World.block_lt_of_cell? _ _ HSC.out)).trans HSC.out, yM (hy.below (Grow.below_of_drew hW))⟩
      have H2 : Hid (Below w.heap.size w w2 ∧ w2.heap[w.heap.size]? = some (.cells #[.slice (some ⟨q, o, none⟩) n c, .int .i64 left, .int .i64 torn, .bool false] 30 (0, 0))) := Lib.hid ⟨HR.out.1.trans (hb2.mono HR.out.1.size), (hb2.block _ (zB HR.out.2.1)).trans HR.out.2.1⟩;clear hy hb2 hc0 hc3
      (generalize l[i']?.getD [] = PC at HC);refine sqg [sqv (.int .i64 0), sqv (.bool false), sqv (.bool false), sqv (.slice A2 n2 c2), sqv (.string (st PC)), sqv (.pointer (some ⟨w.heap.size, 0, none⟩)), sqv (.slice (some ⟨q, o, none⟩) n c), sqv (.int .i64 (i' : Int)), sqv (.pointer (some ⟨q, o + i', none⟩)), sqv (.string (st PC)), sqv (.bool false), sqv (.bool false)] 51 ?gmono ?gsteps ?gfin
      case gmono => (iterate 12 refine ⟨sqm, ?_⟩); trivial
      case gsteps =>
       show Grow.allBelow _ 12
       iterate 12 refine And.intro ?_ ?_
       exact trivial
       ·exact squ 7
       ·refine sqi ?_;intro E W ec eg ef hG hd hu R HR1;have e39 := sqe (hd 0 39);clear hd hu;go_simp;exact sqh HR1
       ·exact sqd 1 40
       ·exact yX 2 41 false 6
       ·refine sqn 2 41 ?_;intro E W ec eg ef hG hd hu R HR1;have e42 := sqe (hd 3 42);clear hd hu;obtain ⟨k1, k2, k3⟩ := HC.out W hG;go_simp;exact sqh HR1
       ·refine sqn 2 41 ?_;intro E W ec eg ef hG hd hu R HR1;have e3 : E (.tmp 3) = .pointer (some ⟨w.heap.size, 0, none⟩) := hu 3;clear hd hu;go_simp;exact sqh HR1
       ·refine sqn 2 41 ?_;intro E W ec eg ef hG hd hu R HR1;have e44 := sqe (hd 5 44);clear hd hu;obtain ⟨k1, k2, k3⟩ := HC.out W hG;go_simp;exact sqh HR1
       ·exact yX 2 41 false 5
       ·refine sqn 2 41 ?_;intro E W ec eg ef hG hd hu R HR1;have e45 := sqe (hd 6 45);have e46 := sqe (hd 7 46);clear hd hu;go_simp
        first | exact sqh HR1 | (rw [if_pos ⟨by omega, by omega⟩]; exact sqh HR1) | (rw [if_pos (by omega)]; exact sqh HR1)
       ·refine sqn 2 41 ?_;intro E W ec eg ef hG hd hu R HR1;have e47 := sqe (hd 8 47);clear hd hu;obtain ⟨k1, k2, k3⟩ := HC.out W hG;go_simp;exact sqh HR1
       ·refine sqn 2 41 ?_;intro E W ec eg ef hG hd hu R HR1;have e43 := sqe (hd 4 43);have e48 := sqe (hd 9 48);clear hd hu;go_simp;exact sqh HR1
       ·refine sqi ?_;intro E W ec eg ef hG hd hu R HR1;have e41 := sqe (hd 2 41);have e49 := sqe (hd 10 49);clear hd hu;go_simp;exact sqh HR1
      case gfin =>
       intro W hG
       iterate 12 (refine Grow.fin_dst (by rfl) ?_; rintro _ rfl)
       simp only [Act.put, sqp];refine Grow.fin_end ?_;have HB3 := Lib.hid (Grow.below_of_drew hG);clear hG
       go_wp2_with fail
       go_roundw
       case rel => unfold RLk; exact ⟨i' + 1, by omega, by simp, H2.out.1.trans (HB3.out.mono H2.out.1.size), (HB3.out.block _ (zB H2.out.2)).trans H2.out.2⟩
       case measure => simp only [intOf]; omega
   ·have hlt' : ¬ (i' : Int) < (n : Int) := by omega
    go_wp2_with fail
    go_ret
    exact ⟨rfl, HR.out.1⟩
theorem Dsk.tn {w0 W W' : World} {m g : Nat} {d : DM} {T : Nat → Prop} (h : Dsk w0 m W g d) (ht : Turned T W W') (hT : ∀ k, T k → m ≤ k) : Dsk w0 m W' g d := by
 have hle := h.le;exact ⟨h.dk.turned ht fun k _ h1 h2 => by have := hT k h2; omega, h.bel.trans ((ht.mono fun k _ hk => by have := hT k hk; omega : Turned (fun k => w0.heap.size ≤ k) W W').below h.bel.size), Nat.le_trans h.top ht.size⟩
structure PM (m : Nat) (W : World) (pw pm : Nat) (d : DM) (M : SM) (R : Nat → Prop) : Prop where
 rb : ∀ k, R k → m ≤ k ∧ k < W.heap.size
 bw : R pw
 bm : R pm
 ne : pw ≠ pm
 box : ∃ A n c, W.heap[pw]? = some (.cells (dmV d A n c) 30 (0, 0)) ∧ Strs W (fun k => R k ∧ k ≠ pw ∧ k ≠ pm) A n c d.l
 mox : ∃ At nt ct A n c, W.heap[pm]? = some (.cells (smV M At nt ct A n c) 41 (0, 0)) ∧ Cms W (fun k => R k ∧ k ≠ pw ∧ k ≠ pm) At nt ct (tb2 M.t) ∧ Strs W (fun k => R k ∧ k ≠ pw ∧ k ≠ pm) A n c M.log.l
def moreR (W W' : World) (R : Nat → Prop) (k : Nat) : Prop := R k ∨ (W.heap.size ≤ k ∧ k < W'.heap.size)
def poV (po : Option Nat) : Value := match po with | none => .pointer none | some p => .pointer (some ⟨p, 0, none⟩)
structure PK (w0 : World) (m : Nat) (W : World) (g : Nat) (d : DM) (po : Option Nat) (s : SM) (R : Nat → Prop) : Prop where
 dsk : Dsk w0 m W g d
 st : ∀ p, po = some p → Cs W (fun k => m ≤ k ∧ ¬ R k) p g s
section
variable {w0 W W' : World} {m g pw pm p : Nat} {d d' : DM} {po : Option Nat} {s s' M M' : SM} {R R' : Nat → Prop}
theorem PM.turned {T : Nat → Prop} (h : PM m W pw pm d M R) (ht : Turned T W W') (hT : ∀ k, T k → ¬ R k) : PM m W' pw pm d M R := by
 obtain ⟨A, n, c, h1, h2⟩ := h.box;obtain ⟨At, nt, ct, A', n', c', h3, h4, h5⟩ := h.mox
 exact ⟨fun k hk => ⟨(h.rb k hk).1, Nat.lt_of_lt_of_le (h.rb k hk).2 ht.size⟩, h.bw, h.bm, h.ne,
  ⟨A, n, c, (ht.block _ (zB h1) fun hk => hT _ hk h.bw).trans h1, h2.turned ht fun k _ hk h5 => hT k h5 hk.1⟩, ⟨At, nt, ct, A', n', c', (ht.block _ (zB h3) fun hk => hT _ hk h.bm).trans h3, h4.turned ht fun k _ hk h5 => hT k h5 hk.1, h5.turned ht fun k _ hk h5 => hT k h5 hk.1⟩⟩
theorem PM.below (h : PM m W pw pm d M R) (hb : Below W.heap.size W W') : PM m W' pw pm d M R := h.turned (T := fun _ => False) (Turned.of_below hb) fun _ h => h.elim
theorem PM.wide (h : PM m W pw pm d M R) (hR : ∀ k, R k → R' k) (hb : ∀ k, R' k → m ≤ k ∧ k < W.heap.size) : PM m W pw pm d M R' := by
 obtain ⟨A, n, c, h1, h2⟩ := h.box;obtain ⟨At, nt, ct, A', n', c', h3, h4, h5⟩ := h.mox;exact ⟨hb, hR _ h.bw, hR _ h.bm, h.ne, ⟨A, n, c, h1, h2.mono fun k _ hk => ⟨hR k hk.1, hk.2⟩⟩, ⟨At, nt, ct, A', n', c', h3, h4.mono fun k _ hk => ⟨hR k hk.1, hk.2⟩, h5.mono fun k _ hk => ⟨hR k hk.1, hk.2⟩⟩⟩
theorem PM.more (h : PM m W pw pm d M R) (hb : Below W.heap.size W W') (hm : m ≤ W.heap.size) : PM m W' pw pm d M (moreR W W' R) :=
 (h.below hb).wide (fun _ hk => .inl hk) fun k hk => by
   rcases hk with hk | hk
   ·exact (h.below hb).rb k hk
   ·omega
theorem PM.disk (h : PM m W pw pm d M R) {A : Option Addr} {n c : Nat} (hs : Strs W (fun k => R k ∧ k ≠ pw ∧ k ≠ pm) A n c d'.l) : PM m (W.setRow pw (dmV d' A n c)) pw pm d' M R := by
 obtain ⟨A1, n1, c1, h1, _⟩ := h.box;obtain ⟨At, nt, ct, A2, n2, c2, h3, h4, h5⟩ := h.mox;have ht := zO (w := W) (g := pw) (dmV d' A n c)
 exact ⟨fun k hk => by have := h.rb k hk; simpa [World.setRow] using this, h.bw, h.bm, h.ne, ⟨A, n, c, zF h1, hs.turned ht fun k _ hk h5 => hk.2.1 h5⟩,
  ⟨At, nt, ct, A2, n2, c2, (zM _ _ _ _ h.ne.symm).trans h3, h4.turned ht fun k _ hk h5 => hk.2.1 h5, h5.turned ht fun k _ hk h5 => hk.2.1 h5⟩⟩
theorem PM.store (h : PM m W pw pm d M R) {At A : Option Addr} {nt ct n c : Nat} (ht : Cms W (fun k => R k ∧ k ≠ pw ∧ k ≠ pm) At nt ct (tb2 M'.t)) (hs : Strs W (fun k => R k ∧ k ≠ pw ∧ k ≠ pm) A n c M'.log.l) : PM m (W.setRow pm (smV M' At nt ct A n c)) pw pm d M' R := by
 obtain ⟨A1, n1, c1, h1, h2⟩ := h.box;obtain ⟨_, _, _, _, _, _, h3, _⟩ := h.mox;have hu := zO (w := W) (g := pm) (smV M' At nt ct A n c)
 exact ⟨fun k hk => by have := h.rb k hk; simpa [World.setRow] using this, h.bw, h.bm, h.ne, ⟨A1, n1, c1, (zM _ _ _ _ h.ne).trans h1, h2.turned hu fun k _ hk h5 => hk.2.2 h5⟩,
  ⟨At, nt, ct, A, n, c, zF h3, ht.turned hu fun k _ hk h5 => hk.2.2 h5, hs.turned hu fun k _ hk h5 => hk.2.2 h5⟩⟩
theorem PM.two (h : PM m W pw pm d M R) {A At A2 : Option Addr} {n c nt ct n2 c2 : Nat} (hs : Strs W (fun k => R k ∧ k ≠ pw ∧ k ≠ pm) A n c d'.l) (ht : Cms W (fun k => R k ∧ k ≠ pw ∧ k ≠ pm) At nt ct (tb2 M'.t)) (hs2 : Strs W (fun k => R k ∧ k ≠ pw ∧ k ≠ pm) A2 n2 c2 M'.log.l) : PM m ((W.setRow pw (dmV d' A n c)).setRow pm (smV M' At nt ct A2 n2 c2)) pw pm d' M' R :=
 (h.disk hs).store (ht.turned (zO (w := W) (g := pw) _) fun _ _ hk h5 => hk.2.1 h5) (hs2.turned (zO (w := W) (g := pw) _) fun _ _ hk h5 => hk.2.1 h5)
theorem PK.below (h : PK w0 m W g d po s R) (hb : Below W.heap.size W W') : PK w0 m W' g d po s R := ⟨h.dsk.below hb, fun p hp => (h.st p hp).below hb⟩
theorem PK.more (h : PK w0 m W g d po s R) (hb : Below W.heap.size W W') : PK w0 m W' g d po s (moreR W W' R) :=
 ⟨h.dsk.below hb, fun p hp => ((h.st p hp).mono (T := fun k => m ≤ k ∧ ¬ moreR W W' R k) fun k hk h1 => ⟨h1.1, fun h2 => by
   rcases h2 with h2 | h2
   ·exact h1.2 h2
   ·omega⟩).below hb⟩
theorem PK.turned {T : Nat → Prop} (h : PK w0 m W g d po s R) (ht : Turned T W W') (hT : ∀ k, T k → m ≤ k ∧ R k) : PK w0 m W' g d po s R :=
 ⟨h.dsk.tn ht fun k hk => (hT k hk).1, fun q hq => (h.st q hq).turned ht fun k _ h1 h2 => h1.2 (hT k h2).2⟩
theorem PK.row (h : PK w0 m W g d po s R) {p : Nat} (hp : R p) (hm : m ≤ p) (cs : Array Value) : PK w0 m (W.setRow p cs) g d po s R :=
 h.turned (zO (w := W) (g := p) cs) fun k hk => by rw [show k = p from hk]; exact ⟨hm, hp⟩
theorem PK.disk (h : PK w0 m W g d po s R) (hd : Dsk w0 m W' g d') (ht : Turned (· < m) W W') : PK w0 m W' g d' po s R :=
 ⟨hd, fun p hp => (h.st p hp).turned ht fun k _ h1 h2 => by omega⟩
theorem PK.open_ (hd : Dsk w0 m W g d) (hR : ∀ k, R k → m ≤ k ∧ k < W.heap.size) :
    Calls Tryz.prog 7 #[.pointer (some ⟨g, 0, none⟩)] W fun e w' => ∃ po, e = .returned (.tuple #[poV po, .int .i64 (zY d).2]) ∧ ((zY d).2 = 0 ↔ po.isSome = true) ∧ PK w0 m w' g d po (zY d).1 R ∧ Below W.heap.size W w' := by
 refine (copen_any hd.dk).mono ?_;rintro e w' ⟨h1, h2⟩;have ht := hd.top
 by_cases hz : (zY d).2 = 0
 ·rw [if_pos hz] at h1;obtain ⟨p, rfl, h3⟩ := h1;refine ⟨some p, by rw [hz]; rfl, by simp [hz], ⟨hd.below h2, fun q hq => ?_⟩, h2⟩;injection hq with hq
  subst hq;exact h3.mono fun k _ hk => ⟨by omega, fun h => by have := (hR k h).2; omega⟩
 ·rw [if_neg hz] at h1;exact ⟨none, h1, by simp [hz], ⟨hd.below h2, fun q hq => by cases hq⟩, h2⟩
theorem PK.apply (h : PK w0 m W g d (some p) s R) (hR : ∀ k, R k → m ≤ k ∧ k < W.heap.size) {X : Nat} (hi : InvP d s M X) (hX : X ≤ 24) {A : Option Addr} {n c : Nat} {l : List Ch} (hl : Chs W (· < w0.heap.size) A n c l) (hn8 : n ≤ 8) (hw : (∀ x ∈ l, zq x = true) → wtC l ≤ 768) :
    Calls Tryz.prog 10 #[.pointer (some ⟨p, 0, none⟩), .slice A n c] W fun e w' => e = .returned (.int .i64 (zg d s l).2.2) ∧ PK w0 m w' g (zg d s l).1 (some p) (zg d s l).2.1 R ∧ Turned (fun k => (w0.heap.size ≤ k ∧ k < m) ∨ (m ≤ k ∧ ¬ R k)) W w' := by
 have hle := h.dsk.le;have htop := h.dsk.top
 by_cases hm : ∀ x ∈ l, zq x = true
 ·have hwt := hi.ss.wt;have hwl := hw hm;refine (capply_any (h.st p rfl) h.dsk.dk (fun k _ h1 h2 => by omega) hi.ss.ok hi.one hl (fun k _ hk => ⟨fun h1 => by omega, fun h1 => by omega⟩) (by omega)).mono ?_;rintro _ w' ⟨rfl, h2, h3, h4⟩;refine ⟨rfl, ⟨⟨h2, h.dsk.bel.trans ((h4.mono fun k _ hk => ?_).below h.dsk.bel.size), Nat.le_trans htop h4.size⟩, fun q hq => ?_⟩, h4⟩
  ·rcases hk with hk | hk
   ·exact hk.1
   ·omega
  ·(injection hq with hq);subst hq;refine h3.mono fun k _ hk => ?_
   rcases hk with hk | hk
   ·exact hk
   ·exact ⟨by omega, fun h5 => by have := (hR k h5).2; omega⟩
 ·have hr : yu s l ≠ 0 := by
    unfold yu
    split
    ·assumption
    ·rw [if_neg (fun h => hm (List.all_eq_true.1 h))]
     decide
  have e2 : zg d s l = (d, s, yu s l) := by unfold zg; rw [if_pos (.inl hr)]
  rw [e2];refine (capply_no (h.st p rfl) hl (by omega) hr).mono ?_;rintro _ w' ⟨rfl, hb⟩;exact ⟨rfl, h.below hb, Turned.of_below hb⟩
theorem cpl_has {S U : Nat → Prop} {X : Nat} (hc : Cs W S p g s) (hi : InvP d s M X) (hX : X ≤ 30) {A : Option Addr} {n c : Nat} (hm : Cms W U A n c (tb2 M.t)) :
    Calls Tryz.prog 20 #[.pointer (some ⟨p, 0, none⟩), .slice A n c] W fun e w' => e = .returned (.bool true) ∧ Below W.heap.size W w' := by
 have hw := hi.ss.wt;have ht := hi.rl.t;rw [ht] at hm
 have h1 := has_any hc hm (by
  have h1 := hm.len;have h2 := wtT_len s.t;have h3 : (tb2 s.t).length = s.t.length := by simp [tb2]
  omega) (by have := wtT_len s.t; omega) (fun x hx => by
  unfold tb2 at hx;obtain ⟨y, hy, rfl⟩ := List.mem_map.1 hx;have := wtT_mem hy;show y.1.length ≤ 1000000;omega) (fun q hq => by have := wtT_mem hq; omega)
 have e : tabOf (tb2 s.t) = s.t := by
  unfold tabOf tb2;rw [List.map_map];exact List.map_id s.t
 rw [e, decide_eq_true rfl] at h1;exact h1
theorem cpl_u8 (x : Int) : ∃ y : UInt8, IntKind.u8.wrap x = (y.toNat : Int) := by
 refine ⟨UInt8.ofNat (x % 256).toNat, ?_⟩;rw [show (UInt8.ofNat (x % 256).toNat).toNat = (x % 256).toNat % 256 from UInt8.toNat_ofNat', show IntKind.u8.wrap x = x % 256 by simp [IntKind.wrap, IntKind.bits, IntKind.signed]];omega
structure WB (w0 : World) (m : Nat) (W : World) (g pw pm : Nat) (d : DM) (po : Option Nat) (s M : SM) (R R2 : Nat → Prop) (q pa : Nat) (AV : Array Value) (L : List UInt8) : Prop where
 pk : PK w0 m W g d po s R2
 pm : PM m W pw pm d M R
 row : W.heap[q]? = some (.cells (u8s L).toArray 5 (0, 0))
 len : L.length = 128
 pv : W.heap[pa]? = some (.cells AV 46 (0, 0))
 q2 : R2 q ∧ ¬ R q ∧ m ≤ q ∧ pa ≠ q
theorem WB.set {q pa : Nat} {R2 : Nat → Prop} {AV : Array Value} {L : List UInt8} (h : WB w0 m W g pw pm d po s M R R2 q pa AV L) (o : Nat) (y : UInt8) : WB w0 m (W.setCell ⟨q, o, none⟩ (.int .u8 (y.toNat : Int))) g pw pm d po s M R R2 q pa AV (L.set o y) := by
 have ht : Turned (fun k => k = q) W (W.setCell ⟨q, o, none⟩ (.int .u8 (y.toNat : Int))) := (Turned.refl (fun k => k = q) W).set rfl o _;exact ⟨h.pk.turned ht fun k hk => by rw [show k = q from hk]; exact ⟨h.q2.2.2.1, h.q2.1⟩, h.pm.turned ht fun k hk h2 => h.q2.2.1 (by rw [← show k = q from hk]; exact h2), u8s_cells_set h.row o y, by rw [List.length_set]; exact h.len, (ht.block _ (zB h.pv) h.q2.2.2.2).trans h.pv, h.q2⟩
end
end Go.Proofs.YtmioifcbkhpdaaaGreat
