/-
  The reference: Open.
-/
import Derived.Test.YtmioifcbkhpdaaaGreatPkPl15
import Derived.Test.YtmioifcbkhpdaaaGreatPkPl02
import Derived.Test.YtmioifcbkhpdaaaGreatPkPl04
import Derived.BigQuiet
import Derived.Test.YtmioifcbkhpdaaaGreatPkPl07
import Derived.Test.YtmioifcbkhpdaaaGreatPkPl06
import Derived.Test.YtmioifcbkhpdaaaGreatPkPl01
namespace Go.Proofs.YtmioifcbkhpdaaaGreat
set_option maxHeartbeats 16000000
set_option maxRecDepth 100000
open Go.RowKit Codec
set_option linter.unusedSimpArgs false
theorem ref_bool (l : List UInt8) (e : Int) (w : World) : Calls Tryz.prog 61 #[RV l e] w fun r w' => ∃ y : Bool, (boE l e = 0 → y = boX l e) ∧ RGot w (boE l e) (fxL l e 1) (.bool y) r w' := by
 have hu := fun w => ref_fixed l e 1 w
 unfold boE boX
 by_cases ht : tkE l e 1 = 0
 ·obtain ⟨rfl, _, hlen⟩ := tkE_zero ht;have hlen : 1 ≤ l.length := hlen
  obtain ⟨c, t, rfl⟩ : ∃ c t, l = c :: t := by
   cases l with
   | nil => simp at hlen
   | cons c t => exact ⟨c, t, rfl⟩
  have e2 : fxL (c :: t) 0 1 = t := by unfold fxL; rw [if_pos ht]; rfl
  have e3 : fxB (c :: t) 0 1 = [c] := by unfold fxB; rw [if_pos ht]; rfl
  have e4 : ((c :: t)[0]?.getD 0) = c := rfl;have hnt : ¬ (tkE (c :: t) 0 1 ≠ 0) := fun h => h ht
  rw [if_neg hnt, if_neg hnt, e2, e4];simp only [ht, e2, e3] at hu;clear ht e2 e3 e4 hnt hlen;have hd0 := strB_head c [];have hsz : (zu [c]).size = 1 := by rw [strB_size]; rfl
  by_cases hc : 1 < c.toNat
  ·rw [if_pos hc];(have hc' : 1 < (c.toNat : Int) := by omega);unfold RV at *
   go_enter Tryz.func61, Tryz.ntmps61
   go_wp2_with fail
   refine (hu _).mono ?_;rintro _ w1 ⟨rfl, h2⟩;obtain ⟨⟨c1, c2, c3, c4⟩, ⟨f1, f2, f3, f4⟩, hb1⟩ := two_kept h2;have hbs := below_four hb1;have hss := set_set;clear h2 hu hc
   go_wp2_with fail
   refine bodyPost_ret (v := .tuple #[.agg #[.string (zu t), .int .i64 11], .bool false]) (by simp [results, Tryz.results61, go_sem, c3, c4]) rfl ⟨false, (fun h => by cases h), t, rfl, (fun h => by cases h), hbs _ _ _ _⟩
  ·rw [if_neg hc];(have hc' : (c.toNat : Int) ≤ 1 := by omega)
   have HC := Lib.hid (show ((c.toNat : Int) == 1) = (c.toNat == 1) by
    by_cases h : c.toNat = 1
    ·rw [h]; rfl
    ·(have h2 : ¬ ((c.toNat : Int) = 1) := by omega);rw [show ((c.toNat : Int) == 1) = false by simpa using h2, show (c.toNat == 1) = false by simpa using h])
   unfold RV at *
   go_enter Tryz.func61, Tryz.ntmps61
   go_wp2_with fail
   refine (hu _).mono ?_;rintro _ w1 ⟨rfl, h2⟩;obtain ⟨⟨c1, c2, c3, c4⟩, ⟨f1, f2, f3, f4⟩, hb1⟩ := two_kept h2;have hbs := below_four hb1;have hss := set_set;clear h2 hu hc
   go_wp2_with fail
   refine sqpl (fun W => W.cell? ⟨w.heap.size, 0, none⟩ = some (.string (zu t)) ∧ W.cell? ⟨w.heap.size, 1, none⟩ = some (.int .i64 0)) [([0, 1, 2, 3], 4)] [5] (by constructor <;> simp [go_sem, c1, c2]) ?_;refine zR ?_;refine sqr ?_ (hv := by intro W hW; obtain ⟨e1, e2⟩ := hW; go_simp; with_reducible rfl)
   try simp only [Act.put, sqp]
   refine sqr ?_ (hv := by intro W hW; obtain ⟨e1, e2⟩ := hW; go_simp; with_reducible rfl)
   try simp only [Act.put, sqp]
   refine sqr ?_ (hv := by intro W hW; obtain ⟨e1, e2⟩ := hW; go_simp; with_reducible rfl)
   try simp only [Act.put, sqp]
   refine sqr ?_ (hv := by intro W hW; obtain ⟨e1, e2⟩ := hW; go_simp; with_reducible rfl)
   try simp only [Act.put, sqp]
   refine zH ?_;refine zr (by rfl) (fun K hK => ?_);go_simp;obtain ⟨W9, hW9⟩ := sqz (((((w1.setCell ⟨w.heap.size, 0, none⟩ (.string (zu t))).setCell ⟨w.heap.size, 1, none⟩ (.int .i64 0)).setCell ⟨w.heap.size + 1, 0, none⟩ (.string (zu t))).setCell ⟨w.heap.size + 1, 1, none⟩ (.int .i64 0)).drew);(have hb9 : Below w.heap.size w W9 := by rw [hW9]; exact (hbs _ _ _ _).drew);(have g1 : W9.cell? ⟨w.heap.size, 0, none⟩ = some (.string (zu t)) := by rw [hW9]; simp [go_sem, c1, c2, c3, c4]);(have g2 : W9.cell? ⟨w.heap.size, 1, none⟩ = some (.int .i64 0) := by rw [hW9]; simp [go_sem, c1, c2, c3, c4]);(have g3 : W9.cell? ⟨w.heap.size + 1, 0, none⟩ = some (.string (zu t)) := by rw [hW9]; simp [go_sem, c1, c2, c3, c4]);(have g4 : W9.cell? ⟨w.heap.size + 1, 1, none⟩ = some (.int .i64 0) := by rw [hW9]; simp [go_sem, c1, c2, c3, c4]);rw [← hW9];clear hW9 hbs hb1;refine hK _ _ ⟨fun W => W = W9, rfl, fun W e => e ▸ ⟨g1, g2⟩, ?_⟩;clear hK K;refine zZ ?_;refine zb (by rfl) (fun K hK => ?_);go_simp;refine hK _ ?_;clear hK K;refine zH ?_
   go_wp2
   rw [HC.out];refine bodyPost_ret (v := .tuple #[.agg #[.string (zu t), .int .i64 0], .bool (c.toNat == 1)]) (by simp [results, Tryz.results61, go_sem, g3, g4]) rfl ⟨_, (fun _ => rfl), t, rfl, (fun _ => rfl), hb9⟩
 ·have hne : tkE l e 1 ≠ 0 := ht;rw [if_pos hne, if_pos hne];have HE := Lib.hid ht
  generalize tkE l e 1 = e1 at *
  generalize fxL l e 1 = m at *
  generalize fxB l e 1 = b at *
  have he' : (e1 != 0) = true := by simpa using ht
  clear ht hne;unfold RV at *
  go_enter Tryz.func61, Tryz.ntmps61
  go_wp2_with fail
  refine (hu _).mono ?_;rintro _ w1 ⟨rfl, h2⟩;obtain ⟨⟨c1, c2, c3, c4⟩, ⟨f1, f2, f3, f4⟩, hb1⟩ := two_kept h2;have hbs := below_four hb1;have hss := set_set;clear h2 hu
  go_wp2_with fail
  refine bodyPost_ret (v := .tuple #[.agg #[.string (zu m), .int .i64 e1], .bool false]) (by simp [results, Tryz.results61, go_sem, c3, c4]) rfl ⟨false, fun h => absurd h HE.out, m, rfl, fun h => absurd h HE.out, hbs _ _ _ _⟩
theorem cr_by_err {l : List UInt8} {e : Int} (k : Int) (h : e ≠ 0) : byB l e k = [] ∧ byE l e k = e := by
 have t : uiE l e = e := by unfold uiE; rw [if_neg h]
 unfold byB byE;rw [t, if_pos h, if_pos h];exact ⟨rfl, rfl⟩
theorem raGo_bad {n : Nat} {t : Tb} {last l : List UInt8} {e : Int} (h : e ≠ 0) : raEnd (raGo n t last l e) = none := by
 cases n with
 | zero => rw [raGo, raEnd, if_neg (by rw [endE_bad h]; exact h)]
 | succ n => rw [raGo, if_pos (by rw [(cr_by_err 64 h).1]; exact List.nil_le _)]; rfl
theorem rcGo_bad {n : Nat} {a : List Ch} {l : List UInt8} {e : Int} (h : e ≠ 0) : rcEnd (rcGo n a l e) = none := by
 cases n with
 | zero => rw [rcGo, rcEnd, if_neg (by rw [endE_bad h]; exact h)]
 | succ n =>
   have h1 : zq (rc1 l e).1 = false := by
    unfold zq;rw [rc1_k, (cr_by_err 64 h).1];rfl
   rw [rcGo, if_pos h1];rfl
theorem cr_like_ui {l m : List UInt8} {e : Int} (h : e = 0 → m = l) : uiX m e = uiX l e ∧ uiE m e = uiE l e ∧ (uiE l e = 0 → uiL m e = uiL l e) := by
 by_cases he : e = 0
 ·rw [h he]; exact ⟨rfl, rfl, fun _ => rfl⟩
 ·unfold uiX uiE uiL;simp only [if_neg he];exact ⟨trivial, trivial, fun h => absurd h he⟩
theorem cr_like_by {l m : List UInt8} {e : Int} (k : Int) (h : e = 0 → m = l) : byB m e k = byB l e k ∧ byE m e k = byE l e k ∧ (byE l e k = 0 → byL m e k = byL l e k) := by
 by_cases he : e = 0
 ·rw [h he]; exact ⟨rfl, rfl, fun _ => rfl⟩
 ·rw [(cr_by_err k he).1, (cr_by_err k he).1, (cr_by_err k he).2, (cr_by_err k he).2];exact ⟨rfl, rfl, fun h => absurd h he⟩
theorem cr_like_bo {l m : List UInt8} {e : Int} (h : e = 0 → m = l) : boE m e = boE l e ∧ (boE l e = 0 → boX m e = boX l e ∧ fxL m e 1 = fxL l e 1) := by
 by_cases he : e = 0
 ·rw [h he]; exact ⟨rfl, fun _ => ⟨rfl, rfl⟩⟩
 ·have t : ∀ x, tkE x e 1 = e := fun x => by unfold tkE; rw [if_pos he]
  have b : ∀ x, boE x e = e := fun x => by unfold boE; rw [t, if_pos he]
  rw [b, b];exact ⟨rfl, fun h => absurd h he⟩
theorem yI : (Tryz.prog.info? 126).map (·.size) = some 2 := by kernel_rfl
def crv (m : List UInt8) (e : Int) : Array Value := #[.string (zu m), .int .i64 e]
theorem crv_one (m : List UInt8) (e : Int) : (crv m e).all (·.oneCell') = true := by simp [crv, Value.oneCell']
theorem cr_strB (l : List UInt8) : zu l = st l := rfl
theorem cr_own_kept {w w' : World} {base : Nat} {e : TypeId} {size : Nat} {v : Value} {n : Nat} {xs : List Value} (h : w.ownsRow base e size v n xs) (hb : ∀ q, v.ownBlock = some q → w'.heap[q]? = w.heap[q]?) : w'.ownsRow base e size v n xs := by
 refine ⟨h.1, ?_⟩;rcases h.2 with hn | ⟨g, cap, cur, h1, h2, h3, rest⟩
 ·exact .inl hn
 ·subst h1;exact .inr ⟨g, cap, cur, rfl, h2, (hb g rfl).trans h3, rest⟩
structure RrO (w W : World) (q : Nat) (m : List UInt8) (e : Int) (v : Value) (acc : List Ch) : Prop where
 qw : w.heap.size ≤ q
 row : W.heap[q]? = some (.cells (crv m e) 126 (0, 0))
 own : W.ownsRow (q + 1) 95 3 v acc.length (yB acc)
 bel : Below w.heap.size w W
section
variable {w W W' : World} {q x0 : Nat} {m m' : List UInt8} {e e' : Int} {v : Value} {acc : List Ch} {K : List UInt8} {F : Ch}
theorem RrO.later (h : RrO w W q m e v acc) (hb : Below W.heap.size W W') : RrO w W' q m e v acc :=
 ⟨h.qw, (hb.block q (zB h.row)).trans h.row, cr_own_kept h.own fun g hg => hb.block g (h.own.lt g hg).2, h.bel.trans (hb.mono h.bel.size)⟩
theorem RrO.setr (h : RrO w W q m e v acc) (m' : List UInt8) (e' : Int) : RrO w (W.setRow q (crv m' e')) q m' e' v acc :=
 ⟨h.qw, zF h.row, cr_own_kept h.own fun g hg => zM _ _ _ _ (by have := (h.own.lt g hg).1; omega), zD h.bel h.qw _⟩
theorem RrO.cell1 (h : RrO w W q m e v acc) : W.cell? ⟨q, 1, none⟩ = some (.int .i64 e) := by
 rw [zA h.row];rfl
structure RrS (w W : World) (q x0 : Nat) (m : List UInt8) (e : Int) (v : Value) (acc : List Ch) (F : Ch) : Prop where
 o : RrO w W q m e v acc
 qx : q < x0
 ol : ∀ g, v.ownBlock = some g → g < x0
 frow : W.heap[x0]? = some (.cells (cmV F) 95 (0, 0))
theorem RrO.file (h : RrO w W q m e v acc) : RrS w (W.alloc (.cells #[.string ⟨#[]⟩, .string ⟨#[]⟩, .bool false] 95)) q W.heap.size m e v acc ⟨[], [], false⟩ :=
 ⟨h.later ((Below.refl _ _).alloc (Nat.le_refl _) _), zB h.row, fun g hg => (h.own.lt g hg).2, heap_alloc_new W _⟩
theorem RrS.later (h : RrS w W q x0 m e v acc F) (hb : Below W.heap.size W W') : RrS w W' q x0 m e v acc F :=
 ⟨h.o.later hb, h.qx, h.ol, (hb.block x0 (zB h.frow)).trans h.frow⟩
theorem RrS.setr (h : RrS w W q x0 m e v acc F) (m' : List UInt8) (e' : Int) : RrS w (W.setRow q (crv m' e')) q x0 m' e' v acc F :=
 ⟨h.o.setr m' e', h.qx, h.ol, (zM _ _ _ _ (by have := h.qx; omega)).trans h.frow⟩
theorem RrS.setc (h : RrS w W q x0 m e v acc F) (i : Nat) (u : Value) {F' : Ch} (hF : (cmV F).setIfInBounds i u = cmV F') : RrS w (W.setCell ⟨x0, i, none⟩ u) q x0 m e v acc F' := by
 have hqx := h.qx;have hk : ∀ g, g ≠ x0 → (W.setCell ⟨x0, i, none⟩ u).heap[g]? = W.heap[g]? := fun g hg => Below.heap_setCell _ _ _ _ hg
 refine ⟨⟨h.o.qw, (hk q (by omega)).trans h.o.row, cr_own_kept h.o.own fun g hg => hk g (by have := h.ol g hg; omega), h.o.bel.setCell (p := ⟨x0, i, none⟩) (by have := h.o.qw; show w.heap.size ≤ x0; omega) _⟩, hqx, h.ol, ?_⟩;have := zG h.frow i u;rw [hF] at this;exact this
end
theorem cr_zero_r : ∀ W, (zeroValue 126).run Tryz.prog W = .ok (.agg #[.string ⟨#[]⟩, .int .i64 0]) W := fun W => by kernel_rfl
theorem rc1_err {l : List UInt8} {e : Int} (h : boE (byL l e 64) (byE l e 64) ≠ 0) : (rc1 l e).2.2 ≠ 0 := by
 unfold rc1
 split
 ·exact h
 ·show byE _ _ 4096 ≠ 0;rw [(cr_by_err 4096 h).2];exact h
theorem rc_false {l : List UInt8} {K l2 l3 V l4 : List UInt8} {e2 e3 e4 : Int} (hK : K = byB l 0 64 ∧ l2 = byL l 0 64 ∧ e2 = byE l 0 64) (h3 : e3 = boE l2 e2 ∧ l3 = fxL l2 e2 1) (hV : V = byB l3 e3 4096 ∧ l4 = byL l3 e3 4096 ∧ e4 = byE l3 e3 4096) (hy : e3 = 0 → boX l2 e2 = false) :
    rc1 l 0 = (⟨K, V, false⟩, l4, e4) ∨ (e4 ≠ 0 ∧ (rc1 l 0).2.2 ≠ 0) := by
 obtain ⟨rfl, rfl, rfl⟩ := hK;obtain ⟨rfl, rfl⟩ := h3;obtain ⟨rfl, rfl, rfl⟩ := hV
 by_cases h0 : boE (byL l 0 64) (byE l 0 64) = 0
 ·left
  unfold rc1;rw [hy h0, if_neg (by decide)]
 ·right
  exact ⟨by rw [(cr_by_err 4096 h0).2]; exact h0, rc1_err h0⟩
theorem rc_true {l : List UInt8} {K l2 l3 : List UInt8} {e2 e3 : Int} (hK : K = byB l 0 64 ∧ l2 = byL l 0 64 ∧ e2 = byE l 0 64) (h3 : e3 = boE l2 e2 ∧ l3 = fxL l2 e2 1) (hy : e3 = 0 → boX l2 e2 = true) :
    rc1 l 0 = (⟨K, [], true⟩, l3, e3) ∨ (e3 ≠ 0 ∧ (rc1 l 0).2.2 ≠ 0) := by
 obtain ⟨rfl, rfl, rfl⟩ := hK;obtain ⟨rfl, rfl⟩ := h3
 by_cases h0 : boE (byL l 0 64) (byE l 0 64) = 0
 ·left
  unfold rc1;rw [hy h0, if_pos rfl]
 ·exact .inr ⟨h0, rc1_err h0⟩
theorem rc_next {m : Nat} {acc : List Ch} {l l4 : List UInt8} {X : Ch} {e4 : Int} (h : rc1 l 0 = (X, l4, e4) ∨ (e4 ≠ 0 ∧ (rc1 l 0).2.2 ≠ 0)) :
    (e4 ≠ 0 ∨ zq X = false → rcEnd (rcGo (m + 1) acc l 0) = none) ∧ (e4 = 0 → zq X = true → rcGo (m + 1) acc l 0 = rcGo m (acc ++ [X]) l4 0 ∧ l4.length + 1 ≤ l.length) := by
 refine ⟨fun h1 => ?_, fun h1 h2 => ?_⟩
 ·rw [rcGo]
  by_cases hm : zq (rc1 l 0).1 = false
  ·rw [if_pos hm];rfl
  ·rw [if_neg hm];refine rcGo_bad ?_;rcases h with h | h
   ·rw [h] at hm ⊢;rcases h1 with h1 | h1
    ·exact h1
    ·exact absurd h1 hm
   ·exact h.2
 ·rcases h with h | h
  ·have ht := rc1_take (l := l) (e := 0) (by rw [h]; exact h2);rw [h] at ht;rw [rcGo, h];simp only;rw [if_neg (by rw [h2]; decide), h1];exact ⟨rfl, by simp only at ht; omega⟩
  ·exact absurd h1 h.1
theorem cr_run_geq (t : TypeId) (a b : List UInt8) (W : World) : (binOp .geq t (.string (st a)) (.string (st b))).run Tryz.prog W = .ok (.bool (!decide (a < b))) W := by
 rw [← bytes_less];simp [binOp, Op.stringOp, st_toList]
theorem ra_next {m : Nat} {t : Tb} {last l K l2 V l4 : List UInt8} {e2 e4 : Int} (hK : K = byB l 0 64 ∧ l2 = byL l 0 64 ∧ e2 = byE l 0 64) (hV : V = byB l2 e2 4096 ∧ l4 = byL l2 e2 4096 ∧ e4 = byE l2 e2 4096) {X : Ch} (hX : X = ⟨K, V, false⟩) :
    (e4 ≠ 0 ∨ zq X = false ∨ X.k ≤ last → raEnd (raGo (m + 1) t last l 0) = none) ∧ (e4 = 0 → ¬ X.k ≤ last → raGo (m + 1) t last l 0 = raGo m (t ++ [(X.k, X.v)]) X.k l4 0 ∧ l4.length + 1 ≤ l.length) := by
 subst hX;have hk := by_few l 0 64;have hv := by_few l2 e2 4096;have hv2 := byL_len l2 e2 4096;have ht := fun h => (by_take l 0 64 h).2
 simp only;obtain ⟨rfl, rfl, rfl⟩ := hK;obtain ⟨rfl, rfl, rfl⟩ := hV;rw [raGo];refine ⟨fun h1 => ?_, fun h1 h2 => ?_⟩
 ·by_cases hle : byB l 0 64 ≤ last
  ·rw [if_pos hle]; rfl
  ·rw [if_neg hle];rcases h1 with h1 | h1 | h1
   ·exact raGo_bad h1
   ·exfalso
    rw [mayC_eq] at h1;have e1 : decide (((byB l 0 64).length : Int) ≤ 64) = true := decide_eq_true (by have : (byB l 0 64).length ≤ 64 := hk; omega);have e2 : decide (((byB (byL l 0 64) (byE l 0 64) 4096).length : Int) ≤ 4096) = true := decide_eq_true (by have : (byB (byL l 0 64) (byE l 0 64) 4096).length ≤ 4096 := hv; omega);rw [e1, e2] at h1
    cases hb : byB l 0 64 with
    | nil => exact hle (by rw [hb]; exact List.nil_le _)
    | cons a r => rw [hb] at h1; simp at h1
   ·exact absurd h1 hle
 ·rw [if_neg h2, h1];have hne : byB l 0 64 ≠ [] := fun e => h2 (by rw [e]; exact List.nil_le _)
  have := ht (.inl hne);exact ⟨rfl, by omega⟩
theorem tb2_len (t : Tb) : (tb2 t).length = t.length := by simp [tb2]
theorem tb2_snoc {t : Tb} {X : Ch} (h : X.g = false) : tb2 (t ++ [(X.k, X.v)]) = tb2 t ++ [X] := by
 obtain ⟨k, v, g⟩ := X;simp only at h;subst h;simp [tb2]
theorem cr_last {t : Tb} {p : List UInt8 × List UInt8} : (((t ++ [p]).getLast?.map (·.1)).getD [] : List UInt8) = p.1 := by simp
def RrPost (w : World) (r : Option (List Ch)) (e : Ending) (w' : World) : Prop :=
 (match r with
  | none => ∃ A n c, e = .returned (.tuple #[.slice A n c, .bool false])
  | some a => ∃ A c, e = .returned (.tuple #[.slice A a.length c, .bool true]) ∧ Cms w' (w.heap.size ≤ ·) A a.length c a) ∧ Below w.heap.size w w'
theorem yH {w w' : World} {r : Option (List Ch)} {A : Option Addr} {n c : Nat} (hr : r = none) (hb : Below w.heap.size w w') : RrPost w r (.returned (.tuple #[.slice A n c, .bool false])) w' := by
 subst hr;exact ⟨⟨A, n, c, rfl⟩, hb⟩
theorem zL : (Tryz.prog.info? 39).map (·.size) = some 7 := by kernel_rfl
theorem yb : ∀ W, (zeroValue 39).run Tryz.prog W = .ok (.agg (lmV lm0 none 0 0)) W := fun W => by kernel_rfl
theorem zw (m : LM) (A : Option Addr) (n c : Nat) : (lmV m A n c).all (·.oneCell') = true := by simp [lmV, Value.oneCell']
theorem yi {fn : Func} {p u : Tmp} (h : fn.results = #[.cell p 39, .tmp u]) (tmps : Array Value) (w : World) (g : Nat) (cs : Array Value) (hp : tmps.getD p undef = .pointer (some ⟨g, 0, none⟩)) (hg : w.heap[g]? = some (.cells cs 39 (0, 0))) (hs : cs.size = 7) :
    (results fn tmps).run Tryz.prog w = .ok (.tuple #[.agg cs, tmps.getD u undef]) w := by
 rw [results_cell_tmp h tmps];have hp' : tmps[p]?.getD undef = .pointer (some ⟨g, 0, none⟩) := by simpa using hp
 simp [hp', asAddr, Result.andThen, run_loadVar_row w g 39 39 cs (0, 0) _ hg Tryz.underlying39 rfl (by rw [hs]; exact zL)]
def yl (w : World) (bs : List (List UInt8)) (from_ n : Int) (E : Int) (e : Ending) (w' : World) : Prop :=
 ∃ A k c, e = .returned (.tuple #[.agg (lmV (if E = 0 then yd bs from_ n else lm0) A k c), .int .i64 E]) ∧ Strs w' (w.heap.size ≤ ·) A k c (if E = 0 then yd bs from_ n else lm0).l ∧ Below w.heap.size w w'
theorem rwopen_a {w : World} {A : Option Addr} {nl c : Nat} {d : DM} (from_ n : Int) (h1 : from_ < 0) :
    Calls Tryz.prog 31 #[.agg (dmV d A nl c), .int .i64 from_, .int .i64 n] w fun e w' => yl w [] from_ n 1 e w' := by
 have hz := yb;obtain ⟨ZV, hZV⟩ := sqz (lmV lm0 none 0 0);rw [← hZV] at hz;obtain ⟨DV, hDV⟩ := sqz (dmV d A nl c);rw [← hDV];have hd0 := heap_alloc_new w (.cells DV 30);have hd1 := (heap_alloc_old (w.alloc (.cells DV 30)) (.cells ZV 39) (zB hd0)).trans hd0;have hz1 := heap_alloc_new (w.alloc (.cells DV 30)) (.cells ZV 39);rw [World.size_alloc] at hz1;have hb1 := zi w (.cells DV 30) (.cells ZV 39);have HV := sq2 hZV hDV;clear hZV hDV
 go_enter Tryz.func31, Tryz.ntmps31
 go_upto_region 1 with fail
 generalize (w.alloc (.cells DV 30)).alloc (.cells ZV 39) = w2 at *
 have hc0 : w2.cell? ⟨w.heap.size, 0, none⟩ = some (.slice A nl c) := by rw [zA hd1, HV.out.2]; rfl
 have hc3 : w2.cell? ⟨w.heap.size, 3, none⟩ = some (.bool d.down) := by rw [zA hd1, HV.out.2]; rfl
 have HZ := sq3 HV.out.1 hz1 hb1;clear hd0 hd1 hz1 hb1
 go_wp2_with (refine zl 6 43 ZV HZ.out.2.1 (by rw [HZ.out.1]; exact zL) rfl (by rw [HZ.out.1]; exact zw _ _ _ _) ?_)
 (try simp only [Exit.inBlock, Exit.then])
 refine bodyPost_ret (yi (p := 6) (u := 7) rfl _ _ (w.heap.size + 1) ZV rfl (zF HZ.out.2.1) (by rw [HZ.out.1]; rfl)) rfl ?_;exact ⟨none, 0, 0, by rw [HZ.out.1]; rfl, Strs.nil _ _ _ _ (Nat.zero_le _), zD HZ.out.2.2 (by omega) _⟩
theorem rwopen_b {w : World} {A : Option Addr} {nl c : Nat} {d : DM} (from_ n : Int) (h1 : ¬ from_ < 0) (h2 : n < 1) :
    Calls Tryz.prog 31 #[.agg (dmV d A nl c), .int .i64 from_, .int .i64 n] w fun e w' => yl w [] from_ n 1 e w' := by
 have hz := yb;obtain ⟨ZV, hZV⟩ := sqz (lmV lm0 none 0 0);rw [← hZV] at hz;obtain ⟨DV, hDV⟩ := sqz (dmV d A nl c);rw [← hDV];have hd0 := heap_alloc_new w (.cells DV 30);have hd1 := (heap_alloc_old (w.alloc (.cells DV 30)) (.cells ZV 39) (zB hd0)).trans hd0;have hz1 := heap_alloc_new (w.alloc (.cells DV 30)) (.cells ZV 39);rw [World.size_alloc] at hz1;have hb1 := zi w (.cells DV 30) (.cells ZV 39);have HV := sq2 hZV hDV;clear hZV hDV
 go_enter Tryz.func31, Tryz.ntmps31
 go_upto_region 1 with fail
 generalize (w.alloc (.cells DV 30)).alloc (.cells ZV 39) = w2 at *
 have hc0 : w2.cell? ⟨w.heap.size, 0, none⟩ = some (.slice A nl c) := by rw [zA hd1, HV.out.2]; rfl
 have hc3 : w2.cell? ⟨w.heap.size, 3, none⟩ = some (.bool d.down) := by rw [zA hd1, HV.out.2]; rfl
 have HZ := sq3 HV.out.1 hz1 hb1;clear hd0 hd1 hz1 hb1
 go_wp2_with (refine zl 6 43 ZV HZ.out.2.1 (by rw [HZ.out.1]; exact zL) rfl (by rw [HZ.out.1]; exact zw _ _ _ _) ?_)
 (try simp only [Exit.inBlock, Exit.then])
 refine bodyPost_ret (yi (p := 6) (u := 7) rfl _ _ (w.heap.size + 1) ZV rfl (zF HZ.out.2.1) (by rw [HZ.out.1]; rfl)) rfl ?_;exact ⟨none, 0, 0, by rw [HZ.out.1]; rfl, Strs.nil _ _ _ _ (Nat.zero_le _), zD HZ.out.2.2 (by omega) _⟩
theorem rwopen_c {w : World} {A : Option Addr} {nl c : Nat} {d : DM} (from_ n : Int) (h1 : ¬ from_ < 0) (h2 : ¬ n < 1) (h3 : (nl : Int) < from_) :
    Calls Tryz.prog 31 #[.agg (dmV d A nl c), .int .i64 from_, .int .i64 n] w fun e w' => yl w [] from_ n 1 e w' := by
 have hz := yb;obtain ⟨ZV, hZV⟩ := sqz (lmV lm0 none 0 0);rw [← hZV] at hz;obtain ⟨DV, hDV⟩ := sqz (dmV d A nl c);rw [← hDV];have hd0 := heap_alloc_new w (.cells DV 30);have hd1 := (heap_alloc_old (w.alloc (.cells DV 30)) (.cells ZV 39) (zB hd0)).trans hd0;have hz1 := heap_alloc_new (w.alloc (.cells DV 30)) (.cells ZV 39);rw [World.size_alloc] at hz1;have hb1 := zi w (.cells DV 30) (.cells ZV 39);have HV := sq2 hZV hDV;clear hZV hDV
 go_enter Tryz.func31, Tryz.ntmps31
 go_upto_region 1 with fail
 generalize (w.alloc (.cells DV 30)).alloc (.cells ZV 39) = w2 at *
 have hc0 : w2.cell? ⟨w.heap.size, 0, none⟩ = some (.slice A nl c) := by rw [zA hd1, HV.out.2]; rfl
 have hc3 : w2.cell? ⟨w.heap.size, 3, none⟩ = some (.bool d.down) := by rw [zA hd1, HV.out.2]; rfl
 have HZ := sq3 HV.out.1 hz1 hb1;clear hd0 hd1 hz1 hb1
 go_wp2_with (refine zl 6 43 ZV HZ.out.2.1 (by rw [HZ.out.1]; exact zL) rfl (by rw [HZ.out.1]; exact zw _ _ _ _) ?_)
 (try simp only [Exit.inBlock, Exit.then])
 refine bodyPost_ret (yi (p := 6) (u := 7) rfl _ _ (w.heap.size + 1) ZV rfl (zF HZ.out.2.1) (by rw [HZ.out.1]; rfl)) rfl ?_;exact ⟨none, 0, 0, by rw [HZ.out.1]; rfl, Strs.nil _ _ _ _ (Nat.zero_le _), zD HZ.out.2.2 (by omega) _⟩
theorem rwopen_d {w : World} {A : Option Addr} {nl c : Nat} {d : DM} (hn : nl ≤ 1000000) (from_ n : Int) (h1 : ¬ from_ < 0) (h2 : ¬ n < 1) (h3 : ¬ (nl : Int) < from_) (h4 : (nl : Int) - from_ < n) :
    Calls Tryz.prog 31 #[.agg (dmV d A nl c), .int .i64 from_, .int .i64 n] w fun e w' => yl w [] from_ n 1 e w' := by
 have hz := yb;obtain ⟨ZV, hZV⟩ := sqz (lmV lm0 none 0 0);rw [← hZV] at hz;obtain ⟨DV, hDV⟩ := sqz (dmV d A nl c);rw [← hDV];have hd0 := heap_alloc_new w (.cells DV 30);have hd1 := (heap_alloc_old (w.alloc (.cells DV 30)) (.cells ZV 39) (zB hd0)).trans hd0;have hz1 := heap_alloc_new (w.alloc (.cells DV 30)) (.cells ZV 39);rw [World.size_alloc] at hz1;have hb1 := zi w (.cells DV 30) (.cells ZV 39);have HV := sq2 hZV hDV;clear hZV hDV
 go_enter Tryz.func31, Tryz.ntmps31
 go_upto_region 1 with fail
 generalize (w.alloc (.cells DV 30)).alloc (.cells ZV 39) = w2 at *
 have hc0 : w2.cell? ⟨w.heap.size, 0, none⟩ = some (.slice A nl c) := by rw [zA hd1, HV.out.2]; rfl
 have hc3 : w2.cell? ⟨w.heap.size, 3, none⟩ = some (.bool d.down) := by rw [zA hd1, HV.out.2]; rfl
 have HZ := sq3 HV.out.1 hz1 hb1;have hsub := IntWalk.i64_in ((nl : Int) - from_) (by omega);clear hd0 hd1 hz1 hb1
 go_wp2_with (refine zl 6 43 ZV HZ.out.2.1 (by rw [HZ.out.1]; exact zL) rfl (by rw [HZ.out.1]; exact zw _ _ _ _) ?_)
 (try simp only [Exit.inBlock, Exit.then])
 refine bodyPost_ret (yi (p := 6) (u := 7) rfl _ _ (w.heap.size + 1) ZV rfl (zF HZ.out.2.1) (by rw [HZ.out.1]; rfl)) rfl ?_;exact ⟨none, 0, 0, by rw [HZ.out.1]; rfl, Strs.nil _ _ _ _ (Nat.zero_le _), zD HZ.out.2.2 (by omega) _⟩
theorem rwopen_e {w : World} {A : Option Addr} {nl c : Nat} {d : DM} (hn : nl ≤ 1000000) (from_ n : Int) (h1 : ¬ from_ < 0) (h2 : ¬ n < 1) (h3 : ¬ (nl : Int) < from_) (h4 : ¬ (nl : Int) - from_ < n) (h5 : d.down = true) :
    Calls Tryz.prog 31 #[.agg (dmV d A nl c), .int .i64 from_, .int .i64 n] w fun e w' => yl w [] from_ n 30 e w' := by
 have hz := yb;obtain ⟨ZV, hZV⟩ := sqz (lmV lm0 none 0 0);rw [← hZV] at hz;obtain ⟨DV, hDV⟩ := sqz (dmV d A nl c);rw [← hDV];have hd0 := heap_alloc_new w (.cells DV 30);have hd1 := (heap_alloc_old (w.alloc (.cells DV 30)) (.cells ZV 39) (zB hd0)).trans hd0;have hz1 := heap_alloc_new (w.alloc (.cells DV 30)) (.cells ZV 39);rw [World.size_alloc] at hz1;have hb1 := zi w (.cells DV 30) (.cells ZV 39);have HV := sq2 hZV hDV;clear hZV hDV
 go_enter Tryz.func31, Tryz.ntmps31
 go_upto_region 1 with fail
 generalize (w.alloc (.cells DV 30)).alloc (.cells ZV 39) = w2 at *
 have hc0 : w2.cell? ⟨w.heap.size, 0, none⟩ = some (.slice A nl c) := by rw [zA hd1, HV.out.2]; rfl
 have hc3 : w2.cell? ⟨w.heap.size, 3, none⟩ = some (.bool d.down) := by rw [zA hd1, HV.out.2]; rfl
 have HZ := sq3 HV.out.1 hz1 hb1;have hsub := IntWalk.i64_in ((nl : Int) - from_) (by omega);rw [h5] at hc3;clear hd0 hd1 hz1 hb1
 go_wp2_with (refine zl 6 46 ZV HZ.out.2.1 (by rw [HZ.out.1]; exact zL) rfl (by rw [HZ.out.1]; exact zw _ _ _ _) ?_)
 (try simp only [Exit.inBlock, Exit.then])
 refine bodyPost_ret (yi (p := 6) (u := 7) rfl _ _ (w.heap.size + 1) ZV rfl (zF HZ.out.2.1) (by rw [HZ.out.1]; rfl)) rfl ?_;exact ⟨none, 0, 0, by rw [HZ.out.1]; rfl, Strs.nil _ _ _ _ (Nat.zero_le _), zD HZ.out.2.2 (by omega) _⟩
end Go.Proofs.YtmioifcbkhpdaaaGreat
