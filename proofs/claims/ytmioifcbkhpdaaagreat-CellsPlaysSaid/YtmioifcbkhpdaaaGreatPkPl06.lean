/-
  Cells, pure: a store; what Open and Apply do with a disk.
-/
import Derived.Test.YtmioifcbkhpdaaaGreatPkPl05
import Derived.Test.YtmioifcbkhpdaaaGreatPkPl01
import Derived.Test.YtmioifcbkhpdaaaGreatPkPl02
import Derived.Test.YtmioifcbkhpdaaaGreatPkPl03
namespace Go.Proofs.YtmioifcbkhpdaaaGreat
set_option maxHeartbeats 16000000
set_option maxRecDepth 100000
open Go.RowKit
theorem xR {fn : Func} {p u : Tmp} (h : fn.results = #[.cell p 30, .tmp u]) (tmps : Array Value) (w : World) (g : Nat) (v1 v2 v3 v4 : Value) (hp : tmps.getD p undef = .pointer (some ⟨g, 0, none⟩)) (hg : w.heap[g]? = some (.cells #[v1, v2, v3, v4] 30 (0, 0))) :
    (results fn tmps).run Tryz.prog w = .ok (.tuple #[.agg #[v1, v2, v3, v4], tmps.getD u undef]) w := by
 rw [results_cell_tmp h tmps];have hp' : tmps[p]?.getD undef = .pointer (some ⟨g, 0, none⟩) := by simpa using hp
 simp [hp', asAddr, Result.andThen, run_loadVar_row w g 30 30 #[v1, v2, v3, v4] (0, 0) _ hg Tryz.underlying30 rfl zI]
theorem dm_one (A : Option Addr) (n c : Nat) (x y : Int) (z : Bool) : (#[Value.slice A n c, .int .i64 x, .int .i64 y, .bool z] : Array Value).all (·.oneCell') = true := by simp [Value.oneCell']
theorem rbwrite_stay {w : World} {S : Nat → Prop} {A : Option Addr} {n c : Nat} {d : DM} (h : Strs w S A n c d.l) (i : Int) (b : List UInt8) (he : (zz d i).2 ≠ 0 ∨ b.length ≠ 128) :
    Calls Tryz.prog 16 #[.agg (dmV d A n c), .int .i64 i, .string (st b)] w fun e w' => e = .returned (.tuple #[.agg (dmV d A n c), .int .i64 (if (zz d i).2 = 0 then 1 else (zz d i).2)]) ∧ Below w.heap.size w w' := by
 have hrd := rbread_any (h.below (zi w (.cells (dmV d A n c) 30) (.cells #[.slice none 0 0, .int .i64 0, .int .i64 0, .bool false] 30))) i;have hbs := zN b;have hz := xM;obtain ⟨l, left, tn, down⟩ := d;obtain ⟨V, hV⟩ := sqz ((zz ⟨l, left, tn, down⟩ i).2);obtain ⟨X, hX⟩ := sqz ((zz ⟨l, left, tn, down⟩ i).1);rw [← hV, ← hX] at hrd;rw [← hV] at he ⊢;have hb2 := zi w (.cells #[.slice A n c, .int .i64 left, .int .i64 tn, .bool down] 30) (.cells #[.slice none 0 0, .int .i64 0, .int .i64 0, .bool false] 30);have HB := Lib.hid hb2;unfold dmV at *;clear hV hX h hb2
 have HPRE : ∀ w1, Below ((w.alloc (.cells #[.slice A n c, .int .i64 left, .int .i64 tn, .bool down] 30)).alloc (.cells #[.slice none 0 0, .int .i64 0, .int .i64 0, .bool false] 30)).heap.size ((w.alloc (.cells #[.slice A n c, .int .i64 left, .int .i64 tn, .bool down] 30)).alloc (.cells #[.slice none 0 0, .int .i64 0, .int .i64 0, .bool false] 30)) w1 → Hid (Below w.heap.size w w1 ∧ w1.heap[w.heap.size]? = some (.cells #[.slice A n c, .int .i64 left, .int .i64 tn, .bool down] 30 (0, 0)) ∧ w1.heap[w.heap.size + 1]? = some (.cells #[.slice none 0 0, .int .i64 0, .int .i64 0, .bool false] 30 (0, 0))) := fun w1 hb => by
  have h1 := heap_alloc_new w (.cells #[.slice A n c, .int .i64 left, .int .i64 tn, .bool down] 30);have h2 := heap_alloc_new (w.alloc (.cells #[.slice A n c, .int .i64 left, .int .i64 tn, .bool down] 30)) (.cells #[.slice none 0 0, .int .i64 0, .int .i64 0, .bool false] 30);rw [World.size_alloc] at h2;exact Lib.hid ⟨HB.out.trans (hb.mono HB.out.size), (hb.block _ (by simp <;> omega)).trans ((Below.heap_alloc _ _ _ (by simp)).trans h1), (hb.block _ (by simp)).trans h2⟩
 by_cases hv : V = 0
 ·have hlb : b.length ≠ 128 := he.resolve_left (fun h => h hv);subst hv;have hlb' : ((b.length : Int) != 128) = true := by simp; omega
  clear he hlb
  go_enter Tryz.func16, Tryz.ntmps16
  go_wp2_with (first
   | (go_at_call 44; refine hrd.mono ?_; clear hrd; rintro _ w1 ⟨rfl, hb1⟩; have H1 := HPRE w1 hb1; clear hb1)
   | (refine yA 3 H1.out.2.1 Tryz.underlying30 zI ?_)
   | (refine zl 6 24 #[.slice A n c, .int .i64 left, .int .i64 tn, .bool down] H1.out.2.2 zI rfl (dm_one _ _ _ _ _ _) ?_))
  (try simp only [Exit.inBlock, Exit.then])
  refine bodyPost_ret (xR (p := 6) (u := 7) rfl _ _ (w.heap.size + 1) (.slice A n c) (.int .i64 left) (.int .i64 tn) (.bool down) rfl (zF H1.out.2.2)) rfl ?_;exact ⟨rfl, zD H1.out.1 (by omega) _⟩
 ·have hv' : (V != 0) = true := by simpa using hv
  rw [if_neg hv];clear he hv
  go_enter Tryz.func16, Tryz.ntmps16
  go_wp2_with (first
   | (go_at_call 44; refine hrd.mono ?_; clear hrd; rintro _ w1 ⟨rfl, hb1⟩; have H1 := HPRE w1 hb1; clear hb1)
   | (refine yA 3 H1.out.2.1 Tryz.underlying30 zI ?_)
   | (refine zl 6 19 #[.slice A n c, .int .i64 left, .int .i64 tn, .bool down] H1.out.2.2 zI rfl (dm_one _ _ _ _ _ _) ?_))
  (try simp only [Exit.inBlock, Exit.then])
  refine bodyPost_ret (xR (p := 6) (u := 7) rfl _ _ (w.heap.size + 1) (.slice A n c) (.int .i64 left) (.int .i64 tn) (.bool down) rfl (zF H1.out.2.2)) rfl ?_;exact ⟨rfl, zD H1.out.1 (by omega) _⟩
theorem rbwrite_done {w : World} {S : Nat → Prop} {A : Option Addr} {n c : Nat} {l : List (List UInt8)} {left tn : Int} (h : Strs w S A n c l) (hn : n ≤ 1000000) (i : Nat) (hi : i < n) (b : List UInt8) (hb : b.length = 128) (hl : left ≠ 0) (hl2 : -9223372036854775808 ≤ left ∧ left ≤ 9223372036854775807) :
    Calls Tryz.prog 16 #[.agg #[.slice A n c, .int .i64 left, .int .i64 tn, .bool false], .int .i64 (i : Int), .string (st b)] w fun e w' => ∃ A' c', e = .returned (.tuple #[.agg #[.slice A' n c', .int .i64 (if 0 < left then left - 1 else left), .int .i64 tn, .bool false], .int .i64 0]) ∧ Strs w' (w.heap.size ≤ ·) A' n c' (l.set i b) ∧ Below w.heap.size w w' := by
 have hrd := rbread_any (d := ⟨l, left, tn, false⟩) (h.below (zi w (.cells #[.slice A n c, .int .i64 left, .int .i64 tn, .bool false] 30) (.cells #[.slice none 0 0, .int .i64 0, .int .i64 0, .bool false] 30))) (i : Int);have hlen := h.len;have hrm : (zz ⟨l, left, tn, false⟩ (i : Int)) = (l[i]?.getD [], 0) := by simp [zz, hlen]; omega
 rw [hrm] at hrd;have hbs := zN b;rw [hb] at hbs;have hz := xM;have hb2 := zi w (.cells #[.slice A n c, .int .i64 left, .int .i64 tn, .bool false] 30) (.cells #[.slice none 0 0, .int .i64 0, .int .i64 0, .bool false] 30);have HB := sq5 hb2 h hi hn hlen
 have HPRE : ∀ w1, Below ((w.alloc (.cells #[.slice A n c, .int .i64 left, .int .i64 tn, .bool false] 30)).alloc (.cells #[.slice none 0 0, .int .i64 0, .int .i64 0, .bool false] 30)).heap.size ((w.alloc (.cells #[.slice A n c, .int .i64 left, .int .i64 tn, .bool false] 30)).alloc (.cells #[.slice none 0 0, .int .i64 0, .int .i64 0, .bool false] 30)) w1 → Hid (Below w.heap.size w w1 ∧ w1.heap[w.heap.size]? = some (.cells #[.slice A n c, .int .i64 left, .int .i64 tn, .bool false] 30 (0, 0)) ∧ w1.heap[w.heap.size + 1]? = some (.cells #[.slice none 0 0, .int .i64 0, .int .i64 0, .bool false] 30 (0, 0))) := fun w1 hb => by
  have h1 := heap_alloc_new w (.cells #[.slice A n c, .int .i64 left, .int .i64 tn, .bool false] 30);have h2 := heap_alloc_new (w.alloc (.cells #[.slice A n c, .int .i64 left, .int .i64 tn, .bool false] 30)) (.cells #[.slice none 0 0, .int .i64 0, .int .i64 0, .bool false] 30);rw [World.size_alloc] at h2;exact Lib.hid ⟨HB.out.1.trans (hb.mono HB.out.1.size), (hb.block _ (by simp <;> omega)).trans ((Below.heap_alloc _ _ _ (by simp)).trans h1), (hb.block _ (by simp)).trans h2⟩
 have hl0 : (left == 0) = false := by simpa using hl
 obtain ⟨LF, hLF⟩ := sqz (if 0 < left then left - 1 else left);rw [← hLF];have HLF := Lib.hid hLF;clear hLF
 generalize l[i]?.getD [] = X at hrd
 clear hrm hb2 h hlen hb
 go_enter Tryz.func16, Tryz.ntmps16
 go_upto_region 13 with (first
  | (go_at_call 44; refine hrd.mono ?_; clear hrd; rintro _ w1 ⟨rfl, hb1⟩; have H1 := HPRE w1 hb1; clear hb1 HPRE
     obtain ⟨g, c', w2, hrun, hown, hb12⟩ := append_strs (HB.out.2.1.below H1.out.1) (by omega) HB.out.2.2.2.1 28;have H2 := sq5 (H1.out.1.trans (hb12.mono H1.out.1.size)) ((hb12.block _ (zB H1.out.2.1)).trans H1.out.2.1) ((hb12.block _ (zB H1.out.2.2)).trans H1.out.2.2) hown (zB H1.out.2.2);have hq0 : w1.cell? ⟨w.heap.size, 0, none⟩ = some (.slice A n c) := zA H1.out.2.1 0;have hq1 : w2.cell? ⟨w.heap.size, 1, none⟩ = some (.int .i64 left) := zA H2.out.2.1 1;clear hown hb12)
  | (at_builtin; refine zh (by rfl) _ _ 28 (by rfl) (by rfl) (by rfl) hrun ?_; clear hrun))
 have hown := H2.out.2.2.2.1;have hgl := (hown.lt g rfl).1;have hgs := (hown.lt g rfl).2
 have hcg : w2.cell? ⟨g, i, none⟩ = some (.string (st (l[i]?.getD []))) := by
  have h1 := HB.out.2.2.1;have h2 := HB.out.2.2.2.2;rw [hown.cellAt i (by omega), yq, List.getElem?_map, List.getElem?_eq_getElem (by omega)];rfl
 have hfg : w2.frozen? ⟨g, i, none⟩ = false := hown.frozenAt i;have hin : (i : Int) < (n : Int) := by have := HB.out.2.2.1; omega
 have hst := (hown.stored i (.string (st b))).1;rw [strs_set] at hst;have hlq := H2.out.2.2.2.2;have H3 := sq4 (H2.out.1.setCell (p := ⟨g, i, none⟩) (show w.heap.size ≤ g by omega) (.string (st b))) ((Below.heap_setCell w2 ⟨g, i, none⟩ (.string (st b)) w.heap.size (show w.heap.size ≠ g by omega)).trans H2.out.2.1) ((Below.heap_setCell w2 ⟨g, i, none⟩ (.string (st b)) (w.heap.size + 1) (show w.heap.size + 1 ≠ g by omega)).trans H2.out.2.2.1) hst;clear hown hst hq0 hq1
 go_upto_region 14 with fail
 clear hcg hfg
 generalize w2.setCell ⟨g, i, none⟩ (.string (st b)) = w3 at H3 ⊢
 have hq0 : w3.cell? ⟨w.heap.size, 0, none⟩ = some (.slice A n c) := zA H3.out.2.1 0;have hf0 : w3.frozen? ⟨w.heap.size, 0, none⟩ = false := zC H3.out.2.1 0;have hgq : w.heap.size + 1 < g := by have := H2.out.2.2.2.2; omega
 have H4 := sq4 (H3.out.1.setCell (p := ⟨w.heap.size, 0, none⟩) (Nat.le_refl _) (.slice (some ⟨g, 0, none⟩) n c')) (zG H3.out.2.1 0 (.slice (some ⟨g, 0, none⟩) n c')) ((Below.heap_setCell w3 ⟨w.heap.size, 0, none⟩ (.slice (some ⟨g, 0, none⟩) n c') (w.heap.size + 1) (show w.heap.size + 1 ≠ w.heap.size by omega)).trans H3.out.2.2.1) (ownsRow_setCell_other H3.out.2.2.2 (a := ⟨w.heap.size, 0, none⟩) (by simp [Value.ownBlock]; omega) (.slice (some ⟨g, 0, none⟩) n c'))
 go_upto_region 15 with fail
 clear hq0 hf0
 generalize w3.setCell ⟨w.heap.size, 0, none⟩ (.slice (some ⟨g, 0, none⟩) n c') = w4 at H4 ⊢
 have hx4 : w4.heap[w.heap.size]? = some (.cells #[.slice (some ⟨g, 0, none⟩) n c', .int .i64 left, .int .i64 tn, .bool false] 30 (0, 0)) := H4.out.2.1;have hq1 : w4.cell? ⟨w.heap.size, 1, none⟩ = some (.int .i64 left) := zA hx4 1;have hf1 : w4.frozen? ⟨w.heap.size, 1, none⟩ = false := zC hx4 1;have HX4 := Lib.hid hx4;clear hx4
 by_cases hp : 0 < left
 ·have HF : Hid (LF = left - 1) := Lib.hid (by rw [HLF.out, if_pos hp]);have hw := IntWalk.i64_in (left - 1) (by omega);have H5 := sq4 (H4.out.1.setCell (p := ⟨w.heap.size, 1, none⟩) (Nat.le_refl _) (.int .i64 (left - 1))) (zG HX4.out 1 (.int .i64 (left - 1))) ((Below.heap_setCell w4 ⟨w.heap.size, 1, none⟩ (.int .i64 (left - 1)) (w.heap.size + 1) (show w.heap.size + 1 ≠ w.heap.size by omega)).trans H4.out.2.2.1) (ownsRow_setCell_other H4.out.2.2.2 (a := ⟨w.heap.size, 1, none⟩) (by simp [Value.ownBlock]; omega) (.int .i64 (left - 1)))
  go_upto_region 17 with fail
  clear hq1 hf1 hw
  generalize w4.setCell ⟨w.heap.size, 1, none⟩ (.int .i64 (left - 1)) = w5 at H5 ⊢
  have HX5 : Hid (w5.heap[w.heap.size]? = some (.cells #[.slice (some ⟨g, 0, none⟩) n c', .int .i64 (left - 1), .int .i64 tn, .bool false] 30 (0, 0))) := Lib.hid H5.out.2.1
  go_wp2_with (first
   | (refine yA 3 HX5.out Tryz.underlying30 zI ?_)
   | (refine zl 6 61 #[.slice (some ⟨g, 0, none⟩) n c', .int .i64 (left - 1), .int .i64 tn, .bool false] H5.out.2.2.1 zI rfl (dm_one _ _ _ _ _ _) ?_))
  (try simp only [Exit.inBlock, Exit.then])
  refine bodyPost_ret (xR (p := 6) (u := 7) rfl _ _ (w.heap.size + 1) (.slice (some ⟨g, 0, none⟩) n c') (.int .i64 (left - 1)) (.int .i64 tn) (.bool false) rfl (zF H5.out.2.2.1)) rfl ?_;obtain ⟨A', c2, hv, hs⟩ := own_strs H5.out.2.2.2;injection hv with e1 e2 e3
  subst e1 e3;refine ⟨_, _, by rw [HF.out]; rfl, ?_, zD H5.out.1 (by omega) _⟩;exact (hs.turned (zO _) (fun k _ h1 h2 => by have := H2.out.2.2.2.2; omega)).mono fun k _ h1 => by have := H1.out.1.size; omega
 ·have HF : Hid (LF = left) := Lib.hid (by rw [HLF.out, if_neg hp])
  go_wp2_with (first
   | (refine yA 3 HX4.out Tryz.underlying30 zI ?_)
   | (refine zl 6 61 #[.slice (some ⟨g, 0, none⟩) n c', .int .i64 left, .int .i64 tn, .bool false] H4.out.2.2.1 zI rfl (dm_one _ _ _ _ _ _) ?_))
  (try simp only [Exit.inBlock, Exit.then])
  refine bodyPost_ret (xR (p := 6) (u := 7) rfl _ _ (w.heap.size + 1) (.slice (some ⟨g, 0, none⟩) n c') (.int .i64 left) (.int .i64 tn) (.bool false) rfl (zF H4.out.2.2.1)) rfl ?_;obtain ⟨A', c2, hv, hs⟩ := own_strs H4.out.2.2.2;injection hv with e1 e2 e3
  subst e1 e3;refine ⟨_, _, by rw [HF.out]; rfl, ?_, zD H4.out.1 (by omega) _⟩;exact (hs.turned (zO _) (fun k _ h1 h2 => by have := H2.out.2.2.2.2; omega)).mono fun k _ h1 => by have := H1.out.1.size; omega
theorem rbwrite_torn {w : World} {S : Nat → Prop} {A : Option Addr} {n c : Nat} {l : List (List UInt8)} {t : Nat} (h : Strs w S A n c l) (hn : n ≤ 1000000) (i : Nat) (hi : i < n) (b : List UInt8) (hb : b.length = 128) (hx : (l[i]?.getD []).length = 128) (ht : t ≤ 128) :
    Calls Tryz.prog 16 #[.agg #[.slice A n c, .int .i64 0, .int .i64 (t : Int), .bool false], .int .i64 (i : Int), .string (st b)] w fun e w' => ∃ A' c', e = .returned (.tuple #[.agg #[.slice A' n c', .int .i64 0, .int .i64 (t : Int), .bool true], .int .i64 30]) ∧ Strs w' (w.heap.size ≤ ·) A' n c' (l.set i (b.take t ++ (l[i]?.getD []).drop t)) ∧ Below w.heap.size w w' := by
 have hrd := rbread_any (d := ⟨l, 0, (t : Int), false⟩) (h.below (zi w (.cells #[.slice A n c, .int .i64 0, .int .i64 (t : Int), .bool false] 30) (.cells #[.slice none 0 0, .int .i64 0, .int .i64 0, .bool false] 30))) (i : Int);have hlen := h.len;have hrm : (zz ⟨l, 0, (t : Int), false⟩ (i : Int)) = (l[i]?.getD [], 0) := by simp [zz, hlen]; omega
 rw [hrm] at hrd;have hbs := zN b;rw [hb] at hbs;have hz := xM;have hb2 := zi w (.cells #[.slice A n c, .int .i64 0, .int .i64 (t : Int), .bool false] 30) (.cells #[.slice none 0 0, .int .i64 0, .int .i64 0, .bool false] 30);have HB := sq5 hb2 h hi hn hlen
 have HPRE : ∀ w1, Below ((w.alloc (.cells #[.slice A n c, .int .i64 0, .int .i64 (t : Int), .bool false] 30)).alloc (.cells #[.slice none 0 0, .int .i64 0, .int .i64 0, .bool false] 30)).heap.size ((w.alloc (.cells #[.slice A n c, .int .i64 0, .int .i64 (t : Int), .bool false] 30)).alloc (.cells #[.slice none 0 0, .int .i64 0, .int .i64 0, .bool false] 30)) w1 → Hid (Below w.heap.size w w1 ∧ w1.heap[w.heap.size]? = some (.cells #[.slice A n c, .int .i64 0, .int .i64 (t : Int), .bool false] 30 (0, 0)) ∧ w1.heap[w.heap.size + 1]? = some (.cells #[.slice none 0 0, .int .i64 0, .int .i64 0, .bool false] 30 (0, 0))) := fun w1 hb => by
  have h1 := heap_alloc_new w (.cells #[.slice A n c, .int .i64 0, .int .i64 (t : Int), .bool false] 30);have h2 := heap_alloc_new (w.alloc (.cells #[.slice A n c, .int .i64 0, .int .i64 (t : Int), .bool false] 30)) (.cells #[.slice none 0 0, .int .i64 0, .int .i64 0, .bool false] 30);rw [World.size_alloc] at h2;exact Lib.hid ⟨HB.out.1.trans (hb.mono HB.out.1.size), (hb.block _ (by simp <;> omega)).trans ((Below.heap_alloc _ _ _ (by simp)).trans h1), (hb.block _ (by simp)).trans h2⟩
 have hxs := zN (l[i]?.getD []);rw [hx] at hxs;have hto := fun W => st_to (P := Tryz.prog) 9 Tryz.underlying9 b W t (t : Int) rfl (by omega)
 have hfr := fun W => st_from (P := Tryz.prog) 9 Tryz.underlying9 (l[i]?.getD []) W t (t : Int) rfl (by omega)
 have s1 := zN (b.take t);have s2 := zN ((l[i]?.getD []).drop t);have hap := xA (b.take t) ((l[i]?.getD []).drop t);rw [List.length_take, hb, Nat.min_eq_left ht] at s1;rw [List.length_drop, hx] at s2;obtain ⟨r, hr⟩ := sqz (128 - t);rw [← hr] at s2;have hsum : ¬ 9223372036854775807 < t + r := by omega
 obtain ⟨Y, hY⟩ := sqz (b.take t ++ (l[i]?.getD []).drop t);rw [← hY] at hap;rw [← hY]
 generalize b.take t = b1 at *
 generalize (l[i]?.getD []).drop t = b2 at *
 have HXL := Lib.hid (show l[i]?.getD [] = l[i]?.getD [] from rfl);obtain ⟨X, hXe⟩ := sqz (l[i]?.getD []);rw [← hXe] at hrd hfr hxs;have HXE := Lib.hid hXe;clear hrm hb2 h hlen hb hx hr hY hXe HXL
 go_enter Tryz.func16, Tryz.ntmps16
 go_upto_region 9 with (first
  | (go_at_call 44; refine hrd.mono ?_; clear hrd; rintro _ w1 ⟨rfl, hb1⟩; have H1 := HPRE w1 hb1; clear hb1 HPRE
     obtain ⟨g, c', w2, hrun, hown, hb12⟩ := append_strs (HB.out.2.1.below H1.out.1) (by omega) HB.out.2.2.2.1 28;have H2 := sq5 (H1.out.1.trans (hb12.mono H1.out.1.size)) ((hb12.block _ (zB H1.out.2.1)).trans H1.out.2.1) ((hb12.block _ (zB H1.out.2.2)).trans H1.out.2.2) hown (zB H1.out.2.2);have hq0 : w1.cell? ⟨w.heap.size, 0, none⟩ = some (.slice A n c) := zA H1.out.2.1 0;have hq1 : w2.cell? ⟨w.heap.size, 1, none⟩ = some (.int .i64 0) := zA H2.out.2.1 1;clear hown hb12)
  | (at_builtin; refine zh (by rfl) _ _ 28 (by rfl) (by rfl) (by rfl) hrun ?_; clear hrun))
 have hown := H2.out.2.2.2.1;have hgl := (hown.lt g rfl).1;have hgs := (hown.lt g rfl).2
 have hcg : w2.cell? ⟨g, i, none⟩ = some (.string (st (l[i]?.getD []))) := by
  have h1 := HB.out.2.2.1;have h2 := HB.out.2.2.2.2;rw [hown.cellAt i (by omega), yq, List.getElem?_map, List.getElem?_eq_getElem (by omega)];rfl
 have hfg : w2.frozen? ⟨g, i, none⟩ = false := hown.frozenAt i;have hin : (i : Int) < (n : Int) := by have := HB.out.2.2.1; omega
 have hst := (hown.stored i (.string (st Y))).1;rw [strs_set] at hst;have hlq := H2.out.2.2.2.2;have hq2 : w2.cell? ⟨w.heap.size, 2, none⟩ = some (.int .i64 (t : Int)) := zA H2.out.2.1 2;have H3 : Hid (Below w.heap.size w (w2.drew.setCell ⟨g, i, none⟩ (.string (st Y))) ∧ (w2.drew.setCell ⟨g, i, none⟩ (.string (st Y))).heap[w.heap.size]? = some (.cells #[.slice A n c, .int .i64 0, .int .i64 (t : Int), .bool false] 30 (0, 0)) ∧ (w2.drew.setCell ⟨g, i, none⟩ (.string (st Y))).heap[w.heap.size + 1]? = some (.cells #[.slice none 0 0, .int .i64 0, .int .i64 0, .bool false] 30 (0, 0)) ∧ (w2.drew.setCell ⟨g, i, none⟩ (.string (st Y))).ownsRow w1.heap.size 9 1 (.slice (some ⟨g, 0, none⟩) n c') n (yq (l.set i Y))) := Lib.hid ⟨(yG H2.out.1).setCell (p := ⟨g, i, none⟩) (show w.heap.size ≤ g by omega) _, (Below.heap_setCell w2 ⟨g, i, none⟩ (.string (st Y)) w.heap.size (show w.heap.size ≠ g by omega)).trans H2.out.2.1, (Below.heap_setCell w2 ⟨g, i, none⟩ (.string (st Y)) (w.heap.size + 1) (show w.heap.size + 1 ≠ g by omega)).trans H2.out.2.2.1, hst⟩;clear hown hst hq0 hq1;have hq2d : w2.drew.cell? ⟨w.heap.size, 2, none⟩ = some (.int .i64 (t : Int)) := hq2;have hcgd : w2.drew.cell? ⟨g, i, none⟩ = some (.string (st (l[i]?.getD []))) := hcg;have hfgd : w2.drew.frozen? ⟨g, i, none⟩ = false := hfg;clear hq2 hcg hfg;refine sqpl (fun W => W.cell? ⟨w.heap.size, 2, none⟩ = some (.int .i64 (t : Int))) [([0, 1, 2, 3, 4, 5, 6, 7, 8, 9, 10, 11], 12)] [] hq2d ?_
 generalize w2.drew = wd at *
 refine zR ?_;refine sqr ?_
 try simp only [Act.put, sqp]
 refine sqr ?_
 try simp only [Act.put, sqp]
 refine sqr ?_
 try simp only [Act.put, sqp]
 refine sqr ?_
 try simp only [Act.put, sqp]
 refine sqr ?_
 try simp only [Act.put, sqp]
 refine sqr ?_
 try simp only [Act.put, sqp]
 refine sqr ?_
 try simp only [Act.put, sqp]
 refine sqr ?_
 try simp only [Act.put, sqp]
 refine sqr ?_
 try simp only [Act.put, sqp]
 refine sqr ?_
 try simp only [Act.put, sqp]
 refine zE ?v11 (by rfl) (by rfl) ?h11 ?_
 case h11 => intro W hW; go_simp; (try rw [if_neg hsum]); with_reducible rfl
 try simp only [Act.put, sqp]
 refine sqr ?_
 try simp only [Act.put, sqp]
 refine zH ?_;refine zr (by rfl) (fun K hK => ?_);go_simp;refine hK _ _ ⟨fun W => W = wd.setCell ⟨g, i, none⟩ (.string (st Y)), rfl, fun W e => by rw [e]; exact zA H3.out.2.1 2, ?_⟩;clear hK K
 try simp only [Act.put, sqp]
 refine zZ ?_;refine zH ?_
 generalize wd.setCell ⟨g, i, none⟩ (.string (st Y)) = w3 at H3 ⊢
 clear hq2d hcgd hfgd;have hq0 : w3.cell? ⟨w.heap.size, 0, none⟩ = some (.slice A n c) := zA H3.out.2.1 0;have hf0 : w3.frozen? ⟨w.heap.size, 0, none⟩ = false := zC H3.out.2.1 0;have hgq : w.heap.size + 1 < g := by omega
 have H4 := sq4 (H3.out.1.setCell (p := ⟨w.heap.size, 0, none⟩) (Nat.le_refl _) (.slice (some ⟨g, 0, none⟩) n c')) (zG H3.out.2.1 0 (.slice (some ⟨g, 0, none⟩) n c')) ((Below.heap_setCell w3 ⟨w.heap.size, 0, none⟩ (.slice (some ⟨g, 0, none⟩) n c') (w.heap.size + 1) (show w.heap.size + 1 ≠ w.heap.size by omega)).trans H3.out.2.2.1) (ownsRow_setCell_other H3.out.2.2.2 (a := ⟨w.heap.size, 0, none⟩) (by simp [Value.ownBlock]; omega) (.slice (some ⟨g, 0, none⟩) n c'))
 go_upto_region 11 with fail
 clear hq0 hf0
 generalize w3.setCell ⟨w.heap.size, 0, none⟩ (.slice (some ⟨g, 0, none⟩) n c') = w4 at H4 ⊢
 have hx4 : w4.heap[w.heap.size]? = some (.cells #[.slice (some ⟨g, 0, none⟩) n c', .int .i64 0, .int .i64 (t : Int), .bool false] 30 (0, 0)) := H4.out.2.1;have hq3 : w4.cell? ⟨w.heap.size, 3, none⟩ = some (.bool false) := zA hx4 3;have hf3 : w4.frozen? ⟨w.heap.size, 3, none⟩ = false := zC hx4 3;have H5 := sq4 (H4.out.1.setCell (p := ⟨w.heap.size, 3, none⟩) (Nat.le_refl _) (.bool true)) (zG hx4 3 (.bool true)) ((Below.heap_setCell w4 ⟨w.heap.size, 3, none⟩ (.bool true) (w.heap.size + 1) (show w.heap.size + 1 ≠ w.heap.size by omega)).trans H4.out.2.2.1) (ownsRow_setCell_other H4.out.2.2.2 (a := ⟨w.heap.size, 3, none⟩) (by simp [Value.ownBlock]; omega) (.bool true));clear hx4
 go_upto_region 12 with fail
 clear hq3 hf3
 generalize w4.setCell ⟨w.heap.size, 3, none⟩ (.bool true) = w5 at H5 ⊢
 have HX5 : Hid (w5.heap[w.heap.size]? = some (.cells #[.slice (some ⟨g, 0, none⟩) n c', .int .i64 0, .int .i64 (t : Int), .bool true] 30 (0, 0))) := Lib.hid H5.out.2.1
 go_wp2_with (first
  | (refine yA 3 HX5.out Tryz.underlying30 zI ?_)
  | (refine zl 6 47 #[.slice (some ⟨g, 0, none⟩) n c', .int .i64 0, .int .i64 (t : Int), .bool true] H5.out.2.2.1 zI rfl (dm_one _ _ _ _ _ _) ?_))
 (try simp only [Exit.inBlock, Exit.then])
 refine bodyPost_ret (xR (p := 6) (u := 7) rfl _ _ (w.heap.size + 1) (.slice (some ⟨g, 0, none⟩) n c') (.int .i64 0) (.int .i64 (t : Int)) (.bool true) rfl (zF H5.out.2.2.1)) rfl ?_;obtain ⟨A', c2, hv, hs⟩ := own_strs H5.out.2.2.2;injection hv with e1 e2 e3
 subst e1 e3;refine ⟨_, _, rfl, ?_, zD H5.out.1 (by omega) _⟩;exact (hs.turned (zO _) (fun k _ h1 h2 => by have := H2.out.2.2.2.2; omega)).mono fun k _ h1 => by have := H1.out.1.size; omega
structure DM.Ok (d : DM) : Prop where
 each : ∀ x ∈ d.l, x.length = 128
 torn : 0 ≤ d.torn ∧ d.torn ≤ 128
 left : -9223372036854775808 ≤ d.left ∧ d.left ≤ 9223372036854775807
theorem readM_no {d : DM} {i : Int} {b : List UInt8} (h : (zz d i).2 ≠ 0 ∨ b.length ≠ 128) : zm d i b = (d, if (zz d i).2 = 0 then 1 else (zz d i).2) := by
 unfold zz at h ⊢;unfold zm
 by_cases h1 : d.down = true
 ·rw [if_pos h1, if_pos h1]; rfl
 ·rw [if_neg h1] at h;rw [if_neg h1, if_neg h1]
  by_cases h2 : i < 0 ∨ (d.l.length : Int) ≤ i
  ·rw [if_pos h2, if_pos h2]; rfl
  ·rw [if_neg h2] at h;rw [if_neg h2, if_neg h2];have h3 : b.length ≠ 128 := h.resolve_left (fun h => h rfl);rw [if_pos h3]; rfl
theorem readM_yes {d : DM} {i : Int} (h : (zz d i).2 = 0) : d.down = false ∧ 0 ≤ i ∧ i < (d.l.length : Int) := by
 unfold zz at h
 by_cases h1 : d.down = true
 ·rw [if_pos h1] at h; exact absurd h (by decide)
 ·rw [if_neg h1] at h
  by_cases h2 : i < 0 ∨ (d.l.length : Int) ≤ i
  ·rw [if_pos h2] at h; exact absurd h (by decide)
  ·exact ⟨by simpa using h1, by omega, by omega⟩
theorem rbwrite_any {w : World} {S : Nat → Prop} {A : Option Addr} {n c : Nat} {d : DM} (h : Strs w S A n c d.l) (hn : n ≤ 1000000) (ok : d.Ok) (i : Int) (b : List UInt8) :
    Calls Tryz.prog 16 #[.agg (dmV d A n c), .int .i64 i, .string (st b)] w fun e w' => ∃ A' c', e = .returned (.tuple #[.agg (dmV (zm d i b).1 A' n c'), .int .i64 (zm d i b).2]) ∧ Strs w' (fun k => S k ∨ w.heap.size ≤ k) A' n c' (zm d i b).1.l ∧ Below w.heap.size w w' := by
 by_cases hs : (zz d i).2 ≠ 0 ∨ b.length ≠ 128
 ·rw [readM_no hs];refine (rbwrite_stay h i b hs).mono ?_;rintro _ w' ⟨rfl, hb⟩;exact ⟨A, c, rfl, (h.below hb).mono fun k _ hk => .inl hk, hb⟩
 ·have hr : (zz d i).2 = 0 := Classical.byContradiction fun h => hs (.inl h)
  have hl : b.length = 128 := Classical.byContradiction fun h => hs (.inr h)
  obtain ⟨hd, h0, h1⟩ := readM_yes hr;obtain ⟨i', rfl⟩ := Int.eq_ofNat_of_zero_le h0;have hlen := h.len;obtain ⟨l, left, torn, down⟩ := d;simp only at hd hlen h1 h;subst hd
  have hw : zm ⟨l, left, torn, false⟩ (i' : Int) b = if left = 0 then (⟨l.set i' (b.take torn.toNat ++ (l[i']?.getD []).drop torn.toNat), left, torn, true⟩, 30) else (⟨l.set i' b, if 0 < left then left - 1 else left, torn, false⟩, 0) := by
   unfold zm;rw [if_neg (by simp), if_neg (by simp only; omega), if_neg (by simpa using hl)];simp
  rw [hw]
  by_cases hz : left = 0
  ·subst hz;rw [if_pos rfl];obtain ⟨t, rfl⟩ := Int.eq_ofNat_of_zero_le ok.torn.1;have ht := ok.torn.2;simp only at ht;refine (rbwrite_torn (t := t) h hn i' (by omega) b hl ?_ (by omega)).mono ?_
   ·(have hil : i' < l.length := by omega);rw [List.getElem?_eq_getElem hil];exact ok.each _ (List.getElem_mem hil)
   ·rintro _ w' ⟨A', c', rfl, h2, h3⟩;exact ⟨A', c', rfl, h2.mono fun k _ hk => .inr hk, h3⟩
  ·rw [if_neg hz];refine (rbwrite_done (tn := torn) h hn i' (by omega) b hl hz ok.left).mono ?_;rintro _ w' ⟨A', c', rfl, h2, h3⟩;exact ⟨A', c', rfl, h2.mono fun k _ hk => .inr hk, h3⟩
theorem writeM_ok {d : DM} (ok : d.Ok) (i : Int) (b : List UInt8) : (zm d i b).1.Ok := by
 by_cases hs : (zz d i).2 ≠ 0 ∨ b.length ≠ 128
 ·rw [readM_no hs]; exact ok
 ·have hr : (zz d i).2 = 0 := Classical.byContradiction fun h => hs (.inl h)
  have hl : b.length = 128 := Classical.byContradiction fun h => hs (.inr h)
  obtain ⟨hd, h0, h1⟩ := readM_yes hr;unfold zm;rw [if_neg (by simp [hd]), if_neg (by omega), if_neg (by omega)]
  have hx : (d.l[i.toNat]?.getD []).length = 128 := by
   (have hil : i.toNat < d.l.length := by omega);rw [List.getElem?_eq_getElem hil];exact ok.each _ (List.getElem_mem hil)
  have ht := ok.torn
  split
  ·refine ⟨fun x hx2 => ?_, ok.torn, ok.left⟩;rcases List.mem_or_eq_of_mem_set hx2 with h | rfl
   ·exact ok.each x h
   ·rw [List.length_append, List.length_take, List.length_drop, hx, hl];omega
  ·refine ⟨fun x hx2 => ?_, ok.torn, ?_⟩
   ·rcases List.mem_or_eq_of_mem_set hx2 with h | rfl
    ·exact ok.each x h
    ·exact hl
   ·have := ok.left;simp only
    split <;> omega
theorem stopM_ok {d : DM} (ok : d.Ok) {after torn : Int} (h : -9223372036854775808 ≤ after ∧ after ≤ 9223372036854775807) : (stopM d after torn).Ok := by
 refine ⟨ok.each, ?_, ?_⟩
 ·unfold stopM;simp only
  split
  ·omega
  ·split <;> omega
 ·unfold stopM;simp only
  split <;> omega
theorem restartM_ok {d : DM} (ok : d.Ok) : (xP d).Ok := ⟨ok.each, ok.torn, by unfold xP; simp only; omega⟩
def yQ : List UInt8 := List.replicate 128 0
def newM (k : Int) : DM × Int := if k < 1 ∨ 65536 < k then (⟨[], 0, 0, false⟩, 1) else (⟨List.replicate k.toNat yQ, -1, 0, false⟩, 0)
def RNw (w1 : World) (k : Nat) (v i : Value) (wr : World) : Prop := ∃ j : Nat, j ≤ k ∧ i = .int .i64 (j : Int) ∧ wr.ownsRow w1.heap.size 9 1 v j (yq (List.replicate j yQ)) ∧ Below w1.heap.size w1 wr
theorem rbnew_ok (k : Nat) (h1 : 1 ≤ k) (h2 : k ≤ 65536) (w : World) :
    Calls Tryz.prog 6 #[.int .i64 (k : Int)] w fun e w' => ∃ A' c', e = .returned (.tuple #[.agg #[.slice A' k c', .int .i64 (-1), .int .i64 0, .bool false], .int .i64 0]) ∧ Strs w' (w.heap.size ≤ ·) A' k c' (List.replicate k yQ) ∧ Below w.heap.size w w' := by
 have hz := xM;obtain ⟨i0, hi, hz0, hz1, hz2⟩ := info_parts str_info2;have HI := sq4 hi hz0 hz1 hz2;have h3 : ¬ (k : Int) < 1 := by omega
 have h4 : ¬ (65536 : Int) < (k : Int) := by omega
 obtain ⟨w1, hw1⟩ : ∃ w1, w.alloc (.cells #[.slice none 0 0, .int .i64 0, .int .i64 0, .bool false] 30) = w1 := ⟨_, rfl⟩
 have H1 : Hid (Below w.heap.size w w1 ∧ w1.heap[w.heap.size]? = some (.cells #[.slice none 0 0, .int .i64 0, .int .i64 0, .bool false] 30 (0, 0)) ∧ 1 ≤ k ∧ k ≤ 65536) := Lib.hid ⟨by rw [← hw1]; exact (Below.refl _ _).alloc (Nat.le_refl _) _, by rw [← hw1]; exact heap_alloc_new w _, h1, h2⟩;clear hi hz0 hz1 hz2 h1 h2
 go_enter Tryz.func6, Tryz.ntmps6
 go_wp2_with fail
 try rw [hw1]
 clear hw1
 go_loopw [4, 5] (fun v i wr => RNw w1 k v i wr) (fun _ i _ => k - (intOf i).toNat)
 case atStart => exact ⟨0, Nat.zero_le _, rfl, World.ownsRow_nil _ _ _ _, Below.refl _ _⟩
 case round =>
  obtain ⟨j, hj, rfl, hown, hbr⟩ := hrel;have HR := sq3 hj hown hbr
  by_cases hlt : j < k
  ·(have hlt' : (j : Int) < (k : Int) := by omega);have hmk : (Instr.makeSlice 54 (.int .i64 128) (.int .i64 128)).run Tryz.prog wr = _ := make_bytes wr 128 (by omega);have hcv := yM (byt_new (w := wr) (List.replicate 128 0) 5 (0, 0) (by simp));have hbm : Below wr.heap.size wr (wr.alloc (.cells (u8s (List.replicate 128 0)).toArray 5)) := (Below.refl _ _).alloc (Nat.le_refl _) _;simp only [List.length_replicate] at hcv;have hcv2 : (convert 54 9 (.slice (some ⟨wr.heap.size, 0, none⟩) 128 128)).run Tryz.prog (wr.alloc (.cells (u8s (List.replicate 128 0)).toArray 5)) = .ok (.string (st yQ)) (wr.alloc (.cells (u8s (List.replicate 128 0)).toArray 5)) := hcv;have HM := Lib.hid hbm;have hadd := IntWalk.i64_in ((j : Int) + 1) (by have := H1.out.2.2.2; omega);clear hj hown hbr hcv hbm
   (generalize wr.alloc (.cells (u8s (List.replicate 128 0)).toArray 5) = wm at *);have HO := Lib.hid (yN HR.out.2.1 HM.out);have HBM := Lib.hid (HR.out.2.2.trans (HM.out.mono HR.out.2.2.size))
   go_wp2_with (at_builtin; refine wpList_append_own_at _ rfl _ _ 28 rfl w1.heap.size 9 i0 (.string ByteArray.empty) 1 16 Tryz.underlying28 HI.out.1 HI.out.2.1 HI.out.2.2.1 HI.out.2.2.2 rfl (by decide) _ j (yq (List.replicate j yQ)) rfl (HO.out.alloc _) ⟨wm.heap.size, 0, none⟩ 1 1 [.string (st yQ)] rfl rfl (cell_one_new _ _ _) (one_of rfl) (by have := H1.out.2.2.2; unfold maxLen; omega) (by have := H1.out.2.2.2; omega) (by have := HBM.out.size; simp; omega) ?_)
   intro v' w2 hown2 hgrow _ _;have hlt2 := HO.out.lt;have hsz := HBM.out.size;have HB2 : Hid (Below w1.heap.size w1 w2) := Lib.hid ((HBM.out.alloc hsz _).grown hgrow (by simp; omega) (fun b hb => (hlt2 b hb).1))
   have HO2 : Hid (w2.ownsRow w1.heap.size 9 1 v' (j + 1) (yq (List.replicate (j + 1) yQ))) := Lib.hid (by
    rw [List.replicate_succ', yq, List.map_append];exact hown2)
   clear hown2 hgrow hlt2 hsz
   go_wp2_with fail
   go_roundw
   case rel => unfold RNw; exact ⟨j + 1, by omega, by simp, HO2.out, HB2.out⟩
   case measure => simp only [intOf]; omega
  ·(have hlt' : ¬ (j : Int) < (k : Int) := by omega);(obtain rfl : j = k := by omega);obtain ⟨A', c', rfl, hs⟩ := own_strs hown;have hx := (hbr.block _ (zB H1.out.2.1)).trans H1.out.2.1;have HF := sq3 hs hx (H1.out.1.trans (hbr.mono H1.out.1.size));clear hj hown hbr hs hx
   go_wp2_with (refine zl 2 24 #[.slice A' j c', .int .i64 (-1), .int .i64 0, .bool false] HF.out.2.1 zI rfl (dm_one _ _ _ _ _ _) ?_)
   (try simp only [Exit.inBlock, Exit.then])
   refine bodyPost_ret (xR (p := 2) (u := 3) rfl _ _ w.heap.size (.slice A' j c') (.int .i64 (-1)) (.int .i64 0) (.bool false) rfl (zF HF.out.2.1)) rfl ?_;refine ⟨_, _, rfl, ?_, zD HF.out.2.2 (Nat.le_refl _) _⟩;exact (HF.out.1.turned (zO _) (fun q _ h1 h2 => by have := zB H1.out.2.1; omega)).mono fun q _ h1 => by have := H1.out.1.size; omega
theorem rbnew_no (k : Int) (h : k < 1 ∨ 65536 < k) (w : World) :
    Calls Tryz.prog 6 #[.int .i64 k] w fun e w' => e = .returned (.tuple #[.agg #[.slice none 0 0, .int .i64 0, .int .i64 0, .bool false], .int .i64 1]) ∧ Below w.heap.size w w' := by
 have hz := xM;have hg := heap_alloc_new w (.cells #[.slice none 0 0, .int .i64 0, .int .i64 0, .bool false] 30);have HG := sq2 hg ((Below.refl w.heap.size w).alloc (Nat.le_refl _) (.cells #[.slice none 0 0, .int .i64 0, .int .i64 0, .bool false] 30));clear hg
 by_cases h1 : k < 1
 ·clear h
  go_enter Tryz.func6, Tryz.ntmps6
  go_wp2_with (refine zl 2 12 #[.slice none 0 0, .int .i64 0, .int .i64 0, .bool false] HG.out.1 zI rfl (dm_one _ _ _ _ _ _) ?_)
  (try simp only [Exit.inBlock, Exit.then])
  refine bodyPost_ret (xR (p := 2) (u := 3) rfl _ _ w.heap.size (.slice none 0 0) (.int .i64 0) (.int .i64 0) (.bool false) rfl (zF HG.out.1)) rfl ?_;exact ⟨rfl, zD HG.out.2 (Nat.le_refl _) _⟩
 ·have h2 : 65536 < k := h.resolve_left h1;clear h
  go_enter Tryz.func6, Tryz.ntmps6
  go_wp2_with (refine zl 2 12 #[.slice none 0 0, .int .i64 0, .int .i64 0, .bool false] HG.out.1 zI rfl (dm_one _ _ _ _ _ _) ?_)
  (try simp only [Exit.inBlock, Exit.then])
  refine bodyPost_ret (xR (p := 2) (u := 3) rfl _ _ w.heap.size (.slice none 0 0) (.int .i64 0) (.int .i64 0) (.bool false) rfl (zF HG.out.1)) rfl ?_;exact ⟨rfl, zD HG.out.2 (Nat.le_refl _) _⟩
theorem rbnew_any (k : Int) (w : World) :
    Calls Tryz.prog 6 #[.int .i64 k] w fun e w' => ∃ A' n' c', e = .returned (.tuple #[.agg (dmV (newM k).1 A' n' c'), .int .i64 (newM k).2]) ∧ Strs w' (w.heap.size ≤ ·) A' n' c' (newM k).1.l ∧ Below w.heap.size w w' := by
 by_cases h : k < 1 ∨ 65536 < k
 ·have e : newM k = (⟨[], 0, 0, false⟩, 1) := by rw [newM, if_pos h]
  rw [e];refine (rbnew_no k h w).mono ?_;rintro _ w' ⟨rfl, hb⟩;exact ⟨none, 0, 0, rfl, Strs.nil _ _ _ _ (Nat.zero_le _), hb⟩
 ·obtain ⟨j, rfl⟩ := Int.eq_ofNat_of_zero_le (show 0 ≤ k by omega);have e : newM (j : Int) = (⟨List.replicate j yQ, -1, 0, false⟩, 0) := by rw [newM, if_neg h]; rfl
  rw [e];refine (rbnew_ok j (by omega) (by omega) w).mono ?_;rintro _ w' ⟨A', c', rfl, h1, h2⟩;exact ⟨A', j, c', rfl, h1, h2⟩
theorem newM_ok (k : Int) : (newM k).1.Ok := by
 unfold newM
 split
 ·exact ⟨fun x hx => absurd hx (by simp), by simp, by simp⟩
 ·exact ⟨fun x hx => by rw [List.eq_of_mem_replicate hx]; rfl, by simp, by simp⟩
/-! A log's blocks, in lists: numbers of eight bytes, the highest first; a block's bytes; what stands in one. -/
def besL (N : Nat) : Nat → List UInt8
 | 0 => []
 | j + 1 => UInt8.ofNat (N / 256 ^ j) :: besL N j
theorem besL_length (N : Nat) : ∀ j, (besL N j).length = j
 | 0 => rfl
 | j + 1 => by simp [besL, besL_length N j]
def numL (N : Nat) : List UInt8 := besL N 8
theorem zV (N : Nat) : (numL N).length = 8 := besL_length N 8
def yC (l : List UInt8) : Nat := l.foldl (fun n b => n * 256 + b.toNat) 0
theorem valL_nil : yC [] = 0 := rfl
theorem valL_snoc (l : List UInt8) (b : UInt8) : yC (l ++ [b]) = yC l * 256 + b.toNat := by simp [yC]
theorem val_fold : ∀ (l : List UInt8) (n : Nat), l.foldl (fun n b => n * 256 + b.toNat) n = n * 256 ^ l.length + yC l
 | [], n => by simp [yC]
 | b :: l, n => by
   have h1 := val_fold l (n * 256 + b.toNat);have h2 := val_fold l b.toNat;(have h3 : yC (b :: l) = l.foldl (fun n b => n * 256 + b.toNat) b.toNat := by simp [yC]);rw [List.foldl_cons, h1, h3, h2, List.length_cons, Nat.pow_succ, Nat.add_mul, Nat.mul_assoc, Nat.mul_comm 256, Nat.add_assoc]
theorem valL_cons (b : UInt8) (l : List UInt8) : yC (b :: l) = b.toNat * 256 ^ l.length + yC l := by
 have h3 : yC (b :: l) = l.foldl (fun n b => n * 256 + b.toNat) b.toNat := by simp [yC]
 rw [h3, val_fold]
theorem valL_lt : ∀ l : List UInt8, yC l < 256 ^ l.length
 | [] => by simp [yC]
 | b :: l => by
   have h1 := valL_lt l;have h2 := b.toNat_lt;have h3 : b.toNat * 256 ^ l.length ≤ 255 * 256 ^ l.length := Nat.mul_le_mul_right _ (by omega);rw [valL_cons, List.length_cons, Nat.pow_succ];omega
theorem valL_bes (N : Nat) : ∀ j, yC (besL N j) = N % 256 ^ j
 | 0 => by rw [besL, valL_nil, Nat.pow_zero, Nat.mod_one]
 | j + 1 => by
   have h := Nat.mod_mul (x := N) (a := 256 ^ j) (b := 256);rw [← Nat.pow_succ] at h;rw [besL, valL_cons, besL_length, valL_bes N j, UInt8.toNat_ofNat', h, show (2 : Nat) ^ 8 = 256 from rfl, Nat.mul_comm, Nat.add_comm]
theorem valL_num {N : Nat} (h : N < 18446744073709551616) : yC (numL N) = N := by
 rw [numL, valL_bes, Nat.mod_eq_of_lt (by omega)]
def zU (n : Nat) (part : List UInt8) (e : Bool) : List UInt8 := numL n ++ [UInt8.ofNat part.length, if e then 1 else 0] ++ part ++ List.replicate (110 - part.length) 0 ++ numL n
theorem yv (n : Nat) {part : List UInt8} (e : Bool) (h : part.length ≤ 110) : (zU n part e).length = 128 := by
 simp [zU, zV];omega
def ze (b : List UInt8) : Nat × List UInt8 × Bool :=
 if b.length ≠ 128 ∨ 110 < (b[8]?.getD 0).toNat ∨ 1 < (b[9]?.getD 0).toNat then (0, [], false)
 else
  let n := yC (b.take 8);let part := (b.drop 10).take (b[8]?.getD 0).toNat
  if zU n part (decide ((b[9]?.getD 0).toNat = 1)) ≠ b ∨ (b[9]?.getD 0).toNat = 0 ∧ part.length < 110 then (0, [], false) else (n, part, decide ((b[9]?.getD 0).toNat = 1))
def zP (n : Nat) : Nat := if n = 0 then 1 else (n + 109) / 110
theorem blocksN_at (n k : Nat) (h : n ≤ 110 * k) (h2 : k = 1 ∨ 110 * (k - 1) < n) (hk : 1 ≤ k) : zP n = k := by
 unfold zP
 split
 ·omega
 ·rcases h2 with rfl | h2 <;> omega
/-! What a log is, by values: what Open tells of blocks. -/
structure LM where
 from_ : Int
 n : Int
 first : Nat
 next : Nat
 have_ : Nat
 l : List (List UInt8)
 e : Int
def lmV (m : LM) (A : Option Addr) (n c : Nat) : Array Value := #[.int .i64 m.from_, .int .i64 m.n, .int .u64 (m.first : Int), .int .u64 (m.next : Int), .int .i64 (m.have_ : Int), .slice A n c, .int .i64 m.e]
def lm0 : LM := ⟨0, 0, 0, 0, 0, [], 0⟩
def mostS (m : Nat) (b : List UInt8) : Nat := max (max m (yC (b.take 8))) (yC (b.drop 120))
def xQ (bs : List (List UInt8)) : Nat := bs.foldl mostS 0
theorem most_snoc (bs : List (List UInt8)) (b : List UInt8) : xQ (bs ++ [b]) = mostS (xQ bs) b := by simp [xQ]
theorem val8 (b : List UInt8) : yC (b.take 8) < 18446744073709551616 := by
 have h := valL_lt (b.take 8);have h2 : 256 ^ (b.take 8).length ≤ 256 ^ 8 := Nat.pow_le_pow_right (by omega) (by rw [List.length_take]; omega);have h3 : (256 : Nat) ^ 8 = 18446744073709551616 := by decide
 omega
theorem val120 {b : List UInt8} (hb : b.length = 128) : yC (b.drop 120) < 18446744073709551616 := by
 have h := valL_lt (b.drop 120);rw [List.length_drop, hb] at h;exact h
theorem most_lt : ∀ (bs : List (List UInt8)), (∀ b ∈ bs, b.length = 128) → ∀ m, m < 18446744073709551616 → bs.foldl mostS m < 18446744073709551616
 | [], _, _, h => h
 | b :: bs, hb, m, h => by
   rw [List.foldl_cons];refine most_lt bs (fun x hx => hb x (by simp [hx])) _ ?_;have h1 := val8 b;have h2 := val120 (hb b (by simp));unfold mostS;omega
structure WS where
 now : List UInt8
 within : Bool
 ahead : Nat
 fst : Nat
 recs : List (List UInt8)
 have_ : Nat
 first : Nat
def ws0 : WS := ⟨[], false, 0, 0, [], 0, 0⟩
def badW (s : WS) (k : Nat) : Bool := decide (k = 0) || decide (k ≤ s.ahead) || (s.within && decide (k - s.ahead ≠ 1))
def zf (i : Nat) (s : WS) (k : Nat) (part : List UInt8) (e : Bool) : WS :=
 if e then ⟨[], false, k, if i = 0 then k else s.fst, s.recs ++ [s.now ++ part], i + 1, if i = 0 then k else s.fst⟩
 else ⟨s.now ++ part, true, k, if i = 0 then k else s.fst, s.recs, s.have_, s.first⟩
def zk : List (List UInt8) → Nat → WS → WS
 | [], _, s => s
 | b :: bs, i, s => if badW s (ze b).1 = true then s else zk bs (i + 1) (zf i s (ze b).1 (ze b).2.1 (ze b).2.2)
def yd (bs : List (List UInt8)) (from_ n : Int) : LM :=
 let s := zk bs 0 ws0
 ⟨from_, n, s.first, (xQ bs + 1) % 18446744073709551616, s.have_, s.recs, 0⟩
def zW (l : List (List UInt8)) (from_ n : Int) : List (List UInt8) := (l.drop from_.toNat).take n.toNat
def zo (len : Nat) (down : Bool) (from_ n : Int) : Int := if from_ < 0 ∨ n < 1 ∨ (len : Int) < from_ ∨ (len : Int) - from_ < n then 1 else if down then 30 else 0
theorem readL_small (b : List UInt8) : (ze b).1 < 18446744073709551616 ∧ (ze b).2.1.length ≤ 110 := by
 unfold ze
 split
 ·exact ⟨by omega, by simp⟩
 ·rename_i h
  simp only
  split
  ·exact ⟨by omega, by simp⟩
  ·refine ⟨val8 b, ?_⟩;rw [List.length_take];omega
/-! Begin, by values. -/
def zj (m : LM) (from_ n : Int) (least : Nat) : LM := ⟨from_, n, 0, if 0 < m.next ∧ m.next < least then least else m.next, 0, [], 0⟩
/-! Add, by values. -/
def partL (b : List UInt8) (i : Nat) : List UInt8 := (b.drop (110 * i)).take 110
def recB (x : Nat) (b : List UInt8) (n i : Nat) : List UInt8 := zU (x + i) (partL b i) (decide (i + 1 = n))
def yF (at_ : Int) (x : Nat) (b : List UInt8) (n : Nat) : Nat → Nat → DM → DM × Int
 | 0, _, d => (d, 0)
 | k + 1, i, d => if (zm d (at_ + (i : Int)) (recB x b n i)).2 = 0 then yF at_ x b n k (i + 1) (zm d (at_ + (i : Int)) (recB x b n i)).1 else zm d (at_ + (i : Int)) (recB x b n i)
def addOk (m : LM) (b : List UInt8) : LM := ⟨m.from_, m.n, if m.have_ = 0 then m.next else m.first, m.next + zP b.length, m.have_ + zP b.length, m.l ++ [b], 0⟩
def yJ (d : DM) (m : LM) (b : List UInt8) : DM × LM × Int :=
 if m.e ≠ 0 then (d, m, m.e)
 else if m.n - (m.have_ : Int) < (zP b.length : Int) then (d, m, 31)
 else if m.next = 0 ∨ 18446744073709551615 - m.next < zP b.length then (d, m, 38)
 else let r := yF (m.from_ + (m.have_ : Int)) m.next b (zP b.length) (zP b.length) 0 d
  if r.2 = 0 then (r.1, addOk m b, 0) else (r.1, { m with e := r.2 }, r.2)
structure LM.Ok (m : LM) : Prop where
 from_ : 0 ≤ m.from_ ∧ m.from_ ≤ 65536
 n : 1 ≤ m.n ∧ m.n ≤ 65536
 have_ : (m.have_ : Int) ≤ m.n
 next : m.next < 18446744073709551616
 first : m.first < 18446744073709551616
 few : m.l.length ≤ m.have_
theorem partL_length (b : List UInt8) (i : Nat) : (partL b i).length ≤ 110 := by
 unfold partL;rw [List.length_take];omega
theorem blocksN_one (n : Nat) : 1 ≤ zP n := by
 unfold zP
 split <;> omega
theorem blocksN_le (n : Nat) : zP n ≤ n + 1 := by
 unfold zP
 split <;> omega
theorem writeM_len (d : DM) (i : Int) (b : List UInt8) : (zm d i b).1.l.length = d.l.length := by
 unfold zm
 split
 ·rfl
 ·split
  ·rfl
  ·split
   ·rfl
   ·split <;> simp
theorem addGo_len {at_ : Int} {x : Nat} {b : List UInt8} {n : Nat} : ∀ (k i : Nat) (d : DM), (yF at_ x b n k i d).1.l.length = d.l.length
 | 0, _, _ => rfl
 | k + 1, i, d => by
   unfold yF
   split
   ·rw [addGo_len k (i + 1), writeM_len]
   ·exact writeM_len _ _ _
theorem addM_len (d : DM) (m : LM) (b : List UInt8) : (yJ d m b).1.l.length = d.l.length := by
 unfold yJ
 split
 ·rfl
 ·split
  ·rfl
  ·split
   ·rfl
   ·simp only
    split <;> exact addGo_len _ _ _
theorem addM_lok {d : DM} {m : LM} {b : List UInt8} (h : m.Ok) : (yJ d m b).2.1.Ok := by
 unfold yJ
 split
 ·exact h
 ·rename_i h1
  split
  ·exact h
  ·rename_i h2
   split
   ·exact h
   ·rename_i h3
    simp only;(have h4 := h.next);have h5 := h.first
    split
    ·refine ⟨h.from_, h.n, ?_, ?_, ?_, ?_⟩
     ·unfold addOk;simp only;omega
     ·unfold addOk;simp only;omega
     ·unfold addOk;simp only
      split <;> omega
     ·have h6 := h.few;have h7 := blocksN_one b.length;unfold addOk;simp only [List.length_append, List.length_singleton];omega
    ·exact ⟨h.from_, h.n, h.have_, h.next, h.first, h.few⟩
/-! Logs, by values: what a scan of blocks comes to when blocks are written behind its records. -/
def stepW (i : Nat) (s : WS) (b : List UInt8) : WS := zf i s (ze b).1 (ze b).2.1 (ze b).2.2
def okW : List (List UInt8) → Nat → WS → Prop
 | [], _, _ => True
 | b :: bs, i, s => badW s (ze b).1 = false ∧ okW bs (i + 1) (stepW i s b)
def runW : List (List UInt8) → Nat → WS → WS
 | [], _, s => s
 | b :: bs, i, s => runW bs (i + 1) (stepW i s b)
theorem scanW_app : ∀ (p q : List (List UInt8)) (i : Nat) (s : WS), okW p i s → zk (p ++ q) i s = zk q (i + p.length) (runW p i s)
 | [], q, i, s, _ => rfl
 | b :: p, q, i, s, h => by
   obtain ⟨h1, h2⟩ := h;rw [List.cons_append, zk, if_neg (by rw [h1]; simp), runW];have := scanW_app p q (i + 1) (stepW i s b) h2;unfold stepW at this ⊢;rw [this, List.length_cons]
   congr 1
   omega
theorem okW_app : ∀ (p q : List (List UInt8)) (i : Nat) (s : WS), okW (p ++ q) i s ↔ okW p i s ∧ okW q (i + p.length) (runW p i s)
 | [], q, i, s => by simp [okW, runW]
 | b :: p, q, i, s => by
   rw [List.cons_append, okW, okW, okW_app p q, runW, and_assoc, List.length_cons, show i + 1 + p.length = i + (p.length + 1) by omega]
theorem runW_app : ∀ (p q : List (List UInt8)) (i : Nat) (s : WS), runW (p ++ q) i s = runW q (i + p.length) (runW p i s)
 | [], q, i, s => rfl
 | b :: p, q, i, s => by
   rw [List.cons_append, runW, runW_app p q, runW, List.length_cons, show i + 1 + p.length = i + (p.length + 1) by omega]
def fL (b : List UInt8) : Nat := yC (b.take 8)
def kL (b : List UInt8) : Nat := yC (b.drop 120)
theorem readL_ends {b : List UInt8} (h : (ze b).1 ≠ 0) : (ze b).1 = fL b ∧ fL b = kL b := by
 unfold ze at h ⊢
 split at h
 ·exact absurd rfl h
 ·rename_i h1
  rw [if_neg h1];simp only at h ⊢
  split at h
  ·exact absurd rfl h
  ·rename_i h2
   rw [if_neg h2];refine ⟨rfl, ?_⟩;(have h3 : zU (yC (b.take 8)) ((b.drop 10).take (b[8]?.getD 0).toNat) (decide ((b[9]?.getD 0).toNat = 1)) = b := Classical.byContradiction fun h => h2 (.inl h));(have h4 : ((b.drop 10).take (b[8]?.getD 0).toNat).length ≤ 110 := by rw [List.length_take]; omega)
   have h5 : b.drop 120 = numL (yC (b.take 8)) := by
    conv => lhs; rw [← h3]
    unfold zU;rw [List.drop_append_of_le_length (by simp [zV]; omega), List.drop_eq_nil_of_le (by simp [zV]; omega), List.nil_append]
   unfold kL fL;rw [h5, valL_num (val8 b)]
theorem readL_le {b : List UInt8} : (ze b).1 ≤ fL b := by
 by_cases h : (ze b).1 = 0
 ·omega
 ·exact Nat.le_of_eq (readL_ends h).1
/-! Logs, by values: a log that stands on blocks, and what an Add that writes all leaves. -/
/-! Logs, by values: what an Add that writes all leaves, and where a write was torn. -/
def putL (l : List (List UInt8)) (a : Nat) (r : List (List UInt8)) : List (List UInt8) := l.take a ++ r ++ l.drop (a + r.length)
theorem blocksOf_length {l : List (List UInt8)} {f n : Nat} (h : f + n ≤ l.length) : (zW l (f : Int) (n : Int)).length = n := by
 simp [zW];omega
/-! A block of a log whose write was torn: it is the old one, or the new one, or none. -/
/-! A log whose Add was torn: what Open tells of its blocks then. -/
/-! The laws' steps, by values: an Add on a disk that stands, and on one that stops. -/
open Codec
structure SM where
 t : Tb
 half : Nat
 log : LM
 turns : Nat
 e : Int
def hn (d : DM) : Nat := d.l.length / 2
def zT (d : DM) (i : Nat) : LM := yd (zW d.l ((i * hn d : Nat) : Int) ((hn d : Nat) : Int)) ((i * hn d : Nat) : Int) ((hn d : Nat) : Int)
def yT (m : LM) : Option Tb := match m.l with | [] => none | r :: _ => raM r
def cntM (c0 c1 : Bool) (f0 f1 : Nat) : Int := if c1 && (!c0 || decide (f0 < f1)) then 1 else if c0 then 0 else -1
def upM (t : Tb) : List (List UInt8) → Option Tb
 | [] => some t
 | b :: bs => match rcM b with
   | none => none
   | some l => upM (doL t l) bs
def upEnd (i : Nat) (m : LM) : Option Tb → SM × Int
 | none => (⟨[], 0, lm0, 0, 0⟩, 37)
 | some t => (⟨t, i, m, 0, 0⟩, 0)
def zY (d : DM) : SM × Int :=
 if hn d < 1 then (⟨[], 0, lm0, 0, 0⟩, 1)
 else if d.down then (⟨[], 0, lm0, 0, 0⟩, 30)
 else
  let a := zT d 0;let b := zT d 1;let at_ := cntM (yT a).isSome (yT b).isSome a.first b.first
  if at_ = -1 then (⟨[], 0, zj a ((0 * hn d : Nat) : Int) ((hn d : Nat) : Int) b.next, 0, 0⟩, 0)
  else
   upEnd (if at_ = 1 then 1 else 0) (if at_ = 1 then b else a) (upM ((yT (if at_ = 1 then b else a)).getD []) (if at_ = 1 then b else a).l.tail)
def yy (d : DM) (s : SM) (l : List Ch) : DM × SM × Int :=
 if d.down then (d, s, 30)
 else if (yJ d (zj (zT d (1 - s.half)) (((1 - s.half) * hn d : Nat) : Int) ((hn d : Nat) : Int) s.log.next) (allB (doL s.t l))).2.2 = 0 then
  ((yJ d (zj (zT d (1 - s.half)) (((1 - s.half) * hn d : Nat) : Int) ((hn d : Nat) : Int) s.log.next) (allB (doL s.t l))).1, { s with half := 1 - s.half, log := (yJ d (zj (zT d (1 - s.half)) (((1 - s.half) * hn d : Nat) : Int) ((hn d : Nat) : Int) s.log.next) (allB (doL s.t l))).2.1, turns := s.turns + 1 }, 0)
 else ((yJ d (zj (zT d (1 - s.half)) (((1 - s.half) * hn d : Nat) : Int) ((hn d : Nat) : Int) s.log.next) (allB (doL s.t l))).1, s, (yJ d (zj (zT d (1 - s.half)) (((1 - s.half) * hn d : Nat) : Int) ((hn d : Nat) : Int) s.log.next) (allB (doL s.t l))).2.2)
def zJ (d : DM) (s : SM) (l : List Ch) : DM × SM × Int :=
 if s.log.first ≠ 0 ∧ (zP (chsB l).length : Int) ≤ s.log.n - (s.log.have_ : Int) then
  ((yJ d s.log (chsB l)).1, { s with log := (yJ d s.log (chsB l)).2.1 }, (yJ d s.log (chsB l)).2.2)
 else yy d s l
structure SOk (s : SM) : Prop where
 log : s.log.Ok
 half : s.half ≤ 1
 turns : s.turns ≤ 1000000000
def yu (s : SM) (l : List Ch) : Int := if s.e ≠ 0 then s.e else if l.all zq then 0 else 1
def zg (d : DM) (s : SM) (l : List Ch) : DM × SM × Int :=
 if yu s l ≠ 0 ∨ l = [] then (d, s, yu s l)
 else if (zJ d s l).2.2 = 0 then ((zJ d s l).1, { (zJ d s l).2.1 with t := doL s.t l }, 0)
 else ((zJ d s l).1, (if (zJ d s l).2.2 = 31 then (zJ d s l).2.1 else { (zJ d s l).2.1 with e := (zJ d s l).2.2 }), (zJ d s l).2.2)
def openUp (d : DM) (AT : Int) : SM × Int :=
 if AT = -1 then ((⟨[], 0, zj (zT d 0) ((0 * hn d : Nat) : Int) ((hn d : Nat) : Int) (zT d 1).next, 0, 0⟩ : SM), (0 : Int))
 else upEnd (if AT = 1 then 1 else 0) (if AT = 1 then zT d 1 else zT d 0) (upM ((yT (if AT = 1 then zT d 1 else zT d 0)).getD []) (if AT = 1 then zT d 1 else zT d 0).l.tail)
theorem openC_up {d : DM} (h1 : 1 ≤ hn d) (h2 : d.down = false) : zY d = openUp d (cntM (yT (zT d 0)).isSome (yT (zT d 1)).isSome (zT d 0).first (zT d 1).first) := by
 unfold zY openUp;rw [if_neg (by omega), h2, if_neg (by decide)]
theorem may_small {x : Ch} (h : zq x = true) : 1 ≤ x.k.length ∧ x.k.length ≤ 64 ∧ x.v.length ≤ 4096 ∧ (x.g = true → x.v = []) := by
 unfold zq at h;simp only [Bool.and_eq_true, decide_eq_true_eq] at h;refine ⟨h.1.1, h.1.2, ?_, fun hg => ?_⟩
 ·have := h.2
  split at this <;> omega
 ·rw [hg] at h;exact List.eq_nil_of_length_eq_zero (by simpa using h.2)
end Go.Proofs.YtmioifcbkhpdaaaGreat
