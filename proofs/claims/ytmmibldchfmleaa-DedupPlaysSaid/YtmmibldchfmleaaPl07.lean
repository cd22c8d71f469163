/-
  Dedup, the reference: Find.
-/
import Derived.Test.YtmmibldchfmleaaPl06
import Derived.Test.YtmmibldchfmleaaPl04
import Derived.Test.YtmmibldchfmleaaPl02
import Derived.WideKeyEntry
import Derived.Test.YtmmibldchfmleaaPl01
import Derived.Test.YtmmibldchfmleaaPl03
import Derived.Test.YtmmibldchfmleaaPl05
namespace Go.Proofs.Ytmmibldchfmleaa
open Go.RowKit Go.Shelf Go.Sort
abbrev Id32 := {l : List UInt8 // l.length = 32}
instance : Inhabited Id32 := ⟨⟨List.replicate 32 0, by simp⟩⟩
def enc32 (x : Id32) : List Value := u8s x.1
def cf32 (x y : Id32) : Int := Lib.compareBytes x.1 y.1
theorem ltOf32 (x y : Id32) : ltOf cf32 x y = decide (x.1 < y.1) := by
 unfold ltOf cf32
 exact decide_eq_decide.2 (cmpB_neg _ _)
theorem swo32 : SWO (ltOf cf32) where
 irrefl x := by rw [ltOf32]; simp
 trans x y z h1 h2 := by
  rw [ltOf32] at *
  simp only [decide_eq_true_eq] at *
  exact klt_tr h1 h2
 ntrans x y z h1 h2 := by
  rw [ltOf32] at *
  simp only [decide_eq_false_iff_not] at *
  exact fun h => absurd h (List.not_lt.2 (List.le_trans (List.not_lt.1 h2) (List.not_lt.1 h1)))
theorem grow_two (W : World) (a b : Obj) (q : Nat) : ((W.alloc a).alloc b).drewN q = grow (W.drewN q) #[a, b] := by
 rw [alloc_eq_grow, alloc_eq_grow, grow_grow]
 rfl
theorem cmpLays32 (blk off size : Nat) (w : World) : CmpLays Try.prog 29 #[] enc32 32 cf32 blk off size w := fun m os dk hs x y => by
 show Calls Try.prog 29 #[.agg (row8 x.1), .agg (row8 y.1)] _ _
 refine (cmp_any x.1 y.1 x.2 y.2 _).mono ?_
 rintro e w' ⟨rfl, q, rfl⟩
 exact ⟨rfl, q, _, grow_two _ _ _ _⟩
def toId (l : List UInt8) : Id32 := if h : l.length = 32 then ⟨l, h⟩ else default
theorem toId_val {l : List UInt8} (h : l.length = 32) : (toId l).1 = l := by
 unfold toId
 rw [dif_pos h]
theorem toId_map : ∀ {xs : List (List UInt8)}, (∀ x ∈ xs, x.length = 32) → (xs.map toId).map (·.1) = xs
 | [], _ => rfl
 | x :: xs, h => by
   rw [List.map_cons, List.map_cons, toId_val (h x (by simp)), toId_map fun y hy => h y (by simp [hy])]
theorem holds32 {W : World} {g : Nat} {cur : Array Value} {xs : List (List UInt8)} (hb : W.heap[g]? = some (.cells cur 31 (0, 0))) (hx : ∀ x ∈ xs, x.length = 32) (ht : cur.toList.take (xs.length * 32) = idsC xs) :
    HoldsK enc32 32 W g 0 (xs.map toId).toArray := by
 intro j hj
 have hsz : ((xs.map toId).toArray : Array Id32).size = xs.length := by simp
 rw [size_flatK, hsz] at hj
 refine ⟨?_, by simp [World.frozen?, hb]⟩
 have h1 : (cur.toList.take (xs.length * 32))[j]? = (idsC xs)[j]? := by rw [ht]
 rw [List.getElem?_take_of_lt hj] at h1
 have hi : j / 32 < xs.length := by omega
 have hm : j % 32 < 32 := Nat.mod_lt _ (by decide)
 rw [get_flatK _ _ _ _ (by rw [hsz]; exact hj)]
 rw [cell_of_cells hb, Nat.zero_add, ← Array.getElem?_toList, h1]
 have e : ((xs.map toId).toArray : Array Id32)[j / 32]! = toId xs[j / 32] := by
  rw [getElem!_pos _ _ (by simpa using hi)]
  simp
 have h32 : (xs[j / 32]).length = 32 := hx _ (List.getElem_mem hi)
 rw [e, enc32, toId_val h32]
 have hf := flatten_at32 hx (j / 32) (j % 32) hi hm
 rw [show j / 32 * 32 + j % 32 = j by omega, List.getElem?_eq_getElem hi, Option.getD_some] at hf
 unfold idsC u8s
 rw [List.getElem?_map, hf, List.getElem?_eq_getElem (show j % 32 < (xs[j / 32]).length by omega)]
 simp [show j % 32 < (xs[j / 32]).length by omega]
theorem ids_of_holds {W : World} {S : Nat → Prop} {g cap : Nat} {d : Array Id32} {N : Nat} (hN : d.size = N) (h : HoldsK enc32 32 W g 0 d) (hg : g < W.heap.size) (hS : S g) (hc : N ≤ cap) (hm : cap ≤ maxLen) :
    Ids W S (some ⟨g, 0, none⟩) N cap (d.toList.map (·.1)) :=
 ⟨by simp [hN], fun x hx => by
   obtain ⟨y, _, rfl⟩ := List.mem_map.1 hx
   exact y.2, hc, hm, fun _ => ⟨g, 0, rfl, hS, hg, fun i j hi hj => by
   have h1 := (h.cell (i := i) (c := j) (by omega) hj).1
   rw [Nat.add_assoc] at h1
   rw [h1]
   have hid : i < d.size := by omega
   have e : ((d.toList.map (·.1))[i]?.getD [] : List UInt8) = (d[i]!).1 := by
    rw [getElem!_pos d i hid]
    simp [hid]
   rw [e]
   have h32 := (d[i]!).2
   unfold enc32 u8s
   generalize (d[i]!).1 = x at *
   have hjx : j < x.length := by omega
   simp [hjx]⟩⟩
theorem gr_sort {w : World} {g n : Nat} {os : Array Obj} {d : Array Id32} : w.grownBy (sortWorldK enc32 32 w g 0 n d os) (some g) := by
 unfold sortWorldK putRowK
 refine ⟨rfl, rfl, rfl, by simp [putRow, mapBlock, Sort.ahead], fun k hk hne => ?_⟩
 rw [heap_grow_old _ _ (by simpa [putRow, mapBlock, Sort.ahead] using hk)]
 have : g ≠ k := fun e => hne (by rw [e])
 simp [putRow, mapBlock, Sort.ahead, Array.getElem?_modify, this]
theorem sort_keys {V : Type} {t : Tv V} {xs : List (List UInt8)} (h : Sv t) (hp : xs.Perm (t.map (·.1))) (hx : ∀ x ∈ xs, x.length = 32) :
    (((xs.map toId).mergeSort fun x y => !(ltOf cf32) y x).map (·.1)) = t.map (·.1) := by
 refine keys_perm_eq h ?_ ?_
 ·refine ((List.mergeSort_perm _ _).map _).trans ?_
  rw [toId_map hx]
  exact hp
 ·refine List.pairwise_map.2 (List.Pairwise.imp ?_ (List.pairwise_mergeSort (fun a b c h1 h2 => ?_) (fun a b => ?_) _))
  ·intro a b hab
   rw [ltOf32] at hab
   simpa using hab
  ·rw [ltOf32] at *
   simp only [Bool.not_eq_true', decide_eq_false_iff_not] at *
   exact List.not_lt.2 (List.le_trans (List.not_lt.1 h1) (List.not_lt.1 h2))
  ·rw [ltOf32, ltOf32]
   by_cases h1 : b.1 < a.1
   ·simp [h1, klt_as h1]
   ·simp [h1]
set_option maxHeartbeats 2000000 in
set_option maxRecDepth 100000 in
theorem sortfunc_ids {W : World} {B : Nat} {V : Type} {t : Tv V} {v : Value} {xs : List (List UInt8)} (h : Sv t) (ht : ∀ p ∈ t, p.1.length = 32) (hn : t.length ≤ 1000000) (hp : xs.Perm (t.map (·.1))) (hown : W.ownsRow B 31 32 v xs.length (idsC xs)) (hB : B ≤ W.heap.size) :
    Calls Try.prog 48 #[v, .func (.func 29) #[] #[]] W fun e w' => e = .returned (.tuple #[]) ∧ ∃ A c, v = .slice A t.length c ∧ Ids w' (B ≤ ·) A t.length c (t.map (·.1)) ∧ Below B W w' := by
 have hl : xs.length = t.length := by rw [hp.length_eq]; simp
 have hx : ∀ x ∈ xs, x.length = 32 := fun x hx => by
  obtain ⟨p, hp1, hp2⟩ := List.mem_map.1 (hp.mem_iff.1 hx)
  rw [← hp2]
  exact ht p hp1
 rcases hown.2 with ⟨rfl, hz⟩ | ⟨g, cap, cur, rfl, hbase, hgb, r1, r2, r3, r4⟩
 ·have ht0 : t = [] := List.eq_nil_of_length_eq_zero (by omega)
  subst ht0
  have hc : Calls Try.prog 48 #[.slice none 0 0, .func (.func 29) #[] #[]] W _ := AnyF.slices_SortFunc_none Try.sortfL none 0 (.func (.func 29) #[] #[]) W
  refine hc.mono ?_
  rintro e w' ⟨rfl, rfl⟩
  exact ⟨rfl, none, 0, rfl, Ids.nil _ _ _ _ (Nat.zero_le _), Below.refl _ _⟩
 ·have hgl : g < W.heap.size := (Array.getElem?_eq_some_iff.1 hgb).1
  have hH := holds32 hgb hx r4
  have hsz : ((xs.map toId).toArray : Array Id32).size = xs.length := by simp
  have hc : Calls Try.prog 48 #[.slice (some ⟨g, 0, none⟩) ((xs.map toId).toArray : Array Id32).size cap, .func (.func 29) #[] #[]] W _ :=
   AnyQ.slices_SortFunc_total Try.sortfL 32 (fun w => by kernel_rfl) (fun w => by kernel_rfl) enc32 (fun x => by rw [enc32, u8s_length, x.2]) (fun x v hv => u8s_one x.1 v hv) cf32 swo32 29 #[] g 0 cap (xs.map toId).toArray W
    (enters_of Try.func29 (by kernel_rfl) rfl) (cmpLays32 _ _ _ _) hH hgl (by rw [hsz]; omega) (fun x y h1 h2 => by
      rw [ltOf32] at h1 h2
      simp only [decide_eq_false_iff_not] at h1 h2
      exact Subtype.ext (klt_tri h1 h2))
  rw [hsz] at hc
  refine hc.mono ?_
  have hk := sort_keys h hp hx
  rw [List.toList_toArray]
  obtain ⟨ys, hys⟩ : ∃ ys, ys = (xs.map toId).mergeSort fun x y => !(ltOf cf32) y x := ⟨_, rfl⟩
  have hyl : ys.length = xs.length := by rw [hys]; simp
  rw [← hys] at hk ⊢
  clear hys
  rintro e w' ⟨rfl, n, os, rfl⟩
  refine ⟨rfl, _, cap, by rw [← hl], ?_, below_gr gr_sort hbase hB⟩
  have hs := ids_of_holds (S := (B ≤ ·)) (N := t.length) (d := ys.toArray) (by simp [hyl, hl]) (holdsK_sortWorldK_c enc32 32 W g 0 (xs.map toId).toArray ys.toArray n os hH hgl (by simp [hyl])) (Nat.lt_of_lt_of_le hgl (gr_sort (w := W)).size) hbase (by omega) r2
  rw [List.toList_toArray, hk] at hs
  exact hs
set_option maxHeartbeats 2000000 in
set_option maxRecDepth 100000 in
theorem sorted_ids {V : Type} {t : Tv V} (ht : ∀ p ∈ t, p.1.length = 32) (hsv : Sv t) (hn : t.length ≤ 1000000) (g : Nat) (lb : Array Value) (K : Nat → Prop) (eg : ∀ args w, (callFunc g args).run Try.prog w = .ok (.enter g args) w) (w : World)
    (hseq : Iter Try.prog g lb (fun k => #[.agg (row8 k)]) K (fun _ pre _ => Kys t pre) (fun xs => xs.Perm (t.map (·.1))) w) (hK : ∀ b, K b → b < w.heap.size) :
    Calls Try.prog 38 #[.func (.func g) #[] lb, .func (.func 29) #[] #[]] w fun e w' => ∃ A c, e = .returned (.slice A t.length c) ∧ Ids w' (w.heap.size ≤ ·) A t.length c (t.map (·.1)) ∧ Below w.heap.size w w' := by
 have hcol := collect_ids ht hsv hn g lb K eg w hseq hK
 have HT := Lib.hid (And.intro ht (And.intro hsv hn))
 obtain ⟨FN, hFN⟩ : ∃ FN, FN = Value.func (.func g) #[] lb := ⟨_, rfl⟩
 obtain ⟨CM, hCM⟩ : ∃ CM, CM = Value.func (.func 29) #[] #[] := ⟨_, rfl⟩
 have HCM := Lib.hid hCM
 rw [← hFN] at hcol ⊢
 rw [← hCM]
 clear hFN hseq hK eg ht hsv hn hCM
 go_enter Try.func38, Try.ntmps38
 go_wp2_with (first
  | (go_at_call 47; refine hcol.mono ?_; clear hcol; rintro _ w1 ⟨v, xs, rfl, hp, hown, hb1⟩
     have hsf := sortfunc_ids HT.out.2.1 HT.out.1 HT.out.2.2 hp hown hb1.size
     rw [← HCM.out] at hsf
     have HB := Lib.hid hb1
     clear hp hown hb1)
  | (go_at_call 48; refine hsf.mono ?_; clear hsf; rintro _ w2 ⟨rfl, A, c, rfl, hids, hb2⟩))
 go_ret
 exact ⟨A, c, rfl, hids, HB.out.trans hb2⟩
end Go.Proofs.Ytmmibldchfmleaa

namespace Go.Proofs.Ytmmibldchfmleaa
open Go.RowKit Go.Maps
open Go.ChangeMaps (setBlock heap_setBlock_same heap_setBlock_other)
theorem idkeylaw : WideMaps.KeyLaw Try.prog 31 := deep_law_laid dd_laid (m := 2) (by omega) (of_decide_eq_true (by kernel_rfl)) (by kernel_rfl) (by kernel_rfl)
section
variable {V : Type} {enc : V → Value} {w w' : World} {b : Nat} {t : Tv V}
theorem Kv.entry (h : Kv enc w b t) {T E : TypeId} (hT : Try.prog.underlying T = some (.map 31 E)) {z0 : V} (hz : ∀ W, (zeroValue E).run Try.prog W = .ok (enc z0) W) {k : List UInt8} (hk : k.length = 32) (hl : t.length ≤ 10000000000000) (v : V) :
    ∃ v0 st w1, (Instr.mapEntry T (.map (some b)) (.agg (row8 k))).run Try.prog w = .ok (.tuple #[v0, .int .i64 st]) w1 ∧ w.mapTurned w1 b ∧
      (Instr.lookup T (.map (some b)) (.agg (row8 k)) false).run Try.prog w1 = .ok (enc ((getV t k).getD z0)) w1 ∧
      ∃ w2, (Instr.entryStore T (.map (some b)) (.int .i64 st) (enc v)).run Try.prog w1 = .ok () w2 ∧ Kv enc w2 b (putV t k v) ∧ w.mapTurned w2 b := by
 obtain ⟨D, ⟨es, clock, hb, F, hs, hD⟩, ha⟩ := h
 obtain ⟨v0, st, es1, clock1, hrun, _, hstore⟩ := WideElems.entry_then_store idkeylaw hT hz hb F (id_key hk)
 have hb1 := heap_setBlock_same hb (.map es1 clock1)
 have hput := fun x => Kv.put ⟨D, ⟨es, clock, hb, F, hs, hD⟩, ha⟩ hT hk hl x
 -- the world between: as it was, or with nought there
 have hmid : (Instr.lookup T (.map (some b)) (.agg (row8 k)) false).run Try.prog (setBlock w b (.map es1 clock1)) = .ok (enc ((getV t k).getD z0)) (setBlock w b (.map es1 clock1)) := by
  have hkv : Kv enc w b t := ⟨D, ⟨es, clock, hb, F, hs, hD⟩, ha⟩
  have hset : ∀ (A : World) (o o' : Obj), setBlock (setBlock A b o) b o' = setBlock A b o' := fun A o o' => by simp [setBlock]
  have key : ∃ t', Kv enc (setBlock w b (.map es1 clock1)) b t' ∧ (getV t' k).elim (enc z0) enc = enc ((getV t k).getD z0) := by
   rcases idlaw.find w (id_key hk) es.toList F.keys with ⟨h1, h2⟩ | ⟨j, e0, h1, h2, h3⟩
   ·obtain ⟨w', hr, hkv', _⟩ := hput z0
    have e1 : (Instr.mapEntry T (.map (some b)) (.agg (row8 k))).run Try.prog w = .ok (.tuple #[enc z0, goInt clock]) (setBlock w b (.map (es.push ⟨.agg (row8 k), enc z0, clock⟩) (clock + 1))) := by
     simp [Instr.mapEntry, run_underlying hT, MapKept.run_getObj_map hb, idlaw.check w false (id_key hk), h1, hz, MapKept.run_setObj_map _ hb, Result.andThen, setBlock]
    have e2 : (Instr.mapUpdate T (.map (some b)) (.agg (row8 k)) (enc z0)).run Try.prog w = .ok () (setBlock w b (.map (es.push ⟨.agg (row8 k), enc z0, clock⟩) (clock + 1))) := by
     simp [Instr.mapUpdate, run_underlying hT, MapKept.run_getObj_map hb, idlaw.check w false (id_key hk), h1, MapKept.run_setObj_map _ hb, Result.andThen, setBlock]
    rw [hrun] at e1
    rw [hr] at e2
    injection e1 with _ e1
    injection e2 with _ e2
    have hno : getV t k = none := by
     have h5 := (Kv.look hkv hT (hz w) hk).1
     rcases hg : getV t k with _ | x
     ·rfl
     ·exfalso
      rw [hg] at h5
      simp [Instr.lookup, run_underlying hT, MapKept.run_getObj_map hb, idlaw.check w _ (id_key hk), h1, hz, Result.andThen] at h5
    exact ⟨_, by rw [e1, ← e2]; exact hkv', by rw [getV_put, if_pos rfl, hno]; rfl⟩
   ·have hj : es[j]? = some e0 := by simpa using h2
    have hsame : es.modify j (fun e => { e with key := .agg (row8 k) }) = es := by
     apply Array.ext'
     rw [Array.toList_modify, ChangeMaps.modify_eq_set _ _ _ _ h2]
     have : ({ e0 with key := .agg (row8 k) } : MapEntry) = e0 := by rw [← h3]
     rw [this]
     exact WideElems.set_self _ _ _ h2
    have e1 : (Instr.mapEntry T (.map (some b)) (.agg (row8 k))).run Try.prog w = .ok (.tuple #[e0.val, goInt e0.born]) (setBlock w b (.map es clock)) := by
     simp [Instr.mapEntry, run_underlying hT, MapKept.run_getObj_map hb, idlaw.check w false (id_key hk), h1, hj, h3, idlaw.stays w (id_key hk), hsame, MapKept.run_setObj_map _ hb, Result.andThen, setBlock]
    rw [hrun] at e1
    injection e1 with _ e1
    refine ⟨t, by rw [e1]; exact hkv.kept ((heap_setBlock_same hb _).trans hb.symm), ?_⟩
    cases getV t k <;> rfl
  obtain ⟨t', h1, h2⟩ := key
  have h3 := (h1.look hT (hz _) hk).2
  rw [h2] at h3
  exact h3
 obtain ⟨es', clock', hst, hup⟩ := hstore (setBlock w b (.map es1 clock1)) (enc v) hb1
 obtain ⟨w', hr, hkv', hmt⟩ := hput v
 rw [hup] at hr
 injection hr with _ hr
 have hset : setBlock (setBlock w b (.map es1 clock1)) b (.map es' clock') = setBlock w b (.map es' clock') := by simp [setBlock]
 refine ⟨v0, st, _, hrun, ⟨es, clock, es1, clock1, hb, rfl⟩, hmid, _, hst, ?_, ?_⟩
 ·rw [hset, hr]
  exact hkv'
 ·rw [hset, hr]
  exact hmt
end
end Go.Proofs.Ytmmibldchfmleaa

namespace Go.Proofs.Ytmmibldchfmleaa
open Go.RowKit
structure Ints (kd : IntKind) (w : World) (S : Nat → Prop) (A : Option Addr) (n c : Nat) (l : List Int) : Prop where
 len : l.length = n
 cap : n ≤ c
 max : c ≤ maxLen
 wf : ∀ x ∈ l, (Lit.int kd x).wf = true
 row : 0 < n → ∃ b off, A = some ⟨b, off, none⟩ ∧ S b ∧ b < w.heap.size ∧ ∀ i, i < n → w.cell? ⟨b, off + i, none⟩ = some (.int kd (l[i]?.getD 0))
section
variable {kd : IntKind} {w w' : World} {S : Nat → Prop} {A : Option Addr} {n c : Nat} {l : List Int}
theorem Ints.below (h : Ints kd w S A n c l) (hb : Below w.heap.size w w') : Ints kd w' S A n c l :=
 ⟨h.len, h.cap, h.max, h.wf, fun h0 => by
   obtain ⟨b, off, hA, hB, hlt, hc⟩ := h.row h0
   exact ⟨b, off, hA, hB, Nat.lt_of_lt_of_le hlt hb.size, fun i hi => (hb.cell (p := ⟨b, off + i, none⟩) hlt).trans (hc i hi)⟩⟩
theorem Ints.mono {T : Nat → Prop} (h : Ints kd w S A n c l) (hB : ∀ b, b < w.heap.size → S b → T b) : Ints kd w T A n c l :=
 ⟨h.len, h.cap, h.max, h.wf, fun h0 => by
   obtain ⟨b, off, hA, hB', hlt, hc⟩ := h.row h0
   exact ⟨b, off, hA, hB b hlt hB', hlt, hc⟩⟩
theorem Ints.turned {T : Nat → Prop} (h : Ints kd w S A n c l) (ht : Turned T w w') (hd : ∀ b, b < w.heap.size → S b → ¬ T b) : Ints kd w' S A n c l :=
 ⟨h.len, h.cap, h.max, h.wf, fun h0 => by
   obtain ⟨b, off, hA, hB, hlt, hc⟩ := h.row h0
   exact ⟨b, off, hA, hB, Nat.lt_of_lt_of_le hlt ht.size, fun i hi => (World.cell?_of_block (w := w) (a := ⟨b, off + i, none⟩) (ht.block b hlt (hd b hlt hB))).trans (hc i hi)⟩⟩
theorem Ints.nil (kd : IntKind) (w : World) (S : Nat → Prop) (A : Option Addr) (c : Nat) (hc : c ≤ maxLen) : Ints kd w S A 0 c [] := ⟨rfl, Nat.zero_le _, hc, by simp, fun h => absurd h (by omega)⟩
end
end Go.Proofs.Ytmmibldchfmleaa

namespace Go.Proofs.Ytmmibldchfmleaa
open Go.RowKit Go.Maps
set_option maxHeartbeats 4000000 in
set_option maxRecDepth 100000 in
theorem ixids_any {w : World} {p b : Nat} {t : Tv Pl} (h : Ix w p b t) (hl : t.length ≤ 1000000) :
    Calls Try.prog 22 #[.pointer (some ⟨p, 0, none⟩)] w fun e w' => ∃ A c, e = .returned (.slice A t.length c) ∧ Ids w' (w.heap.size ≤ ·) A t.length c (t.map (·.1)) ∧ Below w.heap.size w w' := by
 have hcb := h.cell
 have hks := keysP_any (some b) w
 have hbl : Below w.heap.size w (w.alloc (.cells #[.map (some b)] 64)) := (Below.refl _ _).alloc (Nat.le_refl _) _
 have hso := sorted_ids (fun e he => h.map.key e he) h.map.srt hl 50 #[.pointer (some ⟨w.heap.size, 0, none⟩)] (fun k => k = w.heap.size ∨ k = b) (enters_of Try.func50 (by kernel_rfl) rfl) (w.alloc (.cells #[.map (some b)] 64))
  (keysP_iter (enc := encP) (t := t) w.heap.size b _ (heap_alloc_new w _) (h.map.below hbl)) (fun k hk => by have := h.map.lt; simp; omega)
 rw [show Value.func (.func 50) #[] #[.pointer (some ⟨w.heap.size, 0, none⟩)] = keysFnP w.heap.size from rfl] at hso
 generalize keysFnP w.heap.size = FN at hks hso
 obtain ⟨CM, hCM⟩ : ∃ CM, CM = Value.func (.func 29) #[] #[] := ⟨_, rfl⟩
 have HB := Lib.hid hbl
 clear h hbl
 go_enter Try.func22, Try.ntmps22
 go_wp2_with (first
  | (go_at_call 40; refine hks.mono ?_; clear hks; rintro _ _ ⟨rfl, rfl⟩)
  | (go_at_call 38; refine hso.mono ?_; clear hso; rintro _ w2 ⟨A, c, rfl, hids, hb2⟩))
 go_ret
 exact ⟨A, c, rfl, hids.mono fun k _ hk => by have h1 : (w.alloc (.cells #[.map (some b)] 64)).heap.size ≤ k := hk; simp at h1; show w.heap.size ≤ k; omega, HB.out.trans (hb2.mono (by simp))⟩
end Go.Proofs.Ytmmibldchfmleaa

namespace Go.Proofs.Ytmmibldchfmleaa
open Go.RowKit Go.Maps
theorem exec_load_ad {P : Program} {E : Operand → Value} {o : Oper} {W : World} (ty : TypeId) (x : Operand) (ho : o.op = .load ty x) (ad : Addr) (hx : E x = .pointer (some ad)) (cells : Array Value) (hc : ∀ j v, cells[j]? = some v → W.cell? (ad.add j) = some v) {d : TypeDesc}
    (hu : P.underlying ty = some d) (hd : (match d with | .struct _ | .array _ _ => true | _ => false) = true) (hi : (P.info? ty).map (·.size) = some cells.size) : (execOp E o).run P W = .ok (.value (.agg cells)) W := by
 unfold execOp
 simp only [ho, hx, Instr.loadAt, Instr.sureAddr, Sem.run_bind, Sem.run_pure, Result.andThen_ok, run_loadVar_at W ad ty cells d hc hu hd hi]
def encN (n : Nat) : Value := .int .i64 (n : Int)
def cntI (h : Tv Nat) : List Int := h.map fun p => (p.2 : Int)
theorem dd_int_info : (Try.prog.info? 3).map (fun i => (i.zero, i.size, i.bytes)) = some (some (.int .i64 0), 1, 8) := by kernel_rfl
theorem zero_int : ∀ W, (zeroValue 3).run Try.prog W = .ok (encN 0) W := fun W => by kernel_rfl
def i64s (l : List Int) : List Value := l.map (Value.int .i64)
theorem make_ints (w : World) (N : Nat) (h : N ≤ 1000000) : (Instr.makeSlice 57 (.int .i64 (N : Int)) (.int .i64 (N : Int))).run Try.prog w = .ok (.slice (some ⟨w.heap.size, 0, none⟩) N N) (w.alloc (.cells (i64s (List.replicate N 0)).toArray 3)) := by
 obtain ⟨i0, hi, hz0, hz1, hz2⟩ := info_parts dd_int_info
 have hmk := run_make (P := Try.prog) (t := 57) (e := 3) w i0 (.int .i64 0) Try.underlying57 hi hz0 .i64 .i64 (N : Int) (N : Int) (by omega) (by omega) (by rw [hz2]; omega) (by omega)
 rw [hmk, hz1]
 have hm0 : madeCells (Value.int .i64 0).cells ((N : Int).toNat * 1) = (i64s (List.replicate N 0)).toArray := by
  apply Array.toList_inj.1
  rw [Int.toNat_natCast]
  simp only [madeCells, i64s, Nat.mul_one, Value.cells]
  apply List.ext_getElem
  ·simp
  ·intro i h1 h2
   simp [Nat.mod_one]
 rw [hm0]
 simp
def cntC (l : List Int) (m j : Nat) : Array Value := (i64s (l.take j ++ List.replicate (m - j) 0)).toArray
theorem cntC_zero (l : List Int) (m : Nat) : cntC l m 0 = (i64s (List.replicate m 0)).toArray := by simp [cntC]
theorem cntC_step {l : List Int} {m j : Nat} (hl : l.length = m) (hj : j < m) : (cntC l m j).setIfInBounds j (.int .i64 (l[j]?.getD 0)) = cntC l m (j + 1) := by
 unfold cntC i64s
 apply Array.toList_inj.1
 simp only [Array.toList_setIfInBounds]
 have hr : List.replicate (m - j) (0 : Int) = 0 :: List.replicate (m - (j + 1)) 0 := by
  rw [show m - j = (m - (j + 1)) + 1 by omega, List.replicate_succ]
 have ht : l.take (j + 1) = l.take j ++ [l[j]?.getD 0] := by
  rw [List.take_succ_eq_append_getElem (by omega), List.getElem?_eq_getElem (by omega)]
  rfl
 have hlen : (l.take j).length = j := by simp; omega
 rw [hr, ht, List.map_append, List.set_append_right _ _ (by rw [List.length_map, hlen]; exact Nat.le_refl _), List.length_map, hlen, Nat.sub_self]
 simp
theorem cntC_ints {w : World} {S : Nat → Prop} {g : Nat} {l : List Int} {m : Nat} (h : w.heap[g]? = some (.cells (cntC l m m) 3 (0, 0))) (hl : l.length = m) (hS : S g) (hm : m ≤ 1000000) (hw : ∀ x ∈ l, (Lit.int .i64 x).wf = true) : Ints .i64 w S (some ⟨g, 0, none⟩) m m l :=
 ⟨hl, Nat.le_refl _, by unfold maxLen; omega, hw, fun _ => ⟨g, 0, rfl, hS, lt_of_cells h, fun i hi => by
   rw [cell_of_cells h, Nat.zero_add, cntC, List.getElem?_toArray, List.take_of_length_le (by omega), Nat.sub_self]
   simp [i64s, show i < l.length by omega]⟩⟩
structure PaS (w : World) (p b r h : Nat) (t : Tv Pl) (lf : List UInt8 → Bool) (H : Tv Nat) (W : World) : Prop where
 rg : Rgv encP W b r t lf
 kv : Kv encN W h H
 ct : Cnt (seenT t lf) H
 bl : Below w.heap.size w W
 lo : w.heap.size ≤ r ∧ w.heap.size ≤ h ∧ h ≠ r ∧ b < w.heap.size
theorem PaS.later {w W W' : World} {p b r h : Nat} {t : Tv Pl} {lf : List UInt8 → Bool} {H : Tv Nat} (hp : PaS w p b r h t lf H W) (hb : Below W.heap.size W W') : PaS w p b r h t lf H W' ∧ W'.rangeLeft b r = W.rangeLeft b r :=
 ⟨⟨(hp.rg.below hb).1, hp.kv.below hb, hp.ct, hp.bl.trans (hb.mono hp.bl.size), hp.lo⟩, (hp.rg.below hb).2⟩
def PbR (w : World) (h g m : Nat) (H : Tv Nat) (Aw : Option Addr) (cw : Nat) (i : Value) (W : World) : Prop :=
 ∃ j : Nat, j ≤ m ∧ i = .int .i64 (j : Int) ∧ W.heap[g]? = some (.cells (cntC (cntI H) m j) 3 (0, 0)) ∧ Kv encN W h H ∧ Ids W (fun k => w.heap.size ≤ k ∧ k < g) Aw m cw (H.map (·.1)) ∧ Below w.heap.size w W
set_option maxHeartbeats 8000000 in
set_option maxRecDepth 100000 in
theorem ixpacks_any {w : World} {p b : Nat} {t : Tv Pl} (h : Ix w p b t) (hl : t.length ≤ 1000000) :
    Calls Try.prog 21 #[.pointer (some ⟨p, 0, none⟩)] w fun e w' => ∃ A c A2 c2, e = .returned (.tuple #[.slice A (packT t).length c, .slice A2 (packT t).length c2]) ∧
     Ids w' (w.heap.size ≤ ·) A (packT t).length c ((packT t).map (·.1)) ∧ Ints .i64 w' (w.heap.size ≤ ·) A2 (packT t).length c2 (cntI (packT t)) ∧ Below w.heap.size w w' := by
 have hmk : ∀ W, (Instr.makeMap 88 none).run Try.prog W = .ok (.map (some W.heap.size)) (W.alloc (.map #[] 0)) := fun W => rfl
 have hzi := zero_id
 obtain ⟨ZS, hZS⟩ : ∃ ZS, ZS = plC zPl := ⟨_, rfl⟩
 have hzp : ∀ W, (zeroValue 37).run Try.prog W = .ok (.agg ZS) W := fun W => by rw [hZS]; exact zero_pl W
 have HZS : Hid (ZS.size = 33) := Lib.hid (by rw [hZS, plC_size zPl_len])
 have hb1 : Below w.heap.size w (w.alloc (.map #[] 0)) := (Below.refl _ _).alloc (Nat.le_refl _) _
 have hi1 := h.below hb1
 have hcb := hi1.cell
 have hk1 := made_kv encN w
 have hkv := hi1.map
 have HH := Lib.hid (And.intro h hl)
 have H1 := Lib.hid (And.intro hb1 hk1)
 clear h hl hb1 hk1 hi1 hZS
 go_enter Try.func21, Try.ntmps21
 go_wp2_with (first
  | (at_range; refine wpList_range_kv _ rfl _ rfl Try.underlying64 rfl hkv ?_; intro w0 hrg0 hb0 hs0)
  | go_in)
 have H0 : Hid (PaS w p b (w.heap.size + 1) w.heap.size t (fun k => (getV t k).isSome) [] w0) := Lib.hid
  ⟨by have h1 : (w.alloc (.map #[] 0)).heap.size = w.heap.size + 1 := by simp
      rw [← h1]; exact hrg0, H1.out.2.below hb0, by rw [seenT_start fun e he => getV_isSome.2 (List.mem_map.2 ⟨e, he, rfl⟩)]; exact Cnt.nil, H1.out.1.trans (hb0.mono (by simp)), by omega, by omega, by omega, HH.out.1.map.lt⟩
 clear hrg0 hb0 hs0 hkv hcb H1
 simp only [World.size_alloc]
 obtain ⟨h, hh⟩ : ∃ h, h = w.heap.size := ⟨_, rfl⟩
 rw [show w.heap.size + 1 = h + 1 by rw [hh], show PaS w p b (h + 1) w.heap.size t (fun k => (getV t k).isSome) [] w0 = PaS w p b (h + 1) h t (fun k => (getV t k).isSome) [] w0 by rw [hh]] at H0
 rw [← hh]
 obtain ⟨r, hr⟩ : ∃ r, r = h + 1 := ⟨_, rfl⟩
 rw [← hr] at H0 ⊢
 have HR := Lib.hid (And.intro hr hh)
 clear hr hh
 go_frame
 go_loopw [6] (fun _ wr => ∃ lf H, PaS w p b r h t lf H wr) (fun _ wr => wr.rangeLeft b r)
 case atStart => exact ⟨_, _, H0.out⟩
 case round =>
  obtain ⟨lf, H, hps⟩ := hrel
  clear H0
  have HD := Lib.hid hps
  clear hps
  go_wp2_with (first
   | (at_next; refine wpList_next_kv _ rfl _ rfl rfl HD.out.rg ?_ ?_)
   | go_in)
  ·intro hlf
   have hHe : H = packT t := by
    have h1 := HD.out.ct
    rw [seenT_end hlf] at h1
    exact h1.eq (packT_cnt _) fun _ => rfl
   obtain ⟨m, hm⟩ : ∃ m, m = (packT t).length := ⟨_, rfl⟩
   have hml : m ≤ 1000000 := by have h1 := packT_len t; have h2 := HH.out.2; omega
   have hks := keysN_any (some h) wr
   have hbl : Below wr.heap.size wr (wr.alloc (.cells #[.map (some h)] 88)) := (Below.refl _ _).alloc (Nat.le_refl _) _
   have hkp : ∀ e ∈ packT t, e.1.length = 32 := packT_keys HH.out.1.val
   have hso := sorted_ids hkp (packT_cnt t).1 (by omega) 49 #[.pointer (some ⟨wr.heap.size, 0, none⟩)] (fun k => k = wr.heap.size ∨ k = h) (enters_of Try.func49 (by kernel_rfl) rfl) (wr.alloc (.cells #[.map (some h)] 88))
    (keysN_iter (enc := encN) (t := packT t) wr.heap.size h _ (heap_alloc_new wr _) (hHe ▸ HD.out.kv.below hbl)) (fun k hk => by have := HD.out.kv.lt; simp; omega)
   rw [show Value.func (.func 49) #[] #[.pointer (some ⟨wr.heap.size, 0, none⟩)] = keysFnN wr.heap.size from rfl, ← hm] at hso
   have HM := Lib.hid (And.intro hm (And.intro hml hkp))
   have HW : Hid (Kv encN wr h (packT t) ∧ Below w.heap.size w wr ∧ (wr.alloc (.cells #[.map (some h)] 88)).heap.size = wr.heap.size + 1) := Lib.hid ⟨hHe ▸ HD.out.kv, HD.out.bl, by simp⟩
   generalize keysFnN wr.heap.size = FN at hks hso
   clear hlf hHe hm hml hbl hkp HD hzp HZS
   have hmi := fun W : World => make_ints W m HM.out.2.1
   go_upto_region 10 with (first
    | (go_at_call 39; refine hks.mono ?_; clear hks; rintro _ _ ⟨rfl, rfl⟩)
    | (go_at_call 38; refine hso.mono ?_; clear hso; rintro _ w3 ⟨Aw, cw, rfl, hids, hb3⟩; have H3 := Lib.hid (And.intro hids hb3); clear hids hb3))
   clear hmi
   obtain ⟨g, hg⟩ : ∃ g, g = w3.heap.size := ⟨_, rfl⟩
   have hw3 : Below w.heap.size w w3 := HW.out.2.1.trans ((((Below.refl _ _).alloc (Nat.le_refl _) _).trans (H3.out.2.mono (by rw [HW.out.2.2]; omega))).mono HW.out.2.1.size)
   have hk3 : Kv encN w3 h (packT t) := (HW.out.1.below ((Below.refl _ _).alloc (Nat.le_refl _) _)).below H3.out.2
   have hb5 : Below w3.heap.size w3 (w3.alloc (.cells (i64s (List.replicate m 0)).toArray 3)) := (Below.refl _ _).alloc (Nat.le_refl _) _
   have HG0 : Hid (PbR w h g m (packT t) Aw cw (.int .i64 0) (w3.alloc (.cells (i64s (List.replicate m 0)).toArray 3))) := Lib.hid
    ⟨0, Nat.zero_le _, rfl, by rw [cntC_zero, hg]; exact heap_alloc_new _ _, hk3.below hb5, (H3.out.1.mono fun k hk hh => ⟨by have h1 : (wr.alloc (.cells #[.map (some h)] 88)).heap.size ≤ k := hh; rw [HW.out.2.2] at h1; have h2 := HW.out.2.1.size; omega, by omega⟩).below hb5, hw3.trans (hb5.mono hw3.size)⟩
   have HX := Lib.hid (And.intro hg (And.intro hw3.size (show h < g by rw [hg]; exact hk3.lt)))
   rw [← hg]
   clear hg hw3 hk3 hb5 HW H3
   generalize w3.alloc (.cells (i64s (List.replicate m 0)).toArray 3) = w5 at HG0 ⊢
   go_wp2_with fail
   go_loopw [9, 10, 38] (fun _ _ i wr => PbR w h g m (packT t) Aw cw i wr) (fun _ _ i _ => m - (intOf i).toNat)
   case atStart => exact HG0.out
   case round =>
    obtain ⟨j, hj, rfl, hgc, hkv, hid, hbw⟩ := hrel
    clear HG0
    have HK := Lib.hid (And.intro hgc (And.intro hkv (And.intro hid hbw)))
    clear hgc hkv hid hbw
    by_cases hlt : j < m
    ·obtain ⟨ab, ao, rfl, hab, hx32, hrowc⟩ := HK.out.2.2.1.at_ hlt
     obtain ⟨pj, hpj⟩ : ∃ pj, (packT t)[j]? = some pj := ⟨_, List.getElem?_eq_getElem (by have := HM.out.1; omega)⟩
     have hmem := List.mem_of_getElem? hpj
     have hpk := packT_pos hmem
     have hkey : ((packT t).map (·.1))[j]?.getD [] = pj.1 := by rw [List.getElem?_map, hpj]; rfl
     rw [hkey] at hrowc hx32
     obtain ⟨XS, hXS⟩ : ∃ XS, XS = row8 pj.1 := ⟨_, rfl⟩
     rw [← hXS] at hrowc
     have HXS : Hid (XS = row8 pj.1 ∧ XS.size = 32 ∧ XS.all (·.oneCell') = true ∧ pj.1.length = 32 ∧ getV (packT t) pj.1 = some pj.2 ∧ (packT t)[j]? = some pj) := Lib.hid ⟨hXS, by rw [hXS, row8_size, hx32], by rw [hXS]; exact row8_one _, hx32, getV_mem (packT_cnt t).1 hmem, hpj⟩
     have HRC := Lib.hid hrowc
     obtain ⟨w7, hw7⟩ : ∃ w7, w7 = (wr.alloc (.cells zerosId 31)).setRow wr.heap.size XS := ⟨_, rfl⟩
     have hz6 := heap_alloc_new wr (.cells zerosId 31)
     have hb7 : Below wr.heap.size wr w7 := by rw [hw7]; exact below_setRow ((Below.refl _ _).alloc (Nat.le_refl _) _) (Nat.le_refl _) _
     have H7 : Hid (w7.heap[wr.heap.size]? = some (.cells XS 31 (0, 0)) ∧ Below wr.heap.size wr w7) := Lib.hid ⟨by rw [hw7]; exact setRow_at hz6, hb7⟩
     have HZ := Lib.hid hz6
     have HW7 := Lib.hid hw7
     have hlk := ((HK.out.2.1.below hb7).look Try.underlying88 (zero_int _) hx32).2
     rw [← hXS, getV_mem (packT_cnt t).1 hmem, show (some pj.2).elim (encN 0) encN = .int .i64 (pj.2 : Int) from rfl] at hlk
     have hgc7 : w7.heap[g]? = some (.cells (cntC (cntI (packT t)) m j) 3 (0, 0)) := (hb7.block _ (lt_of_cells HK.out.1)).trans HK.out.1
     have hfz := free_of_cells hgc7 j
     have hcj : ∃ u, w7.cell? ⟨g, j, none⟩ = some u := by
      rw [cell_of_cells hgc7]
      have hsz : (cntC (cntI (packT t)) m j).size = m := by
       have h1 : (cntI (packT t)).length = m := by rw [HM.out.1]; simp [cntI]
       simp [cntC, i64s, h1]
       omega
      exact ⟨_, Array.getElem?_eq_getElem (by omega)⟩
     obtain ⟨cu, hcu⟩ := hcj
     have hadd := IntWalk.i64_in ((j : Int) + 1) (by have := HM.out.2.1; omega)
     have hlt' : (j : Int) < (m : Int) := by omega
     have HEND : Hid (PbR w h g m (packT t) (some ⟨ab, ao, none⟩) cw (.int .i64 ((j : Int) + 1)) (w7.setCell ⟨g, j, none⟩ (.int .i64 (pj.2 : Int)))) := Lib.hid (by
      have ht : Turned (· = g) w7 (w7.setCell ⟨g, j, none⟩ (.int .i64 (pj.2 : Int))) := Turned.set (S := (· = g)) (Turned.refl _ w7) rfl j _
      have hx := HX.out
      refine ⟨j + 1, by omega, by simp, ?_, (HK.out.2.1.below hb7).turned ht (by show ¬ h = g; omega), (HK.out.2.2.1.below hb7).turned ht (fun k _ h1 h2 => by have := h1.2; omega), ?_⟩
      ·have h1 := set_of_cells hgc7 j (.int .i64 (pj.2 : Int))
       have h2 := cntC_step (l := cntI (packT t)) (m := m) (j := j) (by rw [HM.out.1]; simp [cntI]) hlt
       rw [show (cntI (packT t))[j]?.getD 0 = (pj.2 : Int) by rw [cntI, List.getElem?_map, hpj]; rfl] at h2
       rw [h2] at h1
       exact h1
      ·exact HK.out.2.2.2.trans ⟨ht.os.trans hb7.os, ht.tape.trans hb7.tape, ht.output.trans hb7.output, Nat.le_trans hb7.size ht.size, fun i hi => (ht.block i (by have := hb7.size; have := HK.out.2.2.2.size; omega) (by show ¬ i = g; omega)).trans (hb7.block i (by have := HK.out.2.2.2.size; omega))⟩)
     clear hw7 hz6 hb7 hgc7 hXS hpj hmem hpk hkey hx32 hrowc
     go_wp2_with (first
      | (refine wpList_load_at (by rfl) 31 (.tmp 41) (by rfl) ⟨ab, ao + j * 32, none⟩ (by rfl) XS _ HRC.out Try.underlying31 (by rfl) (by rw [HXS.out.2.1]; exact id_info) ?_)
      | (refine wpList_store_row (by rfl) 31 (.tmp 10) (.tmp 42) (by rfl) wr.heap.size XS (by rfl) (by rfl) 31 zerosId HZ.out (by rw [HXS.out.2.1]; exact id_info) (by rw [HXS.out.2.1]; rfl) HXS.out.2.2.1 ?_
         rw [← HW7.out]; clear HZ HW7; generalize wr.heap.size = q10 at H7 ⊢)
      | (refine wpList_load_row (by rfl) 31 (.tmp 10) (by rfl) q10 (by rfl) 31 XS (0, 0) _ H7.out.1 Try.underlying31 (by rfl) (by rw [HXS.out.2.1]; exact id_info) ?_))
     exact ⟨HEND.out, by simp only [intOf]; omega⟩
    ·obtain rfl : j = m := by omega
     have hnl : ¬ (j : Int) < (j : Int) := by omega
     have HE : Hid (Ids wr (w.heap.size ≤ ·) Aw j cw ((packT t).map (·.1)) ∧ Ints .i64 wr (w.heap.size ≤ ·) (some ⟨g, 0, none⟩) j j (cntI (packT t)) ∧ Below w.heap.size w wr) := Lib.hid
      ⟨HK.out.2.2.1.mono fun k _ hk => hk.1, cntC_ints HK.out.1 (by rw [HM.out.1]; simp [cntI]) (by have := HX.out; omega) HM.out.2.1 (fun x hx => by
        unfold cntI at hx
        obtain ⟨e, he, rfl⟩ := List.mem_map.1 hx
        have h1 := packT_pos he
        have h2 : cntP t e.1 ≤ t.length := List.countP_le_length
        have h3 := HH.out.2
        simp [Lit.wf, IntKind.min, IntKind.max, IntKind.signed, IntKind.bits]
        omega), HK.out.2.2.2⟩
     clear hlt HK
     go_wp2
     refine bodyPost_ret (results_tmp2 rfl _ _ _) rfl ?_
     exact ⟨Aw, cw, some ⟨g, 0, none⟩, j, by rw [← HM.out.1]; rfl, by rw [← HM.out.1]; exact HE.out.1, by rw [← HM.out.1]; exact HE.out.2.1, HE.out.2.2⟩
  ·intro k v1 v2 w2 hk32 hlk hgv hrg2 hlt hg2 hs2 hen
   obtain ⟨v, hve⟩ : ∃ v : Pl, v = (v1, v2) := ⟨_, rfl⟩
   have hrg2 : Rgv encP w2 b r t (fun x => lf x && decide (x ≠ k)) := by simpa using hrg2
   rw [← hve] at hgv hen ⊢
   clear hve
   have hv32 : v.1.length = 32 := HH.out.1.val _ (getV_some hgv)
   obtain ⟨XS, hXS⟩ : ∃ XS, XS = row8 k := ⟨_, rfl⟩
   obtain ⟨VS, hVS⟩ : ∃ VS, VS = plC v := ⟨_, rfl⟩
   rw [← hXS, show encP v = .agg VS by rw [hVS]; rfl] at hen ⊢
   have HVS : Hid (VS = plC v ∧ VS.size = 33 ∧ VS.all (·.oneCell') = true ∧ v.1.length = 32) := Lib.hid ⟨hVS, by rw [hVS, plC_size hv32], by rw [hVS]; exact plC_one _, hv32⟩
   have hb2 : Turned (· = r) wr w2 := Turned.of_gr hg2 fun _ e => (Option.some.inj e).symm
   have hlo := HD.out.lo
   have H2 : Hid (Rgv encP w2 b r t (fun x => lf x && decide (x ≠ k)) ∧ Kv encN w2 h H ∧ Cnt (seenT t (fun x => lf x && decide (x ≠ k))) (incV H v.1) ∧ Below w.heap.size w w2 ∧ w2.rangeLeft b r < wr.rangeLeft b r) := Lib.hid
    ⟨hrg2, HD.out.kv.turned hb2 hlo.2.2.1, HD.out.ct.inc (cntP_seen HH.out.1.map.srt hgv hlk), HD.out.bl.trans ⟨hg2.os, hg2.tape, hg2.output, hg2.size, fun i hi => hg2.block i (Nat.lt_of_lt_of_le hi HD.out.bl.size) (fun e => by injection e with e; omega)⟩, hlt⟩
   have HLO := Lib.hid hlo
   have HCT := Lib.hid HD.out.ct
   clear hrg2 hlt hg2 hs2 hlk hgv hk32 hXS hVS hb2 HD hlo hv32
   have hz7 := heap_alloc_new w2 (.cells ZS 37)
   obtain ⟨w4, hw4⟩ : ∃ w4, w4 = (w2.alloc (.cells ZS 37)).setRow w2.heap.size VS := ⟨_, rfl⟩
   have H4 : Hid (w4.heap[w2.heap.size]? = some (.cells VS 37 (0, 0)) ∧ Below w2.heap.size w2 w4) := Lib.hid ⟨by rw [hw4]; exact setRow_at hz7, by rw [hw4]; exact below_setRow ((Below.refl _ _).alloc (Nat.le_refl _) _) (Nat.le_refl _) _⟩
   have HZ := Lib.hid hz7
   have HW4 := Lib.hid hw4
   clear hz7 hw4
   go_upto_region 7 with (refine wpList_store_row (by rfl) 37 (.tmp 6) (.tmp 22) (by rfl) w2.heap.size VS (by rfl) (by rfl) 37 ZS HZ.out (by rw [HVS.out.2.1]; exact pl_info) (by rw [HVS.out.2.1, HZS.out]) HVS.out.2.2.1 ?_)
   rw [← HW4.out]
   clear HZ HW4 hen hzi hzp
   have hrg4 := H2.out.1.below H4.out.2
   have H5 : Hid (Rgv encP w4 b r t (fun x => lf x && decide (x ≠ k)) ∧ Kv encN w4 h H ∧ Below w.heap.size w w4 ∧ w4.rangeLeft b r < wr.rangeLeft b r ∧ Cnt (seenT t (fun x => lf x && decide (x ≠ k))) (incV H v.1)) := Lib.hid
    ⟨hrg4.1, H2.out.2.1.below H4.out.2, H2.out.2.2.2.1.trans (H4.out.2.mono H2.out.2.2.2.1.size), by rw [hrg4.2]; exact H2.out.2.2.2.2, H2.out.2.2.1⟩
   clear hrg4 H2
   obtain ⟨PS, hPS⟩ : ∃ PS, PS = row8 v.1 := ⟨_, rfl⟩
   have HP : Hid (PS.size = 32 ∧ (∀ j u, PS[j]? = some u → w4.cell? ((⟨w2.heap.size, 0, none⟩ : Addr).add j) = some u) ∧ PS = row8 v.1) := Lib.hid ⟨by rw [hPS, row8_size, HVS.out.2.2.2], pl_pack HVS.out.1 H4.out.1 HVS.out.2.2.2 hPS, hPS⟩
   have hHe : H = packT (seenT t lf) := HCT.out.eq (packT_cnt _) fun _ => rfl
   have hse : (seenT t lf).length ≤ t.length := List.length_filter_le _ _
   have hHl : H.length ≤ 1000000 := by
    have h1 := packT_len (seenT t lf)
    have h2 := HH.out.2
    rw [hHe]
    omega
   obtain ⟨c, hc⟩ : ∃ c, c = (getV H v.1).getD 0 := ⟨_, rfl⟩
   have hkd : Kv encN w4.drew h H := H5.out.2.1.below ⟨rfl, rfl, rfl, Nat.le_refl _, fun _ _ => rfl⟩
   obtain ⟨v0, st, w5, hme, hmt5, hlk5, w6, hes, hkv6, hmt6⟩ := hkd.entry Try.underlying88 zero_int HVS.out.2.2.2 (by omega) (c + 1)
   have hlk4 := (hkd.look Try.underlying88 (zero_int _) HVS.out.2.2.2).2
   rw [show (getV H v.1).elim (encN 0) encN = .int .i64 (c : Int) by rw [hc]; cases getV H v.1 <;> rfl] at hlk4
   rw [← hc, show encN c = .int .i64 (c : Int) from rfl] at hlk5
   rw [← hPS] at hme hlk4 hlk5
   generalize w2.heap.size = q6 at H4 HP ⊢
   rw [show encN (c + 1) = .int .i64 ((c : Int) + 1) by simp [encN]] at hes
   have hcl : c ≤ 1000000 := by
    rw [hc, HCT.out.2]
    have h1 : cntP (seenT t lf) v.1 ≤ (seenT t lf).length := List.countP_le_length
    have h2 := HH.out.2
    by_cases h0 : cntP (seenT t lf) v.1 = 0
    ·simp [h0]
    ·simp only [h0, if_false, Option.getD_some]
     omega
   have hadd := IntWalk.i64_in ((c : Int) + 1) (by omega)
   have HC := Lib.hid hc
   clear hc hPS hkd hHl hHe hse hcl
   have HE : Hid (Kv encN w6 h (putV H v.1 (c + 1)) ∧ w4.drew.mapTurned w6 h) := Lib.hid ⟨hkv6, hmt6⟩
   have hd6 : ∀ W, w4.drew.mapTurned W h → W.heap[q6]? = some (.cells VS 37 (0, 0)) := fun W hm => by
    refine ((mapTurned_turnedk hm).block _ (lt_of_cells H4.out.1) ?_).trans H4.out.1
    rintro rfl
    obtain ⟨es, clock, hb⟩ := H5.out.2.1.isMap
    have h1 := H4.out.1
    rw [hb] at h1
    cases h1
   have hC5 := hd6 _ hmt5
   have hC6 := hd6 _ hmt6
   have hC4 : w4.drew.heap[q6]? = some (.cells VS 37 (0, 0)) := H4.out.1
   clear hkv6 hmt6 hmt5 hd6
   have HEND : Hid ((∃ lf H, PaS w p b r h t lf H w6) ∧ w6.rangeLeft b r < wr.rangeLeft b r) := Lib.hid (by
    have ht6 : Turned (· = h) w4 w6 := (Turned.of_below (S := (· = h)) (show Below w4.heap.size w4 w4.drew from ⟨rfl, rfl, rfl, Nat.le_refl _, fun _ _ => rfl⟩)).trans (mapTurned_turnedk HE.out.2) fun _ _ h => h
    have hk := H5.out.1.kept (w' := w6) (ht6.block _ H5.out.1.kv.lt (by have := HLO.out; show ¬ b = h; omega)) (ht6.block _ H5.out.1.lt (by have := HLO.out; show ¬ r = h; omega))
    refine ⟨⟨_, _, hk.1, HE.out.1, ?_, H5.out.2.2.1.trans ⟨ht6.os, ht6.tape, ht6.output, ht6.size, fun i hi => ht6.block i (Nat.lt_of_lt_of_le hi H5.out.2.2.1.size) (by have := HLO.out; show ¬ i = h; omega)⟩, HLO.out⟩, by rw [hk.2]; exact H5.out.2.2.2.1⟩
    have h1 := H5.out.2.2.2.2
    unfold incV at h1
    rw [← HC.out] at h1
    exact h1)
   refine wp_region_tree (fun W => W.heap[q6]? = some (.cells VS 37 (0, 0))) (.two [0, 1, 2] 3 (.one [4] 5 (.one [6] 7 (.last []))) 5 (.one [6] 3 (.one [4] 7 (.last [])))) (by kernel_rfl) (by kernel_rfl) (fun _ _ d _ _ h => by cases d <;> exact h) hC4 ?_
   refine tree_two ?_
   refine seg_read ?v1 (by rfl) (by rfl) ?h1 ?_
   case h1 => intro W hW; go_simp; with_reducible rfl
   try simp only [Act.put, List.setIfInBounds_toArray, List.set_cons_zero, List.set_cons_succ]
   refine seg_read ?v2 (by rfl) (by rfl) ?h2 ?_
   case h2 => intro W hW; go_simp; with_reducible rfl
   try simp only [Act.put, List.setIfInBounds_toArray, List.set_cons_zero, List.set_cons_succ]
   refine seg_read (.agg PS) (by rfl) (by rfl) (fun W hW => exec_load_ad 31 (.tmp 24) (by rfl) ⟨q6, 0, none⟩ (by rfl) PS (pl_pack HVS.out.1 hW HVS.out.2.2.2 HP.out.2.2) Try.underlying31 (by rfl) (by rw [HP.out.1]; exact id_info)) ?_
   try simp only [Act.put, List.setIfInBounds_toArray, List.set_cons_zero, List.set_cons_succ]
   refine seg_nil ?_
   refine And.intro ?first ?second
   case first =>
    refine eff_step (by rfl) (fun K hK => ?_)
    go_simp
    refine hK _ _ ⟨_, hC4, fun _ h => h, ?_⟩
    clear hK K
    try simp only [Act.put, List.setIfInBounds_toArray, List.set_cons_zero, List.set_cons_succ]
    refine tree_one ?_
    refine seg_read ?v3 (by rfl) (by rfl) ?h3 ?_
    case h3 => intro W hW; go_simp; with_reducible rfl
    try simp only [Act.put, List.setIfInBounds_toArray, List.set_cons_zero, List.set_cons_succ]
    refine seg_nil ?_
    refine eff_step (by rfl) (fun K hK => ?_)
    go_simp
    refine hK _ _ ⟨_, hC5, fun _ h => h, ?_⟩
    clear hK K
    try simp only [Act.put, List.setIfInBounds_toArray, List.set_cons_zero, List.set_cons_succ]
    refine tree_one ?_
    refine seg_read ?v4 (by rfl) (by rfl) ?h4 ?_
    case h4 => intro W hW; go_simp; with_reducible rfl
    try simp only [Act.put, List.setIfInBounds_toArray, List.set_cons_zero, List.set_cons_succ]
    refine seg_nil ?_
    refine eff_step (by rfl) (fun K hK => ?_)
    go_simp
    refine hK _ _ ⟨_, hC6, fun _ h => h, ?_⟩
    clear hK K
    refine tree_last ?_
    refine seg_nil ?_
    try simp only [Act.put]
    go_wp2_with fail
    exact HEND.out
   case second =>
    refine eff_step (by rfl) (fun K hK => ?_)
    go_simp
    refine hK _ _ ⟨_, hC5, fun _ h => h, ?_⟩
    clear hK K
    try simp only [Act.put, List.setIfInBounds_toArray, List.set_cons_zero, List.set_cons_succ]
    refine tree_one ?_
    refine seg_read ?v5 (by rfl) (by rfl) ?h5 ?_
    case h5 => intro W hW; go_simp; with_reducible rfl
    try simp only [Act.put, List.setIfInBounds_toArray, List.set_cons_zero, List.set_cons_succ]
    refine seg_nil ?_
    refine eff_step (by rfl) (fun K hK => ?_)
    go_simp
    refine hK _ _ ⟨_, hC5, fun _ h => h, ?_⟩
    clear hK K
    try simp only [Act.put, List.setIfInBounds_toArray, List.set_cons_zero, List.set_cons_succ]
    refine tree_one ?_
    refine seg_read ?v6 (by rfl) (by rfl) ?h6 ?_
    case h6 => intro W hW; go_simp; with_reducible rfl
    try simp only [Act.put, List.setIfInBounds_toArray, List.set_cons_zero, List.set_cons_succ]
    refine seg_nil ?_
    refine eff_step (by rfl) (fun K hK => ?_)
    go_simp
    refine hK _ _ ⟨_, hC6, fun _ h => h, ?_⟩
    clear hK K
    refine tree_last ?_
    refine seg_nil ?_
    try simp only [Act.put]
    go_wp2_with fail
    exact HEND.out
end Go.Proofs.Ytmmibldchfmleaa

namespace Go.Proofs.Ytmmibldchfmleaa
open Go.RowKit Go.Maps Codec
def eC (e : List UInt8 × Pl) : List Value := u8s e.1 ++ (u8s e.2.1 ++ [.int .i64 e.2.2])
theorem eC_len {e : List UInt8 × Pl} (h1 : e.1.length = 32) (h2 : e.2.1.length = 32) : (eC e).length = 65 := by simp [eC, u8s, h1, h2]
structure Es (w : World) (S : Nat → Prop) (A : Option Addr) (n c : Nat) (t : Tv Pl) : Prop where
 len : t.length = n
 each : ∀ e ∈ t, e.1.length = 32 ∧ e.2.1.length = 32
 cap : n ≤ c
 max : c ≤ maxLen
 row : 0 < n → ∃ b off, A = some ⟨b, off, none⟩ ∧ S b ∧ b < w.heap.size ∧ ∀ (i : Nat) e, t[i]? = some e → ∀ j v, (eC e)[j]? = some v → w.cell? ⟨b, off + (i * 65 + j), none⟩ = some v
section
variable {w w' : World} {S T : Nat → Prop} {A : Option Addr} {n c : Nat} {t : Tv Pl}
theorem Es.below (h : Es w S A n c t) (hb : Below w.heap.size w w') : Es w' S A n c t :=
 ⟨h.len, h.each, h.cap, h.max, fun h0 => by
   obtain ⟨b, off, hA, hS, hlt, hc⟩ := h.row h0
   exact ⟨b, off, hA, hS, Nat.lt_of_lt_of_le hlt hb.size, fun i e he j v hv => (hb.cell (p := ⟨_, _, none⟩) hlt).trans (hc i e he j v hv)⟩⟩
theorem Es.turned (h : Es w S A n c t) (ht : Turned T w w') (hd : ∀ b, b < w.heap.size → S b → ¬ T b) : Es w' S A n c t :=
 ⟨h.len, h.each, h.cap, h.max, fun h0 => by
   obtain ⟨b, off, hA, hS, hlt, hc⟩ := h.row h0
   exact ⟨b, off, hA, hS, Nat.lt_of_lt_of_le hlt ht.size, fun i e he j v hv => (World.cell?_of_block (w := w) (a := ⟨b, off + (i * 65 + j), none⟩) (ht.block b hlt (hd b hlt hS))).trans (hc i e he j v hv)⟩⟩
theorem Es.mono (h : Es w S A n c t) (hT : ∀ b, b < w.heap.size → S b → T b) : Es w T A n c t :=
 ⟨h.len, h.each, h.cap, h.max, fun h0 => by
   obtain ⟨b, off, hA, hS, hlt, hc⟩ := h.row h0
   exact ⟨b, off, hA, hT b hlt hS, hlt, hc⟩⟩
theorem Es.nil (w : World) (S : Nat → Prop) (A : Option Addr) (c : Nat) (hc : c ≤ maxLen) : Es w S A 0 c [] := ⟨rfl, by simp, Nat.zero_le _, hc, fun h => absurd h (by omega)⟩
theorem Es.at_ (h : Es w S A n c t) {i : Nat} (hi : i < n) : ∃ b off e, A = some ⟨b, off, none⟩ ∧ b < w.heap.size ∧ t[i]? = some e ∧ e.1.length = 32 ∧ e.2.1.length = 32 ∧
    (∀ u v, (row8 e.1)[u]? = some v → w.cell? ((⟨b, off + i * 65, none⟩ : Addr).add u) = some v) ∧ (∀ u v, (row8 e.2.1)[u]? = some v → w.cell? ((⟨b, off + i * 65 + 32, none⟩ : Addr).add u) = some v) ∧ w.cell? ⟨b, off + i * 65 + 64, none⟩ = some (.int .i64 e.2.2) := by
 obtain ⟨b, off, hA, _, hlt, hc⟩ := h.row (by omega)
 have hil : i < t.length := by rw [h.len]; exact hi
 obtain ⟨h1, h2⟩ := h.each _ (List.getElem_mem hil)
 have he : t[i]? = some t[i] := List.getElem?_eq_getElem hil
 have hu1 : (u8s t[i].1).length = 32 := by simp [u8s, h1]
 have hu2 : (u8s t[i].2.1).length = 32 := by simp [u8s, h2]
 refine ⟨b, off, t[i], hA, hlt, he, h1, h2, fun u v hu => ?_, fun u v hu => ?_, ?_⟩
 ·rw [row8, List.getElem?_toArray] at hu
  have hl : u < 32 := by rw [← hu1]; exact (List.getElem?_eq_some_iff.1 hu).1
  rw [add_plain, Nat.add_assoc]
  exact hc i _ he u v (by rw [eC, List.getElem?_append_left (by omega)]; exact hu)
 ·rw [row8, List.getElem?_toArray] at hu
  have hl : u < 32 := by rw [← hu2]; exact (List.getElem?_eq_some_iff.1 hu).1
  rw [add_plain, Nat.add_assoc, Nat.add_assoc]
  exact hc i _ he (32 + u) v (by rw [eC, List.getElem?_append_right (by omega), hu1, Nat.add_sub_cancel_left, List.getElem?_append_left (by omega)]; exact hu)
 ·rw [Nat.add_assoc]
  exact hc i _ he 64 _ (by rw [eC, List.getElem?_append_right (by omega), hu1, List.getElem?_append_right (by omega), hu2]; rfl)
theorem ddtake_snoc' {α : Type} {l : List α} {j : Nat} {s : α} (h : l[j]? = some s) : l.take (j + 1) = l.take j ++ [s] := by
 rw [List.take_add_one, h]; rfl
end
end Go.Proofs.Ytmmibldchfmleaa

namespace Go.Proofs.Ytmmibldchfmleaa
open Go.RowKit Go.Maps Codec
set_option maxHeartbeats 4000000 in
set_option maxRecDepth 100000 in
theorem drfind_any {w : World} {S : Nat → Prop} {A : Option Addr} {n c : Nat} {t : Tv Pl} (h : Es w S A n c t) (hn : n ≤ 1000000) {k : List UInt8} (hk : k.length = 32) :
    Calls Try.prog 16 #[.slice A n c, .agg (row8 k)] w fun e w' => ∃ x : Int, e = .returned (.int .i64 x) ∧ decide (0 ≤ x) = (getV t k).isSome ∧ Below w.heap.size w w' := by
 obtain ⟨KS, hKS⟩ : ∃ KS, KS = row8 k := ⟨_, rfl⟩
 have hb1 : Below w.heap.size w (w.alloc (.cells KS 31)) := (Below.refl _ _).alloc (Nat.le_refl _) _
 have hr1 := heap_alloc_new w (.cells KS 31)
 rw [← hKS]
 have HK : Hid (KS = row8 k ∧ KS.size = 32 ∧ k.length = 32) := Lib.hid ⟨hKS, by rw [hKS, row8_size, hk], hk⟩
 have HH := Lib.hid (And.intro h (And.intro h.len hn))
 have H1 := Lib.hid (And.intro hb1 hr1)
 clear h hn hk hb1 hr1 hKS
 go_enter Try.func16, Try.ntmps16
 go_upto_region 2 with fail
 generalize w.alloc (.cells KS 31) = w1 at H1 ⊢
 generalize hq : w.heap.size = q at H1 ⊢
 have HQ := Lib.hid hq
 clear hq
 go_loopw [5] (fun i wr => ∃ j m : Nat, j ≤ n ∧ i = .int .i64 (j : Int) ∧ wr = w1.drewN m ∧ ∀ e ∈ t.take j, e.1 ≠ k) (fun i _ => n - (intOf i).toNat)
 case atStart => exact ⟨0, 0, Nat.zero_le _, rfl, rfl, by simp⟩
 case round =>
  obtain ⟨j, m, hj, rfl, rfl, hno⟩ := hrel
  by_cases hlt : j < n
  ·have hlt' : (j : Int) < (n : Int) := by omega
   obtain ⟨b, off, e, rfl, hbl, he, h1, _, hc, _, _⟩ := HH.out.1.at_ hlt
   obtain ⟨ES, hES⟩ : ∃ ES, ES = row8 e.1 := ⟨_, rfl⟩
   rw [← hES] at hc
   have HE : Hid (ES.size = 32) := Lib.hid (by rw [hES, row8_size, h1])
   obtain ⟨Z, hZ⟩ : ∃ Z, Z = decide (e.1 = k) := ⟨_, rfl⟩
   have hqe : ∀ W, (Op.equalIn 10000 31 (.agg ES) (.agg KS)).run Try.prog W = .ok Z W := fun W => by rw [hES, HK.out.1, hZ]; exact dd_ideq _ _ h1 HK.out.2.2 W
   have hC : (fun W : World => (∀ u v, ES[u]? = some v → W.cell? ((⟨b, off + j * 65, none⟩ : Addr).add u) = some v) ∧ W.heap[q]? = some (.cells KS 31 (0, 0))) (w1.drewN m).drew := ⟨fun u v hu => by
       have h := hc u v hu
       rw [add_plain] at h ⊢
       exact ((H1.out.1.cell (p := ⟨b, _, none⟩) (by rw [HQ.out] at hbl; exact hbl)).trans h), H1.out.2⟩
   have hjj := IntWalk.i64_in ((j : Int) + 1) (by have := HH.out.2.2; omega)
   have HJ := Lib.hid (And.intro hlt (And.intro hno (And.intro he hZ)))
   clear hZ hES hc he h1 hbl hno hj hlt
   go_wp2
   refine wp_region_plan (fun W : World => (∀ u v, ES[u]? = some v → W.cell? ((⟨b, off + j * 65, none⟩ : Addr).add u) = some v) ∧ W.heap[q]? = some (.cells KS 31 (0, 0))) [] [0, 1, 2, 3, 4, 5, 6] (by kernel_rfl) (by kernel_rfl) (fun _ _ d _ _ h => by cases d <;> exact h) hC ?_
   refine plan_last ?_
   refine seg_read ?v1 (by rfl) (by rfl) ?h1 ?_
   case h1 => intro W hW; go_simp; with_reducible rfl
   try simp only [Act.put, List.setIfInBounds_toArray, List.set_cons_zero, List.set_cons_succ]
   refine seg_read ?v2 (by rfl) (by rfl) ?h2 ?_
   case h2 => intro W hW; go_simp; with_reducible rfl
   try simp only [Act.put, List.setIfInBounds_toArray, List.set_cons_zero, List.set_cons_succ]
   refine seg_read ?v3 (by rfl) (by rfl) ?h3 ?_
   case h3 => intro W hW; go_simp; with_reducible rfl
   try simp only [Act.put, List.setIfInBounds_toArray, List.set_cons_zero, List.set_cons_succ]
   refine seg_read ?v4 (by rfl) (by rfl) ?h4 ?_
   case h4 => intro W hW; go_simp; with_reducible rfl
   try simp only [Act.put, List.setIfInBounds_toArray, List.set_cons_zero, List.set_cons_succ]
   refine seg_read (.agg ES) (by rfl) (by rfl) (fun W hW => exec_load_ad 31 (.tmp 15) (by rfl) ⟨b, off + j * 65, none⟩ (by rfl) ES hW.1 Try.underlying31 (by rfl) (by rw [HE.out]; exact id_info)) ?_
   try simp only [Act.put, List.setIfInBounds_toArray, List.set_cons_zero, List.set_cons_succ]
   refine seg_read (.agg KS) (by rfl) (by rfl) (fun W hW => exec_load_st 31 (.tmp 3) (by rfl) q (by rfl) KS (0, 0) hW.2 _ Try.underlying31 (by rfl) (by rw [HK.out.2.1]; exact id_info)) ?_
   try simp only [Act.put, List.setIfInBounds_toArray, List.set_cons_zero, List.set_cons_succ]
   refine seg_read ?v5 (by rfl) (by rfl) ?h5 ?_
   case h5 => intro W hW; have hqw := hqe W; go_simp; with_reducible rfl
   try simp only [Act.put, List.setIfInBounds_toArray, List.set_cons_zero, List.set_cons_succ]
   refine seg_nil ?_
   cases Z
   ·go_wp2
    exact ⟨⟨j + 1, m + 1, by have := HJ.out.1; omega, by simp, by simp [World.drewN], fun x hx => by
     rw [ddtake_snoc' HJ.out.2.2.1] at hx
     rcases List.mem_append.1 hx with hx | hx
     ·exact HJ.out.2.1 x hx
     ·simp only [List.mem_singleton] at hx
      rw [hx]
      exact of_decide_eq_false HJ.out.2.2.2.symm⟩, by have := HJ.out.1; simp only [intOf]; omega⟩
   ·go_wp2
    go_ret
    refine ⟨j, rfl, ?_, by have h := H1.out.1; rw [← HQ.out] at h; exact below_drew (below_drewN h m)⟩
    have h1 : e.1 = k := of_decide_eq_true HJ.out.2.2.2.symm
    have h2 : (getV t k).isSome = true := getV_isSome.2 (List.mem_map.2 ⟨e, List.mem_of_getElem? HJ.out.2.2.1, h1⟩)
    rw [h2]
    simp
  ·obtain rfl : j = n := by omega
   have hlt' : ¬ (j : Int) < (j : Int) := by omega
   have HNO := Lib.hid hno
   clear hno hj hlt
   go_wp2
   go_ret
   refine ⟨-1, rfl, ?_, by have h := H1.out.1; rw [← HQ.out] at h; exact below_drewN h m⟩
   have h2 : getV t k = none := getV_none fun p hp => HNO.out p (by rw [List.take_of_length_le (by have := HH.out.2.1; omega)]; exact hp)
   rw [h2]
   rfl
end Go.Proofs.Ytmmibldchfmleaa
