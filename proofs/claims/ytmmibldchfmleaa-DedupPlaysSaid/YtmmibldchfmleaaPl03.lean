/-
  A region that draws its order where, at one place, either of two operations may come up first: the plan is a tree.
-/
import Derived.Test.YtmmibldchfmleaaPl01
import Derived.Test.YtmmibldchfmleaaPl02
import Derived.Lib.Bytealg
import Derived.Deep.MidRow
import Derived.Maps.OwnSet
import Derived.Sort.KeysCollected
import Derived.StringKeys
import Derived.Lib.Strings
import Derived.Lib.Walk
import Derived.Lib.BufferWrite
import Derived.Lib.UnsafeStr
import Derived.Laws.MakeOwn
import Derived.Maps.AppendAt
import Derived.Deep.AppendLies
import Derived.BigQuiet
import Derived.Lib.SlBytesConst
namespace Go.Proofs.Ytmmibldchfmleaa
open Go.RowKit Codec
abbrev Pl := List UInt8 × Int
section
variable {t : Tv Pl} {pk k : List UInt8} {lf : List UInt8 → Bool} {v : Pl}
def dropT (t : Tv Pl) (pk : List UInt8) : Tv Pl := t.filter fun e => decide (e.2.1 ≠ pk)
def dropL (t : Tv Pl) (pk : List UInt8) (lf : List UInt8 → Bool) : Tv Pl := t.filter fun e => decide (e.2.1 ≠ pk) || lf e.1
theorem dropL_start (ht : ∀ e ∈ t, lf e.1 = true) : dropL t pk lf = t := by
 unfold dropL
 exact List.filter_eq_self.2 fun e he => by simp [ht e he]
theorem dropL_end (hl : ∀ k, lf k = false) : dropL t pk lf = dropT t pk := by
 unfold dropL dropT
 exact List.filter_congr fun e _ => by simp [hl]
theorem dropL_at (hs : Sv t) (hg : getV (dropL t pk lf) k = some v) : ∀ e ∈ t, e.1 = k → e.2 = v := fun e he hk => by
 have h1 := getV_mem hs (List.mem_filter.1 (getV_some hg)).1
 have h2 := getV_mem hs he
 rw [hk] at h2
 exact Option.some.inj (h2.symm.trans h1)
theorem dropL_del (hs : Sv t) (hg : getV (dropL t pk lf) k = some v) (hv : v.1 = pk) : delV (dropL t pk lf) k = dropL t pk (fun x => lf x && decide (x ≠ k)) := by
 have ha := dropL_at hs hg
 unfold delV dropL
 rw [List.filter_filter]
 refine List.filter_congr fun e he => ?_
 by_cases hk : e.1 = k
 ·have h2 := ha e he hk
  simp [hk, h2, hv]
 ·simp [hk]
theorem dropL_stay (hs : Sv t) (hg : getV (dropL t pk lf) k = some v) (hv : v.1 ≠ pk) : dropL t pk lf = dropL t pk (fun x => lf x && decide (x ≠ k)) := by
 have ha := dropL_at hs hg
 unfold dropL
 refine List.filter_congr fun e he => ?_
 by_cases hk : e.1 = k
 ·have h2 := ha e he hk
  simp [h2, hv]
 ·simp [hk]
theorem dropT_len (t : Tv Pl) (pk : List UInt8) : (dropT t pk).length ≤ t.length := List.length_filter_le _ _
end
/-! ### packs -/
def cntP (t : Tv Pl) (pk : List UInt8) : Nat := t.countP fun e => decide (e.2.1 = pk)
def incV (h : Tv Nat) (pk : List UInt8) : Tv Nat := putV h pk ((getV h pk).getD 0 + 1)
def packT (t : Tv Pl) : Tv Nat := t.foldl (fun h e => incV h e.2.1) []
def Cnt (t : Tv Pl) (h : Tv Nat) : Prop := Sv h ∧ ∀ pk, getV h pk = if cntP t pk = 0 then none else some (cntP t pk)
theorem Cnt.nil : Cnt [] [] := ⟨Sv.nil, fun pk => by simp [cntP, getV_nil]⟩
theorem Cnt.inc {t t' : Tv Pl} {h : Tv Nat} {pk : List UInt8} (hc : Cnt t h) (hn : ∀ x, cntP t' x = cntP t x + if x = pk then 1 else 0) : Cnt t' (incV h pk) := by
 refine ⟨hc.1.put _ _, fun x => ?_⟩
 unfold incV
 rw [getV_put, hn x]
 by_cases e : x = pk
 ·subst e
  rw [if_pos rfl, if_pos rfl, if_neg (by omega), hc.2 x]
  by_cases h0 : cntP t x = 0 <;> simp [h0]
 ·rw [if_neg e, if_neg e, hc.2 x, Nat.add_zero]
theorem cntP_snoc (t : Tv Pl) (e : List UInt8 × Pl) (x : List UInt8) : cntP (t ++ [e]) x = cntP t x + if x = e.2.1 then 1 else 0 := by
 unfold cntP
 rw [List.countP_append]
 by_cases h : e.2.1 = x
 ·simp [h]
 ·have h' : ¬ x = e.2.1 := fun e1 => h e1.symm
  simp [h, h']
theorem packT_cnt (t : Tv Pl) : Cnt t (packT t) := by
 suffices h : ∀ (l pre : Tv Pl) (acc : Tv Nat), Cnt pre acc → Cnt (pre ++ l) (l.foldl (fun h e => incV h e.2.1) acc) by
  simpa [packT] using h t [] [] Cnt.nil
 intro l
 induction l with
 | nil => intro pre acc h; simpa using h
 | cons e l ih =>
   intro pre acc h
   have h2 := ih (pre ++ [e]) (incV acc e.2.1) (h.inc fun x => cntP_snoc pre e x)
   simpa using h2
theorem Cnt.eq {t t' : Tv Pl} {h h' : Tv Nat} (hc : Cnt t h) (hc' : Cnt t' h') (hn : ∀ x, cntP t x = cntP t' x) : h = h' :=
 tv_ext hc.1 hc'.1 fun k => by rw [hc.2, hc'.2, hn]
def seenT (t : Tv Pl) (lf : List UInt8 → Bool) : Tv Pl := t.filter fun e => !lf e.1
theorem seenT_start {t : Tv Pl} {lf : List UInt8 → Bool} (ht : ∀ e ∈ t, lf e.1 = true) : seenT t lf = [] := by
 unfold seenT
 exact List.filter_eq_nil_iff.2 fun e he => by simp [ht e he]
theorem seenT_end {t : Tv Pl} {lf : List UInt8 → Bool} (hl : ∀ k, lf k = false) : seenT t lf = t := by
 unfold seenT
 exact List.filter_eq_self.2 fun e _ => by simp [hl]
theorem cntP_seen : ∀ {t : Tv Pl} {lf : List UInt8 → Bool} {k : List UInt8} {v : Pl}, Sv t → getV t k = some v → lf k = true → ∀ x, cntP (seenT t (fun y => lf y && decide (y ≠ k))) x = cntP (seenT t lf) x + if x = v.1 then 1 else 0
 | [], _, _, _, _, h, _, _ => by simp [getV_nil] at h
 | e :: t, lf, k, v, hs, hg, hl, x => by
   obtain ⟨h1, h2⟩ := List.pairwise_cons.1 hs
   rw [getV_cons] at hg
   by_cases he : e.1 = k
   ·rw [if_pos he] at hg
    have hv : e.2 = v := Option.some.inj hg
    have hno : ∀ y ∈ t, y.1 ≠ k := fun y hy e1 => klt_ne (h1 y hy) (he.trans e1.symm)
    have h3 : seenT t (fun y => lf y && decide (y ≠ k)) = seenT t lf := by
     unfold seenT
     exact List.filter_congr fun y hy => by simp [hno y hy]
    have h4 : seenT (e :: t) (fun y => lf y && decide (y ≠ k)) = e :: seenT t lf := by
     rw [← h3]
     unfold seenT
     rw [List.filter_cons_of_pos (by simp [he])]
    have h5 : seenT (e :: t) lf = seenT t lf := by
     unfold seenT
     rw [List.filter_cons_of_neg (by simp [he, hl])]
    rw [h4, h5]
    unfold cntP
    rw [List.countP_cons, hv]
    by_cases hx : v.1 = x
    ·simp [hx]
    ·have hx' : ¬ x = v.1 := fun e1 => hx e1.symm
     simp [hx, hx']
   ·rw [if_neg he] at hg
    have ih := cntP_seen (lf := lf) h2 hg hl x
    have h4 : ∀ f : List UInt8 → Bool, seenT (e :: t) f = if f e.1 = true then seenT t f else e :: seenT t f := fun f => by
     unfold seenT
     by_cases hf : f e.1 = true
     ·rw [List.filter_cons_of_neg (by simp [hf]), if_pos hf]
     ·rw [List.filter_cons_of_pos (by simpa using hf), if_neg hf]
    rw [h4, h4]
    by_cases hf : lf e.1 = true
    ·rw [if_pos (by simp [hf, he]), if_pos hf, ih]
    ·rw [if_neg (by simp [hf]), if_neg hf]
     unfold cntP at ih ⊢
     rw [List.countP_cons, List.countP_cons, ih]
     omega
theorem packT_keys {t : Tv Pl} (ht : ∀ e ∈ t, e.2.1.length = 32) : ∀ p ∈ packT t, p.1.length = 32 := fun p hp => by
 have h1 := getV_mem (packT_cnt t).1 hp
 rw [(packT_cnt t).2] at h1
 have h0 : cntP t p.1 ≠ 0 := fun h => by rw [if_pos h] at h1; cases h1
 obtain ⟨e, he, h2⟩ := List.countP_pos_iff.1 (Nat.pos_of_ne_zero h0)
 rw [← of_decide_eq_true h2]
 exact ht e he
theorem packT_pos {t : Tv Pl} {p : List UInt8 × Nat} (hp : p ∈ packT t) : p.2 = cntP t p.1 ∧ 0 < p.2 := by
 have h1 := getV_mem (packT_cnt t).1 hp
 rw [(packT_cnt t).2] at h1
 by_cases h0 : cntP t p.1 = 0
 ·rw [if_pos h0] at h1
  cases h1
 ·rw [if_neg h0] at h1
  have h2 := Option.some.inj h1
  omega
theorem packT_len (t : Tv Pl) : (packT t).length ≤ t.length := by
 have hk : ((packT t).map (·.1)).Nodup := (packT_cnt t).1.nodup
 suffices h : ∀ (l : List (List UInt8)) (t : Tv Pl), l.Nodup → (∀ x ∈ l, 0 < cntP t x) → l.length ≤ t.length by
  have := h ((packT t).map (·.1)) t hk fun x hx => by
   obtain ⟨p, hp, rfl⟩ := List.mem_map.1 hx
   have := packT_pos hp
   omega
  simpa using this
 intro l
 induction l with
 | nil => intro t _ _; simp
 | cons x l ih =>
   intro t hn hc
   obtain ⟨hx, hn2⟩ := List.nodup_cons.1 hn
   have h1 := ih (t.filter fun e => decide (e.2.1 ≠ x)) hn2 fun y hy => by
    have hyx : y ≠ x := fun e => hx (e ▸ hy)
    have h2 := hc y (by simp [hy])
    unfold cntP at h2 ⊢
    rw [List.countP_filter]
    refine Nat.lt_of_lt_of_le h2 (List.countP_mono_left fun e _ he => ?_)
    have : e.2.1 = y := by simpa using he
    simp [this, hyx]
   have h2 := hc x (by simp)
   have h3 : (t.filter fun e => decide (e.2.1 ≠ x)).length + cntP t x = t.length := by
    unfold cntP
    rw [List.countP_eq_length_filter]
    clear ih hn hc h1 h2
    induction t with
    | nil => rfl
    | cons e t ih =>
      by_cases he : e.2.1 = x
      ·rw [List.filter_cons_of_neg (by simp [he]), List.filter_cons_of_pos (by simp [he]), List.length_cons, List.length_cons]
       omega
      ·rw [List.filter_cons_of_pos (by simp [he]), List.filter_cons_of_neg (by simp [he]), List.length_cons, List.length_cons]
       omega
   rw [List.length_cons]
   omega
end Go.Proofs.Ytmmibldchfmleaa

namespace Go.Proofs.Ytmmibldchfmleaa
open Go.RowKit Go.Maps
def plC (v : Pl) : Array Value := (u8s v.1 ++ [Value.int .i64 v.2]).toArray
def encP (v : Pl) : Value := .agg (plC v)
def zPl : Pl := (List.replicate 32 0, 0)
theorem plC_size {v : Pl} (h : v.1.length = 32) : (plC v).size = 33 := by simp [plC, u8s_length, h]
theorem plC_one (v : Pl) : (plC v).all (·.oneCell') = true := by
 refine all_oneCell_toArray fun u hu => ?_
 rcases List.mem_append.1 hu with hu | hu
 ·exact u8s_one _ u hu
 ·simp only [List.mem_singleton] at hu
  rw [hu]
  rfl
theorem plC_n {v : Pl} (h : v.1.length = 32) : (plC v)[32]? = some (.int .i64 v.2) := by
 have hl : (u8s v.1).length = 32 := by rw [u8s_length, h]
 rw [plC, List.getElem?_toArray, List.getElem?_append_right (by omega), hl]
 rfl
theorem plC_pack {v : Pl} (h : v.1.length = 32) (j : Nat) (hj : j < 32) : (plC v)[j]? = (row8 v.1)[j]? := by
 have hl : (u8s v.1).length = 32 := by rw [u8s_length, h]
 rw [plC, row8, List.getElem?_toArray, List.getElem?_toArray, List.getElem?_append_left (by omega)]
theorem pl_info : (Try.prog.info? 37).map (·.size) = some 33 := by kernel_rfl
theorem zero_pl : ∀ W, (zeroValue 37).run Try.prog W = .ok (encP zPl) W := fun W => by unfold encP plC zPl u8s; kernel_rfl
theorem zPl_len : zPl.1.length = 32 := by simp [zPl]
structure Ix (w : World) (p b : Nat) (t : Tv Pl) : Prop where
 box : w.heap[p]? = some (.cells #[.map (some b)] 66 (0, 0))
 map : Kv encP w b t
 val : ∀ e ∈ t, e.2.1.length = 32
section
variable {w w' : World} {p b : Nat} {t : Tv Pl}
theorem Ix.ne (h : Ix w p b t) : p ≠ b := by
 obtain ⟨es, clock, hb⟩ := h.map.isMap
 rintro rfl
 rw [h.box] at hb
 cases hb
theorem Ix.cell (h : Ix w p b t) : w.cell? ⟨p, 0, none⟩ = some (.map (some b)) := by
 rw [cell_of_cells h.box]
 rfl
theorem Ix.turned {T : Nat → Prop} (h : Ix w p b t) (ht : Turned T w w') (hp : ¬ T p) (hb : ¬ T b) : Ix w' p b t := ⟨(ht.block _ (lt_of_cells h.box) hp).trans h.box, h.map.turned ht hb, h.val⟩
theorem Ix.below (h : Ix w p b t) (hb : Below w.heap.size w w') : Ix w' p b t := ⟨(hb.block _ (lt_of_cells h.box)).trans h.box, h.map.below hb, h.val⟩
theorem Ix.at_val (h : Ix w p b t) {k : List UInt8} : ((getV t k).getD zPl).1.length = 32 := by
 rcases hg : getV t k with _ | v
 ·exact zPl_len
 ·exact h.val _ (getV_some hg)
end
set_option maxHeartbeats 2000000 in
theorem ixnew_any (w : World) : Calls Try.prog 9 #[] w fun e w' => ∃ p b, e = .returned (.pointer (some ⟨p, 0, none⟩)) ∧ Ix w' p b [] ∧ w.heap.size ≤ p ∧ w.heap.size ≤ b ∧ Below w.heap.size w w' := by
 have hmk : ∀ W, (Instr.makeMap 64 none).run Try.prog W = .ok (.map (some W.heap.size)) (W.alloc (.map #[] 0)) := fun W => rfl
 have hb : Below w.heap.size w ((w.alloc (.map #[] 0)).alloc (.cells #[.map (some w.heap.size)] 66)) := ((Below.refl _ _).alloc (Nat.le_refl _) _).alloc (by simp) _
 have hi : Ix ((w.alloc (.map #[] 0)).alloc (.cells #[.map (some w.heap.size)] 66)) (w.heap.size + 1) w.heap.size [] :=
  ⟨by have := heap_alloc_new (w.alloc (.map #[] 0)) (.cells #[.map (some w.heap.size)] 66); rw [World.size_alloc] at this; exact this,
   (made_kv encP w).below ((Below.refl _ _).alloc (Nat.le_refl _) _), fun e h => by cases h⟩
 have HH := Lib.hid (And.intro hb hi)
 clear hb hi
 go_enter Try.func9, Try.ntmps9
 go_wp2
 go_ret
 exact ⟨w.heap.size + 1, w.heap.size, by simp, HH.out.2, by omega, by omega, HH.out.1⟩
end Go.Proofs.Ytmmibldchfmleaa

namespace Go.Proofs.Ytmmibldchfmleaa
open Go.RowKit
theorem exec_load_st {P : Program} {E : Operand → Value} {o : Oper} {W : World} {t : TypeId} (ty : TypeId) (x : Operand) (ho : o.op = .load ty x) (g : Nat) (hx : E x = .pointer (some ⟨g, 0, none⟩)) (cells : Array Value) (f : Nat × Nat) (hg : W.heap[g]? = some (.cells cells t f)) (d : TypeDesc)
    (hu : P.underlying ty = some d) (hd : (match d with | .struct _ | .array _ _ => true | _ => false) = true) (hi : (P.info? ty).map (·.size) = some cells.size) : (execOp E o).run P W = .ok (.value (.agg cells)) W := by
 unfold execOp
 simp only [ho, hx, Instr.loadAt, Instr.sureAddr, Sem.run_bind, Sem.run_pure, Result.andThen_ok, run_loadVar_row W g t ty cells f d hg hu hd hi]
theorem eff_store_row {P : Program} {ops : Array Oper} {Q : Exit → Act → World → Prop} {i : Nat} {o : Oper} {K : Act → World → Prop} {a : Act} {w : World} (ho : ops.toList[i]? = some o) (hgd : o.guard = none) (ty : TypeId) (x y : Operand) (hop : o.op = .store ty x y)
    (g : Nat) (cells : Array Value) (hx : a.eval x = .pointer (some ⟨g, 0, none⟩)) (hy : a.eval y = .agg cells) (t : TypeId) (old : Array Value) (hg : w.heap[g]? = some (.cells old t (0, 0))) (hi : (P.info? ty).map (·.size) = some cells.size)
    (hold : old.size = cells.size) (h1 : cells.all (·.oneCell') = true) (h : K (a.put o.dst undef) (w.setRow g cells)) : wpOp P ops Q i K a w :=
 eff_step ho fun K' hK' => by
  rw [if_pos (by unfold Region.wanted; rw [hgd])]
  exact wp_store_row ty x y hop g cells hx hy t old hg hi hold h1 (hK' _ _ h)
end Go.Proofs.Ytmmibldchfmleaa

namespace Go.Proofs.Ytmmibldchfmleaa
open Go.RowKit Codec
/-! ### what may be -/
/-! ### trees -/
def fr : List UInt8 → List (List UInt8)
 | [] => [[]]
 | c :: t => if c = 47 then [] :: (fr t).map (c :: ·) else (fr t).map (c :: ·)
end Go.Proofs.Ytmmibldchfmleaa

namespace Go.Proofs.Ytmmibldchfmleaa
open Go.RowKit Codec
def idL (l : List UInt8) (e : Int) : List UInt8 := if tkE l e 32 = 0 then l.take 32 else List.replicate 32 0
def idC (l : List UInt8) (e : Int) : Array Value := (u8s (idL l e)).toArray
theorem idL_length (l : List UInt8) (e : Int) : (idL l e).length = 32 := by
 unfold idL
 split
 ·rename_i h
  obtain ⟨_, _, h1⟩ := tkE_zero h
  rw [List.length_take]
  have : (32 : Int).toNat = 32 := rfl
  omega
 ·simp
theorem u8s_allc (l : List UInt8) : (u8s l).toArray.all (·.oneCell') = true := all_oneCell_toArray (u8s_one l)
theorem zeros32c : (u8s (List.replicate 32 0)).toArray = #[.int .u8 0, .int .u8 0, .int .u8 0, .int .u8 0, .int .u8 0, .int .u8 0, .int .u8 0, .int .u8 0, .int .u8 0, .int .u8 0, .int .u8 0, .int .u8 0, .int .u8 0, .int .u8 0, .int .u8 0, .int .u8 0,
    .int .u8 0, .int .u8 0, .int .u8 0, .int .u8 0, .int .u8 0, .int .u8 0, .int .u8 0, .int .u8 0, .int .u8 0, .int .u8 0, .int .u8 0, .int .u8 0, .int .u8 0, .int .u8 0, .int .u8 0, .int .u8 0] := by rfl
theorem gr_setRow {a w : World} {row : Option Nat} (h : a.grownBy w row) {g : Nat} (hg : a.heap.size ≤ g) (cs : Array Value) : a.grownBy (w.setRow g cs) row :=
 ⟨h.os, h.tape, h.output, by simpa [World.setRow] using h.size, fun i hi hne => by
   rw [← h.block i hi hne]
   simp only [World.setRow, Array.getElem?_modify]
   rw [if_neg (by omega)]⟩
theorem gr_of_alloc {w w1 : World} {o : Obj} {row : Option Nat} (h : (w.alloc o).grownBy w1 row) : w.grownBy w1 row := gr_trans (gr_alloc (gr_refl w row) o) h
theorem gr_row (w : World) (g : Nat) (cs : Array Value) : w.grownBy (w.setRow g cs) (some g) :=
 ⟨rfl, rfl, rfl, by simp [World.setRow], fun i hi hne => by
   simp only [World.setRow, Array.getElem?_modify]
   rw [if_neg (fun e => hne (by rw [e]))]⟩
theorem run_arrayAt {P : Program} (w : World) (t : TypeId) (n : Nat) (e : TypeId) (hu : P.underlying t = some (.array n e)) (A : Option Addr) (len c : Nat) (hn : n ≤ len) :
    (Instr.arrayAt t (.slice A len c)).run P w = .ok (.pointer A) w := by
 simp [Instr.arrayAt, Sem.run_bind, run_underlying hu]
 omega
def Z32 : Array Value := (u8s (List.replicate 32 0)).toArray
theorem build_id : ∀ w, (Instr.build 31 #[]).run Try.prog w = .ok (.agg Z32) w := by
 intro w
 unfold Z32
 rw [zeros32c]
 kernel_rfl
theorem wpList_build0 {P : Program} {ops : Array Oper} {rest : List Oper} {op : Oper} {a : Act} {w : World} {Q : Exit → Act → World → Prop} (hgd : op.guard = none) (t : TypeId) (ho : op.op = .build t #[]) (v : Value)
    (hb : ∀ w, (Instr.build t #[]).run P w = .ok v w) (h : wpList P ops Q rest (a.put op.dst v) w) : wpList P ops Q (op :: rest) a w :=
 wpList_plain hgd fun _ hK => by
  unfold Oper.wp execOp
  simp only [ho, List.map_toArray, List.map_nil, hb, Sem.run_bind, Sem.run_pure, Result.andThen_ok]
  exact hK _ _ h
set_option maxHeartbeats 1000000 in
theorem id_any {w : World} {S : Nat → Prop} {p : Nat} {l : List UInt8} {e : Int} (h : Rd w S p l e) :
    Calls Try.prog 28 #[.pointer (some ⟨p, 0, none⟩)] w fun r w' => r = .returned (.agg (idC l e)) ∧ Rd w' S p (fxL l e 32) (tkE l e 32) ∧ w.grownBy w' (some p) := by
 have hnil := fun (w : World) (a : Option Addr) (n c : Nat) => Lib.run_eql_slice_nil (P := Try.prog) w 49 5 a n c 0 0 Try.underlying49
 have hlt := h.lt
 have h := h.mono (T := fun b => S b ∧ b < w.heap.size) fun b hb hs => ⟨hs, hb⟩
 unfold idC idL fxL
 by_cases hk : tkE l e 32 = 0
 ·obtain ⟨rfl, _, h1⟩ := tkE_zero hk
  simp only [hk, if_true]
  clear hk
  go_enter Try.func28, Try.ntmps28
  go_wp2_with fail
  refine (take_ok (m := 32) (h.below ((Below.refl _ _).alloc (Nat.le_refl _) _)) (by simpa using h1)).mono ?_
  rintro _ w1 ⟨A, rfl, hR, hY, hb⟩
  obtain ⟨bb, off, rfl, _, _, hcell⟩ := hY.row (by omega)
  have hg1 := (hb.block w.heap.size (by simp) (by intro e; injection e; omega)).trans (heap_alloc_new w _)
  have hl32 : (l.take 32).length = 32 := hY.len
  have hrange : w1.rangeAt bb off (u8s (l.take 32)) := fun j v hj => by
   have := byt_news hY j v hj
   rwa [add_plain] at this
  have hi32 : (Try.prog.info? 31).map (·.size) = some (u8s (l.take 32)).length := by rw [u8s_length, hl32]; exact id_info
  have hsz : (u8s (l.take 32)).toArray.size = 32 := by simp [u8s_length, hl32]
  have hsa := run_arrayAt (P := Try.prog) w1 31 32 5 Try.underlying31 (some ⟨bb, off, none⟩) 32 32 (by omega)
  have hi33 : (Try.prog.info? 31).map (·.size) = some (u8s (l.take 32)).toArray.size := by rw [hsz]; exact id_info
  have HI := Lib.hid (And.intro hi32 hi33)
  have HR := Lib.hid hrange
  have HS := Lib.hid hsz
  have HY := Lib.hid hY
  clear hrange hcell hl32 hsz hY hi32 hi33
  go_wp2_with (first | (refine wpList_load_mid (by rfl) 31 (.tmp 10) (by rfl) bb off (by rfl) (u8s (l.take 32)) _ HR.out Try.underlying31 (by rfl) HI.out.1 ?_) | (refine wpList_store_row (by rfl) 31 (.tmp 2) (.tmp 11) (by rfl) w.heap.size (u8s (l.take 32)).toArray (by rfl) (by rfl) 31 _ hg1 HI.out.2 (by rw [HS.out]; rfl) (u8s_allc _) ?_))
  refine bodyPost_ret (results_cell_row rfl _ _ w.heap.size 31 (u8s (l.take 32)).toArray (0, 0) _ rfl (setRow_at hg1) Try.underlying31 rfl HI.out.2) rfl ⟨rfl, ?_, ?_⟩
  ·exact (hR.grown (gr_row w1 w.heap.size _) (fun g hg hs => by injection hg with hg; have := hs.2; omega)).mono fun _ _ hs => hs.1
  ·exact gr_setRow (gr_of_alloc hb) (Nat.le_refl _) _
 ·simp only [hk, if_false]
  go_enter Try.func28, Try.ntmps28
  go_wp2_with fail
  refine (ctake_bad (h.below ((Below.refl _ _).alloc (Nat.le_refl _) _)) hk).mono ?_
  rintro _ w1 ⟨rfl, hR, hb⟩
  have hg1 := (hb.block w.heap.size (by simp) (by intro e; injection e; omega)).trans (heap_alloc_new w _)
  go_wp2_with (first | (refine wpList_build0 (by rfl) 31 (by rfl) (.agg Z32) build_id ?_) | (refine wpList_store_row (by rfl) 31 (.tmp 2) (.tmp 8) (by rfl) w.heap.size Z32 (by rfl) (by rfl) 31 _ hg1 (by unfold Z32; rw [zeros32c]; exact id_info) (by unfold Z32; rw [zeros32c]) (u8s_allc _) ?_))
  refine bodyPost_ret (results_cell_row rfl _ _ w.heap.size 31 Z32 (0, 0) _ rfl (setRow_at hg1) Try.underlying31 rfl (by unfold Z32; rw [zeros32c]; exact id_info)) rfl ⟨rfl, ?_, ?_⟩
  ·exact (hR.grown (gr_row w1 w.heap.size _) (fun g hg hs => by injection hg with hg; have := hs.2; omega)).mono fun _ _ hs => hs.1
  ·exact gr_setRow (gr_of_alloc hb) (Nat.le_refl _) _
end Go.Proofs.Ytmmibldchfmleaa

namespace Go.Proofs.Ytmmibldchfmleaa
open Go.RowKit Codec
abbrev En := List UInt8 × Bool × List UInt8
structure Ob where
 k : Nat
 b : List UInt8
 z : Nat
 ids : List (List UInt8)
 es : List En
 lb : List UInt8
structure Ob.Wf (x : Ob) : Prop where
 k : x.k < 256
 z : x.z < 18446744073709551616
 ids : ∀ y ∈ x.ids, y.length = 32
 es : ∀ y ∈ x.es, y.2.2.length = 32
def Ob.none (x : Ob) : Bool := decide (x.b = []) && (decide (x.z = 0) && (decide (x.ids = []) && (decide (x.es = []) && decide (x.lb = []))))
/-! ### its bytes -/
/-! ### the object of bytes -/
end Go.Proofs.Ytmmibldchfmleaa

namespace Go.Proofs.Ytmmibldchfmleaa
open Go.RowKit Go.Maps Codec
def rv (v : Value) : Option (DataW Value × List MemPlace) := some (.held v, [])
theorem mlaw : Keyed Try.prog 9 := string_keyed Try.underlying9
structure Agr (w : World) (S : Nat → Prop) (D : DataW Value) (t : Tb) : Prop where
 srt : Srt t
 size : Maps.size D = t.length
 has : ∀ k, Maps.has D (.string k) = (getT t k).isSome
 at_ : ∀ k v, getT t k = some v → ∃ A n c, (∀ z, D.atKey (.string k) z = .held (.slice A n c)) ∧ Byt w S A n c v
def Nms (w : World) (S : Nat → Prop) (b : Nat) (t : Tb) : Prop :=
 S b ∧ ∃ D, w.ownsMap Try.prog 9 rv b t.length D ∧ Agr w (fun k => S k ∧ k ≠ b) D t
variable {w w' : World} {S T : Nat → Prop} {b : Nat} {t : Tb}
theorem Nms.srt (h : Nms w S b t) : Srt t := by
 obtain ⟨_, D, _, ha⟩ := h
 exact ha.srt
theorem Nms.lt (h : Nms w S b t) : b < w.heap.size := by
 obtain ⟨_, D, ho, _⟩ := h
 exact ho.lt
theorem ownsMap_kept {P : Program} {k : TypeId} {R : Value → Option (DataW Value × List MemPlace)} {n : Nat} {D : DataW Value} (h : w.ownsMap P k R b n D) (hb : w'.heap[b]? = w.heap[b]?) : w'.ownsMap P k R b n D := by
 obtain ⟨es, clock, hb', r⟩ := h
 exact ⟨es, clock, hb.trans hb', r⟩
theorem Agr.turned {D : DataW Value} (h : Agr w S D t) (ht : Turned T w w') (hd : ∀ k, k < w.heap.size → S k → ¬ T k) : Agr w' S D t :=
 ⟨h.srt, h.size, h.has, fun k v hk => by
   obtain ⟨A, n, c, h1, h2⟩ := h.at_ k v hk
   exact ⟨A, n, c, h1, h2.turned ht hd⟩⟩
theorem Agr.mono {D : DataW Value} (h : Agr w S D t) (hT : ∀ k, k < w.heap.size → S k → T k) : Agr w T D t :=
 ⟨h.srt, h.size, h.has, fun k v hk => by
   obtain ⟨A, n, c, h1, h2⟩ := h.at_ k v hk
   exact ⟨A, n, c, h1, h2.mono hT⟩⟩
theorem Nms.turned (h : Nms w S b t) (ht : Turned T w w') (hd : ∀ k, k < w.heap.size → S k → ¬ T k) : Nms w' S b t := by
 obtain ⟨hS, D, ho, ha⟩ := h
 exact ⟨hS, D, ownsMap_kept ho (ht.block _ ho.lt (hd _ ho.lt hS)), ha.turned ht fun k hk hs => hd k hk hs.1⟩
theorem Nms.below (h : Nms w S b t) (hb : Below w.heap.size w w') : Nms w' S b t :=
 h.turned (T := fun _ => False) ⟨hb.os, hb.tape, hb.output, hb.size, fun k hk _ => hb.block k hk⟩ fun _ _ _ h => h
theorem Nms.mono (h : Nms w S b t) (hT : ∀ k, k < w.heap.size → S k → T k) : Nms w T b t := by
 obtain ⟨hS, D, ho, ha⟩ := h
 exact ⟨hT _ ho.lt hS, D, ho, ha.mono fun k hk hs => ⟨hT k hk hs.1, hs.2⟩⟩
theorem Nms.drew (h : Nms w S b t) : Nms w.drew S b t := h.below ⟨rfl, rfl, rfl, Nat.le_refl _, fun _ _ => rfl⟩
theorem Agr.keys {D : DataW Value} (h : Agr w S D t) {n : Nat} (ho : w'.ownsMap Try.prog 9 rv b n D) {ss : List (List UInt8)} (hs : ss.Perm (strKeys D)) : ss.mergeSort (fun x y => decide (x ≤ y)) = t.map (·.1) := by
 obtain ⟨es, hD, hpw, _⟩ := ho.entries mlaw
 obtain ⟨es', hD', hko⟩ := ho.keysOf
 obtain rfl : es = es' := by rw [hD] at hD'; simpa using hD'
 have hnd : (t.map (·.1)).Nodup := (h.srt.keys).imp fun h => klt_ne h
 have hp : (t.map (·.1)).Perm (strKeys D) := by
  have hh := h.has
  subst hD
  exact perm_strKeys hpw (fun p hp => by obtain ⟨v, hv⟩ := hko p hp; obtain ⟨x, _, hx, _⟩ := Maps.keyOf_str Try.underlying9 hv; exact ⟨x, hx⟩) hnd (fun x => by rw [hh x]; exact getT_isSome.symm)
 rw [show ss.mergeSort (fun x y => decide (x ≤ y)) = (t.map (·.1)).mergeSort leB from mergeSort_of_perm (hs.trans hp.symm)]
 exact List.mergeSort_of_pairwise ((h.srt.keys).imp fun {a b} h => by simpa using List.le_of_lt h)
end Go.Proofs.Ytmmibldchfmleaa

namespace Go.Proofs.Ytmmibldchfmleaa
open Go.RowKit Codec
theorem cell_turned {T : Nat → Prop} {w w' : World} (ht : Turned T w w') {k : Nat} (hk : k < w.heap.size) (hT : ¬ T k) (o : Nat) : w'.cell? ⟨k, o, none⟩ = w.cell? ⟨k, o, none⟩ :=
 World.cell?_of_block (w := w) (a := ⟨k, o, none⟩) (ht.block k hk hT)
def chV (A : Option Addr) (n c : Nat) (x : Ch) : Array Value := #[.string (st x.k), .slice A n c, .bool x.g]
structure Chs (w : World) (S : Nat → Prop) (A : Option Addr) (n c : Nat) (l : List Ch) : Prop where
 len : l.length = n
 cap : n ≤ c
 max : c ≤ maxLen
 row : 0 < n → ∃ b off, A = some ⟨b, off, none⟩ ∧ S b ∧ b < w.heap.size ∧ ∀ i x, l[i]? = some x → ∃ Ai ni ci, (∀ (j : Nat) (v : Value), (chV Ai ni ci x)[j]? = some v → w.cell? ⟨b, off + i * 3 + j, none⟩ = some v) ∧ Byt w S Ai ni ci x.v
variable {w w' : World} {S T : Nat → Prop} {A : Option Addr} {n c : Nat} {l : List Ch}
theorem Chs.turned (h : Chs w S A n c l) (ht : Turned T w w') (hd : ∀ k, k < w.heap.size → S k → ¬ T k) : Chs w' S A n c l :=
 ⟨h.len, h.cap, h.max, fun h0 => by
   obtain ⟨b, off, h1, h2, h3, h4⟩ := h.row h0
   refine ⟨b, off, h1, h2, Nat.lt_of_lt_of_le h3 ht.size, fun i x hx => ?_⟩
   obtain ⟨Ai, ni, ci, h5, h6⟩ := h4 i x hx
   exact ⟨Ai, ni, ci, fun j v hv => (cell_turned ht h3 (hd b h3 h2) _).trans (h5 j v hv), h6.turned ht hd⟩⟩
theorem Chs.below (h : Chs w S A n c l) (hb : Below w.heap.size w w') : Chs w' S A n c l :=
 h.turned (T := fun _ => False) ⟨hb.os, hb.tape, hb.output, hb.size, fun k hk _ => hb.block k hk⟩ fun _ _ _ h => h
theorem Chs.mono (h : Chs w S A n c l) (hT : ∀ k, k < w.heap.size → S k → T k) : Chs w T A n c l :=
 ⟨h.len, h.cap, h.max, fun h0 => by
   obtain ⟨b, off, h1, h2, h3, h4⟩ := h.row h0
   refine ⟨b, off, h1, hT b h3 h2, h3, fun i x hx => ?_⟩
   obtain ⟨Ai, ni, ci, h5, h6⟩ := h4 i x hx
   exact ⟨Ai, ni, ci, h5, h6.mono hT⟩⟩
theorem Chs.nil (w : World) (S : Nat → Prop) (A : Option Addr) (c : Nat) (hc : c ≤ maxLen) : Chs w S A 0 c [] := ⟨rfl, Nat.zero_le _, hc, fun h => absurd h (by omega)⟩
theorem Chs.at_ (h : Chs w S A n c l) {i : Nat} (hi : i < n) : ∃ b off x Ai ni ci, A = some ⟨b, off, none⟩ ∧ S b ∧ b < w.heap.size ∧ l[i]? = some x ∧ (∀ (j : Nat) (v : Value), (chV Ai ni ci x)[j]? = some v → w.cell? ((⟨b, off + i * 3, none⟩ : Addr).add j) = some v) ∧ Byt w S Ai ni ci x.v := by
 obtain ⟨b, off, h1, h2, h3, h4⟩ := h.row (by omega)
 have hx : l[i]? = some (l[i]'(by have := h.len; omega)) := List.getElem?_eq_getElem _
 obtain ⟨Ai, ni, ci, h5, h6⟩ := h4 i _ hx
 exact ⟨b, off, _, Ai, ni, ci, h1, h2, h3, hx, fun j v hv => by rw [add_plain]; exact h5 j v hv, h6⟩
/-! ### whether one may be -/
end Go.Proofs.Ytmmibldchfmleaa

namespace Go.Proofs.Ytmmibldchfmleaa
open Go.RowKit Codec
abbrev Fi := List UInt8 × List UInt8
def fiV (A : Option Addr) (n c : Nat) (x : Fi) : Array Value := #[.string (st x.1), .slice A n c]
structure Fls (w : World) (S : Nat → Prop) (A : Option Addr) (n c : Nat) (l : Tb) : Prop where
 len : l.length = n
 cap : n ≤ c
 max : c ≤ maxLen
 row : 0 < n → ∃ b off, A = some ⟨b, off, none⟩ ∧ S b ∧ b < w.heap.size ∧ ∀ i x, l[i]? = some x → ∃ Ai ni ci, (∀ (j : Nat) (v : Value), (fiV Ai ni ci x)[j]? = some v → w.cell? ⟨b, off + i * 2 + j, none⟩ = some v) ∧ Byt w S Ai ni ci x.2
variable {w w' : World} {S T : Nat → Prop} {A : Option Addr} {n c : Nat} {l : Tb}
theorem Fls.turned (h : Fls w S A n c l) (ht : Turned T w w') (hd : ∀ k, k < w.heap.size → S k → ¬ T k) : Fls w' S A n c l :=
 ⟨h.len, h.cap, h.max, fun h0 => by
   obtain ⟨b, off, h1, h2, h3, h4⟩ := h.row h0
   refine ⟨b, off, h1, h2, Nat.lt_of_lt_of_le h3 ht.size, fun i x hx => ?_⟩
   obtain ⟨Ai, ni, ci, h5, h6⟩ := h4 i x hx
   exact ⟨Ai, ni, ci, fun j v hv => (cell_turned ht h3 (hd b h3 h2) _).trans (h5 j v hv), h6.turned ht hd⟩⟩
theorem Fls.below (h : Fls w S A n c l) (hb : Below w.heap.size w w') : Fls w' S A n c l :=
 h.turned (T := fun _ => False) ⟨hb.os, hb.tape, hb.output, hb.size, fun k hk _ => hb.block k hk⟩ fun _ _ _ h => h
theorem Fls.mono (h : Fls w S A n c l) (hT : ∀ k, k < w.heap.size → S k → T k) : Fls w T A n c l :=
 ⟨h.len, h.cap, h.max, fun h0 => by
   obtain ⟨b, off, h1, h2, h3, h4⟩ := h.row h0
   refine ⟨b, off, h1, hT b h3 h2, h3, fun i x hx => ?_⟩
   obtain ⟨Ai, ni, ci, h5, h6⟩ := h4 i x hx
   exact ⟨Ai, ni, ci, h5, h6.mono hT⟩⟩
theorem Fls.nil (w : World) (S : Nat → Prop) (A : Option Addr) (c : Nat) (hc : c ≤ maxLen) : Fls w S A 0 c [] := ⟨rfl, Nat.zero_le _, hc, fun h => absurd h (by omega)⟩
theorem Fls.at_ (h : Fls w S A n c l) {i : Nat} (hi : i < n) : ∃ b off x Ai ni ci, A = some ⟨b, off, none⟩ ∧ S b ∧ b < w.heap.size ∧ l[i]? = some x ∧ (∀ (j : Nat) (v : Value), (fiV Ai ni ci x)[j]? = some v → w.cell? ((⟨b, off + i * 2, none⟩ : Addr).add j) = some v) ∧ Byt w S Ai ni ci x.2 := by
 obtain ⟨b, off, h1, h2, h3, h4⟩ := h.row (by omega)
 have hx : l[i]? = some (l[i]'(by have := h.len; omega)) := List.getElem?_eq_getElem _
 obtain ⟨Ai, ni, ci, h5, h6⟩ := h4 i _ hx
 exact ⟨b, off, _, Ai, ni, ci, h1, h2, h3, hx, fun j v hv => by rw [add_plain]; exact h5 j v hv, h6⟩
variable {w w' : World} {S T U : Nat → Prop} {v : Value} {l : Tb}
end Go.Proofs.Ytmmibldchfmleaa

namespace Go.Proofs.Ytmmibldchfmleaa
open Go.RowKit Codec
def fmV (x : Fi) : Array Value := #[.string (st x.1), .string (st x.2)]
structure Fms (w : World) (S : Nat → Prop) (A : Option Addr) (n c : Nat) (l : List Fi) : Prop where
 len : l.length = n
 cap : n ≤ c
 max : c ≤ maxLen
 row : 0 < n → ∃ b off, A = some ⟨b, off, none⟩ ∧ S b ∧ b < w.heap.size ∧ ∀ i x, l[i]? = some x → ∀ (j : Nat) (v : Value), (fmV x)[j]? = some v → w.cell? ⟨b, off + i * 2 + j, none⟩ = some v
variable {w w' : World} {S T : Nat → Prop} {A : Option Addr} {n c : Nat} {l : List Fi}
theorem Fms.turned (h : Fms w S A n c l) (ht : Turned T w w') (hd : ∀ k, k < w.heap.size → S k → ¬ T k) : Fms w' S A n c l :=
 ⟨h.len, h.cap, h.max, fun h0 => by
   obtain ⟨b, off, h1, h2, h3, h4⟩ := h.row h0
   exact ⟨b, off, h1, h2, Nat.lt_of_lt_of_le h3 ht.size, fun i x hx j v hv => (cell_turned ht h3 (hd b h3 h2) _).trans (h4 i x hx j v hv)⟩⟩
theorem Fms.below (h : Fms w S A n c l) (hb : Below w.heap.size w w') : Fms w' S A n c l :=
 h.turned (T := fun _ => False) (Turned.of_below hb) fun _ _ _ h => h
theorem Fms.mono (h : Fms w S A n c l) (hT : ∀ k, k < w.heap.size → S k → T k) : Fms w T A n c l :=
 ⟨h.len, h.cap, h.max, fun h0 => by
   obtain ⟨b, off, h1, h2, h3, h4⟩ := h.row h0
   exact ⟨b, off, h1, hT b h3 h2, h3, h4⟩⟩
theorem Fms.nil (w : World) (S : Nat → Prop) (A : Option Addr) (c : Nat) (hc : c ≤ maxLen) : Fms w S A 0 c [] := ⟨rfl, Nat.zero_le _, hc, fun h => absurd h (by omega)⟩
theorem Fms.at_ (h : Fms w S A n c l) {i : Nat} (hi : i < n) : ∃ b off x, A = some ⟨b, off, none⟩ ∧ S b ∧ b < w.heap.size ∧ l[i]? = some x ∧ w.cell? ⟨b, off + i * 2, none⟩ = some (.string (st x.1)) ∧ w.cell? ⟨b, off + i * 2 + 1, none⟩ = some (.string (st x.2)) := by
 obtain ⟨b, off, h1, h2, h3, h4⟩ := h.row (by omega)
 have hx : l[i]? = some (l[i]'(by have := h.len; omega)) := List.getElem?_eq_getElem _
 exact ⟨b, off, _, h1, h2, h3, hx, h4 i _ hx 0 _ rfl, h4 i _ hx 1 _ rfl⟩
end Go.Proofs.Ytmmibldchfmleaa

namespace Go.Proofs.Ytmmibldchfmleaa
open Go.RowKit Codec
def enV (y : En) : Array Value := #[.string (st y.1), .bool y.2.1] ++ row8 y.2.2
structure Ens (w : World) (S : Nat → Prop) (A : Option Addr) (n c : Nat) (l : List En) : Prop where
 len : l.length = n
 cap : n ≤ c
 max : c ≤ maxLen
 each : ∀ y ∈ l, y.2.2.length = 32
 row : 0 < n → ∃ b off, A = some ⟨b, off, none⟩ ∧ S b ∧ b < w.heap.size ∧ ∀ i x, l[i]? = some x → ∀ (j : Nat) (v : Value), (enV x)[j]? = some v → w.cell? ⟨b, off + i * 34 + j, none⟩ = some v
section
variable {w w' : World} {S T : Nat → Prop} {A : Option Addr} {n c : Nat} {l : List En}
theorem Ens.turned (h : Ens w S A n c l) (ht : Turned T w w') (hd : ∀ k, k < w.heap.size → S k → ¬ T k) : Ens w' S A n c l :=
 ⟨h.len, h.cap, h.max, h.each, fun h0 => by
   obtain ⟨b, off, h1, h2, h3, h4⟩ := h.row h0
   exact ⟨b, off, h1, h2, Nat.lt_of_lt_of_le h3 ht.size, fun i x hx j v hv => (cell_turned ht h3 (hd b h3 h2) _).trans (h4 i x hx j v hv)⟩⟩
theorem Ens.below (h : Ens w S A n c l) (hb : Below w.heap.size w w') : Ens w' S A n c l :=
 h.turned (T := fun _ => False) ⟨hb.os, hb.tape, hb.output, hb.size, fun k hk _ => hb.block k hk⟩ fun _ _ _ h => h
theorem Ens.mono (h : Ens w S A n c l) (hT : ∀ k, k < w.heap.size → S k → T k) : Ens w T A n c l :=
 ⟨h.len, h.cap, h.max, h.each, fun h0 => by
   obtain ⟨b, off, h1, h2, h3, h4⟩ := h.row h0
   exact ⟨b, off, h1, hT b h3 h2, h3, h4⟩⟩
theorem Ens.nil (w : World) (S : Nat → Prop) (A : Option Addr) (c : Nat) (hc : c ≤ maxLen) : Ens w S A 0 c [] := ⟨rfl, Nat.zero_le _, hc, (fun _ h => absurd h (by simp)), fun h => absurd h (by omega)⟩
theorem Ens.at_ (h : Ens w S A n c l) {i : Nat} (hi : i < n) : ∃ b off x, A = some ⟨b, off, none⟩ ∧ S b ∧ b < w.heap.size ∧ l[i]? = some x ∧ x.2.2.length = 32 ∧ ∀ (j : Nat) (v : Value), (enV x)[j]? = some v → w.cell? ⟨b, off + i * 34 + j, none⟩ = some v := by
 obtain ⟨b, off, h1, h2, h3, h4⟩ := h.row (by omega)
 have hx : l[i]? = some (l[i]'(by have := h.len; omega)) := List.getElem?_eq_getElem _
 exact ⟨b, off, _, h1, h2, h3, hx, h.each _ (List.getElem_mem _), h4 i _ hx⟩
end
/-! ### objects -/
structure At where
 A : Option Addr
 n : Nat
 c : Nat
 IA : Option Addr
 i : Nat
 ic : Nat
 EA : Option Addr
 e : Nat
 ec : Nat
structure Ois (w : World) (S : Nat → Prop) (p : At) (x : Ob) : Prop where
 wf : x.Wf
 lb : x.lb.length ≤ maxLen
 nm : ∀ y ∈ x.es, y.1.length ≤ maxLen
 bl : x.b.length ≤ maxLen
 ids : Ids w S p.IA p.i p.ic x.ids
 es : Ens w S p.EA p.e p.ec x.es
structure Obm (w : World) (S : Nat → Prop) (p : At) (x : Ob) : Prop where
 o : Ois w S p x
 b : Byt w S p.A p.n p.c x.b
section
variable {w w' : World} {S T : Nat → Prop} {p : At} {x : Ob}
theorem Ois.turned (h : Ois w S p x) (ht : Turned T w w') (hd : ∀ k, k < w.heap.size → S k → ¬ T k) : Ois w' S p x := ⟨h.wf, h.lb, h.nm, h.bl, h.ids.turned ht hd, h.es.turned ht hd⟩
theorem Ois.below (h : Ois w S p x) (hb : Below w.heap.size w w') : Ois w' S p x := ⟨h.wf, h.lb, h.nm, h.bl, h.ids.below hb, h.es.below hb⟩
theorem Ois.mono (h : Ois w S p x) (hT : ∀ k, k < w.heap.size → S k → T k) : Ois w T p x := ⟨h.wf, h.lb, h.nm, h.bl, h.ids.mono hT, h.es.mono hT⟩
theorem Obm.turned (h : Obm w S p x) (ht : Turned T w w') (hd : ∀ k, k < w.heap.size → S k → ¬ T k) : Obm w' S p x := ⟨h.o.turned ht hd, h.b.turned ht hd⟩
theorem Obm.below (h : Obm w S p x) (hb : Below w.heap.size w w') : Obm w' S p x := ⟨h.o.below hb, h.b.below hb⟩
theorem Obm.mono (h : Obm w S p x) (hT : ∀ k, k < w.heap.size → S k → T k) : Obm w T p x := ⟨h.o.mono hT, h.b.mono hT⟩
end
end Go.Proofs.Ytmmibldchfmleaa

namespace Go.Proofs.Ytmmibldchfmleaa
open Go.RowKit Codec
def Wr (w : World) (S : Nat → Prop) (p : Nat) (l : List UInt8) : Prop :=
 S p ∧ ∃ A c, w.heap[p]? = some (.cells #[.slice A l.length c] 103 (0, 0)) ∧ w.ownsRow 0 5 1 (.slice A l.length c) l.length (u8s l) ∧ ∀ a, A = some a → S a.block
section
variable {w w' : World} {S : Nat → Prop} {p : Nat} {l : List UInt8}
theorem Wr.lt (h : Wr w S p l) : p < w.heap.size := by
 obtain ⟨_, A, c, hh, _⟩ := h
 exact lt_of_cells hh
theorem own_lt {base : Nat} {e : TypeId} {size : Nat} {A : Option Addr} {n c : Nat} {xs : List Value} (h : w.ownsRow base e size (.slice A n c) n xs) : ∀ a, A = some a → a.block < w.heap.size := by
 rintro a rfl
 exact (h.lt a.block rfl).2
theorem Wr.mono {T : Nat → Prop} (h : Wr w S p l) (hS : ∀ b, b < w.heap.size → S b → T b) : Wr w T p l := by
 have hlt := h.lt
 obtain ⟨hp, A, c, hh, ho, hs⟩ := h
 exact ⟨hS _ hlt hp, A, c, hh, ho, fun a ha => hS _ (own_lt ho a ha) (hs a ha)⟩
theorem Wr.turned {T : Nat → Prop} (h : Wr w S p l) (ht : Turned T w w') (hd : ∀ b, b < w.heap.size → S b → ¬ T b) : Wr w' S p l := by
 have hlt := h.lt
 obtain ⟨hp, A, c, hh, ho, hs⟩ := h
 refine ⟨hp, A, c, (ht.block p hlt (hd p hlt hp)).trans hh, ?_, hs⟩
 obtain ⟨h1, h2⟩ := ho
 refine ⟨h1, ?_⟩
 rcases h2 with h2 | ⟨g, cap, cur, hv, hg, hhg, r⟩
 ·exact .inl h2
 ·have hgl := lt_of_cells hhg
  have hsg : S g := hs ⟨g, 0, none⟩ (by injection hv)
  exact .inr ⟨g, cap, cur, hv, hg, (ht.block g hgl (hd g hgl hsg)).trans hhg, r⟩
theorem Rd.turned {e : Int} {T : Nat → Prop} (h : Rd w S p l e) (ht : Turned T w w') (hd : ∀ b, b < w.heap.size → S b → ¬ T b) : Rd w' S p l e := by
 have hlt := h.lt
 obtain ⟨hB, A, n, c, hh, hy⟩ := h
 exact ⟨hB, A, n, c, (ht.block p hlt (hd p hlt hB)).trans hh, hy.turned ht hd⟩
theorem Wr.put_back {w1 : World} {l m : List UInt8} {A A' : Option Addr} {c c' n : Nat} (hp : S p) (hh : w.heap[p]? = some (.cells #[.slice A l.length c] 103 (0, 0))) (ho : w.ownsRow 0 5 1 (.slice A l.length c) l.length (u8s l)) (hs : ∀ a, A = some a → S a.block)
    (hsz : w.heap.size ≤ w'.heap.size) (hw : ∀ k, k < w.heap.size → w'.heap[k]? = w.heap[k]?)
    (ho1 : w1.ownsRow 0 5 1 (.slice A' n c') n (u8s l ++ u8s m)) (hn : n = l.length + m.length) (hg : w'.grownBy w1 (Value.slice A l.length c).ownBlock)
    (hat : (Value.slice A' n c').ownBlock = (Value.slice A l.length c).ownBlock ∨ (Value.slice A' n c').ownBlock = some w'.heap.size) :
    Wr (w1.setCell ⟨p, 0, none⟩ (.slice A' n c')) (fun b => S b ∨ w.heap.size ≤ b) p (l ++ m) := by
 have hplt := lt_of_cells hh
 have hne : ∀ g, (Value.slice A l.length c).ownBlock = some g → g ≠ p := by
  rintro g hg rfl
  rcases ho.2 with ⟨hv, _⟩ | ⟨g', cap, cur, hv, _, hhg, _⟩
  ·rw [hv] at hg; simp [Value.ownBlock] at hg
  ·rw [hv] at hg
   simp [Value.ownBlock] at hg
   subst hg
   rw [hh] at hhg
   injection hhg with hhg
   injection hhg with _ ht _
   exact absurd ht (by decide)
 have hp1 : w1.heap[p]? = some (.cells #[.slice A l.length c] 103 (0, 0)) :=
  (hg.block p (by omega) (fun e => hne p e.symm rfl)).trans ((hw p hplt).trans hh)
 have hlen : n = (l ++ m).length := by rw [hn, List.length_append]
 subst hlen
 rw [← u8s_append] at ho1
 have hne1 : ∀ g, (Value.slice A' (l ++ m).length c').ownBlock = some g → g ≠ p := by
  intro g hg1
  rcases hat with e | e
  ·rw [e] at hg1; exact hne g hg1
  ·rw [e] at hg1; injection hg1; omega
 refine ⟨.inl hp, A', c', by simpa using set_of_cells hp1 0 _, ?_, ?_⟩
 ·obtain ⟨h1, h2⟩ := ho1
  refine ⟨h1, ?_⟩
  rcases h2 with h2 | ⟨g, cap, cur, hv, hgb, hhg, r⟩
  ·exact .inl h2
  ·have : g ≠ p := hne1 g (by rw [hv]; rfl)
   exact .inr ⟨g, cap, cur, hv, hgb, (Below.heap_setCell _ _ _ _ this).trans hhg, r⟩
 ·rintro a rfl
  rcases hat with e | e
  ·rcases A with _ | a0
   ·simp [Value.ownBlock] at e
   ·simp [Value.ownBlock] at e
    exact .inl (by rw [e]; exact hs a0 rfl)
  ·simp [Value.ownBlock] at e
   exact .inr (by omega)
end
theorem own_wr {S : Nat → Prop} {A : Option Addr} {n c : Nat} (hs : ∀ a, A = some a → S a.block) : ∀ g, (Value.slice A n c).ownBlock = some g → S g := by
 intro g hg
 rcases A with _ | a
 ·simp [Value.ownBlock] at hg
 ·simp [Value.ownBlock] at hg
  rw [← hg]; exact hs a rfl
theorem Wr.app {w wx w1 : World} {S : Nat → Prop} {p : Nat} {l m : List UInt8} {A A' : Option Addr} {c c' n : Nat} (hp : S p) (hh : w.heap[p]? = some (.cells #[.slice A l.length c] 103 (0, 0))) (ho : w.ownsRow 0 5 1 (.slice A l.length c) l.length (u8s l)) (hs : ∀ a, A = some a → S a.block)
    (hx : Below w.heap.size w wx) (ho1 : w1.ownsRow 0 5 1 (.slice A' n c') n (u8s l ++ u8s m)) (hn : n = l.length + m.length) (hg : wx.grownBy w1 (Value.slice A l.length c).ownBlock)
    (hat : (Value.slice A' n c').ownBlock = (Value.slice A l.length c).ownBlock ∨ (Value.slice A' n c').ownBlock = some wx.heap.size) :
    w1.cell? ⟨p, 0, none⟩ = some (.slice A l.length c) ∧ w1.frozen? ⟨p, 0, none⟩ = false ∧
     Hid (Wr (w1.setCell ⟨p, 0, none⟩ (.slice A' n c')) (fun b => S b ∨ w.heap.size ≤ b) p (l ++ m) ∧ Turned S w (w1.setCell ⟨p, 0, none⟩ (.slice A' n c'))) := by
 have hplt := lt_of_cells hh
 have hne : (Value.slice A l.length c).ownBlock ≠ some p := by
  intro hg
  rcases ho.2 with ⟨hv, _⟩ | ⟨g', cap, cur, hv, _, hhg, _⟩
  ·rw [hv] at hg; simp [Value.ownBlock] at hg
  ·rw [hv] at hg
   simp [Value.ownBlock] at hg
   subst hg
   rw [hh] at hhg
   injection hhg with hhg
   injection hhg with _ ht _
   exact absurd ht (by decide)
 have hp1 : w1.heap[p]? = some (.cells #[.slice A l.length c] 103 (0, 0)) :=
  (hg.block p (Nat.lt_of_lt_of_le hplt hx.size) (fun e => hne e.symm)).trans ((hx.block p hplt).trans hh)
 refine ⟨by rw [cell_of_cells hp1 0]; rfl, free_of_cells hp1 0, ?_⟩
 refine ⟨Wr.put_back hp hh ho hs hx.size (fun k hk => hx.block k hk) ho1 hn hg hat, ?_⟩
 exact ((Turned.of_below hx).trans (Turned.of_gr hg (own_wr hs)) fun _ _ h => h).set hp _ _
theorem own_cap {w : World} {base : Nat} {e : TypeId} {size : Nat} {A : Option Addr} {n c : Nat} {xs : List Value} (h : w.ownsRow base e size (.slice A n c) n xs) : n ≤ c := by
 rcases h.2 with ⟨hv, rfl⟩ | ⟨g', cap, cur, hv, _, _, hn, _⟩
 ·omega
 ·injection hv with _ _ hc; omega
def Put (w : World) (S : Nat → Prop) (p : Nat) (l : List UInt8) (e : Ending) (w' : World) : Prop := e = .returned (.tuple #[]) ∧ Wr w' (fun b => S b ∨ w.heap.size ≤ b) p l ∧ Turned S w w'
set_option maxHeartbeats 1000000 in
theorem wfixed {w : World} {S T : Nat → Prop} {p : Nat} {l m : List UInt8} {A : Option Addr} {n c : Nat} (h : Wr w S p l) (hm : Byt w T A n c m) (hb : l.length + n ≤ 140737488355328) :
    Calls Try.prog 33 #[.pointer (some ⟨p, 0, none⟩), .slice A n c] w (Put w S p (l ++ m)) := by
 obtain ⟨i0, hi, hz0, hz1, hz2⟩ := info_parts u8_info
 have hmax := hm.max
 have hcap := hm.cap
 have hmlen := hm.len
 have hW := Lib.hid h
 obtain ⟨hp, A0, c0, hh, ho, hs⟩ := h
 have h0 := cell_of_cells hh 0
 simp only [List.getElem?_toArray, List.getElem?_cons_zero] at h0
 have f0 := free_of_cells hh 0
 have hoc := own_cap ho
 have HH := Lib.hid hh
 have HO := Lib.hid ho
 have HL := Lib.hid hmlen
 rcases A with _ | ad
 ·have hn0 : n = 0 := by
    rcases Nat.eq_zero_or_pos n with h0 | h0
    ·exact h0
    ·obtain ⟨_, _, hA, _⟩ := hm.row h0
     cases hA
  subst hn0
  obtain rfl : m = [] := List.eq_nil_of_length_eq_zero hmlen
  have fin : Put w S p (l ++ []) (.returned (.tuple #[])) (w.setCell ⟨p, 0, none⟩ (.slice A0 l.length c0)) := by
   rw [List.append_nil]
   refine ⟨rfl, ⟨.inl hp, A0, c0, by simpa using set_of_cells hh 0 (.slice A0 l.length c0), ?_, fun a ha => .inl (hs a ha)⟩, (Turned.refl _ _).set hp _ _⟩
   obtain ⟨h1, h2⟩ := ho
   refine ⟨h1, ?_⟩
   rcases h2 with h2 | ⟨g, cap, cur, hv, hgb, hhg, r⟩
   ·exact .inl h2
   ·have : g ≠ p := by
      rintro rfl
      rw [hh] at hhg
      injection hhg with hhg
      injection hhg with _ ht _
      exact absurd ht (by decide)
    exact .inr ⟨g, cap, cur, hv, hgb, (Below.heap_setCell _ _ _ _ this).trans hhg, r⟩
  clear hm hh ho hmlen
  go_enter Try.func33, Try.ntmps33
  go_wp2_with (at_builtin; refine wpList_append_zero (by rfl) _ _ 49 (by rfl) 5 i0 Try.underlying49 hi A0 l.length c0 c hoc (by rfl) (by rfl) ?_)
  go_end0
  exact fin
 ·have hnews := byt_news hm
  have hlen := u8s_length m
  have hone := u8s_one m
  clear hm hh ho hmlen
  go_enter Try.func33, Try.ntmps33
  go_wp2_with (at_builtin; refine wpList_append_own_at _ rfl _ _ 49 rfl 0 5 i0 (.int .u8 0) 1 1 Try.underlying49 hi hz0 hz1 hz2 rfl (by decide) _ l.length (u8s l) rfl HO.out ad n c (u8s m) rfl ?qc1 hnews hone ?qc4 ?qc5 ?qc6 ?_)
  case qc1 => rw [hlen, HL.out]; omega
  case qc4 => unfold maxLen at *; omega
  case qc5 => omega
  case qc6 => simp
  intro v' w1 hown hgrow hnn hat
  obtain ⟨A', c', rfl, _⟩ := own_byt (l := l ++ m) (by rw [u8s_append]; exact hown)
  obtain ⟨g1, g2, g3⟩ := Wr.app hp HH.out HO.out hs (Below.refl _ _) hown (by rw [HL.out]) hgrow hat
  clear hown hgrow hnn hat h0 f0 hnews
  go_wp2
  go_end0
  exact ⟨rfl, g3.out⟩
end Go.Proofs.Ytmmibldchfmleaa

namespace Go.Proofs.Ytmmibldchfmleaa
open Go.RowKit Codec
theorem or128_all : ∀ a, a < 256 → a ||| 128 = a % 128 + 128 := by decide +kernel
theorem byte_more (x : Nat) : bits .or .u8 (IntKind.u8.wrap (x : Int)) 128 = ((UInt8.ofNat (x % 128 + 128)).toNat : Int) := by
 have e : IntKind.u8.wrap (x : Int) = ((x % 256 : Nat) : Int) := by simp [IntKind.wrap, IntKind.signed, IntKind.bits]
 rw [e, show (128 : Int) = ((128 : Nat) : Int) from rfl, u8_or_nat _ _ (by omega) (by omega), or128_all _ (by omega)]
 have : (UInt8.ofNat (x % 128 + 128)).toNat = x % 128 + 128 := by simp; omega
 rw [this]
 omega
set_option maxHeartbeats 1000000 in
set_option maxRecDepth 100000 in
theorem wuint {w : World} {S : Nat → Prop} {p : Nat} {l : List UInt8} {x : Nat} (h : Wr w S p l) (hx : x < 18446744073709551616) (hb : l.length + 10 ≤ 140737488355328) :
    Calls Try.prog 32 #[.pointer (some ⟨p, 0, none⟩), .int .u64 x] w (Put w S p (l ++ put x)) := by
 obtain ⟨i0, hi, hz0, hz1, hz2⟩ := info_parts u8_info
 go_enter Try.func32, Try.ntmps32
 go_wp2
 go_loopw [1] (fun s1 wr => ∃ (y : Nat) (d : List UInt8), y < 18446744073709551616 ∧ s1 = .int .u64 y ∧ Hid (l ++ put x = d ++ put y) ∧ Wr wr (fun b => S b ∨ w.heap.size ≤ b) p d ∧ Turned S w wr) (fun s1 _ => (intOf s1).toNat)
 case atStart => exact ⟨x, l, hx, rfl, rfl, h.mono fun _ _ hs => .inl hs, Turned.refl _ _⟩
 case round =>
  obtain ⟨y, d, hy, rfl, HD, hW, hT⟩ := hrel
  obtain ⟨hp, A0, c0, hh, ho, hs⟩ := hW
  have h0 := cell_of_cells hh 0
  simp only [List.getElem?_toArray, List.getElem?_cons_zero] at h0
  have f0 := free_of_cells hh 0
  have hdl : d.length + 1 ≤ l.length + 10 := by
   have e := congrArg List.length HD.out
   have := put_length_64 hx
   have := put_length_pos y
   simp at e
   omega
  have HH := Lib.hid hh
  have HO := Lib.hid ho
  clear hh ho
  have hq4 : d.length + 1 ≤ maxLen := by unfold maxLen; omega
  have hq5 : (d.length + 1) * 1 ≤ 140737488355328 := by omega
  by_cases hlt : y < 128
  ·have hge : ¬ 128 ≤ y := by omega
   have hput := put_small hlt
   have HP := Lib.hid hput
   have hone : [Value.int .u8 (y : Int)] = u8s [UInt8.ofNat y] := by simp [u8s, Nat.mod_eq_of_lt (show y < 256 by omega)]
   have HV := Lib.hid hone
   clear hput hone
   go_wp2_with (at_builtin; refine wpList_append_own_at _ rfl _ _ 49 rfl 0 5 i0 (.int .u8 0) 1 1 Try.underlying49 hi hz0 hz1 hz2 rfl (by decide) _ d.length (u8s d) rfl (HO.out.alloc _) ⟨wr.heap.size, 0, none⟩ 1 1 [.int .u8 (y : Int)] rfl rfl (cell_one_new _ _ _) (one_of rfl) hq4 hq5 (Nat.zero_le _) ?_)
   intro v' w1 hown hgrow hnn hat
   rw [HV.out] at hown
   obtain ⟨A', c', rfl, _⟩ := own_byt (l := d ++ [UInt8.ofNat y]) (by rw [u8s_append]; exact hown)
   obtain ⟨g1, g2, g3⟩ := Wr.app (S := fun b => S b ∨ w.heap.size ≤ b) hp HH.out HO.out hs ((Below.refl _ _).alloc (Nat.le_refl _) _) hown rfl hgrow (hat.imp_right fun e => e.trans (by simp))
   have fin : Put w S p (l ++ put x) (.returned (.tuple #[])) (w1.setCell ⟨p, 0, none⟩ (.slice A' (d.length + 1) c')) := by
    rw [HD.out, HP.out]
    refine ⟨rfl, g3.out.1.mono fun b _ hs => ?_, hT.trans g3.out.2 fun i hi hs => ?_⟩
    ·rcases hs with hs | hs
     ·exact hs
     ·exact .inr (Nat.le_trans hT.size hs)
    ·rcases hs with hs | hs
     ·exact hs
     ·omega
   have HF := Lib.hid fin
   clear hown hgrow hnn hat h0 f0 fin
   go_wp2
   go_end0
   exact HF.out
  ·have hone : [Value.int .u8 (bits .or .u8 (IntKind.u8.wrap (y : Int)) 128)] = u8s [UInt8.ofNat (y % 128 + 128)] := by rw [byte_more]; rfl
   have HV := Lib.hid hone
   have hput := put_big (x := y) (by omega)
   have HP := Lib.hid hput
   clear hput hone
   go_wp2_with (at_builtin; refine wpList_append_own_at _ rfl _ _ 49 rfl 0 5 i0 (.int .u8 0) 1 1 Try.underlying49 hi hz0 hz1 hz2 rfl (by decide) _ d.length (u8s d) rfl (HO.out.alloc _) ⟨wr.heap.size, 0, none⟩ 1 1 [.int .u8 (bits .or .u8 (IntKind.u8.wrap (y : Int)) 128)] rfl rfl (cell_one_new _ _ _) (one_of rfl) hq4 hq5 (Nat.zero_le _) ?_)
   intro v' w1 hown hgrow hnn hat
   rw [HV.out] at hown
   obtain ⟨A', c', rfl, _⟩ := own_byt (l := d ++ [UInt8.ofNat (y % 128 + 128)]) (by rw [u8s_append]; exact hown)
   obtain ⟨g1, g2, g3⟩ := Wr.app (S := fun b => S b ∨ w.heap.size ≤ b) hp HH.out HO.out hs ((Below.refl _ _).alloc (Nat.le_refl _) _) hown rfl hgrow (hat.imp_right fun e => e.trans (by simp))
   clear hown hgrow hnn hat h0 f0
   go_wp2
   go_roundw
   case rel =>
    refine ⟨y / 128, d ++ [UInt8.ofNat (y % 128 + 128)], by omega, ?_, ?_, g3.out.1.mono fun b _ hs => ?_, hT.trans g3.out.2 fun i hi hs => ?_⟩
    ·go_num
    ·show l ++ put x = _
     rw [HD.out, HP.out]; simp
    ·rcases hs with hs | hs
     ·exact hs
     ·exact .inr (Nat.le_trans hT.size hs)
    ·rcases hs with hs | hs
     ·exact hs
     ·omega
   case measure => simp [intOf]; omega
end Go.Proofs.Ytmmibldchfmleaa

namespace Go.Proofs.Ytmmibldchfmleaa
open Go.RowKit Codec
theorem Put.from {w w' : World} {B p : Nat} {l : List UInt8} {e : Ending} (h : Put w (B ≤ ·) p l e w') (hB : B ≤ w.heap.size) : Wr w' (B ≤ ·) p l ∧ Below B w w' :=
 ⟨h.2.1.mono fun _ _ hs => by rcases hs with hs | hs <;> omega, h.2.2.below hB⟩
theorem wr_byt {w : World} {S : Nat → Prop} {p : Nat} {l : List UInt8} (h : Wr w S p l) : ∃ A c, w.cell? ⟨p, 0, none⟩ = some (.slice A l.length c) ∧ Byt w (fun _ => True) A l.length c l := by
 obtain ⟨_, A, c, hh, ho, _⟩ := h
 obtain ⟨A', c', hv, hb⟩ := own_byt ho
 injection hv with h1 _ h2
 subst h1 h2
 exact ⟨A, c, by rw [cell_of_cells hh 0]; rfl, hb.mono fun _ _ _ => trivial⟩
set_option maxHeartbeats 1000000 in
theorem wout {w : World} {S : Nat → Prop} {p : Nat} {l : List UInt8} (h : Wr w S p l) (hb : l.length ≤ 140737488355328) :
    Calls Try.prog 34 #[.pointer (some ⟨p, 0, none⟩)] w fun r w' => ∃ A c, r = .returned (.slice A l.length c) ∧ Byt w' (w.heap.size ≤ ·) A l.length c l ∧ Below w.heap.size w w' ∧ FreeRow w' A := by
 obtain ⟨A0, c0, h0, hY⟩ := wr_byt h
 go_enter Try.func34, Try.ntmps34
 go_wp2_with fail
 refine (clone_byt hY hb).mono ?_
 rintro _ w1 ⟨A, c, rfl, hY1, hb1, _, hF1⟩
 go_wp2
 go_ret
 exact ⟨A, c, rfl, hY1, hb1, hF1⟩
theorem newWriter (w : World) :
    Calls Try.prog 31 #[] w fun r w' => ∃ p, r = .returned (.pointer (some ⟨p, 0, none⟩)) ∧ Wr w' (w.heap.size ≤ ·) p [] ∧ Below w.heap.size w w' := by
 go_enter Try.func31, Try.ntmps31
 go_wp2
 go_ret
 exact ⟨w.heap.size, rfl, ⟨Nat.le_refl _, none, 0, heap_alloc_new w _, World.ownsRow_nil _ _ _ _, fun a h => by cases h⟩, (Below.refl _ _).alloc (Nat.le_refl _) _⟩
/-! None -/
end Go.Proofs.Ytmmibldchfmleaa

namespace Go.Proofs.Ytmmibldchfmleaa
open Go.RowKit Codec
theorem Wr.drew {w : World} {S : Nat → Prop} {p : Nat} {l : List UInt8} (h : Wr w S p l) : Wr w.drew S p l := h.turned (T := fun _ => False) ((Turned.refl _ w).drew) (fun _ _ _ hf => hf)
theorem Rd.drew {w : World} {S : Nat → Prop} {p : Nat} {l : List UInt8} {e : Int} (h : Rd w S p l e) : Rd w.drew S p l e := h.turned (T := fun _ => False) ((Turned.refl _ w).drew) (fun _ _ _ hf => hf)
theorem Wr.drewN {w : World} {S : Nat → Prop} {p : Nat} {l : List UInt8} (h : Wr w S p l) (k : Nat) : Wr (w.drewN k) S p l := h.turned (T := fun _ => False) ((Turned.refl _ w).drewN k) (fun _ _ _ hf => hf)
theorem Rd.drewN {w : World} {S : Nat → Prop} {p : Nat} {l : List UInt8} {e : Int} (h : Rd w S p l e) (k : Nat) : Rd (w.drewN k) S p l e := h.turned (T := fun _ => False) ((Turned.refl _ w).drewN k) (fun _ _ _ hf => hf)
end Go.Proofs.Ytmmibldchfmleaa

namespace Go.Proofs.Ytmmibldchfmleaa
open Go.RowKit
inductive Tree where
 | last (q : List Nat)
 | one (q : List Nat) (e : Nat) (t : Tree)
 | two (q : List Nat) (e1 : Nat) (t1 : Tree) (e2 : Nat) (t2 : Tree)
namespace Tree
def size : Tree → Nat
 | last q => q.length
 | one q _ t => q.length + (t.size + 1)
 | two q _ t1 _ _ => q.length + (t1.size + 1)
end Tree
section
variable {P : Program} {ops : Array Oper} {Q : Exit → Act → World → Prop} {md : Region.Mode}
def wpTree (P : Program) (ops : Array Oper) (Q : Exit → Act → World → Prop) : (World → Prop) → Tree → Act → World → Prop
 | C, .last q, a, w => wpSeg P ops C (fun a' => Q .normal a' w) q a
 | C, .one q e t, a, w => wpSeg P ops C (fun a1 => wpOp P ops Q e (fun a2 w2 => ∃ C' : World → Prop, C' w2 ∧ (∀ W, C' W → C W) ∧ wpTree P ops Q C' t a2 w2) a1 w) q a
 | C, .two q e1 t1 e2 t2, a, w => wpSeg P ops C (fun a1 => wpOp P ops Q e1 (fun a2 w2 => ∃ C' : World → Prop, C' w2 ∧ (∀ W, C' W → C W) ∧ wpTree P ops Q C' t1 a2 w2) a1 w ∧
     wpOp P ops Q e2 (fun a2 w2 => ∃ C' : World → Prop, C' w2 ∧ (∀ W, C' W → C W) ∧ wpTree P ops Q C' t2 a2 w2) a1 w) q a
def treeB (md : Region.Mode) (ops : Array Oper) : Array Bool → Tree → Bool
 | listed, .last q => segB md ops listed q && (Region.ready md ops (listedBy listed q)).isEmpty
 | listed, .one q e t => segB md ops listed q && (Region.ready md ops (listedBy listed q) == [e]) && treeB md ops ((listedBy listed q).setIfInBounds e true) t
 | listed, .two q e1 t1 e2 t2 => segB md ops listed q && (Region.ready md ops (listedBy listed q) == [e1, e2]) && (treeB md ops ((listedBy listed q).setIfInBounds e1 true) t1 && (treeB md ops ((listedBy listed q).setIfInBounds e2 true) t2 && (t1.size == t2.size)))
theorem wpAnyH_tree (hs : Region.noSelect ops = true) (hQ : ∀ c a d v w, Q (.panic c) (Act.put a d v) w → Q (.panic c) a w) :
    ∀ (t : Tree) (C : World → Prop) (listed : Array Bool) (a : Act) (w : World), C w → treeB md ops listed t = true → wpTree P ops Q C t a w → wpAnyH P md ops Q C t.size listed a w
 | .last q, C, listed, a, w, hC, hB, h => by
   simp only [treeB, Bool.and_eq_true] at hB
   have := wpAnyH_seg (fuel := 0) hs hQ hC q listed a hB.1 h fun a' h' => wpAnyH_done (by simpa using hB.2) h' 0
   simpa [Tree.size] using this
 | .one q e t, C, listed, a, w, hC, hB, h => by
   simp only [treeB, Bool.and_eq_true, beq_iff_eq] at hB
   obtain ⟨⟨hB1, hB2⟩, hB3⟩ := hB
   have := wpAnyH_seg (fuel := t.size + 1) hs hQ hC q listed a hB1 h fun a' h' => by
    refine wpAnyH_all hB2 (by simp) fun i hi => ?_
    rw [List.mem_singleton.1 hi]
    refine wpOp_mono ?_ h'
    rintro a2 w2 ⟨C', hC', hsub, hp⟩
    exact ⟨hsub _ hC', wpAnyH_mono hsub _ _ _ _ (wpAnyH_tree hs hQ t C' _ a2 w2 hC' hB3 hp)⟩
   simpa [Tree.size, Nat.add_comm, Nat.add_left_comm] using this
 | .two q e1 t1 e2 t2, C, listed, a, w, hC, hB, h => by
   simp only [treeB, Bool.and_eq_true, beq_iff_eq] at hB
   obtain ⟨⟨hB1, hB2⟩, hB3, hB4, hB5⟩ := hB
   have := wpAnyH_seg (fuel := t1.size + 1) hs hQ hC q listed a hB1 h fun a' h' => by
    refine wpAnyH_all hB2 (by simp) fun i hi => ?_
    simp only [List.mem_cons, List.not_mem_nil, or_false] at hi
    rcases hi with rfl | rfl
    ·refine wpOp_mono ?_ h'.1
     rintro a2 w2 ⟨C', hC', hsub, hp⟩
     exact ⟨hsub _ hC', wpAnyH_mono hsub _ _ _ _ (wpAnyH_tree hs hQ t1 C' _ a2 w2 hC' hB3 hp)⟩
    ·refine wpOp_mono ?_ h'.2
     rintro a2 w2 ⟨C', hC', hsub, hp⟩
     rw [hB5]
     exact ⟨hsub _ hC', wpAnyH_mono hsub _ _ _ _ (wpAnyH_tree hs hQ t2 C' _ a2 w2 hC' hB4 hp)⟩
   simpa [Tree.size, Nat.add_comm, Nat.add_left_comm] using this
theorem wp_region_tree {id : Nat} {a : Act} {w : World} (C : World → Prop) (t : Tree) (hm : P.follows .mixedOrders = true)
    (hB : (Region.noSelect ops && treeB .any ops (Array.replicate ops.size false) t && (t.size == ops.size)) = true)
    (hQ : ∀ c a d v w, Q (.panic c) (Act.put a d v) w → Q (.panic c) a w) (hC : C w.drew) (h : wpTree P ops Q C t a w.drew) : (Code.region id ops true).wp P Q a w := by
 simp only [Bool.and_eq_true, beq_iff_eq] at hB
 obtain ⟨⟨h1, h2⟩, h3⟩ := hB
 have hf := wpAnyH_tree (md := .any) h1 hQ t C _ a _ hC h2 h
 rw [h3] at hf
 exact wp_region_held hm hf
theorem tree_last {C : World → Prop} {q : List Nat} {a : Act} {w : World} (h : wpSeg P ops C (fun a' => Q .normal a' w) q a) : wpTree P ops Q C (.last q) a w := h
theorem tree_one {C : World → Prop} {q : List Nat} {e : Nat} {t : Tree} {a : Act} {w : World}
    (h : wpSeg P ops C (fun a1 => wpOp P ops Q e (fun a2 w2 => ∃ C' : World → Prop, C' w2 ∧ (∀ W, C' W → C W) ∧ wpTree P ops Q C' t a2 w2) a1 w) q a) : wpTree P ops Q C (.one q e t) a w := h
theorem tree_two {C : World → Prop} {q : List Nat} {e1 e2 : Nat} {t1 t2 : Tree} {a : Act} {w : World}
    (h : wpSeg P ops C (fun a1 => wpOp P ops Q e1 (fun a2 w2 => ∃ C' : World → Prop, C' w2 ∧ (∀ W, C' W → C W) ∧ wpTree P ops Q C' t1 a2 w2) a1 w ∧
      wpOp P ops Q e2 (fun a2 w2 => ∃ C' : World → Prop, C' w2 ∧ (∀ W, C' W → C W) ∧ wpTree P ops Q C' t2 a2 w2) a1 w) q a) : wpTree P ops Q C (.two q e1 t1 e2 t2) a w := h
end
end Go.Proofs.Ytmmibldchfmleaa
