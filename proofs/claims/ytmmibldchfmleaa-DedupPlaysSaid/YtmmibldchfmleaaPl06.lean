/-
  Dedup: slices.AppendSeq and slices.Collect of an iterator over ids.
-/
import Derived.Test.YtmmibldchfmleaaPl02
import Derived.Test.YtmmibldchfmleaaPl05
import Derived.Sort.MapsRangeIn
import Derived.Shelf.Abstract
import Derived.Shelf.RegionOpen
import Derived.WalkKit
import Derived.OwnWalkIn
import Derived.TacticsInMore
import Derived.LoopNIn
import Derived.LoopIn
import Derived.Test.YtmmibldchfmleaaPl01
import Derived.DeepKeys
import Derived.Test.YtmmibldchfmleaaPl04
import Derived.Shelf.SlSortCmp.NoneTotal
import Derived.Ground.SlsfProg
import Derived.Test.YtmmibldchfmleaaProg
import Derived.Shelf.SlGeneric
import Derived.Maps.AppendAt
namespace Go.Proofs.Ytmmibldchfmleaa
open Go.RowKit Go.Maps Go.Shelf
attribute [local go_sem] Oper.semAt_some
section
variable {V : Type} {enc : V → Value} {F : Fence} {n : Nat} (w : World) {ops : Array Oper} {rest : List Oper} {o : Oper} {a : Act} {Q : Exit → Act → World → Prop} {b r : Nat} {t : Tv V} {lf : List UInt8 → Bool}
theorem wpListIn_range_kv (hg : o.guard = none) (m : Operand) {T E : TypeId} (hop : o.op = Op.range T m) (hT : Try.prog.underlying T = some (.map 31 E)) (hm : a.eval m = .map (some b)) (hown : Kv enc w b t)
    (hK : ∀ w', Rgv enc w' b w.heap.size t (fun k => (getV t k).isSome) → Below w.heap.size w w' → w'.heap.size = w.heap.size + 1 → wpListIn F n Try.prog ops Q rest (a.put o.dst (.pointer (some ⟨w.heap.size, 0, none⟩))) w') :
    wpListIn F n Try.prog ops Q (o :: rest) a w := by
 refine wpListIn_plain hg fun K' hK' => ?_
 obtain ⟨w', hrun, r1, r2, r3⟩ := hown.range hT
 unfold Oper.wpIn
 refine ⟨?_, ?_⟩
 ·simp [Oper.about, hop]
 ·rw [Oper.semAt_plain F _ _ (by rw [hop]; intro c hc'; cases hc')]
  simp [execOp, hop, hm, hrun, Result.andThen]
  exact hK' _ _ (hK w' r1 r2 r3)
theorem wpListIn_next_kv (hg : o.guard = none) (it : Operand) (hop : o.op = Op.next it false) (hit : a.eval it = .pointer (some ⟨r, 0, none⟩)) (h : Rgv enc w b r t lf)
    (hDone : (∀ k, lf k = false) → wpListIn F n Try.prog ops Q rest (a.put o.dst (.tuple #[.bool false])) w)
    (hMore : ∀ k v w', k.length = 32 → lf k = true → getV t k = some v → Rgv enc w' b r t (fun x => lf x && decide (x ≠ k)) → w'.rangeLeft b r < w.rangeLeft b r → w.grownBy w' (some r) → w'.heap.size = w.heap.size →
      (Instr.entry (.pointer (some ⟨r, 0, none⟩))).run Try.prog w' = .ok (.tuple #[.agg (row8 k), enc v]) w' → wpListIn F n Try.prog ops Q rest (a.put o.dst (.tuple #[.bool true, .agg (row8 k), enc v])) w') :
    wpListIn F n Try.prog ops Q (o :: rest) a w := by
 refine wpListIn_plain hg fun K' hK' => ?_
 unfold Oper.wpIn
 refine ⟨by simp [Oper.about, hop], ?_⟩
 rw [Oper.semAt_plain F _ _ (by rw [hop]; intro c hc'; cases hc')]
 rcases h.next o.type with ⟨hl, hrun⟩ | ⟨k, v, w', hk, hlk, hv, hrun, hrg, hlt, hgr, hsz, hen⟩
 ·simp [execOp, hop, hit, hrun, Result.andThen]
  exact hK' _ _ (hDone hl)
 ·simp [execOp, hop, hit, hrun, Result.andThen]
  exact hK' _ _ (hMore k v w' hk hlk hv hrg hlt hgr hsz hen)
theorem wpList_range_kv (hg : o.guard = none) (m : Operand) {T E : TypeId} (hop : o.op = Op.range T m) (hT : Try.prog.underlying T = some (.map 31 E)) (hm : a.eval m = .map (some b)) (hown : Kv enc w b t)
    (hK : ∀ w', Rgv enc w' b w.heap.size t (fun k => (getV t k).isSome) → Below w.heap.size w w' → w'.heap.size = w.heap.size + 1 → wpList Try.prog ops Q rest (a.put o.dst (.pointer (some ⟨w.heap.size, 0, none⟩))) w') :
    wpList Try.prog ops Q (o :: rest) a w := by
 refine wpList_plain hg fun K' hK' => ?_
 obtain ⟨w', hrun, r1, r2, r3⟩ := hown.range hT
 unfold Oper.wp
 simp [execOp, hop, hm, hrun, Result.andThen]
 exact hK' _ _ (hK w' r1 r2 r3)
theorem wpList_next_kv (hg : o.guard = none) (it : Operand) (hop : o.op = Op.next it false) (hit : a.eval it = .pointer (some ⟨r, 0, none⟩)) (h : Rgv enc w b r t lf)
    (hDone : (∀ k, lf k = false) → wpList Try.prog ops Q rest (a.put o.dst (.tuple #[.bool false])) w)
    (hMore : ∀ k v w', k.length = 32 → lf k = true → getV t k = some v → Rgv enc w' b r t (fun x => lf x && decide (x ≠ k)) → w'.rangeLeft b r < w.rangeLeft b r → w.grownBy w' (some r) → w'.heap.size = w.heap.size →
      (Instr.entry (.pointer (some ⟨r, 0, none⟩))).run Try.prog w' = .ok (.tuple #[.agg (row8 k), enc v]) w' → wpList Try.prog ops Q rest (a.put o.dst (.tuple #[.bool true, .agg (row8 k), enc v])) w') :
    wpList Try.prog ops Q (o :: rest) a w := by
 refine wpList_plain hg fun K' hK' => ?_
 unfold Oper.wp
 rcases h.next o.type with ⟨hl, hrun⟩ | ⟨k, v, w', hk, hlk, hv, hrun, hrg, hlt, hgr, hsz, hen⟩
 ·simp [execOp, hop, hit, hrun, Result.andThen]
  exact hK' _ _ (hDone hl)
 ·simp [execOp, hop, hit, hrun, Result.andThen]
  exact hK' _ _ (hMore k v w' hk hlk hv hrg hlt hgr hsz hen)
def lfOf (t : Tv V) (pre : List (List UInt8)) (k : List UInt8) : Bool := (getV t k).isSome && !pre.contains k
theorem lfOf_nil (t : Tv V) : lfOf t [] = fun k => (getV t k).isSome := by
 funext k
 simp [lfOf]
theorem lfOf_snoc (t : Tv V) (pre : List (List UInt8)) (k : List UInt8) : (fun x => lfOf t pre x && decide (x ≠ k)) = lfOf t (pre ++ [k]) := by
 funext x
 by_cases e : x = k
 ·simp [lfOf, e]
 ·cases h1 : (getV t x).isSome <;> simp [lfOf, e, h1]
def Kys (t : Tv V) (pre : List (List UInt8)) : Prop := pre.Nodup ∧ ∀ x ∈ pre, (getV t x).isSome = true
theorem Kys.nil (t : Tv V) : Kys t [] := ⟨List.nodup_nil, fun _ h => by cases h⟩
theorem Kys.snoc {pre : List (List UInt8)} {k : List UInt8} (h : Kys t pre) (hk : lfOf t pre k = true) : Kys t (pre ++ [k]) := by
 unfold lfOf at hk
 simp only [Bool.and_eq_true, Bool.not_eq_true', List.contains_eq_mem, decide_eq_false_iff_not] at hk
 refine ⟨List.nodup_append.2 ⟨h.1, by simp, fun a ha b hb e => ?_⟩, fun x hx => ?_⟩
 ·simp only [List.mem_singleton] at hb
  exact hk.2 (hb ▸ e ▸ ha)
 ·rcases List.mem_append.1 hx with hx | hx
  ·exact h.2 x hx
  ·simp only [List.mem_singleton] at hx
   rw [hx]
   exact hk.1
theorem Kys.done {pre : List (List UInt8)} (h : Kys t pre) (ht : Sv t) (hl : ∀ k, lfOf t pre k = false) : pre.Perm (t.map (·.1)) := by
 refine (List.perm_ext_iff_of_nodup h.1 ht.nodup).2 fun x => ⟨fun hx => getV_isSome.1 (h.2 x hx), fun hx => ?_⟩
 have h1 := hl x
 have h2 := getV_isSome.2 hx
 unfold lfOf at h1
 rw [h2] at h1
 simpa using h1
theorem Kys.len {pre : List (List UInt8)} (h : Kys t pre) (ht : Sv t) : pre.length ≤ t.length := by
 by_cases hs : Sv t
 ·have h1 : pre.Perm ((t.map (·.1)).filter fun x => pre.contains x) := (List.perm_ext_iff_of_nodup h.1 (hs.nodup.filter _)).2 fun x => by
    rw [List.mem_filter, List.contains_eq_mem, decide_eq_true_eq]
    exact ⟨fun hx => ⟨getV_isSome.1 (h.2 x hx), hx⟩, fun hx => hx.2⟩
  rw [h1.length_eq]
  exact Nat.le_trans (List.length_filter_le _ _) (by simp)
 ·exact absurd ht hs
structure KyS (enc : V → Value) (J : (Nat → Prop) → List (List UInt8) → World → Prop) (p b r : Nat) (T : TypeId) (t : Tv V) (pre : List (List UInt8)) (W : World) : Prop where
 rg : Rgv enc W b r t (lfOf t pre)
 box : W.heap[p]? = some (.cells #[.map (some b)] T (0, 0))
 j : J (fun k => k = r) pre W
 ky : Kys t pre
end
def keysFnP (p : Nat) : Value := .func (.func 50) #[] #[.pointer (some ⟨p, 0, none⟩)]
set_option maxHeartbeats 2000000 in
theorem keysP_any (mb : Option Nat) (w : World) :
    Calls Try.prog 40 #[.map mb] w fun e w' => e = .returned (keysFnP w.heap.size) ∧ w' = w.alloc (.cells #[.map mb] 64) := by
 have hmf : ∀ (fn : Fn) (first cap : Array Value) (w : World), (Instr.makeFunc fn first cap).run Try.prog w = .ok (.func fn first cap) w := fun _ _ _ _ => rfl
 go_enter Try.func40, Try.ntmps40
 go_wp2_with fail
 go_ret
 exact ⟨rfl, rfl⟩
set_option maxHeartbeats 4000000 in
set_option maxRecDepth 100000 in
theorem keysP1 {V : Type} {enc : V → Value} {t : Tv V} (l p b : Nat) (J Jx : (Nat → Prop) → List (List UInt8) → World → Prop) (W : World) (hJ : Still W.heap.size J)
    (hbox : W.heap[p]? = some (.cells #[.map (some b)] 64 (0, 0))) (hkv : Kv enc W b t)
    (hY : ∀ D pre k W1, Bounds W.heap.size D W1 → J D pre W1 → Kys t (pre ++ [k]) → YieldAt Fence.wide 2 Try.prog l #[.agg (row8 k)] W1 fun e W' =>
      (e = .returned (.bool true) ∧ J D (pre ++ [k]) W' ∧ Kept W.heap.size D (fun k => k = p ∨ k = b) W1 W') ∨ (e = .returned (.bool false) ∧ Jx D (pre ++ [k]) W' ∧ Kept W.heap.size D (fun k => k = p ∨ k = b) W1 W'))
    (h0 : J (fun _ => False) [] W) :
    CallsIn Fence.wide 3 Try.prog 50 #[.func (.yield l) #[] #[], .pointer (some ⟨p, 0, none⟩)] W fun e W' => (∃ v, e = .returned v) ∧ ∃ D, Bounds W.heap.size D W' ∧ ((∃ xs, xs.Perm (t.map (·.1)) ∧ Kys t xs ∧ J D xs W') ∨ (∃ pre, Kys t pre ∧ Jx D pre W')) := by
 have hz := zero_id
 have hc1 := cell_of_cells hbox 0
 simp only [List.getElem?_toArray, List.getElem?_cons_zero] at hc1
 have HB := Lib.hid (And.intro hbox (And.intro hkv h0))
 have HY := Lib.hid hY
 have HJ := Lib.hid hJ
 have hpl := lt_of_cells hbox
 have hbl := hkv.lt
 have HPB := Lib.hid (And.intro hpl hbl)
 clear hbox hY hJ h0 hpl hbl
 refine callsIn_of_wp Try.func50 rfl trivial ?_ rfl
 simp only [Try.ntmps50, List.size_toArray, List.length_cons, List.length_nil, Nat.reduceAdd, Nat.reduceSub, Array.replicate_succ, Array.replicate_zero, List.push_toArray, List.append_toArray, List.nil_append, List.cons_append]
 gi_wp2_with (first
  | (gi_at_range; refine wpListIn_range_kv _ rfl _ rfl Try.underlying64 rfl hkv ?_; intro w0 hrg0 hb0 hs0)
  | gi_in)
 have H0 : Hid (KyS enc J p b W.heap.size 64 t [] w0) := Lib.hid
  ⟨by rw [lfOf_nil]; exact hrg0, (hb0.block _ HPB.out.1).trans HB.out.1, HJ.out _ _ _ _ _ (Bounds.none_ _ _) HB.out.2.2 (Steps.of_below hb0) (fun b hb => .inr ⟨by omega, by omega⟩), Kys.nil t⟩
 have HS0 := Lib.hid hs0
 clear hrg0 hb0 hs0 hkv HB hc1
 obtain ⟨r, hr⟩ : ∃ r, r = W.heap.size := ⟨_, rfl⟩
 have HR : Hid (r = W.heap.size) := Lib.hid hr
 rw [← hr] at H0 ⊢
 clear hr
 go_frame
 gi_loopw [3] (fun _ wr => ∃ pre, KyS enc J p b r 64 t pre wr) (fun _ wr => wr.rangeLeft b r)
 case atStart => exact ⟨[], H0.out⟩
 case round =>
  obtain ⟨pre, hks⟩ := hrel
  clear H0
  have HK := Lib.hid hks
  clear hks
  gi_wp2_with (first
   | (gi_at_next; refine wpListIn_next_kv _ rfl _ rfl rfl HK.out.rg ?_ ?_)
   | gi_in)
  ·intro hl
   have HF : Hid (pre.Perm (t.map (·.1)) ∧ Kys t pre ∧ J (fun k => k = r) pre wr ∧ Bounds r (fun k => k = r) wr) := Lib.hid ⟨HK.out.ky.done HK.out.rg.kv.srt hl, HK.out.ky, HK.out.j, fun b hb => by have := HK.out.rg.lt; omega⟩
   clear hl HK
   gi_wp2
   go_end0
   exact ⟨⟨_, rfl⟩, fun k => k = r, HR.out ▸ HF.out.2.2.2, .inl ⟨pre, HF.out.1, HF.out.2.1, HF.out.2.2.1⟩⟩
  ·intro k v w2 hk32 hlk hgv hrg2 hlt hg2 hs2 hen
   have hrg2 : Rgv enc w2 b r t (lfOf t (pre ++ [k])) := by rw [← lfOf_snoc]; simpa using hrg2
   obtain ⟨KS, hKS⟩ : ∃ KS, KS = row8 k := ⟨_, rfl⟩
   obtain ⟨VV, hVV⟩ : ∃ VV, VV = enc v := ⟨_, rfl⟩
   rw [← hKS, ← hVV] at hen ⊢
   have HKS : Hid (KS.size = 32 ∧ KS.all (·.oneCell') = true ∧ KS = row8 k) := Lib.hid ⟨by rw [hKS, row8_size, hk32], by rw [hKS]; exact row8_one _, hKS⟩
   have hb2 : Steps W.heap.size (fun k => k = r) wr w2 := ⟨hg2.os, hg2.tape, hg2.output, hg2.size, fun b hb hd _ => hg2.block b hb (fun e => hd (by injection e))⟩
   have H2 : Hid (Rgv enc w2 b r t (lfOf t (pre ++ [k])) ∧ w2.heap[p]? = some (.cells #[.map (some b)] 64 (0, 0)) ∧ J (fun k => k = r) pre w2 ∧ Kys t (pre ++ [k]) ∧ w2.rangeLeft b r < wr.rangeLeft b r ∧ r < w2.heap.size) := Lib.hid
    ⟨hrg2, (hg2.block _ (lt_of_cells HK.out.box) (fun e => by injection e with e; have := HPB.out.1; have := HR.out; omega)).trans HK.out.box,
     HJ.out _ _ _ _ _ (fun b hb => by have h1 := HK.out.rg.lt; have h2 := HR.out; omega) HK.out.j hb2 (fun _ h => .inl h), HK.out.ky.snoc hlk, hlt, by rw [hs2]; exact HK.out.rg.lt⟩
   clear hrg2 hlt hg2 hs2 hlk hgv hk32 hKS hVV hb2 HK
   have hg7 := heap_alloc_new w2 (.cells zerosId 31)
   have HG7 := Lib.hid hg7
   have hs3 : ∀ b, b < w2.heap.size → ((w2.alloc (.cells zerosId 31)).setRow w2.heap.size KS).heap[b]? = w2.heap[b]? := fun b hb => (setRow_ne _ _ _ _ (by omega)).trans (Below.heap_alloc _ _ _ hb)
   have hb3 : Below w2.heap.size w2 ((w2.alloc (.cells zerosId 31)).setRow w2.heap.size KS) := below_setRow ((Below.refl _ _).alloc (Nat.le_refl _) _) (Nat.le_refl _) _
   have hrg3 := H2.out.1.below hb3
   have H3 : Hid (Rgv enc ((w2.alloc (.cells zerosId 31)).setRow w2.heap.size KS) b r t (lfOf t (pre ++ [k])) ∧ ((w2.alloc (.cells zerosId 31)).setRow w2.heap.size KS).heap[p]? = some (.cells #[.map (some b)] 64 (0, 0)) ∧ J (fun k => k = r) pre ((w2.alloc (.cells zerosId 31)).setRow w2.heap.size KS) ∧ Kys t (pre ++ [k]) ∧ ((w2.alloc (.cells zerosId 31)).setRow w2.heap.size KS).rangeLeft b r < wr.rangeLeft b r ∧ ((w2.alloc (.cells zerosId 31)).setRow w2.heap.size KS).heap[w2.heap.size]? = some (.cells KS 31 (0, 0)) ∧ r < ((w2.alloc (.cells zerosId 31)).setRow w2.heap.size KS).heap.size) := Lib.hid
    ⟨hrg3.1, (hs3 _ (lt_of_cells H2.out.2.1)).trans H2.out.2.1, HJ.out _ _ _ _ _ (fun b hb => by have h1 := H2.out.2.2.2.2.2; have h2 := HR.out; omega) H2.out.2.2.1 (Steps.of_below hb3) (fun _ h => .inl h), H2.out.2.2.2.1, by rw [hrg3.2]; exact H2.out.2.2.2.2.1, setRow_at hg7, Nat.lt_of_lt_of_le H2.out.2.2.2.2.2 hb3.size⟩
   clear hg7 hs3 hb3 hrg3 H2
   gi_wp2_with (first
    | (refine wpListIn_store_row (by rfl) 31 (.tmp 3) (.tmp 9) (by rfl) w2.heap.size KS (by rfl) (by rfl) 31 zerosId HG7.out (by rw [HKS.out.1]; exact id_info) (by rw [HKS.out.1]; rfl) HKS.out.2.1 ?_
       clear HG7 hen
       generalize (w2.alloc (.cells zerosId 31)).setRow w2.heap.size KS = w3 at H3 ⊢
       generalize w2.heap.size = q7 at H3 ⊢
       obtain ⟨fn, tmps, assign, body, hy, hR⟩ := HY.out (fun k => k = r) pre k w3 (fun b hb => by have h1 := H3.out.2.2.2.2.2.2; have h2 := HR.out; omega) H3.out.2.2.1 H3.out.2.2.2.1
       have HRR := Lib.hid hR
       rw [show row8 k = KS from HKS.out.2.2.symm] at hy
       clear hR)
    | (refine wpListIn_load_row (by rfl) 31 (.tmp 3) (by rfl) q7 (by rfl) 31 KS (0, 0) _ H3.out.2.2.2.2.2.1 Try.underlying31 (by rfl) (by rw [HKS.out.1]; exact id_info) ?_))
   refine HRR.out.mono ?_
   rintro e w4 (⟨rfl, hJ4, hk4⟩ | ⟨rfl, hJx4, hk4⟩)
   ·have hrb : w4.heap[b]? = w3.heap[b]? := hk4.turned.block b H3.out.1.kv.lt (fun h => h (.inr (.inr rfl)))
    have hrr : w4.heap[r]? = w3.heap[r]? := hk4.turned.block r H3.out.1.lt (fun h => h (.inl rfl))
    have hrg4 := H3.out.1.kept hrb hrr
    have H4 : Hid (KyS enc J p b r 64 t (pre ++ [k]) w4 ∧ w4.rangeLeft b r < wr.rangeLeft b r) := Lib.hid
     ⟨⟨hrg4.1, (hk4.turned.block p (lt_of_cells H3.out.2.1) (fun h => h (.inr (.inl rfl)))).trans H3.out.2.1, hJ4, H3.out.2.2.2.1⟩, by rw [hrg4.2]; exact H3.out.2.2.2.2.1⟩
    clear hrb hrr hrg4 hJ4 hk4 hy HRR H3
    gi_wp2
    go_roundw
    case rel => exact ⟨_, H4.out.1⟩
    case measure => exact H4.out.2
   ·have HXX : Hid (∃ D, Bounds W.heap.size D w4 ∧ ∃ pre, Kys t pre ∧ Jx D pre w4) := Lib.hid ⟨fun k => k = r, fun b hb => by have h1 := H3.out.2.2.2.2.2.2; have h2 := HR.out; have h3 := hk4.turned.size; omega, _, H3.out.2.2.2.1, hJx4⟩
    clear hJx4 hk4 hy HRR H3
    gi_wp2
    refine bodyPost_ret (results_none rfl _ _ _) rfl ?_
    obtain ⟨D, hB, hx⟩ := HXX.out
    exact ⟨⟨_, rfl⟩, D, hB, .inr hx⟩
theorem keysP_iter {V : Type} {enc : V → Value} {t : Tv V} (p b : Nat) (w : World) (hbox : w.heap[p]? = some (.cells #[.map (some b)] 64 (0, 0))) (hkv : Kv enc w b t) :
    Iter Try.prog 50 #[.pointer (some ⟨p, 0, none⟩)] (fun k => #[.agg (row8 k)]) (fun k => k = p ∨ k = b) (fun _ pre _ => Kys t pre) (fun xs => xs.Perm (t.map (·.1))) w := by
 refine ⟨fun _ _ _ _ h _ => h, fun l J Jx W hW hJ hJx hY h0 => ?_⟩
 refine callsIn_wide.1 ((keysP1 l p b J Jx W hJ ((hW.block _ (lt_of_cells hbox)).trans hbox) (hkv.below hW) (fun D pre k W1 hB hj hk => ?_) h0).mono ?_)
 ·obtain ⟨fn, tmps, assign, body, hy, hR⟩ := hY D pre k W1 hB hj hk
  exact ⟨fn, tmps, assign, body, hy, RoundIn.wide hR⟩
 ·rintro e W' ⟨hv, D, hB, ⟨xs, h1, h2, h3⟩ | ⟨pre, h2, h3⟩⟩
  ·exact ⟨hv, D, hB, .inl ⟨xs, h1, h2, h3⟩⟩
  ·exact ⟨hv, D, hB, .inr ⟨pre, h2, h3⟩⟩
def keysFnN (p : Nat) : Value := .func (.func 49) #[] #[.pointer (some ⟨p, 0, none⟩)]
set_option maxHeartbeats 2000000 in
theorem keysN_any (mb : Option Nat) (w : World) :
    Calls Try.prog 39 #[.map mb] w fun e w' => e = .returned (keysFnN w.heap.size) ∧ w' = w.alloc (.cells #[.map mb] 88) := by
 have hmf : ∀ (fn : Fn) (first cap : Array Value) (w : World), (Instr.makeFunc fn first cap).run Try.prog w = .ok (.func fn first cap) w := fun _ _ _ _ => rfl
 go_enter Try.func39, Try.ntmps39
 go_wp2_with fail
 go_ret
 exact ⟨rfl, rfl⟩
set_option maxHeartbeats 4000000 in
set_option maxRecDepth 100000 in
theorem keysN1 {V : Type} {enc : V → Value} {t : Tv V} (l p b : Nat) (J Jx : (Nat → Prop) → List (List UInt8) → World → Prop) (W : World) (hJ : Still W.heap.size J)
    (hbox : W.heap[p]? = some (.cells #[.map (some b)] 88 (0, 0))) (hkv : Kv enc W b t)
    (hY : ∀ D pre k W1, Bounds W.heap.size D W1 → J D pre W1 → Kys t (pre ++ [k]) → YieldAt Fence.wide 2 Try.prog l #[.agg (row8 k)] W1 fun e W' =>
      (e = .returned (.bool true) ∧ J D (pre ++ [k]) W' ∧ Kept W.heap.size D (fun k => k = p ∨ k = b) W1 W') ∨ (e = .returned (.bool false) ∧ Jx D (pre ++ [k]) W' ∧ Kept W.heap.size D (fun k => k = p ∨ k = b) W1 W'))
    (h0 : J (fun _ => False) [] W) :
    CallsIn Fence.wide 3 Try.prog 49 #[.func (.yield l) #[] #[], .pointer (some ⟨p, 0, none⟩)] W fun e W' => (∃ v, e = .returned v) ∧ ∃ D, Bounds W.heap.size D W' ∧ ((∃ xs, xs.Perm (t.map (·.1)) ∧ Kys t xs ∧ J D xs W') ∨ (∃ pre, Kys t pre ∧ Jx D pre W')) := by
 have hz := zero_id
 have hc1 := cell_of_cells hbox 0
 simp only [List.getElem?_toArray, List.getElem?_cons_zero] at hc1
 have HB := Lib.hid (And.intro hbox (And.intro hkv h0))
 have HY := Lib.hid hY
 have HJ := Lib.hid hJ
 have hpl := lt_of_cells hbox
 have hbl := hkv.lt
 have HPB := Lib.hid (And.intro hpl hbl)
 clear hbox hY hJ h0 hpl hbl
 refine callsIn_of_wp Try.func49 rfl trivial ?_ rfl
 simp only [Try.ntmps49, List.size_toArray, List.length_cons, List.length_nil, Nat.reduceAdd, Nat.reduceSub, Array.replicate_succ, Array.replicate_zero, List.push_toArray, List.append_toArray, List.nil_append, List.cons_append]
 gi_wp2_with (first
  | (gi_at_range; refine wpListIn_range_kv _ rfl _ rfl Try.underlying88 rfl hkv ?_; intro w0 hrg0 hb0 hs0)
  | gi_in)
 have H0 : Hid (KyS enc J p b W.heap.size 88 t [] w0) := Lib.hid
  ⟨by rw [lfOf_nil]; exact hrg0, (hb0.block _ HPB.out.1).trans HB.out.1, HJ.out _ _ _ _ _ (Bounds.none_ _ _) HB.out.2.2 (Steps.of_below hb0) (fun b hb => .inr ⟨by omega, by omega⟩), Kys.nil t⟩
 have HS0 := Lib.hid hs0
 clear hrg0 hb0 hs0 hkv HB hc1
 obtain ⟨r, hr⟩ : ∃ r, r = W.heap.size := ⟨_, rfl⟩
 have HR : Hid (r = W.heap.size) := Lib.hid hr
 rw [← hr] at H0 ⊢
 clear hr
 go_frame
 gi_loopw [3] (fun _ wr => ∃ pre, KyS enc J p b r 88 t pre wr) (fun _ wr => wr.rangeLeft b r)
 case atStart => exact ⟨[], H0.out⟩
 case round =>
  obtain ⟨pre, hks⟩ := hrel
  clear H0
  have HK := Lib.hid hks
  clear hks
  gi_wp2_with (first
   | (gi_at_next; refine wpListIn_next_kv _ rfl _ rfl rfl HK.out.rg ?_ ?_)
   | gi_in)
  ·intro hl
   have HF : Hid (pre.Perm (t.map (·.1)) ∧ Kys t pre ∧ J (fun k => k = r) pre wr ∧ Bounds r (fun k => k = r) wr) := Lib.hid ⟨HK.out.ky.done HK.out.rg.kv.srt hl, HK.out.ky, HK.out.j, fun b hb => by have := HK.out.rg.lt; omega⟩
   clear hl HK
   gi_wp2
   go_end0
   exact ⟨⟨_, rfl⟩, fun k => k = r, HR.out ▸ HF.out.2.2.2, .inl ⟨pre, HF.out.1, HF.out.2.1, HF.out.2.2.1⟩⟩
  ·intro k v w2 hk32 hlk hgv hrg2 hlt hg2 hs2 hen
   have hrg2 : Rgv enc w2 b r t (lfOf t (pre ++ [k])) := by rw [← lfOf_snoc]; simpa using hrg2
   obtain ⟨KS, hKS⟩ : ∃ KS, KS = row8 k := ⟨_, rfl⟩
   obtain ⟨VV, hVV⟩ : ∃ VV, VV = enc v := ⟨_, rfl⟩
   rw [← hKS, ← hVV] at hen ⊢
   have HKS : Hid (KS.size = 32 ∧ KS.all (·.oneCell') = true ∧ KS = row8 k) := Lib.hid ⟨by rw [hKS, row8_size, hk32], by rw [hKS]; exact row8_one _, hKS⟩
   have hb2 : Steps W.heap.size (fun k => k = r) wr w2 := ⟨hg2.os, hg2.tape, hg2.output, hg2.size, fun b hb hd _ => hg2.block b hb (fun e => hd (by injection e))⟩
   have H2 : Hid (Rgv enc w2 b r t (lfOf t (pre ++ [k])) ∧ w2.heap[p]? = some (.cells #[.map (some b)] 88 (0, 0)) ∧ J (fun k => k = r) pre w2 ∧ Kys t (pre ++ [k]) ∧ w2.rangeLeft b r < wr.rangeLeft b r ∧ r < w2.heap.size) := Lib.hid
    ⟨hrg2, (hg2.block _ (lt_of_cells HK.out.box) (fun e => by injection e with e; have := HPB.out.1; have := HR.out; omega)).trans HK.out.box,
     HJ.out _ _ _ _ _ (fun b hb => by have h1 := HK.out.rg.lt; have h2 := HR.out; omega) HK.out.j hb2 (fun _ h => .inl h), HK.out.ky.snoc hlk, hlt, by rw [hs2]; exact HK.out.rg.lt⟩
   clear hrg2 hlt hg2 hs2 hlk hgv hk32 hKS hVV hb2 HK
   have hg7 := heap_alloc_new w2 (.cells zerosId 31)
   have HG7 := Lib.hid hg7
   have hs3 : ∀ b, b < w2.heap.size → ((w2.alloc (.cells zerosId 31)).setRow w2.heap.size KS).heap[b]? = w2.heap[b]? := fun b hb => (setRow_ne _ _ _ _ (by omega)).trans (Below.heap_alloc _ _ _ hb)
   have hb3 : Below w2.heap.size w2 ((w2.alloc (.cells zerosId 31)).setRow w2.heap.size KS) := below_setRow ((Below.refl _ _).alloc (Nat.le_refl _) _) (Nat.le_refl _) _
   have hrg3 := H2.out.1.below hb3
   have H3 : Hid (Rgv enc ((w2.alloc (.cells zerosId 31)).setRow w2.heap.size KS) b r t (lfOf t (pre ++ [k])) ∧ ((w2.alloc (.cells zerosId 31)).setRow w2.heap.size KS).heap[p]? = some (.cells #[.map (some b)] 88 (0, 0)) ∧ J (fun k => k = r) pre ((w2.alloc (.cells zerosId 31)).setRow w2.heap.size KS) ∧ Kys t (pre ++ [k]) ∧ ((w2.alloc (.cells zerosId 31)).setRow w2.heap.size KS).rangeLeft b r < wr.rangeLeft b r ∧ ((w2.alloc (.cells zerosId 31)).setRow w2.heap.size KS).heap[w2.heap.size]? = some (.cells KS 31 (0, 0)) ∧ r < ((w2.alloc (.cells zerosId 31)).setRow w2.heap.size KS).heap.size) := Lib.hid
    ⟨hrg3.1, (hs3 _ (lt_of_cells H2.out.2.1)).trans H2.out.2.1, HJ.out _ _ _ _ _ (fun b hb => by have h1 := H2.out.2.2.2.2.2; have h2 := HR.out; omega) H2.out.2.2.1 (Steps.of_below hb3) (fun _ h => .inl h), H2.out.2.2.2.1, by rw [hrg3.2]; exact H2.out.2.2.2.2.1, setRow_at hg7, Nat.lt_of_lt_of_le H2.out.2.2.2.2.2 hb3.size⟩
   clear hg7 hs3 hb3 hrg3 H2
   gi_wp2_with (first
    | (refine wpListIn_store_row (by rfl) 31 (.tmp 3) (.tmp 9) (by rfl) w2.heap.size KS (by rfl) (by rfl) 31 zerosId HG7.out (by rw [HKS.out.1]; exact id_info) (by rw [HKS.out.1]; rfl) HKS.out.2.1 ?_
       clear HG7 hen
       generalize (w2.alloc (.cells zerosId 31)).setRow w2.heap.size KS = w3 at H3 ⊢
       generalize w2.heap.size = q7 at H3 ⊢
       obtain ⟨fn, tmps, assign, body, hy, hR⟩ := HY.out (fun k => k = r) pre k w3 (fun b hb => by have h1 := H3.out.2.2.2.2.2.2; have h2 := HR.out; omega) H3.out.2.2.1 H3.out.2.2.2.1
       have HRR := Lib.hid hR
       rw [show row8 k = KS from HKS.out.2.2.symm] at hy
       clear hR)
    | (refine wpListIn_load_row (by rfl) 31 (.tmp 3) (by rfl) q7 (by rfl) 31 KS (0, 0) _ H3.out.2.2.2.2.2.1 Try.underlying31 (by rfl) (by rw [HKS.out.1]; exact id_info) ?_))
   refine HRR.out.mono ?_
   rintro e w4 (⟨rfl, hJ4, hk4⟩ | ⟨rfl, hJx4, hk4⟩)
   ·have hrb : w4.heap[b]? = w3.heap[b]? := hk4.turned.block b H3.out.1.kv.lt (fun h => h (.inr (.inr rfl)))
    have hrr : w4.heap[r]? = w3.heap[r]? := hk4.turned.block r H3.out.1.lt (fun h => h (.inl rfl))
    have hrg4 := H3.out.1.kept hrb hrr
    have H4 : Hid (KyS enc J p b r 88 t (pre ++ [k]) w4 ∧ w4.rangeLeft b r < wr.rangeLeft b r) := Lib.hid
     ⟨⟨hrg4.1, (hk4.turned.block p (lt_of_cells H3.out.2.1) (fun h => h (.inr (.inl rfl)))).trans H3.out.2.1, hJ4, H3.out.2.2.2.1⟩, by rw [hrg4.2]; exact H3.out.2.2.2.2.1⟩
    clear hrb hrr hrg4 hJ4 hk4 hy HRR H3
    gi_wp2
    go_roundw
    case rel => exact ⟨_, H4.out.1⟩
    case measure => exact H4.out.2
   ·have HXX : Hid (∃ D, Bounds W.heap.size D w4 ∧ ∃ pre, Kys t pre ∧ Jx D pre w4) := Lib.hid ⟨fun k => k = r, fun b hb => by have h1 := H3.out.2.2.2.2.2.2; have h2 := HR.out; have h3 := hk4.turned.size; omega, _, H3.out.2.2.2.1, hJx4⟩
    clear hJx4 hk4 hy HRR H3
    gi_wp2
    refine bodyPost_ret (results_none rfl _ _ _) rfl ?_
    obtain ⟨D, hB, hx⟩ := HXX.out
    exact ⟨⟨_, rfl⟩, D, hB, .inr hx⟩
theorem keysN_iter {V : Type} {enc : V → Value} {t : Tv V} (p b : Nat) (w : World) (hbox : w.heap[p]? = some (.cells #[.map (some b)] 88 (0, 0))) (hkv : Kv enc w b t) :
    Iter Try.prog 49 #[.pointer (some ⟨p, 0, none⟩)] (fun k => #[.agg (row8 k)]) (fun k => k = p ∨ k = b) (fun _ pre _ => Kys t pre) (fun xs => xs.Perm (t.map (·.1))) w := by
 refine ⟨fun _ _ _ _ h _ => h, fun l J Jx W hW hJ hJx hY h0 => ?_⟩
 refine callsIn_wide.1 ((keysN1 l p b J Jx W hJ ((hW.block _ (lt_of_cells hbox)).trans hbox) (hkv.below hW) (fun D pre k W1 hB hj hk => ?_) h0).mono ?_)
 ·obtain ⟨fn, tmps, assign, body, hy, hR⟩ := hY D pre k W1 hB hj hk
  exact ⟨fn, tmps, assign, body, hy, RoundIn.wide hR⟩
 ·rintro e W' ⟨hv, D, hB, ⟨xs, h1, h2, h3⟩ | ⟨pre, h2, h3⟩⟩
  ·exact ⟨hv, D, hB, .inl ⟨xs, h1, h2, h3⟩⟩
  ·exact ⟨hv, D, hB, .inr ⟨pre, h2, h3⟩⟩
end Go.Proofs.Ytmmibldchfmleaa

namespace Go.Proofs.Ytmmibldchfmleaa
open Go.RowKit
section
variable {P : Program} (w : World)
theorem run_part_byte {e : TypeId} (he : P.underlying e = some (.int .u8)) (l : List UInt8) (k : Nat) (hk : k < l.length) :
    (part e (u8s l).toArray (k * 1)).run P w = .ok (.int .u8 ((l[k]).toNat : Int)) w := by
 have hag : (isAgg e).run P w = .ok false w := by
  unfold isAgg
  rw [Sem.run_bind, run_underlying he w]
  simp
 have hc : (u8s l)[k]? = some (.int .u8 ((l[k]).toNat : Int)) := by simp [u8s, List.getElem?_eq_getElem hk]
 simp [part, Sem.run_bind, hag, hc]
theorem run_eqItems_bytes (d : Nat) {e : TypeId} (he : P.underlying e = some (.int .u8)) (l m : List UInt8) (hlm : l.length = m.length) :
    ∀ (j k : Nat), k + j = l.length → (Op.eqItems (d + 1) e 1 (u8s l).toArray (u8s m).toArray (List.range' k j)).run P w = .ok (decide (l.drop k = m.drop k)) w
 | 0, k, h => by
   have h1 : l.drop k = [] := List.drop_eq_nil_of_le (by omega)
   have h2 : m.drop k = [] := List.drop_eq_nil_of_le (by omega)
   simp [Op.eqItems, h1, h2]
 | j + 1, k, h => by
   have hk : k < l.length := by omega
   have hk2 : k < m.length := by omega
   rw [List.range'_succ]
   simp only [Op.eqItems, Sem.run_bind, run_part_byte w he l k hk, run_part_byte w he m k hk2, Result.andThen_ok, run_equalIn_int w d e .u8 .u8 _ _ he]
   have e1 : l.drop k = l[k] :: l.drop (k + 1) := List.drop_eq_getElem_cons hk
   have e2 : m.drop k = m[k] :: m.drop (k + 1) := List.drop_eq_getElem_cons hk2
   have ih := run_eqItems_bytes d he l m hlm j (k + 1) (by omega)
   rw [e1, e2]
   clear e1 e2
   generalize l.drop (k + 1) = a at *
   generalize m.drop (k + 1) = b at *
   by_cases hx : l[k] = m[k]
   ·rw [hx]
    simp [ih]
   ·have hne : ¬ ((l[k]).toNat : Int) = ((m[k]).toNat : Int) := by
      intro e1
      exact hx (UInt8.toNat.inj (by omega))
    simp [hx, hne]
theorem run_equalIn_bytes {t e : TypeId} {n : Nat} {i : TypeInfo} (ht : P.underlying t = some (.array n e)) (he : P.underlying e = some (.int .u8)) (hi : P.info? e = some i) (hs : P.cellsOf e = 1) (d : Nat) (l m : List UInt8) (hl : l.length = n) (hm : m.length = n) :
    (Op.equalIn (d + 2) t (.agg (u8s l).toArray) (.agg (u8s m).toArray)).run P w = .ok (decide (l = m)) w := by
 rw [show d + 2 = (d + 1) + 1 from rfl, run_equalIn_array w (d + 1) _ _ ht hi, hs, List.range_eq_range', run_eqItems_bytes w d he l m (by omega) n 0 (by omega)]
 simp
end
end Go.Proofs.Ytmmibldchfmleaa

namespace Go.Proofs.Ytmmibldchfmleaa
open Go.RowKit Go.Maps
theorem dd_u8_info : (Try.prog.info? 5).map (fun i => (i.zero, i.size, i.bytes)) = some (some (.int .u8 0), 1, 1) := by kernel_rfl
theorem dd_ideq (l m : List UInt8) (hl : l.length = 32) (hm : m.length = 32) (w : World) : (Op.equalIn 10000 31 (.agg (row8 l)) (.agg (row8 m))).run Try.prog w = .ok (decide (l = m)) w := by
 obtain ⟨i0, hi, hz0, hz1, hz2⟩ := info_parts dd_u8_info
 exact run_equalIn_bytes w Try.underlying31 Try.underlying5 hi (by kernel_rfl) 9998 l m hl hm
theorem pl_pack {w : World} {g : Nat} {v : Pl} {VS : Array Value} (hV : VS = plC v) (h : w.heap[g]? = some (.cells VS 37 (0, 0))) (hv : v.1.length = 32) {PS : Array Value} (hP : PS = row8 v.1) : ∀ j u, PS[j]? = some u → w.cell? ((⟨g, 0, none⟩ : Addr).add j) = some u := fun j u hj => by
 subst hP hV
 have hjl : j < 32 := by
  have := (Array.getElem?_eq_some_iff.1 hj).1
  rwa [row8_size, hv] at this
 rw [add_plain, Nat.zero_add, cell_of_cells h, plC_pack hv j hjl, hj]
structure DrS (w : World) (p b r q : Nat) (pk : List UInt8) (t : Tv Pl) (lf : List UInt8 → Bool) (W : World) : Prop where
 rg : Rgv encP W b r (dropL t pk lf) lf
 box : W.heap[p]? = some (.cells #[.map (some b)] 66 (0, 0))
 row : W.heap[q]? = some (.cells (row8 pk) 31 (0, 0))
 tn : Turned (· = b) w W
 lo : w.heap.size ≤ r ∧ w.heap.size ≤ q ∧ q ≠ r
theorem DrS.ix {w W : World} {p b r q : Nat} {pk : List UInt8} {t : Tv Pl} {lf : List UInt8 → Bool} (h : DrS w p b r q pk t lf W) (ht : ∀ e ∈ t, e.2.1.length = 32) : Ix W p b (dropL t pk lf) := ⟨h.box, h.rg.kv, fun e he => ht e (List.mem_filter.1 he).1⟩
theorem DrS.later {w W W' : World} {p b r q : Nat} {pk : List UInt8} {t : Tv Pl} {lf : List UInt8 → Bool} (h : DrS w p b r q pk t lf W) (hb : Below W.heap.size W W') : DrS w p b r q pk t lf W' ∧ W'.rangeLeft b r = W.rangeLeft b r :=
 ⟨⟨(h.rg.below hb).1, (hb.block _ (lt_of_cells h.box)).trans h.box, (hb.block _ (lt_of_cells h.row)).trans h.row, h.tn.trans (Turned.of_below (S := (· = b)) hb) fun _ _ h => h, h.lo⟩, (h.rg.below hb).2⟩
set_option maxHeartbeats 4000000 in
set_option maxRecDepth 100000 in
theorem ixdrop_any {w : World} {p b : Nat} {t : Tv Pl} (h : Ix w p b t) (hl : t.length ≤ 1000000) {pk : List UInt8} (hk : pk.length = 32) :
    Calls Try.prog 10 #[.pointer (some ⟨p, 0, none⟩), .agg (row8 pk)] w (IxP w p b (dropT t pk) (.int .i64 ((t.length - (dropT t pk).length : Nat) : Int))) := by
 have hzi := zero_id
 obtain ⟨ZS, hZS⟩ : ∃ ZS, ZS = plC zPl := ⟨_, rfl⟩
 have hzp : ∀ W, (zeroValue 37).run Try.prog W = .ok (.agg ZS) W := fun W => by rw [hZS]; exact zero_pl W
 obtain ⟨KS, hKS⟩ : ∃ KS, KS = row8 pk := ⟨_, rfl⟩
 have hb1 : Below w.heap.size w (w.alloc (.cells KS 31)) := (Below.refl _ _).alloc (Nat.le_refl _) _
 have hi1 := h.below hb1
 have hr1 := heap_alloc_new w (.cells KS 31)
 have hcb := hi1.cell
 have hlen := hi1.map.len Try.underlying64 3
 rw [← hKS]
 have HKS : Hid (KS = row8 pk ∧ KS.size = 32) := Lib.hid ⟨hKS, by rw [hKS, row8_size, hk]⟩
 have HZS : Hid (ZS.size = 33) := Lib.hid (by rw [hZS, plC_size zPl_len])
 have HH := Lib.hid (And.intro h (And.intro hl hk))
 have H1 := Lib.hid (And.intro hi1 (And.intro hr1 hb1))
 clear h hl hk hb1 hr1 hKS hZS
 obtain ⟨N, hN⟩ : ∃ N, N = t.length := ⟨_, rfl⟩
 rw [← hN] at hlen ⊢
 have HN := Lib.hid hN
 clear hN
 have hkv := hi1.map
 clear hi1
 go_enter Try.func10, Try.ntmps10
 go_wp2_with (first
  | (at_range; refine wpList_range_kv _ rfl _ rfl Try.underlying64 rfl hkv ?_; intro w0 hrg0 hb0 hs0)
  | go_in)
 have hs1 : (w.alloc (.cells KS 31)).heap.size = w.heap.size + 1 := by simp
 have H0 : Hid (DrS w p b (w.alloc (.cells KS 31)).heap.size w.heap.size pk t (fun k => (getV t k).isSome) w0) := Lib.hid
  ⟨by rw [dropL_start fun e he => getV_isSome.2 (List.mem_map.2 ⟨e, he, rfl⟩)]; exact hrg0, (hb0.block _ (lt_of_cells H1.out.1.box)).trans H1.out.1.box,
   by rw [← HKS.out.1]; exact (hb0.block _ (lt_of_cells H1.out.2.1)).trans H1.out.2.1, (Turned.of_below (S := (· = b)) H1.out.2.2).trans (Turned.of_below (S := (· = b)) hb0) fun _ _ h => h, by omega, by omega, by omega⟩
 have HS := Lib.hid hs1
 clear hrg0 hb0 hs0 hkv hlen hcb H1 hs1
 simp only [World.size_alloc] at H0 ⊢
 obtain ⟨q, hq⟩ : ∃ q, q = w.heap.size := ⟨_, rfl⟩
 rw [← hq] at H0 ⊢
 obtain ⟨r, hr⟩ : ∃ r, r = q + 1 := ⟨_, rfl⟩
 rw [← hr] at H0 ⊢
 clear hr HS hq
 go_frame
 go_loopw [6, 7] (fun _ _ wr => ∃ lf, DrS w p b r q pk t lf wr) (fun _ _ wr => wr.rangeLeft b r)
 case atStart => exact ⟨_, H0.out⟩
 case round =>
  obtain ⟨lf, hdr⟩ := hrel
  clear H0
  have HD := Lib.hid hdr
  clear hdr
  go_wp2_with (first
   | (at_next; refine wpList_next_kv _ rfl _ rfl rfl HD.out.rg ?_ ?_)
   | go_in)
  ·intro hlf
   have hix := HD.out.ix HH.out.1.val
   rw [dropL_end hlf] at hix
   have hcb := hix.cell
   obtain ⟨M, hM⟩ : ∃ M, M = (dropT t pk).length := ⟨_, rfl⟩
   have hMN : M ≤ N := by rw [hM, HN.out]; exact dropT_len _ _
   have hlen := hix.map.len Try.underlying64 3
   rw [← hM] at hlen
   have HX : Hid (Ix wr p b (dropT t pk) ∧ Turned (· = b) w wr) := Lib.hid ⟨hix, HD.out.tn⟩
   have hsub : IntKind.i64.wrap ((N : Int) - (M : Int)) = ((N - M : Nat) : Int) := by rw [IntWalk.i64_in _ (by have := HH.out.2.1; have := HN.out; omega)]; omega
   have HM := Lib.hid hM
   clear hix hlf HD hMN hM
   go_wp2
   go_ret
   exact ⟨by rw [← HM.out]; rfl, HX.out.1, HX.out.2⟩
  ·intro k v1 v2 w2 hk32 hlk hgv hrg2 hlt hg2 hs2 hen
   obtain ⟨v, hve⟩ : ∃ v : Pl, v = (v1, v2) := ⟨_, rfl⟩
   have hrg2 : Rgv encP w2 b r (dropL t pk lf) (fun x => lf x && decide (x ≠ k)) := by simpa using hrg2
   rw [← hve] at hgv hen ⊢
   clear hve
   have hv32 : v.1.length = 32 := HH.out.1.val _ (List.mem_filter.1 (getV_some hgv)).1
   obtain ⟨XS, hXS⟩ : ∃ XS, XS = row8 k := ⟨_, rfl⟩
   obtain ⟨VS, hVS⟩ : ∃ VS, VS = plC v := ⟨_, rfl⟩
   rw [← hXS, show encP v = .agg VS by rw [hVS]; rfl] at hen ⊢
   have HXS : Hid (XS = row8 k ∧ XS.size = 32 ∧ XS.all (·.oneCell') = true ∧ k.length = 32) := Lib.hid ⟨hXS, by rw [hXS, row8_size, hk32], by rw [hXS]; exact row8_one _, hk32⟩
   have HVS : Hid (VS = plC v ∧ VS.size = 33 ∧ VS.all (·.oneCell') = true ∧ v.1.length = 32) := Lib.hid ⟨hVS, by rw [hVS, plC_size hv32], by rw [hVS]; exact plC_one _, hv32⟩
   have hb2 : Turned (· = r) wr w2 := Turned.of_gr hg2 fun _ e => (Option.some.inj e).symm
   have hlo := HD.out.lo
   have hbl := HH.out.1.map.lt
   have hpl := lt_of_cells HH.out.1.box
   have H2 : Hid (Rgv encP w2 b r (dropL t pk lf) (fun x => lf x && decide (x ≠ k)) ∧ w2.heap[p]? = some (.cells #[.map (some b)] 66 (0, 0)) ∧ w2.heap[q]? = some (.cells (row8 pk) 31 (0, 0)) ∧ Turned (· = b) w w2 ∧ w2.rangeLeft b r < wr.rangeLeft b r ∧ getV (dropL t pk lf) k = some v) := Lib.hid
    ⟨hrg2, (hb2.block _ (lt_of_cells HD.out.box) (by show ¬ p = r; omega)).trans HD.out.box, (hb2.block _ (lt_of_cells HD.out.row) hlo.2.2).trans HD.out.row, ⟨hb2.os.trans HD.out.tn.os, hb2.tape.trans HD.out.tn.tape, hb2.output.trans HD.out.tn.output, Nat.le_trans HD.out.tn.size hb2.size, fun i hi hne => (hb2.block i (Nat.lt_of_lt_of_le hi HD.out.tn.size) (by show ¬ i = r; omega)).trans (HD.out.tn.block i hi hne)⟩, hlt, hgv⟩
   have HLO := Lib.hid (And.intro hlo (And.intro hbl hpl))
   clear hrg2 hlt hg2 hs2 hlk hgv hk32 hXS hVS hb2 HD hlo hbl hpl hv32
   obtain ⟨q6, hq6⟩ : ∃ q6, q6 = w2.heap.size := ⟨_, rfl⟩
   obtain ⟨hz6, hz7, hbz⟩ := two_rows (w := w2) (a := zerosId) (b := ZS) (s := 31) (t := 37)
   obtain ⟨w4, hw4⟩ : ∃ w4, w4 = (((w2.alloc (.cells zerosId 31)).alloc (.cells ZS 37)).setRow w2.heap.size XS).setRow (w2.heap.size + 1) VS := ⟨_, rfl⟩
   have h7 : (((w2.alloc (.cells zerosId 31)).alloc (.cells ZS 37)).setRow w2.heap.size XS).heap[w2.heap.size + 1]? = some (.cells ZS 37 (0, 0)) := (setRow_ne _ _ _ _ (by omega)).trans hz7
   have H4 : Hid (w4.heap[w2.heap.size]? = some (.cells XS 31 (0, 0)) ∧ w4.heap[w2.heap.size + 1]? = some (.cells VS 37 (0, 0)) ∧ Below w2.heap.size w2 w4) := Lib.hid ⟨by rw [hw4]; exact (setRow_ne _ _ _ _ (by omega)).trans (setRow_at hz6), by rw [hw4]; exact setRow_at h7, by rw [hw4]; exact below_setRow (below_setRow hbz (Nat.le_refl _) _) (by omega) _⟩
   have HZ := Lib.hid (And.intro hz6 h7)
   clear hz6 hz7 hbz h7
   have HW4 := Lib.hid hw4
   clear hw4 hq6
   go_upto_region 7 with (first
    | (refine wpList_store_row (by rfl) 31 (.tmp 6) (.tmp 23) (by rfl) w2.heap.size XS (by rfl) (by rfl) 31 zerosId HZ.out.1 (by rw [HXS.out.2.1]; exact id_info) (by rw [HXS.out.2.1]; rfl) HXS.out.2.2.1 ?_)
    | (refine wpList_store_row (by rfl) 37 (.tmp 7) (.tmp 24) (by rfl) (w2.heap.size + 1) VS (by rfl) (by rfl) 37 ZS HZ.out.2 (by rw [HVS.out.2.1]; exact pl_info) (by rw [HVS.out.2.1, HZS.out]) HVS.out.2.2.1 ?_))
   rw [← HW4.out]
   clear HZ HW4 hen
   obtain ⟨Z, hZ⟩ : ∃ Z, Z = decide (v.1 = pk) := ⟨_, rfl⟩
   obtain ⟨PS, hPS⟩ : ∃ PS, PS = row8 v.1 := ⟨_, rfl⟩
   have HQ : Hid (∀ W, (Op.equalIn 10000 31 (.agg PS) (.agg KS)).run Try.prog W = .ok Z W) := Lib.hid fun W => by rw [hPS, HKS.out.1, hZ]; exact dd_ideq _ _ HVS.out.2.2.2 HH.out.2.2 W
   have HP : Hid (PS.size = 32 ∧ ∀ j u, PS[j]? = some u → w4.cell? ((⟨w2.heap.size + 1, 0, none⟩ : Addr).add j) = some u) := Lib.hid ⟨by rw [hPS, row8_size, HVS.out.2.2.2], pl_pack HVS.out.1 H4.out.2.1 HVS.out.2.2.2 hPS⟩
   have hrg4 := H2.out.1.below H4.out.2.2
   have H5 : Hid (Rgv encP w4 b r (dropL t pk lf) (fun x => lf x && decide (x ≠ k)) ∧ w4.heap[p]? = some (.cells #[.map (some b)] 66 (0, 0)) ∧ w4.heap[q]? = some (.cells (row8 pk) 31 (0, 0)) ∧ Turned (· = b) w w4 ∧ w4.rangeLeft b r < wr.rangeLeft b r) := Lib.hid
    ⟨hrg4.1, (H4.out.2.2.block _ (lt_of_cells H2.out.2.1)).trans H2.out.2.1, (H4.out.2.2.block _ (lt_of_cells H2.out.2.2.1)).trans H2.out.2.2.1, H2.out.2.2.2.1.trans (Turned.of_below (S := (· = b)) H4.out.2.2) fun _ _ h => h, by rw [hrg4.2]; exact H2.out.2.2.2.2.1⟩
   have HZZ := Lib.hid (And.intro hZ H2.out.2.2.2.2.2)
   clear hPS hZ hrg4 H2
   generalize w2.heap.size = q6 at H4 HP ⊢
   have hqe := HQ.out
   clear HQ
   clear hzi hzp hrg2
   cases Z
   ·have HE : Hid (DrS w p b r q pk t (fun x => lf x && decide (x ≠ k)) w4 ∧ w4.rangeLeft b r < wr.rangeLeft b r) := Lib.hid
      ⟨⟨by rw [← dropL_stay HH.out.1.map.srt HZZ.out.2 (by have := HZZ.out.1; simpa using this)]; exact H5.out.1, H5.out.2.1, H5.out.2.2.1, H5.out.2.2.2.1, HLO.out.1⟩, H5.out.2.2.2.2⟩
    go_wp2_with (first
    | (refine wpList_load_at (by rfl) 31 (.tmp 25) (by rfl) ⟨q6 + 1, 0, none⟩ (by rfl) PS _ HP.out.2 Try.underlying31 (by rfl) (by rw [HP.out.1]; exact id_info) ?_)
    | (refine wpList_load_row (by rfl) 31 (.tmp 3) (by rfl) q (by rfl) 31 KS (0, 0) _ (by rw [HKS.out.1]; exact H5.out.2.2.1) Try.underlying31 (by rfl) (by rw [HKS.out.2]; exact id_info) ?_))
    exact ⟨⟨_, HE.out.1⟩, HE.out.2⟩
   ·go_wp2_with (first
    | (refine wpList_load_at (by rfl) 31 (.tmp 25) (by rfl) ⟨q6 + 1, 0, none⟩ (by rfl) PS _ HP.out.2 Try.underlying31 (by rfl) (by rw [HP.out.1]; exact id_info) ?_)
    | (refine wpList_load_row (by rfl) 31 (.tmp 3) (by rfl) q (by rfl) 31 KS (0, 0) _ (by rw [HKS.out.1]; exact H5.out.2.2.1) Try.underlying31 (by rfl) (by rw [HKS.out.2]; exact id_info) ?_))
    have hvp : v.1 = pk := by have := HZZ.out.1; simpa using this
    have hb4 : Below w4.drew.heap.size w4 w4.drew := ⟨rfl, rfl, rfl, Nat.le_refl _, fun _ _ => rfl⟩
    obtain ⟨w5, hrun, hrg5, hlt5, hmt⟩ := (H5.out.1.below hb4).1.drop Try.underlying64 HXS.out.2.2.2 0
    rw [dropL_del HH.out.1.map.srt HZZ.out.2 hvp] at hrg5
    have ht5 : Turned (· = b) w4 w5 := (Turned.of_below hb4).trans (mapTurned_turnedk hmt) fun _ _ h => h
    have HE : Hid (DrS w p b r q pk t (fun x => lf x && decide (x ≠ k)) w5 ∧ w5.rangeLeft b r < wr.rangeLeft b r) := Lib.hid
     ⟨⟨by simpa [Bool.and_assoc] using hrg5, (ht5.block _ (lt_of_cells H5.out.2.1) (by rintro rfl; exact HH.out.1.ne rfl)).trans H5.out.2.1, (ht5.block _ (lt_of_cells H5.out.2.2.1) (by have := HLO.out; show ¬ q = b; omega)).trans H5.out.2.2.1, H5.out.2.2.2.1.trans ht5 fun _ _ h => h, HLO.out.1⟩,
      Nat.lt_of_le_of_lt hlt5 (by rw [(H5.out.1.below hb4).2]; exact H5.out.2.2.2.2)⟩
    rw [← HXS.out.1] at hrun
    have hC : (fun W : World => W.cell? ⟨p, 0, none⟩ = some (.map (some b)) ∧ W.heap[q6]? = some (.cells XS 31 (0, 0))) w4.drew := ⟨by rw [show w4.drew.cell? ⟨p, 0, none⟩ = w4.cell? ⟨p, 0, none⟩ from rfl, cell_of_cells H5.out.2.1]; rfl, H4.out.1⟩
    have hB8 : w5.cell? ⟨p, 0, none⟩ = some (.map (some b)) ∧ w5.heap[q6]? = some (.cells XS 31 (0, 0)) := by
     refine ⟨by rw [cell_of_cells HE.out.1.box]; rfl, (ht5.block _ (lt_of_cells H4.out.1) ?_).trans H4.out.1⟩
     rintro rfl
     obtain ⟨es, clock, hb⟩ := H5.out.1.kv.isMap
     have h1 := H4.out.1
     rw [hb] at h1
     cases h1
    clear hrg5 hlt5 hmt ht5 hb4
    refine wp_region_plan (fun W : World => W.cell? ⟨p, 0, none⟩ = some (.map (some b)) ∧ W.heap[q6]? = some (.cells XS 31 (0, 0))) [([0, 1, 2, 3, 4], 5)] [] (by kernel_rfl) (by kernel_rfl) (fun _ _ d _ _ h => by cases d <;> exact h) hC ?_
    refine plan_eff ?_
    refine seg_read ?v23 (by rfl) (by rfl) ?h23 ?_
    case h23 => intro W hW; go_simp; with_reducible rfl
    try simp only [Act.put, List.setIfInBounds_toArray, List.set_cons_zero, List.set_cons_succ]
    refine seg_read ?v24 (by rfl) (by rfl) ?h24 ?_
    case h24 => intro W hW; go_simp; with_reducible rfl
    try simp only [Act.put, List.setIfInBounds_toArray, List.set_cons_zero, List.set_cons_succ]
    refine seg_read ?v25 (by rfl) (by rfl) ?h25 ?_
    case h25 => intro W hW; go_simp; with_reducible rfl
    try simp only [Act.put, List.setIfInBounds_toArray, List.set_cons_zero, List.set_cons_succ]
    refine seg_read ?v26 (by rfl) (by rfl) ?h26 ?_
    case h26 => intro W hW; have hcb := hW.1; go_simp; with_reducible rfl
    try simp only [Act.put, List.setIfInBounds_toArray, List.set_cons_zero, List.set_cons_succ]
    refine seg_read (.agg XS) (by rfl) (by rfl) (fun W hW => exec_load_st 31 (.tmp 6) (by rfl) q6 (by rfl) XS (0, 0) hW.2 _ Try.underlying31 (by rfl) (by rw [HXS.out.2.1]; exact id_info)) ?_
    try simp only [Act.put, List.setIfInBounds_toArray, List.set_cons_zero, List.set_cons_succ]
    refine seg_nil ?_
    refine eff_step (by rfl) (fun K hK => ?_)
    go_simp
    refine hK _ _ ⟨_, hB8, fun _ h => h, ?_⟩
    clear hK K
    refine plan_last ?_
    refine seg_nil ?_
    try simp only [Act.put]
    go_wp2_with fail
    exact ⟨⟨_, HE.out.1⟩, HE.out.2⟩
end Go.Proofs.Ytmmibldchfmleaa

namespace Go.Proofs
open Go.Shelf
def Try.sortfL_ren : Go.Shelf.Ren := ⟨fun | 6 => 48 | 15 => 54 | 14 => 53 | 28 => 63 | 29 => 64 | 20 => 55 | 21 => 56 | 22 => 57 | 23 => 58 | 24 => 59 | 25 => 60 | 26 => 61 | 27 => 62 | 46 => 65 | 47 => 66 | 48 => 67 | 49 => 68 | 50 => 69 | 57 => 70 | n => n, fun | 22 => 55 | 24 => 31 | 25 => 76 | 3 => 3 | 39 => 67 | 0 => 0 | 53 => 121 | 55 => 72 | 4 => 4 | 46 => 114 | 45 => 113 | 50 => 118 | 5 => 5 | 9 => 9 | 66 => 123 | 70 => 126 | 76 => 128 | 77 => 129 | n => n, fun | n => n⟩
theorem Try.sortfL : Go.Proofs.SlLaysF0.n6 Try.prog Try.sortfL_ren := {
 mixed := by kernel_rfl
 f6 := ⟨Try.f48.name, by decide, Try.func48.trans (congrArg some (by kernel_rfl))⟩
 f14 := ⟨Try.f53.name, by decide, Try.func53.trans (congrArg some (by kernel_rfl))⟩
 f15 := Try.func54.trans (congrArg some (by kernel_rfl))
 f20 := ⟨Try.f55.name, by decide, Try.func55.trans (congrArg some (by kernel_rfl))⟩
 f21 := ⟨Try.f56.name, by decide, Try.func56.trans (congrArg some (by kernel_rfl))⟩
 f22 := ⟨Try.f57.name, by decide, Try.func57.trans (congrArg some (by kernel_rfl))⟩
 f23 := ⟨Try.f58.name, by decide, Try.func58.trans (congrArg some (by kernel_rfl))⟩
 f24 := ⟨Try.f59.name, by decide, Try.func59.trans (congrArg some (by kernel_rfl))⟩
 f25 := ⟨Try.f60.name, by decide, Try.func60.trans (congrArg some (by kernel_rfl))⟩
 f26 := ⟨Try.f61.name, by decide, Try.func61.trans (congrArg some (by kernel_rfl))⟩
 f27 := ⟨Try.f62.name, by decide, Try.func62.trans (congrArg some (by kernel_rfl))⟩
 f28 := Try.func63.trans (congrArg some (by kernel_rfl))
 f29 := Try.func64.trans (congrArg some (by kernel_rfl))
 f46 := ⟨Try.f65.name, by decide, Try.func65.trans (congrArg some (by kernel_rfl))⟩
 f47 := Try.func66.trans (congrArg some (by kernel_rfl))
 f48 := Try.func67.trans (congrArg some (by kernel_rfl))
 f49 := ⟨Try.f68.name, by decide, Try.func68.trans (congrArg some (by kernel_rfl))⟩
 f50 := ⟨Try.f69.name, by decide, Try.func69.trans (congrArg some (by kernel_rfl))⟩
 f57 := ⟨Try.f70.name, by decide, Try.func70.trans (congrArg some (by kernel_rfl))⟩
 t0 := Try.underlying0
 a0 := Try.isAgg0
 z0 := Try.sizeOf0
 v0 := Try.zeroValue0
 t3 := Try.underlying3
 a3 := Try.isAgg3
 z3 := Try.sizeOf3
 v3 := Try.zeroValue3
 t4 := Try.underlying4
 a4 := Try.isAgg4
 z4 := Try.sizeOf4
 v4 := Try.zeroValue4
 t5 := Try.underlying5
 a5 := Try.isAgg5
 z5 := Try.sizeOf5
 v5 := Try.zeroValue5
 t9 := Try.underlying9
 a9 := Try.isAgg9
 z9 := Try.sizeOf9
 v9 := Try.zeroValue9
 t22 := Try.underlying55
 a22 := Try.isAgg55
 z22 := Try.sizeOf55
 v22 := Try.zeroValue55
 t25 := Try.underlying76
 a25 := Try.isAgg76
 z25 := Try.sizeOf76
 v25 := Try.zeroValue76
 t39 := Try.underlying67
 a39 := Try.isAgg67
 z39 := Try.sizeOf67
 v39 := Try.zeroValue67
 t45 := Try.underlying113
 a45 := Try.isAgg113
 z45 := Try.sizeOf113
 v45 := Try.zeroValue113
 t46 := Try.underlying114
 a46 := Try.isAgg114
 z46 := Try.sizeOf114
 v46 := Try.zeroValue114
 t50 := Try.underlying118
 a50 := Try.isAgg118
 z50 := Try.sizeOf118
 v50 := Try.zeroValue118
 t53 := Try.underlying121
 a53 := Try.isAgg121
 z53 := Try.sizeOf121
 v53 := Try.zeroValue121
 t55 := Try.underlying72
 a55 := Try.isAgg72
 z55 := Try.sizeOf72
 v55 := Try.zeroValue72
 t66 := Try.underlying123
 a66 := Try.isAgg123
 z66 := Try.sizeOf123
 v66 := Try.zeroValue123
 t70 := Try.underlying126
 a70 := Try.isAgg126
 z70 := Try.sizeOf126
 v70 := Try.zeroValue126
 t76 := Try.underlying128
 a76 := Try.isAgg128
 z76 := Try.sizeOf128
 v76 := Try.zeroValue128
 t77 := Try.underlying129
 a77 := Try.isAgg129
 z77 := Try.sizeOf129
 v77 := Try.zeroValue129 }
end Go.Proofs

namespace Go.Proofs.Ytmmibldchfmleaa
open Go.RowKit Go.Shelf
attribute [local go_sem] Oper.semAt_some
def DaI (w0 : World) (q2 : Nat) (D : Nat → Prop) (pre : List (List UInt8)) (W : World) : Prop :=
 ∃ A l c, W.heap[q2]? = some (.cells #[.slice A l c] 55 (0, 0)) ∧ W.ownsRow (q2 + 1) 31 32 (.slice A l c) pre.length (idsC pre) ∧ ¬ D q2 ∧ (∀ g, (Value.slice A l c).ownBlock = some g → ¬ D g) ∧ Below w0.heap.size w0 W
theorem dd_own_cells {W : World} {base : Nat} {e : TypeId} {size k : Nat} {v : Value} {xs : List Value} (h : W.ownsRow base e size v k xs) : ∀ r, v.ownBlock = some r → base ≤ r ∧ ∃ cs, W.heap[r]? = some (.cells cs e (0, 0)) := by
 intro r hr
 rcases h.2 with ⟨rfl, _⟩ | ⟨g, cap, cur, rfl, hb, hgb, _⟩
 ·simp [Value.ownBlock] at hr
 ·obtain rfl : g = r := by simpa [Value.ownBlock] using hr
  exact ⟨hb, _, hgb⟩
theorem dd_own_turn {w w' : World} {base : Nat} {e : TypeId} {size : Nat} {v : Value} {n : Nat} {xs : List Value} (h : w.ownsRow base e size v n xs) (hb : ∀ q, v.ownBlock = some q → w'.heap[q]? = w.heap[q]?) : w'.ownsRow base e size v n xs := by
 refine ⟨h.1, ?_⟩
 rcases h.2 with hn | ⟨g, cap, cur, h1, h2, h3, rest⟩
 ·exact .inl hn
 ·exact .inr ⟨g, cap, cur, h1, h2, (hb g (by rw [h1]; rfl)).trans h3, rest⟩
theorem DaI.still {w0 : World} {q2 B : Nat} (hB : w0.heap.size ≤ B) : Still B (DaI w0 q2) := by
 rintro D D' pre W W' hbd ⟨A, l, c, h1, h2, h3, h4, h5⟩ hs hD
 refine ⟨A, l, c, hs.cells h1 h3, dd_own_turn h2 fun g hg => ?_, fun hd => ?_, fun g hg hd => ?_, hs.below h5 hbd (Nat.le_refl _) hB⟩
 ·obtain ⟨_, cs, hc⟩ := dd_own_cells h2 g hg
  exact (hs.cells hc (h4 g hg)).trans hc.symm
 ·rcases hD _ hd with h | h
  ·exact h3 h
  ·have := lt_of_cells h1
   omega
 ·rcases hD _ hd with h | h
  ·exact h4 g hg h
  ·obtain ⟨_, cs, hc⟩ := dd_own_cells h2 g hg
   have := lt_of_cells hc
   omega
theorem dd_appd {F : Fence} {n : Nat} {P : Program} {ops : Array Oper} {rest : List Oper} {o : Oper} {a : Act} {Q : Exit → Act → World → Prop} {w w' : World} (hgd : o.guard = none) (s x : Operand) (t : TypeId)
    (hop : o.op = .call { callee := .builtin .append, args := #[s, x], argTypes := #[t, t] }) {v u v' : Value} (hs : a.eval s = v) (hx : a.eval x = u)
    (hrun : (Builtin.append_ #[t, t] o.type #[v, u]).run P w = .ok v' w') (h : wpListIn F n P ops Q rest (a.put o.dst v') w') : wpListIn F n P ops Q (o :: rest) a w := by
 refine wpListIn_plain hgd fun K hK => ?_
 unfold Oper.wpIn
 refine ⟨?_, ?_⟩
 ·simp [Oper.about, hop, resolve, Target.leads, Sem.run_pure]
 ·rw [Oper.semAt_plain F _ _ (by rw [hop]; intro c hc; cases hc)]
  unfold execOp
  simp only [hop, resolve, invoke, builtin, Sem.run_bind, Sem.run_pure, Result.andThen_ok, List.map_toArray, List.map_cons, List.map_nil, hs, hx, hrun]
  exact hK _ _ h
theorem dd_lit {F : Fence} {n : Nat} {P : Program} {ops : Array Oper} {rest : List Oper} {o : Oper} {a : Act} {Q : Exit → Act → World → Prop} {w w' : World} (hgd : o.guard = none) (t : TypeId) (x : Operand) (hop : o.op = .buildSlice t 1 #[(0, x)])
    {u : Value} (hx : a.eval x = u) {v : Value} (hrun : (Instr.buildSlice t 1 #[(0, u)]).run P w = .ok v w') (h : wpListIn F n P ops Q rest (a.put o.dst v) w') : wpListIn F n P ops Q (o :: rest) a w := by
 refine wpListIn_plain hgd fun K hK => ?_
 unfold Oper.wpIn
 refine ⟨?_, ?_⟩
 ·simp [Oper.about, hop]
 ·rw [Oper.semAt_plain F _ _ (by rw [hop]; intro c hc; cases hc)]
  simp [execOp, hop, hx, hrun, Result.andThen]
  exact hK _ _ h
set_option maxHeartbeats 4000000 in
set_option maxRecDepth 100000 in
theorem appendseq_ids {V : Type} {t : Tv V} (ht : ∀ p ∈ t, p.1.length = 32) (hsv : Sv t) (hn : t.length ≤ 1000000) (g : Nat) (lb : Array Value) (K : Nat → Prop) (eg : ∀ args w, (callFunc g args).run Try.prog w = .ok (.enter g args) w) (w : World)
    (hseq : Iter Try.prog g lb (fun k => #[.agg (row8 k)]) K (fun _ pre _ => Kys t pre) (fun xs => xs.Perm (t.map (·.1))) w) (hK : ∀ b, K b → b < w.heap.size) :
    Calls Try.prog 52 #[.slice none 0 0, .func (.func g) #[] lb] w fun e w' => ∃ v xs, e = .returned v ∧ xs.Perm (t.map (·.1)) ∧ w'.ownsRow w.heap.size 31 32 v xs.length (idsC xs) ∧ Below w.heap.size w w' := by
 have hz := zero_id
 obtain ⟨i1, hi, hz0, hz1, hz2⟩ := info_parts id_info3
 have HI := Lib.hid (And.intro hi (And.intro hz0 (And.intro hz1 hz2)))
 have HT := Lib.hid (And.intro ht (And.intro hsv (And.intro hn hK)))
 have HSQ := Lib.hid hseq
 have hbx := Boxed.new w 55 (.slice none 0 0)
 have hbl : Below w.heap.size w (w.alloc (.cells #[.slice none 0 0] 55)) := (Below.refl _ _).alloc (Nat.le_refl _) _
 have H0 : Hid (DaI w w.heap.size (fun _ => False) [] (w.alloc (.cells #[.slice none 0 0] 55))) := Lib.hid ⟨none, 0, 0, hbx, World.ownsRow_nil _ _ _ _, id, fun _ _ => id, hbl⟩
 have HP : Hid ((w.alloc (.cells #[.slice none 0 0] 55)).heap.size = w.heap.size + 1 ∧ Below w.heap.size w (w.alloc (.cells #[.slice none 0 0] 55))) := Lib.hid ⟨by simp, hbl⟩
 clear hi hz0 hz1 hz2 ht hsv hn hK hbx hbl hseq
 obtain ⟨FN, hFN⟩ : ∃ FN, FN = Value.func (.func g) #[] lb := ⟨_, rfl⟩
 have HFN := Lib.hid hFN
 rw [← hFN]
 clear hFN
 refine (callsIn_wide (n := 3)).1 ?_
 refine callsIn_of_wp_marks Try.func52 rfl trivial ?_ rfl
 simp only [Try.ntmps52, List.size_toArray, List.length_cons, List.length_nil, Nat.reduceAdd, Nat.reduceSub, Array.replicate_succ, Array.replicate_zero, List.push_toArray, List.append_toArray, List.nil_append, List.cons_append]
 gi_wp2
 obtain ⟨W1, hW1⟩ : ∃ W1, W1 = w.alloc (.cells #[.slice none 0 0] 55) := ⟨_, rfl⟩
 rw [← hW1] at H0 HP ⊢
 clear hW1
 refine wpIn_rangeFunc_it (gf := g) (lb := lb) HFN.out eg HSQ.out HP.out.2 (fun k hk => by have h1 := HT.out.2.2.2 k hk; have h2 := HP.out.1; omega) (fun _ => rfl)
  (DaI w w.heap.size) (fun _ _ _ _ => False) (DaI.still (by have := HP.out.1; omega)) (fun _ => still_false _) H0.out
  (fun x a' W => ∃ q, W.heap[q]? = some (.cells (row8 x) 31 (0, 0)) ∧ x.length = 32 ∧ a' = { tmps := #[.slice none 0 0, FN, .pointer (some ⟨w.heap.size, 0, none⟩), undef, .slice none 0 0, .pointer (some ⟨q, 0, none⟩), FN, .agg (row8 x), undef, undef, undef, undef, undef], defers := [] })
  (fun x a' s W W' row hs hg hr => by
    obtain ⟨q, h1, h2⟩ := hs
    refine ⟨q, (hg.block _ (lt_of_cells h1) (fun e => ?_)).trans h1, h2⟩
    obtain ⟨_, o, h3, h4⟩ := hr q e.symm
    rw [h1] at h3
    cases h3
    cases h4) ?assign ?body ?done ?stop
 case assign =>
  intro l D pre x W C hBd hi hX hC
  have hx32 : x.length = 32 := by
   obtain ⟨p, hp, hpx⟩ := List.mem_map.1 (getV_isSome.1 (hX.2 x (by simp)))
   rw [← hpx]
   exact HT.out.1 p hp
  obtain ⟨XS, hXS⟩ : ∃ XS, XS = row8 x := ⟨_, rfl⟩
  have HXS : Hid (XS = row8 x ∧ XS.size = 32 ∧ XS.all (·.oneCell') = true) := Lib.hid ⟨hXS, by rw [hXS, row8_size, hx32], by rw [hXS]; exact row8_one _⟩
  have HG := Lib.hid (heap_alloc_new W (.cells zerosId 31))
  have hb : Below W.heap.size W ((W.alloc (.cells zerosId 31)).setRow W.heap.size XS) := below_setRow ((Below.refl _ _).alloc (Nat.le_refl _) _) (Nat.le_refl _) _
  have hset := setRow_at (new := XS) HG.out
  rw [hXS] at hset
  have hsz := HP.out.1
  have HC : Hid (∀ a', a' = _ → C a' ((W.alloc (.cells zerosId 31)).setRow W.heap.size XS)) := Lib.hid fun a' ha => hC a' _ (Kept.of_below hb) (DaI.still (Nat.le_refl _) D D pre W _ (fun b hb => by have := hBd b hb; omega) hi (Steps.of_below hb) (fun _ h => .inl h)) ⟨W.heap.size, hXS ▸ hset, hx32, ha⟩
  rw [← hXS]
  clear hXS hset hb hC hx32 hi hX hBd hsz
  gi_wp2_with (refine wpListIn_store_row (by rfl) 31 (.tmp 5) (.tmp 7) (by rfl) W.heap.size XS (by rfl) (by rfl) 31 zerosId HG.out (by rw [HXS.out.2.1]; exact id_info) (by rw [HXS.out.2.1]; rfl) HXS.out.2.2 ?_)
  exact HC.out _ (by rw [HXS.out.1]; rfl)
 case body =>
  rintro l D pre x a' W hl hW hB ⟨Av, lv, cv, hbx, hown, hnq, hng, hbel⟩ hX ⟨q5, hq5, hx32, rfl⟩
  have hpre : pre.length + 1 ≤ 1000000 := by
   have h1 := hX.len HT.out.2.1
   have h2 := HT.out.2.2.1
   simp at h1
   omega
  have hsz := HP.out.1
  have hlit := fun W => run_ids_lit W (row8 x) rfl hx32
  obtain ⟨v', W', hrun, g1, g2, _, g4⟩ := run_append_own_at (P := Try.prog) (W.alloc (.cells (row8 x) 31)) (w.heap.size + 1) 55 55 31 i1 (.agg zerosId) 32 32 Try.underlying55 HI.out.1 HI.out.2.1 HI.out.2.2.1 HI.out.2.2.2 rfl (by decide) (.slice Av lv cv) pre.length (idsC pre) (hown.alloc _) ⟨W.heap.size, 0, none⟩ 1 1 (u8s x) (by rw [u8s_length, hx32])
   (fun j u hj => by
     rw [add_plain, cell_of_cells (heap_alloc_new W _), Nat.zero_add, row8, List.getElem?_toArray]
     exact hj) (u8s_one x) (by unfold maxLen; omega) (by omega) (by simp; omega)
  have hv' : ∃ A2 n2 c2, v' = .slice A2 n2 c2 := by
   rcases g1.2 with ⟨rfl, _⟩ | ⟨g, cap, cur, rfl, _⟩
   ·exact ⟨_, _, _, rfl⟩
   ·exact ⟨_, _, _, rfl⟩
  obtain ⟨A2, n2, c2, rfl⟩ := hv'
  have hlt := dd_own_cells hown
  have hq2 : w.heap.size < W.heap.size := lt_of_cells hbx
  have hba : Below W.heap.size W (W.alloc (.cells (row8 x) 31)) := (Below.refl _ _).alloc (Nat.le_refl _) _
  have hsa : (W.alloc (.cells (row8 x) 31)).heap.size = W.heap.size + 1 := by simp
  have hbx2 : W'.heap[w.heap.size]? = some (.cells #[.slice Av lv cv] 55 (0, 0)) := (g2.block _ (by omega) (fun e => by
   have := (hlt _ e.symm).1
   omega)).trans ((hba.block _ hq2).trans hbx)
  have hc1 := cell_of_cells hbx 0
  have hc2 := cell_of_cells hbx2 0
  simp only [List.getElem?_toArray, List.getElem?_cons_zero] at hc1 hc2
  have hf2 := free_of_cells hbx2 0
  have hsz' : W.heap.size + 1 ≤ W'.heap.size := by have := g2.size; omega
  have hng2 : ∀ g, (Value.slice A2 n2 c2).ownBlock = some g → ¬ D g := fun g hg hd => by
   rcases g4 with h | h
   ·rw [h] at hg
    exact hng g hg hd
   ·rw [h] at hg
    injection hg with hg
    have := (hB g hd).2
    omega
  have HF : Hid (Kept W1.heap.size D K W (W'.setCell ⟨w.heap.size, 0, none⟩ (.slice A2 n2 c2)) ∧ DaI w w.heap.size D (pre ++ [x]) (W'.setCell ⟨w.heap.size, 0, none⟩ (.slice A2 n2 c2))) := Lib.hid (by
   refine ⟨((Kept.of_below hba).trans (Kept.of_gr g2 fun g hg => ?_)).trans (Kept.of_gr (row := some w.heap.size) (grownBy_setCell' W' w.heap.size _) fun g e => ?_), A2, n2, c2, ?_, ?_, hnq, hng2, ?_⟩
   ·obtain ⟨h1, cs, h2⟩ := hlt g hg
    exact ⟨hng g hg, fun h => by have h3 := HT.out.2.2.2 g h; omega, cs, _, _, (hba.block g (lt_of_cells h2)).trans h2⟩
   ·injection e with e
    subst e
    exact ⟨hnq, fun h => by have h3 := HT.out.2.2.2 _ h; omega, _, _, _, hbx2⟩
   ·exact set_of_cells hbx2 0 _
   ·rw [List.length_append, idsC, List.flatten_append, u8s_append]
    refine dd_own_turn (by simpa [idsC] using g1) fun g hg => Below.heap_setCell _ _ _ _ ?_
    have := (dd_own_cells g1 g hg).1
    show g ≠ w.heap.size
    omega
   ·exact ((hbel.alloc hbel.size _).grown g2 (by omega) (fun g hg => by have := (hlt g hg).1; omega)).setCell (p := ⟨w.heap.size, 0, none⟩) (Nat.le_refl _) _)
  obtain ⟨XS, hXS⟩ : ∃ XS, XS = row8 x := ⟨_, rfl⟩
  rw [← hXS] at hq5 hlit hrun ⊢
  have HXS : Hid (XS.size = 32 ∧ W.heap[q5]? = some (.cells XS 31 (0, 0))) := Lib.hid ⟨by rw [hXS, row8_size, hx32], hq5⟩
  clear hbx hown hnq hng hbel hpre hsz g1 g2 g4 hlt hq2 hba hsa hbx2 hng2 hl hW hB hsz' hX hq5 hx32 hXS
  gi_wp2_with (first
   | (refine wpListIn_load_row (by rfl) 31 (.tmp 5) (by rfl) q5 (by rfl) 31 XS (0, 0) _ HXS.out.2 Try.underlying31 (by rfl) (by rw [HXS.out.1]; exact id_info) ?_)
   | (refine dd_lit (by rfl) 55 (.tmp 9) (by rfl) (by rfl) (hlit W) ?_)
   | (gi_at_builtin; refine dd_appd (by rfl) _ _ 55 (by rfl) (by rfl) (by rfl) hrun ?_))
  exact HF.out
 case done =>
  rintro E D xs W hE hws hB hperm hX ⟨Av, lv, cv, hbx, hown, hnq, hng, hbel⟩ hKd
  have hc := cell_of_cells hbx 0
  simp only [List.getElem?_toArray, List.getElem?_cons_zero] at hc
  have HX := Lib.hid (And.intro hown (And.intro hbel (And.intro hKd hperm)))
  clear hbx hown hnq hng hbel hKd hperm hX
  gi_wp2
  refine ⟨by simp, .inl ⟨_, _, rfl, run_takeDeferred HX.out.2.2.1, ?_⟩⟩
  have hrow := HX.out.1
  refine ⟨_, results_tmp rfl _ _ _, _, xs, rfl, HX.out.2.2.2, own_base (dd_own_turn hrow fun g hg => World.putObj_heap_other ?_) (Nat.le_succ _), HX.out.2.1.trans (belowK_b (w := w) (Nat.le_refl _) W E _ _ (by have := HP.out.1; omega) HX.out.2.2.1 rfl rfl)⟩
  rintro rfl
  obtain ⟨_, cs, hc2⟩ := dd_own_cells hrow _ hg
  have h3 := HX.out.2.2.1
  rw [hc2] at h3
  cases h3
 case stop =>
  intro E D c pre W _ _ _ _ h _
  exact h.elim
set_option maxHeartbeats 2000000 in
theorem collect_ids {V : Type} {t : Tv V} (ht : ∀ p ∈ t, p.1.length = 32) (hsv : Sv t) (hn : t.length ≤ 1000000) (g : Nat) (lb : Array Value) (K : Nat → Prop) (eg : ∀ args w, (callFunc g args).run Try.prog w = .ok (.enter g args) w) (w : World)
    (hseq : Iter Try.prog g lb (fun k => #[.agg (row8 k)]) K (fun _ pre _ => Kys t pre) (fun xs => xs.Perm (t.map (·.1))) w) (hK : ∀ b, K b → b < w.heap.size) :
    Calls Try.prog 47 #[.func (.func g) #[] lb] w fun e w' => ∃ v xs, e = .returned v ∧ xs.Perm (t.map (·.1)) ∧ w'.ownsRow w.heap.size 31 32 v xs.length (idsC xs) ∧ Below w.heap.size w w' := by
 have happ := appendseq_ids ht hsv hn g lb K eg w hseq hK
 obtain ⟨FN, hFN⟩ : ∃ FN, FN = Value.func (.func g) #[] lb := ⟨_, rfl⟩
 rw [← hFN] at happ ⊢
 clear hFN hseq hK eg ht hsv hn
 go_enter Try.func47, Try.ntmps47
 go_wp2_with (go_at_call 52; refine happ.mono ?_; clear happ; rintro _ w1 ⟨v, xs, rfl, hp, hown, hb1⟩)
 go_ret
 exact ⟨v, xs, rfl, hp, hown, hb1⟩
end Go.Proofs.Ytmmibldchfmleaa
