/-
  The law of drawn regions (Grow) at any fence without a bound on the depth; and where the last operation waits for all others, and is walked by itself (a call of yield).
-/
import Derived.Test.YtmioifcbkhpdaaaGreatPkPl01
import Derived.Test.YtmioifcbkhpdaaaGreatPkPl11
import Derived.Test.YtmioifcbkhpdaaaGreatPkPl02
import Derived.Shelf.Abstract
import Derived.Shelf.RegionOpen
import Derived.WalkKit
import Derived.OwnWalkIn
import Derived.TacticsInMore
import Derived.LoopNIn
import Derived.LoopIn
import Derived.Maps.AppendAt
import Derived.OrdersIn
import Derived.RangeFuncCalls
set_option maxHeartbeats 16000000
set_option maxRecDepth 100000
/-! slices.Chunk of a row of bytes, parts of 110: its iterator's promise. -/
namespace Go.Proofs.YtmioifcbkhpdaaaGreat
open Go.RowKit Go.Shelf
attribute [local go_sem] Oper.semAt_some
def chunkS (b off n m : Nat) : Value := .slice (some ⟨b, off + 110 * m, none⟩) (min 110 (n - 110 * m)) (min 110 (n - 110 * m))
def yP (n : Nat) : Nat := (n + 109) / 110
def chunkFn (p : Nat) : Value := .func (.func 112) #[] #[.pointer (some ⟨p, 0, none⟩), .pointer (some ⟨p + 1, 0, none⟩)]
theorem run_part_of {P : Program} (t e : TypeId) (ht : P.underlying t = some (.slice e)) (hz : ∀ w, (Go.sizeOf e).run P w = .ok 1 w) (b off n c i m : Nat) (h1 : i + m ≤ c) (h0 : 0 < m) (W : World) :
    (Instr.slice t (.slice (some ⟨b, off, none⟩) n c) (some (.int .i64 (i : Int))) (some (.int .i64 ((i : Int) + (m : Int)))) (some (.int .i64 ((i : Int) + (m : Int))))).run P W = .ok (.slice (some ⟨b, off + i, none⟩) m m) W := by
 have ht' : P.underlying t = some (.slice (P.elem t)) := by simp [Program.elem, ht]
 have he : P.elem t = e := by simp [Program.elem, ht]
 rw [run_slice_lhm W t (some ⟨b, off, none⟩) n c ht' .i64 .i64 .i64 (i : Int) ((i : Int) + (m : Int)) ((i : Int) + (m : Int)) (by omega) (by omega) (by omega) (by omega), he, hz];have e1 : ((i : Int) + (m : Int)).toNat = i + m := by omega
 have e2 : ((i : Int)).toNat = i := by omega
 simp [Result.andThen, sliced, e1, e2, zK];omega
theorem chunk_any (A : Option Addr) (len cap : Nat) (w : World) :
    Calls Tryz.prog 92 #[.slice A len cap, .int .i64 110] w fun e w' => e = .returned (chunkFn w.heap.size) ∧
     w' = (w.alloc (.cells #[.slice A len cap] 54)).alloc (.cells #[.int .i64 110] 3) := by
 have hmf : ∀ (fn : Fn) (first cap : Array Value) (w : World), (Instr.makeFunc fn first cap).run Tryz.prog w = .ok (.func fn first cap) w := fun _ _ _ _ => rfl
 go_enter Tryz.func92, Tryz.ntmps92
 go_wp2_with fail
 go_ret
 exact ⟨rfl, rfl⟩
def chunkE (b off n : Nat) (m : Nat) : Array Value := #[chunkS b off n m]
theorem chunk1_any (l p b off len cap : Nat) (A : Option Addr) (hA : 0 < len → A = some ⟨b, off, none⟩) (hlc : len ≤ cap) (hcm : cap ≤ maxLen) (hbg : len < 4611686018427387904) (J Jx : (Nat → Prop) → List Nat → World → Prop) (B : Nat) (W : World) (hJ : Still B J)
    (hs : W.heap[p]? = some (.cells #[.slice A len cap] 54 (0, 0))) (hb : W.heap[p + 1]? = some (.cells #[.int .i64 110] 3 (0, 0)))
    (hY : ∀ k W1, J (fun _ => False) (List.range k) W1 → k < yP len → W1.heap[p]? = some (.cells #[.slice A len cap] 54 (0, 0)) → W1.heap[p + 1]? = some (.cells #[.int .i64 110] 3 (0, 0)) → YieldAt Fence.wide 2 Tryz.prog l (chunkE b off len k) W1 fun e W' =>
      (e = .returned (.bool true) ∧ J (fun _ => False) (List.range (k + 1)) W' ∧ W'.heap[p]? = W1.heap[p]? ∧ W'.heap[p + 1]? = W1.heap[p + 1]?) ∨ (e = .returned (.bool false) ∧ Jx (fun _ => False) (List.range (k + 1)) W' ∧ k < yP len))
    (h0 : J (fun _ => False) [] W) :
    CallsIn Fence.wide 3 Tryz.prog 112 #[.func (.yield l) #[] #[], .pointer (some ⟨p, 0, none⟩), .pointer (some ⟨p + 1, 0, none⟩)] W fun e W' => (∃ v, e = .returned v) ∧ (J (fun _ => False) (List.range (yP len)) W' ∨ ∃ k, k < yP len ∧ Jx (fun _ => False) (List.range (k + 1)) W') := by
 have HA := Lib.hid hA;have HB := sq2 hs hb;have HC := sq2 hlc hcm;have HBG := Lib.hid hbg;have HY := Lib.hid hY;have HJ := Lib.hid hJ;clear hA hs hb hlc hcm hbg hY hJ;refine callsIn_of_wp Tryz.func112 rfl trivial ?_ rfl;simp only [Tryz.ntmps112, List.size_toArray, List.length_cons, List.length_nil, Nat.reduceAdd, Nat.reduceSub, Array.replicate_succ, Array.replicate_zero, List.push_toArray, List.append_toArray, List.nil_append, List.cons_append]
 gi_wp2
 gi_loopw [4] (fun i wr => ∃ k : Nat, 110 * k < len + 110 ∧ i = .int .i64 ((110 * k : Nat) : Int) ∧ J (fun _ => False) (List.range k) wr ∧ wr.heap[p]? = some (.cells #[.slice A len cap] 54 (0, 0)) ∧ wr.heap[p + 1]? = some (.cells #[.int .i64 110] 3 (0, 0)))
  (fun i _ => len + 110 - (intOf i).toNat)
 case atStart => exact ⟨0, by omega, rfl, h0, HB.out⟩
 case round =>
  obtain ⟨k, hk, rfl, hJs, hb1, hb2⟩ := hrel;have hc1 := zA hb1 0;have hc2 := zA hb2 0;simp only [List.getElem?_toArray, List.getElem?_cons_zero] at hc1 hc2;have HX := sq2 hb1 hb2;clear hb1 hb2 HB h0;obtain ⟨i, hi⟩ := sqz (110 * k);rw [← hi] at hk ⊢;have HI := Lib.hid hi;clear hi
  by_cases hlt : i < len
  ·have hAe := HA.out (by omega);have hl1 := HC.out.1;have hl2 := HC.out.2;subst hAe;(have hsl := fun W => run_cut (P := Tryz.prog) 54 5 Tryz.underlying54 u8_size (some ⟨b, off, none⟩) len cap i (by omega) W)
   have hcut : cutA (some ⟨b, off, none⟩) cap i = some ⟨b, off + i, none⟩ := by
    unfold cutA;rw [if_neg (by omega)];simp [zK]
   rw [hcut] at hsl;obtain ⟨m, hm⟩ := sqz (min 110 (len - i));have HM := Lib.hid hm;clear hm hcut
   gi_wp2
   gi_region
   rw [show (min 110 ((len - i : Nat) : Int)) = (m : Int) by rw [HM.out]; omega];(have hm0 : 0 < m := by rw [HM.out]; omega);(have him : i + m ≤ cap := by rw [HM.out]; omega);(have hs2 := fun W => run_part_of (P := Tryz.prog) 54 5 Tryz.underlying54 u8_size b off len cap i m him hm0 W);have hJd : J (fun _ => False) (List.range k) wr.drew := HJ.out _ _ _ _ _ (yZ.none_ _ _) hJs ⟨rfl, rfl, rfl, Nat.le_refl _, fun _ _ _ _ => rfl⟩ (fun _ h => .inl h)
   have hlen : k < yP len := by
    have := HI.out;unfold yP;omega
   obtain ⟨fn, tmps, assign, body, hy, hR⟩ := HY.out k _ hJd hlen HX.out.1 HX.out.2
   have hch : chunkE b off len k = #[.slice (some ⟨b, off + i, none⟩) m m] := by
    unfold chunkE chunkS;rw [← HI.out, ← HM.out]
   rw [hch] at hy;have HX : Hid (wr.drew.heap[p]? = some (.cells #[.slice (some ⟨b, off, none⟩) len cap] 54 (0, 0)) ∧ wr.drew.heap[p + 1]? = some (.cells #[.int .i64 110] 3 (0, 0))) := Lib.hid HX.out;have hc1 := zA HX.out.1 0;simp only [List.getElem?_toArray, List.getElem?_cons_zero] at hc1;have HR := Lib.hid hR;clear hlen hch hsl hR hc2
   (generalize wr.drew = wd at *);have hwi := IntWalk.i64_in ((i : Int) + (m : Int)) (by have h1 := HC.out.2; have h2 := him; unfold maxLen at h1; omega)
   gi_wp2
   refine HR.out.mono ?_;rintro e W3 (⟨rfl, hJ3, hk3⟩ | ⟨rfl, hJx3⟩)
   ·have hb1 := hk3.1.trans HX.out.1;have hb2 := hk3.2.trans HX.out.2;have hc2 := zA hb2 0;simp only [List.getElem?_toArray, List.getElem?_cons_zero] at hc2;have H3 := sq3 hb1 hb2 hJ3;have hw6 := IntWalk.i64_in ((i : Int) + 110) (by have h1 := HBG.out; omega);clear hb1 hb2 hJ3 hk3 hc1 HR hy hs2 hJd hwi HX
    gi_wp2
    go_roundw
    case rel => exact ⟨k + 1, by have := HI.out; omega, by have := HI.out; go_num, H3.out.2.2, H3.out.1, H3.out.2.1⟩
    case measure => simp [intOf]; omega
   ·gi_wp2
    refine bodyPost_ret (results_none rfl _ _ _) rfl ?_;exact ⟨⟨_, rfl⟩, .inr ⟨k, hJx3.2, hJx3.1⟩⟩
  ·have hkN : k = yP len := by
     have := HI.out;unfold yP;omega
   have HJ := Lib.hid (hkN ▸ hJs);clear hkN hJs
   gi_wp2
   go_end0
   exact ⟨⟨_, rfl⟩, .inl HJ.out⟩
theorem chunk_iter (p b off len cap : Nat) (A : Option Addr) (hA : 0 < len → A = some ⟨b, off, none⟩) (hlc : len ≤ cap) (hcm : cap ≤ maxLen) (hbg : len < 4611686018427387904) (w : World)
    (hs : w.heap[p]? = some (.cells #[.slice A len cap] 54 (0, 0))) (hb : w.heap[p + 1]? = some (.cells #[.int .i64 110] 3 (0, 0))) :
    Iter Tryz.prog 112 #[.pointer (some ⟨p, 0, none⟩), .pointer (some ⟨p + 1, 0, none⟩)] (chunkE b off len) (fun k => k = p ∨ k = p + 1) (fun _ pre _ => pre = List.range pre.length ∧ pre.length ≤ yP len) (fun xs => xs = List.range (yP len)) w := by
 refine ⟨fun _ _ _ _ h _ => h, fun l J Jx W hW hJ hJx hY h0 => ?_⟩;have h1 := (hW.block _ (zB hs)).trans hs;have h2 := (hW.block _ (zB hb)).trans hb;have hrr : ∀ k, List.range k ++ [k] = List.range (k + 1) := fun k => by rw [List.range_succ]
 refine callsIn_wide.1 ((chunk1_any l p b off len cap A hA hlc hcm hbg J Jx W.heap.size W hJ h1 h2 (fun k W1 hj hk hp1 hp2 => ?_) h0).mono ?_)
 ·obtain ⟨fn, tmps, assign, body, hy, hR⟩ := hY (fun _ => False) (List.range k) k W1 (yZ.none_ _ _) hj (by rw [hrr]; exact ⟨by simp, by simp; omega⟩);refine ⟨fn, tmps, assign, body, hy, RoundIn.wide (hR.mono ?_)⟩;rintro e W' (⟨rfl, hj', hk'⟩ | ⟨rfl, hj', hk'⟩)
  ·rw [hrr] at hj';exact .inl ⟨rfl, hj', hk'.turned.block p (zB hp1) (fun h => h (.inr (.inl rfl))), hk'.turned.block (p + 1) (zB hp2) (fun h => h (.inr (.inr rfl)))⟩
  ·rw [hrr] at hj';exact .inr ⟨rfl, hj', hk⟩
 ·rintro e W' ⟨hv, hj | ⟨k, hk, hj⟩⟩
  ·exact ⟨hv, fun _ => False, yZ.none_ _ _, .inl ⟨_, rfl, ⟨by simp, by simp⟩, hj⟩⟩
  ·exact ⟨hv, fun _ => False, yZ.none_ _ _, .inr ⟨_, ⟨by simp, by simp; omega⟩, hj⟩⟩
end Go.Proofs.YtmioifcbkhpdaaaGreat
/-! slices.Collect of slices.Chunk: the parts of a record. -/
namespace Go.Proofs.YtmioifcbkhpdaaaGreat
open Go.RowKit Go.Shelf
attribute [local go_sem] Oper.semAt_some
def PaI (w0 : World) (q2 b off n : Nat) (D : Nat → Prop) (pre : List Nat) (W : World) : Prop :=
 ∃ A l c, W.heap[q2]? = some (.cells #[.slice A l c] 74 (0, 0)) ∧ W.ownsRow (q2 + 1) 54 1 (.slice A l c) pre.length (pre.map (chunkS b off n)) ∧ ¬ D q2 ∧ (∀ g, (Value.slice A l c).ownBlock = some g → ¬ D g) ∧ Below w0.heap.size w0 W
theorem own_cells {W : World} {base : Nat} {e : TypeId} {size k : Nat} {v : Value} {xs : List Value} (h : W.ownsRow base e size v k xs) : ∀ r, v.ownBlock = some r → base ≤ r ∧ ∃ cs, W.heap[r]? = some (.cells cs e (0, 0)) := by
 intro r hr;rcases h.2 with ⟨rfl, _⟩ | ⟨g, cap, cur, rfl, hb, hgb, _⟩
 ·simp [Value.ownBlock] at hr
 ·obtain rfl : g = r := by simpa [Value.ownBlock] using hr
  exact ⟨hb, _, hgb⟩
theorem own_turn2 {w w' : World} {base : Nat} {e : TypeId} {size : Nat} {v : Value} {n : Nat} {xs : List Value} (h : w.ownsRow base e size v n xs) (hb : ∀ q, v.ownBlock = some q → w'.heap[q]? = w.heap[q]?) : w'.ownsRow base e size v n xs := by
 refine ⟨h.1, ?_⟩;rcases h.2 with hn | ⟨g, cap, cur, h1, h2, h3, rest⟩
 ·exact .inl hn
 ·exact .inr ⟨g, cap, cur, h1, h2, (hb g (by rw [h1]; rfl)).trans h3, rest⟩
theorem PaI.still {w0 : World} {q2 b off n B : Nat} (hB : w0.heap.size ≤ B) : Still B (PaI w0 q2 b off n) := by
 rintro D D' pre W W' hbd ⟨A, l, c, h1, h2, h3, h4, h5⟩ hs hD;refine ⟨A, l, c, hs.cells h1 h3, own_turn2 h2 fun g hg => ?_, fun hd => ?_, fun g hg hd => ?_, hs.below h5 hbd (Nat.le_refl _) hB⟩
 ·obtain ⟨_, cs, hc⟩ := own_cells h2 g hg;exact (hs.cells hc (h4 g hg)).trans hc.symm
 ·rcases hD _ hd with h | h
  ·exact h3 h
  ·have := zB h1;omega
 ·rcases hD _ hd with h | h
  ·exact h4 g hg h
  ·obtain ⟨_, cs, hc⟩ := own_cells h2 g hg;have := zB hc;omega
theorem wpListIn_appd {F : Fence} {n : Nat} {P : Program} {ops : Array Oper} {rest : List Oper} {o : Oper} {a : Act} {Q : Exit → Act → World → Prop} {w w' : World} (hgd : o.guard = none) (s x : Operand) (t : TypeId)
    (hop : o.op = .call { callee := .builtin .append, args := #[s, x], argTypes := #[t, t] }) {v u v' : Value} (hs : a.eval s = v) (hx : a.eval x = u)
    (hrun : (Builtin.append_ #[t, t] o.type #[v, u]).run P w = .ok v' w') (h : wpListIn F n P ops Q rest (a.put o.dst v') w') : wpListIn F n P ops Q (o :: rest) a w := by
 refine wpListIn_plain hgd fun K hK => ?_
 unfold Oper.wpIn;refine ⟨?_, ?_⟩
 ·simp [Oper.about, hop, resolve, Target.leads, Sem.run_pure]
 ·rw [Oper.semAt_plain F _ _ (by rw [hop]; intro c hc; cases hc)];unfold execOp;simp only [hop, resolve, invoke, builtin, Sem.run_bind, Sem.run_pure, Result.andThen_ok, List.map_toArray, List.map_cons, List.map_nil, hs, hx, hrun];exact hK _ _ h
theorem appendseq_any (p b off len cap : Nat) (A : Option Addr) (hA : 0 < len → A = some ⟨b, off, none⟩) (hlc : len ≤ cap) (hcm : cap ≤ maxLen) (hlen : len ≤ 1000000) (w : World)
    (hs : w.heap[p]? = some (.cells #[.slice A len cap] 54 (0, 0))) (hb : w.heap[p + 1]? = some (.cells #[.int .i64 110] 3 (0, 0))) :
    Calls Tryz.prog 111 #[.slice none 0 0, chunkFn p] w fun e w' => ∃ v, e = .returned v ∧ w'.ownsRow w.heap.size 54 1 v (yP len) ((List.range (yP len)).map (chunkS b off len)) ∧ Below w.heap.size w w' := by
 obtain ⟨i1, hi, hz0, hz1, hz2⟩ := info_parts sl_info;have HI := sq4 hi hz0 hz1 hz2;have HH := sq2 hs hb;have HA := sq4 hA hlc hcm hlen;have hbx := Boxed.new w 74 (.slice none 0 0);have hbl : Below w.heap.size w (w.alloc (.cells #[.slice none 0 0] 74)) := (Below.refl _ _).alloc (Nat.le_refl _) _;have H0 : Hid (PaI w w.heap.size b off len (fun _ => False) [] (w.alloc (.cells #[.slice none 0 0] 74))) := Lib.hid ⟨none, 0, 0, hbx, World.ownsRow_nil _ _ _ _, id, fun _ _ => id, hbl⟩;have HP : Hid ((w.alloc (.cells #[.slice none 0 0] 74)).heap[p]? = some (.cells #[.slice A len cap] 54 (0, 0)) ∧ (w.alloc (.cells #[.slice none 0 0] 74)).heap[p + 1]? = some (.cells #[.int .i64 110] 3 (0, 0)) ∧ p + 1 < w.heap.size ∧ (w.alloc (.cells #[.slice none 0 0] 74)).heap.size = w.heap.size + 1) := Lib.hid ⟨(hbl.block _ (zB hs)).trans hs, (hbl.block _ (zB hb)).trans hb, zB hb, by simp⟩;clear hi hz0 hz1 hz2 hs hb hA hlc hcm hlen hbx hbl;refine (callsIn_wide (n := 3)).1 ?_;refine callsIn_of_wp_marks Tryz.func111 rfl trivial ?_ rfl;simp only [Tryz.ntmps111, List.size_toArray, List.length_cons, List.length_nil, Nat.reduceAdd, Nat.reduceSub, Array.replicate_succ, Array.replicate_zero, List.push_toArray, List.append_toArray, List.nil_append, List.cons_append]
 gi_wp2
 obtain ⟨W1, hW1⟩ := sqz (w.alloc (.cells #[.slice none 0 0] 74));rw [← hW1] at H0 HP ⊢;clear hW1
 refine wpIn_rangeFunc_it (gf := 112) (lb := #[.pointer (some ⟨p, 0, none⟩), .pointer (some ⟨p + 1, 0, none⟩)]) rfl (enters_of Tryz.func112 (by kernel_rfl) rfl) (chunk_iter p b off len cap A HA.out.1 HA.out.2.1 HA.out.2.2.1 (by have := HA.out.2.2.2; omega) W1 HP.out.1 HP.out.2.1) (Below.refl _ _) (fun k hk => by have h1 := HP.out.2.2.1; have h2 := HP.out.2.2.2; rcases hk with hk | hk <;> omega) (fun _ => rfl)
  (PaI w w.heap.size b off len) (fun _ _ _ _ => False) (PaI.still (by have := HP.out.2.2.2; omega)) (fun _ => still_false _) H0.out
  (fun x a' _ => a' = { tmps := #[.slice none 0 0, chunkFn p, .pointer (some ⟨w.heap.size, 0, none⟩), undef, .slice none 0 0, chunkS b off len x, chunkFn p, chunkS b off len x, undef, undef, undef, undef, undef], defers := [] }) (fun _ _ => ownFrom_pure _ _) ?assign ?body ?done ?stop
 case assign =>
  intro l D pre x W C _ hi _ hC;simp only [chunkE]
  gi_wp2
  exact hC _ _ (Kept.refl _ _ _ _) hi (by simp)
 case body =>
  rintro l D pre x a' W hl hW hB ⟨Av, lv, cv, hbx, hown, hnq, hng, hbel⟩ ⟨hpr, hpl⟩ rfl;have hpre : pre.length + 1 ≤ yP len := by simpa using hpl
  have hsz := HP.out.2.2.2
  obtain ⟨v', W', hrun, g1, g2, _, g4⟩ := run_append_own_at (P := Tryz.prog) (W.alloc (.cells #[chunkS b off len x] 54)) (w.heap.size + 1) 74 74 54 i1 (.slice none 0 0) 1 24 Tryz.underlying74 HI.out.1 HI.out.2.1 HI.out.2.2.1 HI.out.2.2.2 rfl (by decide) (.slice Av lv cv) pre.length (pre.map (chunkS b off len)) (hown.alloc _) ⟨W.heap.size, 0, none⟩ 1 1 [chunkS b off len x] rfl
   (fun j u hj => by
     match j, hj with
     | 0, hj =>
       rw [zK, zA (heap_alloc_new W _)]
       simpa using hj) (one_of rfl) (by have := HA.out.2.2.2; unfold yP at hpre; unfold maxLen; omega) (by have := HA.out.2.2.2; unfold yP at hpre; omega) (by simp; omega)
  have hv' : ∃ A2 n2 c2, v' = .slice A2 n2 c2 := by
   rcases g1.2 with ⟨rfl, _⟩ | ⟨g, cap, cur, rfl, _⟩
   ·exact ⟨_, _, _, rfl⟩
   ·exact ⟨_, _, _, rfl⟩
  obtain ⟨A2, n2, c2, rfl⟩ := hv';have hlt := own_cells hown;have hq2 : w.heap.size < W.heap.size := zB hbx;have hba : Below W.heap.size W (W.alloc (.cells #[chunkS b off len x] 54)) := (Below.refl _ _).alloc (Nat.le_refl _) _;have hsa : (W.alloc (.cells #[chunkS b off len x] 54)).heap.size = W.heap.size + 1 := by simp
  have hbx2 : W'.heap[w.heap.size]? = some (.cells #[.slice Av lv cv] 74 (0, 0)) := (g2.block _ (by omega) (fun e => by
   have := (hlt _ e.symm).1;omega)).trans ((hba.block _ hq2).trans hbx)
  have hc1 := zA hbx 0;have hc2 := zA hbx2 0;simp only [List.getElem?_toArray, List.getElem?_cons_zero] at hc1 hc2;have hf2 := zC hbx2 0;have hsz' : W.heap.size + 1 ≤ W'.heap.size := by have := g2.size; omega
  have hng2 : ∀ g, (Value.slice A2 n2 c2).ownBlock = some g → ¬ D g := fun g hg hd => by
   rcases g4 with h | h
   ·rw [h] at hg;exact hng g hg hd
   ·rw [h] at hg;(injection hg with hg);have := (hB g hd).2;omega
  have HF : Hid (Kept W1.heap.size D (fun k => k = p ∨ k = p + 1) W (W'.setCell ⟨w.heap.size, 0, none⟩ (.slice A2 n2 c2)) ∧ PaI w w.heap.size b off len D (pre ++ [x]) (W'.setCell ⟨w.heap.size, 0, none⟩ (.slice A2 n2 c2))) := Lib.hid (by
   refine ⟨((Kept.of_below hba).trans (Kept.of_gr g2 fun g hg => ?_)).trans (Kept.of_gr (row := some w.heap.size) (grownBy_setCell' W' w.heap.size _) fun g e => ?_), A2, n2, c2, ?_, ?_, hnq, hng2, ?_⟩
   ·obtain ⟨h1, cs, h2⟩ := hlt g hg;have h3 := HP.out.2.2.1;exact ⟨hng g hg, fun h => by omega, cs, _, _, (hba.block g (zB h2)).trans h2⟩
   ·(injection e with e);subst e;have h3 := HP.out.2.2.1;exact ⟨hnq, fun h => by omega, _, _, _, hbx2⟩
   ·exact zG hbx2 0 _
   ·rw [List.map_append, List.length_append];refine own_turn2 g1 fun g hg => Below.heap_setCell _ _ _ _ ?_
    have := (own_cells g1 g hg).1;show g ≠ w.heap.size;omega
   ·exact ((hbel.alloc hbel.size _).grown g2 (by omega) (fun g hg => by have := (hlt g hg).1; omega)).setCell (p := ⟨w.heap.size, 0, none⟩) (Nat.le_refl _) _)
  clear hbx hown hnq hng hbel hpr hpl hpre hsz g1 g2 g4 hlt hq2 hba hsa hbx2 hng2 hl hW hB hsz';obtain ⟨M, hM⟩ := sqz (min 110 (len - 110 * x));obtain ⟨O, hO⟩ := sqz (off + 110 * x);have hcs : chunkS b off len x = .slice (some ⟨b, O, none⟩) M M := by rw [hM, hO]; rfl
  rw [hcs] at hrun ⊢;clear hcs hM hO
  gi_wp2_with (gi_at_builtin; refine wpListIn_appd (by rfl) _ _ 74 (by rfl) (by rfl) (by rfl) hrun ?_)
  exact HF.out
 case done =>
  rintro E D xs W hE hws hB rfl _ ⟨Av, lv, cv, hbx, hown, hnq, hng, hbel⟩ hK;have hc := zA hbx 0;simp only [List.getElem?_toArray, List.getElem?_cons_zero] at hc;have HX := sq3 hown hbel hK;clear hbx hown hnq hng hbel hK
  gi_wp2
  refine ⟨by simp, .inl ⟨_, _, rfl, run_takeDeferred HX.out.2.2, ?_⟩⟩;have hrow := HX.out.1;rw [List.length_range] at hrow;refine ⟨_, results_tmp rfl _ _ _, _, rfl, own_base (own_turn2 hrow fun g hg => World.putObj_heap_other ?_) (Nat.le_succ _), HX.out.2.1.trans (belowK_b (w := w) (Nat.le_refl _) W E _ _ (by have := HP.out.2.2.2; omega) HX.out.2.2 rfl rfl)⟩;rintro rfl;obtain ⟨_, cs, hc2⟩ := own_cells hrow _ hg;have h3 := HX.out.2.2;rw [hc2] at h3
  cases h3
 case stop =>
  intro E D c pre W _ _ _ _ h _;exact h.elim
theorem collect_any (p b off len cap : Nat) (A : Option Addr) (hA : 0 < len → A = some ⟨b, off, none⟩) (hlc : len ≤ cap) (hcm : cap ≤ maxLen) (hlen : len ≤ 1000000) (w : World)
    (hs : w.heap[p]? = some (.cells #[.slice A len cap] 54 (0, 0))) (hb : w.heap[p + 1]? = some (.cells #[.int .i64 110] 3 (0, 0))) :
    Calls Tryz.prog 91 #[chunkFn p] w fun e w' => ∃ v, e = .returned v ∧ w'.ownsRow w.heap.size 54 1 v (yP len) ((List.range (yP len)).map (chunkS b off len)) ∧ Below w.heap.size w w' := by
 have happ := appendseq_any p b off len cap A hA hlc hcm hlen w hs hb;obtain ⟨FN, hFN⟩ := sqz (chunkFn p);rw [← hFN] at happ ⊢;clear hs hb hA hFN
 go_enter Tryz.func91, Tryz.ntmps91
 go_wp2_with (go_at_call 111; refine happ.mono ?_; clear happ; rintro _ w1 ⟨v, rfl, hown, hb1⟩)
 go_ret
 exact ⟨v, rfl, hown, hb1⟩
end Go.Proofs.YtmioifcbkhpdaaaGreat
set_option maxHeartbeats 16000000
set_option maxRecDepth 100000
namespace Go.Proofs.YtmioifcbkhpdaaaGreat
open Go.RowKit
namespace Grow
def noDefer (ops : Array Oper) : Bool := ops.all fun o => match o.op with | .defer _ => false | _ => true
theorem noDefer_spec {ops : Array Oper} (h : noDefer ops = true) {i : Nat} {o : Oper} (ho : ops[i]? = some o) : ∀ c, o.op ≠ .defer c := by
 intro c hc;have := Array.all_eq_true_iff_forall_mem.1 h o (Array.mem_of_getElem? ho);rw [hc] at this
 cases this
section
variable {P : Program} {ops : Array Oper} {Q : Exit → Act → World → Prop} {G : World → World → Prop} {Φ : Nat → Value → World → Prop} {a0 : Act} {w0 : World} {lr nr : Nat}
theorem inv_put {n i : Nat} {listed : Array Bool} {a : Act} {w : World} {o : Oper} {v : Value} {w' : World} (hB : growB ops n = true) (hn : a0.tmps.size = n) 
    (hI : Inv ops G Φ a0 w0 listed a w) (hi : i ∈ Region.ready .any ops listed) (ho : ops[i]? = some o) (hg : G w0 w') (hkeep : ∀ j, listed.getD j false = true → ∀ u, Φ j u w → Φ j u w') (hv : Φ i v w') : Inv ops G Φ a0 w0 (listed.setIfInBounds i true) (a.put o.dst v) w' := by
 obtain ⟨hun, o1, ho1, hall⟩ := mem_ready.1 hi;obtain rfl : o = o1 := by rw [ho] at ho1; exact Option.some.inj ho1
 obtain ⟨hun, hil⟩ := yk hun;obtain ⟨hB1, hB2⟩ := growB_spec hB ho
 have hmon : ∀ j, listed.getD j false = true → (listed.setIfInBounds i true).getD j false = true := fun j hj => by
  by_cases hji : i = j
  ·subst hji; exact ye hil
  ·rw [yD hji]; exact hj
 refine ⟨hg, by simpa using hI.lsize, ?_, ?_, ?_, ?_, ?_, ?_⟩
 ·cases hd : o.dst <;> simp [Act.put, hI.size]
 ·cases hd : o.dst <;> simp [Act.put, hI.defers]
 ·intro j o' hj hl e he hb
  by_cases hji : i = j
  ·subst hji;(obtain rfl : o = o' := by rw [ho] at hj; exact Option.some.inj hj);exact hmon _ (hall e he hb)
  ·rw [yD hji] at hl;exact hmon _ (hI.closed j o' hj hl e he hb)
 ·intro j o' d hj hl hd
  by_cases hji : i = j
  ·subst hji;(obtain rfl : o = o' := by rw [ho] at hj; exact Option.some.inj hj);have := (hB2 d hd).1;rw [hd]
   have e : (a.put (some d) v).tmps.getD d undef = v := by
    simp only [Act.put, Array.getD_eq_getD_getElem?, Array.getElem?_setIfInBounds_self, hI.size, hn];rw [if_pos this]; rfl
   rw [e];exact hv
  ·rw [yD hji] at hl;have h1 := hkeep j hl _ (hI.done j o' d hj hl hd)
   cases hdo : o.dst with
   | none => simpa [Act.put] using h1
   | some e =>
     have hne : e ≠ d := by
      rintro rfl;exact (hB2 e hdo).2 j o' hj (fun h => hji h.symm) hd
     have e1 : (a.put (some e) v).tmps.getD d undef = a.tmps.getD d undef := by
      simp only [Act.put, Array.getD_eq_getD_getElem?, Array.getElem?_setIfInBounds_ne hne]
     rw [e1]; exact h1
 ·intro j o' hj hl hd
  by_cases hji : i = j
  ·subst hji;exact ⟨v, hv⟩
  ·rw [yD hji] at hl;obtain ⟨x, hx⟩ := hI.doneN j o' hj hl hd;exact ⟨x, hkeep j hl _ hx⟩
 ·intro d hd;have h1 := hI.rest d fun j o' hj hl => hd j o' hj (hmon j hl)
  rw [← h1]
  cases hdo : o.dst with
  | none => rfl
  | some e =>
    have hne : e ≠ d := by
     rintro rfl;exact hd i o ho (ye hil) hdo
    simp only [Act.put, Array.getElem?_setIfInBounds_ne hne]
theorem inv_reads {i : Nat} {listed : Array Bool} {a : Act} {w : World} {o : Oper} (hI : Inv ops G Φ a0 w0 listed a w) (hi : i ∈ Region.ready .any ops listed) (ho : ops[i]? = some o) :
    (∀ j d, depB ops i j d = true → Φ j (a.eval (.tmp d)) w) ∧ (∀ d, untB ops i d = true → a.eval (.tmp d) = a0.eval (.tmp d)) := by
 obtain ⟨hun, o1, ho1, hall⟩ := mem_ready.1 hi;obtain rfl : o = o1 := by rw [ho] at ho1; exact Option.some.inj ho1
 obtain ⟨hun, hil⟩ := yk hun;refine ⟨?_, ?_⟩
 ·intro j d hd;unfold depB at hd;rw [ho] at hd;simp only [Bool.and_eq_true, beq_iff_eq] at hd;obtain ⟨e, he, hb⟩ := Array.any_eq_true'.1 hd.1;simp only [Bool.and_eq_true, beq_iff_eq] at hb;obtain ⟨oj, hoj, hdj⟩ := Option.bind_eq_some_iff.1 hd.2;exact hI.done j oj d hoj (hb.2 ▸ hall e he hb.1) hdj
 ·intro d hd
  have := hI.rest d fun j o' hj hl hdd => by
   rcases untB_spec hd j o' hj hdd with rfl | ⟨e, he, hb, hon⟩
   ·rw [hun] at hl; cases hl
   ·have := hI.closed j o' hj hl e he hb;rw [hon, hun] at this; cases this
  show a.tmps.getD d undef = a0.tmps.getD d undef;rw [Array.getD_eq_getD_getElem?, Array.getD_eq_getD_getElem?, this]
def waitsB (ops : Array Oper) (j i : Nat) : Bool := match ops[j]? with | some o => o.after.any fun e => Region.binds .any e && e.on == i | none => false
end
end Grow
end Go.Proofs.YtmioifcbkhpdaaaGreat
set_option maxHeartbeats 16000000
set_option maxRecDepth 100000
namespace Go.Proofs.YtmioifcbkhpdaaaGreat
open Go.RowKit
namespace Grow
structure Open (F : Fence) (nr : Nat) (P : Program) : Prop where
 fn : ∀ f, F.fn f
 depth : F.depth.isSome = true → 1 ≤ nr
 calls : ∀ f args w R, Calls P f args w R → CallsIn F (nr - 1) P f args w R
theorem open_wide (nr : Nat) (P : Program) : Open Fence.wide nr P := ⟨fun _ => trivial, fun h => (by cases h), fun _ _ _ _ h => callsIn_wide.2 h⟩
section
variable {P : Program} {ops : Array Oper} {Q : Exit → Act → World → Prop} {G : World → World → Prop} {Φ : Nat → Value → World → Prop} {a0 : Act} {w0 : World} {F : Fence} {nr : Nat}
theorem runs_wpF (hF : Open F nr P) {o : Oper} {a : Act} {w : World} {K : Act → World → Prop} {R : Value → World → Prop} (hd : ∀ c, o.op ≠ .defer c) (hR : ∀ v w', R v w' → K (a.put o.dst v) w') (h : runsTo P R ((execOp a.eval o).run P w)) : o.wpIn F nr P a w K Q := by
 unfold Oper.wpIn;refine ⟨fun _ _ => hF.fn _, ?_⟩;rw [Oper.semAt_plain _ _ _ hd]
 generalize (execOp a.eval o).run P w = r at h
 unfold runsTo at h
 split at h
 ·exact hR _ _ h
 ·exact hR _ _ h
 ·refine ⟨hF.depth, hF.calls _ _ _ _ (Calls.mono h ?_)⟩;rintro e w'' ⟨v, rfl, hr⟩;exact hR _ _ hr
 ·exact h.elim
theorem step_invF (hF : Open F nr P) {n i : Nat} {listed : Array Bool} {a : Act} {w : World} (hnd : noDefer ops = true) (hB : growB ops n = true) (hn : a0.tmps.size = n) (htr : ∀ A B C, G A B → G B C → G A C) (hmono : ∀ j v W W', Φ j v W → G W W' → Φ j v W') (hrefl : ∀ W, G W W)
    (hI : Inv ops G Φ a0 w0 listed a w) (hi : i ∈ Region.ready .any ops listed) (hs : GStep P ops G Φ a0 w0 i) : wpOpIn F nr P ops Q i (fun a' w' => Inv ops G Φ a0 w0 (listed.setIfInBounds i true) a' w') a w := by
 obtain ⟨hun, o, ho, hall⟩ := mem_ready.1 hi;obtain ⟨hr1, hr2⟩ := inv_reads hI hi ho
 have hnew : ∀ v w', G w w' → Φ i v w' → Inv ops G Φ a0 w0 (listed.setIfInBounds i true) (a.put o.dst v) w' := fun v w' hg hv =>
  inv_put hB hn hI hi ho (htr _ _ _ hI.grow hg) (fun j _ u hu => hmono j u _ _ hu hg) hv
 have hst := hs o ho a.eval w (fun _ => rfl) (fun _ => rfl) (fun _ => rfl) hI.grow hr1 hr2;unfold wpOpIn;rw [ho];show if Region.wanted o (yielded ops a.tmps) = true then _ else _
 rcases hst with ⟨hw, hr⟩ | ⟨⟨g, b, u, d, hg, hd, hE, hne⟩, hu⟩
 ·have hwt : Region.wanted o (yielded ops a.tmps) = true := by
    unfold Region.wanted;rcases hw with hw | ⟨g, b, d, hg, hd, hE⟩
    ·rw [hw]
    ·rw [hg];simp [yielded_of hd hE]
  rw [if_pos hwt];exact runs_wpF hF (noDefer_spec hnd ho) (fun v w' h => hnew v w' h.1 h.2) hr
 ·have hwt : Region.wanted o (yielded ops a.tmps) = false := by
    unfold Region.wanted;rw [hg];exact yielded_not hd hE hne
  rw [hwt];simp only [Bool.false_eq_true, if_false];exact ⟨fun _ _ => hF.fn _, hnew undef w (hrefl w) hu⟩
theorem front_done {n m : Nat} {listed : Array Bool} {a : Act} {w : World} (hB : growB ops n = true) (hn : a0.tmps.size = n) (hI : Inv ops G Φ a0 w0 listed a w) {front back : List Oper} (hsp : ops.toList = front ++ back) (hm : front.length = m)
    (hl : ∀ j, j < m → listed.getD j false = true) (hl2 : ∀ j, m ≤ j → listed.getD j false = false) (hfin : fin Φ Q w front 0 a0) : Q .normal a w := by
 have hat : ∀ j o, front[j]? = some o → ops[j]? = some o ∧ j < m := fun j o hj => by
  have hjl := (List.getElem?_eq_some_iff.1 hj).1;refine ⟨?_, by omega⟩;rw [← Array.getElem?_toList, hsp, List.getElem?_append_left hjl, hj]
 have hsame : putL (fun j => a.tmps.getD ((dstOf ops j).getD 0) undef) front 0 a0 = a := by
  refine putL_same (a := a) _ 0 a0 hI.size.symm hI.defers.symm ?_ ?_
  ·intro j o d hj hd;obtain ⟨hj', _⟩ := hat j o hj;refine ⟨by rw [hI.size, hn]; exact ((growB_spec hB hj').2 d hd).1, ?_⟩;(have hdd : dstOf ops j = some d := by unfold dstOf; rw [hj']; exact hd);simp [hdd]
  ·intro d hd;refine (hI.rest d fun j o hj hlj => ?_).symm
   have hjm : j < m := by
    rcases Nat.lt_or_ge j m with h | h
    ·exact h
    ·rw [hl2 j h] at hlj
     cases hlj
   refine hd o ?_
   have : front[j]? = some o := by
    rw [← hj, ← Array.getElem?_toList, hsp, List.getElem?_append_left (by omega)]
   exact List.mem_of_getElem? this
 rw [← hsame]
 refine fin_putL front 0 a0 hfin ?_ (fun j o hj hd => by
  obtain ⟨hj', hjm⟩ := hat j o hj
  simpa using hI.doneN j o hj' (hl j hjm) hd)
 intro j o d hj hd;obtain ⟨hj', hjm⟩ := hat j o hj;have hdd : dstOf ops j = some d := by unfold dstOf; rw [hj']; exact hd
 have := hI.done j o d hj' (hl j hjm) hd
 simpa [hdd] using this
def lastB (ops : Array Oper) : Bool := (List.range (ops.size - 1)).all fun j => (List.range ops.size).any fun k => decide (j < k) && waitsB ops k j
theorem lastB_spec (h : lastB ops = true) (j : Nat) (hj : j < ops.size - 1) : ∃ k, j < k ∧ k < ops.size ∧ waitsB ops k j = true := by
 obtain ⟨k, hk, hkb⟩ := List.any_eq_true.1 (List.all_eq_true.1 h j (List.mem_range.2 hj));simp only [Bool.and_eq_true, decide_eq_true_eq] at hkb;exact ⟨k, hkb.1, List.mem_range.1 hk, hkb.2⟩
theorem any_of_invL (hF : Open F nr P) {n : Nat} (hnd : noDefer ops = true) (hB : growB ops n = true) (hL : lastB ops = true) (hn : a0.tmps.size = n) (htr : ∀ A B C, G A B → G B C → G A C) (hmono : ∀ j v W W', Φ j v W → G W W' → Φ j v W') (hrefl : ∀ W, G W W)
    {front : List Oper} {oz : Oper} (hsp : ops.toList = front ++ [oz]) (hgz : oz.guard = none)
    (hs : ∀ i, i < front.length → GStep P ops G Φ a0 w0 i) (hfin : ∀ W, G w0 W → fin Φ (fun _ a w => oz.wpIn F nr P a w (fun a' w' => Q .normal a' w') Q) W front 0 a0) :
    ∀ (fuel : Nat) (listed : Array Bool) (a : Act) (w : World), Inv ops G Φ a0 w0 listed a w → listed.getD front.length true = false → listed.toList.count false ≤ fuel → wpAnyIn F nr P .any ops Q fuel listed a w := by
 have hsz : ops.size = front.length + 1 := by
  rw [← Array.length_toList, hsp];simp
 have hoz : ops[front.length]? = some oz := by
  rw [← Array.getElem?_toList, hsp];simp
 intro fuel
 induction fuel with
 | zero =>
   intro listed a w hI hz hc;have := count_set hz;omega
 | succ fuel ih =>
   intro listed a w hI hz hc;refine ⟨fun hr => ?_, fun i hi => ?_⟩
   ·have hall := all_of_ready hB hI.lsize hr front.length (by omega);obtain ⟨h1, _⟩ := yk hz;rw [hall] at h1
    cases h1
   obtain ⟨h1, o, ho, hall⟩ := mem_ready.1 hi
   by_cases hiz : i = front.length
   ·subst hiz
    have hlt : ∀ d j, j < front.length → front.length - j ≤ d → listed.getD j false = true := by
     intro d
     induction d with
     | zero => intro j hj hd; omega
     | succ d ihd =>
       intro j hj hd;obtain ⟨k, hjk, hk, hw⟩ := lastB_spec hL j (by omega);unfold waitsB at hw
       by_cases hkz : k = front.length
       ·subst hkz;rw [hoz] at hw;obtain ⟨e, he, hb⟩ := Array.any_eq_true'.1 hw;simp only [Bool.and_eq_true, beq_iff_eq] at hb;(obtain rfl : o = oz := by rw [ho] at hoz; exact Option.some.inj hoz);exact hb.2 ▸ hall e he hb.1
       ·have hkl := ihd k (by omega) (by omega)
        cases hok : ops[k]? with
        | none => rw [hok] at hw; cases hw
        | some ok =>
          rw [hok] at hw;obtain ⟨e, he, hb⟩ := Array.any_eq_true'.1 hw;simp only [Bool.and_eq_true, beq_iff_eq] at hb;exact hb.2 ▸ hI.closed k ok hok hkl e he hb.1
    have hq := front_done (Q := fun _ a w => oz.wpIn F nr P a w (fun a' w' => Q .normal a' w') Q) (m := front.length) hB hn hI hsp rfl (fun j hj => hlt _ j hj (Nat.le_refl _)) (fun j hj => by
     rcases Nat.lt_or_ge j ops.size with h | h
     ·(obtain rfl : j = front.length := by omega);exact (yk h1).1
     ·rw [Array.getD_eq_getD_getElem?, Array.getElem?_eq_none (by rw [hI.lsize]; exact h)];rfl) (hfin w hI.grow)
    have hop : wpOpIn F nr P ops Q front.length (fun a' w' => Q .normal a' w') a w := by
     unfold wpOpIn;rw [hoz];show if Region.wanted oz (yielded ops a.tmps) = true then _ else _
     rw [if_pos (by unfold Region.wanted; rw [hgz])];exact hq
    refine wpOpIn_mono ?_ hop;intro a' w' hQ
    have hr : Region.ready .any ops (listed.setIfInBounds front.length true) = [] := by
     rw [List.eq_nil_iff_forall_not_mem];intro k hk;obtain ⟨hun, ok, hok, _⟩ := mem_ready.1 hk;obtain ⟨hun, hkl⟩ := yk hun;have hks := (Array.getElem?_eq_some_iff.1 hok).1
     by_cases hkz : k = front.length
     ·subst hkz;rw [ye (by rw [hI.lsize]; omega)] at hun
      cases hun
     ·rw [yD (fun e => hkz e.symm), hlt _ k (by omega) (Nat.le_refl _)] at hun
      cases hun
    cases fuel with
    | zero => exact ⟨hr, hQ⟩
    | succ fuel => exact ⟨fun _ => hQ, fun k hk => by rw [hr] at hk; cases hk⟩
   ·have hlt : i < front.length := by
      have := (Array.getElem?_eq_some_iff.1 ho).1;omega
    refine wpOpIn_mono ?_ (step_invF hF hnd hB hn htr hmono hrefl hI hi (hs i hlt));intro a' w' hI';refine ih _ a' w' hI' ?_ (by have := count_set h1; omega);rw [Array.getD_eq_getD_getElem?, Array.getElem?_setIfInBounds_ne hiz, ← Array.getD_eq_getD_getElem?];exact hz
end
end Grow
section
variable {P : Program} {ops : Array Oper} {Q : Exit → Act → World → Prop} {F : Fence} {nr id : Nat} {a : Act} {w : World}
theorem inv_start {G : World → World → Prop} {Φ : Nat → Value → World → Prop} {w0 : World} (h : G w0 w0) : Grow.Inv ops G Φ a w0 (Array.replicate ops.size false) a w0 := by
 refine ⟨h, by simp, rfl, rfl, ?_, ?_, ?_, fun _ _ => rfl⟩
 ·intro j o hj hl;simp at hl;have := (Array.getElem?_eq_some_iff.1 hj).1;simp [this] at hl
 ·intro j o d hj hl;have := (Array.getElem?_eq_some_iff.1 hj).1;simp [this] at hl
 ·intro j o hj hl;have := (Array.getElem?_eq_some_iff.1 hj).1;simp [this] at hl
theorem wpIn_region_growL (hF : Grow.Open F nr P) (G : World → World → Prop) (Φ : Nat → Value → World → Prop) (n : Nat) (hm : P.follows .mixedOrders = true) (hnd : Grow.noDefer ops = true)
    (hB : Grow.growB ops n = true) (hL : Grow.lastB ops = true) (hn : a.tmps.size = n) (hrefl : ∀ W, G W W) (htr : ∀ A B C, G A B → G B C → G A C) (hmono : ∀ j v W W', Φ j v W → G W W' → Φ j v W')
    (k : Nat) {oz : Oper} (hsz : ops.size = k + 1) (hoz : ops.toList[k]? = some oz) (hgz : oz.guard = none)
    (hs : Grow.allBelow (Grow.GStep P ops G Φ a w.drew) k) (hfin : ∀ W, G w.drew W → Grow.fin Φ (fun _ a w => oz.wpIn F nr P a w (fun a' w' => Q .normal a' w') Q) W (ops.toList.take k) 0 a) : (Code.region id ops true).wpIn F nr P Q a w := by
 obtain ⟨hk, he⟩ := List.getElem?_eq_some_iff.1 hoz
 have hsp : ops.toList = ops.toList.take k ++ [oz] := by
  rw [← he, ← List.take_succ_eq_append_getElem hk, List.take_of_length_le (by rw [Array.length_toList]; omega)]
 have hfl : (ops.toList.take k).length = k := by rw [List.length_take, Array.length_toList]; omega
 rw [← hfl] at hs;exact wpIn_region_any hm (Grow.any_of_invL hF hnd hB hL hn htr hmono hrefl hsp hgz (Grow.allBelow_at hs) hfin ops.size _ a _ (inv_start (hrefl _)) (by rw [hfl]; simp [hsz]) (by simp))
end
end Go.Proofs.YtmioifcbkhpdaaaGreat
