/-
  slices.Chunk of a row of bytes, parts of 110: its iterator's promise.
  slices.Collect of slices.Chunk: the parts of a record.
-/
import Derived.Test.YtkhbmgmppoepjaaCells
import Derived.Test.YtkhbmgmppoepjaaIter
import Derived.Test.YtkhbmgmppoepjaaOwn
import Derived.Shelf.Abstract
import Derived.Shelf.RegionOpen
import Derived.WalkKit
import Derived.OwnWalkIn
import Derived.TacticsInMore
import Derived.LoopNIn
import Derived.LoopIn
import Derived.Maps.AppendAt
/-! slices.Chunk of a row of bytes, parts of 110: its iterator's promise. -/
namespace Go.Proofs.Ytkhbmgmppoepjaa
open Go.RowKit Go.Shelf
attribute [local go_sem] Oper.semAt_some

/-- Part m of n bytes that begin at b, off. -/
def chunkS (b off n m : Nat) : Value := .slice (some ⟨b, off + 110 * m, none⟩) (min 110 (n - 110 * m)) (min 110 (n - 110 * m))
def chunkN (n : Nat) : Nat := (n + 109) / 110
def chunkFn (p : Nat) : Value := .func (.func 55) #[] #[.pointer (some ⟨p, 0, none⟩), .pointer (some ⟨p + 1, 0, none⟩)]
/-- s[i:j:j] -/
theorem run_part_of {P : Program} (t e : TypeId) (ht : P.underlying t = some (.slice e)) (hz : ∀ w, (Go.sizeOf e).run P w = .ok 1 w) (b off n c i m : Nat) (h1 : i + m ≤ c) (h0 : 0 < m) (W : World) :
    (Instr.slice t (.slice (some ⟨b, off, none⟩) n c) (some (.int .i64 (i : Int))) (some (.int .i64 ((i : Int) + (m : Int)))) (some (.int .i64 ((i : Int) + (m : Int))))).run P W = .ok (.slice (some ⟨b, off + i, none⟩) m m) W := by
  have ht' : P.underlying t = some (.slice (P.elem t)) := by simp [Program.elem, ht]
  have he : P.elem t = e := by simp [Program.elem, ht]
  rw [run_slice_lhm W t (some ⟨b, off, none⟩) n c ht' .i64 .i64 .i64 (i : Int) ((i : Int) + (m : Int)) ((i : Int) + (m : Int)) (by omega) (by omega) (by omega) (by omega), he, hz]
  have e1 : ((i : Int) + (m : Int)).toNat = i + m := by omega
  have e2 : ((i : Int)).toNat = i := by omega
  simp [Result.andThen, sliced, e1, e2, add_plain]
  omega
set_option maxHeartbeats 2000000 in
/-- slices.Chunk(s, 110) itself. -/
theorem chunk_any (A : Option Addr) (len cap : Nat) (w : World) :
    Calls Try.prog 41 #[.slice A len cap, .int .i64 110] w fun e w' => e = .returned (chunkFn w.heap.size) ∧
      w' = (w.alloc (.cells #[.slice A len cap] 41)).alloc (.cells #[.int .i64 110] 3) := by
  have hmf : ∀ (fn : Fn) (first cap : Array Value) (w : World), (Instr.makeFunc fn first cap).run Try.prog w = .ok (.func fn first cap) w := fun _ _ _ _ => rfl
  go_enter Try.func41, Try.ntmps41
  go_wp2_with fail
  go_ret
  exact ⟨rfl, rfl⟩
def chunkE (b off n : Nat) (m : Nat) : Array Value := #[chunkS b off n m]
set_option maxHeartbeats 4000000 in
set_option maxRecDepth 100000 in
theorem chunk1_any (l p b off len cap : Nat) (A : Option Addr) (hA : 0 < len → A = some ⟨b, off, none⟩) (hlc : len ≤ cap) (hcm : cap ≤ maxLen) (hbg : len < 4611686018427387904) (J Jx : (Nat → Prop) → List Nat → World → Prop) (B : Nat) (W : World) (hJ : Still B J)
    (hs : W.heap[p]? = some (.cells #[.slice A len cap] 41 (0, 0))) (hb : W.heap[p + 1]? = some (.cells #[.int .i64 110] 3 (0, 0)))
    (hY : ∀ k W1, J (fun _ => False) (List.range k) W1 → k < chunkN len → W1.heap[p]? = some (.cells #[.slice A len cap] 41 (0, 0)) → W1.heap[p + 1]? = some (.cells #[.int .i64 110] 3 (0, 0)) → YieldAt Fence.wide 2 Try.prog l (chunkE b off len k) W1 fun e W' =>
      (e = .returned (.bool true) ∧ J (fun _ => False) (List.range (k + 1)) W' ∧ W'.heap[p]? = W1.heap[p]? ∧ W'.heap[p + 1]? = W1.heap[p + 1]?) ∨ (e = .returned (.bool false) ∧ Jx (fun _ => False) (List.range (k + 1)) W' ∧ k < chunkN len))
    (h0 : J (fun _ => False) [] W) :
    CallsIn Fence.wide 3 Try.prog 55 #[.func (.yield l) #[] #[], .pointer (some ⟨p, 0, none⟩), .pointer (some ⟨p + 1, 0, none⟩)] W fun e W' => (∃ v, e = .returned v) ∧ (J (fun _ => False) (List.range (chunkN len)) W' ∨ ∃ k, k < chunkN len ∧ Jx (fun _ => False) (List.range (k + 1)) W') := by
  have HA := Lib.hid hA
  have HB := Lib.hid (And.intro hs hb)
  have HC := Lib.hid (And.intro hlc hcm)
  have HBG := Lib.hid hbg
  have HY := Lib.hid hY
  have HJ := Lib.hid hJ
  clear hA hs hb hlc hcm hbg hY hJ
  refine callsIn_of_wp Try.func55 rfl trivial ?_ rfl
  simp only [Try.ntmps55, List.size_toArray, List.length_cons, List.length_nil, Nat.reduceAdd, Nat.reduceSub, Array.replicate_succ, Array.replicate_zero, List.push_toArray, List.append_toArray, List.nil_append, List.cons_append]
  gi_wp2
  gi_loopw [4] (fun i wr => ∃ k : Nat, 110 * k < len + 110 ∧ i = .int .i64 ((110 * k : Nat) : Int) ∧ J (fun _ => False) (List.range k) wr ∧ wr.heap[p]? = some (.cells #[.slice A len cap] 41 (0, 0)) ∧ wr.heap[p + 1]? = some (.cells #[.int .i64 110] 3 (0, 0)))
    (fun i _ => len + 110 - (intOf i).toNat)
  case atStart => exact ⟨0, by omega, rfl, h0, HB.out⟩
  case round =>
    obtain ⟨k, hk, rfl, hJs, hb1, hb2⟩ := hrel
    have hc1 := cell_of_cells hb1 0
    have hc2 := cell_of_cells hb2 0
    simp only [List.getElem?_toArray, List.getElem?_cons_zero] at hc1 hc2
    have HX := Lib.hid (And.intro hb1 hb2)
    clear hb1 hb2 HB h0
    obtain ⟨i, hi⟩ : ∃ i, i = 110 * k := ⟨_, rfl⟩
    rw [← hi] at hk ⊢
    have HI := Lib.hid hi
    clear hi
    by_cases hlt : i < len
    · have hAe := HA.out (by omega)
      have hl1 := HC.out.1
      have hl2 := HC.out.2
      subst hAe
      have hsl := fun W => run_cut (P := Try.prog) 41 5 Try.underlying41 u8_size (some ⟨b, off, none⟩) len cap i (by omega) W
      have hcut : cutA (some ⟨b, off, none⟩) cap i = some ⟨b, off + i, none⟩ := by
        unfold cutA
        rw [if_neg (by omega)]
        simp [add_plain]
      rw [hcut] at hsl
      obtain ⟨m, hm⟩ : ∃ m, m = min 110 (len - i) := ⟨_, rfl⟩
      have HM := Lib.hid hm
      clear hm hcut
      gi_wp2
      gi_region
      rw [show (min 110 ((len - i : Nat) : Int)) = (m : Int) by rw [HM.out]; omega]
      have hm0 : 0 < m := by rw [HM.out]; omega
      have him : i + m ≤ cap := by rw [HM.out]; omega
      have hs2 := fun W => run_part_of (P := Try.prog) 41 5 Try.underlying41 u8_size b off len cap i m him hm0 W
      have hJd : J (fun _ => False) (List.range k) wr.drew := HJ.out _ _ _ _ _ (Bounds.none_ _ _) hJs ⟨rfl, rfl, rfl, Nat.le_refl _, fun _ _ _ _ => rfl⟩ (fun _ h => .inl h)
      have hlen : k < chunkN len := by
        have := HI.out
        unfold chunkN
        omega
      obtain ⟨fn, tmps, assign, body, hy, hR⟩ := HY.out k _ hJd hlen HX.out.1 HX.out.2
      have hch : chunkE b off len k = #[.slice (some ⟨b, off + i, none⟩) m m] := by
        unfold chunkE chunkS
        rw [← HI.out, ← HM.out]
      rw [hch] at hy
      have HX : Hid (wr.drew.heap[p]? = some (.cells #[.slice (some ⟨b, off, none⟩) len cap] 41 (0, 0)) ∧ wr.drew.heap[p + 1]? = some (.cells #[.int .i64 110] 3 (0, 0))) := Lib.hid HX.out
      have hc1 := cell_of_cells HX.out.1 0
      simp only [List.getElem?_toArray, List.getElem?_cons_zero] at hc1
      have HR := Lib.hid hR
      clear hlen hch hsl hR hc2
      generalize wr.drew = wd at *
      have hwi := IntWalk.i64_in ((i : Int) + (m : Int)) (by have h1 := HC.out.2; have h2 := him; unfold maxLen at h1; omega)
      gi_wp2
      refine HR.out.mono ?_
      rintro e W3 (⟨rfl, hJ3, hk3⟩ | ⟨rfl, hJx3⟩)
      · have hb1 := hk3.1.trans HX.out.1
        have hb2 := hk3.2.trans HX.out.2
        have hc2 := cell_of_cells hb2 0
        simp only [List.getElem?_toArray, List.getElem?_cons_zero] at hc2
        have H3 := Lib.hid (And.intro hb1 (And.intro hb2 hJ3))
        have hw6 := IntWalk.i64_in ((i : Int) + 110) (by have h1 := HBG.out; omega)
        clear hb1 hb2 hJ3 hk3 hc1 HR hy hs2 hJd hwi HX
        gi_wp2
        go_roundw
        case rel => exact ⟨k + 1, by have := HI.out; omega, by have := HI.out; go_num, H3.out.2.2, H3.out.1, H3.out.2.1⟩
        case measure => simp [intOf]; omega
      · gi_wp2
        refine bodyPost_ret (results_none rfl _ _ _) rfl ?_
        exact ⟨⟨_, rfl⟩, .inr ⟨k, hJx3.2, hJx3.1⟩⟩
    · have hkN : k = chunkN len := by
        have := HI.out
        unfold chunkN
        omega
      have HJ := Lib.hid (hkN ▸ hJs)
      clear hkN hJs
      gi_wp2
      go_end0
      exact ⟨⟨_, rfl⟩, .inl HJ.out⟩
/-- ITS PROMISE. -/
theorem chunk_iter (p b off len cap : Nat) (A : Option Addr) (hA : 0 < len → A = some ⟨b, off, none⟩) (hlc : len ≤ cap) (hcm : cap ≤ maxLen) (hbg : len < 4611686018427387904) (w : World)
    (hs : w.heap[p]? = some (.cells #[.slice A len cap] 41 (0, 0))) (hb : w.heap[p + 1]? = some (.cells #[.int .i64 110] 3 (0, 0))) :
    Iter Try.prog 55 #[.pointer (some ⟨p, 0, none⟩), .pointer (some ⟨p + 1, 0, none⟩)] (chunkE b off len) (fun k => k = p ∨ k = p + 1) (fun _ pre _ => pre = List.range pre.length ∧ pre.length ≤ chunkN len) (fun xs => xs = List.range (chunkN len)) w := by
  refine ⟨fun _ _ _ _ h _ => h, fun l J Jx W hW hJ hJx hY h0 => ?_⟩
  have h1 := (hW.block _ (lt_of_cells hs)).trans hs
  have h2 := (hW.block _ (lt_of_cells hb)).trans hb
  have hrr : ∀ k, List.range k ++ [k] = List.range (k + 1) := fun k => by rw [List.range_succ]
  refine callsIn_wide.1 ((chunk1_any l p b off len cap A hA hlc hcm hbg J Jx W.heap.size W hJ h1 h2 (fun k W1 hj hk hp1 hp2 => ?_) h0).mono ?_)
  · obtain ⟨fn, tmps, assign, body, hy, hR⟩ := hY (fun _ => False) (List.range k) k W1 (Bounds.none_ _ _) hj (by rw [hrr]; exact ⟨by simp, by simp; omega⟩)
    refine ⟨fn, tmps, assign, body, hy, RoundIn.wide (hR.mono ?_)⟩
    rintro e W' (⟨rfl, hj', hk'⟩ | ⟨rfl, hj', hk'⟩)
    · rw [hrr] at hj'
      exact .inl ⟨rfl, hj', hk'.turned.block p (lt_of_cells hp1) (fun h => h (.inr (.inl rfl))), hk'.turned.block (p + 1) (lt_of_cells hp2) (fun h => h (.inr (.inr rfl)))⟩
    · rw [hrr] at hj'
      exact .inr ⟨rfl, hj', hk⟩
  · rintro e W' ⟨hv, hj | ⟨k, hk, hj⟩⟩
    · exact ⟨hv, fun _ => False, Bounds.none_ _ _, .inl ⟨_, rfl, ⟨by simp, by simp⟩, hj⟩⟩
    · exact ⟨hv, fun _ => False, Bounds.none_ _ _, .inr ⟨_, ⟨by simp, by simp; omega⟩, hj⟩⟩
end Go.Proofs.Ytkhbmgmppoepjaa

/-! slices.Collect of slices.Chunk: the parts of a record. -/
namespace Go.Proofs.Ytkhbmgmppoepjaa
open Go.RowKit Go.Shelf
attribute [local go_sem] Oper.semAt_some

/-- What holds of the row that is made: it stands in the box q2. -/
def PaI (w0 : World) (q2 b off n : Nat) (D : Nat → Prop) (pre : List Nat) (W : World) : Prop :=
  ∃ A l c, W.heap[q2]? = some (.cells #[.slice A l c] 56 (0, 0)) ∧ W.ownsRow (q2 + 1) 41 1 (.slice A l c) pre.length (pre.map (chunkS b off n)) ∧ ¬ D q2 ∧ (∀ g, (Value.slice A l c).ownBlock = some g → ¬ D g) ∧ Below w0.heap.size w0 W
theorem own_cells {W : World} {base : Nat} {e : TypeId} {size k : Nat} {v : Value} {xs : List Value} (h : W.ownsRow base e size v k xs) : ∀ r, v.ownBlock = some r → base ≤ r ∧ ∃ cs, W.heap[r]? = some (.cells cs e (0, 0)) := by
  intro r hr
  rcases h.2 with ⟨rfl, _⟩ | ⟨g, cap, cur, rfl, hb, hgb, _⟩
  · simp [Value.ownBlock] at hr
  · obtain rfl : g = r := by simpa [Value.ownBlock] using hr
    exact ⟨hb, _, hgb⟩
theorem own_turn2 {w w' : World} {base : Nat} {e : TypeId} {size : Nat} {v : Value} {n : Nat} {xs : List Value} (h : w.ownsRow base e size v n xs) (hb : ∀ q, v.ownBlock = some q → w'.heap[q]? = w.heap[q]?) : w'.ownsRow base e size v n xs := by
  refine ⟨h.1, ?_⟩
  rcases h.2 with hn | ⟨g, cap, cur, h1, h2, h3, rest⟩
  · exact .inl hn
  · exact .inr ⟨g, cap, cur, h1, h2, (hb g (by rw [h1]; rfl)).trans h3, rest⟩
theorem PaI.still {w0 : World} {q2 b off n B : Nat} (hB : w0.heap.size ≤ B) : Still B (PaI w0 q2 b off n) := by
  rintro D D' pre W W' hbd ⟨A, l, c, h1, h2, h3, h4, h5⟩ hs hD
  refine ⟨A, l, c, hs.cells h1 h3, own_turn2 h2 fun g hg => ?_, fun hd => ?_, fun g hg hd => ?_, hs.below h5 hbd (Nat.le_refl _) hB⟩
  · obtain ⟨_, cs, hc⟩ := own_cells h2 g hg
    exact (hs.cells hc (h4 g hg)).trans hc.symm
  · rcases hD _ hd with h | h
    · exact h3 h
    · have := lt_of_cells h1
      omega
  · rcases hD _ hd with h | h
    · exact h4 g hg h
    · obtain ⟨_, cs, hc⟩ := own_cells h2 g hg
      have := lt_of_cells hc
      omega
theorem wpListIn_appd {F : Fence} {n : Nat} {P : Program} {ops : Array Oper} {rest : List Oper} {o : Oper} {a : Act} {Q : Exit → Act → World → Prop} {w w' : World} (hgd : o.guard = none) (s x : Operand) (t : TypeId)
    (hop : o.op = .call { callee := .builtin .append, args := #[s, x], argTypes := #[t, t] }) {v u v' : Value} (hs : a.eval s = v) (hx : a.eval x = u)
    (hrun : (Builtin.append_ #[t, t] o.type #[v, u]).run P w = .ok v' w') (h : wpListIn F n P ops Q rest (a.put o.dst v') w') : wpListIn F n P ops Q (o :: rest) a w := by
  refine wpListIn_plain hgd fun K hK => ?_
  unfold Oper.wpIn
  refine ⟨?_, ?_⟩
  · simp [Oper.about, hop, resolve, Target.leads, Sem.run_pure]
  · rw [Oper.semAt_plain F _ _ (by rw [hop]; intro c hc; cases hc)]
    unfold execOp
    simp only [hop, resolve, invoke, builtin, Sem.run_bind, Sem.run_pure, Result.andThen_ok, List.map_toArray, List.map_cons, List.map_nil, hs, hx, hrun]
    exact hK _ _ h
set_option maxHeartbeats 4000000 in
set_option maxRecDepth 100000 in
theorem appendseq_any (p b off len cap : Nat) (A : Option Addr) (hA : 0 < len → A = some ⟨b, off, none⟩) (hlc : len ≤ cap) (hcm : cap ≤ maxLen) (hlen : len ≤ 1000000) (w : World)
    (hs : w.heap[p]? = some (.cells #[.slice A len cap] 41 (0, 0))) (hb : w.heap[p + 1]? = some (.cells #[.int .i64 110] 3 (0, 0))) :
    Calls Try.prog 54 #[.slice none 0 0, chunkFn p] w fun e w' => ∃ v, e = .returned v ∧ w'.ownsRow w.heap.size 41 1 v (chunkN len) ((List.range (chunkN len)).map (chunkS b off len)) ∧ Below w.heap.size w w' := by
  obtain ⟨i1, hi, hz0, hz1, hz2⟩ := info_parts sl_info
  have HI := Lib.hid (And.intro hi (And.intro hz0 (And.intro hz1 hz2)))
  have HH := Lib.hid (And.intro hs hb)
  have HA := Lib.hid (And.intro hA (And.intro hlc (And.intro hcm hlen)))
  have hbx := Boxed.new w 56 (.slice none 0 0)
  have hbl : Below w.heap.size w (w.alloc (.cells #[.slice none 0 0] 56)) := (Below.refl _ _).alloc (Nat.le_refl _) _
  have H0 : Hid (PaI w w.heap.size b off len (fun _ => False) [] (w.alloc (.cells #[.slice none 0 0] 56))) := Lib.hid ⟨none, 0, 0, hbx, World.ownsRow_nil _ _ _ _, id, fun _ _ => id, hbl⟩
  have HP : Hid ((w.alloc (.cells #[.slice none 0 0] 56)).heap[p]? = some (.cells #[.slice A len cap] 41 (0, 0)) ∧ (w.alloc (.cells #[.slice none 0 0] 56)).heap[p + 1]? = some (.cells #[.int .i64 110] 3 (0, 0)) ∧ p + 1 < w.heap.size ∧ (w.alloc (.cells #[.slice none 0 0] 56)).heap.size = w.heap.size + 1) := Lib.hid ⟨(hbl.block _ (lt_of_cells hs)).trans hs, (hbl.block _ (lt_of_cells hb)).trans hb, lt_of_cells hb, by simp⟩
  clear hi hz0 hz1 hz2 hs hb hA hlc hcm hlen hbx hbl
  refine (callsIn_wide (n := 3)).1 ?_
  refine callsIn_of_wp_marks Try.func54 rfl trivial ?_ rfl
  simp only [Try.ntmps54, List.size_toArray, List.length_cons, List.length_nil, Nat.reduceAdd, Nat.reduceSub, Array.replicate_succ, Array.replicate_zero, List.push_toArray, List.append_toArray, List.nil_append, List.cons_append]
  gi_wp2
  obtain ⟨W1, hW1⟩ : ∃ W1, W1 = w.alloc (.cells #[.slice none 0 0] 56) := ⟨_, rfl⟩
  rw [← hW1] at H0 HP ⊢
  clear hW1
  refine wpIn_rangeFunc_it (gf := 55) (lb := #[.pointer (some ⟨p, 0, none⟩), .pointer (some ⟨p + 1, 0, none⟩)]) rfl (enters_of Try.func55 (by kernel_rfl) rfl) (chunk_iter p b off len cap A HA.out.1 HA.out.2.1 HA.out.2.2.1 (by have := HA.out.2.2.2; omega) W1 HP.out.1 HP.out.2.1) (Below.refl _ _) (fun k hk => by have h1 := HP.out.2.2.1; have h2 := HP.out.2.2.2; rcases hk with hk | hk <;> omega) (fun _ => rfl)
    (PaI w w.heap.size b off len) (fun _ _ _ _ => False) (PaI.still (by have := HP.out.2.2.2; omega)) (fun _ => still_false _) H0.out
    (fun x a' _ => a' = { tmps := #[.slice none 0 0, chunkFn p, .pointer (some ⟨w.heap.size, 0, none⟩), undef, .slice none 0 0, chunkS b off len x, chunkFn p, chunkS b off len x, undef, undef, undef, undef, undef], defers := [] }) (fun _ _ => ownFrom_pure _ _) ?assign ?body ?done ?stop
  case assign =>
    intro l D pre x W C _ hi _ hC
    simp only [chunkE]
    gi_wp2
    exact hC _ _ (Kept.refl _ _ _ _) hi (by simp)
  case body =>
    rintro l D pre x a' W hl hW hB ⟨Av, lv, cv, hbx, hown, hnq, hng, hbel⟩ ⟨hpr, hpl⟩ rfl
    have hpre : pre.length + 1 ≤ chunkN len := by simpa using hpl
    have hsz := HP.out.2.2.2
    obtain ⟨v', W', hrun, g1, g2, _, g4⟩ := run_append_own_at (P := Try.prog) (W.alloc (.cells #[chunkS b off len x] 41)) (w.heap.size + 1) 56 56 41 i1 (.slice none 0 0) 1 24 Try.underlying56 HI.out.1 HI.out.2.1 HI.out.2.2.1 HI.out.2.2.2 rfl (by decide) (.slice Av lv cv) pre.length (pre.map (chunkS b off len)) (hown.alloc _) ⟨W.heap.size, 0, none⟩ 1 1 [chunkS b off len x] rfl
      (fun j u hj => by
        match j, hj with
        | 0, hj =>
          rw [add_plain, cell_of_cells (heap_alloc_new W _)]
          simpa using hj) (one_of rfl) (by have := HA.out.2.2.2; unfold chunkN at hpre; unfold maxLen; omega) (by have := HA.out.2.2.2; unfold chunkN at hpre; omega) (by simp; omega)
    have hv' : ∃ A2 n2 c2, v' = .slice A2 n2 c2 := by
      rcases g1.2 with ⟨rfl, _⟩ | ⟨g, cap, cur, rfl, _⟩
      · exact ⟨_, _, _, rfl⟩
      · exact ⟨_, _, _, rfl⟩
    obtain ⟨A2, n2, c2, rfl⟩ := hv'
    have hlt := own_cells hown
    have hq2 : w.heap.size < W.heap.size := lt_of_cells hbx
    have hba : Below W.heap.size W (W.alloc (.cells #[chunkS b off len x] 41)) := (Below.refl _ _).alloc (Nat.le_refl _) _
    have hsa : (W.alloc (.cells #[chunkS b off len x] 41)).heap.size = W.heap.size + 1 := by simp
    have hbx2 : W'.heap[w.heap.size]? = some (.cells #[.slice Av lv cv] 56 (0, 0)) := (g2.block _ (by omega) (fun e => by
      have := (hlt _ e.symm).1
      omega)).trans ((hba.block _ hq2).trans hbx)
    have hc1 := cell_of_cells hbx 0
    have hc2 := cell_of_cells hbx2 0
    simp only [List.getElem?_toArray, List.getElem?_cons_zero] at hc1 hc2
    have hf2 := free_of_cells hbx2 0
    have hsz' : W.heap.size + 1 ≤ W'.heap.size := by have := g2.size; omega
    have hng2 : ∀ g, (Value.slice A2 n2 c2).ownBlock = some g → ¬ D g := fun g hg hd => by
      rcases g4 with h | h
      · rw [h] at hg
        exact hng g hg hd
      · rw [h] at hg
        injection hg with hg
        have := (hB g hd).2
        omega
    have HF : Hid (Kept W1.heap.size D (fun k => k = p ∨ k = p + 1) W (W'.setCell ⟨w.heap.size, 0, none⟩ (.slice A2 n2 c2)) ∧ PaI w w.heap.size b off len D (pre ++ [x]) (W'.setCell ⟨w.heap.size, 0, none⟩ (.slice A2 n2 c2))) := Lib.hid (by
      refine ⟨((Kept.of_below hba).trans (Kept.of_gr g2 fun g hg => ?_)).trans (Kept.of_gr (row := some w.heap.size) (grownBy_setCell' W' w.heap.size _) fun g e => ?_), A2, n2, c2, ?_, ?_, hnq, hng2, ?_⟩
      · obtain ⟨h1, cs, h2⟩ := hlt g hg
        have h3 := HP.out.2.2.1
        exact ⟨hng g hg, fun h => by omega, cs, _, _, (hba.block g (lt_of_cells h2)).trans h2⟩
      · injection e with e
        subst e
        have h3 := HP.out.2.2.1
        exact ⟨hnq, fun h => by omega, _, _, _, hbx2⟩
      · exact set_of_cells hbx2 0 _
      · rw [List.map_append, List.length_append]
        refine own_turn2 g1 fun g hg => Below.heap_setCell _ _ _ _ ?_
        have := (own_cells g1 g hg).1
        show g ≠ w.heap.size
        omega
      · exact ((hbel.alloc hbel.size _).grown g2 (by omega) (fun g hg => by have := (hlt g hg).1; omega)).setCell (p := ⟨w.heap.size, 0, none⟩) (Nat.le_refl _) _)
    clear hbx hown hnq hng hbel hpr hpl hpre hsz g1 g2 g4 hlt hq2 hba hsa hbx2 hng2 hl hW hB hsz'
    obtain ⟨M, hM⟩ : ∃ M, M = min 110 (len - 110 * x) := ⟨_, rfl⟩
    obtain ⟨O, hO⟩ : ∃ O, O = off + 110 * x := ⟨_, rfl⟩
    have hcs : chunkS b off len x = .slice (some ⟨b, O, none⟩) M M := by rw [hM, hO]; rfl
    rw [hcs] at hrun ⊢
    clear hcs hM hO
    gi_wp2_with (gi_at_builtin; refine wpListIn_appd (by rfl) _ _ 56 (by rfl) (by rfl) (by rfl) hrun ?_)
    exact HF.out
  case done =>
    rintro E D xs W hE hws hB rfl _ ⟨Av, lv, cv, hbx, hown, hnq, hng, hbel⟩ hK
    have hc := cell_of_cells hbx 0
    simp only [List.getElem?_toArray, List.getElem?_cons_zero] at hc
    have HX := Lib.hid (And.intro hown (And.intro hbel hK))
    clear hbx hown hnq hng hbel hK
    gi_wp2
    refine ⟨by simp, .inl ⟨_, _, rfl, run_takeDeferred HX.out.2.2, ?_⟩⟩
    have hrow := HX.out.1
    rw [List.length_range] at hrow
    refine ⟨_, results_tmp rfl _ _ _, _, rfl, own_base (own_turn2 hrow fun g hg => World.putObj_heap_other ?_) (Nat.le_succ _), HX.out.2.1.trans (belowK_b (w := w) (Nat.le_refl _) W E _ _ (by have := HP.out.2.2.2; omega) HX.out.2.2 rfl rfl)⟩
    rintro rfl
    obtain ⟨_, cs, hc2⟩ := own_cells hrow _ hg
    have h3 := HX.out.2.2
    rw [hc2] at h3
    cases h3
  case stop =>
    intro E D c pre W _ _ _ _ h _
    exact h.elim
/-- slices.Collect. -/
theorem collect_any (p b off len cap : Nat) (A : Option Addr) (hA : 0 < len → A = some ⟨b, off, none⟩) (hlc : len ≤ cap) (hcm : cap ≤ maxLen) (hlen : len ≤ 1000000) (w : World)
    (hs : w.heap[p]? = some (.cells #[.slice A len cap] 41 (0, 0))) (hb : w.heap[p + 1]? = some (.cells #[.int .i64 110] 3 (0, 0))) :
    Calls Try.prog 40 #[chunkFn p] w fun e w' => ∃ v, e = .returned v ∧ w'.ownsRow w.heap.size 41 1 v (chunkN len) ((List.range (chunkN len)).map (chunkS b off len)) ∧ Below w.heap.size w w' := by
  have happ := appendseq_any p b off len cap A hA hlc hcm hlen w hs hb
  obtain ⟨FN, hFN⟩ : ∃ FN, FN = chunkFn p := ⟨_, rfl⟩
  rw [← hFN] at happ ⊢
  clear hs hb hA hFN
  go_enter Try.func40, Try.ntmps40
  go_wp2_with (go_at_call 54; refine happ.mono ?_; clear happ; rintro _ w1 ⟨v, rfl, hown, hb1⟩)
  go_ret
  exact ⟨v, rfl, hown, hb1⟩
end Go.Proofs.Ytkhbmgmppoepjaa
