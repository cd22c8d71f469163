/-
  The law of drawn regions (Grow) at any fence without a bound on the depth; and where the last operation waits for all others, and is walked by itself (a call of yield).
  proof.Root.
  Plain mathematics of the reference: turning bit by bit, the sixty-four words.
  The reference: turn, numbers.
  The reference: schedule.
  Plain mathematics: what the reference reckons is what digest does.
-/
import Derived.Test.YtnbjhdlnibmgdaaDoorPk04
import Derived.Test.YtnbjhdlnibmgdaaDoorPk12
import Derived.Test.YtnbjhdlnibmgdaaDoorPk10
import Derived.Test.YtnbjhdlnibmgdaaDoorPk11
import Derived.KernelRfl
/-! The law of drawn regions (Grow) at any fence without a bound on the depth; and where the last operation waits for all others, and is walked by itself (a call of yield). -/
namespace Go.Proofs.YtnbjhdlnibmgdaaDoor
open Go.RowKit
namespace Grow
/-- A fence that lets every call in. -/
structure Open (F : Fence) (nr : Nat) (P : Program) : Prop where
  fn : ∀ f, F.fn f
  depth : F.depth.isSome = true → 1 ≤ nr
  calls : ∀ f args w R, Calls P f args w R → CallsIn F (nr - 1) P f args w R
theorem open_wide (nr : Nat) (P : Program) : Open Fence.wide nr P := ⟨fun _ => trivial, fun h => (by cases h), fun _ _ _ _ h => callsIn_wide.2 h⟩
theorem open_round (l nr : Nat) (P : Program) : Open (Fence.wide.inRound l) nr P := ⟨fun _ => trivial, fun h => (by cases h), fun _ _ _ _ h => CallsIn.inRound l (callsIn_wide.2 h)⟩
section
variable {P : Program} {ops : Array Oper} {Q : Exit → Act → World → Prop} {G : World → World → Prop} {Φ : Nat → Value → World → Prop} {a0 : Act} {w0 : World} {F : Fence} {nr : Nat}
theorem runs_wpF (hF : Open F nr P) {o : Oper} {a : Act} {w : World} {K : Act → World → Prop} {R : Value → World → Prop} (hd : ∀ c, o.op ≠ .defer c) (hR : ∀ v w', R v w' → K (a.put o.dst v) w') (h : runsTo P R ((execOp a.eval o).run P w)) : o.wpIn F nr P a w K Q := by
  unfold Oper.wpIn
  refine ⟨fun _ _ => hF.fn _, ?_⟩
  rw [Oper.semAt_plain _ _ _ hd]
  generalize (execOp a.eval o).run P w = r at h
  unfold runsTo at h
  split at h
  · exact hR _ _ h
  · exact hR _ _ h
  · refine ⟨hF.depth, hF.calls _ _ _ _ (Calls.mono h ?_)⟩
    rintro e w'' ⟨v, rfl, hr⟩
    exact hR _ _ hr
  · exact h.elim
theorem step_invF (hF : Open F nr P) {n i : Nat} {listed : Array Bool} {a : Act} {w : World} (hnd : noDefer ops = true) (hB : growB ops n = true) (hn : a0.tmps.size = n) (htr : ∀ A B C, G A B → G B C → G A C) (hmono : ∀ j v W W', Φ j v W → G W W' → Φ j v W') (hrefl : ∀ W, G W W)
    (hI : Inv ops G Φ a0 w0 listed a w) (hi : i ∈ Region.ready .any ops listed) (hs : GStep P ops G Φ a0 w0 i) : wpOpIn F nr P ops Q i (fun a' w' => Inv ops G Φ a0 w0 (listed.setIfInBounds i true) a' w') a w := by
  obtain ⟨hun, o, ho, hall⟩ := mem_ready.1 hi
  obtain ⟨hr1, hr2⟩ := inv_reads hI hi ho
  have hnew : ∀ v w', G w w' → Φ i v w' → Inv ops G Φ a0 w0 (listed.setIfInBounds i true) (a.put o.dst v) w' := fun v w' hg hv =>
    inv_put hB hn hI hi ho (htr _ _ _ hI.grow hg) (fun j _ u hu => hmono j u _ _ hu hg) hv
  have hst := hs o ho a.eval w (fun _ => rfl) (fun _ => rfl) (fun _ => rfl) hI.grow hr1 hr2
  unfold wpOpIn
  rw [ho]
  show if Region.wanted o (yielded ops a.tmps) = true then _ else _
  rcases hst with ⟨hw, hr⟩ | ⟨⟨g, b, u, d, hg, hd, hE, hne⟩, hu⟩
  · have hwt : Region.wanted o (yielded ops a.tmps) = true := by
      unfold Region.wanted
      rcases hw with hw | ⟨g, b, d, hg, hd, hE⟩
      · rw [hw]
      · rw [hg]
        simp [yielded_of hd hE]
    rw [if_pos hwt]
    exact runs_wpF hF (noDefer_spec hnd ho) (fun v w' h => hnew v w' h.1 h.2) hr
  · have hwt : Region.wanted o (yielded ops a.tmps) = false := by
      unfold Region.wanted
      rw [hg]
      exact yielded_not hd hE hne
    rw [hwt]
    simp only [Bool.false_eq_true, if_false]
    exact ⟨fun _ _ => hF.fn _, hnew undef w (hrefl w) hu⟩
/-- What the activation is when those of the front have run. -/
theorem front_done {n m : Nat} {listed : Array Bool} {a : Act} {w : World} (hB : growB ops n = true) (hn : a0.tmps.size = n) (hI : Inv ops G Φ a0 w0 listed a w) {front back : List Oper} (hsp : ops.toList = front ++ back) (hm : front.length = m)
    (hl : ∀ j, j < m → listed.getD j false = true) (hl2 : ∀ j, m ≤ j → listed.getD j false = false) (hfin : fin Φ Q w front 0 a0) : Q .normal a w := by
  have hat : ∀ j o, front[j]? = some o → ops[j]? = some o ∧ j < m := fun j o hj => by
    have hjl := (List.getElem?_eq_some_iff.1 hj).1
    refine ⟨?_, by omega⟩
    rw [← Array.getElem?_toList, hsp, List.getElem?_append_left hjl, hj]
  have hsame : putL (fun j => a.tmps.getD ((dstOf ops j).getD 0) undef) front 0 a0 = a := by
    refine putL_same (a := a) _ 0 a0 hI.size.symm hI.defers.symm ?_ ?_
    · intro j o d hj hd
      obtain ⟨hj', _⟩ := hat j o hj
      refine ⟨by rw [hI.size, hn]; exact ((growB_spec hB hj').2 d hd).1, ?_⟩
      have hdd : dstOf ops j = some d := by unfold dstOf; rw [hj']; exact hd
      simp [hdd]
    · intro d hd
      refine (hI.rest d fun j o hj hlj => ?_).symm
      have hjm : j < m := by
        rcases Nat.lt_or_ge j m with h | h
        · exact h
        · rw [hl2 j h] at hlj
          cases hlj
      refine hd o ?_
      have : front[j]? = some o := by
        rw [← hj, ← Array.getElem?_toList, hsp, List.getElem?_append_left (by omega)]
      exact List.mem_of_getElem? this
  rw [← hsame]
  refine fin_putL front 0 a0 hfin ?_ (fun j o hj hd => by
    obtain ⟨hj', hjm⟩ := hat j o hj
    simpa using hI.doneN j o hj' (hl j hjm) hd)
  intro j o d hj hd
  obtain ⟨hj', hjm⟩ := hat j o hj
  have hdd : dstOf ops j = some d := by unfold dstOf; rw [hj']; exact hd
  have := hI.done j o d hj' (hl j hjm) hd
  simpa [hdd] using this
theorem any_of_invF (hF : Open F nr P) {n : Nat} (hnd : noDefer ops = true) (hB : growB ops n = true) (hn : a0.tmps.size = n) (htr : ∀ A B C, G A B → G B C → G A C) (hmono : ∀ j v W W', Φ j v W → G W W' → Φ j v W') (hrefl : ∀ W, G W W)
    (hs : ∀ i, i < ops.size → GStep P ops G Φ a0 w0 i) (hfin : ∀ W, G w0 W → fin Φ Q W ops.toList 0 a0) :
    ∀ (fuel : Nat) (listed : Array Bool) (a : Act) (w : World), Inv ops G Φ a0 w0 listed a w → listed.toList.count false ≤ fuel → wpAnyIn F nr P .any ops Q fuel listed a w := by
  have hend : ∀ (listed : Array Bool) (a : Act) (w : World), Inv ops G Φ a0 w0 listed a w → Region.ready .any ops listed = [] → Q .normal a w := by
    intro listed a w hI hr
    have hall := all_of_ready hB hI.lsize hr
    exact front_done (front := ops.toList) (back := []) (m := ops.size) hB hn hI (by simp) (by simp) (fun j hj => hall j hj) (fun j hj => by rw [Array.getD_eq_getD_getElem?, Array.getElem?_eq_none (by rw [hI.lsize]; exact hj)]; rfl) (hfin w hI.grow)
  intro fuel
  induction fuel with
  | zero =>
    intro listed a w hI hc
    have hr : Region.ready .any ops listed = [] := by
      rw [List.eq_nil_iff_forall_not_mem]
      intro i hi
      have := count_set (mem_ready.1 hi).1
      omega
    exact ⟨hr, hend _ _ _ hI hr⟩
  | succ fuel ih =>
    intro listed a w hI hc
    refine ⟨hend _ _ _ hI, fun i hi => ?_⟩
    obtain ⟨h1, o, ho, _⟩ := mem_ready.1 hi
    refine wpOpIn_mono ?_ (step_invF hF hnd hB hn htr hmono hrefl hI hi (hs i (Array.getElem?_eq_some_iff.1 ho).1))
    intro a' w' hI'
    exact ih _ a' w' hI' (by have := count_set h1; omega)
/-- Each but the last is waited for by a later one. -/
def lastB (ops : Array Oper) : Bool := (List.range (ops.size - 1)).all fun j => (List.range ops.size).any fun k => decide (j < k) && waitsB ops k j
theorem lastB_spec (h : lastB ops = true) (j : Nat) (hj : j < ops.size - 1) : ∃ k, j < k ∧ k < ops.size ∧ waitsB ops k j = true := by
  obtain ⟨k, hk, hkb⟩ := List.any_eq_true.1 (List.all_eq_true.1 h j (List.mem_range.2 hj))
  simp only [Bool.and_eq_true, decide_eq_true_eq] at hkb
  exact ⟨k, hkb.1, List.mem_range.1 hk, hkb.2⟩
theorem any_of_invL (hF : Open F nr P) {n : Nat} (hnd : noDefer ops = true) (hB : growB ops n = true) (hL : lastB ops = true) (hn : a0.tmps.size = n) (htr : ∀ A B C, G A B → G B C → G A C) (hmono : ∀ j v W W', Φ j v W → G W W' → Φ j v W') (hrefl : ∀ W, G W W)
    {front : List Oper} {oz : Oper} (hsp : ops.toList = front ++ [oz]) (hgz : oz.guard = none)
    (hs : ∀ i, i < front.length → GStep P ops G Φ a0 w0 i) (hfin : ∀ W, G w0 W → fin Φ (fun _ a w => oz.wpIn F nr P a w (fun a' w' => Q .normal a' w') Q) W front 0 a0) :
    ∀ (fuel : Nat) (listed : Array Bool) (a : Act) (w : World), Inv ops G Φ a0 w0 listed a w → listed.getD front.length true = false → listed.toList.count false ≤ fuel → wpAnyIn F nr P .any ops Q fuel listed a w := by
  have hsz : ops.size = front.length + 1 := by
    rw [← Array.length_toList, hsp]
    simp
  have hoz : ops[front.length]? = some oz := by
    rw [← Array.getElem?_toList, hsp]
    simp
  intro fuel
  induction fuel with
  | zero =>
    intro listed a w hI hz hc
    have := count_set hz
    omega
  | succ fuel ih =>
    intro listed a w hI hz hc
    refine ⟨fun hr => ?_, fun i hi => ?_⟩
    · have hall := all_of_ready hB hI.lsize hr front.length (by omega)
      obtain ⟨h1, _⟩ := getD_both' hz
      rw [hall] at h1
      cases h1
    obtain ⟨h1, o, ho, hall⟩ := mem_ready.1 hi
    by_cases hiz : i = front.length
    · subst hiz
      -- all others have run
      have hlt : ∀ d j, j < front.length → front.length - j ≤ d → listed.getD j false = true := by
        intro d
        induction d with
        | zero => intro j hj hd; omega
        | succ d ihd =>
          intro j hj hd
          obtain ⟨k, hjk, hk, hw⟩ := lastB_spec hL j (by omega)
          unfold waitsB at hw
          by_cases hkz : k = front.length
          · subst hkz
            rw [hoz] at hw
            obtain ⟨e, he, hb⟩ := Array.any_eq_true'.1 hw
            simp only [Bool.and_eq_true, beq_iff_eq] at hb
            obtain rfl : o = oz := by rw [ho] at hoz; exact Option.some.inj hoz
            exact hb.2 ▸ hall e he hb.1
          · have hkl := ihd k (by omega) (by omega)
            cases hok : ops[k]? with
            | none => rw [hok] at hw; cases hw
            | some ok =>
              rw [hok] at hw
              obtain ⟨e, he, hb⟩ := Array.any_eq_true'.1 hw
              simp only [Bool.and_eq_true, beq_iff_eq] at hb
              exact hb.2 ▸ hI.closed k ok hok hkl e he hb.1
      have hq := front_done (Q := fun _ a w => oz.wpIn F nr P a w (fun a' w' => Q .normal a' w') Q) (m := front.length) hB hn hI hsp rfl (fun j hj => hlt _ j hj (Nat.le_refl _)) (fun j hj => by
        rcases Nat.lt_or_ge j ops.size with h | h
        · obtain rfl : j = front.length := by omega
          exact (getD_both' h1).1
        · rw [Array.getD_eq_getD_getElem?, Array.getElem?_eq_none (by rw [hI.lsize]; exact h)]
          rfl) (hfin w hI.grow)
      have hop : wpOpIn F nr P ops Q front.length (fun a' w' => Q .normal a' w') a w := by
        unfold wpOpIn
        rw [hoz]
        show if Region.wanted oz (yielded ops a.tmps) = true then _ else _
        rw [if_pos (by unfold Region.wanted; rw [hgz])]
        exact hq
      refine wpOpIn_mono ?_ hop
      intro a' w' hQ
      have hr : Region.ready .any ops (listed.setIfInBounds front.length true) = [] := by
        rw [List.eq_nil_iff_forall_not_mem]
        intro k hk
        obtain ⟨hun, ok, hok, _⟩ := mem_ready.1 hk
        obtain ⟨hun, hkl⟩ := getD_both' hun
        have hks := (Array.getElem?_eq_some_iff.1 hok).1
        by_cases hkz : k = front.length
        · subst hkz
          rw [getD_set_same (by rw [hI.lsize]; omega)] at hun
          cases hun
        · rw [getD_set_ne' (fun e => hkz e.symm), hlt _ k (by omega) (Nat.le_refl _)] at hun
          cases hun
      cases fuel with
      | zero => exact ⟨hr, hQ⟩
      | succ fuel => exact ⟨fun _ => hQ, fun k hk => by rw [hr] at hk; cases hk⟩
    · have hlt : i < front.length := by
        have := (Array.getElem?_eq_some_iff.1 ho).1
        omega
      refine wpOpIn_mono ?_ (step_invF hF hnd hB hn htr hmono hrefl hI hi (hs i hlt))
      intro a' w' hI'
      refine ih _ a' w' hI' ?_ (by have := count_set h1; omega)
      rw [Array.getD_eq_getD_getElem?, Array.getElem?_setIfInBounds_ne hiz, ← Array.getD_eq_getD_getElem?]
      exact hz
end
end Grow
section
variable {P : Program} {ops : Array Oper} {Q : Exit → Act → World → Prop} {F : Fence} {nr id : Nat} {a : Act} {w : World}
theorem inv_start {G : World → World → Prop} {Φ : Nat → Value → World → Prop} {w0 : World} (h : G w0 w0) : Grow.Inv ops G Φ a w0 (Array.replicate ops.size false) a w0 := by
  refine ⟨h, by simp, rfl, rfl, ?_, ?_, ?_, fun _ _ => rfl⟩
  · intro j o hj hl
    simp at hl
    have := (Array.getElem?_eq_some_iff.1 hj).1
    simp [this] at hl
  · intro j o d hj hl
    have := (Array.getElem?_eq_some_iff.1 hj).1
    simp [this] at hl
  · intro j o hj hl
    have := (Array.getElem?_eq_some_iff.1 hj).1
    simp [this] at hl
/-- THE LAW, at such a fence. -/
theorem wpIn_region_growF (hF : Grow.Open F nr P) (G : World → World → Prop) (Φ : Nat → Value → World → Prop) (n : Nat) (hm : P.follows .mixedOrders = true) (hnd : Grow.noDefer ops = true)
    (hB : Grow.growB ops n = true) (hn : a.tmps.size = n) (hrefl : ∀ W, G W W) (htr : ∀ A B C, G A B → G B C → G A C) (hmono : ∀ j v W W', Φ j v W → G W W' → Φ j v W')
    (hs : Grow.allBelow (Grow.GStep P ops G Φ a w.drew) ops.size) (hfin : ∀ W, G w.drew W → Grow.fin Φ Q W ops.toList 0 a) : (Code.region id ops true).wpIn F nr P Q a w :=
  wpIn_region_any hm (Grow.any_of_invF hF hnd hB hn htr hmono hrefl (Grow.allBelow_at hs) hfin ops.size _ a _ (inv_start (hrefl _)) (by simp))
/-- .. where the last one is walked by itself. -/
theorem wpIn_region_growL (hF : Grow.Open F nr P) (G : World → World → Prop) (Φ : Nat → Value → World → Prop) (n : Nat) (hm : P.follows .mixedOrders = true) (hnd : Grow.noDefer ops = true)
    (hB : Grow.growB ops n = true) (hL : Grow.lastB ops = true) (hn : a.tmps.size = n) (hrefl : ∀ W, G W W) (htr : ∀ A B C, G A B → G B C → G A C) (hmono : ∀ j v W W', Φ j v W → G W W' → Φ j v W')
    (k : Nat) {oz : Oper} (hsz : ops.size = k + 1) (hoz : ops.toList[k]? = some oz) (hgz : oz.guard = none)
    (hs : Grow.allBelow (Grow.GStep P ops G Φ a w.drew) k) (hfin : ∀ W, G w.drew W → Grow.fin Φ (fun _ a w => oz.wpIn F nr P a w (fun a' w' => Q .normal a' w') Q) W (ops.toList.take k) 0 a) : (Code.region id ops true).wpIn F nr P Q a w := by
  obtain ⟨hk, he⟩ := List.getElem?_eq_some_iff.1 hoz
  have hsp : ops.toList = ops.toList.take k ++ [oz] := by
    rw [← he, ← List.take_succ_eq_append_getElem hk, List.take_of_length_le (by rw [Array.length_toList]; omega)]
  have hfl : (ops.toList.take k).length = k := by rw [List.length_take, Array.length_toList]; omega
  rw [← hfl] at hs
  exact wpIn_region_any hm (Grow.any_of_invL hF hnd hB hL hn htr hmono hrefl hsp hgz (Grow.allBelow_at hs) hfin ops.size _ a _ (inv_start (hrefl _)) (by rw [hfl]; simp [hsz]) (by simp))
end
end Go.Proofs.YtnbjhdlnibmgdaaDoor

/-! proof.Root. -/
namespace Go.Proofs.YtnbjhdlnibmgdaaDoor
open Go.RowKit Go.Shelf
attribute [local go_sem] Oper.semAt_some

theorem wpListIn_load_id {F : Fence} {nr : Nat} {ops : Array Oper} {rest : List Oper} {op : Oper} {a : Act} {W : World} {Q : Exit → Act → World → Prop} (hgd : op.guard = none) (x : Operand) (ho : op.op = .load 36 x)
    {S : Nat → Prop} {b off n c : Nat} {l : List (List UInt8)} (h : Ids W S (some ⟨b, off, none⟩) n c l) (i : Nat) (hi : i < n) (XS : Array Value) (hXS : XS = row8 (l[i]?.getD [])) (o : Nat) (hoo : o = off + i * 32) (hx : a.eval x = .pointer (some ⟨b, o, none⟩))
    (hK : wpListIn F nr Tryd.prog ops Q rest (a.put op.dst (.agg XS)) W) : wpListIn F nr Tryd.prog ops Q (op :: rest) a W := by
  refine wpListIn_plain hgd fun K hK' => ?_
  subst hXS hoo
  obtain ⟨b', off', hA, _, h32, hc⟩ := h.at_ hi
  injection hA with hA
  injection hA with e1 e2
  subst e1 e2
  unfold Oper.wpIn
  refine ⟨?_, ?_⟩
  · simp [Oper.about, ho]
  · rw [Oper.semAt_plain F _ _ (by rw [ho]; intro c hc; cases hc)]
    unfold execOp
    simp only [ho, hx, Instr.loadAt, Instr.sureAddr, Sem.run_bind, Sem.run_pure, Result.andThen_ok, run_loadVar_at W ⟨b, off + i * 32, none⟩ 36 (row8 (l[i]?.getD [])) _ hc Tryd.underlying36 rfl (by rw [row8_size, h32]; exact id_info)]
    exact hK' _ _ hK
theorem rowsOf_top : ∀ (l : List (List UInt8)), ((rowsOf l)[(rowsOf l).length - 1]?.getD [])[0]?.getD [] = topL l := by
  refine rows_rec (fun l h => ?_) (fun l h ih => ?_)
  · rw [rowsOf_one h, topL_one h]
    rfl
  · have hp : 0 < (rowsOf (aboveL l)).length := by
      rcases Nat.lt_or_ge 1 (aboveL l).length with h1 | h1
      · rw [rowsOf_more h1]; simp
      · rw [rowsOf_one (by omega)]; simp
    rw [rowsOf_more h, topL_more h, ← ih, List.length_cons, Nat.add_sub_cancel]
    obtain ⟨k, hk⟩ : ∃ k, (rowsOf (aboveL l)).length = k + 1 := ⟨_, (Nat.succ_pred_eq_of_pos hp).symm⟩
    rw [hk, List.getElem?_cons_succ, Nat.add_sub_cancel]
theorem rowsOf_pos (l : List (List UInt8)) : 0 < (rowsOf l).length := by
  rcases Nat.lt_or_ge 1 l.length with h1 | h1
  · rw [rowsOf_more h1]; simp
  · rw [rowsOf_one (by omega)]; simp
def RtI (w : World) (R : List (List (List UInt8))) (_ : Nat → Prop) (pre : List SlV) (W : World) : Prop :=
  Below w.heap.size w W ∧ W.heap[w.heap.size]? = some (.cells zerosId 36 (0, 0)) ∧ ∃ t, t.length = 32 ∧ (0 < pre.length → t = (R[pre.length - 1]?.getD [])[0]?.getD []) ∧ W.heap[w.heap.size + 1]? = some (.cells (row8 t) 36 (0, 0))
theorem RtI.still (w : World) (R : List (List (List UInt8))) : Still (w.heap.size + 3) (RtI w R) := by
  rintro D D' s W W' hb ⟨h1, h2, t, h3, h4, h5⟩ hS _
  exact ⟨hS.below h1 hb (Nat.le_refl _) (by omega), hS.cells h2 (hb.not (by omega)), t, h3, h4, hS.cells h5 (hb.not (by omega))⟩

set_option maxHeartbeats 4000000 in
set_option maxRecDepth 100000 in
theorem root_any {w : World} {S : Nat → Prop} {A : Option Addr} {n c : Nat} {b : List UInt8} (h : Byt w S A n c b) (hn : n ≤ 1000000) (ht : Tab w) :
    Calls Tryd.prog 28 #[.slice A n c] w fun e w' => e = .returned (.agg (row8 (rootL b))) ∧ Below w.heap.size w w' := by
  have hz := zero_id
  obtain ⟨RS, hRS⟩ : ∃ RS, RS = row8 (rootL b) := ⟨_, rfl⟩
  rw [← hRS]
  have HRS : Hid (RS = row8 (rootL b) ∧ RS.size = 32 ∧ RS.all (·.oneCell') = true) := Lib.hid ⟨hRS, by rw [hRS, row8_size]; exact crownD_length _ _, by rw [hRS]; exact row8_one _⟩
  obtain ⟨W1, hW1⟩ : ∃ W1, ((w.alloc (.cells zerosId 36)).alloc (.cells zerosId 36)).alloc (.cells #[.slice A n c] 24) = W1 := ⟨_, rfl⟩
  have hsz : W1.heap.size = w.heap.size + 3 := by rw [← hW1]; simp
  have hb1 : Below w.heap.size w W1 := by rw [← hW1]; exact (((Below.refl _ _).alloc (Nat.le_refl _) _).alloc (by simp) _).alloc (by simp; omega) _
  have hx0 : W1.heap[w.heap.size]? = some (.cells zerosId 36 (0, 0)) := by
    rw [← hW1]
    exact (Below.heap_alloc _ _ _ (by simp; omega)).trans ((Below.heap_alloc _ _ _ (by simp)).trans (heap_alloc_new w _))
  have hx1 : W1.heap[w.heap.size + 1]? = some (.cells (row8 (List.replicate 32 0)) 36 (0, 0)) := by
    rw [← hW1]
    have := heap_alloc_new (w.alloc (.cells zerosId 36)) (.cells zerosId 36)
    refine (Below.heap_alloc _ _ _ (by simp)).trans ?_
    rw [show row8 (List.replicate 32 0) = zerosId from rfl]
    simpa using this
  have hx2 : W1.heap[w.heap.size + 2]? = some (.cells #[.slice A n c] 24 (0, 0)) := by
    rw [← hW1]
    have := heap_alloc_new ((w.alloc (.cells zerosId 36)).alloc (.cells zerosId 36)) (.cells #[.slice A n c] 24)
    simpa using this
  have HH := Lib.hid (And.intro h (And.intro hn ht))
  have HI0 : Hid (RtI w (rowsOf (digs b)) (fun _ => False) [] W1) := Lib.hid ⟨hb1, hx0, _, by simp, fun h => absurd h (by simp), hx1⟩
  have H1 := Lib.hid (And.intro hsz (And.intro hb1 hx2))
  clear h hn ht hRS hsz hb1 hx0 hx1 hx2
  refine (callsIn_wide (n := 3)).1 ?_
  refine callsIn_of_wp_marks Tryd.func28 rfl trivial ?_ rfl
  simp only [Tryd.ntmps28, List.size_toArray, List.length_cons, List.length_nil, Nat.reduceAdd, Nat.reduceSub, Array.replicate_succ, Array.replicate_zero, List.push_toArray, List.append_toArray, List.nil_append, List.cons_append]
  gi_wp2_with (refine ⟨trivial, ?_⟩; gi_at_call 41; refine (callsIn_wide.2 (prows_any A n c _)).mono ?_; rintro _ _ ⟨rfl, rfl⟩)
  try simp only [World.size_alloc]
  clear hW1
  have hte := HH.out.2.2
  refine wpIn_rangeFunc_it (gf := 52) (lb := #[.pointer (some ⟨w.heap.size + 1 + 1, 0, none⟩)]) rfl (enters_of Tryd.func52 (by kernel_rfl) rfl) (rows_iter (HH.out.1.below H1.out.2.1) HH.out.2.1 (hte.below H1.out.2.1) (w.heap.size + 1 + 1) H1.out.2.2) (Below.refl _ _) (fun b hb => by have h1 := hte.lt1; have h2 := hte.lt2; have h3 := H1.out.1; rcases hb with rfl | rfl <;> omega) (fun _ => rfl)
    (RtI w (rowsOf (digs b))) (fun _ _ _ _ => False) (by rw [H1.out.1]; exact RtI.still w _) (fun _ => still_false _) HI0.out
    (fun x a' _ => a' = { tmps := #[.slice A n c, undef, .pointer (some ⟨w.heap.size, 0, none⟩), .pointer (some ⟨w.heap.size + 1, 0, none⟩), .slice x.1 x.2.1 x.2.2, .slice A n c, rowsFn (w.heap.size + 1 + 1), .slice x.1 x.2.1 x.2.2, undef, undef, undef, undef, undef, undef, undef, undef, undef], defers := [] }) (fun _ _ => ownFrom_pure _ _) ?assign ?body ?done ?stop
  case assign =>
    intro l' D pre x W' C _ hi _ hC
    simp only [slE]
    gi_wp2
    exact hC _ _ (Kept.refl _ _ _ _) hi (by simp)
  case stop =>
    intro E D c pre W _ _ _ _ h _
    exact h.elim
  case body =>
    rintro l' D pre ⟨Ax, nx, cx⟩ a' W' hl hws hBd ⟨hbl, hr0, t, ht32, htv, hr1⟩ hX rfl
    have hx := hX.2 pre.length (Ax, nx, cx) (by simp)
    obtain ⟨hix, hpx⟩ := hx
    obtain ⟨bx, ofx, hAx, _⟩ := hix.row hpx
    simp only at hAx hix hpx
    subst hAx
    obtain ⟨X, hXd⟩ : ∃ X, X = ((rowsOf (digs b))[pre.length]?.getD [])[0]?.getD [] := ⟨_, rfl⟩
    have hX32 : X.length = 32 := by rw [hXd]; exact get32 hix.each (by rw [hix.len]; exact hpx)
    obtain ⟨XS, hXS⟩ : ∃ XS, XS = row8 X := ⟨_, rfl⟩
    have HX : Hid (XS = row8 X ∧ XS.size = 32 ∧ XS.all (·.oneCell') = true ∧ X.length = 32 ∧ X = ((rowsOf (digs b))[pre.length]?.getD [])[0]?.getD []) := Lib.hid ⟨hXS, by rw [hXS, row8_size, hX32], by rw [hXS]; exact row8_one _, hX32, hXd⟩
    have HB := Lib.hid (And.intro hix (And.intro hbl (And.intro hr0 (And.intro hr1 (And.intro ht32 hBd)))))
    have hpx' : (0 : Int) < (nx : Int) := by omega
    clear hXS hX32 hXd hix hbl hr0 hr1 ht32 htv hBd hX
    gi_wp2_with (first | refine wpListIn_load_id (by rfl) (.tmp 9) (by rfl) HB.out.1 0 hpx XS (by rw [← HX.out.2.2.2.2]; exact HX.out.1) _ ?_ (by rfl) ?_ | refine wpListIn_store_row (by rfl) 36 (.tmp 3) (.tmp 10) (by rfl) (w.heap.size + 1) XS (by rfl) (by rfl) 36 _ HB.out.2.2.2.1 (by rw [HX.out.2.1]; exact id_info) (by rw [HX.out.2.1, row8_size]; exact HB.out.2.2.2.2.1) HX.out.2.2.1 ?_)
    have hnt : ¬ tabK (w.heap.size + 1) := fun hb => by
      have h1 := HH.out.2.2.lt1
      have h2 := HH.out.2.2.lt2
      unfold tabK at hb
      omega
    refine ⟨Kept.of_turned (turned_setRow XS) HB.out.2.2.2.1 (fun hd => by have h1 := (HB.out.2.2.2.2.2 _ hd).1; have h2 := H1.out.1; omega) hnt, below_setRow HB.out.2.1 (by omega) _, (setRow_ne _ _ _ _ (by omega)).trans HB.out.2.2.1, X, HX.out.2.2.2.1, fun _ => ?_, (setRow_at HB.out.2.2.2.1).trans (by rw [HX.out.1])⟩
    rw [HX.out.2.2.2.2]
    simp
  case done =>
    rintro E D xs W' hE hws hBd hlen _ ⟨hbl, hr0, t, ht32, htv, hr1⟩ hK
    have htop : t = topL (digs b) := by
      have hp := rowsOf_pos (digs b)
      rw [htv (by omega), hlen, rowsOf_top]
    obtain ⟨TS, hTS⟩ : ∃ TS, TS = row8 t := ⟨_, rfl⟩
    rw [← hTS] at hr1
    have HTS : Hid (TS = row8 t ∧ TS.size = 32 ∧ t.length = 32 ∧ t = topL (digs b)) := Lib.hid ⟨hTS, by rw [hTS, row8_size, ht32], ht32, htop⟩
    have HW : Hid (Below w.heap.size w W' ∧ W'.heap[w.heap.size]? = some (.cells zerosId 36 (0, 0)) ∧ W'.heap[w.heap.size + 1]? = some (.cells TS 36 (0, 0)) ∧ W'.heap[E]? = some (.deferred (some [])) ∧ E = W1.heap.size) := Lib.hid ⟨hbl, hr0, hr1, hK, hE⟩
    have HWD : Hid (Byt W'.drew (fun x => x < w.heap.size) A n c b ∧ W'.drew.heap[w.heap.size]? = some (.cells zerosId 36 (0, 0)) ∧ W'.drew.heap[w.heap.size + 1]? = some (.cells TS 36 (0, 0)) ∧ Tab W'.drew) := Lib.hid ⟨((HH.out.1.mono (T := fun x => x < w.heap.size) fun b hb _ => hb).below hbl).drew, hr0, hr1, (HH.out.2.2.below hbl).drew⟩
    have HTL : Hid (0 < w.heap.size ∧ 1 < w.heap.size) := Lib.hid ⟨HH.out.2.2.lt1, HH.out.2.2.lt2⟩
    have HN63 : Hid ((splitL b).length < 9223372036854775808) := Lib.hid (by
      have h1 := leaves_at b
      rw [HH.out.1.len] at h1
      have h2 := HH.out.2.1
      split at h1 <;> omega)
    clear hbl hr0 hr1 ht32 htv hK hE hTS htop hlen hz hte
    gi_wp2
    refine wpIn_region_growF (Grow.open_wide _ _) (Sto w.heap.size (.cells RS 36 (0, 0))) (Grow.nth [fun v _ => v = .slice A n c, fun v _ => v = .int .i64 ((splitL b).length : Int), fun v _ => v = .agg TS, fun v W => ∃ q c', v = .slice (some ⟨q, 0, none⟩) 41 c' ∧ Byt W (fun b => b ≠ w.heap.size) (some ⟨q, 0, none⟩) 41 c' (2 :: (le8 (splitL b).length 8 ++ t)), fun v W => ∃ q, v = .slice (some ⟨q, 0, none⟩) 1 1 ∧ Rws W (fun b => b ≠ w.heap.size) (some ⟨q, 0, none⟩) 1 1 [2 :: (le8 (splitL b).length 8 ++ t)], fun v _ => v = .agg RS, fun _ W => W.heap[w.heap.size]? = some (.cells RS 36 (0, 0))]) 17 (by kernel_rfl) (by kernel_rfl) (by kernel_rfl) (by rfl) (Sto.refl _ _) (fun _ _ _ h1 h2 => h1.trans h2) (Grow.mono_nth ?gmono) ?gsteps ?gfin
    case gmono => exact ⟨fun _ _ _ h _ => h, fun _ _ _ h _ => h, fun _ _ _ h _ => h, fun _ _ _ ⟨q, c', h1, h2⟩ hg => ⟨q, c', h1, h2.turned hg.turned fun _ _ h => h⟩, fun _ _ _ ⟨q, h1, h2⟩ hg => ⟨q, h1, h2.turned hg.turned fun _ _ h => h⟩, fun _ _ _ h _ => h, fun _ _ _ h g => g.keeps h, trivial⟩
    case gsteps =>
      show Grow.allBelow _ 7
      refine And.intro ?_ ?s6
      refine And.intro ?_ ?s5
      refine And.intro ?_ ?s4
      refine And.intro ?_ ?s3
      refine And.intro ?_ ?s2
      refine And.intro ?_ ?s1
      refine And.intro ?_ ?s0
      exact trivial
      case s0 =>
        refine Grow.step_in (by rfl) (by rfl) ?_
        intro E W ec eg ef hG hd hu R HR
        have e0 : E (.tmp 0) = .slice A n c := hu 0 (by kernel_rfl)
        clear hd hu
        go_simp
        exact HR.out _ _ (Sto.refl _ _ _) rfl
      case s1 =>
        refine Grow.step_in (by rfl) (by rfl) ?_
        intro E W ec eg ef hG hd hu R HR
        have e11 : E (.tmp 11) = .slice A n c := hd 0 11 (by kernel_rfl)
        clear hd hu
        go_simp
        refine (leaves_any (HWD.out.1.turned hG.turned (fun b hb h => by omega))).mono ?_
        rintro _ w' ⟨rfl, rfl⟩
        exact ⟨_, rfl, HR.out _ _ (Sto.refl _ _ _) rfl⟩
      case s2 =>
        refine Grow.step_in (by rfl) (by rfl) ?_
        intro E W ec eg ef hG hd hu R HR
        have e3 : E (.tmp 3) = .pointer (some ⟨w.heap.size + 1, 0, none⟩) := hu 3 (by kernel_rfl)
        clear hd hu
        exact runs_load 36 (.tmp 3) rfl (w.heap.size + 1) e3 TS (0, 0) ((hG.turned.block _ (lt_of_cells HWD.out.2.2.1) (by omega)).trans HWD.out.2.2.1) Tryd.underlying36 (by rw [HTS.out.2.1]; exact id_info) (HR.out _ _ (Sto.refl _ _ _) rfl)
      case s3 =>
        refine Grow.step_in (by rfl) (by rfl) ?_
        intro E W ec eg ef hG hd hu R HR
        have e12 : E (.tmp 12) = .int .i64 ((splitL b).length : Int) := hd 1 12 (by kernel_rfl)
        have e13 : E (.tmp 13) = .agg TS := hd 2 13 (by kernel_rfl)
        clear hd hu
        go_simp
        rw [HTS.out.1]
        refine (ofRoot_any (splitL b).length HN63.out t HTS.out.2.2.1 W).mono ?_
        rintro _ w' ⟨q, c', rfl, hy, hb⟩
        have hlt := hG.lt (lt_of_cells HWD.out.2.1)
        exact ⟨_, rfl, HR.out _ _ (Sto.of_below hb hlt) ⟨q, c', rfl, hy.mono fun b _ hb => by omega⟩⟩
      case s4 =>
        refine Grow.step_in (by rfl) (by rfl) ?_
        intro E W ec eg ef hG hd hu R HR
        have h14 := hd 3 14 (by kernel_rfl)
        clear hd hu
        obtain ⟨q, c', e14, hY⟩ := h14
        go_simp
        have hlt := hG.lt (lt_of_cells HWD.out.2.1)
        exact HR.out _ _ (Sto.of_below ((Below.refl _ _).alloc (Nat.le_refl _) _) hlt) ⟨W.heap.size, rfl, rws_made hY (fun _ h => h) (show W.heap.size ≠ _ by omega)⟩
      case s5 =>
        refine Grow.step_in (by rfl) (by rfl) ?_
        intro E W ec eg ef hG hd hu R HR
        have h15 := hd 4 15 (by kernel_rfl)
        clear hd hu
        obtain ⟨q, e15, hR⟩ := h15
        go_simp
        refine (of_any hR (HWD.out.2.2.2.turned hG.turned (by have := HTL.out; omega) (by have := HTL.out; omega)) (by simp [le8_length, HTS.out.2.2.1])).mono ?_
        rintro _ w' ⟨rfl, hb⟩
        exact ⟨_, rfl, HR.out _ _ (Sto.of_below hb (hG.lt (lt_of_cells HWD.out.2.1))) (show Value.agg _ = Value.agg RS by rw [HRS.out.1, HTS.out.2.2.2]; simp [row8, rootL, crownD])⟩
      case s6 =>
        refine Grow.step_in (by rfl) (by rfl) ?_
        intro E W ec eg ef hG hd hu R HR
        have e2 : E (.tmp 2) = .pointer (some ⟨w.heap.size, 0, none⟩) := hu 2 (by kernel_rfl)
        have e16 : E (.tmp 16) = .agg RS := hd 5 16 (by kernel_rfl)
        clear hd hu
        obtain ⟨ds, hds, hdo⟩ := hG.old HWD.out.2.1
        exact runs_store 36 (.tmp 2) (.tmp 16) rfl w.heap.size RS e2 e16 36 ds hds (by rw [HRS.out.2.1]; exact id_info) (by rcases hdo with rfl | rfl; exact HRS.out.2.1.symm; rfl) HRS.out.2.2 (HR.out _ _ (Sto.store hds) (setRow_at hds))
    case gfin =>
      intro W hG
      refine Grow.fin_dst (by rfl) ?_
      rintro _ rfl
      refine Grow.fin_dst (by rfl) ?_
      rintro _ rfl
      refine Grow.fin_dst (by rfl) ?_
      rintro _ rfl
      refine Grow.fin_dst (by rfl) ?_
      rintro _ ⟨_, _, rfl, _⟩
      refine Grow.fin_dst (by rfl) ?_
      rintro _ ⟨_, rfl, _⟩
      refine Grow.fin_dst (by rfl) ?_
      rintro _ rfl
      refine Grow.fin_told (by rfl) ?_
      rintro ⟨_, hK⟩
      simp only [Act.put, List.setIfInBounds_toArray, List.set_cons_zero, List.set_cons_succ]
      refine Grow.fin_end ?_
      have HG : Hid (Below w.heap.size w W) := Lib.hid (HW.out.1.trans ((hG.of_drew.turned.mono (T := (w.heap.size ≤ ·)) fun b _ hb => by omega).below HW.out.1.size))
      have HK := Lib.hid hK
      have HE : Hid (W.heap[E]? = some (.deferred (some []))) := Lib.hid ((hG.turned.block _ (Array.getElem?_eq_some_iff.1 HW.out.2.2.2.1).1 (fun e => by have h1 := HW.out.2.2.2.2; have h2 := H1.out.1; omega)).trans HW.out.2.2.2.1)
      clear hG hK
      gi_wp2
      refine ⟨by simp, .inl ⟨_, _, rfl, run_takeDeferred HE.out, ?_⟩⟩
      have hne : w.heap.size ≠ E := by
        have h1 := HW.out.2.2.2.2
        have h2 := H1.out.1
        omega
      exact ⟨_, results_cell_row rfl _ _ w.heap.size 36 RS (0, 0) _ rfl ((World.putObj_heap_other hne).trans HK.out) Tryd.underlying36 rfl (by rw [HRS.out.2.1]; exact id_info), rfl, HG.out.trans (belowK_b (w := w) (Nat.le_refl _) W E _ _ (by have h1 := HW.out.2.2.2.2; have h2 := H1.out.1; omega) HE.out rfl rfl)⟩
end Go.Proofs.YtnbjhdlnibmgdaaDoor

/-! Plain mathematics of the reference: turning bit by bit, the sixty-four words.
  The reference: turn, numbers.
  The reference: schedule.
  Plain mathematics: what the reference reckons is what digest does. -/
/-! Plain mathematics of the reference: turning bit by bit, the sixty-four words. -/
namespace Go.Proofs.YtnbjhdlnibmgdaaDoor

theorem rotr_toNat (x : BitVec 32) (k : Nat) (hk : k < 32) : (rotr x k).toNat = x.toNat / 2 ^ k + x.toNat % 2 ^ k * 2 ^ (32 - k) := by
  unfold rotr
  have hx := x.isLt
  rw [BitVec.toNat_rotateRight, Nat.mod_eq_of_lt hk, Nat.shiftRight_eq_div_pow, Nat.shiftLeft_eq]
  have hp : (2 : Nat) ^ 32 = 2 ^ k * 2 ^ (32 - k) := by rw [← Nat.pow_add]; congr 1; omega
  have e1 : x.toNat * 2 ^ (32 - k) % 2 ^ 32 = (x.toNat % 2 ^ k) * 2 ^ (32 - k) := by rw [hp, Nat.mul_mod_mul_right]
  have h2 : x.toNat / 2 ^ k < 2 ^ (32 - k) := by
    rw [Nat.div_lt_iff_lt_mul (Nat.pow_pos (by omega)), Nat.mul_comm, ← hp]
    exact hx
  rw [e1, Nat.or_comm, ← Nat.shiftLeft_eq, ← Nat.shiftLeft_add_eq_or_of_lt h2, Nat.add_comm]

theorem rotr_zero (x : BitVec 32) : rotr x 0 = x := by
  apply BitVec.eq_of_toNat_eq
  rw [rotr_toNat x 0 (by omega)]
  simp [Nat.mod_one]

theorem half_step (x k : Nat) (hk : k < 31) :
    (x / 2 ^ k + x % 2 ^ k * 2 ^ (32 - k)) / 2 + (x / 2 ^ k + x % 2 ^ k * 2 ^ (32 - k)) % 2 * 2147483648 = x / 2 ^ (k + 1) + x % 2 ^ (k + 1) * 2 ^ (32 - (k + 1)) := by
  match k, hk with
  | 0, _ | 1, _ | 2, _ | 3, _ | 4, _ | 5, _ | 6, _ | 7, _ | 8, _ | 9, _ | 10, _ | 11, _ | 12, _ | 13, _ | 14, _ | 15, _ | 16, _ | 17, _ | 18, _ | 19, _ | 20, _ | 21, _ | 22, _ | 23, _ | 24, _ | 25, _ | 26, _ | 27, _ | 28, _ | 29, _ | 30, _ => simp only [Nat.reducePow, Nat.reduceSub, Nat.reduceAdd]; omega
  | k + 31, hk => exact absurd hk (by omega)

theorem nv_half (x : BitVec 32) (k : Nat) (hk : k < 31) : nv (rotr x k) / 2 + nv (rotr x k) % 2 * 2147483648 = nv (rotr x (k + 1)) := by
  unfold nv
  have h := half_step x.toNat k hk
  rw [← rotr_toNat x k (by omega), ← rotr_toNat x (k + 1) (by omega)] at h
  omega

/-- A word of four bytes. -/
def byW (l : List UInt8) (i : Nat) : BitVec 32 := BitVec.ofNat 32 (l[i]?.getD 0).toNat
def bew (l : List UInt8) (k : Nat) : BitVec 32 := byW l (4 * k) * 16777216#32 + byW l (4 * k + 1) * 65536#32 + byW l (4 * k + 2) * 256#32 + byW l (4 * k + 3)
def swk (L : List (BitVec 32)) (k : Nat) : BitVec 32 := (L[k - 16]?.getD 0) + lowB (L[k - 15]?.getD 0) + (L[k - 7]?.getD 0) + highB (L[k - 2]?.getD 0)
/-- The sixty-four words, the first k of them. -/
def sw (l : List UInt8) : Nat → List (BitVec 32)
  | 0 => List.replicate 64 0
  | k + 1 => (sw l k).set k (if k < 16 then bew l k else swk (sw l k) k)
theorem sw_length (l : List UInt8) : ∀ k, (sw l k).length = 64
  | 0 => by simp [sw]
  | k + 1 => by simp [sw, sw_length l k]
def roundsR (r : R8) (W : List (BitVec 32)) : Nat → R8
  | 0 => r
  | k + 1 => (roundsR r W k).next (kTab[k]?.getD 0) (W[k]?.getD 0)
def mixR (h : List (BitVec 32)) (b : List UInt8) : List (BitVec 32) := addTo h (roundsR (R8.of h) (sw b 64) 64).list 8
def hashR (m : List UInt8) : Nat → List (BitVec 32)
  | 0 => hTab
  | n + 1 => mixR (hashR m n) ((m.drop (64 * n)).take 64)
theorem hashR_length (m : List UInt8) : ∀ n, (hashR m n).length = 8
  | 0 => by rfl
  | n + 1 => by rw [hashR, mixR, addTo_length, hashR_length m n]
/-- So many of eight numbers moved one place on, the last one first. -/
def shiftV (v : List (BitVec 32)) : Nat → List (BitVec 32)
  | 0 => v
  | i + 1 => (shiftV v i).set (7 - i) ((shiftV v i)[7 - i - 1]?.getD 0)
theorem shiftV_length (v : List (BitVec 32)) : ∀ i, (shiftV v i).length = v.length
  | 0 => rfl
  | i + 1 => by simp [shiftV, shiftV_length v i]
theorem shiftV_all (a b c d e f g h : BitVec 32) : shiftV [a, b, c, d, e, f, g, h] 7 = [a, a, b, c, d, e, f, g] := by rfl
/-- The bytes of the first i of eight numbers. -/
def wordB (x : BitVec 32) (k : Nat) : UInt8 := UInt8.ofNat (x.toNat / 2 ^ (8 * (3 - k)))
def outR (H : List (BitVec 32)) : Nat → List UInt8
  | 0 => List.replicate 32 0
  | i + 1 => ((((outR H i).set (4 * i) (wordB (H[i]?.getD 0) 0)).set (4 * i + 1) (wordB (H[i]?.getD 0) 1)).set (4 * i + 2) (wordB (H[i]?.getD 0) 2)).set (4 * i + 3) (wordB (H[i]?.getD 0) 3)
theorem outR_length (H : List (BitVec 32)) : ∀ i, (outR H i).length = 32
  | 0 => by simp [outR]
  | i + 1 => by simp [outR, outR_length H i]
theorem mulw (x : BitVec 32) (c : Nat) (hc : c < 4294967296) : nv x * (c : Int) % 4294967296 = nv (x * BitVec.ofNat 32 c) := by
  unfold nv
  rw [BitVec.toNat_mul, BitVec.toNat_ofNat, Nat.mod_eq_of_lt (show c < 2 ^ 32 from hc)]
  have h : (2 : Nat) ^ 32 = 4294967296 := rfl
  rw [h]
  simp
end Go.Proofs.YtnbjhdlnibmgdaaDoor

/-! The reference: turn, numbers. -/
namespace Go.Proofs.YtnbjhdlnibmgdaaDoor
open Go.RowKit

set_option maxHeartbeats 1000000 in
theorem rturn_any (x : BitVec 32) (r : Int) (h0 : 0 ≤ r) (h : r < 31) (w : World) :
    Calls Tryd.prog 70 #[.int .u32 (nv x), .int .i64 r] w fun e w' => e = .returned (.int .u32 (nv (rotr x r.toNat))) ∧ w = w' := by
  go_enter Tryd.func70, Tryd.ntmps70
  go_wp2_with fail
  go_loop [0, 5] (fun v i => ∃ k : Nat, (k : Int) ≤ r ∧ i = .int .i64 k ∧ v = .int .u32 (nv (rotr x k))) (fun _ i => (r - intOf i).toNat)
  case atStart => exact ⟨0, by omega, rfl, by rw [rotr_zero]⟩
  case round =>
    obtain ⟨k, hk, rfl, rfl⟩ := hrel
    by_cases hlt : (k : Int) < r
    · have HN := Lib.hid (nv_half x k (by omega))
      have n1 := W32.nn (rotr x k)
      have hm := W32.mod_ (rotr x (k + 1))
      generalize hy : rotr x k = y at *
      go_wp2
      go_round
      case rel =>
        refine ⟨k + 1, by omega, by go_num, ?_⟩
        have h1 := HN.out
        have h2 := W32.lt y
        have h3 := W32.lt (rotr x (k + 1))
        have h4 : (nv y).tdiv 2 = nv y / 2 := Int.tdiv_eq_ediv_of_nonneg n1
        rw [h4, Int.emod_eq_of_lt (show 0 ≤ nv y / 2 by omega) (show nv y / 2 < 4294967296 by omega), h1, hm]
      case measure => simp [intOf]; omega
    · have hkr : (k : Int) = r := by omega
      have HK : Hid (k = r.toNat) := Lib.hid (by omega)
      clear hk
      go_wp2
      go_ret
      exact ⟨by rw [← HK.out]; rfl, rfl⟩

def kVals : List (Nat × Value) := [(0, .int .u32 1116352408), (1, .int .u32 1899447441), (2, .int .u32 3049323471), (3, .int .u32 3921009573), (4, .int .u32 961987163), (5, .int .u32 1508970993), (6, .int .u32 2453635748), (7, .int .u32 2870763221), (8, .int .u32 3624381080), (9, .int .u32 310598401), (10, .int .u32 607225278), (11, .int .u32 1426881987), (12, .int .u32 1925078388), (13, .int .u32 2162078206), (14, .int .u32 2614888103), (15, .int .u32 3248222580), (16, .int .u32 3835390401), (17, .int .u32 4022224774), (18, .int .u32 264347078), (19, .int .u32 604807628), (20, .int .u32 770255983), (21, .int .u32 1249150122), (22, .int .u32 1555081692), (23, .int .u32 1996064986), (24, .int .u32 2554220882), (25, .int .u32 2821834349), (26, .int .u32 2952996808), (27, .int .u32 3210313671), (28, .int .u32 3336571891), (29, .int .u32 3584528711), (30, .int .u32 113926993), (31, .int .u32 338241895), (32, .int .u32 666307205), (33, .int .u32 773529912), (34, .int .u32 1294757372), (35, .int .u32 1396182291), (36, .int .u32 1695183700), (37, .int .u32 1986661051), (38, .int .u32 2177026350), (39, .int .u32 2456956037), (40, .int .u32 2730485921), (41, .int .u32 2820302411), (42, .int .u32 3259730800), (43, .int .u32 3345764771), (44, .int .u32 3516065817), (45, .int .u32 3600352804), (46, .int .u32 4094571909), (47, .int .u32 275423344), (48, .int .u32 430227734), (49, .int .u32 506948616), (50, .int .u32 659060556), (51, .int .u32 883997877), (52, .int .u32 958139571), (53, .int .u32 1322822218), (54, .int .u32 1537002063), (55, .int .u32 1747873779), (56, .int .u32 1955562222), (57, .int .u32 2024104815), (58, .int .u32 2227730452), (59, .int .u32 2361852424), (60, .int .u32 2428436474), (61, .int .u32 2756734187), (62, .int .u32 3204031479), (63, .int .u32 3329325298)]
theorem build_tab : (Tryd.prog.built 107 kVals) = some (u32s kTab).toArray := by unfold kVals; kernel_rfl
def zeros64 : Array Value := (u32s (List.replicate 64 0)).toArray
theorem tab_info : (Tryd.prog.info? 107).map (·.size) = some 64 := by kernel_rfl
theorem zero_tab : ∀ W, (zeroValue 107).run Tryd.prog W = .ok (.agg zeros64) W := fun W => by unfold zeros64; kernel_rfl

set_option maxHeartbeats 1000000 in
set_option maxRecDepth 100000 in
theorem numbers_any (w : World) :
    Calls Tryd.prog 68 #[] w fun e w' => e = .returned (.agg (u32s kTab).toArray) ∧ Below w.heap.size w w' := by
  have hz := zero_tab
  go_enter Tryd.func68, Tryd.ntmps68
  have HG := Lib.hid (heap_alloc_new w (.cells zeros64 107))
  have HK := Lib.hid (And.intro (show (u32s kTab).toArray.size = 64 by rfl) (all_oneCell_toArray (u32s_one kTab)))
  obtain ⟨RS, hRS⟩ : ∃ RS, RS = (u32s kTab).toArray := ⟨_, rfl⟩
  have hb := build_tab
  rw [← hRS] at HK hb
  have HB := Lib.hid (And.intro hb hRS)
  clear hb hRS
  go_wp2_with (first | (refine wpList_built (by rfl) 107 _ (by rfl) kVals (by unfold kVals; simp [Act.eval]) RS HB.out.1 ?_) | (refine wpList_store_row (by rfl) 107 (.tmp 0) (.tmp 1) (by rfl) w.heap.size RS (by rfl) (by rfl) 107 _ HG.out (by rw [HK.out.1]; exact tab_info) (by rw [HK.out.1]; rfl) HK.out.2 ?_))
  refine bodyPost_ret (results_cell_row rfl _ _ w.heap.size 107 RS (0, 0) _ rfl (setRow_at HG.out) Tryd.underlying107 rfl (by rw [HK.out.1]; exact tab_info)) rfl ⟨by rw [HB.out.2], below_setRow ((Below.refl _ _).alloc (Nat.le_refl _) _) (Nat.le_refl _) _⟩
end Go.Proofs.YtnbjhdlnibmgdaaDoor

/-! The reference: schedule. -/
namespace Go.Proofs.YtnbjhdlnibmgdaaDoor
open Go.RowKit

theorem rturn_still (x : BitVec 32) (r : Int) (h0 : 0 ≤ r) (h : r < 31) (w : World) : Calls Tryd.prog 70 #[.int .u32 (nv x), .int .i64 r] w fun e w' => e = .returned (.int .u32 (nv (rotr x r.toNat))) ∧ w' = w :=
  (rturn_any x r h0 h w).mono fun _ _ ⟨h1, h2⟩ => ⟨h1, h2.symm⟩
theorem str_at (l : List UInt8) (i : Nat) (h : i < l.length) (j : Nat) (hj : j = i) (h2 : j < (⟨l.toArray⟩ : ByteArray).size) : (⟨l.toArray⟩ : ByteArray)[j]'h2 = l[i]?.getD 0 := by
  subst hj
  rw [List.getElem?_eq_getElem h]
  rfl

theorem four (x0 x1 x2 x3 : BitVec 32) : (nv x0 * 16777216 + nv x1 * 65536 + nv x2 * 256 + nv x3) % 4294967296 = nv (x0 * 16777216#32 + x1 * 65536#32 + x2 * 256#32 + x3) := by
  have h0 := mulw x0 16777216 (by omega)
  have h1 := mulw x1 65536 (by omega)
  have h2 := mulw x2 256 (by omega)
  rw [← W32.add_, ← W32.add_, ← W32.add_, ← h0, ← h1, ← h2]
  omega
theorem quo_w (x : BitVec 32) (k : Nat) : IntKind.u32.wrap ((nv x).tdiv (2 ^ k)) = nv (x >>> k) := by
  rw [Int.tdiv_eq_ediv_of_nonneg (W32.nn x), W32.shr_, IntKind.wrap_u32', W32.mod_]
theorem quo_m (x : BitVec 32) (k : Nat) : (nv x).tdiv (2 ^ k) % 4294967296 = nv (x >>> k) := by
  rw [Int.tdiv_eq_ediv_of_nonneg (W32.nn x), W32.shr_, W32.mod_]

set_option maxHeartbeats 4000000 in
set_option maxRecDepth 100000 in
theorem sched_any (l : List UInt8) (hl : l.length = 64) (w : World) :
    Calls Tryd.prog 69 #[.string ⟨l.toArray⟩] w fun e w' => e = .returned (.agg (u32s (sw l 64)).toArray) ∧ Below w.heap.size w w' := by
  have hz := zero_tab
  have HL := Lib.hid hl
  have hsz : (⟨l.toArray⟩ : ByteArray).size = 64 := by simp [ByteArray.size, hl]
  have hat : ∀ i, i < 64 → ∀ (j : Nat), j = i → ∀ (h : j < (⟨l.toArray⟩ : ByteArray).size), (⟨l.toArray⟩ : ByteArray)[j]'h = l[i]?.getD 0 := fun i hi j hj h => str_at l i (by omega) j hj h
  obtain ⟨s, hs⟩ : ∃ s : ByteArray, s = ⟨l.toArray⟩ := ⟨_, rfl⟩
  rw [← hs] at hsz hat ⊢
  have HA := Lib.hid (And.intro hat hs)
  clear hat hs hl
  go_enter Tryd.func69, Tryd.ntmps69
  go_wp2_with fail
  go_loopw [4, 5, 6] (fun i _ _ wr => ∃ k : Nat, k ≤ 64 ∧ i = .int .i64 k ∧ Below w.heap.size w wr ∧ wr.heap[w.heap.size]? = some (.cells zeros64 107 (0, 0)) ∧ wr.heap[w.heap.size + 1]? = some (.cells (u32s (sw l k)).toArray 107 (0, 0)))
    (fun i _ _ _ => 64 - (intOf i).toNat)
  case atStart => exact ⟨0, Nat.zero_le _, rfl, ((Below.refl _ _).alloc (Nat.le_refl _) _).alloc (by simp) _, (Below.heap_alloc _ _ _ (by simp)).trans (heap_alloc_new w _), by have := heap_alloc_new (w.alloc (.cells zeros64 107)) (.cells zeros64 107); simpa [sw, zeros64] using this⟩
  case round =>
    obtain ⟨k, hk, rfl, hbr, h1, h2⟩ := hrel
    have H1 := Lib.hid h1
    have H2 := Lib.hid h2
    have hswl := sw_length l k
    by_cases hlt : k < 64
    · by_cases h16 : k < 16
      · have HE : Hid (sw l (k + 1) = (sw l k).set k (bew l k)) := Lib.hid (by rw [sw, if_pos h16])
        have hw0 := IntWalk.i64_in (4 * (k : Int)) (by omega)
        have hw1 := IntWalk.i64_in (4 * (k : Int) + 1) (by omega)
        have hw2 := IntWalk.i64_in (4 * (k : Int) + 2) (by omega)
        have hw3 := IntWalk.i64_in (4 * (k : Int) + 3) (by omega)
        have HB : Hid (bew l k = byW l (4 * k) * 16777216#32 + byW l (4 * k + 1) * 65536#32 + byW l (4 * k + 2) * 256#32 + byW l (4 * k + 3)) := Lib.hid rfl
        have g0 := HA.out.1 (4 * k) (by omega) (4 * (k : Int)).toNat (by omega)
        have p0 : 0 ≤ 4 * (k : Int) := by omega
        have q0 : 4 * (k : Int) < 64 := by omega
        have g1 := HA.out.1 (4 * k + 1) (by omega) (4 * (k : Int) + 1).toNat (by omega)
        have p1 : 0 ≤ 4 * (k : Int) + 1 := by omega
        have q1 : 4 * (k : Int) + 1 < 64 := by omega
        have g2 := HA.out.1 (4 * k + 2) (by omega) (4 * (k : Int) + 2).toNat (by omega)
        have p2 : 0 ≤ 4 * (k : Int) + 2 := by omega
        have q2 : 4 * (k : Int) + 2 < 64 := by omega
        have g3 := HA.out.1 (4 * k + 3) (by omega) (4 * (k : Int) + 3).toNat (by omega)
        have p3 : 0 ≤ 4 * (k : Int) + 3 := by omega
        have q3 : 4 * (k : Int) + 3 < 64 := by omega
        have b0 := W32.of_byte (l[4 * k]?.getD 0)
        have b1 := W32.of_byte (l[4 * k + 1]?.getD 0)
        have b2 := W32.of_byte (l[4 * k + 2]?.getD 0)
        have b3 := W32.of_byte (l[4 * k + 3]?.getD 0)
        unfold byW at HB
        generalize l[4 * k]?.getD 0 = y0 at *
        generalize l[4 * k + 1]?.getD 0 = y1 at *
        generalize l[4 * k + 2]?.getD 0 = y2 at *
        generalize l[4 * k + 3]?.getD 0 = y3 at *
        generalize BitVec.ofNat 32 y0.toNat = x0 at *
        generalize BitVec.ofNat 32 y1.toNat = x1 at *
        generalize BitVec.ofNat 32 y2.toNat = x2 at *
        generalize BitVec.ofNat 32 y3.toNat = x3 at *
        have hq : (k : Int) < 64 := by omega
        clear h1 h2
        go_wp2_with fail
        refine wp_region_still_tail 31 (by kernel_rfl) (by kernel_rfl) ?_
        simp only [List.take_succ_cons, List.take_zero, List.drop_succ_cons, List.drop_zero]
        show wpStill _ _ wr.drew (fun a' => wpList _ _ _ _ a' wr.drew) _ _
        have hcell := u32s_cell H2.out k (by omega)
        have hfree := free_of_cells H2.out k
        have hcell : wr.drew.cell? ⟨w.heap.size + 1, k, none⟩ = _ := hcell
        have hfree : wr.drew.frozen? ⟨w.heap.size + 1, k, none⟩ = _ := hfree
        have m0 := W32.mod_
        iterate 31 still_step
        refine wpStill_nil ?_
        go_wp2_with fail
        go_roundw
        case rel =>
          have h1 := u32s_cells_set H2.out k (x0 * 16777216#32 + x1 * 65536#32 + x2 * 256#32 + x3)
          rw [← HB.out, ← HE.out] at h1
          rw [four, ← HB.out]
          exact ⟨k + 1, by omega, by go_num, below_drew (hbr.setCell (by simp) _), (Below.heap_setCell _ _ _ _ (by simp)).trans H1.out, h1⟩
        case measure => simp [intOf]; omega
      · have HE : Hid (sw l (k + 1) = (sw l k).set k (swk (sw l k) k)) := Lib.hid (by rw [sw, if_neg h16])
        have HB : Hid (swk (sw l k) k = ((sw l k)[k - 16]?.getD 0) + lowB ((sw l k)[k - 15]?.getD 0) + ((sw l k)[k - 7]?.getD 0) + highB ((sw l k)[k - 2]?.getD 0)) := Lib.hid rfl
        have c15 := u32s_cell H2.out (k - 15) (by omega)
        have c2 := u32s_cell H2.out (k - 2) (by omega)
        have c16 := u32s_cell H2.out (k - 16) (by omega)
        have c7 := u32s_cell H2.out (k - 7) (by omega)
        have c0 := u32s_cell H2.out k (by omega)
        have f0 := free_of_cells H2.out k
        generalize (sw l k)[k - 15]?.getD 0 = x15 at *
        generalize (sw l k)[k - 2]?.getD 0 = x2 at *
        generalize (sw l k)[k - 16]?.getD 0 = x16 at *
        generalize (sw l k)[k - 7]?.getD 0 = x7 at *
        generalize (sw l k)[k]?.getD 0 = xk at *
        have hw2 := IntWalk.i64_in ((k : Int) - 2) (by omega)
        have hw7 := IntWalk.i64_in ((k : Int) - 7) (by omega)
        have hw15 := IntWalk.i64_in ((k : Int) - 15) (by omega)
        have hw16 := IntWalk.i64_in ((k : Int) - 16) (by omega)
        have p7 : 0 ≤ (k : Int) - 7 := by omega
        have q7 : (k : Int) - 7 < 64 := by omega
        have p16 : 0 ≤ (k : Int) - 16 := by omega
        have q16 : (k : Int) - 16 < 64 := by omega
        have e7 : ((k : Int) - 7).toNat = k - 7 := by omega
        have e16 : ((k : Int) - 16).toNat = k - 16 := by omega
        have hq : (k : Int) < 64 := by omega
        clear h1 h2
        go_wp2_with fail
        refine wp_region_still_tail 29 (by kernel_rfl) (by kernel_rfl) ?_
        simp only [List.take_succ_cons, List.take_zero, List.drop_succ_cons, List.drop_zero]
        show wpStill _ _ wr.drew (fun a' => wpList _ _ _ _ a' wr.drew) _ _
        have c16 : wr.drew.cell? ⟨w.heap.size + 1, k - 16, none⟩ = _ := c16
        have c7 : wr.drew.cell? ⟨w.heap.size + 1, k - 7, none⟩ = _ := c7
        have c0 : wr.drew.cell? ⟨w.heap.size + 1, k, none⟩ = _ := c0
        have f0 : wr.drew.frozen? ⟨w.heap.size + 1, k, none⟩ = _ := f0
        have l7 : 7 ≤ (k : Int) := by omega
        have l16 : 16 ≤ (k : Int) := by omega
        have haw := W32.addw
        have hxor := W32.xor_
        have t3 := fun x => quo_w x 3
        have t10 := fun x => quo_w x 10
        simp only [show ((2 : Int) ^ 3) = 8 from rfl, show ((2 : Int) ^ 10) = 1024 from rfl] at t3 t10
        iterate 6 still_step
        iterate 2 (refine wpStill_step (fun K hK => ?_); go_simp; refine ⟨_, rturn_still _ _ (by omega) (by omega) _, hK _ ?_⟩; clear hK K; try still_step)
        iterate 10 still_step
        iterate 2 (refine wpStill_step (fun K hK => ?_); go_simp; refine ⟨_, rturn_still _ _ (by omega) (by omega) _, hK _ ?_⟩; clear hK K; try still_step)
        iterate 5 still_step
        refine wpStill_nil ?_
        have HV : Hid (nv (x16 + (rotr x15 7 ^^^ rotr x15 18 ^^^ x15 >>> 3) + x7 + (rotr x2 17 ^^^ rotr x2 19 ^^^ x2 >>> 10)) = nv (swk (sw l k) k)) := Lib.hid (by rw [HB.out]; rfl)
        go_wp2_with fail
        go_roundw
        case rel =>
          have h1 := u32s_cells_set H2.out k (swk (sw l k) k)
          rw [← HE.out, ← HV.out] at h1
          exact ⟨k + 1, by omega, by go_num, below_drew (hbr.setCell (by simp) _), (Below.heap_setCell _ _ _ _ (by simp)).trans H1.out, h1⟩
        case measure => simp [intOf]; omega
    · obtain rfl : k = 64 := by omega
      generalize hWs : sw l 64 = Ws at *
      have hi16 : (Tryd.prog.info? 107).map (·.size) = some (u32s Ws).toArray.size := by rw [show (u32s Ws).toArray.size = 64 by simp [u32s_length, hswl]]; exact tab_info
      have HS := Lib.hid (show zeros64.size = (u32s Ws).toArray.size by simp [u32s_length, hswl]; rfl)
      obtain ⟨RS, hRS⟩ : ∃ RS, RS = (u32s Ws).toArray := ⟨_, rfl⟩
      have hall : RS.all (·.oneCell') = true := by rw [hRS]; exact all_oneCell_toArray (u32s_one Ws)
      rw [← hRS] at hi16 HS H2
      have HZ := Lib.hid (And.intro hi16 hall)
      have HR := Lib.hid (And.intro hRS hWs)
      clear h1 h2 hi16 hall hWs hRS hswl
      go_wp2_with (first | (refine wpList_load_row (by rfl) 107 (.tmp 3) (by rfl) (w.heap.size + 1) (by rfl) 107 RS (0, 0) _ H2.out Tryd.underlying107 (by rfl) HZ.out.1 ?_) | (refine wpList_store_row (by rfl) 107 (.tmp 2) (.tmp 81) (by rfl) w.heap.size RS (by rfl) (by rfl) 107 _ H1.out HZ.out.1 HS.out HZ.out.2 ?_))
      refine bodyPost_ret (results_cell_row rfl _ _ w.heap.size 107 RS (0, 0) _ rfl (setRow_at H1.out) Tryd.underlying107 rfl HZ.out.1) rfl ⟨by rw [HR.out.1, ← HR.out.2], below_setRow hbr (Nat.le_refl _) _⟩
end Go.Proofs.YtnbjhdlnibmgdaaDoor

/-! Plain mathematics: what the reference reckons is what digest does. -/
namespace Go.Proofs.YtnbjhdlnibmgdaaDoor

theorem out_told (H : List (BitVec 32)) (h : H.length = 8) : outR H 8 = toldA H 32 := by
  match H, h with
  | [a, b, c, d, e, f, g, i], _ => rfl

/-! The first sixteen words -/
def w4 (b : List UInt8) (j : Nat) : BitVec 32 := ((((0 : BitVec 32) <<< (8 : Nat) ||| byW b (4 * j)) <<< (8 : Nat) ||| byW b (4 * j + 1)) <<< (8 : Nat) ||| byW b (4 * j + 2)) <<< (8 : Nat) ||| byW b (4 * j + 3)
theorem wacc_all (b : List UInt8) : wacc b 64 = [w4 b 0, w4 b 1, w4 b 2, w4 b 3, w4 b 4, w4 b 5, w4 b 6, w4 b 7, w4 b 8, w4 b 9, w4 b 10, w4 b 11, w4 b 12, w4 b 13, w4 b 14, w4 b 15] := by kernel_rfl
theorem byW_lt (b : List UInt8) (i : Nat) : (byW b i).toNat < 256 := by
  unfold byW
  have := (b[i]?.getD 0).toNat_lt
  rw [BitVec.toNat_ofNat, Nat.mod_eq_of_lt (by omega)]
  exact this
theorem sh_or (x c : BitVec 32) (hc : c.toNat < 256) : x <<< (8 : Nat) ||| c = x * 256#32 + c := by
  apply BitVec.eq_of_toNat_eq
  have e1 : x.toNat <<< 8 % 2 ^ 32 = (x.toNat % 16777216) <<< 8 := by
    rw [Nat.shiftLeft_eq, Nat.shiftLeft_eq]
    omega
  have e2 := Nat.shiftLeft_add_eq_or_of_lt (i := 8) (b := c.toNat) (by omega) (x.toNat % 16777216)
  rw [BitVec.toNat_or, BitVec.toNat_shiftLeft, e1, ← e2, BitVec.toNat_add, BitVec.toNat_mul, Nat.shiftLeft_eq]
  have h : (256#32).toNat = 256 := rfl
  rw [h]
  omega
theorem w4_bew (b : List UInt8) (j : Nat) : w4 b j = bew b j := by
  unfold w4 bew
  have h0 := byW_lt b (4 * j)
  have h1 := byW_lt b (4 * j + 1)
  have h2 := byW_lt b (4 * j + 2)
  have h3 := byW_lt b (4 * j + 3)
  rw [sh_or _ _ h0, sh_or _ _ h1, sh_or _ _ h2, sh_or _ _ h3]
  generalize byW b (4 * j) = c0 at *
  generalize byW b (4 * j + 1) = c1 at *
  generalize byW b (4 * j + 2) = c2 at *
  generalize byW b (4 * j + 3) = c3 at *
  have e2 : 256#32 * 256#32 = 65536#32 := by decide
  have e3 : 65536#32 * 256#32 = 16777216#32 := by decide
  have e4 : (0 : BitVec 32) = 0#32 := rfl
  simp only [BitVec.add_mul, BitVec.mul_assoc, e2, e3]
  rw [e4, BitVec.zero_mul, BitVec.zero_add]
theorem wacc_at (b : List UInt8) (j : Nat) (h : j < 16) : (wacc b 64)[j]?.getD 0 = bew b j := by
  rw [wacc_all, ← w4_bew]
  match j, h with
  | 0, _ | 1, _ | 2, _ | 3, _ | 4, _ | 5, _ | 6, _ | 7, _ | 8, _ | 9, _ | 10, _ | 11, _ | 12, _ | 13, _ | 14, _ | 15, _ => rfl
  | n + 16, h => exact absurd h (by omega)

/-! The sixty-four words -/
def swS (b : List UInt8) (i : Nat) : BitVec 32 := (sw b 64)[i]?.getD 0
theorem sw_keep (b : List UInt8) : ∀ (n i : Nat), i < n → n ≤ 64 → (sw b n)[i]?.getD 0 = (sw b (i + 1))[i]?.getD 0
  | 0, i, h, _ => by omega
  | n + 1, i, h, hn => by
    rcases Nat.lt_succ_iff_lt_or_eq.1 h with h1 | rfl
    · rw [← sw_keep b n i h1 (by omega), sw, List.getElem?_set_ne (by omega)]
    · rfl
theorem swS_at (b : List UInt8) (n i : Nat) (h : i < n) (hn : n ≤ 64) : (sw b n)[i]?.getD 0 = swS b i := by
  rw [sw_keep b n i h hn, swS, sw_keep b 64 i (by omega) (by omega)]
theorem sw_at (b : List UInt8) (k : Nat) (h : k < 64) : (sw b (k + 1))[k]?.getD 0 = if k < 16 then bew b k else swk (sw b k) k := by
  have hl := sw_length b k
  rw [sw]
  generalize (if k < 16 then bew b k else swk (sw b k) k) = x
  generalize sw b k = L at *
  rw [List.getElem?_set_self (by omega)]
  rfl
theorem swS_new (b : List UInt8) (k : Nat) (h : k < 64) : swS b k = if k < 16 then bew b k else swk (sw b k) k := by
  rw [← swS_at b (k + 1) k (by omega) (by omega), sw_at b k h]
theorem swS_hi (b : List UInt8) (k : Nat) (h : k < 64) (h16 : 16 ≤ k) : swS b k = swS b (k - 16) + (lowB (swS b (k - 15)) + swS b (k - 7) + highB (swS b (k - 2))) := by
  rw [swS_new b k h, if_neg (by omega), swk, swS_at b k _ (by omega) (by omega), swS_at b k _ (by omega) (by omega), swS_at b k _ (by omega) (by omega), swS_at b k _ (by omega) (by omega)]
  simp only [BitVec.add_assoc]

theorem ring_inv (L W : List (BitVec 32)) (S : Nat → BitVec 32) (hL : L.length = 16) (h0 : ∀ m, m < 16 → L[m]?.getD 0 = S m) (hW : ∀ k, k < 64 → W[k]?.getD 0 = S k)
    (hS : ∀ k, 16 ≤ k → k < 64 → S k = S (k - 16) + (lowB (S (k - 15)) + S (k - 7) + highB (S (k - 2)))) (r : R8) : ∀ k, k ≤ 64 →
    (∀ m, m < max k 16 → max k 16 ≤ m + 16 → ((rounds r L k).2)[m % 16]?.getD 0 = S m) ∧ (rounds r L k).1 = roundsR r W k := by
  intro k
  induction k with
  | zero =>
    intro _
    refine ⟨fun m h1 h2 => ?_, rfl⟩
    have hm : m < 16 := by omega
    rw [show m % 16 = m by omega]
    exact h0 m hm
  | succ k ih =>
    intro hk
    obtain ⟨ih1, ih2⟩ := ih (by omega)
    have hl : (rounds r L k).2.length = 16 := by rw [rounds_length, hL]
    have key : (ring (rounds r L k).2 k)[k % 16]?.getD 0 = S k ∧ ∀ m, m < max (k + 1) 16 → max (k + 1) 16 ≤ m + 16 → (ring (rounds r L k).2 k)[m % 16]?.getD 0 = S m := by
      by_cases h16 : k < 16
      · have e : ring (rounds r L k).2 k = (rounds r L k).2 := by unfold ring; rw [if_pos h16]
        rw [e]
        exact ⟨ih1 k (by omega) (by omega), fun m h1 h2 => ih1 m (by omega) (by omega)⟩
      · have e : ring (rounds r L k).2 k = (rounds r L k).2.set (k % 16) (S k) := by
          unfold ring
          rw [if_neg h16, hS k (by omega) (by omega), ← ih1 (k - 16) (by omega) (by omega), ← ih1 (k - 15) (by omega) (by omega), ← ih1 (k - 7) (by omega) (by omega), ← ih1 (k - 2) (by omega) (by omega),
            show (k - 16) % 16 = k % 16 by omega, show (k - 15) % 16 = (k + 1) % 16 by omega, show (k - 7) % 16 = (k + 9) % 16 by omega, show (k - 2) % 16 = (k + 14) % 16 by omega]
        rw [e]
        have hself : ((rounds r L k).2.set (k % 16) (S k))[k % 16]?.getD 0 = S k := by
          rw [List.getElem?_set_self (by omega)]; rfl
        refine ⟨hself, fun m h1 h2 => ?_⟩
        by_cases hm : m = k
        · subst hm; exact hself
        · rw [List.getElem?_set_ne (by omega)]
          exact ih1 m (by omega) (by omega)
    refine ⟨key.2, ?_⟩
    have e1 : (rounds r L (k + 1)).1 = (rounds r L k).1.next (kTab[k]?.getD 0) ((ring (rounds r L k).2 k)[k % 16]?.getD 0) := rfl
    have e2 : roundsR r W (k + 1) = (roundsR r W k).next (kTab[k]?.getD 0) (W[k]?.getD 0) := rfl
    rw [e1, e2, key.1, ih2, hW k (by omega)]

theorem mix_eq (h : List (BitVec 32)) (b : List UInt8) : mixR h b = mixB h b := by
  have h1 : ∀ m, m < 16 → (wacc b 64)[m]?.getD 0 = swS b m := fun m hm => by rw [wacc_at b m hm, swS_new b m (by omega), if_pos hm]
  have h2 : ∀ k, k < 64 → (sw b 64)[k]?.getD 0 = swS b k := fun k _ => rfl
  have h3 := fun k h16 hk => swS_hi b k hk h16
  have h4 := wacc_length b 64
  unfold mixR mixB
  generalize wacc b 64 = L at *
  generalize sw b 64 = W at *
  rw [(ring_inv L W (swS b) h4 h1 h2 h3 (R8.of h) 64 (by omega)).2]

theorem hashR_eq (M : List UInt8) : ∀ (j : Nat), hashR M j = hashN M j
  | 0 => rfl
  | j + 1 => by rw [hashR, hashN, hashR_eq M j, mix_eq]
end Go.Proofs.YtnbjhdlnibmgdaaDoor
