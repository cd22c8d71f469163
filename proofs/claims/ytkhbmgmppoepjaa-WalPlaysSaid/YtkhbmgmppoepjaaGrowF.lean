/-
  The law of drawn regions (Grow) at any fence without a bound on the depth; and where the last operation waits for all others, and is walked by itself (a call of yield).
-/
import Derived.Test.YtkhbmgmppoepjaaGrowIn
namespace Go.Proofs.Ytkhbmgmppoepjaa
open Go.RowKit
namespace Grow
/-- A fence that lets every call in. -/
structure Open (F : Fence) (nr : Nat) (P : Program) : Prop where
  fn : ∀ f, F.fn f
  depth : F.depth.isSome = true → 1 ≤ nr
  calls : ∀ f args w R, Calls P f args w R → CallsIn F (nr - 1) P f args w R
theorem open_wide (nr : Nat) (P : Program) : Open Fence.wide nr P := ⟨fun _ => trivial, fun h => (by cases h), fun _ _ _ _ h => callsIn_wide.2 h⟩
theorem open_round (l nr : Nat) (P : Program) : Open (Fence.wide.inRound l) nr P := ⟨fun _ => trivial, fun h => (by cases h), fun _ _ _ _ h => CallsIn.inRound l (callsIn_wide.2 h)⟩
section
variable {P : Program} {ops : Array Oper} {Q : Exit → Act → World → Prop} {G : World → World → Prop} {Φ : Nat → Value → World → Prop} {a0 : Act} {w0 : World} {F : Fence} {nr : Nat}
theorem runs_wpF (hF : Open F nr P) {o : Oper} {a : Act} {w : World} {K : Act → World → Prop} {R : Value → World → Prop} (hd : ∀ c, o.op ≠ .defer c) (hR : ∀ v w', R v w' → K (a.put o.dst v) w') (h : runsTo P R ((execOp a.eval o).run P w)) : o.wpIn F nr P a w K Q := by
  unfold Oper.wpIn
  refine ⟨fun _ _ => hF.fn _, ?_⟩
  rw [Oper.semAt_plain _ _ _ hd]
  generalize (execOp a.eval o).run P w = r at h
  unfold runsTo at h
  split at h
  · exact hR _ _ h
  · exact hR _ _ h
  · refine ⟨hF.depth, hF.calls _ _ _ _ (Calls.mono h ?_)⟩
    rintro e w'' ⟨v, rfl, hr⟩
    exact hR _ _ hr
  · exact h.elim
theorem step_invF (hF : Open F nr P) {n i : Nat} {listed : Array Bool} {a : Act} {w : World} (hnd : noDefer ops = true) (hB : growB ops n = true) (hn : a0.tmps.size = n) (htr : ∀ A B C, G A B → G B C → G A C) (hmono : ∀ j v W W', Φ j v W → G W W' → Φ j v W') (hrefl : ∀ W, G W W)
    (hI : Inv ops G Φ a0 w0 listed a w) (hi : i ∈ Region.ready .any ops listed) (hs : GStep P ops G Φ a0 w0 i) : wpOpIn F nr P ops Q i (fun a' w' => Inv ops G Φ a0 w0 (listed.setIfInBounds i true) a' w') a w := by
  obtain ⟨hun, o, ho, hall⟩ := mem_ready.1 hi
  obtain ⟨hr1, hr2⟩ := inv_reads hI hi ho
  have hnew : ∀ v w', G w w' → Φ i v w' → Inv ops G Φ a0 w0 (listed.setIfInBounds i true) (a.put o.dst v) w' := fun v w' hg hv =>
    inv_put hB hn hI hi ho (htr _ _ _ hI.grow hg) (fun j _ u hu => hmono j u _ _ hu hg) hv
  have hst := hs o ho a.eval w (fun _ => rfl) (fun _ => rfl) (fun _ => rfl) hI.grow hr1 hr2
  unfold wpOpIn
  rw [ho]
  show if Region.wanted o (yielded ops a.tmps) = true then _ else _
  rcases hst with ⟨hw, hr⟩ | ⟨⟨g, b, u, d, hg, hd, hE, hne⟩, hu⟩
  · have hwt : Region.wanted o (yielded ops a.tmps) = true := by
      unfold Region.wanted
      rcases hw with hw | ⟨g, b, d, hg, hd, hE⟩
      · rw [hw]
      · rw [hg]
        simp [yielded_of hd hE]
    rw [if_pos hwt]
    exact runs_wpF hF (noDefer_spec hnd ho) (fun v w' h => hnew v w' h.1 h.2) hr
  · have hwt : Region.wanted o (yielded ops a.tmps) = false := by
      unfold Region.wanted
      rw [hg]
      exact yielded_not hd hE hne
    rw [hwt]
    simp only [Bool.false_eq_true, if_false]
    exact ⟨fun _ _ => hF.fn _, hnew undef w (hrefl w) hu⟩
/-- What the activation is when those of the front have run. -/
theorem front_done {n m : Nat} {listed : Array Bool} {a : Act} {w : World} (hB : growB ops n = true) (hn : a0.tmps.size = n) (hI : Inv ops G Φ a0 w0 listed a w) {front back : List Oper} (hsp : ops.toList = front ++ back) (hm : front.length = m)
    (hl : ∀ j, j < m → listed.getD j false = true) (hl2 : ∀ j, m ≤ j → listed.getD j false = false) (hfin : fin Φ Q w front 0 a0) : Q .normal a w := by
  have hat : ∀ j o, front[j]? = some o → ops[j]? = some o ∧ j < m := fun j o hj => by
    have hjl := (List.getElem?_eq_some_iff.1 hj).1
    refine ⟨?_, by omega⟩
    rw [← Array.getElem?_toList, hsp, List.getElem?_append_left hjl, hj]
  have hsame : putL (fun j => a.tmps.getD ((dstOf ops j).getD 0) undef) front 0 a0 = a := by
    refine putL_same (a := a) _ 0 a0 hI.size.symm hI.defers.symm ?_ ?_
    · intro j o d hj hd
      obtain ⟨hj', _⟩ := hat j o hj
      refine ⟨by rw [hI.size, hn]; exact ((growB_spec hB hj').2 d hd).1, ?_⟩
      have hdd : dstOf ops j = some d := by unfold dstOf; rw [hj']; exact hd
      simp [hdd]
    · intro d hd
      refine (hI.rest d fun j o hj hlj => ?_).symm
      have hjm : j < m := by
        rcases Nat.lt_or_ge j m with h | h
        · exact h
        · rw [hl2 j h] at hlj
          cases hlj
      refine hd o ?_
      have : front[j]? = some o := by
        rw [← hj, ← Array.getElem?_toList, hsp, List.getElem?_append_left (by omega)]
      exact List.mem_of_getElem? this
  rw [← hsame]
  refine fin_putL front 0 a0 hfin ?_ (fun j o hj hd => by
    obtain ⟨hj', hjm⟩ := hat j o hj
    simpa using hI.doneN j o hj' (hl j hjm) hd)
  intro j o d hj hd
  obtain ⟨hj', hjm⟩ := hat j o hj
  have hdd : dstOf ops j = some d := by unfold dstOf; rw [hj']; exact hd
  have := hI.done j o d hj' (hl j hjm) hd
  simpa [hdd] using this
theorem any_of_invF (hF : Open F nr P) {n : Nat} (hnd : noDefer ops = true) (hB : growB ops n = true) (hn : a0.tmps.size = n) (htr : ∀ A B C, G A B → G B C → G A C) (hmono : ∀ j v W W', Φ j v W → G W W' → Φ j v W') (hrefl : ∀ W, G W W)
    (hs : ∀ i, i < ops.size → GStep P ops G Φ a0 w0 i) (hfin : ∀ W, G w0 W → fin Φ Q W ops.toList 0 a0) :
    ∀ (fuel : Nat) (listed : Array Bool) (a : Act) (w : World), Inv ops G Φ a0 w0 listed a w → listed.toList.count false ≤ fuel → wpAnyIn F nr P .any ops Q fuel listed a w := by
  have hend : ∀ (listed : Array Bool) (a : Act) (w : World), Inv ops G Φ a0 w0 listed a w → Region.ready .any ops listed = [] → Q .normal a w := by
    intro listed a w hI hr
    have hall := all_of_ready hB hI.lsize hr
    exact front_done (front := ops.toList) (back := []) (m := ops.size) hB hn hI (by simp) (by simp) (fun j hj => hall j hj) (fun j hj => by rw [Array.getD_eq_getD_getElem?, Array.getElem?_eq_none (by rw [hI.lsize]; exact hj)]; rfl) (hfin w hI.grow)
  intro fuel
  induction fuel with
  | zero =>
    intro listed a w hI hc
    have hr : Region.ready .any ops listed = [] := by
      rw [List.eq_nil_iff_forall_not_mem]
      intro i hi
      have := count_set (mem_ready.1 hi).1
      omega
    exact ⟨hr, hend _ _ _ hI hr⟩
  | succ fuel ih =>
    intro listed a w hI hc
    refine ⟨hend _ _ _ hI, fun i hi => ?_⟩
    obtain ⟨h1, o, ho, _⟩ := mem_ready.1 hi
    refine wpOpIn_mono ?_ (step_invF hF hnd hB hn htr hmono hrefl hI hi (hs i (Array.getElem?_eq_some_iff.1 ho).1))
    intro a' w' hI'
    exact ih _ a' w' hI' (by have := count_set h1; omega)
/-- Each but the last is waited for by a later one. -/
def lastB (ops : Array Oper) : Bool := (List.range (ops.size - 1)).all fun j => (List.range ops.size).any fun k => decide (j < k) && waitsB ops k j
theorem lastB_spec (h : lastB ops = true) (j : Nat) (hj : j < ops.size - 1) : ∃ k, j < k ∧ k < ops.size ∧ waitsB ops k j = true := by
  obtain ⟨k, hk, hkb⟩ := List.any_eq_true.1 (List.all_eq_true.1 h j (List.mem_range.2 hj))
  simp only [Bool.and_eq_true, decide_eq_true_eq] at hkb
  exact ⟨k, hkb.1, List.mem_range.1 hk, hkb.2⟩
theorem any_of_invL (hF : Open F nr P) {n : Nat} (hnd : noDefer ops = true) (hB : growB ops n = true) (hL : lastB ops = true) (hn : a0.tmps.size = n) (htr : ∀ A B C, G A B → G B C → G A C) (hmono : ∀ j v W W', Φ j v W → G W W' → Φ j v W') (hrefl : ∀ W, G W W)
    {front : List Oper} {oz : Oper} (hsp : ops.toList = front ++ [oz]) (hgz : oz.guard = none)
    (hs : ∀ i, i < front.length → GStep P ops G Φ a0 w0 i) (hfin : ∀ W, G w0 W → fin Φ (fun _ a w => oz.wpIn F nr P a w (fun a' w' => Q .normal a' w') Q) W front 0 a0) :
    ∀ (fuel : Nat) (listed : Array Bool) (a : Act) (w : World), Inv ops G Φ a0 w0 listed a w → listed.getD front.length true = false → listed.toList.count false ≤ fuel → wpAnyIn F nr P .any ops Q fuel listed a w := by
  have hsz : ops.size = front.length + 1 := by
    rw [← Array.length_toList, hsp]
    simp
  have hoz : ops[front.length]? = some oz := by
    rw [← Array.getElem?_toList, hsp]
    simp
  intro fuel
  induction fuel with
  | zero =>
    intro listed a w hI hz hc
    have := count_set hz
    omega
  | succ fuel ih =>
    intro listed a w hI hz hc
    refine ⟨fun hr => ?_, fun i hi => ?_⟩
    · have hall := all_of_ready hB hI.lsize hr front.length (by omega)
      obtain ⟨h1, _⟩ := getD_both' hz
      rw [hall] at h1
      cases h1
    obtain ⟨h1, o, ho, hall⟩ := mem_ready.1 hi
    by_cases hiz : i = front.length
    · subst hiz
      -- all others have run
      have hlt : ∀ d j, j < front.length → front.length - j ≤ d → listed.getD j false = true := by
        intro d
        induction d with
        | zero => intro j hj hd; omega
        | succ d ihd =>
          intro j hj hd
          obtain ⟨k, hjk, hk, hw⟩ := lastB_spec hL j (by omega)
          unfold waitsB at hw
          by_cases hkz : k = front.length
          · subst hkz
            rw [hoz] at hw
            obtain ⟨e, he, hb⟩ := Array.any_eq_true'.1 hw
            simp only [Bool.and_eq_true, beq_iff_eq] at hb
            obtain rfl : o = oz := by rw [ho] at hoz; exact Option.some.inj hoz
            exact hb.2 ▸ hall e he hb.1
          · have hkl := ihd k (by omega) (by omega)
            cases hok : ops[k]? with
            | none => rw [hok] at hw; cases hw
            | some ok =>
              rw [hok] at hw
              obtain ⟨e, he, hb⟩ := Array.any_eq_true'.1 hw
              simp only [Bool.and_eq_true, beq_iff_eq] at hb
              exact hb.2 ▸ hI.closed k ok hok hkl e he hb.1
      have hq := front_done (Q := fun _ a w => oz.wpIn F nr P a w (fun a' w' => Q .normal a' w') Q) (m := front.length) hB hn hI hsp rfl (fun j hj => hlt _ j hj (Nat.le_refl _)) (fun j hj => by
        rcases Nat.lt_or_ge j ops.size with h | h
        · obtain rfl : j = front.length := by omega
          exact (getD_both' h1).1
        · rw [Array.getD_eq_getD_getElem?, Array.getElem?_eq_none (by rw [hI.lsize]; exact h)]
          rfl) (hfin w hI.grow)
      have hop : wpOpIn F nr P ops Q front.length (fun a' w' => Q .normal a' w') a w := by
        unfold wpOpIn
        rw [hoz]
        show if Region.wanted oz (yielded ops a.tmps) = true then _ else _
        rw [if_pos (by unfold Region.wanted; rw [hgz])]
        exact hq
      refine wpOpIn_mono ?_ hop
      intro a' w' hQ
      have hr : Region.ready .any ops (listed.setIfInBounds front.length true) = [] := by
        rw [List.eq_nil_iff_forall_not_mem]
        intro k hk
        obtain ⟨hun, ok, hok, _⟩ := mem_ready.1 hk
        obtain ⟨hun, hkl⟩ := getD_both' hun
        have hks := (Array.getElem?_eq_some_iff.1 hok).1
        by_cases hkz : k = front.length
        · subst hkz
          rw [getD_set_same (by rw [hI.lsize]; omega)] at hun
          cases hun
        · rw [getD_set_ne' (fun e => hkz e.symm), hlt _ k (by omega) (Nat.le_refl _)] at hun
          cases hun
      cases fuel with
      | zero => exact ⟨hr, hQ⟩
      | succ fuel => exact ⟨fun _ => hQ, fun k hk => by rw [hr] at hk; cases hk⟩
    · have hlt : i < front.length := by
        have := (Array.getElem?_eq_some_iff.1 ho).1
        omega
      refine wpOpIn_mono ?_ (step_invF hF hnd hB hn htr hmono hrefl hI hi (hs i hlt))
      intro a' w' hI'
      refine ih _ a' w' hI' ?_ (by have := count_set h1; omega)
      rw [Array.getD_eq_getD_getElem?, Array.getElem?_setIfInBounds_ne hiz, ← Array.getD_eq_getD_getElem?]
      exact hz
end
end Grow
section
variable {P : Program} {ops : Array Oper} {Q : Exit → Act → World → Prop} {F : Fence} {nr id : Nat} {a : Act} {w : World}
theorem inv_start {G : World → World → Prop} {Φ : Nat → Value → World → Prop} {w0 : World} (h : G w0 w0) : Grow.Inv ops G Φ a w0 (Array.replicate ops.size false) a w0 := by
  refine ⟨h, by simp, rfl, rfl, ?_, ?_, ?_, fun _ _ => rfl⟩
  · intro j o hj hl
    simp at hl
    have := (Array.getElem?_eq_some_iff.1 hj).1
    simp [this] at hl
  · intro j o d hj hl
    have := (Array.getElem?_eq_some_iff.1 hj).1
    simp [this] at hl
  · intro j o hj hl
    have := (Array.getElem?_eq_some_iff.1 hj).1
    simp [this] at hl
/-- THE LAW, at such a fence. -/
theorem wpIn_region_growF (hF : Grow.Open F nr P) (G : World → World → Prop) (Φ : Nat → Value → World → Prop) (n : Nat) (hm : P.follows .mixedOrders = true) (hnd : Grow.noDefer ops = true)
    (hB : Grow.growB ops n = true) (hn : a.tmps.size = n) (hrefl : ∀ W, G W W) (htr : ∀ A B C, G A B → G B C → G A C) (hmono : ∀ j v W W', Φ j v W → G W W' → Φ j v W')
    (hs : Grow.allBelow (Grow.GStep P ops G Φ a w.drew) ops.size) (hfin : ∀ W, G w.drew W → Grow.fin Φ Q W ops.toList 0 a) : (Code.region id ops true).wpIn F nr P Q a w :=
  wpIn_region_any hm (Grow.any_of_invF hF hnd hB hn htr hmono hrefl (Grow.allBelow_at hs) hfin ops.size _ a _ (inv_start (hrefl _)) (by simp))
/-- .. where the last one is walked by itself. -/
theorem wpIn_region_growL (hF : Grow.Open F nr P) (G : World → World → Prop) (Φ : Nat → Value → World → Prop) (n : Nat) (hm : P.follows .mixedOrders = true) (hnd : Grow.noDefer ops = true)
    (hB : Grow.growB ops n = true) (hL : Grow.lastB ops = true) (hn : a.tmps.size = n) (hrefl : ∀ W, G W W) (htr : ∀ A B C, G A B → G B C → G A C) (hmono : ∀ j v W W', Φ j v W → G W W' → Φ j v W')
    (k : Nat) {oz : Oper} (hsz : ops.size = k + 1) (hoz : ops.toList[k]? = some oz) (hgz : oz.guard = none)
    (hs : Grow.allBelow (Grow.GStep P ops G Φ a w.drew) k) (hfin : ∀ W, G w.drew W → Grow.fin Φ (fun _ a w => oz.wpIn F nr P a w (fun a' w' => Q .normal a' w') Q) W (ops.toList.take k) 0 a) : (Code.region id ops true).wpIn F nr P Q a w := by
  obtain ⟨hk, he⟩ := List.getElem?_eq_some_iff.1 hoz
  have hsp : ops.toList = ops.toList.take k ++ [oz] := by
    rw [← he, ← List.take_succ_eq_append_getElem hk, List.take_of_length_le (by rw [Array.length_toList]; omega)]
  have hfl : (ops.toList.take k).length = k := by rw [List.length_take, Array.length_toList]; omega
  rw [← hfl] at hs
  exact wpIn_region_any hm (Grow.any_of_invL hF hnd hB hL hn htr hmono hrefl hsp hgz (Grow.allBelow_at hs) hfin ops.size _ a _ (inv_start (hrefl _)) (by rw [hfl]; simp [hsz]) (by simp))
end
end Go.Proofs.Ytkhbmgmppoepjaa
