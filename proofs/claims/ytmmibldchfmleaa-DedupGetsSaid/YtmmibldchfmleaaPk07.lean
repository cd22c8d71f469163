/-
  Dedup, pure: how an index is read; what is put is got; what is got, put again, is the bytes.
  Dedup: Add and Find.
  Dedup: Find.
  A range over a function whose iterator makes memory of its own and hands out what lies in it: what the iterator promises (Iter), and the law for the loop.
-/
import Derived.Test.YtmmibldchfmleaaPk04
import Derived.Test.YtmmibldchfmleaaPk06
import Derived.Test.YtmmibldchfmleaaPk03
import Derived.Test.YtmmibldchfmleaaPk01
import Derived.RangeFuncNested
import Derived.RangeFuncBound
import Derived.RangeFuncCalls
import Derived.RangeFuncLeaves
/-! Dedup, pure: how an index is read; what is put is got; what is got, put again, is the bytes. -/
namespace Go.Proofs.Ytmmibldchfmleaa
open Go.RowKit Codec

/-- What a place may be. -/
def mayN (n : Int) : Bool := decide (0 ≤ n) && decide (n ≤ 1023)
/-- One object's bytes. -/
def plB (e : List UInt8 × Pl) : List UInt8 := e.1 ++ e.2.1 ++ put e.2.2.toNat
def plsB (t : Tv Pl) : List UInt8 := (t.map plB).flatten
/-- An index's bytes. -/
def ixB (t : Tv Pl) : List UInt8 := put t.length ++ plsB t
theorem plsB_snoc (t : Tv Pl) (e : List UInt8 × Pl) : plsB (t ++ [e]) = plsB t ++ plB e := by simp [plsB]
def OkT (t : Tv Pl) : Prop := ∀ e ∈ t, e.1.length = 32 ∧ e.2.1.length = 32 ∧ mayN e.2.2 = true
theorem mayN_nat {n : Int} (h : mayN n = true) : ∃ m : Nat, n = (m : Int) ∧ m ≤ 1023 := by
  unfold mayN at h
  simp only [Bool.and_eq_true, decide_eq_true_eq] at h
  exact ⟨n.toNat, by omega, by omega⟩
/-- What is read of an object: it, its pack, its number; the rest, the error. -/
abbrev DRow := List UInt8 × List UInt8 × Nat
def dgR (l : List UInt8) (e : Int) : DRow := (idL l e, idL (fxL l e 32) (tkE l e 32), uiX (fxL (fxL l e 32) (tkE l e 32) 32) (tkE (fxL l e 32) (tkE l e 32) 32))
def dgL (l : List UInt8) (e : Int) : List UInt8 := uiL (fxL (fxL l e 32) (tkE l e 32) 32) (tkE (fxL l e 32) (tkE l e 32) 32)
def dgE (l : List UInt8) (e : Int) : Int := uiE (fxL (fxL l e 32) (tkE l e 32) 32) (tkE (fxL l e 32) (tkE l e 32) 32)
def gdGo : Nat → List DRow → List UInt8 → Int → List DRow × List UInt8 × Int
  | 0, acc, l, e => (acc, l, e)
  | n + 1, acc, l, e => if e = 0 then gdGo n (acc ++ [dgR l e]) (dgL l e) (dgE l e) else (acc, l, e)
theorem gdGo_bad {n : Nat} {acc : List DRow} {l : List UInt8} {e : Int} (h : e ≠ 0) : gdGo n acc l e = (acc, l, e) := by
  cases n with
  | zero => rfl
  | succ n => rw [gdGo, if_neg h]
def mayS (acc : List DRow) (y : DRow) : Bool := decide (y.2.2 ≤ 1023) && (match acc.getLast? with | none => true | some z => decide (z.1 < y.1))
def mayG (acc : List DRow) : Bool := acc.all (fun y => decide (y.2.2 ≤ 1023)) && decide (acc.Pairwise fun a b => a.1 < b.1)
theorem mayG_snoc (acc : List DRow) (y : DRow) : mayG (acc ++ [y]) = (mayG acc && mayS acc y) := by
  unfold mayG
  rw [List.all_append]
  by_cases hp : acc.Pairwise fun a b => a.1 < b.1
  · have h2 : decide ((acc ++ [y]).Pairwise fun a b => a.1 < b.1) = (match acc.getLast? with | none => true | some z => decide (z.1 < y.1)) := by
      rcases List.eq_nil_or_concat acc with rfl | ⟨pre, z, rfl⟩
      · simp
      · simp only [List.concat_eq_append] at hp ⊢
        rw [List.getLast?_append, List.getLast?_singleton, Option.some_or]
        refine decide_eq_decide.2 ⟨fun h => (List.pairwise_append.1 h).2.2 z (by simp) y (by simp), fun h => List.pairwise_append.2 ⟨hp, by simp, fun a ha b hb => ?_⟩⟩
        simp only [List.mem_singleton] at hb
        subst hb
        rcases List.mem_append.1 ha with ha | ha
        · exact klt_tr ((List.pairwise_append.1 hp).2.2 a ha z (by simp)) h
        · simp only [List.mem_singleton] at ha
          rw [ha]
          exact h
    rw [h2]
    unfold mayS
    simp [hp, Bool.and_assoc, Bool.and_comm, Bool.and_left_comm]
  · have h2 : ¬ (acc ++ [y]).Pairwise fun a b => a.1 < b.1 := fun h => hp (List.pairwise_append.1 h).1
    simp [hp, h2]
/-- The map that is made of them. -/
def gdV (y : DRow) : Pl := (y.2.1, IntKind.i64.wrap (y.2.2 : Int))
def gdT (acc : List DRow) : Tv Pl := acc.foldl (fun t y => putV t y.1 (gdV y)) []
theorem gdT_snoc (acc : List DRow) (y : DRow) : gdT (acc ++ [y]) = putV (gdT acc) y.1 (gdV y) := by simp [gdT, List.foldl_append]
def gdL (acc : List DRow) : Tv Pl := acc.map fun y => (y.1, y.2.1, (y.2.2 : Int))
theorem putV_last {t : Tv Pl} {k : List UInt8} {v : Pl} (h : ∀ e ∈ t, e.1 < k) : putV t k v = t ++ [(k, v)] := by
  unfold putV
  rw [List.filter_eq_self.2 (fun e he => by simpa using h e he), List.filter_eq_nil_iff.2 (fun e he => by simpa using klt_as (h e he)), List.append_nil]
theorem small_wrap {n : Nat} (h : n ≤ 1023) : IntKind.i64.wrap (n : Int) = (n : Int) := by
  unfold IntKind.wrap
  simp [IntKind.signed, IntKind.bits]
  omega
theorem snoc_indD {p : List DRow → Prop} (h0 : p []) (h1 : ∀ l s, p l → p (l ++ [s])) : ∀ l, p l := fun l => by
  have h : ∀ (n : Nat) (l : List DRow), l.length = n → p l := by
    intro n
    induction n with
    | zero => intro l hl; rw [List.eq_nil_of_length_eq_zero hl]; exact h0
    | succ n ih =>
      intro l hl
      rcases List.eq_nil_or_concat l with rfl | ⟨pre, z, rfl⟩
      · simp at hl
      · rw [List.concat_eq_append] at hl ⊢
        exact h1 _ _ (ih pre (by simp at hl; exact hl))
  exact h _ l rfl
theorem gdT_may : ∀ acc : List DRow, mayG acc = true → gdT acc = gdL acc := by
  refine snoc_indD (fun _ => rfl) fun acc y ih h => ?_
  rw [mayG_snoc, Bool.and_eq_true] at h
  have h1 := ih h.1
  have hG := h.1
  have h3 : mayG (acc ++ [y]) = true := by rw [mayG_snoc, h.1, h.2]; rfl
  unfold mayG at h3
  simp only [Bool.and_eq_true, decide_eq_true_eq] at h3
  have h4 := (List.pairwise_append.1 h3.2).2.2
  have h5 : y.2.2 ≤ 1023 := by
    have := h.2
    unfold mayS at this
    simp only [Bool.and_eq_true, decide_eq_true_eq] at this
    exact this.1
  rw [gdT_snoc, h1, putV_last fun e he => ?_]
  · simp [gdL, gdV, small_wrap h5]
  · obtain ⟨a, ha, rfl⟩ := List.mem_map.1 he
    exact h4 a ha y (by simp)
theorem gdL_srt {acc : List DRow} (h : mayG acc = true) : Sv (gdL acc) := by
  unfold mayG at h
  simp only [Bool.and_eq_true, decide_eq_true_eq] at h
  exact List.pairwise_map.2 h.2
theorem gdT_len : ∀ acc : List DRow, Sv (gdT acc) ∧ (gdT acc).length ≤ acc.length ∧ (acc ≠ [] → gdT acc ≠ []) := by
  refine snoc_indD ⟨Sv.nil, Nat.le_refl _, fun h => absurd rfl h⟩ fun acc y ih => ?_
  rw [gdT_snoc]
  have h1 := len_put ih.1 y.1 (gdV y)
  refine ⟨ih.1.put _ _, ?_, fun _ e => ?_⟩
  · rw [List.length_append]
    have := ih.2.1
    simp
    omega
  · rw [e] at h1
    by_cases h2 : (getV (gdT acc) y.1).isSome = true
    · rw [if_pos h2] at h1
      have h3 : gdT acc = [] := by simp at h1; exact h1
      rw [h3] at h2
      cases h2
    · rw [if_neg h2] at h1
      simp at h1
/-- THE INDEX OF BYTES, and the error. -/
def getDEnd (r : List DRow × List UInt8 × Int) : Tv Pl × Int := if endE r.2.1 r.2.2 ≠ 0 then ([], endE r.2.1 r.2.2) else if mayG r.1 = true then (gdL r.1, 0) else ([], 11)
def getD (b : List UInt8) : Tv Pl × Int := getDEnd (gdGo (uiX b 0) [] (uiL b 0) (uiE b 0))
theorem dui_back (x : Nat) (R : List UInt8) (hx : x < 18446744073709551616) : uiX (put x ++ R) 0 = x ∧ uiL (put x ++ R) 0 = R ∧ uiE (put x ++ R) 0 = 0 := by
  obtain ⟨h1, h2, h3⟩ := uint_back x R hx
  exact ⟨by unfold uiX; rw [if_pos rfl, h1], by unfold uiL; rw [if_pos rfl, h2], by unfold uiE; rw [if_pos rfl, h3]; rfl⟩
theorem did_back {x R : List UInt8} (h : x.length = 32) : idL (x ++ R) 0 = x ∧ fxL (x ++ R) 0 32 = R ∧ tkE (x ++ R) 0 32 = 0 := by
  have h1 : tkE (x ++ R) 0 32 = 0 := by
    unfold tkE
    rw [if_neg (by simp), if_neg (by decide), if_neg (by simp [h]; omega)]
  unfold idL fxL
  rw [if_pos h1, if_pos h1]
  refine ⟨?_, ?_, h1⟩
  · rw [List.take_append_of_le_length (by omega), List.take_of_length_le (by omega)]
  · rw [show (32 : Int).toNat = x.length by omega, List.drop_left]
theorem row_back {e : List UInt8 × Pl} (h1 : e.1.length = 32) (h2 : e.2.1.length = 32) (h3 : mayN e.2.2 = true) (R : List UInt8) :
    dgR (plB e ++ R) 0 = (e.1, e.2.1, e.2.2.toNat) ∧ dgL (plB e ++ R) 0 = R ∧ dgE (plB e ++ R) 0 = 0 := by
  obtain ⟨m, hm, hm2⟩ := mayN_nat h3
  have e1 : plB e ++ R = e.1 ++ (e.2.1 ++ (put e.2.2.toNat ++ R)) := by simp [plB]
  obtain ⟨a1, a2, a3⟩ := did_back (R := e.2.1 ++ (put e.2.2.toNat ++ R)) h1
  obtain ⟨b1, b2, b3⟩ := did_back (R := put e.2.2.toNat ++ R) h2
  obtain ⟨c1, c2, c3⟩ := dui_back e.2.2.toNat R (by omega)
  rw [e1]
  unfold dgR dgL dgE
  rw [a1, a2, a3, b1, b2, b3, c1, c2, c3]
  exact ⟨rfl, rfl, rfl⟩
theorem gdGo_back : ∀ (t : Tv Pl) (acc : List DRow) (R : List UInt8), OkT t → gdGo t.length acc (plsB t ++ R) 0 = (acc ++ t.map (fun e => (e.1, e.2.1, e.2.2.toNat)), R, 0)
  | [], acc, R, _ => by simp [gdGo, plsB]
  | e :: t, acc, R, h => by
    obtain ⟨h1, h2, h3⟩ := h e (by simp)
    obtain ⟨a1, a2, a3⟩ := row_back h1 h2 h3 (plsB t ++ R)
    have e1 : plsB (e :: t) ++ R = plB e ++ (plsB t ++ R) := by simp [plsB]
    rw [e1, List.length_cons, gdGo, if_pos rfl, a1, a2, a3, gdGo_back t _ R fun x hx => h x (by simp [hx])]
    simp
/-- WHAT IS PUT IS GOT. -/
theorem dd_get_put {t : Tv Pl} (hs : Sv t) (hok : OkT t) (hl : t.length < 18446744073709551616) : getD (ixB t) = (t, 0) := by
  obtain ⟨e1, e2, e3⟩ := dui_back t.length (plsB t) hl
  have hg := gdGo_back t [] [] hok
  rw [List.append_nil, List.nil_append] at hg
  unfold getD ixB
  rw [e1, e2, e3, hg]
  unfold getDEnd
  have hL : gdL (t.map fun e => (e.1, e.2.1, e.2.2.toNat)) = t := by
    unfold gdL
    rw [List.map_map]
    conv => rhs; rw [← List.map_id t]
    apply List.map_congr_left
    intro e he
    obtain ⟨m, hm, _⟩ := mayN_nat (hok e he).2.2
    have : ((e.2.2.toNat : Nat) : Int) = e.2.2 := by omega
    simp [this]
  have hM : mayG (t.map fun e => (e.1, e.2.1, e.2.2.toNat)) = true := by
    unfold mayG
    simp only [Bool.and_eq_true, decide_eq_true_eq]
    refine ⟨List.all_eq_true.2 fun y hy => ?_, List.pairwise_map.2 hs⟩
    obtain ⟨e, he, rfl⟩ := List.mem_map.1 hy
    obtain ⟨m, hm, hm2⟩ := mayN_nat (hok e he).2.2
    simp
    omega
  simp only
  rw [if_neg (by simp [endE]), if_pos hM, hL]
theorem dui_put {l : List UInt8} (h : uiE l 0 = 0) : put (uiX l 0) ++ uiL l 0 = l := by
  unfold uiE at h
  unfold uiX uiL
  rw [if_pos rfl] at h ⊢
  rw [if_pos rfl]
  have hp := put_rd 0 l (by omega) (by simpa using h)
  rw [hp.1, List.take_append_drop]
theorem dui_zero {l : List UInt8} {e : Int} (h : uiE l e = 0) : e = 0 := by
  unfold uiE at h
  split at h
  · assumption
  · exact h
theorem did_put {l : List UInt8} {e : Int} (h : tkE l e 32 = 0) : e = 0 ∧ idL l e ++ fxL l e 32 = l := by
  have h1 := tkE_zero h
  refine ⟨h1.1, ?_⟩
  unfold idL fxL
  rw [if_pos h, if_pos h, show (32 : Int).toNat = 32 from rfl, List.take_append_drop]
theorem row_put {l : List UInt8} {e : Int} (h : dgE l e = 0) : e = 0 ∧ (dgR l e).1 ++ (dgR l e).2.1 ++ put (dgR l e).2.2 ++ dgL l e = l := by
  unfold dgE at h
  have h1 := dui_zero h
  obtain ⟨h2, h3⟩ := did_put h1
  obtain ⟨h4, h5⟩ := did_put h2
  refine ⟨h4, ?_⟩
  unfold dgR dgL
  simp only
  rw [h1] at h ⊢
  have h6 := dui_put h
  rw [List.append_assoc, h6, List.append_assoc, h3, h5]
theorem gdGo_put : ∀ (M : Nat) (acc : List DRow) (l : List UInt8) (e : Int) (r : List DRow) (l' : List UInt8), gdGo M acc l e = (r, l', 0) → e = 0 ∧ ∃ t, r = acc ++ t ∧ t.length = M ∧ (t.map fun y => y.1 ++ y.2.1 ++ put y.2.2).flatten ++ l' = l
  | 0, acc, l, e, r, l', h => by
    simp only [gdGo, Prod.mk.injEq] at h
    obtain ⟨rfl, rfl, rfl⟩ := h
    exact ⟨rfl, [], by simp, rfl, by simp⟩
  | M + 1, acc, l, e, r, l', h => by
    by_cases he : e = 0
    · rw [gdGo, if_pos he] at h
      obtain ⟨h1, t, rfl, ht, hb⟩ := gdGo_put M _ _ _ _ _ h
      obtain ⟨h2, h3⟩ := row_put h1
      refine ⟨h2, dgR l e :: t, by simp, by simp [ht], ?_⟩
      rw [List.map_cons, List.flatten_cons, List.append_assoc, hb]
      exact h3
    · rw [gdGo, if_neg he] at h
      simp only [Prod.mk.injEq] at h
      exact absurd h.2.2 he
theorem dend_zero {l : List UInt8} {e : Int} (h : endE l e = 0) : e = 0 ∧ l = [] := by
  unfold endE at h
  split at h
  · rename_i h1; exact absurd h h1
  · rename_i h1
    refine ⟨Classical.not_not.1 h1, ?_⟩
    cases l with
    | nil => rfl
    | cons c t => simp at h
theorem gdGo_wf : ∀ (M : Nat) (acc : List DRow) (l : List UInt8) (e : Int), (∀ y ∈ acc, y.1.length = 32 ∧ y.2.1.length = 32) → ∀ y ∈ (gdGo M acc l e).1, y.1.length = 32 ∧ y.2.1.length = 32
  | 0, _, _, _, h => h
  | M + 1, acc, l, e, h => by
    by_cases he : e = 0
    · rw [gdGo, if_pos he]
      refine gdGo_wf M _ _ _ fun y hy => ?_
      rcases List.mem_append.1 hy with hy | hy
      · exact h y hy
      · simp only [List.mem_singleton] at hy
        rw [hy]
        exact ⟨idL_length _ _, idL_length _ _⟩
    · rw [gdGo, if_neg he]
      exact h
/-- WHAT IS GOT, PUT AGAIN, IS THE BYTES. -/
theorem dd_put_get {b : List UInt8} {t : Tv Pl} (h : getD b = (t, 0)) : Sv t ∧ OkT t ∧ ixB t = b := by
  unfold getD at h
  have hwf := gdGo_wf (uiX b 0) [] (uiL b 0) (uiE b 0) (by simp)
  obtain ⟨⟨r, l', e'⟩, hr⟩ : ∃ x, gdGo (uiX b 0) [] (uiL b 0) (uiE b 0) = x := ⟨_, rfl⟩
  rw [hr] at h hwf
  unfold getDEnd at h
  simp only at h hwf
  split at h
  · rename_i h1
    simp only [Prod.mk.injEq] at h
    exact absurd h.2 h1
  · rename_i h1
    have h2 := dend_zero (Classical.not_not.1 h1)
    split at h
    · rename_i hM
      simp only [Prod.mk.injEq] at h
      obtain ⟨rfl, _⟩ := h
      obtain ⟨rfl, rfl⟩ := h2
      obtain ⟨h3, t', ht, h4, h5⟩ := gdGo_put _ _ _ _ _ _ hr
      rw [List.nil_append] at ht
      subst ht
      refine ⟨gdL_srt hM, fun e he => ?_, ?_⟩
      · obtain ⟨y, hy, rfl⟩ := List.mem_map.1 he
        have h6 := hwf y hy
        refine ⟨h6.1, h6.2, ?_⟩
        unfold mayG at hM
        simp only [Bool.and_eq_true] at hM
        have := List.all_eq_true.1 hM.1 y hy
        unfold mayN
        simp at this ⊢
        omega
      · have h7 := dui_put h3
        have h8 : plsB (gdL r) = (r.map fun y => y.1 ++ y.2.1 ++ put y.2.2).flatten := by
          unfold plsB gdL
          rw [List.map_map]
          rfl
        unfold ixB
        rw [h8]
        rw [List.append_nil] at h5
        rw [h5]
        have h9 : (gdL r).length = uiX b 0 := by rw [← h4]; simp [gdL]
        rw [h9]
        exact h7
    · simp only [Prod.mk.injEq] at h
      exact absurd h.2 (by decide)
theorem getD_bad {b : List UInt8} (h : (getD b).2 ≠ 0) : (getD b).1 = [] := by
  unfold getD getDEnd at h ⊢
  split
  · rfl
  · rename_i h1
    rw [if_neg h1] at h
    split
    · rename_i h2
      rw [if_pos h2] at h
      exact absurd rfl h
    · rfl
end Go.Proofs.Ytmmibldchfmleaa

/-! Dedup: Add and Find. -/
namespace Go.Proofs.Ytmmibldchfmleaa
open Go.RowKit Go.Maps

theorem eff_alloc {P : Program} {ops : Array Oper} {Q : Exit → Act → World → Prop} {i : Nat} {o : Oper} {K : Act → World → Prop} {a : Act} {w : World} (ho : ops.toList[i]? = some o) (hgd : o.guard = none) (ty : TypeId) (hop : o.op = .alloc ty) {cs : Array Value}
    (hz : (zeroValue ty).run P w = .ok (.agg cs) w) (h : K (a.put o.dst (.pointer (some ⟨w.heap.size, 0, none⟩))) (w.alloc (.cells cs ty))) : wpOp P ops Q i K a w :=
  eff_step ho fun K' hK' => by
    rw [if_pos (by unfold Region.wanted; rw [hgd])]
    unfold Oper.wp execOp
    simp [hop, Instr.alloc, hz, Result.andThen]
    exact hK' _ _ h
def addB (t : Tv Pl) (k : List UInt8) (v : Pl) : Bool := mayN v.2 && !(getV t k).isSome
def addT (t : Tv Pl) (k : List UInt8) (v : Pl) : Tv Pl := if addB t k v = true then putV t k v else t
def IxP (w : World) (p b : Nat) (t' : Tv Pl) (v : Value) (e : Ending) (w' : World) : Prop := e = .returned v ∧ Ix w' p b t' ∧ Turned (· = b) w w'
theorem IxP.same {w w' : World} {p b : Nat} {t : Tv Pl} {v : Value} (h : Ix w p b t) (hb : Below w.heap.size w w') : IxP w p b t v (.returned v) w' := ⟨rfl, h.below hb, Turned.of_below hb⟩
theorem two_rows {w : World} {a b : Array Value} {s t : TypeId} : ((w.alloc (.cells a s)).alloc (.cells b t)).heap[w.heap.size]? = some (.cells a s (0, 0)) ∧ ((w.alloc (.cells a s)).alloc (.cells b t)).heap[w.heap.size + 1]? = some (.cells b t (0, 0)) ∧ Below w.heap.size w ((w.alloc (.cells a s)).alloc (.cells b t)) := by
  refine ⟨(Below.heap_alloc _ _ _ (by simp)).trans (heap_alloc_new w _), ?_, ((Below.refl _ _).alloc (Nat.le_refl _) _).alloc (by simp) _⟩
  have := heap_alloc_new (w.alloc (.cells a s)) (.cells b t)
  rw [World.size_alloc] at this
  exact this
set_option maxHeartbeats 4000000 in
set_option maxRecDepth 100000 in
/-- Add. -/
theorem ixadd_any {w : World} {p b : Nat} {t : Tv Pl} (h : Ix w p b t) (hl : t.length ≤ 1000000) {k : List UInt8} (hk : k.length = 32) {v : Pl} (hv : v.1.length = 32) :
    Calls Try.prog 13 #[.pointer (some ⟨p, 0, none⟩), .agg (row8 k), encP v] w (IxP w p b (addT t k v) (.bool (addB t k v))) := by
  obtain ⟨hr4, hr5, hb2⟩ := two_rows (w := w) (a := row8 k) (b := plC v) (s := 31) (t := 37)
  have hzp := zero_pl
  obtain ⟨KS, hKS⟩ : ∃ KS, KS = row8 k := ⟨_, rfl⟩
  obtain ⟨VS, hVS⟩ : ∃ VS, VS = plC v := ⟨_, rfl⟩
  obtain ⟨n, hn⟩ : ∃ n, n = v.2 := ⟨_, rfl⟩
  rw [← hKS, ← hVS] at hr4 hr5 hb2
  rw [← hKS, show encP v = .agg VS by rw [hVS]; rfl]
  have hs2 : ((w.alloc (.cells KS 31)).alloc (.cells VS 37)).heap.size = w.heap.size + 2 := by simp
  have hcn : ((w.alloc (.cells KS 31)).alloc (.cells VS 37)).cell? ⟨w.heap.size + 1, 32, none⟩ = some (.int .i64 n) := by
    rw [cell_of_cells hr5, hVS, hn]
    exact plC_n hv
  have HKS : Hid (KS = row8 k ∧ KS.size = 32 ∧ KS.all (·.oneCell') = true) := Lib.hid ⟨hKS, by rw [hKS, row8_size, hk], by rw [hKS]; exact row8_one _⟩
  have HVS : Hid (VS = plC v ∧ VS.size = 33 ∧ VS.all (·.oneCell') = true ∧ n = v.2) := Lib.hid ⟨hVS, by rw [hVS, plC_size hv], by rw [hVS]; exact plC_one _, hn⟩
  have HH := Lib.hid (And.intro h (And.intro hl (And.intro hk hv)))
  have H2 := Lib.hid (And.intro hr4 (And.intro hr5 (And.intro hb2 (And.intro (h.below hb2) hs2))))
  clear h hl hk hv hr4 hr5 hb2 hKS hVS hn hs2
  by_cases h0 : n < 0
  · have hd0 : decide (n < 0) = true := by simpa using h0
    have hB : addB t k v = false := by rw [addB, mayN, ← HVS.out.2.2.2]; simp; intro h1; omega
    have hT : addT t k v = t := by rw [addT, hB]; rfl
    rw [hB, hT]
    clear hB hT
    go_enter Try.func13, Try.ntmps13
    go_wp2
    go_ret
    exact IxP.same HH.out.1 H2.out.2.2.1
  by_cases h1 : 1023 < n
  · have hd0 : decide (n < 0) = false := by simpa using h0
    have hd1 : decide (1023 < n) = true := by simpa using h1
    have hd2 : decide (n > 1023) = true := by simpa using h1
    have hB : addB t k v = false := by rw [addB, mayN, ← HVS.out.2.2.2]; simp; intro h1; omega
    have hT : addT t k v = t := by rw [addT, hB]; rfl
    rw [hB, hT]
    clear hB hT
    go_enter Try.func13, Try.ntmps13
    go_wp2
    go_ret
    exact IxP.same HH.out.1 H2.out.2.2.1
  have hd0 : decide (n < 0) = false := by simpa using h0
  have hd1 : decide (1023 < n) = false := by simpa using h1
  have hd2 : decide (n > 1023) = false := by simpa using h1
  have hmay : mayN v.2 = true := by rw [mayN, ← HVS.out.2.2.2]; simp; omega
  have hB : addB t k v = !(getV t k).isSome := by rw [addB, hmay]; rfl
  obtain ⟨is, his⟩ : ∃ is, is = (getV t k).isSome := ⟨_, rfl⟩
  obtain ⟨fv, hfv⟩ : ∃ fv, fv = (getV t k).getD zPl := ⟨_, rfl⟩
  obtain ⟨FS, hFS⟩ : ∃ FS, FS = plC fv := ⟨_, rfl⟩
  have HB : Hid (addB t k v = !is ∧ is = (getV t k).isSome ∧ FS = plC fv ∧ fv = (getV t k).getD zPl ∧ FS.size = 33 ∧ FS.all (·.oneCell') = true) := Lib.hid ⟨by rw [his]; exact hB, his, hFS, hfv, by rw [hFS, plC_size (by rw [hfv]; exact HH.out.1.at_val)], by rw [hFS]; exact plC_one _⟩
  clear h0 h1 hmay hB his hfv hFS
  go_enter Try.func13, Try.ntmps13
  go_upto_region 3 with fail
  generalize (w.alloc (.cells KS 31)).alloc (.cells VS 37) = w2 at H2 hcn ⊢
  clear hd0 hd1 hd2 hcn
  obtain ⟨q, hq⟩ : ∃ q, q = w.heap.size := ⟨_, rfl⟩
  rw [← hq] at H2 ⊢
  have HQ := Lib.hid hq
  clear hq
  have hC : (fun W : World => Ix W p b t ∧ W.heap[q]? = some (.cells KS 31 (0, 0)) ∧ W.heap[q + 1]? = some (.cells VS 37 (0, 0))) w2.drew := ⟨H2.out.2.2.2.1.below ⟨rfl, rfl, rfl, Nat.le_refl _, fun _ _ => rfl⟩, H2.out.1, H2.out.2.1⟩
  have HC := Lib.hid hC
  refine wp_region_plan (fun W : World => Ix W p b t ∧ W.heap[q]? = some (.cells KS 31 (0, 0)) ∧ W.heap[q + 1]? = some (.cells VS 37 (0, 0))) [([0, 1, 2, 3, 4, 5, 6, 7, 8], 9), ([], 10)] [11] (by kernel_rfl) (by kernel_rfl) (fun _ _ d _ _ h => by cases d <;> exact h) hC ?_
  refine plan_eff ?_
  refine seg_read ?v1 (by rfl) (by rfl) ?h1 ?_
  case h1 => intro W hW; go_simp; with_reducible rfl
  try simp only [Act.put, List.setIfInBounds_toArray, List.set_cons_zero, List.set_cons_succ]
  refine seg_read ?v2 (by rfl) (by rfl) ?h2 ?_
  case h2 => intro W hW; go_simp; with_reducible rfl
  try simp only [Act.put, List.setIfInBounds_toArray, List.set_cons_zero, List.set_cons_succ]
  refine seg_read ?v3 (by rfl) (by rfl) ?h3 ?_
  case h3 => intro W hW; go_simp; with_reducible rfl
  try simp only [Act.put, List.setIfInBounds_toArray, List.set_cons_zero, List.set_cons_succ]
  refine seg_read ?v4 (by rfl) (by rfl) ?h4 ?_
  case h4 => intro W hW; have hcb := hW.1.cell; go_simp; with_reducible rfl
  try simp only [Act.put, List.setIfInBounds_toArray, List.set_cons_zero, List.set_cons_succ]
  refine seg_read (.agg KS) (by rfl) (by rfl) (fun W hW => exec_load_st 31 (.tmp 4) (by rfl) q (by rfl) KS (0, 0) hW.2.1 _ Try.underlying31 (by rfl) (by rw [HKS.out.2.1]; exact id_info)) ?_
  try simp only [Act.put, List.setIfInBounds_toArray, List.set_cons_zero, List.set_cons_succ]
  refine seg_read ?v5 (by rfl) (by rfl) ?h5 ?_
  case h5 => intro W hW; have hlk := (hW.1.map.look Try.underlying64 (zero_pl W) HH.out.2.2.1).1; rw [← HKS.out.1, ← HB.out.2.1, show (getV t k).elim (encP zPl) encP = .agg FS by rw [HB.out.2.2.1, HB.out.2.2.2.1]; cases getV t k <;> rfl] at hlk; go_simp; with_reducible rfl
  try simp only [Act.put, List.setIfInBounds_toArray, List.set_cons_zero, List.set_cons_succ]
  refine seg_read ?v6 (by rfl) (by rfl) ?h6 ?_
  case h6 => intro W hW; go_simp; with_reducible rfl
  try simp only [Act.put, List.setIfInBounds_toArray, List.set_cons_zero, List.set_cons_succ]
  refine seg_read ?v7 (by rfl) (by rfl) ?h7 ?_
  case h7 => intro W hW; go_simp; with_reducible rfl
  try simp only [Act.put, List.setIfInBounds_toArray, List.set_cons_zero, List.set_cons_succ]
  refine seg_read ?v8 (by rfl) (by rfl) ?h8 ?_
  case h8 => intro W hW; go_simp; with_reducible rfl
  try simp only [Act.put, List.setIfInBounds_toArray, List.set_cons_zero, List.set_cons_succ]
  refine seg_nil ?_
  refine eff_alloc (by rfl) (by rfl) 37 (by rfl) (hzp _) ?_
  have hA : (fun W : World => Ix W p b t ∧ W.heap[q]? = some (.cells KS 31 (0, 0)) ∧ W.heap[q + 1]? = some (.cells VS 37 (0, 0))) (w2.drew.alloc (.cells (plC zPl) 37)) := by
    have hbA : Below w2.drew.heap.size w2.drew (w2.drew.alloc (.cells (plC zPl) 37)) := (Below.refl _ _).alloc (Nat.le_refl _) _
    exact ⟨hC.1.below hbA, (hbA.block _ (lt_of_cells hC.2.1)).trans hC.2.1, (hbA.block _ (lt_of_cells hC.2.2)).trans hC.2.2⟩
  refine ⟨_, hA, fun _ h => h, ?_⟩
  try simp only [Act.put, List.setIfInBounds_toArray, List.set_cons_zero, List.set_cons_succ]
  refine plan_eff ?_
  refine seg_nil ?_
  refine eff_store_row (by rfl) (by rfl) 37 (.tmp 7) (.tmp 28) (by rfl) w2.drew.heap.size FS (by rfl) (by rfl) 37 (plC zPl) (heap_alloc_new _ _) (by rw [HB.out.2.2.2.2.1]; exact pl_info) (by rw [HB.out.2.2.2.2.1, plC_size zPl_len]) HB.out.2.2.2.2.2 ?_
  have hS3 : (fun W : World => Ix W p b t ∧ W.heap[q]? = some (.cells KS 31 (0, 0)) ∧ W.heap[q + 1]? = some (.cells VS 37 (0, 0))) ((w2.drew.alloc (.cells (plC zPl) 37)).setRow w2.drew.heap.size FS) := by
    have hbS : Below w2.drew.heap.size w2.drew ((w2.drew.alloc (.cells (plC zPl) 37)).setRow w2.drew.heap.size FS) := below_setRow ((Below.refl _ _).alloc (Nat.le_refl _) _) (Nat.le_refl _) _
    exact ⟨hC.1.below hbS, (hbS.block _ (lt_of_cells hC.2.1)).trans hC.2.1, (hbS.block _ (lt_of_cells hC.2.2)).trans hC.2.2⟩
  refine ⟨_, hS3, fun _ h => h, ?_⟩
  try simp only [Act.put]
  refine plan_last ?_
  refine seg_read ?v9 (by rfl) (by rfl) ?h9 ?_
  case h9 => intro W hW; go_simp; with_reducible rfl
  try simp only [Act.put, List.setIfInBounds_toArray, List.set_cons_zero, List.set_cons_succ]
  refine seg_nil ?_
  have HW : Hid (Ix (((w2.drew).alloc (.cells (plC zPl) 37)).setRow w2.drew.heap.size FS) p b t ∧ (((w2.drew).alloc (.cells (plC zPl) 37)).setRow w2.drew.heap.size FS).heap[q]? = some (.cells KS 31 (0, 0)) ∧ (((w2.drew).alloc (.cells (plC zPl) 37)).setRow w2.drew.heap.size FS).heap[q + 1]? = some (.cells VS 37 (0, 0)) ∧ Below w.heap.size w (((w2.drew).alloc (.cells (plC zPl) 37)).setRow w2.drew.heap.size FS)) := Lib.hid ⟨hS3.1, hS3.2.1, hS3.2.2, by
    have hb : Below w.heap.size w w2 := by rw [← HQ.out]; exact H2.out.2.2.1
    refine below_setRow ((below_drew hb).alloc ?_ _) ?_ _
    · exact hb.size
    · exact hb.size⟩
  clear hS3 hC HC H2
  generalize ((w2.drew).alloc (.cells (plC zPl) 37)).setRow w2.drew.heap.size FS = w3 at HW ⊢
  by_cases hi : is = true
  · subst hi
    have e1 : addB t k v = false := by rw [HB.out.1]; rfl
    have e2 : addT t k v = t := by rw [addT, e1]; rfl
    have HE := Lib.hid (And.intro e1 e2)
    clear e1 e2
    go_wp2
    go_ret
    exact ⟨by rw [HE.out.1]; rfl, by rw [HE.out.2]; exact HW.out.1, Turned.of_below HW.out.2.2.2⟩
  · obtain rfl : is = false := by simpa using hi
    have e1 : addB t k v = true := by rw [HB.out.1]; rfl
    have e2 : addT t k v = putV t k v := by rw [addT, e1]; rfl
    have HE := Lib.hid (And.intro e1 e2)
    clear e1 e2 hi
    have hcb := HW.out.1.cell
    have hme : ∀ W, (binOp BinOp.eql 64 (.map (some b)) (.map none)).run Try.prog W = .ok (.bool false) W := fun W => by kernel_rfl
    go_upto_region 8 with fail
    have hC : (fun W : World => Ix W p b t ∧ W.heap[q]? = some (.cells KS 31 (0, 0)) ∧ W.heap[q + 1]? = some (.cells VS 37 (0, 0))) w3.drew := ⟨HW.out.1.below ⟨rfl, rfl, rfl, Nat.le_refl _, fun _ _ => rfl⟩, HW.out.2.1, HW.out.2.2.1⟩
    obtain ⟨w5, hrun, hkv, hmt⟩ := hC.1.map.put Try.underlying64 HH.out.2.2.1 (by have := HH.out.2.1; omega) v
    rw [← HKS.out.1, show encP v = .agg VS by rw [HVS.out.1]; rfl] at hrun
    have HF : Hid (Ix w5 p b (putV t k v) ∧ Turned (· = b) w w5) := Lib.hid (by
      have ht : Turned (· = b) w3.drew w5 := mapTurned_turnedk hmt
      refine ⟨⟨(ht.block _ (lt_of_cells hC.1.box) hC.1.ne).trans hC.1.box, hkv, fun e he => ?_⟩, (Turned.of_below (below_drew HW.out.2.2.2)).trans ht fun _ _ h => h⟩
      unfold putV at he
      rcases List.mem_append.1 he with he | he
      · rcases List.mem_append.1 he with he | he
        · exact HH.out.1.val e (List.mem_filter.1 he).1
        · simp only [List.mem_singleton] at he
          rw [he]
          exact HH.out.2.2.2
      · exact HH.out.1.val e (List.mem_filter.1 he).1)
    have hB8 : w5.heap[q]? = some (.cells KS 31 (0, 0)) ∧ w5.heap[q + 1]? = some (.cells VS 37 (0, 0)) := by
      have ht : Turned (· = b) w3.drew w5 := mapTurned_turnedk hmt
      have hbw := HH.out.1.map.lt
      have hq2 := HQ.out
      exact ⟨(ht.block _ (lt_of_cells hC.2.1) (by show ¬ q = b; omega)).trans hC.2.1, (ht.block _ (lt_of_cells hC.2.2) (by show ¬ q + 1 = b; omega)).trans hC.2.2⟩
    clear hkv hmt hcb
    refine wp_region_plan (fun W : World => (∃ t', Ix W p b t') ∧ W.heap[q]? = some (.cells KS 31 (0, 0)) ∧ W.heap[q + 1]? = some (.cells VS 37 (0, 0))) [([0, 1, 2, 3, 4, 5], 6)] [] (by kernel_rfl) (by kernel_rfl) (fun _ _ d _ _ h => by cases d <;> exact h) ⟨⟨_, hC.1⟩, hC.2.1, hC.2.2⟩ ?_
    refine plan_eff ?_
    refine seg_read ?v10 (by rfl) (by rfl) ?h10 ?_
    case h10 => intro W hW; go_simp; with_reducible rfl
    try simp only [Act.put, List.setIfInBounds_toArray, List.set_cons_zero, List.set_cons_succ]
    refine seg_read ?v11 (by rfl) (by rfl) ?h11 ?_
    case h11 => intro W hW; go_simp; with_reducible rfl
    try simp only [Act.put, List.setIfInBounds_toArray, List.set_cons_zero, List.set_cons_succ]
    refine seg_read ?v12 (by rfl) (by rfl) ?h12 ?_
    case h12 => intro W hW; go_simp; with_reducible rfl
    try simp only [Act.put, List.setIfInBounds_toArray, List.set_cons_zero, List.set_cons_succ]
    refine seg_read ?v13 (by rfl) (by rfl) ?h13 ?_
    case h13 => intro W hW; obtain ⟨⟨t', hx⟩, h1, h2⟩ := hW; have hcb := hx.cell; go_simp; with_reducible rfl
    try simp only [Act.put, List.setIfInBounds_toArray, List.set_cons_zero, List.set_cons_succ]
    refine seg_read (.agg KS) (by rfl) (by rfl) (fun W hW => exec_load_st 31 (.tmp 4) (by rfl) q (by rfl) KS (0, 0) hW.2.1 _ Try.underlying31 (by rfl) (by rw [HKS.out.2.1]; exact id_info)) ?_
    try simp only [Act.put, List.setIfInBounds_toArray, List.set_cons_zero, List.set_cons_succ]
    refine seg_read (.agg VS) (by rfl) (by rfl) (fun W hW => exec_load_st 37 (.tmp 5) (by rfl) (q + 1) (by rfl) VS (0, 0) hW.2.2 _ Try.underlying37 (by rfl) (by rw [HVS.out.2.1]; exact pl_info)) ?_
    try simp only [Act.put, List.setIfInBounds_toArray, List.set_cons_zero, List.set_cons_succ]
    refine seg_nil ?_
    refine eff_step (by rfl) (fun K hK => ?_)
    go_simp
    refine hK _ _ ⟨_, ⟨⟨_, HF.out.1⟩, hB8.1, hB8.2⟩, fun _ h => h, ?_⟩
    clear hK K
    try simp only [Act.put, List.setIfInBounds_toArray, List.set_cons_zero, List.set_cons_succ]
    refine plan_last ?_
    refine seg_nil ?_
    go_wp2
    go_ret
    exact ⟨by rw [HE.out.1]; rfl, by rw [HE.out.2]; exact HF.out.1, HF.out.2⟩
end Go.Proofs.Ytmmibldchfmleaa

/-! Dedup: Find. -/
namespace Go.Proofs.Ytmmibldchfmleaa
open Go.RowKit Go.Maps
set_option maxHeartbeats 4000000 in
set_option maxRecDepth 100000 in
/-- Find. -/
theorem ixfind_any {w : World} {p b : Nat} {t : Tv Pl} (h : Ix w p b t) {k : List UInt8} (hk : k.length = 32) :
    Calls Try.prog 15 #[.pointer (some ⟨p, 0, none⟩), .agg (row8 k)] w fun e w' => e = .returned (.tuple #[encP ((getV t k).getD zPl), .bool (getV t k).isSome]) ∧ Below w.heap.size w w' := by
  obtain ⟨ZS, hZS⟩ : ∃ ZS, ZS = plC zPl := ⟨_, rfl⟩
  have hzp : ∀ W, (zeroValue 37).run Try.prog W = .ok (.agg ZS) W := fun W => by rw [hZS]; exact zero_pl W
  obtain ⟨KS, hKS⟩ : ∃ KS, KS = row8 k := ⟨_, rfl⟩
  obtain ⟨hr4, hr5, hb2⟩ := two_rows (w := w) (a := KS) (b := ZS) (s := 31) (t := 37)
  rw [← hKS]
  have HKS : Hid (KS = row8 k ∧ KS.size = 32 ∧ KS.all (·.oneCell') = true) := Lib.hid ⟨hKS, by rw [hKS, row8_size, hk], by rw [hKS]; exact row8_one _⟩
  have HZS : Hid (ZS = plC zPl ∧ ZS.size = 33 ∧ ZS.all (·.oneCell') = true) := Lib.hid ⟨hZS, by rw [hZS, plC_size zPl_len], by rw [hZS]; exact plC_one _⟩
  have HH := Lib.hid (And.intro h (And.intro hk h.map.lt))
  have H2 := Lib.hid (And.intro hr4 (And.intro hr5 (And.intro hb2 (h.below hb2))))
  obtain ⟨is, his⟩ : ∃ is, is = (getV t k).isSome := ⟨_, rfl⟩
  obtain ⟨fv, hfv⟩ : ∃ fv, fv = (getV t k).getD zPl := ⟨_, rfl⟩
  obtain ⟨FS, hFS⟩ : ∃ FS, FS = plC fv := ⟨_, rfl⟩
  have HB : Hid (is = (getV t k).isSome ∧ FS = plC fv ∧ fv = (getV t k).getD zPl ∧ FS.size = 33 ∧ FS.all (·.oneCell') = true) := Lib.hid ⟨his, hFS, hfv, by rw [hFS, plC_size (by rw [hfv]; exact h.at_val)], by rw [hFS]; exact plC_one _⟩
  rw [← his, ← hfv, show encP fv = .agg FS by rw [hFS]; rfl]
  clear h hk hr4 hr5 hb2 hKS hZS his hfv hFS
  go_enter Try.func15, Try.ntmps15
  go_upto_region 3 with fail
  generalize (w.alloc (.cells KS 31)).alloc (.cells ZS 37) = w2 at H2 ⊢
  obtain ⟨q, hq⟩ : ∃ q, q = w.heap.size := ⟨_, rfl⟩
  rw [← hq] at H2 ⊢
  have HQ := Lib.hid hq
  clear hq
  have hC : (fun W : World => Ix W p b t ∧ W.heap[q]? = some (.cells KS 31 (0, 0)) ∧ W.heap[q + 1]? = some (.cells ZS 37 (0, 0))) w2.drew := ⟨H2.out.2.2.2.below ⟨rfl, rfl, rfl, Nat.le_refl _, fun _ _ => rfl⟩, H2.out.1, H2.out.2.1⟩
  refine wp_region_plan (fun W : World => Ix W p b t ∧ W.heap[q]? = some (.cells KS 31 (0, 0)) ∧ W.heap[q + 1]? = some (.cells ZS 37 (0, 0))) [([0, 1, 2, 3, 4, 5, 6, 7, 8], 9), ([], 10)] [11] (by kernel_rfl) (by kernel_rfl) (fun _ _ d _ _ h => by cases d <;> exact h) hC ?_
  refine plan_eff ?_
  refine seg_read ?v14 (by rfl) (by rfl) ?h14 ?_
  case h14 => intro W hW; go_simp; with_reducible rfl
  try simp only [Act.put, List.setIfInBounds_toArray, List.set_cons_zero, List.set_cons_succ]
  refine seg_read ?v15 (by rfl) (by rfl) ?h15 ?_
  case h15 => intro W hW; go_simp; with_reducible rfl
  try simp only [Act.put, List.setIfInBounds_toArray, List.set_cons_zero, List.set_cons_succ]
  refine seg_read ?v16 (by rfl) (by rfl) ?h16 ?_
  case h16 => intro W hW; go_simp; with_reducible rfl
  try simp only [Act.put, List.setIfInBounds_toArray, List.set_cons_zero, List.set_cons_succ]
  refine seg_read ?v17 (by rfl) (by rfl) ?h17 ?_
  case h17 => intro W hW; have hcb := hW.1.cell; go_simp; with_reducible rfl
  try simp only [Act.put, List.setIfInBounds_toArray, List.set_cons_zero, List.set_cons_succ]
  refine seg_read (.agg KS) (by rfl) (by rfl) (fun W hW => exec_load_st 31 (.tmp 3) (by rfl) q (by rfl) KS (0, 0) hW.2.1 _ Try.underlying31 (by rfl) (by rw [HKS.out.2.1]; exact id_info)) ?_
  try simp only [Act.put, List.setIfInBounds_toArray, List.set_cons_zero, List.set_cons_succ]
  refine seg_read ?v18 (by rfl) (by rfl) ?h18 ?_
  case h18 => intro W hW; have hlk := (hW.1.map.look Try.underlying64 (zero_pl W) HH.out.2.1).1; rw [← HKS.out.1, ← HB.out.1, show (getV t k).elim (encP zPl) encP = .agg FS by rw [HB.out.2.1, HB.out.2.2.1]; cases getV t k <;> rfl] at hlk; go_simp; with_reducible rfl
  try simp only [Act.put, List.setIfInBounds_toArray, List.set_cons_zero, List.set_cons_succ]
  refine seg_read ?v19 (by rfl) (by rfl) ?h19 ?_
  case h19 => intro W hW; go_simp; with_reducible rfl
  try simp only [Act.put, List.setIfInBounds_toArray, List.set_cons_zero, List.set_cons_succ]
  refine seg_read ?v20 (by rfl) (by rfl) ?h20 ?_
  case h20 => intro W hW; go_simp; with_reducible rfl
  try simp only [Act.put, List.setIfInBounds_toArray, List.set_cons_zero, List.set_cons_succ]
  refine seg_read ?v21 (by rfl) (by rfl) ?h21 ?_
  case h21 => intro W hW; go_simp; with_reducible rfl
  try simp only [Act.put, List.setIfInBounds_toArray, List.set_cons_zero, List.set_cons_succ]
  refine seg_nil ?_
  refine eff_alloc (by rfl) (by rfl) 37 (by rfl) (hzp _) ?_
  have hA : (fun W : World => Ix W p b t ∧ W.heap[q]? = some (.cells KS 31 (0, 0)) ∧ W.heap[q + 1]? = some (.cells ZS 37 (0, 0))) (w2.drew.alloc (.cells ZS 37)) := by
    have hbA : Below w2.drew.heap.size w2.drew (w2.drew.alloc (.cells ZS 37)) := (Below.refl _ _).alloc (Nat.le_refl _) _
    exact ⟨hC.1.below hbA, (hbA.block _ (lt_of_cells hC.2.1)).trans hC.2.1, (hbA.block _ (lt_of_cells hC.2.2)).trans hC.2.2⟩
  refine ⟨_, hA, fun _ h => h, ?_⟩
  try simp only [Act.put, List.setIfInBounds_toArray, List.set_cons_zero, List.set_cons_succ]
  refine plan_eff ?_
  refine seg_nil ?_
  refine eff_store_row (by rfl) (by rfl) 37 (.tmp 6) (.tmp 18) (by rfl) w2.drew.heap.size FS (by rfl) (by rfl) 37 ZS (heap_alloc_new _ _) (by rw [HB.out.2.2.2.1]; exact pl_info) (by rw [HB.out.2.2.2.1, HZS.out.2.1]) HB.out.2.2.2.2 ?_
  have hS3 : (fun W : World => Ix W p b t ∧ W.heap[q]? = some (.cells KS 31 (0, 0)) ∧ W.heap[q + 1]? = some (.cells ZS 37 (0, 0))) ((w2.drew.alloc (.cells ZS 37)).setRow w2.drew.heap.size FS) := by
    have hbS : Below w2.drew.heap.size w2.drew ((w2.drew.alloc (.cells ZS 37)).setRow w2.drew.heap.size FS) := below_setRow ((Below.refl _ _).alloc (Nat.le_refl _) _) (Nat.le_refl _) _
    exact ⟨hC.1.below hbS, (hbS.block _ (lt_of_cells hC.2.1)).trans hC.2.1, (hbS.block _ (lt_of_cells hC.2.2)).trans hC.2.2⟩
  refine ⟨_, hS3, fun _ h => h, ?_⟩
  try simp only [Act.put]
  refine plan_last ?_
  refine seg_read ?v22 (by rfl) (by rfl) ?h22 ?_
  case h22 => intro W hW; go_simp; with_reducible rfl
  try simp only [Act.put, List.setIfInBounds_toArray, List.set_cons_zero, List.set_cons_succ]
  refine seg_nil ?_
  have HW : Hid (((w2.drew.alloc (.cells ZS 37)).setRow w2.drew.heap.size FS).heap[w2.drew.heap.size]? = some (.cells FS 37 (0, 0)) ∧ ((w2.drew.alloc (.cells ZS 37)).setRow w2.drew.heap.size FS).heap[q + 1]? = some (.cells ZS 37 (0, 0)) ∧ Below q w ((w2.drew.alloc (.cells ZS 37)).setRow w2.drew.heap.size FS)) := Lib.hid
    ⟨setRow_at (heap_alloc_new _ _), hS3.2.2, below_setRow ((below_drew H2.out.2.2.1).alloc (by rw [HQ.out]; exact H2.out.2.2.1.size) _) (by rw [HQ.out]; exact H2.out.2.2.1.size) _⟩
  clear hS3 hC H2 hzp
  generalize (w2.drew.alloc (.cells ZS 37)).setRow w2.drew.heap.size FS = w3 at HW ⊢
  generalize w2.drew.heap.size = q6 at HW ⊢
  try rw [show w2.heap.size = q6 from rfl]
  go_wp2_with (first
    | (refine wpList_load_row (by rfl) 37 (.tmp 6) (by rfl) q6 (by rfl) 37 FS (0, 0) _ HW.out.1 Try.underlying37 (by rfl) (by rw [HB.out.2.2.2.1]; exact pl_info) ?_)
    | (refine wpList_store_row (by rfl) 37 (.tmp 4) (.tmp 20) (by rfl) (q + 1) FS (by rfl) (by rfl) 37 ZS HW.out.2.1 (by rw [HB.out.2.2.2.1]; exact pl_info) (by rw [HB.out.2.2.2.1, HZS.out.2.1]) HB.out.2.2.2.2 ?_))
  refine bodyPost_ret (results_ct rfl _ _ ⟨q + 1, 0, none⟩ (.agg FS) (.bool is) rfl rfl (run_loadVar_row _ _ _ _ _ _ _ (setRow_at HW.out.2.1) Try.underlying37 rfl (by rw [HB.out.2.2.2.1]; exact pl_info))) rfl ?_
  exact ⟨rfl, by rw [← HQ.out]; exact below_setRow HW.out.2.2 (by omega) _⟩
end Go.Proofs.Ytmmibldchfmleaa

/-! A range over a function whose iterator makes memory of its own and hands out what lies in it: what the iterator promises (Iter), and the law for the loop. -/
namespace Go.Proofs.Ytmmibldchfmleaa
open Go.RowKit

/-- A step that turns blocks of D alone, and such from B on as are no cells. -/
structure Steps (B : Nat) (D : Nat → Prop) (W W' : World) : Prop where
  os : W'.os = W.os
  tape : W'.tape = W.tape
  output : W'.output = W.output
  size : W.heap.size ≤ W'.heap.size
  block : ∀ b, b < W.heap.size → ¬ D b → (b < B ∨ ∃ o : Obj, W.heap[b]? = some o ∧ o.isCells = true) → W'.heap[b]? = W.heap[b]?
theorem Steps.of_turned {B : Nat} {D : Nat → Prop} {W W' : World} (h : Turned D W W') : Steps B D W W' := ⟨h.os, h.tape, h.output, h.size, fun b hb hd _ => h.block b hb hd⟩
theorem Steps.of_below {B : Nat} {D : Nat → Prop} {W W' : World} (h : Below W.heap.size W W') : Steps B D W W' := ⟨h.os, h.tape, h.output, h.size, fun b hb _ _ => h.block b hb⟩
theorem Steps.lower {B B' : Nat} {D : Nat → Prop} {W W' : World} (h : Steps B' D W W') (hB : B ≤ B') : Steps B D W W' :=
  ⟨h.os, h.tape, h.output, h.size, fun b hb hd hc => h.block b hb hd (hc.imp (fun h => by omega) id)⟩
theorem Steps.putObj {B : Nat} {D : Nat → Prop} {W : World} {l : Nat} {o : Obj} (o' : Obj) (hB : B ≤ l) (hl : W.heap[l]? = some o) (ho : o.isCells = false) : Steps B D W (W.putObj l o') :=
  ⟨rfl, rfl, rfl, by simp, fun b _ _ hc => World.putObj_heap_other (by
    rintro rfl
    rcases hc with hc | ⟨o2, h2, h3⟩
    · omega
    · rw [hl] at h2
      cases h2
      rw [ho] at h3
      cases h3)⟩
/-- A cells' block that is none of D's stays. -/
theorem Steps.cells {B : Nat} {D : Nat → Prop} {W W' : World} (h : Steps B D W W') {b : Nat} {cs : Array Value} {t : TypeId} {f : Nat × Nat} (hb : W.heap[b]? = some (.cells cs t f)) (hd : ¬ D b) : W'.heap[b]? = some (.cells cs t f) :=
  (h.block b (Array.getElem?_eq_some_iff.1 hb).1 hd (.inr ⟨_, hb, rfl⟩)).trans hb
theorem Steps.boxed {B : Nat} {D : Nat → Prop} {W W' : World} (h : Steps B D W W') {b : Nat} {v : Value} {t : TypeId} (hb : Boxed W b t v) (hd : ¬ D b) : Boxed W' b t v := h.cells hb hd
def Bounds (B : Nat) (D : Nat → Prop) (W : World) : Prop := ∀ b, D b → B ≤ b ∧ b < W.heap.size
theorem Bounds.none_ (B : Nat) (W : World) : Bounds B (fun _ => False) W := fun _ h => h.elim
theorem Bounds.grow {B : Nat} {D : Nat → Prop} {W W' : World} (h : Bounds B D W) (hs : W.heap.size ≤ W'.heap.size) : Bounds B D W' := fun b hb => ⟨(h b hb).1, Nat.lt_of_lt_of_le (h b hb).2 hs⟩
theorem Bounds.not {B b : Nat} {D : Nat → Prop} {W : World} (h : Bounds B D W) (hb : b < B) : ¬ D b := fun hd => by
  have := (h b hd).1
  omega
theorem Steps.below {B n0 : Nat} {D : Nat → Prop} {w0 W W' : World} (h : Steps B D W W') (hb : Below n0 w0 W) (hB : Bounds B D W) (h0 : n0 ≤ w0.heap.size) (h1 : n0 ≤ B) : Below n0 w0 W' :=
  hb.trans ⟨h.os, h.tape, h.output, h.size, fun k hk => h.block k (by have := hb.size; omega) (hB.not (by omega)) (.inl (by omega))⟩
/-- What does not mind the other's steps. -/
def Still {σ : Type} (B : Nat) (J : (Nat → Prop) → σ → World → Prop) : Prop :=
  ∀ (D D' : Nat → Prop) (s : σ) (W W' : World), Bounds B D W → J D s W → Steps B D W W' → (∀ b, D' b → D b ∨ (W.heap.size ≤ b ∧ b < W'.heap.size)) → J D' s W'
theorem still_false {σ : Type} (B : Nat) : Still B (fun _ (_ : σ) _ => False) := fun _ _ _ _ _ _ h _ _ => h
/-- What a round keeps: the iterator's blocks, those of K, and whatever from B on is no cells. -/
structure Kept (B : Nat) (D K : Nat → Prop) (W W' : World) : Prop where
  turned : Turned (fun b => ¬ (D b ∨ K b)) W W'
  keeps : KeepsFrom B W W'
theorem Kept.refl (B : Nat) (D K : Nat → Prop) (W : World) : Kept B D K W W := ⟨Turned.refl _ _, KeepsFrom.refl _ _⟩
theorem Kept.trans {B : Nat} {D K : Nat → Prop} {X Y Z : World} (h : Kept B D K X Y) (k : Kept B D K Y Z) : Kept B D K X Z := ⟨h.turned.trans k.turned fun _ _ h => h, h.keeps.trans k.keeps⟩
theorem Kept.raise {B B' : Nat} {D K : Nat → Prop} {W W' : World} (h : Kept B D K W W') (hB : B ≤ B') : Kept B' D K W W' := ⟨h.turned, ⟨h.keeps.size, fun k o hk => h.keeps.same k o (by omega)⟩⟩
theorem Kept.of_below {B : Nat} {D K : Nat → Prop} {W W' : World} (h : Below W.heap.size W W') : Kept B D K W W' :=
  ⟨Turned.of_below h, ⟨h.size, fun k _ _ hk _ => (h.block k (Array.getElem?_eq_some_iff.1 hk).1).trans hk⟩⟩
/-- One old block, of cells, which is none of the iterator's. -/
theorem Kept.of_gr {B : Nat} {D K : Nat → Prop} {W W' : World} {row : Option Nat} (h : W.grownBy W' row) (hr : ∀ g, row = some g → ¬ D g ∧ ¬ K g ∧ ∃ cs t f, W.heap[g]? = some (.cells cs t f)) : Kept B D K W W' :=
  ⟨Turned.of_gr h fun g e => by
      have := hr g e
      rintro (h1 | h1)
      · exact this.1 h1
      · exact this.2.1 h1,
   ⟨h.size, fun k o _ hk ho => (h.block k (Array.getElem?_eq_some_iff.1 hk).1 (fun e => by
      obtain ⟨_, _, cs, t, f, hc⟩ := hr k e.symm
      rw [hk] at hc
      cases hc
      cases ho)).trans hk⟩⟩
theorem Kept.of_turned {B q : Nat} {D K : Nat → Prop} {W W' : World} (h : Turned (· = q) W W') {cs : Array Value} {t : TypeId} {f : Nat × Nat} (hc : W.heap[q]? = some (.cells cs t f)) (hd : ¬ D q) (hk : ¬ K q) : Kept B D K W W' :=
  ⟨h.mono fun b _ e => by
      subst e
      exact fun hn => hn.elim hd hk,
   ⟨h.size, fun k o _ hk2 ho => (h.block k (Array.getElem?_eq_some_iff.1 hk2).1 (fun e => by
      rw [e, hc] at hk2
      cases hk2
      cases ho)).trans hk2⟩⟩
theorem Kept.inner {B B' : Nat} {D D' K K' : Nat → Prop} {W W' : World} (h : Kept B D K W W') (hB : B ≤ B') (hD : ∀ b, D' b → D b) (hK : ∀ b, K' b → K b ∨ D b) : Kept B' D' K' W W' :=
  ⟨h.turned.mono fun b _ hn hh => hn (by
      rcases hh with hh | hh
      · exact .inl (hD b hh)
      · exact (hK b hh).symm), (h.raise hB).keeps⟩
theorem Kept.putObj {B : Nat} {D K : Nat → Prop} {W : World} {l : Nat} (o' : Obj) (hB : l < B) (hd : ¬ D l) (hk : ¬ K l) : Kept B D K W (W.putObj l o') :=
  ⟨⟨rfl, rfl, rfl, by simp, fun b _ hb => World.putObj_heap_other (by
      rintro rfl
      exact hb (fun h => h.elim hd hk))⟩,
   ⟨by simp, fun _ _ _ hk _ => (World.putObj_heap_other (by omega)).trans hk⟩⟩
theorem RoundIn.wide {m m' : Nat} {P : Program} {l : Nat} {f : FuncId} {tmps : Array Value} {assign body : Code} {w : World} {R : Ending → World → Prop} (h : RoundIn Fence.wide m P l f tmps assign body w R) : RoundIn Fence.wide m' P l f tmps assign body w R :=
  ⟨h.1, fun c cs _ => h.2 c cs (room_wide _)⟩

theorem RoundIn.wideIn {m m' : Nat} (l' : Nat) {P : Program} {l : Nat} {f : FuncId} {tmps : Array Value} {assign body : Code} {w : World} {R : Ending → World → Prop} (h : RoundIn Fence.wide m P l f tmps assign body w R) : RoundIn (Fence.wide.inRound l') m' P l f tmps assign body w R :=
  (RoundIn.wide h : RoundIn Fence.wide m' P l f tmps assign body w R)

/-- THE ITERATOR's PROMISE. X: what is known of what has come; K: blocks that rounds must leave alone. -/
def Iter {α : Type} (P : Program) (g : Nat) (lb : Array Value) (encs : α → Array Value) (K : Nat → Prop) (X : (Nat → Prop) → List α → World → Prop) (S : List α → Prop) (w : World) : Prop :=
  (∀ D s W W', X D s W → Turned (fun b => ¬ (D b ∨ K b)) W W' → X D s W') ∧
  ∀ (l : Nat) (J Jx : (Nat → Prop) → List α → World → Prop) (W : World), Below w.heap.size w W → Still W.heap.size J → Still W.heap.size Jx →
    (∀ D pre x W1, Bounds W.heap.size D W1 → J D pre W1 → X D (pre ++ [x]) W1 → YieldAt Fence.wide 1 P l (encs x) W1 fun e W' =>
      (e = .returned (.bool true) ∧ J D (pre ++ [x]) W' ∧ Kept W.heap.size D K W1 W') ∨ (e = .returned (.bool false) ∧ Jx D (pre ++ [x]) W' ∧ Kept W.heap.size D K W1 W')) →
    J (fun _ => False) [] W →
    Calls P g (#[.func (.yield l) #[] #[]] ++ lb) W fun e W' => (∃ v, e = .returned v) ∧ ∃ D, Bounds W.heap.size D W' ∧ ((∃ xs, S xs ∧ X D xs W' ∧ J D xs W') ∨ (∃ pre, X D pre W' ∧ Jx D pre W'))

/-- How a round's body may be left. -/
def itPost {α : Type} (B : Nat) (K : Nat → Prop) (I : (Nat → Prop) → List α → World → Prop) (Ix : Code → (Nat → Prop) → List α → World → Prop) (D : Nat → Prop) (xs : List α) (W : World) : Exit → Act → World → Prop
  | .normal, _, W' => Kept B D K W W' ∧ I D xs W'
  | .ret, _, W' => Kept B D K W W' ∧ Ix .ret D xs W'
  | .exit id, _, W' => Kept B D K W W' ∧ Ix (.exit id) D xs W'
  | .goto t, _, W' => Kept B D K W W' ∧ Ix (.goto t) D xs W'
  | .panic _, _, _ => False
  | .outgrown, _, _ => False

/-- THE LAW. -/
theorem wpIn_rangeFunc_it {α : Type} {P : Program} {g : Operand} {ps : Array Tmp} {assign body : Code} {Q : Exit → Act → World → Prop} {a : Act} {w : World}
    {gf : Nat} {lb : Array Value} (hg : a.eval g = .func (.func gf) #[] lb) (eg : ∀ args w, (callFunc gf args).run P w = .ok (.enter gf args) w)
    {encs : α → Array Value} {K : Nat → Prop} {X : (Nat → Prop) → List α → World → Prop} {S : List α → Prop} {w0 : World} (hseq : Iter P gf lb encs K X S w0) (hb0 : Below w0.heap.size w0 w) (hK : ∀ b, K b → b < w.heap.size) (hps : ∀ x, (encs x).size = ps.size)
    (I : (Nat → Prop) → List α → World → Prop) (Ix : Code → (Nat → Prop) → List α → World → Prop) (hI : Still w.heap.size I) (hIx : ∀ c, Still w.heap.size (Ix c)) (h0 : I (fun _ => False) [] w)
    (Ax : α → Act → World → Prop) (hAx : ∀ x a', OwnFrom w.heap.size (fun (_ : Unit) W => Ax x a' W))
    (hassign : ∀ (l : Nat) (D : Nat → Prop) (pre : List α) (x : α) (W : World) (C : Act → World → Prop), Bounds (w.heap.size + 2) D W → I D pre W → X D (pre ++ [x]) W → (∀ a' W', Kept w.heap.size D K W W' → I D pre W' → Ax x a' W' → C a' W') →
      assign.wpIn (Fence.wide.inRound l) 1 P (Exit.then C (fun _ _ _ => False)) { tmps := (ps.zip (encs x)).foldl (fun t (p, v) => t.setIfInBounds p v) a.tmps, defers := [] } W)
    (hbody : ∀ (l : Nat) (D : Nat → Prop) (pre : List α) (x : α) (a' : Act) (W : World), w.heap.size ≤ l → w.heap.size + 2 ≤ W.heap.size → Bounds (w.heap.size + 2) D W → I D pre W → X D (pre ++ [x]) W → Ax x a' W → body.wpIn (Fence.wide.inRound l) 1 P (itPost w.heap.size K I Ix D (pre ++ [x]) W) a' W)
    (hdone : ∀ (E : Nat) (D : Nat → Prop) (xs : List α) (W : World), E = w.heap.size → w.heap.size + 2 ≤ W.heap.size → Bounds (w.heap.size + 2) D W → S xs → X D xs W → I D xs W → W.heap[E]? = some (.deferred (some [])) → Q .normal { a with defers := { target := .collected E, args := #[] } :: a.defers } W)
    (hstop : ∀ (E : Nat) (D : Nat → Prop) (c : Code) (pre : List α) (W : World), E = w.heap.size → w.heap.size + 2 ≤ W.heap.size → Bounds (w.heap.size + 2) D W → X D pre W → Ix c D pre W → W.heap[E]? = some (.deferred (some [])) → c.wpIn Fence.wide 3 P Q { a with defers := { target := .collected E, args := #[] } :: a.defers } W) :
    (Code.rangeFunc g ps assign body).wpIn Fence.wide 3 P Q a w := by
  refine wpIn_rangeFunc ?_
  intro fn hfn
  obtain ⟨rec, hrec⟩ : ∃ rec : LoopState → Option Code → Loop, rec = fun st pe => { state := st, pending := pe, fn, tmps := a.tmps, params := ps, assign, body, defers := w.heap.size } := ⟨_, rfl⟩
  obtain ⟨W1, hW1⟩ : ∃ W1, (w.alloc (.deferred (some []))).alloc (.loop (rec .ready none)) = W1 := ⟨_, rfl⟩
  have hs1 : W1.heap.size = w.heap.size + 2 := by rw [← hW1]; simp
  have hL1 : W1.heap[w.heap.size + 1]? = some (.loop (rec .ready none)) := by
    rw [← hW1]
    have := World.alloc_heap_new (w.alloc (.deferred (some []))) (.loop (rec .ready none))
    rwa [World.size_alloc] at this
  have hD1 : W1.heap[w.heap.size]? = some (.deferred (some [])) := by
    rw [← hW1]
    exact (Below.heap_alloc _ _ _ (by simp)).trans (World.alloc_heap_new w _)
  have hb01 : Below w.heap.size w W1 := by
    rw [← hW1]
    exact ((Below.refl _ w).alloc (Nat.le_refl _) _).alloc (by simp) _
  have hI1 : I (fun _ => False) [] W1 := hI _ _ _ _ _ (Bounds.none_ _ _) h0 (Steps.of_below hb01) (fun _ h => .inl h)
  have hb1 : Below w0.heap.size w0 W1 := hb0.trans (hb01.mono hb0.size)
  have hnK : ∀ b, w.heap.size ≤ b → ¬ K b := fun b hb hk => by
    have := hK b hk
    omega
  -- the record's and the deferred block's facts don't mind the iterator's steps
  have hrk : ∀ {D : Nat → Prop} {A C : World} {o : Obj} {b : Nat}, Bounds W1.heap.size D A → Steps W1.heap.size D A C → b < W1.heap.size → A.heap[b]? = some o → C.heap[b]? = some o := fun {D A C o b} hB hS hb ho =>
    (hS.block b (Array.getElem?_eq_some_iff.1 ho).1 (fun hd => by have := (hB b hd).1; omega) (.inl hb)).trans ho
  refine ⟨w.heap.size + 1, [{ target := .collected w.heap.size, args := #[] }], W1, { target := .fn (.func gf) lb, args := #[.func (.yield (w.heap.size + 1)) #[] #[]] }, W1, gf,
    #[.func (.yield (w.heap.size + 1)) #[] #[]] ++ lb, W1, ?_, ?_, ?_, ?_, fun _ => by omega, callsIn_wide.2 ?_⟩
  · rw [← hW1, hrec]
    exact run_enterLoop_outer _ _ _ _ _
  · simp only [resolve, hg]
    simp [go_sem]
  · intro f' _
    trivial
  · simp [invoke, go_sem, eg]
  · refine (hseq.2 (w.heap.size + 1)
      (fun D pre W => I D pre W ∧ W.heap[w.heap.size + 1]? = some (.loop (rec .ready none)) ∧ W.heap[w.heap.size]? = some (.deferred (some [])))
      (fun D pre W => ∃ c, Ix c D pre W ∧ W.heap[w.heap.size + 1]? = some (.loop (rec .done (some c))) ∧ W.heap[w.heap.size]? = some (.deferred (some [])))
      W1 hb1
      (fun D D' s A C hB hs hS hD => ⟨hI _ _ _ _ _ (fun b hb => ⟨by have := (hB b hb).1; omega, (hB b hb).2⟩) hs.1 (hS.lower (by omega)) hD, hrk hB hS (by omega) hs.2.1, hrk hB hS (by omega) hs.2.2⟩)
      (fun D D' s A C hB hs hS hD => by
        obtain ⟨c, hc, hl, hk⟩ := hs
        exact ⟨c, hIx c _ _ _ _ _ (fun b hb => ⟨by have := (hB b hb).1; omega, (hB b hb).2⟩) hc (hS.lower (by omega)) hD, hrk hB hS (by omega) hl, hrk hB hS (by omega) hk⟩)
      ?_ ⟨hI1, hL1, hD1⟩).mono ?_
    · -- one round
      rintro D pre x W hB ⟨hi, hl, hk⟩ hx
      rw [hs1] at hB
      have hnD : ¬ D (w.heap.size + 1) := fun h => by have := (hB _ h).1; omega
      have hy := run_yield (P := P) (args := encs x) hl (by rw [hrec]; exact hps x)
      rw [hrec] at hy
      refine ⟨fn, _, assign, body, hy, roundIn_of_wpIn hfn (hassign _ D pre x W _ hB hi hx ?_)⟩
      clear hy
      intro a' Wa hka hia hax
      have hla := hka.keeps.same _ _ (by omega) hl rfl
      have hda := hka.keeps.same _ _ (Nat.le_refl _) hk rfl
      have hxa := hseq.1 _ _ _ _ hx hka.turned
      have hBa := hB.grow hka.turned.size
      have hlt : w.heap.size + 1 < Wa.heap.size := (Array.getElem?_eq_some_iff.1 hla).1
      refine ⟨_, run_beginRound hla (by rw [hrec]), ?_⟩
      obtain ⟨Wb, hWb⟩ : ∃ Wb, Wa.putObj (w.heap.size + 1) (.loop { rec .ready none with state := .busy }) = Wb := ⟨_, rfl⟩
      have hkb : Kept W1.heap.size D K Wa Wb := by
        rw [← hWb]
        exact Kept.putObj _ (by omega) hnD (hnK _ (by omega))
      have hsb : Steps w.heap.size D Wa Wb := by
        rw [← hWb]
        exact Steps.putObj _ (by omega) hla rfl
      have hlb : Wb.heap[w.heap.size + 1]? = some (.loop { rec .ready none with state := .busy }) := by
        rw [← hWb]
        exact World.putObj_heap_same hlt
      have hdb : Wb.heap[w.heap.size]? = some (.deferred (some [])) := by
        rw [← hWb]
        exact (World.putObj_heap_other (by omega)).trans hda
      have hBl : Bounds w.heap.size D Wa := fun b hb => ⟨by have := (hBa b hb).1; omega, (hBa b hb).2⟩
      have hib := hI _ _ _ _ _ hBl hia hsb (fun _ h => .inl h)
      have haxb : Ax x a' Wb := by
        rw [← hWb]
        exact (hAx x a').putObj (s := ()) _ hax (by omega) hla rfl
      rw [hWb]
      refine wpIn_mono (hbody _ D pre x a' Wb (by omega) (by have := hkb.turned.size; omega) (hBa.grow hkb.turned.size) hib (hseq.1 _ _ _ _ hxa hkb.turned) haxb) ?_
      have fin : ∀ (jump : Option Code) (W3 : World), Kept w.heap.size D K Wb W3 →
          (Instr.endRound (w.heap.size + 1) jump).run P W3 = .ok (.bool jump.isNone) (W3.putObj (w.heap.size + 1) (.loop (rec (if jump.isNone then .ready else .done) jump))) ∧
          (W3.putObj (w.heap.size + 1) (.loop (rec (if jump.isNone then .ready else .done) jump))).heap[w.heap.size + 1]? = some (.loop (rec (if jump.isNone then .ready else .done) jump)) ∧
          (W3.putObj (w.heap.size + 1) (.loop (rec (if jump.isNone then .ready else .done) jump))).heap[w.heap.size]? = some (.deferred (some [])) ∧
          Kept W1.heap.size D K W (W3.putObj (w.heap.size + 1) (.loop (rec (if jump.isNone then .ready else .done) jump))) ∧
          Steps w.heap.size D W3 (W3.putObj (w.heap.size + 1) (.loop (rec (if jump.isNone then .ready else .done) jump))) ∧ Bounds w.heap.size D W3 := fun jump W3 hk3 => by
        have hl3 := hk3.keeps.same _ _ (by omega) hlb rfl
        have hd3 := hk3.keeps.same _ _ (Nat.le_refl _) hdb rfl
        have hend := run_endRound (P := P) jump hl3
        rw [hrec] at hend
        refine ⟨by rw [hrec]; exact hend, World.putObj_heap_same (Array.getElem?_eq_some_iff.1 hl3).1, (World.putObj_heap_other (by omega)).trans hd3, ?_, Steps.putObj _ (by omega) hl3 rfl, (hBl.grow hkb.turned.size).grow hk3.turned.size⟩
        exact (hka.raise (by omega)).trans (hkb.trans ((hk3.raise (by omega)).trans (Kept.putObj _ (by omega) hnD (hnK _ (by omega)))))
      rintro e a3 W3 hp
      cases e with
      | normal =>
        obtain ⟨hr, hl4, hd4, hk4, hs4, hB4⟩ := fin none W3 hp.1
        exact ⟨_, _, hr, .inl ⟨rfl, ⟨hI _ _ _ _ _ hB4 hp.2 hs4 (fun _ h => .inl h), hl4, hd4⟩, hk4⟩⟩
      | ret =>
        obtain ⟨hr, hl4, hd4, hk4, hs4, hB4⟩ := fin (some .ret) W3 hp.1
        exact ⟨_, _, hr, .inr ⟨rfl, ⟨.ret, hIx _ _ _ _ _ _ hB4 hp.2 hs4 (fun _ h => .inl h), hl4, hd4⟩, hk4⟩⟩
      | exit id =>
        obtain ⟨hr, hl4, hd4, hk4, hs4, hB4⟩ := fin (some (.exit id)) W3 hp.1
        exact ⟨_, _, hr, .inr ⟨rfl, ⟨.exit id, hIx _ _ _ _ _ _ hB4 hp.2 hs4 (fun _ h => .inl h), hl4, hd4⟩, hk4⟩⟩
      | goto t =>
        obtain ⟨hr, hl4, hd4, hk4, hs4, hB4⟩ := fin (some (.goto t)) W3 hp.1
        exact ⟨_, _, hr, .inr ⟨rfl, ⟨.goto t, hIx _ _ _ _ _ _ hB4 hp.2 hs4 (fun _ h => .inl h), hl4, hd4⟩, hk4⟩⟩
      | panic ch => exact hp.elim
      | outgrown => exact hp.elim
    · -- behind the iterator
      rintro e W2 ⟨⟨v, rfl⟩, D, hB, (⟨xs, hS, hx, hi, hl, hk⟩ | ⟨pre, hx, c, hi, hl, hk⟩)⟩
      · have hnD : ¬ D (w.heap.size + 1) := fun h => by have := (hB _ h).1; omega
        rw [hs1] at hB
        have hBl : Bounds w.heap.size D W2 := fun b hb => ⟨by have := (hB b hb).1; omega, (hB b hb).2⟩
        have hend := run_endLoop (P := P) hl (by rw [hrec]; simp)
        rw [hrec] at hend
        refine ⟨none, _, hend, hdone _ D xs _ rfl (by have := (Array.getElem?_eq_some_iff.1 hl).1; simp; omega) (hB.grow (by simp)) hS (hseq.1 _ _ _ _ hx (Kept.putObj (B := W1.heap.size) _ (by omega) hnD (hnK _ (by omega))).turned) (hI _ _ _ _ _ hBl hi (Steps.putObj _ (by omega) hl rfl) (fun _ h => .inl h)) ((World.putObj_heap_other (by omega)).trans hk)⟩
      · have hnD : ¬ D (w.heap.size + 1) := fun h => by have := (hB _ h).1; omega
        rw [hs1] at hB
        have hBl : Bounds w.heap.size D W2 := fun b hb => ⟨by have := (hB b hb).1; omega, (hB b hb).2⟩
        have hend := run_endLoop (P := P) hl (by rw [hrec]; simp)
        rw [hrec] at hend
        refine ⟨some c, _, hend, hstop _ D c pre _ rfl (by have := (Array.getElem?_eq_some_iff.1 hl).1; simp; omega) (hB.grow (by simp)) (hseq.1 _ _ _ _ hx (Kept.putObj (B := W1.heap.size) _ (by omega) hnD (hnK _ (by omega))).turned) (hIx c _ _ _ _ _ hBl hi (Steps.putObj _ (by omega) hl rfl) (fun _ h => .inl h)) ((World.putObj_heap_other (by omega)).trans hk)⟩
end Go.Proofs.Ytmmibldchfmleaa
