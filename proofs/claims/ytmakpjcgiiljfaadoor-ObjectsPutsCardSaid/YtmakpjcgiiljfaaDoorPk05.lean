/-
  Files: strings.SplitSeq at a slash: what its iterator promises.
  Files: whether a path may be.
  Cells: a map of names with bytes, in memory.
  Cells: changes in memory; whether one may be.
  Cells: changes that grow in memory; what reading takes.
  Files: files in memory, in a row that may grow.
  Files: do paths rise?
  Files: a set of strings: map[string]struct{}.
-/
import Derived.Test.YtmakpjcgiiljfaaDoorPk04
import Derived.Shelf.Abstract
import Derived.Shelf.RegionOpen
import Derived.OwnWalkIn
import Derived.TacticsInMore
import Derived.LoopNIn
import Derived.LoopIn
import Derived.Test.YtmakpjcgiiljfaaDoorPk03
import Derived.Test.YtmakpjcgiiljfaaDoorPk01
import Derived.Maps.OwnSet
import Derived.Sort.KeysCollected
import Derived.StringKeys
import Derived.Test.YtmakpjcgiiljfaaDoorPk02
import Derived.Maps.AppendAt
import Derived.Deep.AppendLies
import Derived.Maps.OwnIn
/-! Files: strings.SplitSeq at a slash: what its iterator promises. -/
namespace Go.Proofs.YtmakpjcgiiljfaaDoor
open Go.RowKit Go.Shelf
attribute [local go_sem] Oper.semAt_some

def splFn (p : Nat) : Value := .func (.func 65) #[] #[.pointer (some ⟨p + 1, 0, none⟩), .pointer (some ⟨p, 0, none⟩), .pointer (some ⟨p + 2, 0, none⟩)]
/-- What the iterator holds: the rest, the slash, nought. -/
structure SpC (p : Nat) (r : List UInt8) (w : World) : Prop where
  rest : w.heap[p]? = some (.cells #[.string (st r)] 9 (0, 0))
  sep : w.heap[p + 1]? = some (.cells #[.string ⟨#[47]⟩] 9 (0, 0))
  save : w.heap[p + 2]? = some (.cells #[.int .i64 0] 3 (0, 0))
set_option maxHeartbeats 2000000 in
set_option maxRecDepth 100000 in
theorem splitseq_any (l : List UInt8) (w : World) :
    Calls Tryd.prog 61 #[.string (st l), .string ⟨#[47]⟩] w fun e w' => e = .returned (splFn w.heap.size) ∧ SpC w.heap.size l w' ∧ Below w.heap.size w w' ∧ w'.heap.size = w.heap.size + 3 := by
  have hmf : ∀ (fn : Fn) (first cap : Array Value) (w : World), (Instr.makeFunc fn first cap).run Tryd.prog w = .ok (.func fn first cap) w := fun _ _ _ _ => rfl
  go_enter Tryd.func61, Tryd.ntmps61
  go_wp2
  go_ret
  have h0 := heap_alloc_new w (.cells #[.string (st l)] 9)
  have h1 := heap_alloc_new (w.alloc (.cells #[.string (st l)] 9)) (.cells #[.string ⟨#[47]⟩] 9)
  have h2 := heap_alloc_new ((w.alloc (.cells #[.string (st l)] 9)).alloc (.cells #[.string ⟨#[47]⟩] 9)) (.cells #[.int .i64 0] 3)
  simp only [World.size_alloc] at h1 h2
  refine ⟨by simp [splFn], ⟨?_, ?_, ?_⟩, (((Below.refl _ w).alloc (Nat.le_refl _) _).alloc (by simp) _).alloc (by simp; omega) _, by simp⟩
  · exact (Below.heap_alloc _ _ _ (by simp; omega)).trans ((Below.heap_alloc _ _ _ (by simp)).trans h0)
  · exact (Below.heap_alloc _ _ _ (by simp)).trans h1
  · exact h2
/-- How much of the string is left. -/
def strAt (w : World) (p : Nat) : Nat := match w.heap[p]? with
  | some (.cells #[.string s] _ _) => s.size
  | _ => 0
theorem strAt_eq {w : World} {p : Nat} {r : List UInt8} {t : TypeId} {f : Nat × Nat} (h : w.heap[p]? = some (.cells #[.string (st r)] t f)) : strAt w p = r.length := by
  unfold strAt
  rw [h]
  exact st_size r
set_option maxHeartbeats 4000000 in
set_option maxRecDepth 100000 in
theorem split1_any (ly p : Nat) (l : List UInt8) (hl : l.length ≤ maxLen) (J Jx : Nat → World → Prop) (B : Nat) (W : World) (hJ : StillZ B (· = p) J) (hs : SpC p l W)
    (hY : ∀ k x W1, (spl l)[k]? = some x → J k W1 → (∀ r, SpC p r W1 → YieldAt Fence.wide 2 Tryd.prog ly #[.string (st x)] W1 fun e W' =>
      (e = .returned (.bool true) ∧ J (k + 1) W' ∧ SpC p r W') ∨ (e = .returned (.bool false) ∧ Jx k W')))
    (h0 : J 0 W) :
    CallsIn Fence.wide 3 Tryd.prog 65 #[.func (.yield ly) #[] #[], .pointer (some ⟨p + 1, 0, none⟩), .pointer (some ⟨p, 0, none⟩), .pointer (some ⟨p + 2, 0, none⟩)] W fun e W' => (∃ v, e = .returned v) ∧ (J (spl l).length W' ∨ ∃ k x, (spl l)[k]? = some x ∧ Jx k W') := by
  have HS := Lib.hid hs
  have HY := Lib.hid hY
  have HJ := Lib.hid hJ
  have HL := Lib.hid hl
  have hb1 := cell_of_cells hs.sep 0
  simp only [List.getElem?_toArray, List.getElem?_cons_zero] at hb1
  clear hs hY hJ hl
  refine callsIn_of_wp Tryd.func65 rfl trivial ?_ rfl
  simp only [Tryd.ntmps65, List.size_toArray, List.length_cons, List.length_nil, Nat.reduceAdd, Nat.reduceSub, Array.replicate_succ, Array.replicate_zero, List.push_toArray, List.append_toArray, List.nil_append, List.cons_append]
  gi_wp2
  gi_loopw [] (fun wr => ∃ (k : Nat) (r : List UInt8), (spl l).drop k = spl r ∧ k + (spl r).length = (spl l).length ∧ r.length ≤ l.length ∧ J k wr ∧ SpC p r wr) (fun wr => strAt wr p)
  case atStart => exact ⟨0, l, by simp, by simp, Nat.le_refl _, h0, HS.out⟩
  case round =>
    obtain ⟨k, r, hd, hk, hrl, hJk, hc⟩ := hrel
    have hr0 := cell_of_cells hc.rest 0
    have hr1 := cell_of_cells hc.sep 0
    have hr2 := cell_of_cells hc.save 0
    simp only [List.getElem?_toArray, List.getElem?_cons_zero] at hr0 hr1 hr2
    have hfz := free_of_cells hc.rest 0
    have hix := sindex_one (st r) 47 wr
    rw [st_data] at hix
    have HC := Lib.hid hc
    have HSZ := Lib.hid (strAt_eq hc.rest)
    clear hc h0 hb1 HS
    rcases ixb_cases r with h1 | ⟨j, h1⟩
    · rw [h1] at hix
      have hs1 := spl_none (ixb_none h1)
      rw [hs1] at hd hk
      have hx : (spl l)[k]? = some r := by
        have := congrArg (fun z => z[0]?) hd
        simpa using this
      obtain ⟨fn, tmps, assign, body, hy, hR⟩ := HY.out k r wr hx hJk r HC.out
      have HR := Lib.hid hR
      have HX := Lib.hid (And.intro hx hk)
      clear hR hx hk hd hs1 h1 HC
      gi_wp2_with (refine ⟨trivial, ?_⟩; gi_at_call 62; refine (callsIn_wide.2 hix).mono ?_; clear hix; rintro _ _ ⟨rfl, rfl⟩)
      refine HR.out.mono ?_
      rintro e W3 (⟨rfl, hJ3, hk3⟩ | ⟨rfl, hJx3⟩)
      · gi_wp2
        go_end0
        refine ⟨⟨_, rfl⟩, .inl ?_⟩
        rw [← HX.out.2]
        exact hJ3
      · gi_wp2
        go_end0
        exact ⟨⟨_, rfl⟩, .inr ⟨k, r, HX.out.1, hJx3⟩⟩
    · obtain ⟨hj, hn, he⟩ := ixb_some h1
      rw [h1] at hix
      have hs1 : spl r = r.take j :: spl (r.drop (j + 1)) := by
        conv => lhs; rw [he]
        exact spl_at _ hn
      rw [hs1] at hd hk
      have hx : (spl l)[k]? = some (r.take j) := by
        have := congrArg (fun z => z[0]?) hd
        simpa using this
      have hd1 : (spl l).drop (k + 1) = spl (r.drop (j + 1)) := by
        have := congrArg (fun z => z.drop 1) hd
        simpa using this
      obtain ⟨fn, tmps, assign, body, hy, hR⟩ := HY.out k (r.take j) wr hx hJk r HC.out
      have HR := Lib.hid hR
      have hml := HL.out
      unfold maxLen at hml
      have hto0 := fun W => st_to (P := Tryd.prog) 9 Tryd.underlying9 r W j (j : Int) (by omega) (by omega)
      have hfrom := fun W => st_from (P := Tryd.prog) 9 Tryd.underlying9 r W (j + 1) ((j : Int) + 1) (by omega) (by omega)
      have hadd := IntWalk.i64_in ((j : Int) + 1) (by omega)
      have hadd0 : wrap64 (j : Int) = (j : Int) := by unfold wrap64; omega
      have hj0 : (0 : Int) ≤ (j : Int) := by omega
      have HX := Lib.hid (And.intro hx (And.intro hk (And.intro hd1 (And.intro hj hrl))))
      clear hR hx hk hd hs1 h1 HC hd1 he hn hml hj hrl
      gi_wp2_with (refine ⟨trivial, ?_⟩; gi_at_call 62; refine (callsIn_wide.2 hix).mono ?_; clear hix; rintro _ _ ⟨rfl, rfl⟩)
      refine HR.out.mono ?_
      rintro e W3 (⟨rfl, hJ3, hk3⟩ | ⟨rfl, hJx3⟩)
      · have hr0 := cell_of_cells hk3.rest 0
        have hr1 := cell_of_cells hk3.sep 0
        simp only [List.getElem?_toArray, List.getElem?_cons_zero] at hr0 hr1
        have hfz := free_of_cells hk3.rest 0
        have H3 := Lib.hid (And.intro hJ3 hk3)
        clear hJ3 hk3 hy HR hto0 hr2 hJk
        gi_wp2
        have hp1 : (W3.setCell ⟨p, 0, none⟩ (.string (st (r.drop (j + 1))))).heap[p]? = some (.cells #[.string (st (r.drop (j + 1)))] 9 (0, 0)) := by simpa using set_of_cells H3.out.2.rest 0 (.string (st (r.drop (j + 1))))
        refine ⟨⟨k + 1, r.drop (j + 1), HX.out.2.2.1, ?_, ?_, HJ.out _ _ _ H3.out.1 (Steps.of_turned (Turned.set (S := fun x => x = p) (Turned.refl _ _) (p := p) rfl _ _)), ⟨hp1, ?_, ?_⟩⟩, ?_⟩
        · have := HX.out.2.1
          simp at this
          omega
        · have := HX.out.2.2.2
          simp
          omega
        · exact (Below.heap_setCell _ _ _ _ (by simp)).trans H3.out.2.sep
        · exact (Below.heap_setCell _ _ _ _ (by simp)).trans H3.out.2.save
        · rw [strAt_eq hp1, HSZ.out]
          have := HX.out.2.2.2
          simp
          omega
      · gi_wp2
        refine bodyPost_ret (results_none rfl _ _ _) rfl ?_
        exact ⟨⟨_, rfl⟩, .inr ⟨k, _, HX.out.1, hJx3⟩⟩
/-- ITS PROMISE. -/
theorem split_iter (p : Nat) (l : List UInt8) (hl : l.length ≤ maxLen) (w : World) (hs : SpC p l w) :
    IterZ Tryd.prog 65 #[.pointer (some ⟨p + 1, 0, none⟩), .pointer (some ⟨p, 0, none⟩), .pointer (some ⟨p + 2, 0, none⟩)] (fun x => #[.string (st x)]) (· = p) (fun k => k = p + 1 ∨ k = p + 2) (spl l) w := by
  intro ly J Jx W hW hJ hJx hY h0
  have hs' : SpC p l W := ⟨(hW.block _ (lt_of_cells hs.rest)).trans hs.rest, (hW.block _ (lt_of_cells hs.sep)).trans hs.sep, (hW.block _ (lt_of_cells hs.save)).trans hs.save⟩
  refine callsIn_wide.1 (split1_any ly p l hl J Jx W.heap.size W hJ hs' (fun k x W1 hx hj r hr => ?_) h0)
  obtain ⟨fn, tmps, assign, body, hy, hR⟩ := hY k x W1 hx hj
  refine ⟨fn, tmps, assign, body, hy, RoundIn.wide (hR.mono ?_)⟩
  rintro e W' (⟨rfl, hj', hk'⟩ | ⟨rfl, hj', hk'⟩)
  · exact .inl ⟨rfl, hj', (hk'.turned.block _ (lt_of_cells hr.rest) (fun h => h (.inl rfl))).trans hr.rest, (hk'.turned.block _ (lt_of_cells hr.sep) (fun h => h (.inr (.inl rfl)))).trans hr.sep, (hk'.turned.block _ (lt_of_cells hr.save) (fun h => h (.inr (.inr rfl)))).trans hr.save⟩
  · exact .inr ⟨rfl, hj'⟩
end Go.Proofs.YtmakpjcgiiljfaaDoor

/-! Files: whether a path may be. -/
namespace Go.Proofs.YtmakpjcgiiljfaaDoor
open Go.RowKit Go.Shelf Codec
attribute [local go_sem] Oper.semAt_some

/-- []byte(s), of any string. -/
theorem conv_long (l : List UInt8) (hl : l.length ≤ maxLen) (W : World) : ∃ c' W', (convert 9 22 (.string (st l))).run Tryd.prog W = .ok (.slice (some ⟨W.heap.size, 0, none⟩) l.length c') W' ∧ Below W.heap.size W W' ∧ Byt W' (fun b => b = W.heap.size) (some ⟨W.heap.size, 0, none⟩) l.length c' l := by
  have h := run_bytes_of_string (P := Tryd.prog) W 9 22 5 (st l) Tryd.underlying9 Tryd.underlying22 Tryd.underlying5
  rw [st_size] at h
  have hge := grownCap_ge W l.length 0 5
  have hle := grownCap_le_maxLen W l.length 0 5 (by unfold maxLen at hl ⊢; omega)
  generalize grownCap W l.length 0 5 = C at *
  refine ⟨C, _, h, (below_drew (Below.refl _ _)).alloc (Nat.le_refl _) _, rfl, hge, hle, fun h0 => ⟨_, 0, rfl, rfl, by simp, fun i hi => ?_⟩⟩
  have hnew : (W.drew.alloc (.cells (bytesRow (st l) C) 5 ((bytesRow (st l) C).size, (bytesRow (st l) C).size + 1))).heap[W.heap.size]? = some _ := heap_alloc_new W.drew _
  rw [cell_of_cells hnew]
  simp [bytesRow, st, Array.getElem?_append, hi]

theorem wpIn_scope_wide {n : Nat} {P : Program} {Q : Exit → Act → World → Prop} {a : Act} {w : World} {c : Code} (h : c.wpIn Fence.wide n P (Exit.noGoto Q) a w) : (Code.scope c).wpIn Fence.wide n P Q a w :=
  wpIn_wide.2 (wp_scope_straight (wpIn_wide.1 h))
def FpI (w : World) (l : List UInt8) (k : Nat) (W : World) : Prop := ((spl l).take k).all nmOk = true ∧ W.heap[w.heap.size]? = some (.cells #[.bool (decide (l.length ≤ 255))] 4 (0, 0)) ∧ Below w.heap.size w W
def FpX (w : World) (l : List UInt8) (c : Code) (k : Nat) (W : World) : Prop := c = .exit 0 ∧ (∃ x, (spl l)[k]? = some x ∧ nmOk x = false) ∧ W.heap[w.heap.size]? = some (.cells #[.bool false] 4 (0, 0)) ∧ Below w.heap.size w W
theorem FpI.still {w : World} {l : List UInt8} {B : Nat} (hB : w.heap.size < B) : StillZ B (· = w.heap.size + 1) (FpI w l) := fun _ W W' h hs =>
  ⟨h.1, (hs.block _ (lt_of_cells h.2.1) (by omega) (.inl hB)).trans h.2.1, hs.belowZ h.2.2 (fun b hb => by omega) (Nat.le_refl _) (by omega)⟩
theorem FpX.still {w : World} {l : List UInt8} {B : Nat} {c : Code} (hB : w.heap.size < B) : StillZ B (· = w.heap.size + 1) (FpX w l c) := fun _ W W' h hs =>
  ⟨h.1, h.2.1, (hs.block _ (lt_of_cells h.2.2.1) (by omega) (.inl hB)).trans h.2.2.1, hs.belowZ h.2.2.2 (fun b hb => by omega) (Nat.le_refl _) (by omega)⟩
theorem path_no {l x : List UInt8} {k : Nat} (h : (spl l)[k]? = some x) (hx : nmOk x = false) : pathOk l = false := by
  unfold pathOk
  have : (spl l).all nmOk = false := List.all_eq_false.2 ⟨x, List.mem_of_getElem? h, by simp [hx]⟩
  rw [this, Bool.and_false]
theorem spl_len : ∀ {l x : List UInt8}, x ∈ spl l → x.length ≤ l.length
  | [], x, h => by
    obtain rfl : x = [] := by simpa [spl] using h
    simp
  | c :: t, x, h => by
    by_cases hc : c = 47
    · subst hc
      rw [spl_slash] at h
      rcases List.mem_cons.1 h with rfl | h
      · simp
      · have := spl_len h
        simp
        omega
    · obtain ⟨y, r, e⟩ := List.exists_cons_of_ne_nil (spl_ne t)
      rw [spl_cons hc e] at h
      rcases List.mem_cons.1 h with rfl | h
      · have := spl_len (l := t) (x := y) (by rw [e]; simp)
        simp
        omega
      · have := spl_len (l := t) (x := x) (by rw [e]; exact List.mem_cons_of_mem _ h)
        simp
        omega
set_option maxHeartbeats 4000000 in
set_option maxRecDepth 100000 in
theorem path_any (l : List UInt8) (hl : l.length ≤ maxLen) (w : World) :
    Calls Tryd.prog 59 #[.string (st l)] w fun e w' => e = .returned (.bool (pathOk l)) ∧ Below w.heap.size w w' := by
  have hsz := st_size l
  obtain ⟨L, hL⟩ : ∃ L, L = l.length := ⟨_, rfl⟩
  rw [← hL] at hsz
  have HL := Lib.hid hL
  have HM := Lib.hid hl
  have hdl : decide ((L : Int) ≤ 255) = decide (l.length ≤ 255) := by
    rw [HL.out]
    by_cases h : l.length ≤ 255
    · rw [decide_eq_true h, decide_eq_true (by omega)]
    · rw [decide_eq_false h, decide_eq_false (by omega)]
  obtain ⟨D, hD⟩ : ∃ D, D = decide (l.length ≤ 255) := ⟨_, rfl⟩
  rw [← hD] at hdl
  have HD := Lib.hid hD
  clear hL hl hD
  refine (callsIn_wide (n := 3)).1 ?_
  refine callsIn_of_wp_marks Tryd.func59 rfl trivial ?_ rfl
  simp only [Tryd.ntmps59, List.size_toArray, List.length_cons, List.length_nil, Nat.reduceAdd, Nat.reduceSub, Array.replicate_succ, Array.replicate_zero, List.push_toArray, List.append_toArray, List.nil_append, List.cons_append]
  have hsq := fun W => splitseq_any l W
  gi_wp2
  refine wpIn_scope_wide ?_
  gi_wp2
  refine wpIn_label ?_
  gi_wp2_with (refine ⟨trivial, ?_⟩; gi_at_call 61; refine (callsIn_wide.2 (hsq _)).mono ?_; clear hsq; rintro _ w1 ⟨rfl, hsc, hb1, hs1⟩)
  have H1 : Hid (FpI w l 0 w1 ∧ SpC (w.heap.size + 1) l w1 ∧ w1.heap.size = w.heap.size + 4) := by
    simp only [World.size_alloc] at hsc hb1 hs1
    refine Lib.hid ⟨⟨by simp, ?_, ((Below.refl _ w).alloc (Nat.le_refl _) _).trans (hb1.mono (by omega))⟩, hsc, by omega⟩
    rw [← HD.out]
    exact (hb1.block _ (by simp)).trans (heap_alloc_new w _)
  clear hsc hb1 hs1
  refine wpIn_rangeFunc_itZ (gf := 65) (lb := #[.pointer (some ⟨w.heap.size + 1 + 1, 0, none⟩), .pointer (some ⟨w.heap.size + 1, 0, none⟩), .pointer (some ⟨w.heap.size + 1 + 2, 0, none⟩)]) rfl (enters_of Tryd.func65 (by kernel_rfl) rfl) (split_iter (w.heap.size + 1) l HM.out w1 H1.out.2.1) (Below.refl _ _)
    (fun b hb => by have := H1.out.2.2; omega) (fun b hb => by have := H1.out.2.2; omega) (fun _ => rfl)
    (FpI w l) (FpX w l) (FpI.still (by have := H1.out.2.2; omega)) (fun _ => FpX.still (by have := H1.out.2.2; omega)) H1.out.1
    (fun x a' _ => a' = { tmps := #[.string (st l), undef, .bool false, .pointer (some ⟨w.heap.size, 0, none⟩), .string (st x), undef, undef, .string (st l), .int .i64 (L : Int), .bool D, .string (st l), splFn (w.heap.size + 1), .string (st x), undef, undef, undef, undef, undef, undef, undef, undef, undef, undef, undef, undef, undef, undef, undef, undef], defers := [] }) (fun _ _ => ownFrom_pure _ _) ?assign ?body ?done ?stop
  case assign =>
    intro l k x W C _ hi hC
    gi_wp2
    exact hC _ _ (Kept.refl _ _ _ _) hi (by simp)
  case done =>
    rintro E W hE hws ⟨ha, hc, hb⟩ hK
    have hc0 := cell_of_cells hc 0
    simp only [List.getElem?_toArray, List.getElem?_cons_zero] at hc0
    have HX := Lib.hid (And.intro ha (And.intro hb hK))
    clear ha hc hb hK
    gi_wp2
    refine ⟨by simp, .inl ⟨_, _, rfl, run_takeDeferred HX.out.2.2, ?_⟩⟩
    refine ⟨_, results_tmp rfl _ _ _, ?_, HX.out.2.1.trans (belowK_b (w := w) (Nat.le_refl _) W E _ _ (by have := H1.out.2.2; omega) HX.out.2.2 rfl rfl)⟩
    have h1 := HX.out.1
    rw [List.take_length] at h1
    unfold pathOk
    rw [h1, Bool.and_true]
    rfl
  case stop =>
    rintro E c k x W hE hws hx ⟨rfl, hn, hc, hb⟩ hK
    have hc0 := cell_of_cells hc 0
    simp only [List.getElem?_toArray, List.getElem?_cons_zero] at hc0
    have HX := Lib.hid (And.intro hn (And.intro hb hK))
    clear hn hc hb hK
    gi_wp2
    refine ⟨by simp, .inl ⟨_, _, rfl, run_takeDeferred HX.out.2.2, ?_⟩⟩
    refine ⟨_, results_tmp rfl _ _ _, ?_, HX.out.2.1.trans (belowK_b (w := w) (Nat.le_refl _) W E _ _ (by have := H1.out.2.2; omega) HX.out.2.2 rfl rfl)⟩
    obtain ⟨y, h1, h2⟩ := HX.out.1
    rw [path_no h1 h2]
    rfl
  case body =>
    rintro ly k x a' W hly hW hx ⟨ha, hc, hb⟩ rfl
    have hfz := free_of_cells hc 0
    have hc0 := cell_of_cells hc 0
    simp only [List.getElem?_toArray, List.getElem?_cons_zero] at hc0
    have HEX : Hid (∀ W5, Below W.heap.size W W5 → nmOk x = false → ∀ a', itPostZ w1.heap.size (fun b => b = w.heap.size + 1) (fun b => b = w.heap.size + 1 + 1 ∨ b = w.heap.size + 1 + 2) (FpI w l) (FpX w l) k W (Exit.exit 0) a' (W5.setCell ⟨w.heap.size, 0, none⟩ (.bool false))) := Lib.hid (by
      intro W5 h5 hn a'
      have hc5 := (h5.block _ (lt_of_cells hc)).trans hc
      refine ⟨(Kept.of_below h5).trans (Kept.of_gr (row := some w.heap.size) (grownBy_setCell' W5 w.heap.size _) fun g e => ?_), rfl, ⟨x, hx, hn⟩, by simpa using set_of_cells hc5 0 (.bool false), (hb.trans (h5.mono hb.size)).setCell (p := ⟨w.heap.size, 0, none⟩) (Nat.le_refl _) _⟩
      injection e with e
      subst e
      exact ⟨by omega, by omega, _, _, _, hc5⟩)
    have HOK : Hid (∀ W5, Below W.heap.size W W5 → nmOk x = true → ∀ a', itPostZ w1.heap.size (fun b => b = w.heap.size + 1) (fun b => b = w.heap.size + 1 + 1 ∨ b = w.heap.size + 1 + 2) (FpI w l) (FpX w l) k W Exit.normal a' W5) := Lib.hid (by
      intro W5 h5 hn a'
      refine ⟨Kept.of_below h5, ?_, (h5.block _ (lt_of_cells hc)).trans hc, hb.trans (h5.mono hb.size)⟩
      rw [List.take_add_one, hx, List.all_append, ha]
      simp [hn])
    have HB := Lib.hid hb
    have hxl := spl_len (List.mem_of_getElem? hx)
    have HXL : Hid (x.length ≤ maxLen) := Lib.hid (by have := HM.out; omega)
    have HC := Lib.hid hc
    clear ha hc hb hx hxl
    by_cases h0 : x = []
    · have e0 : (st x).toList.isEmpty = true := by rw [st_list, h0]; rfl
      have HZ := Lib.hid h0
      clear h0
      gi_wp2
      exact HEX.out W (Below.refl _ _) (by rw [HZ.out]; rfl) _
    · have e0 : (st x).toList.isEmpty = false := by rw [st_list]; simpa using h0
      by_cases h1 : x = [46]
      · have e1 : ((st x).toList == [46]) = true := by rw [st_list, h1]; rfl
        have HZ := Lib.hid h1
        clear h1 h0
        gi_wp2
        exact HEX.out W (Below.refl _ _) (by rw [HZ.out]; rfl) _
      · have e1 : ((st x).toList == [46]) = false := by rw [st_list]; simpa using h1
        by_cases h2 : x = [46, 46]
        · have e2 : ((st x).toList == [46, 46]) = true := by rw [st_list, h2]; rfl
          have HZ := Lib.hid h2
          clear h2 h1 h0
          gi_wp2
          exact HEX.out W (Below.refl _ _) (by rw [HZ.out]; rfl) _
        · have e2 : ((st x).toList == [46, 46]) = false := by rw [st_list]; simpa using h2
          obtain ⟨c5, W5, hcv, hb5, hy5⟩ := conv_long x HXL.out W
          have HNM : Hid (nmOk x = x.all fun c => decide (32 ≤ c.toNat)) := Lib.hid (by unfold nmOk; simp [h0, h1, h2])
          obtain ⟨n, hn⟩ : ∃ n, n = x.length := ⟨_, rfl⟩
          rw [← hn] at hcv hy5
          have HY := Lib.hid (And.intro hb5 (And.intro hy5 hn))
          clear h0 h1 h2 hb5 hy5 hn
          gi_wp2
          gi_loopw [21] (fun i wr => ∃ j : Nat, j ≤ n ∧ i = .int .i64 (j : Int) ∧ (x.take j).all (fun c => decide (32 ≤ c.toNat)) = true ∧ wr = W5) (fun i _ => n - (intOf i).toNat)
          case atStart => exact ⟨0, Nat.zero_le _, rfl, rfl, rfl⟩
          case round =>
            obtain ⟨j, hj, rfl, haj, rfl⟩ := hrel
            have hcq := (HY.out.1.block _ (lt_of_cells HC.out)).trans HC.out
            have hfz := free_of_cells hcq 0
            have hc0 := cell_of_cells hcq 0
            simp only [List.getElem?_toArray, List.getElem?_cons_zero] at hc0
            clear hcq hcv
            by_cases hlt : j < n
            · have hlt' : (j : Int) < (n : Int) := by omega
              have hcell : wr.cell? ⟨W.heap.size, j, none⟩ = some (.int .u8 ((x[j]?.getD 0).toNat : Int)) := by
                obtain ⟨b, off, he, _, _, hce⟩ := HY.out.2.1.row (by omega)
                injection he with he
                injection he with e1 e2 _
                subst e1 e2
                simpa using hce j hlt
              have hxj : x[j]? = some (x[j]?.getD 0) := by
                have : j < x.length := by have := HY.out.2.2; omega
                simp [List.getElem?_eq_getElem this]
              have hadd := IntWalk.i64_in ((j : Int) + 1) (by have h1 := HXL.out; have h2 := HY.out.2.2; unfold maxLen at h1; omega)
              obtain ⟨c, hc⟩ : ∃ c, c = x[j]?.getD 0 := ⟨_, rfl⟩
              rw [← hc] at hcell hxj
              have HJ := Lib.hid (And.intro hxj (And.intro haj hlt))
              clear hxj haj hlt hc
              by_cases h32 : c.toNat < 32
              · have h32' : (c.toNat : Int) < 32 := by omega
                have HC3 := Lib.hid h32
                clear h32
                gi_wp2
                refine HEX.out wr HY.out.1 ?_ _
                rw [HNM.out]
                exact List.all_eq_false.2 ⟨c, List.mem_of_getElem? HJ.out.1, by have := HC3.out; simp; omega⟩
              · have h32' : ¬ (c.toNat : Int) < 32 := by omega
                have HC3 := Lib.hid h32
                clear h32
                gi_wp2
                go_roundw
                case rel => exact ⟨j + 1, by have := HJ.out.2.2; omega, by go_num, by rw [List.take_add_one, HJ.out.1, List.all_append, HJ.out.2.1]; have := HC3.out; simp; omega, by first | rfl | trivial⟩
                case measure => have := HJ.out.2.2; simp [intOf]; omega
            · have hjn : j = n := by omega
              have HJ : Hid (nmOk x = true) := Lib.hid (by rw [HNM.out]; rw [hjn, HY.out.2.2, List.take_length] at haj; exact haj)
              have hlt' : ¬ (j : Int) < (n : Int) := by omega
              clear hjn haj hlt
              gi_wp2
              exact HOK.out wr HY.out.1 HJ.out _
end Go.Proofs.YtmakpjcgiiljfaaDoor

/-! Cells: a map of names with bytes, in memory. -/
namespace Go.Proofs.YtmakpjcgiiljfaaDoor
open Go.RowKit Go.Maps Codec

/-- How a map's element reads: as it is. -/
def rv (v : Value) : Option (DataW Value × List MemPlace) := some (.held v, [])
theorem mlaw : Keyed Tryd.prog 9 := string_keyed Tryd.underlying9
theorem zero_sl (w : World) : (zeroValue 22).run Tryd.prog w = .ok (.slice none 0 0) w := by kernel_rfl
/-- THE DATUM HAS JUST THESE NAMES, each with a slice that reads as its bytes. -/
structure Agr (w : World) (S : Nat → Prop) (D : DataW Value) (t : Tb) : Prop where
  srt : Srt t
  size : Maps.size D = t.length
  has : ∀ k, Maps.has D (.string k) = (getT t k).isSome
  at_ : ∀ k v, getT t k = some v → ∃ A n c, (∀ z, D.atKey (.string k) z = .held (.slice A n c)) ∧ Byt w S A n c v
/-- BLOCK b IS A MAP OF THESE NAMES WITH BYTES, all of it in blocks of S. -/
def Nms (w : World) (S : Nat → Prop) (b : Nat) (t : Tb) : Prop :=
  S b ∧ ∃ D, w.ownsMap Tryd.prog 9 rv b t.length D ∧ Agr w (fun k => S k ∧ k ≠ b) D t
variable {w w' : World} {S T : Nat → Prop} {b : Nat} {t : Tb}
theorem Nms.srt (h : Nms w S b t) : Srt t := by
  obtain ⟨_, D, _, ha⟩ := h
  exact ha.srt
theorem Nms.lt (h : Nms w S b t) : b < w.heap.size := by
  obtain ⟨_, D, ho, _⟩ := h
  exact ho.lt
theorem ownsMap_exact {P : Program} {k : TypeId} {R : Value → Option (DataW Value × List MemPlace)} {n : Nat} {D : DataW Value} (h : w.ownsMap P k R b n D) : w.ownsMap P k R b (Maps.size D) D := by
  obtain ⟨es, clock, hb, F, hs, rfl⟩ := h
  exact ⟨es, clock, hb, F, by simp [Maps.size, length_sorted], rfl⟩
theorem ownsMap_kept {P : Program} {k : TypeId} {R : Value → Option (DataW Value × List MemPlace)} {n : Nat} {D : DataW Value} (h : w.ownsMap P k R b n D) (hb : w'.heap[b]? = w.heap[b]?) : w'.ownsMap P k R b n D := by
  obtain ⟨es, clock, hb', r⟩ := h
  exact ⟨es, clock, hb.trans hb', r⟩
theorem Agr.turned {D : DataW Value} (h : Agr w S D t) (ht : Turned T w w') (hd : ∀ k, k < w.heap.size → S k → ¬ T k) : Agr w' S D t :=
  ⟨h.srt, h.size, h.has, fun k v hk => by
    obtain ⟨A, n, c, h1, h2⟩ := h.at_ k v hk
    exact ⟨A, n, c, h1, h2.turned ht hd⟩⟩
theorem Agr.mono {D : DataW Value} (h : Agr w S D t) (hT : ∀ k, k < w.heap.size → S k → T k) : Agr w T D t :=
  ⟨h.srt, h.size, h.has, fun k v hk => by
    obtain ⟨A, n, c, h1, h2⟩ := h.at_ k v hk
    exact ⟨A, n, c, h1, h2.mono hT⟩⟩
theorem Nms.turned (h : Nms w S b t) (ht : Turned T w w') (hd : ∀ k, k < w.heap.size → S k → ¬ T k) : Nms w' S b t := by
  obtain ⟨hS, D, ho, ha⟩ := h
  exact ⟨hS, D, ownsMap_kept ho (ht.block _ ho.lt (hd _ ho.lt hS)), ha.turned ht fun k hk hs => hd k hk hs.1⟩
theorem Nms.below (h : Nms w S b t) (hb : Below w.heap.size w w') : Nms w' S b t :=
  h.turned (T := fun _ => False) ⟨hb.os, hb.tape, hb.output, hb.size, fun k hk _ => hb.block k hk⟩ fun _ _ _ h => h
theorem Nms.mono (h : Nms w S b t) (hT : ∀ k, k < w.heap.size → S k → T k) : Nms w T b t := by
  obtain ⟨hS, D, ho, ha⟩ := h
  exact ⟨hT _ ho.lt hS, D, ho, ha.mono fun k hk hs => ⟨hT k hk hs.1, hs.2⟩⟩
theorem Nms.drew (h : Nms w S b t) : Nms w.drew S b t := h.below ⟨rfl, rfl, rfl, Nat.le_refl _, fun _ _ => rfl⟩
theorem made_map (w : World) : Nms (w.alloc (.map #[] 0)) (fun k => k = w.heap.size) w.heap.size [] :=
  ⟨rfl, .map [], World.ownsMap_made _ _ _ _, Srt.nil, rfl, fun _ => rfl, fun _ _ h => by cases h⟩
theorem str_key (k : List UInt8) (h : k.length ≤ 1000000) : keyOf Tryd.prog 9 (.string (st k)) = some (.string k) := by
  have h1 := Go.WideMaps.keyOf_string_mk (P := Tryd.prog) (k := 9) Tryd.underlying9 (s := st k) (by rw [st_size]; unfold maxLen; omega)
  simpa [st] using h1
theorem str_lit (k : List UInt8) : WideAt.IsKeyLit (.string k) := by trivial
theorem len_split {t : Tb} (h : Srt t) (k : List UInt8) : (t.filter fun p => decide (p.1 < k)).length + (t.filter fun p => decide (k < p.1)).length + (if (getT t k).isSome = true then 1 else 0) = t.length := by
  induction t with
  | nil => simp [getT_nil]
  | cons p t ih =>
    obtain ⟨h1, h2⟩ := List.pairwise_cons.1 h
    have h3 := ih h2
    rw [getT_cons]
    by_cases hl : p.1 < k
    · rw [List.filter_cons_of_pos (by simpa using hl), List.filter_cons_of_neg (by simpa using klt_as hl), if_neg (klt_ne hl), List.length_cons, List.length_cons]
      omega
    · rw [List.filter_cons_of_neg (by simpa using hl)]
      by_cases he : p.1 = k
      · have hn : getT t k = none := getT_none fun q hq => (klt_ne (he ▸ h1 q hq)).symm
        rw [hn] at h3
        rw [List.filter_cons_of_neg (by simp [he]), if_pos he, List.length_cons]
        simp at h3 ⊢
        omega
      · have hg : k < p.1 := Classical.byContradiction fun h => he (klt_tri hl h)
        rw [List.filter_cons_of_pos (by simpa using hg), if_neg he, List.length_cons, List.length_cons]
        omega
theorem doC_len {t : Tb} (h : Srt t) (c : Ch) : (doC t c).length + (if (getT t c.k).isSome = true then 1 else 0) = t.length + (if c.g then 0 else 1) := by
  have h1 := len_split h c.k
  unfold doC
  rw [List.length_append, List.length_append]
  cases c.g <;> simp <;> omega
theorem mapTurned_turned' {w w' : World} {b : Nat} (h : w.mapTurned w' b) : Turned (fun q => q = b) w w' := Turned.of_gr h.grown fun _ e => (Option.some.inj e).symm
/-- What the names are, sorted. -/
theorem Agr.keys {D : DataW Value} (h : Agr w S D t) {n : Nat} (ho : w'.ownsMap Tryd.prog 9 rv b n D) {ss : List (List UInt8)} (hs : ss.Perm (strKeys D)) : ss.mergeSort (fun x y => decide (x ≤ y)) = t.map (·.1) := by
  obtain ⟨es, hD, hpw, _⟩ := ho.entries mlaw
  obtain ⟨es', hD', hko⟩ := ho.keysOf
  obtain rfl : es = es' := by rw [hD] at hD'; simpa using hD'
  have hnd : (t.map (·.1)).Nodup := (h.srt.keys).imp fun h => klt_ne h
  have hp : (t.map (·.1)).Perm (strKeys D) := by
    have hh := h.has
    subst hD
    exact perm_strKeys hpw (fun p hp => by obtain ⟨v, hv⟩ := hko p hp; obtain ⟨x, _, hx, _⟩ := Maps.keyOf_str Tryd.underlying9 hv; exact ⟨x, hx⟩) hnd (fun x => by rw [hh x]; exact getT_isSome.symm)
  rw [show ss.mergeSort (fun x y => decide (x ≤ y)) = (t.map (·.1)).mergeSort leB from mergeSort_of_perm (hs.trans hp.symm)]
  exact List.mergeSort_of_pairwise ((h.srt.keys).imp fun {a b} h => by simpa using List.le_of_lt h)
end Go.Proofs.YtmakpjcgiiljfaaDoor

/-! Cells: changes in memory; whether one may be. -/
namespace Go.Proofs.YtmakpjcgiiljfaaDoor
open Go.RowKit Codec

theorem cell_turned {T : Nat → Prop} {w w' : World} (ht : Turned T w w') {k : Nat} (hk : k < w.heap.size) (hT : ¬ T k) (o : Nat) : w'.cell? ⟨k, o, none⟩ = w.cell? ⟨k, o, none⟩ :=
  World.cell?_of_block (w := w) (a := ⟨k, o, none⟩) (ht.block k hk hT)
/-- A change's cells. -/
def chV (A : Option Addr) (n c : Nat) (x : Ch) : Array Value := #[.string (st x.k), .slice A n c, .bool x.g]
theorem chV_one (A : Option Addr) (n c : Nat) (x : Ch) : (chV A n c x).all (·.oneCell') = true := by simp [chV, Value.oneCell']
/-- CHANGES IN MEMORY. -/
structure Chs (w : World) (S : Nat → Prop) (A : Option Addr) (n c : Nat) (l : List Ch) : Prop where
  len : l.length = n
  cap : n ≤ c
  max : c ≤ maxLen
  row : 0 < n → ∃ b off, A = some ⟨b, off, none⟩ ∧ S b ∧ b < w.heap.size ∧ ∀ i x, l[i]? = some x → ∃ Ai ni ci, (∀ (j : Nat) (v : Value), (chV Ai ni ci x)[j]? = some v → w.cell? ⟨b, off + i * 3 + j, none⟩ = some v) ∧ Byt w S Ai ni ci x.v
variable {w w' : World} {S T : Nat → Prop} {A : Option Addr} {n c : Nat} {l : List Ch}
theorem Chs.turned (h : Chs w S A n c l) (ht : Turned T w w') (hd : ∀ k, k < w.heap.size → S k → ¬ T k) : Chs w' S A n c l :=
  ⟨h.len, h.cap, h.max, fun h0 => by
    obtain ⟨b, off, h1, h2, h3, h4⟩ := h.row h0
    refine ⟨b, off, h1, h2, Nat.lt_of_lt_of_le h3 ht.size, fun i x hx => ?_⟩
    obtain ⟨Ai, ni, ci, h5, h6⟩ := h4 i x hx
    exact ⟨Ai, ni, ci, fun j v hv => (cell_turned ht h3 (hd b h3 h2) _).trans (h5 j v hv), h6.turned ht hd⟩⟩
theorem Chs.below (h : Chs w S A n c l) (hb : Below w.heap.size w w') : Chs w' S A n c l :=
  h.turned (T := fun _ => False) ⟨hb.os, hb.tape, hb.output, hb.size, fun k hk _ => hb.block k hk⟩ fun _ _ _ h => h
theorem Chs.mono (h : Chs w S A n c l) (hT : ∀ k, k < w.heap.size → S k → T k) : Chs w T A n c l :=
  ⟨h.len, h.cap, h.max, fun h0 => by
    obtain ⟨b, off, h1, h2, h3, h4⟩ := h.row h0
    refine ⟨b, off, h1, hT b h3 h2, h3, fun i x hx => ?_⟩
    obtain ⟨Ai, ni, ci, h5, h6⟩ := h4 i x hx
    exact ⟨Ai, ni, ci, h5, h6.mono hT⟩⟩
theorem Chs.nil (w : World) (S : Nat → Prop) (A : Option Addr) (c : Nat) (hc : c ≤ maxLen) : Chs w S A 0 c [] := ⟨rfl, Nat.zero_le _, hc, fun h => absurd h (by omega)⟩
theorem Chs.at_ (h : Chs w S A n c l) {i : Nat} (hi : i < n) : ∃ b off x Ai ni ci, A = some ⟨b, off, none⟩ ∧ S b ∧ b < w.heap.size ∧ l[i]? = some x ∧ (∀ (j : Nat) (v : Value), (chV Ai ni ci x)[j]? = some v → w.cell? ((⟨b, off + i * 3, none⟩ : Addr).add j) = some v) ∧ Byt w S Ai ni ci x.v := by
  obtain ⟨b, off, h1, h2, h3, h4⟩ := h.row (by omega)
  have hx : l[i]? = some (l[i]'(by have := h.len; omega)) := List.getElem?_eq_getElem _
  obtain ⟨Ai, ni, ci, h5, h6⟩ := h4 i _ hx
  exact ⟨b, off, _, Ai, ni, ci, h1, h2, h3, hx, fun j v hv => by rw [add_plain]; exact h5 j v hv, h6⟩

/-! ### whether one may be -/

end Go.Proofs.YtmakpjcgiiljfaaDoor

/-! Cells: changes that grow in memory; what reading takes. -/
namespace Go.Proofs.YtmakpjcgiiljfaaDoor
open Go.RowKit Codec

abbrev Ro := Option Addr × Nat × Nat
def chCells (L : List (Ro × Ch)) : List Value := (L.map fun y => (chV y.1.1 y.1.2.1 y.1.2.2 y.2).toList).flatten
theorem chCells_len (L : List (Ro × Ch)) : (chCells L).length = L.length * 3 := by
  induction L with
  | nil => rfl
  | cons y L ih =>
    unfold chCells at ih ⊢
    rw [List.map_cons, List.flatten_cons, List.length_append, ih, List.length_cons]
    simp [chV]
    omega
theorem chCells_at : ∀ (L : List (Ro × Ch)) (i : Nat) (y : Ro × Ch), L[i]? = some y → ∀ (j : Nat) (v : Value), (chV y.1.1 y.1.2.1 y.1.2.2 y.2)[j]? = some v → (chCells L)[i * 3 + j]? = some v
  | [], i, y, h, _, _, _ => by simp at h
  | z :: L, 0, y, h, j, v, hv => by
    simp at h
    subst h
    have hj : j < 3 := by
      have := (Array.getElem?_eq_some_iff.1 hv).1
      simpa [chV] using this
    unfold chCells
    rw [List.map_cons, List.flatten_cons, Nat.zero_mul, Nat.zero_add, List.getElem?_append_left (by simp [chV]; exact hj)]
    simpa using hv
  | z :: L, i + 1, y, h, j, v, hv => by
    have h' : L[i]? = some y := by simpa using h
    have ih := chCells_at L i y h' j v hv
    unfold chCells at ih ⊢
    rw [List.map_cons, List.flatten_cons, List.getElem?_append_right (by simp [chV]; omega), ← ih]
    congr 1
    simp [chV]
    omega
variable {w w' : World} {S T U : Nat → Prop} {v : Value} {l : List Ch}

/-! ### what reading takes -/
theorem ui_len {l : List UInt8} {e : Int} (h : uiE l e = 0) : e = 0 ∧ (uiL l e).length + 1 ≤ l.length := by
  unfold uiE at h
  by_cases he : e = 0
  · rw [if_pos he] at h
    refine ⟨he, ?_⟩
    unfold uiL
    rw [if_pos he, List.length_drop]
    have h1 := (put_rd 0 l (by omega) (by omega)).2.2.1
    have h2 := rd_le 0 l
    omega
  · rw [if_neg he] at h
    exact absurd h he
theorem fxL_len (l : List UInt8) (e k : Int) : (fxL l e k).length ≤ l.length := by
  unfold fxL
  split <;> simp
theorem byL_len (l : List UInt8) (e m : Int) : (byL l e m).length ≤ l.length := by
  have h1 := uiL_length l e
  have h2 := fxL_len (uiL l e) 0 (uiX l e)
  unfold byL
  split
  · exact h1
  · split <;> omega
theorem by_bad {l : List UInt8} {e m : Int} (h : byE l e m ≠ 0) : byB l e m = [] := by
  unfold byE at h
  unfold byB
  split
  · rfl
  · split
    · rfl
    · rename_i h1 h2
      rw [if_neg h1, if_neg h2] at h
      unfold fxB
      rw [if_neg h]
theorem by_take (l : List UInt8) (e m : Int) : (byB l e m ≠ [] ∨ byE l e m = 0) → e = 0 ∧ (byL l e m).length + (byB l e m).length + 1 ≤ l.length := by
  intro h
  have h0 : byE l e m = 0 := h.elim (fun h => Classical.byContradiction fun h2 => h (by_bad h2)) id
  have hu : uiE l e = 0 := Classical.byContradiction fun h2 => by
    unfold byE at h0
    rw [if_pos h2] at h0
    exact h2 h0
  obtain ⟨he, hl⟩ := ui_len hu
  refine ⟨he, ?_⟩
  unfold byE at h0
  unfold byL byB
  rw [if_neg (show ¬ uiE l e ≠ 0 from fun h => h hu)] at h0
  rw [if_neg (show ¬ uiE l e ≠ 0 from fun h => h hu), if_neg (show ¬ uiE l e ≠ 0 from fun h => h hu)]
  split at h0
  · exact absurd h0 (by decide)
  · rename_i h3
    rw [if_neg h3, if_neg h3]
    obtain ⟨_, _, h4⟩ := tkE_zero h0
    unfold fxL fxB
    rw [if_pos h0, if_pos h0, List.length_drop, List.length_take]
    omega
theorem by_few (l : List UInt8) (e : Int) (m : Nat) : (byB l e (m : Int)).length ≤ m := by
  unfold byB
  split
  · simp
  · split
    · simp
    · unfold fxB
      split
      · rw [List.length_take]
        omega
      · simp
theorem rc1_take {l : List UInt8} {e : Int} (h : mayC (rc1 l e).1 = true) : (rc1 l e).2.1.length + (rc1 l e).1.k.length + (rc1 l e).1.v.length + 1 ≤ l.length := by
  have hk := rc1_k l e
  have hk1 : byB l e 64 ≠ [] := by
    intro h2
    unfold mayC at h
    rw [hk, h2] at h
    simp at h
  have h1 := (by_take l e 64 (.inl hk1)).2
  have h2 := fxL_len (byL l e 64) (byE l e 64) 1
  rw [hk]
  unfold rc1
  split
  · simp only [List.length_nil]
    omega
  · simp only
    by_cases h3 : byE (fxL (byL l e 64) (byE l e 64) 1) (boE (byL l e 64) (byE l e 64)) 4096 = 0
    · have h4 := (by_take _ _ 4096 (.inr h3)).2
      omega
    · rw [by_bad h3]
      have h4 := byL_len (fxL (byL l e 64) (byE l e 64) 1) (boE (byL l e 64) (byE l e 64)) 4096
      simp only [List.length_nil]
      omega
end Go.Proofs.YtmakpjcgiiljfaaDoor

/-! Files: files in memory, in a row that may grow. -/
namespace Go.Proofs.YtmakpjcgiiljfaaDoor
open Go.RowKit Codec

abbrev Fi := List UInt8 × List UInt8
/-- A file's cells. -/
def fiV (A : Option Addr) (n c : Nat) (x : Fi) : Array Value := #[.string (st x.1), .slice A n c]
theorem fiV_one (A : Option Addr) (n c : Nat) (x : Fi) : (fiV A n c x).all (·.oneCell') = true := by simp [fiV, Value.oneCell']
/-- FILES IN MEMORY. -/
structure Fls (w : World) (S : Nat → Prop) (A : Option Addr) (n c : Nat) (l : Tb) : Prop where
  len : l.length = n
  cap : n ≤ c
  max : c ≤ maxLen
  row : 0 < n → ∃ b off, A = some ⟨b, off, none⟩ ∧ S b ∧ b < w.heap.size ∧ ∀ i x, l[i]? = some x → ∃ Ai ni ci, (∀ (j : Nat) (v : Value), (fiV Ai ni ci x)[j]? = some v → w.cell? ⟨b, off + i * 2 + j, none⟩ = some v) ∧ Byt w S Ai ni ci x.2
variable {w w' : World} {S T : Nat → Prop} {A : Option Addr} {n c : Nat} {l : Tb}
theorem Fls.turned (h : Fls w S A n c l) (ht : Turned T w w') (hd : ∀ k, k < w.heap.size → S k → ¬ T k) : Fls w' S A n c l :=
  ⟨h.len, h.cap, h.max, fun h0 => by
    obtain ⟨b, off, h1, h2, h3, h4⟩ := h.row h0
    refine ⟨b, off, h1, h2, Nat.lt_of_lt_of_le h3 ht.size, fun i x hx => ?_⟩
    obtain ⟨Ai, ni, ci, h5, h6⟩ := h4 i x hx
    exact ⟨Ai, ni, ci, fun j v hv => (cell_turned ht h3 (hd b h3 h2) _).trans (h5 j v hv), h6.turned ht hd⟩⟩
theorem Fls.below (h : Fls w S A n c l) (hb : Below w.heap.size w w') : Fls w' S A n c l :=
  h.turned (T := fun _ => False) ⟨hb.os, hb.tape, hb.output, hb.size, fun k hk _ => hb.block k hk⟩ fun _ _ _ h => h
theorem Fls.mono (h : Fls w S A n c l) (hT : ∀ k, k < w.heap.size → S k → T k) : Fls w T A n c l :=
  ⟨h.len, h.cap, h.max, fun h0 => by
    obtain ⟨b, off, h1, h2, h3, h4⟩ := h.row h0
    refine ⟨b, off, h1, hT b h3 h2, h3, fun i x hx => ?_⟩
    obtain ⟨Ai, ni, ci, h5, h6⟩ := h4 i x hx
    exact ⟨Ai, ni, ci, h5, h6.mono hT⟩⟩
theorem Fls.nil (w : World) (S : Nat → Prop) (A : Option Addr) (c : Nat) (hc : c ≤ maxLen) : Fls w S A 0 c [] := ⟨rfl, Nat.zero_le _, hc, fun h => absurd h (by omega)⟩
theorem Fls.at_ (h : Fls w S A n c l) {i : Nat} (hi : i < n) : ∃ b off x Ai ni ci, A = some ⟨b, off, none⟩ ∧ S b ∧ b < w.heap.size ∧ l[i]? = some x ∧ (∀ (j : Nat) (v : Value), (fiV Ai ni ci x)[j]? = some v → w.cell? ((⟨b, off + i * 2, none⟩ : Addr).add j) = some v) ∧ Byt w S Ai ni ci x.2 := by
  obtain ⟨b, off, h1, h2, h3, h4⟩ := h.row (by omega)
  have hx : l[i]? = some (l[i]'(by have := h.len; omega)) := List.getElem?_eq_getElem _
  obtain ⟨Ai, ni, ci, h5, h6⟩ := h4 i _ hx
  exact ⟨b, off, _, Ai, ni, ci, h1, h2, h3, hx, fun j v hv => by rw [add_plain]; exact h5 j v hv, h6⟩

def fiCells (L : List (Ro × Fi)) : List Value := (L.map fun y => (fiV y.1.1 y.1.2.1 y.1.2.2 y.2).toList).flatten
theorem fiCells_len (L : List (Ro × Fi)) : (fiCells L).length = L.length * 2 := by
  induction L with
  | nil => rfl
  | cons y L ih =>
    unfold fiCells at ih ⊢
    rw [List.map_cons, List.flatten_cons, List.length_append, ih, List.length_cons]
    simp [fiV]
    omega
theorem fiCells_at : ∀ (L : List (Ro × Fi)) (i : Nat) (y : Ro × Fi), L[i]? = some y → ∀ (j : Nat) (v : Value), (fiV y.1.1 y.1.2.1 y.1.2.2 y.2)[j]? = some v → (fiCells L)[i * 2 + j]? = some v
  | [], i, y, h, _, _, _ => by simp at h
  | z :: L, 0, y, h, j, v, hv => by
    simp at h
    subst h
    have hj : j < 2 := by
      have := (Array.getElem?_eq_some_iff.1 hv).1
      simpa [fiV] using this
    unfold fiCells
    rw [List.map_cons, List.flatten_cons, Nat.zero_mul, Nat.zero_add, List.getElem?_append_left (by simp [fiV]; exact hj)]
    simpa using hv
  | z :: L, i + 1, y, h, j, v, hv => by
    have h' : L[i]? = some y := by simpa using h
    have ih := fiCells_at L i y h' j v hv
    unfold fiCells at ih ⊢
    rw [List.map_cons, List.flatten_cons, List.getElem?_append_right (by simp [fiV]; omega), ← ih]
    congr 1
    simp [fiV]
    omega
variable {w w' : World} {S T U : Nat → Prop} {v : Value} {l : Tb}

end Go.Proofs.YtmakpjcgiiljfaaDoor

/-! Files: do paths rise? -/
namespace Go.Proofs.YtmakpjcgiiljfaaDoor
open Go.RowKit Codec

theorem st_leq (a b : List UInt8) : (Op.bytesLess (st a).toList (st b).toList || (st a).toList == (st b).toList) = !decide (b < a) := by
  rw [st_list, st_list, bytes_less]
  by_cases h : a < b
  · simp [h, klt_as h]
  · by_cases e : a = b
    · subst e
      simp [klt_irr]
    · have : b < a := Classical.byContradiction fun h2 => e (klt_tri h h2)
      simp [h, e, this]
/-- While they are looked at. -/
def RsR (w : World) (l : Tb) (i : Value) (wr : World) : Prop :=
  ∃ j : Nat, j ≤ l.length ∧ i = .int .i64 (j : Int) ∧ riseB (l.take j) = true ∧ Below w.heap.size w wr
theorem rise_step {l : Tb} {j : Nat} {x : Fi} (hx : l[j]? = some x) : riseB (l.take (j + 1)) = (riseB (l.take j) && pathOk x.1 && (match (l.take j).getLast? with | none => true | some y => decide (y.1 < x.1))) := by
  rw [List.take_add_one, hx]
  exact rise_snoc _ _
theorem rise_last {l : Tb} {m : Nat} {y : Fi} (hy : l[m]? = some y) : (l.take (m + 1)).getLast? = some y := by
  rw [List.take_add_one, hy]
  simp
theorem rise_bad {l : Tb} {k : Nat} (h : riseB (l.take k) = false) : riseB l = false := by
  cases e : riseB l with
  | false => rfl
  | true => rw [rise_take e] at h; cases h
end Go.Proofs.YtmakpjcgiiljfaaDoor

/-! Files: a set of strings: map[string]struct{}. -/
namespace Go.Proofs.YtmakpjcgiiljfaaDoor
open Go.RowKit Go.Maps Codec

/-- BLOCK b IS A SET OF JUST THESE NAMES. -/
def Sts (w : World) (b : Nat) (t : List (List UInt8)) : Prop :=
  ∃ D, w.ownsMap Tryd.prog 9 rv b t.length D ∧ (∀ k, Maps.has D (.string k) = decide (k ∈ t)) ∧ ∀ k, k ∈ t → ∀ z, D.atKey (.string k) z = .held (.agg #[])
variable {w w' : World} {b : Nat} {t : List (List UInt8)}
theorem Sts.lt (h : Sts w b t) : b < w.heap.size := by
  obtain ⟨D, ho, _⟩ := h
  exact ho.lt
theorem Sts.kept (h : Sts w b t) (hb : w'.heap[b]? = w.heap[b]?) : Sts w' b t := by
  obtain ⟨D, ho, h1, h2⟩ := h
  exact ⟨D, ownsMap_kept ho hb, h1, h2⟩
theorem made_set (w : World) : Sts (w.alloc (.map #[] 0)) w.heap.size [] :=
  ⟨.map [], World.ownsMap_made _ _ _ _, fun _ => rfl, fun _ h => by simp at h⟩
theorem str_key9 (k : List UInt8) (h : k.length ≤ maxLen) : keyOf Tryd.prog 9 (.string (st k)) = some (.string k) := by
  have h1 := Go.WideMaps.keyOf_string_mk (P := Tryd.prog) (k := 9) Tryd.underlying9 (s := st k) (by rw [st_size]; exact h)
  simpa [st] using h1
end Go.Proofs.YtmakpjcgiiljfaaDoor
