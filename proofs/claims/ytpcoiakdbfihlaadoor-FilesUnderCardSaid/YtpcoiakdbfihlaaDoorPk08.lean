/-
  Files: does a file stand where another one needs a directory?
  Files: are they more than may be?
  Files: may files be a tree?
-/
import Derived.Test.YtpcoiakdbfihlaaDoorPk03
import Derived.Test.YtpcoiakdbfihlaaDoorPk05
import Derived.Test.YtpcoiakdbfihlaaDoorPk06
import Derived.Test.YtpcoiakdbfihlaaDoorPk07
/-! Files: does a file stand where another one needs a directory? -/
namespace Go.Proofs.YtpcoiakdbfihlaaDoor
open Go.RowKit Go.Shelf Codec
attribute [local go_sem] Oper.semAt_some

/-! ### marks that rounds of an outer loop leave -/
def markD (E : Nat) : Deferred := { target := .collected E, args := #[] }
theorem leaves_marks {F : Fence} {n : Nat} {P : Program} {fn : Func} {tmps : Array Value} {R : Ending → World → Prop} {J : World → Prop} {B : Nat}
    (hJ : ∀ E W, B ≤ E → W.heap[E]? = some (.deferred (some [])) → J W → J (W.putObj E (.deferred none))) (hend : ∀ W, J W → ∃ v, (results fn tmps).run P W = .ok v W ∧ R (.returned v) W) :
    ∀ (Es : List Nat) (W : World), Es.Nodup → (∀ E ∈ Es, B ≤ E ∧ W.heap[E]? = some (.deferred (some []))) → J W → LeavesInM F n P fn tmps R (Es.map markD) .returning W
  | [], W, _, _, h => hend W h
  | E :: Es, W, hn, hE, h => by
    obtain ⟨h1, h2⟩ := hE E List.mem_cons_self
    obtain ⟨hn1, hn2⟩ := List.nodup_cons.1 hn
    refine ⟨by simp, .inl ⟨E, _, rfl, run_takeDeferred h2, leaves_marks hJ hend Es _ hn2 (fun D hD => ?_) (hJ E W h1 h2 h)⟩⟩
    obtain ⟨h3, h4⟩ := hE D (List.mem_cons_of_mem _ hD)
    exact ⟨h3, (World.putObj_heap_other (by rintro rfl; exact hn1 hD)).trans h4⟩
theorem results_cell1 {P : Program} {fn : Func} {p : Tmp} {t : TypeId} (h : fn.results = #[.cell p t]) (tmps : Array Value) (w : World) (a : Addr) {x : Value}
    (hp : tmps.getD p undef = .pointer (some a)) (hx : (loadVar t a).run P w = .ok x w) : (results fn tmps).run P w = .ok x w := by
  have hp' : tmps[p]?.getD undef = .pointer (some a) := by simpa using hp
  simp [results, h, hp', asAddr, hx]
theorem run_loadVar_truth {W : World} {g : Nat} {b : Bool} (h : W.heap[g]? = some (.cells #[.bool b] 4 (0, 0))) : (loadVar 4 ⟨g, 0, none⟩).run Tryd.prog W = .ok (.bool b) W := by
  have hc := cell_of_cells h 0
  simp only [List.getElem?_toArray, List.getElem?_cons_zero] at hc
  simp [loadVar, hc, go_sem]

theorem wpListIn_load_at {F : Fence} {n : Nat} {P : Program} {ops : Array Oper} {rest : List Oper} {o : Oper} {a : Act} {w : World} {Q : Exit → Act → World → Prop} (hgd : o.guard = none) (ty : TypeId) (x : Operand) (ho : o.op = .load ty x) (ad : Addr) (hx : a.eval x = .pointer (some ad)) (cs : Array Value) (d : TypeDesc)
    (hc : ∀ (j : Nat) (v : Value), cs[j]? = some v → w.cell? (ad.add j) = some v) (hu : P.underlying ty = some d) (hd : (match d with | .struct _ | .array _ _ => true | _ => false) = true) (hi : (P.info? ty).map (·.size) = some cs.size)
    (h : wpListIn F n P ops Q rest (a.put o.dst (.agg cs)) w) : wpListIn F n P ops Q (o :: rest) a w := by
  refine wpListIn_plain hgd fun K hK => ?_
  unfold Oper.wpIn
  refine ⟨?_, ?_⟩
  · simp [Oper.about, ho]
  · rw [Oper.semAt_plain F _ _ (by rw [ho]; intro c hc; cases hc)]
    unfold execOp
    simp only [ho, hx, Instr.loadAt, Instr.sureAddr, Sem.run_bind, Sem.run_pure, Result.andThen_ok, run_loadVar_at w ad ty cs d hc hu hd hi]
    exact hK _ _ h

/-! ### what holds -/
def clashAt (l : Tb) (i : Nat) : Bool := (fr (l[i]?.getD ([], [])).1).any fun q => (l.take i).any fun y => y.1 == q
theorem clashB_eq (l : Tb) : clashB l = (List.range l.length).any (clashAt l) := rfl
theorem clash_none {l : Tb} (h : ∀ i, i < l.length → clashAt l i = false) : clashB l = false := by
  rw [clashB_eq, List.any_eq_false]
  intro i hi
  rw [h i (List.mem_range.1 hi)]
  simp
theorem clash_some {l : Tb} {i : Nat} (hi : i < l.length) (h : clashAt l i = true) : clashB l = true := by
  rw [clashB_eq, List.any_eq_true]
  exact ⟨i, List.mem_range.2 hi, h⟩
def aheadL (l : Tb) (j : Nat) : List (List UInt8) := ((l.take j).map (·.1)).reverse
theorem clashAt_iff {l : Tb} {i : Nat} {x : Fi} (hx : l[i]? = some x) : clashAt l i = true ↔ ∃ q ∈ fr x.1, q ∈ aheadL l i := by
  unfold clashAt aheadL
  rw [hx]
  simp only [Option.getD_some, List.any_eq_true, List.mem_reverse, List.mem_map, beq_iff_eq]
theorem ahead_succ {l : Tb} {j : Nat} {x : Fi} (hx : l[j]? = some x) : aheadL l (j + 1) = x.1 :: aheadL l j := by
  unfold aheadL
  rw [List.take_add_one, hx]
  simp
/-- Between two files. -/
structure FcO (w : World) (l : Tb) (j : Nat) (Es : List Nat) (W : World) : Prop where
  none_ : ∀ i, i < j → clashAt l i = false
  res : W.heap[w.heap.size]? = some (.cells #[.bool false] 4 (0, 0))
  box : W.heap[w.heap.size + 1 + 1]? = some (.cells #[.map (some (w.heap.size + 1))] 90 (0, 0))
  set_ : Sts W (w.heap.size + 1) (aheadL l j)
  below : Below w.heap.size w W
  nodup : Es.Nodup
  marks : ∀ E ∈ Es, w.heap.size + 3 ≤ E ∧ W.heap[E]? = some (.deferred (some []))
/-- Between two names. -/
structure FcN (w : World) (l : Tb) (j : Nat) (Es : List Nat) (F : Nat) (x : Fi) (CV : Array Value) (k : Nat) (W : World) : Prop where
  all : FcO w l j Es W
  none_ : ∀ q ∈ (fr x.1).take k, q ∉ aheadL l j
  file : W.heap[F]? = some (.cells CV 50 (0, 0))
  end_ : W.heap[F + 1]? = some (.cells #[.int .i64 (atN x.1 k : Int)] 3 (0, 0))
/-- One was found. -/
structure FcX (w : World) (l : Tb) (j : Nat) (Es : List Nat) (c : Code) (W : World) : Prop where
  ret_ : c = .ret
  some_ : clashAt l j = true
  res : W.heap[w.heap.size]? = some (.cells #[.bool true] 4 (0, 0))
  below : Below w.heap.size w W
  nodup : Es.Nodup
  marks : ∀ E ∈ Es, w.heap.size + 3 ≤ E ∧ W.heap[E]? = some (.deferred (some []))
theorem FcO.steps {w : World} {l : Tb} {j : Nat} {Es : List Nat} {B p : Nat} {W W' : World} (h : FcO w l j Es W) (hs : Steps B (· = p) W W') (hp : w.heap.size + 3 ≤ p) (hB : p < B) (hE : ∀ E ∈ Es, E < B ∧ E ≠ p) : FcO w l j Es W' :=
  ⟨h.none_, (hs.block _ (lt_of_cells h.res) (by omega) (.inl (by omega))).trans h.res, (hs.block _ (lt_of_cells h.box) (by omega) (.inl (by omega))).trans h.box, h.set_.kept (hs.block _ h.set_.lt (by omega) (.inl (by omega))),
    hs.belowZ h.below (fun b hb => by omega) (Nat.le_refl _) (by omega), h.nodup, fun E hE' => ⟨(h.marks E hE').1, (hs.block _ (Array.getElem?_eq_some_iff.1 (h.marks E hE').2).1 (hE E hE').2 (.inl (hE E hE').1)).trans (h.marks E hE').2⟩⟩
theorem FcO.keep {w : World} {l : Tb} {j : Nat} {Es : List Nat} {W W' : World} {e : Nat} (h : FcO w l j Es W) (ht : Turned (· = e) W W') (he : w.heap.size + 3 ≤ e) (hE : ∀ E ∈ Es, E ≠ e) : FcO w l j Es W' :=
  ⟨h.none_, (ht.block _ (lt_of_cells h.res) (by omega)).trans h.res, (ht.block _ (lt_of_cells h.box) (by omega)).trans h.box, h.set_.kept (ht.block _ h.set_.lt (by omega)),
    h.below.trans ⟨ht.os, ht.tape, ht.output, ht.size, fun b hb => ht.block b (by have := h.below.size; omega) (by omega)⟩, h.nodup,
    fun E hE' => ⟨(h.marks E hE').1, (ht.block _ (Array.getElem?_eq_some_iff.1 (h.marks E hE').2).1 (hE E hE')).trans (h.marks E hE').2⟩⟩
theorem FcO.later {w : World} {l : Tb} {j : Nat} {Es : List Nat} {W W' : World} (h : FcO w l j Es W) (hb : Below W.heap.size W W') : FcO w l j Es W' :=
  h.keep (e := W.heap.size + w.heap.size + 3) (Turned.of_below hb) (by omega) (fun E hE => by have := (Array.getElem?_eq_some_iff.1 (h.marks E hE).2).1; omega)
theorem FcN.still {w : World} {l : Tb} {j : Nat} {Es : List Nat} {F : Nat} {x : Fi} {CV : Array Value} {B p : Nat} (hp : w.heap.size + 3 ≤ p) (hB : p < B) (hE : ∀ E ∈ Es, E < B ∧ E ≠ p) (hF : F + 1 < p) : StillZ B (· = p) (FcN w l j Es F x CV) := fun _ W W' h hs =>
  ⟨h.all.steps hs hp hB hE, h.none_, (hs.block _ (lt_of_cells h.file) (by omega) (.inl (by omega))).trans h.file, (hs.block _ (lt_of_cells h.end_) (by omega) (.inl (by omega))).trans h.end_⟩
theorem FcX.still {w : World} {l : Tb} {j : Nat} {Es : List Nat} {c : Code} {B p : Nat} (hp : w.heap.size + 3 ≤ p) (hB : p < B) (hE : ∀ E ∈ Es, E < B ∧ E ≠ p) : StillZ B (· = p) (fun _ => FcX w l j Es c) := fun _ W W' h hs =>
  ⟨h.ret_, h.some_, (hs.block _ (lt_of_cells h.res) (by omega) (.inl (by omega))).trans h.res, hs.belowZ h.below (fun b hb => by omega) (Nat.le_refl _) (by omega), h.nodup, fun E hE' => ⟨(h.marks E hE').1, (hs.block _ (Array.getElem?_eq_some_iff.1 (h.marks E hE').2).1 (hE E hE').2 (.inl (hE E hE').1)).trans (h.marks E hE').2⟩⟩
/-- The outer loop's frame. -/
def FcI (w : World) (A : Option Addr) (n c : Nat) (l : Tb) (a : Act) (W : World) : Prop :=
  ∃ (j : Nat) (Es : List Nat) (u5 u6 u14 u15 u16 u17 u18 u19 u37 u38 u39 u40 u41 : Value), j ≤ n ∧ FcO w l j Es W ∧
    a = { tmps := #[.slice A n c, undef, .pointer (some ⟨w.heap.size, 0, none⟩), .pointer (some ⟨w.heap.size + 1 + 1, 0, none⟩), undef, u5, u6, undef, undef, undef, .map (some (w.heap.size + 1)), .slice A n c, .int .i64 (n : Int), .int .i64 (j : Int), u14, u15, u16, u17, u18, u19, undef, undef, undef, undef, undef, undef, undef, undef, undef, undef, undef, undef, undef, undef, undef, undef, undef, u37, u38, u39, u40, u41], defers := Es.map markD }
set_option maxHeartbeats 8000000 in
set_option maxRecDepth 100000 in
theorem clash_any {w : World} {S : Nat → Prop} {A : Option Addr} {n c : Nat} {l : Tb} (hl : Fls w S A n c l) (hn : n ≤ 100000000) (hp : ∀ x ∈ l, x.1.length ≤ 255) :
    Calls Tryd.prog 33 #[.slice A n c] w fun e w' => e = .returned (.bool (clashB l)) ∧ Below w.heap.size w w' := by
  have HL := Lib.hid (And.intro hl (And.intro hl.len hp))
  have hzc := zero_fi
  have hmm := @run_makeMap Tryd.prog
  clear hl hp
  refine (callsIn_wide (n := 3)).1 ?_
  refine callsIn_of_wp_marks Tryd.func33 rfl trivial ?_ rfl
  simp only [Tryd.ntmps33, List.size_toArray, List.length_cons, List.length_nil, Nat.reduceAdd, Nat.reduceSub, Array.replicate_succ, Array.replicate_zero, List.push_toArray, List.append_toArray, List.nil_append, List.cons_append]
  gi_wp2
  have H0 : Hid (FcO w l 0 [] (((w.alloc (.cells #[.bool false] 4)).alloc (.map #[] 0)).alloc (.cells #[.map (some (w.heap.size + 1))] 90))) := Lib.hid (by
    have e1 := heap_alloc_new w (.cells #[.bool false] 4)
    have e2 := made_set (w.alloc (.cells #[.bool false] 4))
    have e3 := heap_alloc_new ((w.alloc (.cells #[.bool false] 4)).alloc (.map #[] 0)) (.cells #[.map (some (w.heap.size + 1))] 90)
    simp only [World.size_alloc] at e2 e3
    refine ⟨fun i hi => absurd hi (Nat.not_lt_zero _), ?_, e3, ?_, (((Below.refl _ w).alloc (Nat.le_refl _) _).alloc (by simp) _).alloc (by simp; omega) _, List.nodup_nil, fun _ h => by simp at h⟩
    · exact (Below.heap_alloc _ _ _ (by simp; omega)).trans ((Below.heap_alloc _ _ _ (by simp)).trans e1)
    · exact e2.kept (Below.heap_alloc _ _ _ (by simp)))
  generalize ((w.alloc (.cells #[.bool false] 4)).alloc (.map #[] 0)).alloc (.cells #[.map (some (w.heap.size + 1))] 90) = w0 at *
  refine wpIn_loop (FcI w A n c l) (fun a _ => n - (intOf (a.tmps.getD 13 undef)).toNat) ?_ ?_
  · exact ⟨0, [], _, _, _, _, _, _, _, _, _, _, _, _, _, Nat.zero_le _, H0.out, rfl⟩
  clear H0 w0
  intro a wr hI
  obtain ⟨j, Es, u5, u6, u14, u15, u16, u17, u18, u19, u37, u38, u39, u40, u41, hj, hO, rfl⟩ := hI
  by_cases hlt : j < n
  · have hlt' : (j : Int) < (n : Int) := by omega
    obtain ⟨q, off, x, Ai, ni, ci, rfl, _, hqlt, hx, hcs, hy⟩ := HL.out.1.at_ hlt
    obtain ⟨CV, hCV⟩ : ∃ CV, CV = fiV Ai ni ci x := ⟨_, rfl⟩
    rw [← hCV] at hcs
    have hcw : ∀ (i : Nat) (v : Value), CV[i]? = some v → wr.cell? ((⟨q, off + j * 2, none⟩ : Addr).add i) = some v := fun i v hv => by
      have h1 := hcs i v hv
      rw [add_plain] at h1 ⊢
      exact (hO.below.cell (p := ⟨_, _, none⟩) hqlt).trans h1
    have hadd := IntWalk.i64_in ((j : Int) + 1) (by omega)
    have HCV := Lib.hid (And.intro hCV hcw)
    have HX := Lib.hid (And.intro hx (And.intro hlt (HL.out.2.2 _ (List.mem_of_getElem? hx))))
    have HO := Lib.hid hO
    clear hCV hcw hcs hy hx hqlt hlt hO hmm
    dsimp only
    obtain ⟨W5, hW5⟩ : ∃ W5, W5 = (((wr.alloc (.cells #[.string ⟨#[]⟩, .slice none 0 0] 50)).setRow wr.heap.size CV).alloc (.cells #[.int .i64 0] 3)) := ⟨_, rfl⟩
    have hal : Below wr.heap.size wr ((wr.alloc (.cells #[.string ⟨#[]⟩, .slice none 0 0] 50)).setRow wr.heap.size CV) := below_setRow ((Below.refl _ _).alloc (Nat.le_refl _) _) (Nat.le_refl _) _
    have hpa : ((wr.alloc (.cells #[.string ⟨#[]⟩, .slice none 0 0] 50)).setRow wr.heap.size CV).heap[wr.heap.size]? = some (.cells CV 50 (0, 0)) := setRow_at (heap_alloc_new wr _)
    have hsa : ((wr.alloc (.cells #[.string ⟨#[]⟩, .slice none 0 0] 50)).setRow wr.heap.size CV).heap.size = wr.heap.size + 1 := by simp [World.setRow]
    have h5 : Below wr.heap.size wr W5 := by rw [hW5]; exact hal.alloc (by omega) _
    have hF5 : W5.heap[wr.heap.size]? = some (.cells CV 50 (0, 0)) := by rw [hW5]; exact (Below.heap_alloc _ _ _ (by omega)).trans hpa
    have hE5 : W5.heap[wr.heap.size + 1]? = some (.cells #[.int .i64 0] 3 (0, 0)) := by
      have := heap_alloc_new ((wr.alloc (.cells #[.string ⟨#[]⟩, .slice none 0 0] 50)).setRow wr.heap.size CV) (.cells #[.int .i64 0] 3)
      rw [hsa] at this
      rw [hW5]
      exact this
    have hs5 : W5.heap.size = wr.heap.size + 2 := by rw [hW5, World.size_alloc, hsa]
    obtain ⟨X, hX⟩ : ∃ X, X = x.1 := ⟨_, rfl⟩
    have hfield : W5.cell? ⟨wr.heap.size, 0, none⟩ = some (.string (st X)) := by rw [cell_of_cells hF5, HCV.out.1, hX]; rfl
    have hsq := splitseq_any X W5
    rw [hW5] at hfield hsq
    have H5 := Lib.hid (And.intro h5 (And.intro hF5 (And.intro hE5 (And.intro hs5 (And.intro hX hW5)))))
    clear hal hpa hsa h5 hF5 hE5 hs5 hX hW5
    gi_wp2_with (first
      | (refine wpListIn_load_at (by rfl) 50 (.tmp 15) (by rfl) ⟨q, off + j * 2, none⟩ (by rfl) CV _ HCV.out.2 Tryd.underlying50 (by rfl) (by rw [HCV.out.1]; exact fi_info) ?_)
      | (refine wpListIn_store_row (by rfl) 50 (.tmp 5) (.tmp 16) (by rfl) wr.heap.size CV (by rfl) (by rfl) 50 _ (heap_alloc_new wr _) (by rw [HCV.out.1]; exact fi_info) (by rw [HCV.out.1]; rfl) (by rw [HCV.out.1]; exact fiV_one _ _ _ _) ?_)
      | (refine ⟨trivial, ?_⟩; gi_at_call 30; refine (callsIn_wide.2 hsq).mono ?_; clear hsq; rintro _ w2 ⟨rfl, hsc, hb2, hs2⟩))
    rw [← H5.out.2.2.2.2.2] at hsc hb2 hs2
    rw [H5.out.2.2.2.1] at hsc hs2
    have hb5 : Below wr.heap.size wr w2 := H5.out.1.trans (hb2.mono H5.out.1.size)
    have hEs : ∀ E ∈ Es, E < wr.heap.size := fun E hE => (Array.getElem?_eq_some_iff.1 (HO.out.marks E hE).2).1
    have hw3 : w.heap.size + 3 ≤ wr.heap.size := by have := lt_of_cells HO.out.box; omega
    have hF2 : w2.heap[wr.heap.size]? = some (.cells CV 50 (0, 0)) := (hb2.block _ (lt_of_cells H5.out.2.1)).trans H5.out.2.1
    have hE2 : w2.heap[wr.heap.size + 1]? = some (.cells #[.int .i64 0] 3 (0, 0)) := (hb2.block _ (lt_of_cells H5.out.2.2.1)).trans H5.out.2.2.1
    have HN : Hid (FcN w l j Es wr.heap.size x CV 0 w2) := Lib.hid ⟨HO.out.later hb5, fun q hq => by simp at hq, hF2, by rw [hE2]; simp [atN]⟩
    have HS := Lib.hid (And.intro hsc (And.intro hs2 (And.intro hEs (And.intro hw3 H5.out.2.2.2.2.1))))
    clear hsc hb2 hs2 hb5 hEs hw3 hF2 hE2 hfield H5
    refine wpIn_rangeFunc_itZ (gf := 62) (lb := #[.pointer (some ⟨wr.heap.size + 1 + 1 + 1, 0, none⟩), .pointer (some ⟨wr.heap.size + 1 + 1, 0, none⟩), .pointer (some ⟨wr.heap.size + 1 + 1 + 2, 0, none⟩)]) rfl (enters_of Tryd.func62 (by kernel_rfl) rfl) (split_iter (wr.heap.size + 1 + 1) X (by have := HX.out.2.2; rw [← HS.out.2.2.2.2] at this; unfold maxLen; omega) w2 HS.out.1) (Below.refl _ _)
      (fun b hb => by have := HS.out.2.1; omega) (fun b hb => by have := HS.out.2.1; omega) (fun _ => rfl)
      (FcN w l j Es wr.heap.size x CV) (fun c _ => FcX w l j Es c) (FcN.still (by have := HS.out.2.2.2.1; omega) (by have := HS.out.2.1; omega) (fun E hE => by have h1 := HS.out.2.2.1 E hE; have h2 := HS.out.2.1; omega) (by omega))
      (fun _ => FcX.still (by have := HS.out.2.2.2.1; omega) (by have := HS.out.2.1; omega) (fun E hE => by have h1 := HS.out.2.2.1 E hE; have h2 := HS.out.2.1; omega)) HN.out
      (fun y a' _ => a' = { tmps := #[.slice (some ⟨q, off, none⟩) n c, undef, .pointer (some ⟨w.heap.size, 0, none⟩), .pointer (some ⟨w.heap.size + 1 + 1, 0, none⟩), undef, .pointer (some ⟨wr.heap.size, 0, none⟩), .pointer (some ⟨wr.heap.size + 1, 0, none⟩), .string (st y), undef, undef, .map (some (w.heap.size + 1)), .slice (some ⟨q, off, none⟩) n c, .int .i64 (n : Int), .int .i64 (j : Int), .bool true, .pointer (some ⟨q, off + j * 2, none⟩), .agg CV, .pointer (some ⟨wr.heap.size, 0, none⟩), .string (st X), splFn (wr.heap.size + 1 + 1), .string (st y), undef, undef, undef, undef, undef, undef, undef, undef, undef, undef, undef, undef, undef, undef, undef, undef, u37, u38, u39, u40, u41], defers := [] }) (fun _ _ => ownFrom_pure _ _) ?assign ?body ?done ?stop
    case assign =>
      intro ly k y W C _ hi hC
      gi_wp2
      exact hC _ _ (Kept.refl _ _ _ _) hi (by simp)
    case stop =>
      rintro E cc k y W rfl hws hy ⟨rfl, hca, hres, hbel, hnd, hmk⟩ hK
      have hw3 := HS.out.2.2.2.1
      have hs2 := HS.out.2.1
      have hCB : clashB l = true := clash_some (by have h1 := HX.out.2.1; have h2 := HL.out.2.1; omega) hca
      have HZ := Lib.hid (And.intro hres (And.intro hbel (And.intro hnd (And.intro hmk (And.intro hK hCB)))))
      have HEs := HS.out.2.2.1
      clear hres hbel hnd hmk hK hca hCB
      dsimp only
      gi_wp2
      refine leaves_marks (J := fun W => W.heap[w.heap.size]? = some (.cells #[.bool true] 4 (0, 0)) ∧ Below w.heap.size w W) (B := w.heap.size + 3) (fun E W hE hd hJ => ⟨(World.putObj_heap_other (by omega)).trans hJ.1, hJ.2.trans (belowK_b (w := w) (Nat.le_refl _) W E _ _ (by omega) hd rfl rfl)⟩) (fun W hJ => ⟨_, results_cell1 rfl _ W ⟨w.heap.size, 0, none⟩ rfl (run_loadVar_truth hJ.1), by rw [HZ.out.2.2.2.2.2], hJ.2⟩) (w2.heap.size :: Es) W (List.nodup_cons.2 ⟨fun h => by have := HEs _ h; omega, HZ.out.2.2.1⟩) ?_ ⟨HZ.out.1, HZ.out.2.1⟩
      intro E hE
      rcases List.mem_cons.1 hE with rfl | hE
      · exact ⟨by omega, HZ.out.2.2.2.2.1⟩
      · exact HZ.out.2.2.2.1 E hE
    case done =>
      rintro E W rfl hws hN hK
      have hw3 := HS.out.2.2.2.1
      have hs2 := HS.out.2.1
      have hXx := HS.out.2.2.2.2
      obtain ⟨W9, hput, hst9, hm9⟩ := hN.all.set_.put (k := X) (by have := HX.out.2.2; rw [← hXx] at this; unfold maxLen; omega) (by unfold aheadL; rw [List.length_reverse, List.length_map, List.length_take]; have := HL.out.2.1; omega)
      have ht9 : Turned (· = w.heap.size + 1) W W9 := Turned.of_gr hm9.grown fun _ e => (Option.some.inj e).symm
      have hbx := cell_of_cells hN.all.box 0
      have hfl := cell_of_cells hN.file 0
      rw [HCV.out.1] at hfl
      simp only [List.getElem?_toArray, List.getElem?_cons_zero, fiV] at hbx hfl
      rw [← hXx] at hfl
      have hbu : ∀ w, (Instr.build 91 #[]).run Tryd.prog w = .ok (.agg #[]) w := fun w => by kernel_rfl
      have hcl : clashAt l j = false := by
        cases e : clashAt l j with
        | false => rfl
        | true =>
          obtain ⟨r, h1, h2⟩ := (clashAt_iff HX.out.1).1 e
          rw [← hXx] at h1
          exact absurd h2 (hN.none_ r (by rw [← hXx, List.take_of_length_le (by rw [fr_length]; exact Nat.le_refl _)]; exact h1))
      have HZ : Hid (FcO w l (j + 1) (w2.heap.size :: Es) W9) := Lib.hid (by
        have hO := hN.all
        refine ⟨fun i hi => ?_, (ht9.block _ (lt_of_cells hO.res) (by omega)).trans hO.res, (ht9.block _ (lt_of_cells hO.box) (by omega)).trans hO.box, ?_, hO.below.trans ⟨ht9.os, ht9.tape, ht9.output, ht9.size, fun b hb => ht9.block b (by have := hO.below.size; omega) (by omega)⟩, List.nodup_cons.2 ⟨fun h => by have := HS.out.2.2.1 _ h; omega, hO.nodup⟩, fun D hD => ?_⟩
        · by_cases h : i = j
          · rw [h]
            exact hcl
          · exact hO.none_ i (by omega)
        · rw [ahead_succ HX.out.1, ← hXx]
          exact hst9
        · rcases List.mem_cons.1 hD with rfl | hD
          · exact ⟨by omega, (ht9.block _ (by omega) (by omega)).trans hK⟩
          · have h1 := hO.marks D hD
            exact ⟨h1.1, (ht9.block _ (Array.getElem?_eq_some_iff.1 h1.2).1 (by omega)).trans h1.2⟩)
      clear hN hK hst9 hm9 ht9 hcl hXx
      dsimp only
      gi_wp2
      refine ⟨⟨j + 1, w2.heap.size :: Es, _, _, _, _, _, _, _, _, _, _, _, _, _, by have := HX.out.2.1; omega, HZ.out, rfl⟩, ?_⟩
      have := HX.out.2.1
      simp [intOf]
      omega
    case body =>
      rintro ly k y a' Wa hly hW hy hN rfl
      dsimp only
      obtain ⟨hfr, hfr2⟩ := fr_get X k y hy
      have hX1 := HS.out.2.2.2.2
      have hlen := HX.out.2.2
      rw [← hX1] at hlen
      have hend := hN.end_
      rw [← hX1] at hend
      have hE0 := cell_of_cells hend 0
      simp only [List.getElem?_toArray, List.getElem?_cons_zero] at hE0
      have hfz := free_of_cells hend 0
      have hsz := st_size y
      obtain ⟨T, hT⟩ : ∃ T, T = atN X k := ⟨_, rfl⟩
      obtain ⟨N1, hN1⟩ : ∃ N1, N1 = y.length := ⟨_, rfl⟩
      rw [← hT] at hE0 hfr hfr2 hend
      rw [← hN1] at hfr hfr2 hsz
      obtain ⟨M, hM⟩ : ∃ M, M = T + N1 := ⟨_, rfl⟩
      rw [← hM] at hfr hfr2
      have hadd1 : IntKind.i64.wrap ((T : Int) + (N1 : Int)) = (M : Int) := by rw [IntWalk.i64_in _ (by omega)]; omega
      obtain ⟨W8, hW8⟩ : ∃ W8, W8 = Wa.setCell ⟨wr.heap.size + 1, 0, none⟩ (.int .i64 (M : Int)) := ⟨_, rfl⟩
      have hE8 : W8.heap[wr.heap.size + 1]? = some (.cells #[.int .i64 (M : Int)] 3 (0, 0)) := by rw [hW8]; simpa using set_of_cells hend 0 (.int .i64 (M : Int))
      have ht8 : Turned (· = wr.heap.size + 1) Wa W8 := by rw [hW8]; exact Turned.set (S := fun b => b = wr.heap.size + 1) (Turned.refl _ _) (p := wr.heap.size + 1) rfl _ _
      have hsx : atN x.1 (k + 1) = M + 1 := by rw [← hX1, atN_succ X k y hy, ← hT, ← hN1, hM]
      have HB := Lib.hid (And.intro hN (And.intro hE8 (And.intro ht8 (And.intro hfr (And.intro hfr2 (And.intro hsx (And.intro hend hlen)))))))
      clear hN hE8 ht8 hfr hfr2 hT hN1 hM hsx hX1 hend hlen
      gi_wp2
      rw [← hW8]
      have hto := fun W => st_to (P := Tryd.prog) 9 Tryd.underlying9 X W M (M : Int) rfl HB.out.2.2.2.1
      have HTO := Lib.hid hto
      have HC : Hid (∀ Y, Below W8.drew.heap.size W8.drew Y → Y.cell? ⟨w.heap.size + 1 + 1, 0, none⟩ = some (.map (some (w.heap.size + 1))) ∧ Y.cell? ⟨wr.heap.size, 0, none⟩ = some (.string (st X)) ∧ Y.cell? ⟨wr.heap.size + 1, 0, none⟩ = some (.int .i64 (M : Int)) ∧
          (Instr.lookup 90 (.map (some (w.heap.size + 1))) (.string (st (X.take M))) true).run Tryd.prog Y = .ok (.tuple #[.agg #[], .bool (decide (X.take M ∈ aheadL l j))]) Y) := Lib.hid fun Y hY => by
        have h9 := Grow.below_of_drew hY
        have hN := HB.out.1
        have hw3 := HS.out.2.2.2.1
        have h1 := (h9.block _ (Nat.lt_of_lt_of_le (lt_of_cells hN.all.box) HB.out.2.2.1.size)).trans ((HB.out.2.2.1.block _ (lt_of_cells hN.all.box) (by omega)).trans hN.all.box)
        have h2 := (h9.block _ (Nat.lt_of_lt_of_le (lt_of_cells hN.file) HB.out.2.2.1.size)).trans ((HB.out.2.2.1.block _ (lt_of_cells hN.file) (by omega)).trans hN.file)
        have h3 := (h9.block _ (lt_of_cells HB.out.2.1)).trans HB.out.2.1
        have h4 : Sts Y (w.heap.size + 1) (aheadL l j) := hN.all.set_.kept ((h9.block _ (Nat.lt_of_lt_of_le hN.all.set_.lt HB.out.2.2.1.size)).trans (HB.out.2.2.1.block _ hN.all.set_.lt (by omega)))
        refine ⟨by rw [cell_of_cells h1]; rfl, by rw [cell_of_cells h2, HCV.out.1, HS.out.2.2.2.2]; rfl, by rw [cell_of_cells h3]; rfl, h4.look (by rw [List.length_take]; have := HB.out.2.2.2.2.2.2.2; unfold maxLen; omega)⟩
      clear hto hE0 hfz hadd1 hsz hW8
      by_cases hin : X.take M ∈ aheadL l j
      · rw [decide_eq_true hin] at HC
        have HIN := Lib.hid hin
        clear hin
        refine wpIn_region_growF (Grow.open_round _ _ _) (fun W W' => Below W.heap.size W W') (Grow.nth [fun v _ => v = .map (some (w.heap.size + 1)), fun v _ => v = .pointer (some ⟨wr.heap.size, 0, none⟩), fun v _ => v = .string (st X), fun v _ => v = .int .i64 (M : Int), fun v _ => v = .string (st (X.take M)), fun v _ => v = .tuple #[.agg #[], .bool true], fun v _ => v = .tuple #[.agg #[], .bool true], fun v _ => v = .agg #[], fun v _ => v = .bool true, fun v _ => ∃ g, v = .pointer (some ⟨g, 0, none⟩), fun _ _ => True, fun v _ => v = .bool true]) 42 (by kernel_rfl) (by kernel_rfl) (by kernel_rfl) (by rfl) (fun W => Below.refl _ W) (fun _ _ _ h1 h2 => h1.trans (h2.mono h1.size)) (Grow.mono_nth ?gmono) ?gsteps ?gfin
        case gmono => exact ⟨fun _ _ _ h _ => h, fun _ _ _ h _ => h, fun _ _ _ h _ => h, fun _ _ _ h _ => h, fun _ _ _ h _ => h, fun _ _ _ h _ => h, fun _ _ _ h _ => h, fun _ _ _ h _ => h, fun _ _ _ h _ => h, fun _ _ _ h _ => h, fun _ _ _ h _ => h, fun _ _ _ h _ => h, trivial⟩
        case gsteps =>
          show Grow.allBelow _ 12
          refine And.intro ?_ ?s11
          refine And.intro ?_ ?s10
          refine And.intro ?_ ?s9
          refine And.intro ?_ ?s8
          refine And.intro ?_ ?s7
          refine And.intro ?_ ?s6
          refine And.intro ?_ ?s5
          refine And.intro ?_ ?s4
          refine And.intro ?_ ?s3
          refine And.intro ?_ ?s2
          refine And.intro ?_ ?s1
          refine And.intro ?_ ?s0
          exact trivial
          case s0 =>
            refine Grow.step_in (by rfl) (by rfl) ?_
            intro E W ec eg ef hG hd hu R HR
            have e3 : E (.tmp 3) = .pointer (some ⟨w.heap.size + 1 + 1, 0, none⟩) := hu 3 (by kernel_rfl)
            clear hd hu
            obtain ⟨k1, k2, k3, k4⟩ := HC.out W hG
            go_simp
            exact HR.out _ _ (Below.refl _ _) rfl
          case s1 =>
            refine Grow.step_in (by rfl) (by rfl) ?_
            intro E W ec eg ef hG hd hu R HR
            have e5 : E (.tmp 5) = .pointer (some ⟨wr.heap.size, 0, none⟩) := hu 5 (by kernel_rfl)
            clear hd hu
            go_simp
            exact HR.out _ _ (Below.refl _ _) rfl
          case s2 =>
            refine Grow.step_in (by rfl) (by rfl) ?_
            intro E W ec eg ef hG hd hu R HR
            have e27 : E (.tmp 27) = .pointer (some ⟨wr.heap.size, 0, none⟩) := hd 1 27 (by kernel_rfl)
            clear hd hu
            obtain ⟨k1, k2, k3, k4⟩ := HC.out W hG
            go_simp
            exact HR.out _ _ (Below.refl _ _) rfl
          case s3 =>
            refine Grow.step_in (by rfl) (by rfl) ?_
            intro E W ec eg ef hG hd hu R HR
            have e6 : E (.tmp 6) = .pointer (some ⟨wr.heap.size + 1, 0, none⟩) := hu 6 (by kernel_rfl)
            clear hd hu
            obtain ⟨k1, k2, k3, k4⟩ := HC.out W hG
            go_simp
            exact HR.out _ _ (Below.refl _ _) rfl
          case s4 =>
            refine Grow.step_in (by rfl) (by rfl) ?_
            intro E W ec eg ef hG hd hu R HR
            have e28 : E (.tmp 28) = .string (st X) := hd 2 28 (by kernel_rfl)
            have e29 : E (.tmp 29) = .int .i64 (M : Int) := hd 3 29 (by kernel_rfl)
            clear hd hu
            have k5 := HTO.out W
            go_simp
            exact HR.out _ _ (Below.refl _ _) rfl
          case s5 =>
            refine Grow.step_in (by rfl) (by rfl) ?_
            intro E W ec eg ef hG hd hu R HR
            have e26 : E (.tmp 26) = .map (some (w.heap.size + 1)) := hd 0 26 (by kernel_rfl)
            have e30 : E (.tmp 30) = .string (st (X.take M)) := hd 4 30 (by kernel_rfl)
            clear hd hu
            obtain ⟨k1, k2, k3, k4⟩ := HC.out W hG
            go_simp
            exact HR.out _ _ (Below.refl _ _) rfl
          case s6 =>
            refine Grow.step_in (by rfl) (by rfl) ?_
            intro E W ec eg ef hG hd hu R HR
            have e31 : E (.tmp 31) = .tuple #[.agg #[], .bool true] := hd 5 31 (by kernel_rfl)
            clear hd hu
            go_simp
            exact HR.out _ _ (Below.refl _ _) rfl
          case s7 =>
            refine Grow.step_in (by rfl) (by rfl) ?_
            intro E W ec eg ef hG hd hu R HR
            have e25 : E (.tmp 25) = .tuple #[.agg #[], .bool true] := hd 6 25 (by kernel_rfl)
            clear hd hu
            go_simp
            exact HR.out _ _ (Below.refl _ _) rfl
          case s8 =>
            refine Grow.step_in (by rfl) (by rfl) ?_
            intro E W ec eg ef hG hd hu R HR
            have e25 : E (.tmp 25) = .tuple #[.agg #[], .bool true] := hd 6 25 (by kernel_rfl)
            clear hd hu
            go_simp
            exact HR.out _ _ (Below.refl _ _) rfl
          case s9 =>
            refine Grow.step_in (by rfl) (by rfl) ?_
            intro E W ec eg ef hG hd hu R HR
            clear hd hu
            go_simp
            exact HR.out _ _ ((Below.refl _ _).alloc (Nat.le_refl _) _) ⟨_, rfl⟩
          case s10 =>
            refine Grow.step_in (by rfl) (by rfl) ?_
            intro E W ec eg ef hG hd hu R HR
            have h8 := hd 9 8 (by kernel_rfl)
            have e32 : E (.tmp 32) = .agg #[] := hd 7 32 (by kernel_rfl)
            clear hd hu
            obtain ⟨g8, e8⟩ := h8
            have hsu := store_unit W g8
            go_simp
            exact HR.out _ _ (Below.refl _ _) trivial
          case s11 =>
            refine Grow.step_in (by rfl) (by rfl) ?_
            intro E W ec eg ef hG hd hu R HR
            have e33 : E (.tmp 33) = .bool true := hd 8 33 (by kernel_rfl)
            clear hd hu
            go_simp
            exact HR.out _ _ (Below.refl _ _) rfl
        case gfin =>
          intro W hG
          refine Grow.fin_dst (by rfl) ?_
          rintro _ rfl
          refine Grow.fin_dst (by rfl) ?_
          rintro _ rfl
          refine Grow.fin_dst (by rfl) ?_
          rintro _ rfl
          refine Grow.fin_dst (by rfl) ?_
          rintro _ rfl
          refine Grow.fin_dst (by rfl) ?_
          rintro _ rfl
          refine Grow.fin_dst (by rfl) ?_
          rintro _ rfl
          refine Grow.fin_dst (by rfl) ?_
          rintro _ rfl
          refine Grow.fin_dst (by rfl) ?_
          rintro _ rfl
          refine Grow.fin_dst (by rfl) ?_
          rintro _ rfl
          refine Grow.fin_dst (by rfl) ?_
          rintro _ ⟨g8, rfl⟩
          refine Grow.fin_told (by rfl) ?_
          rintro _
          refine Grow.fin_dst (by rfl) ?_
          rintro _ rfl
          simp only [Act.put, List.setIfInBounds_toArray, List.set_cons_zero, List.set_cons_succ]
          refine Grow.fin_end ?_
          have h9 := Grow.below_of_drew hG
          have ht9 : Turned (· = wr.heap.size + 1) Wa W := HB.out.2.2.1.trans (Turned.of_below h9) fun _ _ h => h
          have hO9 := HB.out.1.all.keep ht9 (by have := HS.out.2.2.2.1; omega) (fun E hE => by have := HS.out.2.2.1 E hE; omega)
          have hfz := free_of_cells hO9.res 0
          have hc0 := cell_of_cells hO9.res 0
          simp only [List.getElem?_toArray, List.getElem?_cons_zero] at hc0
          have HZ := Lib.hid (And.intro hO9 ht9)
          clear hG h9 ht9 hO9
          gi_wp2
          have hw3 := HS.out.2.2.2.1
          have hs2 := HS.out.2.1
          refine ⟨(Kept.of_turned HZ.out.2 HB.out.2.2.2.2.2.2.1 (by omega) (by omega)).trans (Kept.of_gr (row := some w.heap.size) (grownBy_setCell' W w.heap.size _) fun g e => ?_), rfl, (clashAt_iff HX.out.1).2 ⟨X.take M, ?_, HIN.out⟩, by simpa using set_of_cells HZ.out.1.res 0 (.bool true), HZ.out.1.below.setCell (p := ⟨w.heap.size, 0, none⟩) (Nat.le_refl _) _, HZ.out.1.nodup, fun E hE => ⟨(HZ.out.1.marks E hE).1, (Below.heap_setCell _ _ _ _ (by have := (HZ.out.1.marks E hE).1; show E ≠ w.heap.size; omega)).trans (HZ.out.1.marks E hE).2⟩⟩
          · injection e with e
            subst e
            exact ⟨by omega, by omega, _, _, _, HZ.out.1.res⟩
          · rw [← HS.out.2.2.2.2]
            exact List.mem_of_getElem? HB.out.2.2.2.2.1
      · rw [decide_eq_false hin] at HC
        have HIN := Lib.hid hin
        clear hin
        refine wpIn_region_growF (Grow.open_round _ _ _) (fun W W' => Below W.heap.size W W') (Grow.nth [fun v _ => v = .map (some (w.heap.size + 1)), fun v _ => v = .pointer (some ⟨wr.heap.size, 0, none⟩), fun v _ => v = .string (st X), fun v _ => v = .int .i64 (M : Int), fun v _ => v = .string (st (X.take M)), fun v _ => v = .tuple #[.agg #[], .bool false], fun v _ => v = .tuple #[.agg #[], .bool false], fun v _ => v = .agg #[], fun v _ => v = .bool false, fun v _ => ∃ g, v = .pointer (some ⟨g, 0, none⟩), fun _ _ => True, fun v _ => v = .bool false]) 42 (by kernel_rfl) (by kernel_rfl) (by kernel_rfl) (by rfl) (fun W => Below.refl _ W) (fun _ _ _ h1 h2 => h1.trans (h2.mono h1.size)) (Grow.mono_nth ?gmono) ?gsteps ?gfin
        case gmono => exact ⟨fun _ _ _ h _ => h, fun _ _ _ h _ => h, fun _ _ _ h _ => h, fun _ _ _ h _ => h, fun _ _ _ h _ => h, fun _ _ _ h _ => h, fun _ _ _ h _ => h, fun _ _ _ h _ => h, fun _ _ _ h _ => h, fun _ _ _ h _ => h, fun _ _ _ h _ => h, fun _ _ _ h _ => h, trivial⟩
        case gsteps =>
          show Grow.allBelow _ 12
          refine And.intro ?_ ?s11
          refine And.intro ?_ ?s10
          refine And.intro ?_ ?s9
          refine And.intro ?_ ?s8
          refine And.intro ?_ ?s7
          refine And.intro ?_ ?s6
          refine And.intro ?_ ?s5
          refine And.intro ?_ ?s4
          refine And.intro ?_ ?s3
          refine And.intro ?_ ?s2
          refine And.intro ?_ ?s1
          refine And.intro ?_ ?s0
          exact trivial
          case s0 =>
            refine Grow.step_in (by rfl) (by rfl) ?_
            intro E W ec eg ef hG hd hu R HR
            have e3 : E (.tmp 3) = .pointer (some ⟨w.heap.size + 1 + 1, 0, none⟩) := hu 3 (by kernel_rfl)
            clear hd hu
            obtain ⟨k1, k2, k3, k4⟩ := HC.out W hG
            go_simp
            exact HR.out _ _ (Below.refl _ _) rfl
          case s1 =>
            refine Grow.step_in (by rfl) (by rfl) ?_
            intro E W ec eg ef hG hd hu R HR
            have e5 : E (.tmp 5) = .pointer (some ⟨wr.heap.size, 0, none⟩) := hu 5 (by kernel_rfl)
            clear hd hu
            go_simp
            exact HR.out _ _ (Below.refl _ _) rfl
          case s2 =>
            refine Grow.step_in (by rfl) (by rfl) ?_
            intro E W ec eg ef hG hd hu R HR
            have e27 : E (.tmp 27) = .pointer (some ⟨wr.heap.size, 0, none⟩) := hd 1 27 (by kernel_rfl)
            clear hd hu
            obtain ⟨k1, k2, k3, k4⟩ := HC.out W hG
            go_simp
            exact HR.out _ _ (Below.refl _ _) rfl
          case s3 =>
            refine Grow.step_in (by rfl) (by rfl) ?_
            intro E W ec eg ef hG hd hu R HR
            have e6 : E (.tmp 6) = .pointer (some ⟨wr.heap.size + 1, 0, none⟩) := hu 6 (by kernel_rfl)
            clear hd hu
            obtain ⟨k1, k2, k3, k4⟩ := HC.out W hG
            go_simp
            exact HR.out _ _ (Below.refl _ _) rfl
          case s4 =>
            refine Grow.step_in (by rfl) (by rfl) ?_
            intro E W ec eg ef hG hd hu R HR
            have e28 : E (.tmp 28) = .string (st X) := hd 2 28 (by kernel_rfl)
            have e29 : E (.tmp 29) = .int .i64 (M : Int) := hd 3 29 (by kernel_rfl)
            clear hd hu
            have k5 := HTO.out W
            go_simp
            exact HR.out _ _ (Below.refl _ _) rfl
          case s5 =>
            refine Grow.step_in (by rfl) (by rfl) ?_
            intro E W ec eg ef hG hd hu R HR
            have e26 : E (.tmp 26) = .map (some (w.heap.size + 1)) := hd 0 26 (by kernel_rfl)
            have e30 : E (.tmp 30) = .string (st (X.take M)) := hd 4 30 (by kernel_rfl)
            clear hd hu
            obtain ⟨k1, k2, k3, k4⟩ := HC.out W hG
            go_simp
            exact HR.out _ _ (Below.refl _ _) rfl
          case s6 =>
            refine Grow.step_in (by rfl) (by rfl) ?_
            intro E W ec eg ef hG hd hu R HR
            have e31 : E (.tmp 31) = .tuple #[.agg #[], .bool false] := hd 5 31 (by kernel_rfl)
            clear hd hu
            go_simp
            exact HR.out _ _ (Below.refl _ _) rfl
          case s7 =>
            refine Grow.step_in (by rfl) (by rfl) ?_
            intro E W ec eg ef hG hd hu R HR
            have e25 : E (.tmp 25) = .tuple #[.agg #[], .bool false] := hd 6 25 (by kernel_rfl)
            clear hd hu
            go_simp
            exact HR.out _ _ (Below.refl _ _) rfl
          case s8 =>
            refine Grow.step_in (by rfl) (by rfl) ?_
            intro E W ec eg ef hG hd hu R HR
            have e25 : E (.tmp 25) = .tuple #[.agg #[], .bool false] := hd 6 25 (by kernel_rfl)
            clear hd hu
            go_simp
            exact HR.out _ _ (Below.refl _ _) rfl
          case s9 =>
            refine Grow.step_in (by rfl) (by rfl) ?_
            intro E W ec eg ef hG hd hu R HR
            clear hd hu
            go_simp
            exact HR.out _ _ ((Below.refl _ _).alloc (Nat.le_refl _) _) ⟨_, rfl⟩
          case s10 =>
            refine Grow.step_in (by rfl) (by rfl) ?_
            intro E W ec eg ef hG hd hu R HR
            have h8 := hd 9 8 (by kernel_rfl)
            have e32 : E (.tmp 32) = .agg #[] := hd 7 32 (by kernel_rfl)
            clear hd hu
            obtain ⟨g8, e8⟩ := h8
            have hsu := store_unit W g8
            go_simp
            exact HR.out _ _ (Below.refl _ _) trivial
          case s11 =>
            refine Grow.step_in (by rfl) (by rfl) ?_
            intro E W ec eg ef hG hd hu R HR
            have e33 : E (.tmp 33) = .bool false := hd 8 33 (by kernel_rfl)
            clear hd hu
            go_simp
            exact HR.out _ _ (Below.refl _ _) rfl
        case gfin =>
          intro W hG
          refine Grow.fin_dst (by rfl) ?_
          rintro _ rfl
          refine Grow.fin_dst (by rfl) ?_
          rintro _ rfl
          refine Grow.fin_dst (by rfl) ?_
          rintro _ rfl
          refine Grow.fin_dst (by rfl) ?_
          rintro _ rfl
          refine Grow.fin_dst (by rfl) ?_
          rintro _ rfl
          refine Grow.fin_dst (by rfl) ?_
          rintro _ rfl
          refine Grow.fin_dst (by rfl) ?_
          rintro _ rfl
          refine Grow.fin_dst (by rfl) ?_
          rintro _ rfl
          refine Grow.fin_dst (by rfl) ?_
          rintro _ rfl
          refine Grow.fin_dst (by rfl) ?_
          rintro _ ⟨g8, rfl⟩
          refine Grow.fin_told (by rfl) ?_
          rintro _
          refine Grow.fin_dst (by rfl) ?_
          rintro _ rfl
          simp only [Act.put, List.setIfInBounds_toArray, List.set_cons_zero, List.set_cons_succ]
          refine Grow.fin_end ?_
          have h9 := Grow.below_of_drew hG
          have ht9 : Turned (· = wr.heap.size + 1) Wa W := HB.out.2.2.1.trans (Turned.of_below h9) fun _ _ h => h
          have hE9 := (h9.block _ (lt_of_cells HB.out.2.1)).trans HB.out.2.1
          have hfz := free_of_cells hE9 0
          have hc0 := cell_of_cells hE9 0
          simp only [List.getElem?_toArray, List.getElem?_cons_zero] at hc0
          have hadd2 : IntKind.i64.wrap ((M : Int) + 1) = (M : Int) + 1 := IntWalk.i64_in _ (by have h1 := HB.out.2.2.2.1; have h2 := HB.out.2.2.2.2.2.2.2; omega)
          have HZ := Lib.hid (And.intro hE9 ht9)
          clear hG h9 ht9 hE9
          gi_wp2
          have hw3 := HS.out.2.2.2.1
          have hs2 := HS.out.2.1
          have ht12 : Turned (· = wr.heap.size + 1) Wa (W.setCell ⟨wr.heap.size + 1, 0, none⟩ (.int .i64 ((M : Int) + 1))) := Turned.set (S := fun b => b = wr.heap.size + 1) HZ.out.2 (p := wr.heap.size + 1) rfl _ _
          refine ⟨Kept.of_turned ht12 HB.out.2.2.2.2.2.2.1 (by omega) (by omega), HB.out.1.all.keep ht12 (by omega) (fun E hE => by have := HS.out.2.2.1 E hE; omega), ?_, (ht12.block _ (lt_of_cells HB.out.1.file) (by omega)).trans HB.out.1.file, ?_⟩
          · intro r hr
            rw [List.take_add_one] at hr
            rcases List.mem_append.1 hr with hr | hr
            · exact HB.out.1.none_ r hr
            · rw [← HS.out.2.2.2.2, HB.out.2.2.2.2.1] at hr
              simp at hr
              rw [hr]
              exact HIN.out
          · have := set_of_cells HZ.out.1 0 (.int .i64 ((M : Int) + 1))
            rw [HB.out.2.2.2.2.2.1]
            simpa using this
  · have hEND : Hid (FcO w l j Es wr ∧ clashB l = false) := Lib.hid ⟨hO, clash_none fun i hi => hO.none_ i (by have := HL.out.2.1; omega)⟩
    have hfz := free_of_cells hO.res 0
    have hc0 := cell_of_cells hO.res 0
    simp only [List.getElem?_toArray, List.getElem?_cons_zero] at hc0
    have hlt' : ¬ (j : Int) < (n : Int) := by omega
    clear hO hlt hmm hj
    dsimp only
    gi_wp2
    refine leaves_marks (J := fun W => W.heap[w.heap.size]? = some (.cells #[.bool false] 4 (0, 0)) ∧ Below w.heap.size w W) (B := w.heap.size + 3) (fun E W hE hd hJ => ⟨(World.putObj_heap_other (by omega)).trans hJ.1, hJ.2.trans (belowK_b (w := w) (Nat.le_refl _) W E _ _ (by omega) hd rfl rfl)⟩) (fun W hJ => ⟨_, results_cell1 rfl _ W ⟨w.heap.size, 0, none⟩ rfl (run_loadVar_truth hJ.1), by rw [hEND.out.2], hJ.2⟩) Es _ hEND.out.1.nodup ?_ ⟨by simpa using set_of_cells hEND.out.1.res 0 (.bool false), hEND.out.1.below.setCell (p := ⟨w.heap.size, 0, none⟩) (Nat.le_refl _) _⟩
    intro E hE
    exact ⟨(hEND.out.1.marks E hE).1, (Below.heap_setCell _ _ _ _ (by have := (hEND.out.1.marks E hE).1; show E ≠ w.heap.size; omega)).trans (hEND.out.1.marks E hE).2⟩
end Go.Proofs.YtpcoiakdbfihlaaDoor

/-! Files: are they more than may be? -/
namespace Go.Proofs.YtpcoiakdbfihlaaDoor
open Go.RowKit Codec

theorem allF_app (l m : Tb) : allF (l ++ m) = allF l + allF m := by simp [allF]
theorem allF_take (l : Tb) (k : Nat) : allF (l.take k) ≤ allF l := by
  have h := allF_app (l.take k) (l.drop k)
  rw [List.take_append_drop] at h
  omega
theorem allF_succ {l : Tb} {j : Nat} {x : Fi} (hx : l[j]? = some x) : allF (l.take (j + 1)) = allF (l.take j) + x.2.length := by
  rw [List.take_add_one, hx, allF_app]
  simp [allF]
theorem too_one {l : Tb} {j : Nat} {x : Fi} (hx : l[j]? = some x) (h : 1048576 < x.2.length) : tooB l = true := by
  unfold tooB
  have : l.any (fun x => decide (1048576 < x.2.length)) = true := List.any_eq_true.2 ⟨x, List.mem_of_getElem? hx, by simpa using h⟩
  rw [this]
  simp
theorem too_all {l : Tb} {k : Nat} (h : 16777216 < allF (l.take k)) : tooB l = true := by
  unfold tooB
  have := allF_take l k
  rw [decide_eq_true (show 16777216 < allF l by omega), Bool.or_true]
/-- While they are counted. -/
def TmR (w : World) (l : Tb) (v i : Value) (wr : World) : Prop :=
  ∃ j : Nat, j ≤ l.length ∧ i = .int .i64 (j : Int) ∧ v = .int .i64 (allF (l.take j) : Int) ∧ (l.take j).any (fun x => decide (1048576 < x.2.length)) = false ∧ allF (l.take j) ≤ 16777216 ∧ Below w.heap.size w wr
set_option maxHeartbeats 8000000 in
set_option maxRecDepth 100000 in
theorem much_any {w : World} {S : Nat → Prop} {A : Option Addr} {n c : Nat} {l : Tb} (hl : Fls w S A n c l) :
    Calls Tryd.prog 34 #[.slice A n c] w fun e w' => e = .returned (.bool (tooB l)) ∧ Below w.heap.size w w' := by
  by_cases hb : 65536 < n
  · have hb' : (n : Int) > 65536 := by omega
    have hT : Hid (tooB l = true) := Lib.hid (by unfold tooB; rw [decide_eq_true (show 65536 < l.length by rw [hl.len]; exact hb)]; simp)
    clear hl hb
    go_enter Tryd.func34, Tryd.ntmps34
    go_wp2_with fail
    go_ret
    exact ⟨by rw [hT.out]; rfl, Below.refl _ _⟩
  have hb' : ¬ (n : Int) > 65536 := by omega
  have HL := Lib.hid (And.intro hl (And.intro hl.len hb))
  have H0 : Hid (TmR w l (.int .i64 0) (.int .i64 0) w) := Lib.hid ⟨0, Nat.zero_le _, rfl, rfl, rfl, by simp [allF], Below.refl _ _⟩
  have hzc := zero_fi
  clear hl hb
  go_enter Tryd.func34, Tryd.ntmps34
  go_wp2_with fail
  go_loopw [3, 11] (fun v i wr => TmR w l v i wr) (fun _ i _ => n - (intOf i).toNat)
  case atStart => exact H0.out
  case round =>
    obtain ⟨j, hj, rfl, rfl, hno, hall, hbw⟩ := hrel
    clear H0
    obtain ⟨T, hT⟩ : ∃ T, T = allF (l.take j) := ⟨_, rfl⟩
    rw [← hT] at hall ⊢
    have HK := Lib.hid (And.intro hno (And.intro hall (And.intro hbw hT)))
    clear hno hbw hT
    by_cases hlt : j < n
    · have hlt' : (j : Int) < (n : Int) := by omega
      obtain ⟨q, off, x, Ai, ni, ci, rfl, _, hqlt, hx, hcs, hy⟩ := HL.out.1.at_ hlt
      obtain rfl : ni = x.2.length := hy.len.symm
      obtain ⟨V, hV⟩ : ∃ V, V = x.2.length := ⟨_, rfl⟩
      rw [← hV] at hcs hy
      obtain ⟨CV, hCV⟩ : ∃ CV, CV = fiV Ai V ci x := ⟨_, rfl⟩
      rw [← hCV] at hcs
      have hcw : ∀ (i : Nat) (v : Value), CV[i]? = some v → wr.cell? ((⟨q, off + j * 2, none⟩ : Addr).add i) = some v := fun i v hv => by
        have h1 := hcs i v hv
        rw [add_plain] at h1 ⊢
        exact (HK.out.2.2.1.cell (p := ⟨_, _, none⟩) hqlt).trans h1
      have hadd := IntWalk.i64_in ((j : Int) + 1) (by have := HL.out.2.2; omega)
      have hVm : V ≤ maxLen := by have h1 := hy.cap; have h2 := hy.max; omega
      have HCV := Lib.hid (And.intro hCV hcw)
      have HX := Lib.hid (And.intro hx (And.intro hlt hV))
      clear hCV hcw hcs hy hx hqlt hV
      go_upto_region 7 with (first
        | (refine wpList_load_at (by rfl) 50 (.tmp 13) (by rfl) ⟨q, off + j * 2, none⟩ (by rfl) CV _ HCV.out.2 Tryd.underlying50 (by rfl) (by rw [HCV.out.1]; exact fi_info) ?_)
        | (refine wpList_store_row (by rfl) 50 (.tmp 5) (.tmp 14) (by rfl) wr.heap.size CV (by rfl) (by rfl) 50 _ (heap_alloc_new wr _) (by rw [HCV.out.1]; exact fi_info) (by rw [HCV.out.1]; rfl) (by rw [HCV.out.1]; exact fiV_one _ _ _ _) ?_))
      have hal : Below wr.heap.size wr ((wr.alloc (.cells #[.string ⟨#[]⟩, .slice none 0 0] 50)).setRow wr.heap.size CV) := below_setRow ((Below.refl _ _).alloc (Nat.le_refl _) _) (Nat.le_refl _) _
      have hpa : ((wr.alloc (.cells #[.string ⟨#[]⟩, .slice none 0 0] 50)).setRow wr.heap.size CV).heap[wr.heap.size]? = some (.cells CV 50 (0, 0)) := setRow_at (heap_alloc_new wr _)
      have hc1 : ((wr.alloc (.cells #[.string ⟨#[]⟩, .slice none 0 0] 50)).setRow wr.heap.size CV).cell? ⟨wr.heap.size, 1, none⟩ = some (.slice Ai V ci) := by rw [cell_of_cells hpa, HCV.out.1]; rfl
      have H5 := Lib.hid hal
      clear hal hpa hzc
      generalize (wr.alloc (.cells #[.string ⟨#[]⟩, .slice none 0 0] 50)).setRow wr.heap.size CV = w5 at *
      by_cases hbig : 1048576 < V
      · have hbig' : (V : Int) > 1048576 := by omega
        have hTT : Hid (tooB l = true) := Lib.hid (too_one HX.out.1 (by rw [← HX.out.2.2]; exact hbig))
        clear hbig
        go_wp2_with fail
        go_ret
        exact ⟨by rw [hTT.out]; rfl, HK.out.2.2.1.trans (H5.out.mono HK.out.2.2.1.size)⟩
      · have hbig' : ¬ (V : Int) > 1048576 := by omega
        obtain ⟨M, hM⟩ : ∃ M, M = T + V := ⟨_, rfl⟩
        have hadd2 : IntKind.i64.wrap ((T : Int) + (V : Int)) = (M : Int) := by rw [IntWalk.i64_in _ (by omega)]; omega
        have hMs : M = allF (l.take (j + 1)) := by rw [allF_succ HX.out.1, ← HK.out.2.2.2, ← HX.out.2.2, hM]
        have HM := Lib.hid (And.intro hMs (show ¬ 1048576 < V from hbig))
        clear hM hMs hbig
        by_cases hmore : 16777216 < M
        · have hmore' : (M : Int) > 16777216 := by omega
          have hTT : Hid (tooB l = true) := Lib.hid (too_all (k := j + 1) (by rw [← HM.out.1]; exact hmore))
          clear hmore
          go_wp2_with fail
          go_ret
          exact ⟨by rw [hTT.out]; rfl, HK.out.2.2.1.trans (H5.out.mono HK.out.2.2.1.size)⟩
        · have hmore' : ¬ (M : Int) > 16777216 := by omega
          have HMM := Lib.hid hmore
          clear hmore
          go_wp2_with fail
          go_roundw
          case rel =>
            refine ⟨j + 1, by have h1 := HX.out.2.1; have h2 := HL.out.2.1; omega, by simp, by rw [HM.out.1], ?_, by rw [← HM.out.1]; have := HMM.out; omega, HK.out.2.2.1.trans (H5.out.mono HK.out.2.2.1.size)⟩
            rw [List.take_add_one, HX.out.1, List.any_append, HK.out.1]
            have h1 := HM.out.2
            rw [HX.out.2.2] at h1
            simp
            omega
          case measure => have := HX.out.2.1; simp only [intOf]; omega
    · have hjn : j = n := by have := HL.out.2.1; omega
      have hTT : Hid (tooB l = false) := Lib.hid (by
        have h1 := HK.out.1
        have h2 := HK.out.2.1
        have h3 := HK.out.2.2.2
        rw [List.take_of_length_le (by have := HL.out.2.1; omega)] at h1 h3
        unfold tooB
        rw [h1, decide_eq_false (by rw [HL.out.2.1]; exact HL.out.2.2), decide_eq_false (by omega)]
        rfl)
      have hlt' : ¬ (j : Int) < (n : Int) := by omega
      clear hlt hjn
      go_wp2_with fail
      go_ret
      exact ⟨by rw [hTT.out]; rfl, HK.out.2.2.1⟩
end Go.Proofs.YtpcoiakdbfihlaaDoor

/-! Files: may files be a tree? -/
namespace Go.Proofs.YtpcoiakdbfihlaaDoor
open Go.RowKit Codec

theorem rise_path : ∀ {l : Tb}, riseB l = true → ∀ x ∈ l, pathOk x.1 = true
  | [], _, x, h => by simp at h
  | y :: t, h, x, hx => by
    unfold riseB at h
    simp only [Bool.and_eq_true] at h
    rcases List.mem_cons.1 hx with rfl | hx
    · exact h.1.1
    · exact rise_path h.2 x hx
set_option maxHeartbeats 8000000 in
set_option maxRecDepth 100000 in
theorem check_files {w : World} {S : Nat → Prop} {A : Option Addr} {n c : Nat} {l : Tb} (hl : Fls w S A n c l) (hn : n ≤ 100000000) (hp : ∀ x ∈ l, x.1.length ≤ maxLen) :
    Calls Tryd.prog 16 #[.slice A n c] w fun e w' => e = .returned (.int .i64 (chkE l)) ∧ Below w.heap.size w w' := by
  have hr := rise_any hl hn hp
  have HL := Lib.hid hl
  clear hl hp
  by_cases h1 : riseB l = true
  · have hcl := fun w1 (hb : Below w.heap.size w w1) => clash_any (HL.out.below hb) hn (fun x hx => pathOk_len (rise_path h1 x hx))
    have HCL := Lib.hid hcl
    have H1 := Lib.hid h1
    rw [h1] at hr
    clear h1 hcl
    by_cases h2 : clashB l = true
    · rw [h2] at HCL
      have HE : Hid (chkE l = 1) := Lib.hid (by unfold chkE; rw [if_pos (.inr h2)])
      clear h2
      go_enter Tryd.func16, Tryd.ntmps16
      go_wp2_with (first
        | (go_at_call 32; refine hr.mono ?_; clear hr; rintro _ w1 ⟨rfl, hb1⟩; have hcl := HCL.out w1 hb1)
        | (go_at_call 33; refine hcl.mono ?_; clear hcl; rintro _ w2 ⟨rfl, hb2⟩))
      go_ret
      exact ⟨by rw [HE.out]; rfl, hb1.trans (hb2.mono hb1.size)⟩
    · have h2' : clashB l = false := by simpa using h2
      rw [h2'] at HCL
      have hm := fun w1 (hb : Below w.heap.size w w1) => much_any (HL.out.below hb)
      have HM := Lib.hid hm
      have H2 := Lib.hid h2'
      clear h2 h2' hm
      by_cases h3 : tooB l = true
      · rw [h3] at HM
        have HE : Hid (chkE l = 13) := Lib.hid (by unfold chkE; rw [if_neg (by rw [H1.out, H2.out]; simp), if_pos h3])
        clear h3
        go_enter Tryd.func16, Tryd.ntmps16
        go_wp2_with (first
          | (go_at_call 32; refine hr.mono ?_; clear hr; rintro _ w1 ⟨rfl, hb1⟩; have hcl := HCL.out w1 hb1)
          | (go_at_call 33; refine hcl.mono ?_; clear hcl; rintro _ w2 ⟨rfl, hb2⟩; have hb12 := hb1.trans (hb2.mono hb1.size); have hm := HM.out w2 hb12)
          | (go_at_call 34; refine hm.mono ?_; clear hm; rintro _ w3 ⟨rfl, hb3⟩))
        go_ret
        exact ⟨by rw [HE.out]; rfl, hb12.trans (hb3.mono hb12.size)⟩
      · have h3' : tooB l = false := by simpa using h3
        rw [h3'] at HM
        have HE : Hid (chkE l = 0) := Lib.hid (by unfold chkE; rw [if_neg (by rw [H1.out, H2.out]; simp), if_neg h3])
        clear h3 h3'
        go_enter Tryd.func16, Tryd.ntmps16
        go_wp2_with (first
          | (go_at_call 32; refine hr.mono ?_; clear hr; rintro _ w1 ⟨rfl, hb1⟩; have hcl := HCL.out w1 hb1)
          | (go_at_call 33; refine hcl.mono ?_; clear hcl; rintro _ w2 ⟨rfl, hb2⟩; have hb12 := hb1.trans (hb2.mono hb1.size); have hm := HM.out w2 hb12)
          | (go_at_call 34; refine hm.mono ?_; clear hm; rintro _ w3 ⟨rfl, hb3⟩))
        go_ret
        exact ⟨by rw [HE.out]; rfl, hb12.trans (hb3.mono hb12.size)⟩
  · have h1' : riseB l = false := by simpa using h1
    rw [h1'] at hr
    have HE : Hid (chkE l = 1) := Lib.hid (by unfold chkE; rw [if_pos (.inl h1')])
    clear h1 h1'
    go_enter Tryd.func16, Tryd.ntmps16
    go_wp2_with (go_at_call 32; refine hr.mono ?_; clear hr; rintro _ w1 ⟨rfl, hb1⟩)
    go_ret
    exact ⟨by rw [HE.out]; rfl, hb1⟩
end Go.Proofs.YtpcoiakdbfihlaaDoor
