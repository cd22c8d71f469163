/-
  The statement DedupPlays, proved: for every row of things that are done the law returns true. No condition.
-/
import Derived.Test.YtmmibldchfmleaaPl01
import Derived.Deep.Strs
import Derived.Test.YtmmibldchfmleaaPl04
import Derived.Test.YtmmibldchfmleaaPl11
namespace Go.Proofs.Ytmmibldchfmleaa
open Go.ChangeShapes Go.WideShapes Go.ChangeAt Go.RowKit Go.Deep
structure DAct where
 kd : Int
 i : Nat
 p : Nat
 n : Int
def dactV (q : DAct) : Array Value := #[.int .i64 q.kd, .int .u8 (q.i : Int), .int .u8 (q.p : Int), .int .i64 q.n]
theorem dact_info : (Try.prog.info? 28).map (·.size) = some 4 := by kernel_rfl
structure DActs (w : World) (A : Option Addr) (n c : Nat) (l : List DAct) : Prop where
 len : l.length = n
 cap : n ≤ c
 max : c ≤ maxLen
 row : 0 < n → ∃ b off, A = some ⟨b, off, none⟩ ∧ b < w.heap.size ∧ ∀ i q, l[i]? = some q → ∀ (j : Nat) (v : Value), (dactV q)[j]? = some v → w.cell? ⟨b, off + i * 4 + j, none⟩ = some v
 each : ∀ q ∈ l, q.i < 256 ∧ q.p < 256 ∧ -9223372036854775808 ≤ q.kd ∧ q.kd ≤ 9223372036854775807 ∧ -9223372036854775808 ≤ q.n ∧ q.n ≤ 9223372036854775807
theorem dd_bounds_i64 {z : Int} (h : (Lit.int .i64 z).wf = true) : -9223372036854775808 ≤ z ∧ z ≤ 9223372036854775807 := by
 have h : (decide (-9223372036854775808 ≤ z) && decide (z ≤ 9223372036854775807)) = true := h
 simpa using h
theorem dd_bounds_u8 {z : Int} (h : (Lit.int .u8 z).wf = true) : 0 ≤ z ∧ z ≤ 255 := by
 have h : (decide (0 ≤ z) && decide (z ≤ 255)) = true := h
 simpa using h
theorem dd_struct4 {H : Type} {enc : TypeId × Value → H} {P : Program} {w : World} {base : Nat} {spare : Nat → Bool} {held : Bool} {t : TypeId} {f0 f1 f2 f3 : Field} {fuel : Nat} {cs : List Value} {x : DataW H × List MemPlace} (ht : P.underlying t = some (.struct #[f0, f1, f2, f3])) (h : DataW.trod enc P w base spare held fuel t cs = some x) :
    ∃ y0 y1 y2 y3 n, DataW.trod enc P w base spare held n f0.type ((cs.drop f0.offset).take (P.cellsOf f0.type)) = some y0 ∧ DataW.trod enc P w base spare held n f1.type ((cs.drop f1.offset).take (P.cellsOf f1.type)) = some y1 ∧ DataW.trod enc P w base spare held n f2.type ((cs.drop f2.offset).take (P.cellsOf f2.type)) = some y2 ∧
      DataW.trod enc P w base spare held n f3.type ((cs.drop f3.offset).take (P.cellsOf f3.type)) = some y3 := by
 obtain ⟨xs, n, _, rfl, _, hlen, hf⟩ := DataW.trod_struct ht h
 match xs, hlen with
 | [y0, y1, y2, y3], _ => exact ⟨y0, y1, y2, y3, n, by simpa using hf 0 f0 rfl, by simpa using hf 1 f1 rfl, by simpa using hf 2 f2 rfl, by simpa using hf 3 f3 rfl⟩
set_option maxRecDepth 100000 in
theorem dd_acts_in {w : World} {H : Type} {enc : TypeId × Value → H} {base : Nat} {spare : Nat → Bool} {held : Bool} {a : Option Addr} {len cap : Nat} {d : DataW H} {p : List MemPlace}
    (hs : spare = fun _ => true) (h : DataW.Trod enc Try.prog w base spare held 22 (.slice a len cap) d p) : ∃ l, DActs w a len cap l := by
 subst hs
 obtain ⟨fuel, hf⟩ := h
 rcases open_slice Try.underlying22 hf with ⟨hcs, _⟩ | ⟨x, l, c, m, n, D, Pl, hcs, _, hl, hm, hmm, _, hi⟩
 ·simp [Value.cells] at hcs
  obtain ⟨rfl, rfl, rfl⟩ := hcs
  exact ⟨[], rfl, Nat.zero_le _, Nat.zero_le _, fun h => absurd h (by omega), by simp⟩
 ·simp [Value.cells] at hcs
  obtain ⟨rfl, rfl, rfl⟩ := hcs
  have hce : Try.prog.cellsOf 28 = 4 := by kernel_rfl
  have h3 : Try.prog.cellsOf 3 = 1 := by kernel_rfl
  have h8 : Try.prog.cellsOf 5 = 1 := by kernel_rfl
  rw [hce] at hi
  simp only [if_true] at hmm
  have one : ∀ i, ∃ q : DAct, i < len → (∀ (j : Nat) (v : Value), (dactV q)[j]? = some v → w.cell? ((x.add (i * 4)).add j) = some v) ∧ q.i < 256 ∧ q.p < 256 ∧ -9223372036854775808 ≤ q.kd ∧ q.kd ≤ 9223372036854775807 ∧ -9223372036854775808 ≤ q.n ∧ q.n ≤ 9223372036854775807 := fun i => by
   by_cases him : i < len
   ·obtain ⟨cs', hc, ht⟩ := hi i (by omega)
    obtain ⟨_, hcl, hat⟩ := World.cells?_some hc
    obtain ⟨y0, y1, y2, y3, n', t0, t1, t2, t3⟩ := dd_struct4 Try.underlying28 ht
    match cs', hcl with
    | [v0, v1, v2, v3], _ =>
      simp only [h3, h8] at t0 t1 t2 t3
      obtain ⟨z0, e0, _, w0⟩ := DataW.trod_int Try.underlying3 t0
      obtain ⟨z1, e1, _, w1⟩ := DataW.trod_int Try.underlying5 t1
      obtain ⟨z2, e2, _, w2⟩ := DataW.trod_int Try.underlying5 t2
      obtain ⟨z3, e3, _, w3⟩ := DataW.trod_int Try.underlying3 t3
      simp at e0 e1 e2 e3
      subst e0 e1 e2 e3
      have b1 := dd_bounds_u8 w1
      have b2 := dd_bounds_u8 w2
      have b0 := dd_bounds_i64 w0
      have b3 := dd_bounds_i64 w3
      obtain ⟨s, rfl⟩ := Int.eq_ofNat_of_zero_le b1.1
      obtain ⟨k, rfl⟩ := Int.eq_ofNat_of_zero_le b2.1
      refine ⟨⟨z0, s, k, z3⟩, fun _ => ⟨fun j v hv => ?_, by show s < 256; omega, by show k < 256; omega, b0.1, b0.2, b3.1, b3.2⟩⟩
      match j, hv with
      | 0, hv => injection hv with hv; subst hv; exact hat 0 (by omega)
      | 1, hv => injection hv with hv; subst hv; exact hat 1 (by omega)
      | 2, hv => injection hv with hv; subst hv; exact hat 2 (by omega)
      | 3, hv => injection hv with hv; subst hv; exact hat 3 (by omega)
      | j + 4, hv => simp [dactV] at hv
   ·exact ⟨⟨0, 0, 0, 0⟩, fun h => absurd h him⟩
  obtain ⟨f, hf⟩ := Classical.skolem.1 one
  refine ⟨(List.range len).map f, by simp, hl, hm, fun h0 => ?_, fun q hq => ?_⟩
  ·obtain ⟨b, off, spot⟩ := x
   have hc0 := (hf 0 h0).1 0 _ rfl
   have hspot : spot = none := by simpa [Addr.add] using World.cell?_spot hc0
   subst hspot
   have hlt := World.block_lt_of_cell? _ _ hc0
   rw [add_plain, add_plain] at hlt
   refine ⟨b, off, rfl, hlt, fun i q hq j v hv => ?_⟩
   have hil : i < len := by
    have := (List.getElem?_eq_some_iff.1 hq).1; simpa using this
   obtain rfl : f i = q := by simpa [hil] using hq
   have := (hf i hil).1 j v hv
   rwa [add_plain, add_plain] at this
  ·obtain ⟨i, hi', rfl⟩ := List.mem_map.1 hq
   exact (hf i (by simpa using hi')).2
end Go.Proofs.Ytmmibldchfmleaa

namespace Go.Proofs.Ytmmibldchfmleaa
open Go.RowKit Codec
/-! ### places that ids tell -/
theorem addT_len {t : Tv Pl} (h : Sv t) (k : List UInt8) (v : Pl) : (addT t k v).length = t.length + if addB t k v = true then 1 else 0 := by
 unfold addT
 by_cases hb : addB t k v = true
 ·rw [if_pos hb, if_pos hb]
  have := len_put h k v
  rw [if_neg] at this
  ·omega
  ·unfold addB at hb
   intro hs
   rw [hs] at hb
   simp at hb
 ·rw [if_neg hb, if_neg hb]; rfl
theorem addT_mem {t : Tv Pl} {k : List UInt8} {v : Pl} : ∀ e ∈ addT t k v, e ∈ t ∨ (e = (k, v) ∧ addB t k v = true) := fun e he => by
 unfold addT at he
 by_cases hb : addB t k v = true
 ·rw [if_pos hb] at he
  unfold putV at he
  simp only [List.mem_append, List.mem_filter, List.mem_singleton] at he
  rcases he with (h | h) | h
  ·exact .inl h.1
  ·exact .inr ⟨h, hb⟩
  ·exact .inl h.1
 ·rw [if_neg hb] at he
  exact .inl he
end Go.Proofs.Ytmmibldchfmleaa

namespace Go.Proofs.Ytmmibldchfmleaa
open Go.RowKit Go.Maps Codec
structure DpS (w W : World) (p b : Nat) (t : Tv Pl) (A : Option Addr) (c : Nat) : Prop where
 ix : Ix W p b t
 es : Es W (fun _ => True) A t.length c t
 ok : OkT t
 lb : w.heap.size ≤ b
 bl : Below w.heap.size w W
section
variable {w W W' : World} {p b c : Nat} {t t' : Tv Pl} {A : Option Addr}
theorem DpS.later (h : DpS w W p b t A c) (hb : Below W.heap.size W W') : DpS w W' p b t A c := ⟨h.ix.below hb, h.es.below hb, h.ok, h.lb, h.bl.trans (hb.mono h.bl.size)⟩
theorem Es.not_map {S : Nat → Prop} {n : Nat} (h : Es W S A n c t) (hm : ∃ es clock, W.heap[b]? = some (.map es clock)) : Es W (fun k => k ≠ b) A n c t :=
 ⟨h.len, h.each, h.cap, h.max, fun h0 => by
   obtain ⟨g, off, hA, _, hlt, hc⟩ := h.row h0
   refine ⟨g, off, hA, fun e => ?_, hlt, hc⟩
   subst e
   obtain ⟨es, clock, hm⟩ := hm
   have h00 : 0 < t.length := by rw [h.len]; exact h0
   have h1 := hc 0 _ (List.getElem?_eq_getElem h00) 0
   have hel := eC_len (h.each _ (List.getElem_mem h00)).1 (h.each _ (List.getElem_mem h00)).2
   obtain ⟨y, hy⟩ : ∃ y, (eC t[0])[0]? = some y := ⟨_, List.getElem?_eq_getElem (l := eC t[0]) (i := 0) (by omega)⟩
   have h2 := h1 y hy
   simp [World.cell?, hm] at h2⟩
theorem DpS.code (h : DpS w W p b t A c) (ht : Turned (· = b) W W') : Es W' (fun _ => True) A t.length c t ∧ Below w.heap.size w W' :=
 ⟨((h.es.not_map h.ix.map.isMap).turned ht fun k _ hk he => hk he).mono fun _ _ _ => trivial, below_turn h.bl (Nat.le_refl _) ht fun k hk => by rw [hk]; exact h.lb⟩
end
theorem dropT_ok {t : Tv Pl} (h : OkT t) (pk : List UInt8) : OkT (dropT t pk) := fun e he => h e (List.mem_filter.1 he).1
theorem addT_ok {t : Tv Pl} (h : OkT t) {k : List UInt8} (hk : k.length = 32) {v : Pl} (hv : v.1.length = 32) : OkT (addT t k v) := fun e he => by
 rcases addT_mem e he with h1 | ⟨rfl, h1⟩
 ·exact h e h1
 ·refine ⟨hk, hv, ?_⟩
  unfold addB at h1
  rw [Bool.and_eq_true] at h1
  exact h1.1
theorem dact_zero : ∀ W, (zeroValue 28).run Try.prog W = .ok (.agg #[.int .i64 0, .int .u8 0, .int .u8 0, .int .i64 0]) W := fun W => by kernel_rfl
theorem build_e3 {l m : List UInt8} (hl : l.length = 32) (hm : m.length = 32) (X : Int) : Try.prog.built 41 [(0, .agg (row8 l)), (1, .agg (row8 m)), (2, .int .i64 X)] = some (eC (l, m, X)).toArray := by
 obtain ⟨a0, a1, a2, a3, a4, a5, a6, a7, a8, a9, b0, b1, b2, b3, b4, b5, b6, b7, b8, b9, c0, c1, c2, c3, c4, c5, c6, c7, c8, c9, d0, d1, rfl⟩ := list32' hl
 obtain ⟨e0, e1, e2, e3, e4, e5, e6, e7, e8, e9, f0, f1, f2, f3, f4, f5, f6, f7, f8, f9, g0, g1, g2, g3, g4, g5, g6, g7, g8, g9, i0, i1, rfl⟩ := list32' hm
 unfold row8 eC u8s
 kernel_rfl
theorem exec_build3 {P : Program} {E : Operand → Value} {o : Oper} {W : World} (t : TypeId) (x0 x1 x2 : Operand) (ho : o.op = .build t #[(0, x0), (1, x1), (2, x2)]) (u0 u1 u2 : Value) (h0 : E x0 = u0) (h1 : E x1 = u1) (h2 : E x2 = u2) (cells : Array Value) (hb : P.built t [(0, u0), (1, u1), (2, u2)] = some cells) : (execOp E o).run P W = .ok (.value (.agg cells)) W := by
 have hr : (Instr.build t #[(0, u0), (1, u1), (2, u2)]).run P W = .ok (.agg cells) W := run_build W t _ cells hb
 unfold execOp
 simp [ho, h0, h1, h2, hr, Result.andThen]
def DplR (w : World) (p b n : Nat) (v i : Value) (wr : World) : Prop :=
 ∃ (j : Nat) (t : Tv Pl) (A : Option Addr) (c : Nat), j ≤ n ∧ j ≤ 40 ∧ i = .int .i64 (j : Int) ∧ v = .slice A t.length c ∧ t.length ≤ j ∧ DpS w wr p b t A c
set_option maxHeartbeats 16000000 in
set_option maxRecDepth 100000 in
theorem law_dplays {w : World} {A : Option Addr} {n c : Nat} {l : List DAct} (ha : DActs w A n c l) :
    Calls Try.prog 3 #[.slice A n c] w fun e w' => e = .returned (.bool true) ∧ Below w.heap.size w w' := by
 have haw := dawake_true w
 have HL := Lib.hid (And.intro ha ha.len)
 have hza := dact_zero
 obtain ⟨P0, hP0⟩ : ∃ P0, P0 = plC zPl := ⟨_, rfl⟩
 have hzp : ∀ W, (zeroValue 37).run Try.prog W = .ok (.agg P0) W := fun W => by rw [hP0]; exact zero_pl W
 have HP0 : Hid (P0.size = 33) := Lib.hid (by rw [hP0, plC_size zPl_len])
 clear ha hP0
 go_enter Try.func3, Try.ntmps3
 go_upto_region 7 with (first
  | (go_at_call 8; refine haw.mono ?_; clear haw; rintro _ w1 ⟨rfl, hb1⟩; have H1 := Lib.hid hb1; have hnw := ixnew_any w1; clear hb1)
  | (go_at_call 9; refine hnw.mono ?_; clear hnw; rintro _ w2 ⟨p, b, rfl, hi2, hlp, hlb, hb2⟩))
 have H0 : Hid (DplR w p b n (.slice none 0 0) (.int .i64 0) w2) := Lib.hid ⟨0, [], none, 0, Nat.zero_le _, Nat.zero_le _, rfl, rfl, Nat.zero_le _, hi2, Es.nil _ _ _ _ (Nat.zero_le _), (by intro e he; simp at he), Nat.le_trans H1.out.size hlb, H1.out.trans (hb2.mono H1.out.size)⟩
 clear hi2 hlp hlb hb2 H1
 go_loopw [5, 6] (fun v i wr => DplR w p b n v i wr) (fun _ i _ => n - (intOf i).toNat)
 case atStart => exact H0.out
 case round =>
  obtain ⟨j, t, At, ct, hj, hj40, rfl, rfl, htl, hd⟩ := hrel
  clear H0
  have HD := Lib.hid (And.intro hd htl)
  clear hd htl
  by_cases hgo : j < n ∧ j < 40
  ·have hlt' : (j : Int) < (n : Int) := by omega
   have h40 : (j : Int) < 40 := by omega
   have hl40 : decide (j < 40) = true := by simpa using hgo.2
   obtain ⟨b', off, hA, hbl, hrow⟩ := HL.out.1.row (by omega)
   obtain ⟨q, hq⟩ : ∃ q, l[j]? = some q := ⟨_, List.getElem?_eq_getElem (by rw [HL.out.2]; exact hgo.1)⟩
   obtain ⟨hq1, hq2, hq3, hq4, hq5, hq6⟩ := HL.out.1.each q (List.mem_of_getElem? hq)
   subst hA
   obtain ⟨AS, hAS⟩ : ∃ AS, AS = dactV q := ⟨_, rfl⟩
   obtain ⟨kd, hkd⟩ : ∃ kd, kd = q.kd := ⟨_, rfl⟩
   obtain ⟨qi, hqi⟩ : ∃ qi, qi = q.i := ⟨_, rfl⟩
   obtain ⟨qp, hqp⟩ : ∃ qp, qp = q.p := ⟨_, rfl⟩
   obtain ⟨qn, hqn⟩ : ∃ qn, qn = q.n := ⟨_, rfl⟩
   have HAC : Hid (∀ u v, AS[u]? = some v → wr.cell? ((⟨b', off + j * 4, none⟩ : Addr).add u) = some v) := Lib.hid fun u v hu => by
    rw [add_plain]
    have hbw := HD.out.1.bl
    exact (hbw.cell (p := ⟨b', _, none⟩) hbl).trans (hrow j q hq u v (by rw [hAS] at hu; exact hu))
   have HA : Hid (AS.size = 4 ∧ AS.all (·.oneCell') = true ∧ AS[0]? = some (.int .i64 kd) ∧ AS[1]? = some (.int .u8 (qi : Int)) ∧ AS[2]? = some (.int .u8 (qp : Int)) ∧ AS[3]? = some (.int .i64 qn)) := Lib.hid (by rw [hAS, hkd, hqi, hqp, hqn]; exact ⟨rfl, by simp [dactV, Value.oneCell'], rfl, rfl, rfl, rfl⟩)
   obtain ⟨RM, hRM⟩ : ∃ RM, RM = kd.tmod 4 := ⟨_, rfl⟩
   have hrm : kd.tmod 4 = RM := hRM.symm
   have hRb : -4 < RM ∧ RM < 4 := by
    rw [hRM]
    have h1 := Int.tmod_lt_of_pos kd (show (0:Int) < 4 by omega)
    have h2 := Int.lt_tmod_of_pos kd (show (0:Int) < 4 by omega)
    omega
   have hrw := IntWalk.i64_in RM (by omega)
   have hjj := IntWalk.i64_in ((j : Int) + 1) (by omega)
   obtain ⟨I1, hI1⟩ : ∃ I1, I1 = (qi + 1) % 256 := ⟨_, rfl⟩
   have hi1w : IntKind.u8.wrap ((qi : Int) + 1) = (I1 : Int) := by
    rw [hI1]
    have : qi < 256 := by rw [hqi]; exact hq1
    by_cases h : qi = 255
    ·subst h; decide
    ·rw [IntWalk.u8_in _ (by omega), Nat.mod_eq_of_lt (by omega)]; simp
   have HQ : Hid (qi < 256 ∧ qp < 256 ∧ I1 < 256) := Lib.hid ⟨by rw [hqi]; exact hq1, by rw [hqp]; exact hq2, by rw [hI1]; exact Nat.mod_lt _ (by omega)⟩
   have HJ := Lib.hid hgo
   clear hAS hkd hqi hqp hqn hRM hRb hI1 hq hq1 hq2 hq3 hq4 hq5 hq6 hrow hbl hj hj40 hgo
   go_upto_region 10 with (first
    | (refine wpList_load_at (by rfl) 28 (.tmp 34) (by rfl) ⟨b', off + j * 4, none⟩ (by rfl) AS _ HAC.out Try.underlying28 (by rfl) (by rw [HA.out.1]; exact dact_info) ?_)
    | (refine wpList_store_row (by rfl) 28 (.tmp 7) (.tmp 35) (by rfl) wr.heap.size AS (by rfl) (by rfl) 28 #[.int .i64 0, .int .u8 0, .int .u8 0, .int .i64 0] (heap_alloc_new _ _) (by rw [HA.out.1]; exact dact_info) (by rw [HA.out.1]; rfl) HA.out.2.1 ?_
       have hbS : Below wr.heap.size wr ((wr.alloc (.cells #[.int .i64 0, .int .u8 0, .int .u8 0, .int .i64 0] 28)).setRow wr.heap.size AS) := below_setRow ((Below.refl _ _).alloc (Nat.le_refl _) _) (Nat.le_refl _) _
       have H5 : Hid (((wr.alloc (.cells #[.int .i64 0, .int .u8 0, .int .u8 0, .int .i64 0] 28)).setRow wr.heap.size AS).heap[wr.heap.size]? = some (.cells AS 28 (0, 0)) ∧ DpS w ((wr.alloc (.cells #[.int .i64 0, .int .u8 0, .int .u8 0, .int .i64 0] 28)).setRow wr.heap.size AS) p b t At ct) := Lib.hid ⟨setRow_at (heap_alloc_new _ _), HD.out.1.later hbS⟩
       clear hbS
       generalize (wr.alloc (.cells #[.int .i64 0, .int .u8 0, .int .u8 0, .int .i64 0] 28)).setRow wr.heap.size AS = w5 at H5 ⊢
       generalize wr.heap.size = qa at H5 ⊢))
   have hk0 := (cell_of_cells H5.out.1 0).trans HA.out.2.2.1
   by_cases hk3 : RM = 3
   ·have hk3b : (RM == 3) = true := by simpa using hk3
    clear hk3
    obtain ⟨KS, hKS⟩ : ∃ KS, KS = row8 (lidF qp) := ⟨_, rfl⟩
    have HK : Hid (KS = row8 (lidF qp)) := Lib.hid hKS
    have hid := fun W => lid_any W HQ.out.2.1
    rw [← hKS] at hid
    have hid5 := hid w5
    have hk2 := (cell_of_cells H5.out.1 2).trans HA.out.2.2.2.2.1
    obtain ⟨t', ht'⟩ : ∃ t', t' = dropT t (lidF qp) := ⟨_, rfl⟩
    obtain ⟨X, hX⟩ : ∃ X, X = t.length - t'.length := ⟨_, rfl⟩
    have HT : Hid (t' = dropT t (lidF qp) ∧ X = t.length - t'.length ∧ t'.length ≤ j ∧ t.length ≤ j) := Lib.hid ⟨ht', hX, by have := HD.out.2; have := dropT_len t (lidF qp); rw [ht']; omega, HD.out.2⟩
    clear hKS ht' hX
    go_upto_region 12 with (first
     | (go_at_call 11; refine hid5.mono ?_; clear hid5; rintro _ w6 ⟨rfl, hb6⟩
        have H6 := Lib.hid (And.intro ((hb6.block qa (lt_of_cells H5.out.1)).trans H5.out.1) (H5.out.2.later hb6))
        have hdr := ixdrop_any (H5.out.2.later hb6).ix (by have := HT.out.2.2.2; have := HJ.out.2; omega) (lidF_len qp)
        rw [← HK.out, ← HT.out.1, ← HT.out.2.1] at hdr
        clear hb6)
     | (go_at_call 10; refine hdr.mono ?_; clear hdr; rintro _ w7 ⟨rfl, hi7, ht7⟩))
    have hc7 := H6.out.2.code ht7
    have H7 : Hid (w7.heap[qa]? = some (.cells AS 28 (0, 0)) ∧ Ix w7 p b t' ∧ Es w7 (fun _ => True) At t.length ct t ∧ Below w.heap.size w w7) := Lib.hid ⟨(ht7.block qa (lt_of_cells H6.out.1) (by
     rintro rfl
     obtain ⟨es, clock, hm⟩ := H6.out.2.ix.map.isMap
     have h1 := H6.out.1
     rw [hm] at h1
     cases h1)).trans H6.out.1, hi7, hc7.1, hc7.2⟩
    clear hc7 hi7 ht7 hk2
    have hk2 := (cell_of_cells H7.out.1 2).trans HA.out.2.2.2.2.1
    have hid7 := hid w7
    go_upto_region 21 with (first
     | (go_at_call 11; refine hid7.mono ?_; clear hid7; rintro _ w8 ⟨rfl, hb8⟩
        have hrd := drdrop_any (H7.out.2.2.1.below hb8) (by have := HT.out.2.2.2; have := HJ.out.2; omega) (lidF_len qp)
        rw [← HK.out, ← HT.out.1, ← HT.out.2.1] at hrd
        have H8 := Lib.hid hb8
        clear hb8)
     | (go_at_call 12; refine hrd.mono ?_; clear hrd; rintro _ w9 ⟨A9, c9, rfl, hes9, hb9⟩))
    have hb79 := H8.out.trans (hb9.mono H8.out.size)
    have H9 : Hid (w9.heap[qa]? = some (.cells AS 28 (0, 0)) ∧ DpS w w9 p b t' A9 c9 ∧ t'.length ≤ j + 1) := Lib.hid ⟨(hb79.block qa (lt_of_cells H7.out.1)).trans H7.out.1, ⟨H7.out.2.1.below hb79, hes9.mono (fun _ _ _ => trivial), by rw [HT.out.1]; exact dropT_ok HD.out.1.ok _, HD.out.1.lb, H7.out.2.2.2.trans (hb79.mono H7.out.2.2.2.size)⟩, by have := HT.out.2.2.1; omega⟩
    clear hb79 hes9 hb9 hid H8 H7 H6 H5 HK HT hk0 hk2 HD HAC
    have hk1 := (cell_of_cells H9.out.1 1).trans HA.out.2.2.2.1
    obtain ⟨KS, hKS⟩ : ∃ KS, KS = row8 (lidF I1) := ⟨_, rfl⟩
    have HK : Hid (KS = row8 (lidF I1)) := Lib.hid hKS
    have hid := fun W => lid_any W HQ.out.2.2
    rw [← hKS] at hid
    have hid9 := hid w9
    obtain ⟨PS, hPS⟩ : ∃ PS, PS = plC ((getV t' (lidF I1)).getD zPl) := ⟨_, rfl⟩
    obtain ⟨Z, hZ⟩ : ∃ Z, Z = (getV t' (lidF I1)).isSome := ⟨_, rfl⟩
    obtain ⟨N, hN⟩ : ∃ N, N = t'.length := ⟨_, rfl⟩
    rw [← hN]
    have HPS : Hid (PS.size = 33 ∧ PS.all (·.oneCell') = true ∧ encP ((getV t' (lidF I1)).getD zPl) = .agg PS ∧ Z = (getV t' (lidF I1)).isSome ∧ N = t'.length) := Lib.hid ⟨by rw [hPS, plC_size (H9.out.2.1.ix.at_val)], by rw [hPS]; exact plC_one _, by rw [hPS]; rfl, hZ, hN⟩
    clear hKS hPS hZ hN
    go_upto_region 22 with (first
     | (go_at_call 11; refine hid9.mono ?_; clear hid9; rintro _ w10 ⟨rfl, hb10⟩
        have H10 := Lib.hid (And.intro ((hb10.block qa (lt_of_cells H9.out.1)).trans H9.out.1) (H9.out.2.1.later hb10))
        have hfn := ixfind_any (H9.out.2.1.later hb10).ix (lidF_len I1)
        rw [← HK.out, HPS.out.2.2.1, ← HPS.out.2.2.2.1] at hfn
        clear hb10)
     | (go_at_call 15; refine hfn.mono ?_; clear hfn; rintro _ w11 ⟨rfl, hb11⟩
        have H11 := Lib.hid (And.intro ((hb11.block qa (lt_of_cells H10.out.1)).trans H10.out.1) (H10.out.2.later hb11))
        clear hb11)
     | (refine wpList_store_row (by rfl) 37 (.tmp 14) (.tmp 93) (by rfl) w11.heap.size PS (by rfl) (by rfl) 37 P0 (heap_alloc_new _ _) (by rw [HPS.out.1]; exact pl_info) (by rw [HPS.out.1, HP0.out]) HPS.out.2.1 ?_
        have hbS : Below w11.heap.size w11 ((w11.alloc (.cells P0 37)).setRow w11.heap.size PS) := below_setRow ((Below.refl _ _).alloc (Nat.le_refl _) _) (Nat.le_refl _) _
        have H12 := Lib.hid (And.intro ((hbS.block qa (lt_of_cells H11.out.1)).trans H11.out.1) (H11.out.2.later hbS))
        clear hbS
        generalize (w11.alloc (.cells P0 37)).setRow w11.heap.size PS = w12 at H12 ⊢))
    clear hk1
    have hk1 := (cell_of_cells H12.out.1 1).trans HA.out.2.2.2.1
    have hid12 := hid w12
    go_wp2_with (first
     | (go_at_call 11; refine hid12.mono ?_; clear hid12; rintro _ w13 ⟨rfl, hb13⟩
        have H13 := Lib.hid (H12.out.2.later hb13)
        have hrf := drfind_any (H13.out.es) (by have := H9.out.2.2; have := HJ.out.2; omega) (lidF_len I1)
        rw [← HK.out, ← HPS.out.2.2.2.1, ← HPS.out.2.2.2.2] at hrf
        clear hb13)
     | (go_at_call 16; refine hrf.mono ?_; clear hrf; rintro _ w14 ⟨x, rfl, hx, hb14⟩
        have H14 := Lib.hid (H13.out.later hb14)
        have hlk := dlike_any H14.out.ix H14.out.es H14.out.ok (by have := H9.out.2.2; have := HJ.out.2; omega)
        rw [← HPS.out.2.2.2.2] at hlk
        clear hb14)
     | (go_at_call 17; refine hlk.mono ?_; clear hlk; rintro _ w15 ⟨rfl, hb15⟩
        have H15 := Lib.hid (H14.out.later hb15)
        clear hb15))
    exact ⟨⟨j + 1, t', A9, c9, by have := HJ.out.1; omega, by have := HJ.out.2; omega, by simp, by rw [HPS.out.2.2.2.2], H9.out.2.2, H15.out⟩, by have := HJ.out.1; simp only [intOf]; omega⟩
   ·have hk3b : (RM == 3) = false := by simpa using hk3
    clear hk3
    obtain ⟨KS, hKS⟩ : ∃ KS, KS = row8 (lidF qi) := ⟨_, rfl⟩
    obtain ⟨PS, hPS⟩ : ∃ PS, PS = row8 (lidF qp) := ⟨_, rfl⟩
    obtain ⟨VS, hVS⟩ : ∃ VS, VS = plC (lidF qp, qn) := ⟨_, rfl⟩
    obtain ⟨ES, hES⟩ : ∃ ES, ES = (eC (lidF qi, lidF qp, qn)).toArray := ⟨_, rfl⟩
    obtain ⟨t', ht'⟩ : ∃ t', t' = addT t (lidF qi) (lidF qp, qn) := ⟨_, rfl⟩
    obtain ⟨BB, hBB⟩ : ∃ BB, BB = addB t (lidF qi) (lidF qp, qn) := ⟨_, rfl⟩
    have HIK : Hid (∀ W, Calls Try.prog 11 #[.int .u8 (qi : Int)] W fun e w' => e = .returned (.agg KS) ∧ Below W.heap.size W w') := Lib.hid fun W => by rw [hKS]; exact lid_any W HQ.out.1
    have HIP : Hid (∀ W, Calls Try.prog 11 #[.int .u8 (qp : Int)] W fun e w' => e = .returned (.agg PS) ∧ Below W.heap.size W w') := Lib.hid fun W => by rw [hPS]; exact lid_any W HQ.out.2.1
    have HB : Hid (Try.prog.built 37 [(0, .agg PS), (1, .int .i64 qn)] = some VS ∧ Try.prog.built 41 [(0, .agg KS), (1, .agg PS), (2, .int .i64 qn)] = some ES) := Lib.hid ⟨by rw [hPS, hVS]; exact build_pl (lidF_len _) _, by rw [hKS, hPS, hES]; exact build_e3 (lidF_len _) (lidF_len _) _⟩
    have HAD : Hid (∀ W, Ix W p b t → Calls Try.prog 13 #[.pointer (some ⟨p, 0, none⟩), .agg KS, .agg VS] W (IxP W p b t' (.bool BB))) := Lib.hid fun W h => by
     rw [hKS, hVS, ht', hBB]
     exact ixadd_any h (by have := HD.out.2; have := HJ.out.2; omega) (lidF_len _) (lidF_len _)
    have HRA : Hid (∀ W, Es W (fun _ => True) At t.length ct t → Sv t' → Calls Try.prog 14 #[.slice At t.length ct, .agg ES] W fun r w' => ∃ A' c', r = .returned (.tuple #[.slice A' t'.length c', .bool BB]) ∧ Es w' (fun _ => True) A' t'.length c' t' ∧ Below W.heap.size W w') := Lib.hid fun W h _ => by
     rw [hES, ht', hBB]
     exact dradd_any (e := (lidF qi, lidF qp, qn)) h HD.out.1.ix.map.srt (by have := HD.out.2; have := HJ.out.2; omega) (lidF_len _) (lidF_len _)
    have HT : Hid (t' = addT t (lidF qi) (lidF qp, qn) ∧ OkT t' ∧ t'.length ≤ j + 1) := Lib.hid ⟨ht', by rw [ht']; exact addT_ok HD.out.1.ok (lidF_len _) (lidF_len _), by
     rw [ht', addT_len HD.out.1.ix.map.srt]
     have := HD.out.2
     split <;> omega⟩
    clear hKS hPS hVS hES ht' hBB
    go_upto_region 16 with fail
    have H5d := Lib.hid (And.intro (show w5.drew.heap[qa]? = some (.cells AS 28 (0, 0)) from H5.out.1) (H5.out.2.later (below_drew (Below.refl _ _))))
    refine wp_region_plan (fun W : World => W.heap[qa]? = some (.cells AS 28 (0, 0))) [([0, 1, 2, 4, 5, 7, 8], 3), ([], 6), ([9], 10)] [11] (by kernel_rfl) (by kernel_rfl) (fun _ _ d _ _ h => by cases d <;> exact h) H5d.out.1 ?_
    refine plan_eff ?_
    refine seg_read ?v1 (by rfl) (by rfl) ?h1 ?_
    case h1 => intro W hW; go_simp; with_reducible rfl
    try simp only [Act.put, List.setIfInBounds_toArray, List.set_cons_zero, List.set_cons_succ]
    refine seg_read ?v2 (by rfl) (by rfl) ?h2 ?_
    case h2 => intro W hW; go_simp; with_reducible rfl
    try simp only [Act.put, List.setIfInBounds_toArray, List.set_cons_zero, List.set_cons_succ]
    refine seg_read ?v3 (by rfl) (by rfl) ?h3 ?_
    case h3 => intro W hW; have hx := (cell_of_cells hW 1).trans HA.out.2.2.2.1; go_simp; with_reducible rfl
    try simp only [Act.put, List.setIfInBounds_toArray, List.set_cons_zero, List.set_cons_succ]
    refine seg_read ?v4 (by rfl) (by rfl) ?h4 ?_
    case h4 => intro W hW; go_simp; with_reducible rfl
    try simp only [Act.put, List.setIfInBounds_toArray, List.set_cons_zero, List.set_cons_succ]
    refine seg_read ?v5 (by rfl) (by rfl) ?h5 ?_
    case h5 => intro W hW; have hx := (cell_of_cells hW 2).trans HA.out.2.2.2.2.1; go_simp; with_reducible rfl
    try simp only [Act.put, List.setIfInBounds_toArray, List.set_cons_zero, List.set_cons_succ]
    refine seg_read ?v6 (by rfl) (by rfl) ?h6 ?_
    case h6 => intro W hW; go_simp; with_reducible rfl
    try simp only [Act.put, List.setIfInBounds_toArray, List.set_cons_zero, List.set_cons_succ]
    refine seg_read ?v7 (by rfl) (by rfl) ?h7 ?_
    case h7 => intro W hW; have hx := (cell_of_cells hW 3).trans HA.out.2.2.2.2.2; go_simp; with_reducible rfl
    try simp only [Act.put, List.setIfInBounds_toArray, List.set_cons_zero, List.set_cons_succ]
    refine seg_nil ?_
    refine eff_step (by rfl) (fun K hK => ?_)
    go_simp
    have hi := HIK.out w5.drew
    refine hi.mono ?_
    clear hi
    rintro _ w6 ⟨rfl, hb6⟩
    have H6 := Lib.hid (And.intro ((hb6.block qa (lt_of_cells H5d.out.1)).trans H5d.out.1) (H5d.out.2.later hb6))
    clear hb6
    refine hK _ _ ⟨fun W : World => W.heap[qa]? = some (.cells AS 28 (0, 0)), H6.out.1, fun _ h => h, ?_⟩
    clear hK K
    refine plan_eff ?_
    refine seg_nil ?_
    refine eff_step (by rfl) (fun K hK => ?_)
    go_simp
    have hi := HIP.out w6
    refine hi.mono ?_
    clear hi
    rintro _ w7 ⟨rfl, hb7⟩
    have H7 := Lib.hid (And.intro ((hb7.block qa (lt_of_cells H6.out.1)).trans H6.out.1) (H6.out.2.later hb7))
    clear hb7
    refine hK _ _ ⟨fun W : World => W.heap[qa]? = some (.cells AS 28 (0, 0)), H7.out.1, fun _ h => h, ?_⟩
    clear hK K
    refine plan_eff ?_
    refine seg_read (.agg VS) (by rfl) (by rfl) (fun W hW => exec_build 37 (.tmp 63) (.tmp 65) (by rfl) (.agg PS) (.int .i64 qn) (by rfl) (by rfl) VS HB.out.1) ?_
    try simp only [Act.put, List.setIfInBounds_toArray, List.set_cons_zero, List.set_cons_succ]
    refine seg_nil ?_
    refine eff_step (by rfl) (fun K hK => ?_)
    go_simp
    have hi := HAD.out w7 H7.out.2.ix
    refine hi.mono ?_
    clear hi
    rintro _ w8 ⟨rfl, hi8, ht8⟩
    have hc8 := H7.out.2.code ht8
    have H8 : Hid (w8.heap[qa]? = some (.cells AS 28 (0, 0)) ∧ Ix w8 p b t' ∧ Es w8 (fun _ => True) At t.length ct t ∧ Below w.heap.size w w8) := Lib.hid ⟨(ht8.block qa (lt_of_cells H7.out.1) (by
     rintro rfl
     obtain ⟨es, clock, hm⟩ := H7.out.2.ix.map.isMap
     have h1 := H7.out.1
     rw [hm] at h1
     cases h1)).trans H7.out.1, hi8, hc8.1, hc8.2⟩
    clear hc8 hi8 ht8
    refine hK _ _ ⟨fun W : World => W.heap[qa]? = some (.cells AS 28 (0, 0)), H8.out.1, fun _ h => h, ?_⟩
    clear hK K
    refine plan_last ?_
    refine seg_read ?v8 (by rfl) (by rfl) ?h8 ?_
    case h8 => intro W hW; go_simp; with_reducible rfl
    try simp only [Act.put, List.setIfInBounds_toArray, List.set_cons_zero, List.set_cons_succ]
    refine seg_nil ?_
    go_upto_region 17 with fail
    refine wp_region_plan (fun W : World => W.heap[qa]? = some (.cells AS 28 (0, 0))) [([0, 1, 2, 4, 5, 7, 8], 3), ([], 6), ([9], 10)] [11, 12, 13, 14, 15] (by kernel_rfl) (by kernel_rfl) (fun _ _ d _ _ h => by cases d <;> exact h) H8.out.1 ?_
    refine plan_eff ?_
    refine seg_read ?v9 (by rfl) (by rfl) ?h9 ?_
    case h9 => intro W hW; go_simp; with_reducible rfl
    try simp only [Act.put, List.setIfInBounds_toArray, List.set_cons_zero, List.set_cons_succ]
    refine seg_read ?v10 (by rfl) (by rfl) ?h10 ?_
    case h10 => intro W hW; go_simp; with_reducible rfl
    try simp only [Act.put, List.setIfInBounds_toArray, List.set_cons_zero, List.set_cons_succ]
    refine seg_read ?v11 (by rfl) (by rfl) ?h11 ?_
    case h11 => intro W hW; have hx := (cell_of_cells hW 1).trans HA.out.2.2.2.1; go_simp; with_reducible rfl
    try simp only [Act.put, List.setIfInBounds_toArray, List.set_cons_zero, List.set_cons_succ]
    refine seg_read ?v12 (by rfl) (by rfl) ?h12 ?_
    case h12 => intro W hW; go_simp; with_reducible rfl
    try simp only [Act.put, List.setIfInBounds_toArray, List.set_cons_zero, List.set_cons_succ]
    refine seg_read ?v13 (by rfl) (by rfl) ?h13 ?_
    case h13 => intro W hW; have hx := (cell_of_cells hW 2).trans HA.out.2.2.2.2.1; go_simp; with_reducible rfl
    try simp only [Act.put, List.setIfInBounds_toArray, List.set_cons_zero, List.set_cons_succ]
    refine seg_read ?v14 (by rfl) (by rfl) ?h14 ?_
    case h14 => intro W hW; go_simp; with_reducible rfl
    try simp only [Act.put, List.setIfInBounds_toArray, List.set_cons_zero, List.set_cons_succ]
    refine seg_read ?v15 (by rfl) (by rfl) ?h15 ?_
    case h15 => intro W hW; have hx := (cell_of_cells hW 3).trans HA.out.2.2.2.2.2; go_simp; with_reducible rfl
    try simp only [Act.put, List.setIfInBounds_toArray, List.set_cons_zero, List.set_cons_succ]
    refine seg_nil ?_
    refine eff_step (by rfl) (fun K hK => ?_)
    go_simp
    have hi := HIK.out w8.drew
    refine hi.mono ?_
    clear hi
    rintro _ w10 ⟨rfl, hb10⟩
    have H10 := Lib.hid (And.intro ((hb10.block qa (lt_of_cells (w := w8.drew) H8.out.1)).trans H8.out.1) ((below_drew (Below.refl w8.heap.size w8)).trans hb10))
    clear hb10
    refine hK _ _ ⟨fun W : World => W.heap[qa]? = some (.cells AS 28 (0, 0)), H10.out.1, fun _ h => h, ?_⟩
    clear hK K
    refine plan_eff ?_
    refine seg_nil ?_
    refine eff_step (by rfl) (fun K hK => ?_)
    go_simp
    have hi := HIP.out w10
    refine hi.mono ?_
    clear hi
    rintro _ w11 ⟨rfl, hb11⟩
    have H11 := Lib.hid (And.intro ((hb11.block qa (lt_of_cells H10.out.1)).trans H10.out.1) (H10.out.2.trans (hb11.mono H10.out.2.size)))
    clear hb11
    refine hK _ _ ⟨fun W : World => W.heap[qa]? = some (.cells AS 28 (0, 0)), H11.out.1, fun _ h => h, ?_⟩
    clear hK K
    refine plan_eff ?_
    refine seg_read (.agg ES) (by rfl) (by rfl) (fun W hW => exec_build3 41 (.tmp 72) (.tmp 75) (.tmp 77) (by rfl) (.agg KS) (.agg PS) (.int .i64 qn) (by rfl) (by rfl) (by rfl) ES HB.out.2) ?_
    try simp only [Act.put, List.setIfInBounds_toArray, List.set_cons_zero, List.set_cons_succ]
    refine seg_nil ?_
    refine eff_step (by rfl) (fun K hK => ?_)
    go_simp
    have hi := HRA.out w11 (H8.out.2.2.1.below H11.out.2) H8.out.2.1.map.srt
    refine hi.mono ?_
    clear hi
    rintro _ w9 ⟨A9, c9, rfl, hes9, hb9⟩
    have hb89 := H11.out.2.trans (hb9.mono H11.out.2.size)
    have H9 : Hid (w9.heap[qa]? = some (.cells AS 28 (0, 0)) ∧ DpS w w9 p b t' A9 c9 ∧ t'.length ≤ j + 1) := Lib.hid ⟨(hb89.block qa (lt_of_cells H8.out.1)).trans H8.out.1, ⟨H8.out.2.1.below hb89, hes9, HT.out.2.1, HD.out.1.lb, H8.out.2.2.2.trans (hb89.mono H8.out.2.2.2.size)⟩, HT.out.2.2⟩
    clear hb89 hes9 hb9
    refine hK _ _ ⟨fun W : World => W.heap[qa]? = some (.cells AS 28 (0, 0)), H9.out.1, fun _ h => h, ?_⟩
    clear hK K
    refine plan_last ?_
    refine seg_read ?v16 (by rfl) (by rfl) ?h16 ?_
    case h16 => intro W hW; go_simp; with_reducible rfl
    try simp only [Act.put, List.setIfInBounds_toArray, List.set_cons_zero, List.set_cons_succ]
    refine seg_read ?v17 (by rfl) (by rfl) ?h17 ?_
    case h17 => intro W hW; go_simp; with_reducible rfl
    try simp only [Act.put, List.setIfInBounds_toArray, List.set_cons_zero, List.set_cons_succ]
    refine seg_read ?v18 (by rfl) (by rfl) ?h18 ?_
    case h18 => intro W hW; go_simp; with_reducible rfl
    try simp only [Act.put, List.setIfInBounds_toArray, List.set_cons_zero, List.set_cons_succ]
    refine seg_read ?v19 (by rfl) (by rfl) ?h19 ?_
    case h19 => intro W hW; go_simp; with_reducible rfl
    try simp only [Act.put, List.setIfInBounds_toArray, List.set_cons_zero, List.set_cons_succ]
    refine seg_read ?v20 (by rfl) (by rfl) ?h20 ?_
    case h20 => intro W hW; go_simp; with_reducible rfl
    try simp only [Act.put, List.setIfInBounds_toArray, List.set_cons_zero, List.set_cons_succ]
    refine seg_nil ?_
    clear H10 H11 H8 H7 H6 H5 HIK HIP HB HAD HRA HT hk0 HD HAC
    go_upto_region 21 with fail
    have hk1 := (cell_of_cells H9.out.1 1).trans HA.out.2.2.2.1
    obtain ⟨KS, hKS⟩ : ∃ KS, KS = row8 (lidF I1) := ⟨_, rfl⟩
    have HK : Hid (KS = row8 (lidF I1)) := Lib.hid hKS
    have hid := fun W => lid_any W HQ.out.2.2
    rw [← hKS] at hid
    have hid9 := hid w9
    obtain ⟨PS, hPS⟩ : ∃ PS, PS = plC ((getV t' (lidF I1)).getD zPl) := ⟨_, rfl⟩
    obtain ⟨Z, hZ⟩ : ∃ Z, Z = (getV t' (lidF I1)).isSome := ⟨_, rfl⟩
    obtain ⟨N, hN⟩ : ∃ N, N = t'.length := ⟨_, rfl⟩
    rw [← hN]
    have HPS : Hid (PS.size = 33 ∧ PS.all (·.oneCell') = true ∧ encP ((getV t' (lidF I1)).getD zPl) = .agg PS ∧ Z = (getV t' (lidF I1)).isSome ∧ N = t'.length) := Lib.hid ⟨by rw [hPS, plC_size (H9.out.2.1.ix.at_val)], by rw [hPS]; exact plC_one _, by rw [hPS]; rfl, hZ, hN⟩
    clear hKS hPS hZ hN
    go_upto_region 22 with (first
     | (go_at_call 11; refine hid9.mono ?_; clear hid9; rintro _ w10 ⟨rfl, hb10⟩
        have H10 := Lib.hid (And.intro ((hb10.block qa (lt_of_cells H9.out.1)).trans H9.out.1) (H9.out.2.1.later hb10))
        have hfn := ixfind_any (H9.out.2.1.later hb10).ix (lidF_len I1)
        rw [← HK.out, HPS.out.2.2.1, ← HPS.out.2.2.2.1] at hfn
        clear hb10)
     | (go_at_call 15; refine hfn.mono ?_; clear hfn; rintro _ w11 ⟨rfl, hb11⟩
        have H11 := Lib.hid (And.intro ((hb11.block qa (lt_of_cells H10.out.1)).trans H10.out.1) (H10.out.2.later hb11))
        clear hb11)
     | (refine wpList_store_row (by rfl) 37 (.tmp 14) (.tmp 93) (by rfl) w11.heap.size PS (by rfl) (by rfl) 37 P0 (heap_alloc_new _ _) (by rw [HPS.out.1]; exact pl_info) (by rw [HPS.out.1, HP0.out]) HPS.out.2.1 ?_
        have hbS : Below w11.heap.size w11 ((w11.alloc (.cells P0 37)).setRow w11.heap.size PS) := below_setRow ((Below.refl _ _).alloc (Nat.le_refl _) _) (Nat.le_refl _) _
        have H12 := Lib.hid (And.intro ((hbS.block qa (lt_of_cells H11.out.1)).trans H11.out.1) (H11.out.2.later hbS))
        clear hbS
        generalize (w11.alloc (.cells P0 37)).setRow w11.heap.size PS = w12 at H12 ⊢))
    clear hk1
    have hk1 := (cell_of_cells H12.out.1 1).trans HA.out.2.2.2.1
    have hid12 := hid w12
    go_wp2_with (first
     | (go_at_call 11; refine hid12.mono ?_; clear hid12; rintro _ w13 ⟨rfl, hb13⟩
        have H13 := Lib.hid (H12.out.2.later hb13)
        have hrf := drfind_any (H13.out.es) (by have := H9.out.2.2; have := HJ.out.2; omega) (lidF_len I1)
        rw [← HK.out, ← HPS.out.2.2.2.1, ← HPS.out.2.2.2.2] at hrf
        clear hb13)
     | (go_at_call 16; refine hrf.mono ?_; clear hrf; rintro _ w14 ⟨x, rfl, hx, hb14⟩
        have H14 := Lib.hid (H13.out.later hb14)
        have hlk := dlike_any H14.out.ix H14.out.es H14.out.ok (by have := H9.out.2.2; have := HJ.out.2; omega)
        rw [← HPS.out.2.2.2.2] at hlk
        clear hb14)
     | (go_at_call 17; refine hlk.mono ?_; clear hlk; rintro _ w15 ⟨rfl, hb15⟩
        have H15 := Lib.hid (H14.out.later hb15)
        clear hb15))
    exact ⟨⟨j + 1, t', A9, c9, by have := HJ.out.1; omega, by have := HJ.out.2; omega, by simp, by rw [HPS.out.2.2.2.2], H9.out.2.2, H15.out⟩, by have := HJ.out.1; simp only [intOf]; omega⟩
  ·by_cases hlt : j < n
   ·have hlt' : (j : Int) < (n : Int) := by omega
    have h40 : ¬ (j : Int) < 40 := by omega
    have hl40 : decide (j < 40) = false := by
     have : ¬ j < 40 := by omega
     simpa using this
    clear hlt hgo hj
    have HBL : Hid ((ixB t).length ≤ 1000000) := Lib.hid (by
     have h1 := plsB_len HD.out.1.ok
     have h2 : (ixB t).length = (put t.length).length + (plsB t).length := by simp [ixB]
     have h3 := put_length_64 (x := t.length) (by have := HD.out.2; omega)
     have := HD.out.2
     omega)
    have hpu := ixput_any HD.out.1.ix (by have := HD.out.2; omega) HD.out.1.ok
    obtain ⟨BS, hBS⟩ : ∃ BS, BS = ixB t := ⟨_, rfl⟩
    rw [← hBS] at hpu HBL
    have hgt : getD BS = (t, 0) := by rw [hBS]; exact dd_get_put HD.out.1.ix.map.srt HD.out.1.ok (by have := HD.out.2; omega)
    have HG := Lib.hid hgt
    obtain ⟨N, hN⟩ : ∃ N, N = t.length := ⟨_, rfl⟩
    rw [← hN]
    have HN := Lib.hid hN
    clear hBS hgt hN hzp hza
    go_wp2_with (first
     | (go_at_call 19; refine hpu.mono ?_; clear hpu; rintro _ w21 ⟨A1, c1, rfl, hby, hb1⟩
        have hge := ixget_any hby HBL.out
        rw [HG.out] at hge
        have hgl : Calls Try.prog 18 #[.slice A1 BS.length c1] w21 fun e w' => ∃ p b, e = .returned (.tuple #[.pointer (some ⟨p, 0, none⟩), .int .i64 0]) ∧ Ix w' p b t ∧ Below w21.heap.size w21 w' := hge.mono (by
         rintro e w' (⟨p, b, h1, _, h2, _, _, h3⟩ | ⟨_, h, _⟩)
         ·exact ⟨p, b, h1, h2, h3⟩
         ·exact absurd rfl h)
        have H21 := Lib.hid (HD.out.1.later hb1)
        clear hge hby hb1)
     | (go_at_call 18; refine hgl.mono ?_; clear hgl; rintro _ w22 ⟨p2, b2, rfl, hi2, hb2⟩
        have H22 := Lib.hid (H21.out.later hb2)
        have hlk := dlike_any hi2 H22.out.es H22.out.ok (by have := HD.out.2; omega)
        rw [← HN.out] at hlk
        clear hi2 hb2)
     | (go_at_call 17; refine hlk.mono ?_; clear hlk; rintro _ w23 ⟨rfl, hb23⟩))
    go_ret
    exact ⟨rfl, H22.out.bl.trans (hb23.mono H22.out.bl.size)⟩
   ·have hlt' : ¬ (j : Int) < (n : Int) := by omega
    clear hlt hgo hj
    have HBL : Hid ((ixB t).length ≤ 1000000) := Lib.hid (by
     have h1 := plsB_len HD.out.1.ok
     have h2 : (ixB t).length = (put t.length).length + (plsB t).length := by simp [ixB]
     have h3 := put_length_64 (x := t.length) (by have := HD.out.2; omega)
     have := HD.out.2
     omega)
    have hpu := ixput_any HD.out.1.ix (by have := HD.out.2; omega) HD.out.1.ok
    obtain ⟨BS, hBS⟩ : ∃ BS, BS = ixB t := ⟨_, rfl⟩
    rw [← hBS] at hpu HBL
    have hgt : getD BS = (t, 0) := by rw [hBS]; exact dd_get_put HD.out.1.ix.map.srt HD.out.1.ok (by have := HD.out.2; omega)
    have HG := Lib.hid hgt
    obtain ⟨N, hN⟩ : ∃ N, N = t.length := ⟨_, rfl⟩
    rw [← hN]
    have HN := Lib.hid hN
    clear hBS hgt hN hzp hza
    go_wp2_with (first
     | (go_at_call 19; refine hpu.mono ?_; clear hpu; rintro _ w21 ⟨A1, c1, rfl, hby, hb1⟩
        have hge := ixget_any hby HBL.out
        rw [HG.out] at hge
        have hgl : Calls Try.prog 18 #[.slice A1 BS.length c1] w21 fun e w' => ∃ p b, e = .returned (.tuple #[.pointer (some ⟨p, 0, none⟩), .int .i64 0]) ∧ Ix w' p b t ∧ Below w21.heap.size w21 w' := hge.mono (by
         rintro e w' (⟨p, b, h1, _, h2, _, _, h3⟩ | ⟨_, h, _⟩)
         ·exact ⟨p, b, h1, h2, h3⟩
         ·exact absurd rfl h)
        have H21 := Lib.hid (HD.out.1.later hb1)
        clear hge hby hb1)
     | (go_at_call 18; refine hgl.mono ?_; clear hgl; rintro _ w22 ⟨p2, b2, rfl, hi2, hb2⟩
        have H22 := Lib.hid (H21.out.later hb2)
        have hlk := dlike_any hi2 H22.out.es H22.out.ok (by have := HD.out.2; omega)
        rw [← HN.out] at hlk
        clear hi2 hb2)
     | (go_at_call 17; refine hlk.mono ?_; clear hlk; rintro _ w23 ⟨rfl, hb23⟩))
    go_ret
    exact ⟨rfl, H22.out.bl.trans (hb23.mono H22.out.bl.size)⟩
end Go.Proofs.Ytmmibldchfmleaa

namespace Go.Proofs.Ytmmibldchfmleaa.dedupPlays
open Go.ChangeShapes Go.WideShapes Go.ChangeAt Go.RowKit
set_option linter.unusedVariables false
set_option maxRecDepth 100000 in
theorem lifted (os : Os) (started : os.Started) (H : Type) (enc : TypeId × Value → H) :
    ReturnsInHanded {} Try.checked os 3 .any (Rows.dedupPlaysSpec.pre6 enc Try.prog Try.f3 Rows.dedupPlaysRow.domain false) (Rows.dedupPlaysSpec.post enc Try.prog Try.f3 false true false false) := by
 refine returnsInHanded_of_change (C := Try.checked) own_knob started (by kernel_rfl) Try.func3
  (ChangeSpec.witness6 (enc := enc) (C := Try.checked) false ⟨#[], #[.slice none 0 0], []⟩ 8 (by kernel_rfl) (by kernel_rfl) (by kernel_rfl) (by kernel_rfl)) ?_
 intro W base args ds gs before hval0 hW hcnd _
 have hval : ∀ (j : Nat) t v, Try.f3.params[j]? = some t → args[j]? = some v → Value.okWide Try.prog W .any base t v := hval0
 have hW' := hW
 obtain ⟨p, q, hA0, hV, rfl, hfz, hnd⟩ := hW
 have hA : DataW.TrodAll enc Try.prog W 0 (fun _ => true) true Try.f3.params.toList args.toList ds p := hA0
 rw [Try.params3] at hA hval
 obtain ⟨v0, vs0, d0, ds0, p0, q0, hargs, rfl, rfl, h0, r0⟩ := trodAll_cons hA
 obtain ⟨rfl, rfl, rfl⟩ := trodAll_nil r0
 obtain rfl : args = #[v0] := by cases args; simp_all
 obtain ⟨rfl, rfl⟩ := trodVars_none hV
 obtain ⟨a0, len0, cap0, rfl⟩ := okWide_slice Try.underlying22 (hval 0 22 v0 rfl rfl)
 obtain ⟨l0, w0⟩ := dd_acts_in rfl h0
 clear hA0 hval0
 refine (law_dplays w0).mono fun e W' ⟨he, bel⟩ => ?_
 subst he
 exact ⟨_, rfl, _, _, _, [], _, [], hW', trodAll_mk1 (shut_bool Try.underlying4 _), (trodAll_cons_mk (Below.trod laid_out (by kernel_rfl) (of_decide_eq_true (by kernel_rfl)) h0 bel (trod_lt h0)) trodAll_mk0), rfl, bel.frame _, fun h => by cases h⟩
theorem proved : Rows.DedupPlaysSaid :=
 OpenClaim.holds_of_wide 3 Try.f3 rfl rfl rfl rfl rfl rfl rfl ⟨rfl, rfl, rfl, rfl, rfl⟩ rfl rfl rfl rfl rfl (by kernel_rfl) Try.func3 (by kernel_rfl)
  (of_decide_eq_true (by kernel_rfl)) (by unfold Func.isWrapper; first | (rw [if_pos (by decide +kernel)]; kernel_rfl) | (rw [if_neg (by decide +kernel)]; exact ⟨rfl, rfl⟩))
  (fun os started H enc _ => lifted os started H enc)
#print axioms proved
end Go.Proofs.Ytmmibldchfmleaa.dedupPlays
