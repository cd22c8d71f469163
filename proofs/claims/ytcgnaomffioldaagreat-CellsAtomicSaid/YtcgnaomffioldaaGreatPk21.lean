/-
  Cells: a store on a disk of a call's own.
  The cells of old rows stay, and the rows ahead of B whole: 'Cel B'. ('[]byte("a")' marks a row that it has made: its cells stay.)
  The laws' example: a name that is kept, and there again.
  How arguments are opened for my walks.
-/
import Derived.Test.YtcgnaomffioldaaGreatPk08
import Derived.Test.YtcgnaomffioldaaGreatPk20
import Derived.Test.YtcgnaomffioldaaGreatPk02
import Derived.Test.YtcgnaomffioldaaGreatPk04
import Derived.Test.YtcgnaomffioldaaGreatRows
import Derived.Test.YtcgnaomffioldaaGreatPk01
import Derived.ProofKit
import Derived.OpenShut
import Derived.ShutString
import Derived.ChangeOld
/-! Cells: a store on a disk of a call's own. -/
namespace Go.Proofs.YtcgnaomffioldaaGreat
open Go.RowKit Codec

theorem czero_scan (k f n : Nat) : scanW (blocksOf (List.replicate k zero128) (f : Int) (n : Int)) 0 ws0 = ws0 := by
  cases hb : blocksOf (List.replicate k zero128) (f : Int) (n : Int) with
  | nil => rfl
  | cons b bs =>
    have hm : b ∈ blocksOf (List.replicate k zero128) (f : Int) (n : Int) := by rw [hb]; simp
    unfold blocksOf at hm
    have h1 := List.eq_of_mem_replicate (List.mem_of_mem_drop (List.mem_of_mem_take hm))
    have h2 : (readL zero128).1 = 0 := by decide +kernel
    rw [h1]
    exact scan_bad (by rw [h2]; simp [badW])
theorem czero_open (k f n : Nat) : openM (blocksOf (List.replicate k zero128) (f : Int) (n : Int)) (f : Int) (n : Int) = ⟨(f : Int), (n : Int), 0, 1, 0, [], 0⟩ := by
  unfold openM
  rw [czero_scan, zero_most]
  rfl
/-- A disk that is new, opened. -/
theorem PS.new (n : Nat) (h2 : 2 ≤ n) (hn6 : n ≤ 65536) : ∃ s, openC (newM (n : Int)).1 = (s, 0) ∧ PS (newM (n : Int)).1 s 2 ∧ s.t = [] ∧ s.turns = 0 ∧ s.log.l = [] := by
  have hd := newM_at' n (by omega) hn6
  have hok : (newM (n : Int)).1.Ok := newM_ok (n : Int)
  rw [hd] at hok ⊢
  obtain ⟨d, hde⟩ : ∃ d : DM, d = ⟨List.replicate n zero128, -1, 0, false⟩ := ⟨_, rfl⟩
  rw [← hde] at hok ⊢
  have hl : d.l = List.replicate n zero128 := by rw [hde]
  have hlen : d.l.length = n := by rw [hl]; simp
  have hhn : hn d = n / 2 := by unfold hn; rw [hlen]
  have hh : ∀ i, halfM d i = ⟨((i * hn d : Nat) : Int), ((hn d : Nat) : Int), 0, 1, 0, [], 0⟩ := fun i => by
    unfold halfM
    rw [hl]
    exact czero_open n (i * hn d) (hn d)
  have hm : ∀ i, mostL (bl d i) = 0 := fun i => by unfold bl; rw [hl]; exact zero_most n _ _
  have hal : ∀ i, allM (halfM d i) = none := fun i => by rw [hh]; rfl
  have hup : d.down = false := by rw [hde]
  have hon := begin_on (d := d) (f := 0 * hn d) (n := hn d) (least := 1) hok hup (by omega) (by have := hm 0; unfold bl at this; omega)
  have hps : PS d ⟨[], 0, beginM (halfM d 0) ((0 * hn d : Nat) : Int) ((hn d : Nat) : Int) 1, 0, 0⟩ 2 := by
    refine ⟨hon, by rw [hde]; simp, Nat.zero_le _, by omega, by omega, rfl, TMay.nil, Srt.nil, .inl ⟨rfl, rfl, rfl, rfl, hal 0, hal 1⟩, ?_, by rw [hm]; omega⟩
    show (beginM (halfM d 0) _ _ 1).next ≤ 2
    unfold beginM
    simp only
    rw [hh]
    simp
  obtain ⟨s', h3, h4, h5, h6, h7⟩ := hps.open_ (by omega)
  exact ⟨s', h3, h4, h5, h6, h7 rfl⟩
theorem PS.sok {d : DM} {s : SM} {K : Nat} (h : PS d s K) (hK : K < 18446744073709551616) (ht : s.turns ≤ 1000000000) : SOk s :=
  ⟨h.on.okL (by have h1 := hn_two (d := d) h.half; have := h.few; omega) h.hn1 (by have h1 := hn_two (d := d) h.half; have := h.few; omega) (by have := h.next; omega), h.half, ht⟩
section
variable {w0 W : World} {m g p : Nat} {d : DM} {s : SM} {K : Nat} {T U : Nat → Prop}
theorem Dsk.copen (h : Dsk w0 m W g d) (hps : PS d s K) (hK : K < 18446744073709551615) :
    Calls Tryz.prog 8 #[.pointer (some ⟨g, 0, none⟩)] W fun e w' => ∃ p s', e = .returned (.tuple #[.pointer (some ⟨p, 0, none⟩), .int .i64 0]) ∧ Cs w' (W.heap.size ≤ ·) p g s' ∧ Dsk w0 m w' g d ∧ Below W.heap.size W w' ∧ PS d s' K ∧ s'.t = s.t ∧ s'.turns = 0 ∧ (s.log.l = [] → s'.log.l = []) := by
  obtain ⟨s', h3, h4, h5, h6, h7⟩ := hps.open_ hK
  refine (copen_any h.dk).mono ?_
  rintro e w' ⟨h1, h2⟩
  rw [h3, if_pos rfl] at h1
  obtain ⟨p, rfl, h8⟩ := h1
  exact ⟨p, s', rfl, h8, h.below h2, h2, h4, h5, h6, h7⟩
theorem Dsk.capply (h : Dsk w0 m W g d) (hc : Cs W T p g s) (hT : ∀ k, T k → m ≤ k) (hps : PS d s K) (hK : K < 18446744073709551615) (ht : s.turns ≤ 1000000000) {A : Option Addr} {n c : Nat} {l : List Ch} (hl : Chs W U A n c l) (hU : ∀ k, U k → ¬ T k ∧ (k < w0.heap.size ∨ m ≤ k)) (hb : wtT s.t + wtC l ≤ 800000) :
    Calls Tryz.prog 11 #[.pointer (some ⟨p, 0, none⟩), .slice A n c] W fun e w' => e = .returned (.int .i64 (applyC d s l).2.2) ∧ Dsk w0 m w' g (applyC d s l).1 ∧ Cs w' (fun k => T k ∨ W.heap.size ≤ k) p g (applyC d s l).2.1 ∧ Turned (fun k => (w0.heap.size ≤ k ∧ k < m) ∨ T k) W w' := by
  have hle := h.le
  refine (capply_any hc h.dk (fun k _ h1 h2 => by have := hT k h2; omega) (hps.sok (by omega) ht) hps.hn1 hl (fun k _ hk => ?_) hb).mono ?_
  · have := hU k hk
    exact ⟨fun h1 => by omega, this.1⟩
  · rintro _ w' ⟨rfl, h2, h3, h4⟩
    refine ⟨rfl, ⟨h2, h.bel.trans ((h4.mono fun k _ hk => ?_).below h.bel.size), Nat.le_trans h.top h4.size⟩, h3, h4⟩
    rcases hk with hk | hk
    · exact hk.1
    · have := hT k hk; omega
end
end Go.Proofs.YtcgnaomffioldaaGreat

/-! The cells of old rows stay, and the rows ahead of B whole: 'Cel B'. ('[]byte("a")' marks a row that it has made: its cells stay.) -/
namespace Go.Proofs.YtcgnaomffioldaaGreat
open Go.RowKit

structure Cel (B : Nat) (W W' : World) : Prop where
  os : W'.os = W.os
  tape : W'.tape = W.tape
  output : W'.output = W.output
  size : W.heap.size ≤ W'.heap.size
  block : ∀ k, k < W.heap.size → k < B → W'.heap[k]? = W.heap[k]?
  cell : ∀ b o, b < W.heap.size → W'.cell? ⟨b, o, none⟩ = W.cell? ⟨b, o, none⟩
section
variable {B : Nat} {W W' V : World}
theorem Cel.refl (B : Nat) (W : World) : Cel B W W := ⟨rfl, rfl, rfl, Nat.le_refl _, fun _ _ _ => rfl, fun _ _ _ => rfl⟩
theorem Cel.trans (h : Cel B W W') (k : Cel B W' V) : Cel B W V :=
  ⟨k.os.trans h.os, k.tape.trans h.tape, k.output.trans h.output, Nat.le_trans h.size k.size, fun i hi hb => (k.block i (Nat.lt_of_lt_of_le hi h.size) hb).trans (h.block i hi hb), fun b o hb => (k.cell b o (Nat.lt_of_lt_of_le hb h.size)).trans (h.cell b o hb)⟩
theorem Cel.of_below (h : Below W.heap.size W W') : Cel B W W' := ⟨h.os, h.tape, h.output, h.size, fun k hk _ => h.block k hk, fun b _ hb => h.cell (p := ⟨b, _, none⟩) hb⟩
theorem Cel.below (h : Cel W.heap.size W W') : Below W.heap.size W W' := ⟨h.os, h.tape, h.output, h.size, fun k hk => h.block k hk hk⟩
theorem Cel.of_drew (h : Cel B W.drew W') : Cel B W W' := ⟨h.os, h.tape, h.output, h.size, h.block, h.cell⟩
theorem Byt.cel {S : Nat → Prop} {A : Option Addr} {n c : Nat} {l : List UInt8} (h : Byt W S A n c l) (k : Cel B W W') : Byt W' S A n c l := h.keep k.size k.cell
theorem Rws.cel {S : Nat → Prop} {A : Option Addr} {n c : Nat} {ls : List (List UInt8)} (h : Rws W S A n c ls) (k : Cel B W W') : Rws W' S A n c ls :=
  ⟨h.len, h.cap, h.max, fun h0 => by
    obtain ⟨b, off, hA, hS, hlt, hc⟩ := h.row h0
    refine ⟨b, off, hA, hS, Nat.lt_of_lt_of_le hlt k.size, fun i hi => ?_⟩
    obtain ⟨Ai, ni, ci, h1, h2⟩ := hc i hi
    exact ⟨Ai, ni, ci, (k.cell _ _ hlt).trans h1, h2.cel k⟩⟩

/-- '[]byte("..")' of a constant, whose row lies anywhere. -/
theorem conv_mark {P : Program} (W : World) (t e : TypeId) (ht : P.underlying t = some (.slice e)) (he : P.underlying e = some (.int .u8)) (g n c : Nat) (hB : B ≤ g) :
    ∃ W', (convert t t (.slice (some ⟨g, 0, none⟩) n c)).run P W = .ok (.slice (some ⟨g, 0, none⟩) n c) W' ∧ Cel B W W' := by
  have hf : ∀ k, Cel B W (W.freeze ⟨g, k, none⟩ 1) := fun k => by
    unfold World.freeze
    rw [if_neg (by decide)]
    refine ⟨rfl, rfl, rfl, by simp, fun i _ hi => ?_, fun b o _ => ?_⟩
    · simp only [Array.getElem?_modify]
      rw [if_neg (by omega)]
    · simp only [World.cell?, Array.getElem?_modify]
      by_cases hbg : g = b
      · rw [if_pos hbg]
        cases hh : W.heap[b]? with
        | none => rfl
        | some ob => cases ob <;> rfl
      · rw [if_neg hbg]
  cases hs : W.shape? g with
  | none =>
    refine ⟨W, ?_, Cel.refl _ _⟩
    simp [convert, run_underlying ht, run_underlying he, markStringish, hs]
  | some p =>
    obtain ⟨x, k⟩ := p
    refine ⟨_, ?_, hf k⟩
    simp [convert, run_underlying ht, run_underlying he, markStringish, hs]
end
end Go.Proofs.YtcgnaomffioldaaGreat

/-! The laws' example: a name that is kept, and there again. -/
namespace Go.Proofs.YtcgnaomffioldaaGreat
open Go.RowKit Codec

def ay0 : DM := (newM ((8 : Nat) : Int)).1
def ayL : List Ch := [⟨[98], [120], false⟩, ⟨[97], [], false⟩]
def ayT : Tb := [([97], []), ([98], [120])]
theorem ay_t : doL [] ayL = ayT := by decide +kernel
theorem ay_w : wtT ayT ≤ 50 ∧ wtC ayL ≤ 60 ∧ ayL.all mayC = true := by decide +kernel
theorem ay_g : getT ayT [98] = some [120] := by decide +kernel
theorem newM_len (n : Nat) (h1 : 1 ≤ n) (h2 : n ≤ 65536) : (newM (n : Int)).1.l.length = n := by
  rw [newM_at' n h1 h2]
  simp
/-- Changes in a block of their own. -/
theorem chs_block {w : World} {q : Nat} {S : Nat → Prop} (L : List (Ro × Ch)) (h : w.heap[q]? = some (.cells (chCells L).toArray 67 (0, 0))) (hq : S q) (hL : ∀ y ∈ L, Byt w S y.1.1 y.1.2.1 y.1.2.2 y.2.v) (hlen : L.length ≤ 1000) : Chs w S (some ⟨q, 0, none⟩) L.length L.length (L.map (·.2)) := by
  refine ⟨by simp, Nat.le_refl _, by unfold maxLen; omega, fun _ => ⟨q, 0, rfl, hq, lt_of_cells h, fun i x hx => ?_⟩⟩
  rw [List.getElem?_map] at hx
  cases hy : L[i]? with
  | none => rw [hy] at hx; cases hx
  | some y =>
    rw [hy] at hx
    have hyx : y.2 = x := by simpa using hx
    refine ⟨y.1.1, y.1.2.1, y.1.2.2, fun j u hu => ?_, by rw [← hyx]; exact hL y (List.mem_of_getElem? hy)⟩
    rw [← hyx] at hu
    rw [cell_of_cells h, Nat.zero_add, List.getElem?_toArray]
    exact chCells_at L i y hy j u hu
/-- Changes that have room are done. -/
theorem PS.room {d : DM} {s : SM} {K : Nat} (h : PS d s K) {l : List Ch} (hl : l.length < 18446744073709551616) (htl : s.t.length + l.length < 18446744073709551616) (hK : K + 65536 < 18446744073709551615) (hm : l.all mayC = true) (hw : wtT (doL s.t l) + 20 ≤ 110 * hn d) :
    (applyC d s l).2.2 = 0 := by
  have ha := h.apply_ l hl htl hK
  have hhn : hn d ≤ 65536 := by have h1 : hn d = d.l.length / 2 := rfl; have := h.few; omega
  have hlen := allB_len (doL s.t l) (by omega)
  rcases ha.err with h1 | h1 | h1
  · have := ha.one.1 h1
    rw [hm] at this
    cases this
  · have h2 := ha.full h1
    unfold blocksN at h2
    have h3 := h.hn1
    split at h2 <;> omega
  · exact h1
set_option maxHeartbeats 8000000 in
set_option maxRecDepth 100000 in
theorem celawake_true (w : World) : Calls Tryz.prog 5 #[] w fun e w' => e = .returned (.bool true) ∧ Below w.heap.size w w' := by
  have hnew := Dsk.new (Below.refl w.heap.size w) 8 (by omega) (by omega)
  obtain ⟨s0, ho0, hps0, ht0, hu0, hl0⟩ := PS.new 8 (by omega) (by omega)
  have hlen := newM_len 8 (by omega) (by omega)
  have hd0 : (newM ((8 : Nat) : Int)).1 = ay0 := rfl
  rw [hd0] at ho0 hps0 hnew hlen
  have HPS := Lib.hid (And.intro hps0 (And.intro ht0 (And.intro hu0 (And.intro hl0 hlen))))
  clear hps0 ht0 hu0 hl0 ho0 hd0 hlen
  go_enter Tryz.func5, Tryz.ntmps5
  go_upto_region 2 with (go_at_call 6; refine hnew.mono ?_; clear hnew; rintro _ w1 ⟨g, rfl, hd1⟩)
  obtain ⟨m, hm⟩ : ∃ m, m = w1.heap.size := ⟨_, rfl⟩
  rw [← hm] at hd1
  have HM := Lib.hid (show m ≤ w1.heap.size by omega)
  have hop := hd1.copen HPS.out.1 (by omega)
  clear hd1 hm
  go_upto_region 3 with (go_at_call 8; refine hop.mono ?_; clear hop; rintro _ w2 ⟨p, s1, rfl, hc2, hd2, hb2, hps1, ht1, hu1, hl1⟩)
  have H2 := Lib.hid (And.intro (hc2.mono (T := fun k => m ≤ k ∧ k < w2.heap.size) fun k hk h => ⟨by have := HM.out; omega, hk⟩) (And.intro hd2 (And.intro hps1 (And.intro ht1 (And.intro hu1 (And.intro hl1 hd2.top))))))
  clear hc2 hd2 hb2 hps1 ht1 hu1 hl1
  go_upto_region 5 with fail
  obtain ⟨w3, hcv, hce⟩ := conv_mark (P := Tryz.prog) (B := w2.heap.size) (w2.alloc (.cells #[.int .u8 120] 5)) 54 5 Tryz.underlying54 Tryz.underlying5 w2.heap.size 1 1 (Nat.le_refl _)
  have hb3 : Below w2.heap.size w2 w3 := ⟨hce.os, hce.tape, hce.output, by have := hce.size; simp at this; omega, fun k hk => (hce.block k (by simp; omega) hk).trans (Below.heap_alloc _ _ _ hk)⟩
  have hy3 : Byt w3 (w2.heap.size ≤ ·) (some ⟨w2.heap.size, 0, none⟩) 1 1 [120] := (byt_filled' (w' := w2.alloc (.cells #[.int .u8 120] 5)) (l := [120]) (n := 1) (heap_alloc_new w2 _) rfl (by omega) (Nat.le_refl _)).cel hce
  obtain ⟨w4, hw4⟩ : ∃ w4, w4 = w3.alloc (Obj.cells #[.string ⟨#[98]⟩, .slice (some ⟨w2.heap.size, 0, none⟩) 1 1, .bool false, .string ⟨#[97]⟩, .slice none 0 0, .bool false] 67) := ⟨_, rfl⟩
  have hb4 : Below w2.heap.size w2 w4 := hb3.trans (by rw [hw4]; exact (Below.refl _ _).alloc hb3.size _)
  have hch : Chs w4 (w2.heap.size ≤ ·) (some ⟨w3.heap.size, 0, none⟩) 2 2 ayL := by
    refine chs_block (L := [((some ⟨w2.heap.size, 0, none⟩, 1, 1), ⟨[98], [120], false⟩), ((none, 0, 0), ⟨[97], [], false⟩)]) (by rw [hw4]; exact heap_alloc_new w3 _) hb3.size (fun y hy => ?_) (by simp)
    rcases List.mem_cons.1 hy with rfl | hy
    · rw [hw4]; exact hy3.alloc _
    · obtain rfl := List.mem_singleton.1 hy
      exact Byt.nil _ _ _ _ (Nat.zero_le _)
  have hap := (H2.out.2.1.below hb4).capply (H2.out.1.below hb4) (fun k h => h.1) H2.out.2.2.1 (by omega) (by rw [H2.out.2.2.2.2.1]; omega) hch (fun k hk => ⟨fun h => by omega, .inr (by have := H2.out.2.2.2.2.2.2; omega)⟩) (by rw [H2.out.2.2.2.1, HPS.out.2.1]; have := ay_w; simp [wtT]; omega)
  have hT1 : s1.t = [] := by rw [H2.out.2.2.2.1, HPS.out.2.1]
  have hhn0 : hn ay0 = 4 := by unfold hn; rw [HPS.out.2.2.2.2]
  have hz := H2.out.2.2.1.room (l := ayL) (by simp [ayL]) (by rw [hT1]; simp [ayL]) (by omega) ay_w.2.2 (by rw [hT1, ay_t, hhn0]; have := ay_w; omega)
  have hay := H2.out.2.2.1.apply_ ayL (by simp [ayL]) (by rw [hT1]; simp [ayL]) (by omega)
  obtain ⟨hp6, ht6, _, _, hu6, _⟩ := hay.yes hz
  have hu6 := hu6 (by simp [ayL]) (H2.out.2.2.2.2.2.1 HPS.out.2.2.2.1)
  rw [hT1, ay_t] at ht6
  rw [H2.out.2.2.2.2.1] at hu6
  rw [hhn0] at hp6
  rw [hz] at hap
  obtain ⟨d6, hd6⟩ : ∃ d6, d6 = (applyC ay0 s1 ayL).1 := ⟨_, rfl⟩
  obtain ⟨s6, hs6⟩ : ∃ s6, s6 = (applyC ay0 s1 ayL).2.1 := ⟨_, rfl⟩
  rw [← hd6, ← hs6] at hap hp6
  rw [← hs6] at ht6 hu6
  have H6 := Lib.hid (And.intro hp6 (And.intro ht6 hu6))
  have HS4 := Lib.hid hb4.size
  clear hp6 ht6 hu6 hay hz hhn0 hT1 hd6 hs6 hch hb4 hb3 hce hy3
  rw [hw4] at hap
  go_upto_region 6 with (go_at_call 11; refine hap.mono ?_; clear hap; rintro _ w7 ⟨rfl, hd7, hc7, hr7⟩)
  clear hcv
  rw [← hw4] at hc7 hr7
  have H7 := Lib.hid (And.intro (hc7.mono (T := fun k => m ≤ k ∧ k < w7.heap.size) fun k hk h => by have := H2.out.2.2.2.2.2.2; have := HS4.out; rcases h with h | h <;> exact ⟨by omega, hk⟩) hd7)
  clear hc7 hr7 hw4 HS4
  have hop := hd7.copen H6.out.1 (by omega)
  clear hd7
  go_upto_region 7 with (go_at_call 8; refine hop.mono ?_; clear hop; rintro _ w8 ⟨p8, s8, rfl, hc8, hd8, hb8, hps8, ht8, _, _⟩)
  have HT := Lib.hid (And.intro (H7.out.1.below hb8) hd8.bel)
  rw [H6.out.2.1] at ht8
  have hget := cget_any hc8 [98] (by simp) (by rw [ht8, ay_g]; simp)
  rw [ht8, ay_g] at hget
  have H8 := Lib.hid (And.intro hc8 ht8)
  clear hc8 hd8 hb8 hps8 ht8 H7
  go_upto_region 8 with (go_at_call 25; refine hget.mono ?_; clear hget; rintro _ w9 ⟨A9, n9, c9, rfl, hy9, hb9⟩)
  have hks := ckeys_any (H8.out.1.below hb9) (by rw [H8.out.2]; simp [ayT])
  rw [H8.out.2] at hks
  have H9 := Lib.hid (And.intro (HT.out.1.below hb9) (HT.out.2.trans (hb9.mono HT.out.2.size)))
  clear hb9
  go_upto_region 9 with (go_at_call 26; refine hks.mono ?_; clear hks; rintro _ w10 ⟨A10, n10, c10, rfl, hs10, hb10⟩)
  have hc10 := H9.out.1.below hb10
  have HB10 := Lib.hid (H9.out.2.trans (hb10.mono H9.out.2.size))
  have hcv9 := byt_string (hy9.below hb10)
  have htr := cturns_any hc10
  rw [H6.out.2.2] at htr
  obtain rfl : n10 = 2 := by rw [← hs10.len]; rfl
  obtain ⟨q, o, rfl, _, hq, hc⟩ := hs10.row (by omega)
  have hc0 : w10.cell? ⟨q, o, none⟩ = some (.string ⟨#[97]⟩) := hc 0 (by omega)
  clear hs10 hc hq hb10 hy9 hc10
  go_wp2_with (go_at_call 23; refine htr.mono ?_; clear htr; rintro _ _ ⟨rfl, rfl⟩)
  go_ret
  exact ⟨rfl, HB10.out⟩
end Go.Proofs.YtcgnaomffioldaaGreat

/-! How arguments are opened for my walks. -/
namespace Go.Proofs.YtcgnaomffioldaaGreat
open Go.ChangeShapes Go.WideShapes Go.ChangeAt Go.RowKit

theorem own_knob : ownKnob Tryz.prog.godebug = none := by kernel_rfl
theorem laid_out : laidOutB Tryz.prog = true := by kernel_rfl

theorem u8_bounds {z : Int} (h : (Lit.int .u8 z).wf = true) : 0 ≤ z ∧ z < 256 := by
  have := bounds_u8 h
  omega

/-- A row of numbers of bytes that came in. -/
theorem byt_of_ints {w : World} {x : Addr} {len cap : Nat} {zs : List Int} (hl : len ≤ cap) (hm : cap ≤ maxLen) (hz : zs.length = cap) (hcell : ∀ i, i < zs.length → w.cell? (x.add i) = some (.int .u8 (zs.getD i 0)))
    (hwz : ∀ n ∈ zs, (Lit.int .u8 n).wf = true) : Byt w (fun _ => True) (some x) len cap ((zs.take len).map fun z => UInt8.ofNat z.toNat) := by
  refine ⟨by simp; omega, hl, hm, fun h0 => ?_⟩
  obtain ⟨b, off, spot⟩ := x
  have hc0 := hcell 0 (by omega)
  have hspot : spot = none := by simpa [Addr.add] using World.cell?_spot hc0
  subst hspot
  have hlt := World.block_lt_of_cell? _ _ hc0
  rw [add_plain] at hlt
  refine ⟨b, off, rfl, trivial, hlt, fun i hi => ?_⟩
  have hc := hcell i (by omega)
  rw [add_plain] at hc
  rw [hc]
  have hi2 : i < zs.length := by omega
  have hb := u8_bounds (hwz zs[i] (List.getElem_mem hi2))
  simp only [List.getD, List.getElem?_eq_getElem hi2, Option.getD_some, List.getElem?_map, List.getElem?_take_of_lt hi, Option.map_some]
  congr 2
  simp
  omega

theorem bytes_in {w : World} {H : Type} {enc : TypeId × Value → H} {base : Nat} {spare : Nat → Bool} {held : Bool} {a : Option Addr} {len cap : Nat} {d : DataW H} {p : List MemPlace}
    (hs : spare = fun _ => true) (h : DataW.Trod enc Tryz.prog w base spare held 54 (.slice a len cap) d p) : ∃ l, Byt w (fun _ => True) a len cap l := by
  subst hs
  obtain ⟨fuel, hf⟩ := h
  rcases open_ints Tryz.underlying54 Tryz.underlying5 (by kernel_rfl) hf with ⟨hcs, _⟩ | ⟨x, l, c, zs, hcs, _, hl, hm, hz, _, hcell, hwz⟩
  · simp [Value.cells] at hcs
    obtain ⟨rfl, rfl, rfl⟩ := hcs
    exact ⟨[], Byt.nil _ _ _ _ (Nat.zero_le _)⟩
  · simp [Value.cells] at hcs
    obtain ⟨rfl, rfl, rfl⟩ := hcs
    exact ⟨_, byt_of_ints hl hm (by simpa using hz) hcell hwz⟩

theorem trod_lt {w : World} {H : Type} {enc : TypeId × Value → H} {base : Nat} {spare : Nat → Bool} {held : Bool} {t : TypeId} {v : Value} {d : DataW H} {p : List MemPlace}
    (h : DataW.Trod enc Tryz.prog w base spare held t v d p) : ∀ x ∈ p, x.block < w.heap.size := by
  obtain ⟨m, hm⟩ := h
  exact DataW.trod_lt m _ _ _ hm
end Go.Proofs.YtcgnaomffioldaaGreat
