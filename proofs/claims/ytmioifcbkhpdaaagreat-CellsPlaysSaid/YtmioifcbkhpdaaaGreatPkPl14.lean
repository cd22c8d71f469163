/-
  Cells: changes done to names.
-/
import Derived.Test.YtmioifcbkhpdaaaGreatPkPl06
import Derived.Test.YtmioifcbkhpdaaaGreatPkPl13
import Derived.Test.YtmioifcbkhpdaaaGreatPkPl04
import Derived.Test.YtmioifcbkhpdaaaGreatPkPl01
import Derived.Test.YtmioifcbkhpdaaaGreatPkPl05
import Derived.Test.YtmioifcbkhpdaaaGreatPkPl03
import Derived.Test.YtmioifcbkhpdaaaGreatPkPl12
import Derived.Test.YtmioifcbkhpdaaaGreatPkPl02
namespace Go.Proofs.YtmioifcbkhpdaaaGreat
set_option maxHeartbeats 16000000
set_option maxRecDepth 100000
open Go.RowKit
theorem scan_first {x : Nat} : ∀ (bs : List (List UInt8)) (i : Nat) (s : WS), s.first ≤ x → s.fst ≤ x → (∀ b ∈ bs, fL b ≤ x) → (zk bs i s).first ≤ x
 | [], _, _, h, _, _ => h
 | b :: bs, i, s, h1, h2, hb => by
   have hr := Nat.le_trans readL_le (hb b (by simp));rw [zk]
   split
   ·exact h1
   ·refine scan_first bs (i + 1) _ ?_ ?_ fun c hc => hb c (by simp [hc])
    ·unfold zf
     split
     ·simp only
      split <;> omega
     ·exact h1
    ·unfold zf
     split
     ·simp only
      split <;> omega
     ·simp only
      split <;> omega
theorem scan_few : ∀ (bs : List (List UInt8)) (i : Nat) (s : WS), s.recs.length ≤ s.have_ → s.have_ ≤ i → (zk bs i s).recs.length ≤ (zk bs i s).have_ ∧ (zk bs i s).have_ ≤ i + bs.length
 | [], i, s, h1, h2 => ⟨h1, h2⟩
 | b :: bs, i, s, h1, h2 => by
   rw [zk]
   split
   ·rw [List.length_cons]; omega
   ·have hs : (zf i s (ze b).1 (ze b).2.1 (ze b).2.2).recs.length ≤ (zf i s (ze b).1 (ze b).2.1 (ze b).2.2).have_ ∧ (zf i s (ze b).1 (ze b).2.1 (ze b).2.2).have_ ≤ i + 1 := by
      unfold zf
      split
      ·simp only [List.length_append, List.length_singleton];omega
      ·simp only;omega
    have := scan_few bs (i + 1) _ hs.1 hs.2;rw [List.length_cons];omega
theorem openM_ok {d : DM} {f n : Nat} (hf : f ≤ 65536) (h1 : 1 ≤ n) (hn : n ≤ 65536) (hl : f + n ≤ d.l.length) : (yd (zW d.l (f : Int) (n : Int)) (f : Int) (n : Int)).Ok := by
 have h8 := fun b (hb : b ∈ zW d.l (f : Int) (n : Int)) => val8 b
 have hfew := scan_few (zW d.l (f : Int) (n : Int)) 0 ws0 (Nat.le_refl _) (Nat.le_refl _);rw [blocksOf_length hl] at hfew;have hfs := scan_first (x := 18446744073709551615) (zW d.l (f : Int) (n : Int)) 0 ws0 (Nat.zero_le _) (Nat.zero_le _) (fun b hb => by have := h8 b hb; unfold fL; omega);refine ⟨⟨?_, ?_⟩, ⟨?_, ?_⟩, ?_, ?_, ?_, ?_⟩ <;> unfold yd <;> simp only
 ·omega
 ·omega
 ·omega
 ·omega
 ·omega
 ·exact Nat.mod_lt _ (by omega)
 ·omega
 ·exact hfew.1
theorem beginM_ok {M : LM} (ok : M.Ok) {f n : Int} (hf : M.from_ = f) (hn : M.n = n) {least : Nat} (hl : least < 18446744073709551616) : (zj M f n least).Ok := by
 have h1 := ok.next
 have h2 := ok.from_;have h3 := ok.n;refine ⟨by rw [← hf]; exact h2, by rw [← hn]; exact h3, ?_, ?_, ?_, ?_⟩ <;> unfold zj <;> simp only
 ·rw [← hn]; omega
 ·split <;> omega
 ·omega
 ·simp
def lgV : Option Nat → Value
 | some p => .pointer (some ⟨p, 0, none⟩)
 | none => .pointer none
theorem MadeL.cases {W : World} {g : Nat} {M : LM} {E : Int} {e : Ending} {w' : World} (h : MadeL W g M E e w') : ∃ po, e = .returned (.tuple #[lgV po, .int .i64 E]) ∧ ((E = 0 → ∃ p, po = some p ∧ Lg w' (W.heap.size ≤ ·) p g M) ∧ (E ≠ 0 → po = none)) ∧ Below W.heap.size W w' := by
 obtain ⟨h5, hb⟩ := h
 by_cases hz : E = 0
 ·rw [if_pos hz] at h5;obtain ⟨p, h6, h7⟩ := h5;exact ⟨some p, by rw [h6, hz]; rfl, ⟨fun _ => ⟨p, rfl, h7⟩, fun h => absurd hz h⟩, hb⟩
 ·rw [if_neg hz] at h5;exact ⟨none, by rw [h5]; rfl, ⟨fun h => absurd h hz, fun _ => rfl⟩, hb⟩
open Codec
def scV (g q b : Nat) (s : SM) : Array Value := #[.pointer (some ⟨g, 0, none⟩), .int .i64 (s.half : Int), .pointer (some ⟨q, 0, none⟩), .map (some b), .int .i64 (s.turns : Int), .int .i64 s.e]
def Cs (w : World) (S : Nat → Prop) (p g : Nat) (s : SM) : Prop :=
 ∃ (q b : Nat) (SL SN : Nat → Prop), S p ∧ w.heap[p]? = some (.cells (scV g q b s) 85 (0, 0)) ∧ Lg w SL q g s.log ∧ Nms w SN b s.t ∧ (∀ k, k < w.heap.size → SL k → S k ∧ k ≠ p ∧ ¬ SN k) ∧ (∀ k, k < w.heap.size → SN k → S k ∧ k ≠ p)
section
variable {w w' : World} {S T : Nat → Prop} {p g : Nat} {s : SM}
theorem Cs.turned (h : Cs w S p g s) (ht : Turned T w w') (hd : ∀ k, k < w.heap.size → S k → ¬ T k) : Cs w' S p g s := by
 obtain ⟨q, b, SL, SN, h1, h2, h3, h4, h5, h6⟩ := h
 refine ⟨q, b, fun k => SL k ∧ k < w.heap.size, fun k => SN k ∧ k < w.heap.size, h1, (ht.block p (zB h2) (hd p (zB h2) h1)).trans h2, (h3.mono (T := fun k => SL k ∧ k < w.heap.size) fun k hk hs => ⟨hs, hk⟩).turned ht fun k hk hs => hd k hk (h5 k hk hs.1).1,
  (h4.mono (T := fun k => SN k ∧ k < w.heap.size) fun k hk hs => ⟨hs, hk⟩).turned ht fun k hk hs => hd k hk (h6 k hk hs.1).1, fun k _ hs => ?_, fun k _ hs => h6 k hs.2 hs.1⟩
 have h7 := h5 k hs.2 hs.1;exact ⟨h7.1, h7.2.1, fun h => h7.2.2 h.1⟩
theorem Cs.below (h : Cs w S p g s) (hb : Below w.heap.size w w') : Cs w' S p g s :=
 h.turned (T := fun _ => False) (Turned.of_below hb) fun _ _ _ h => h
theorem Cs.mono (h : Cs w S p g s) (hT : ∀ k, k < w.heap.size → S k → T k) : Cs w T p g s := by
 obtain ⟨q, b, SL, SN, h1, h2, h3, h4, h5, h6⟩ := h;exact ⟨q, b, SL, SN, hT p (zB h2) h1, h2, h3, h4, fun k hk hs => ⟨hT k hk (h5 k hk hs).1, (h5 k hk hs).2⟩, fun k hk hs => ⟨hT k hk (h6 k hk hs).1, (h6 k hk hs).2⟩⟩
theorem Cs.srt (h : Cs w S p g s) : Srt s.t := by
 obtain ⟨q, b, SL, SN, h1, h2, h3, h4, _⟩ := h;exact h4.srt
end
section
variable {w : World} {S : Nat → Prop} {p g : Nat} {s : SM}
theorem cerr_any (h : Cs w S p g s) : Calls Tryz.prog 21 #[.pointer (some ⟨p, 0, none⟩)] w fun e w' => e = .returned (.int .i64 s.e) ∧ w = w' := by
 obtain ⟨q, b, SL, SN, h1, h2, h3, h4, _⟩ := h;have hc : w.cell? ⟨p, 5, none⟩ = some (.int .i64 s.e) := zA h2 5;clear h2 h3 h4
 go_enter Tryz.func21, Tryz.ntmps21
 go_wp2_with fail
 go_ret
 exact ⟨rfl, rfl⟩
theorem cturns_any (h : Cs w S p g s) : Calls Tryz.prog 22 #[.pointer (some ⟨p, 0, none⟩)] w fun e w' => e = .returned (.int .i64 (s.turns : Int)) ∧ w = w' := by
 obtain ⟨q, b, SL, SN, h1, h2, h3, h4, _⟩ := h;have hc : w.cell? ⟨p, 4, none⟩ = some (.int .i64 (s.turns : Int)) := zA h2 4;clear h2 h3 h4
 go_enter Tryz.func22, Tryz.ntmps22
 go_wp2_with fail
 go_ret
 exact ⟨rfl, rfl⟩
theorem ckeys_any (h : Cs w S p g s) (hf : s.t.length ≤ 100000000) : Calls Tryz.prog 24 #[.pointer (some ⟨p, 0, none⟩)] w fun e w' => ∃ A n c, e = .returned (.slice A n c) ∧ Strs w' (w.heap.size ≤ ·) A n c (s.t.map (·.1)) ∧ Below w.heap.size w w' := by
 obtain ⟨q, b, SL, SN, h1, h2, h3, h4, _⟩ := h;have hc : w.cell? ⟨p, 3, none⟩ = some (.map (some b)) := zA h2 3;have hks := keys_func (some b) w;have hss := keys_sorted h4 hf;clear h2 h3 h4
 go_enter Tryz.func24, Tryz.ntmps24
 go_wp2_with (first
  | (go_at_call 50; refine hks.mono ?_; clear hks; rintro _ _ ⟨rfl, rfl⟩)
  | (go_at_call 49; refine hss.mono ?_; clear hss; rintro _ w4 ⟨A4, n4, c4, rfl, hs4, hb4⟩))
 go_ret
 exact ⟨A4, n4, c4, rfl, hs4, hb4⟩
def GetP (w : World) (r : Option (List UInt8)) (e : Ending) (w' : World) : Prop :=
 ∃ A n c, e = .returned (.tuple #[.slice A n c, .bool r.isSome]) ∧ Byt w' (w.heap.size ≤ ·) A n c (r.getD []) ∧ Below w.heap.size w w'
theorem cget_any (h : Cs w S p g s) (k : List UInt8) (hk : k.length ≤ 1000000) (hv : ((xE s.t k).getD []).length ≤ 1000000) : Calls Tryz.prog 23 #[.pointer (some ⟨p, 0, none⟩), .string (st k)] w fun e w' => GetP w (xE s.t k) e w' := by
 obtain ⟨q, b, SL, SN, h1, h2, h3, h4, _⟩ := h;have hc : w.cell? ⟨p, 3, none⟩ = some (.map (some b)) := zA h2 3;obtain ⟨A, n, c, hlk, _, hy⟩ := h4.look hk;have hcl := clone_byt hy (by have := hy.len; omega);clear h2 h3 h4 hy
 go_enter Tryz.func23, Tryz.ntmps23
 go_wp2_with (go_at_call 48; refine hcl.mono ?_; clear hcl; rintro _ w4 ⟨A4, c4, rfl, hy4, hb4, _⟩)
 go_ret2
 exact ⟨A4, n, c4, rfl, hy4, hb4⟩
/-! ### a disk's halves -/
theorem size_any {w : World} {S : Nat → Prop} {g : Nat} {d : DM} (h : Dk w S g d) :
    Calls Tryz.prog 25 #[.pointer (some ⟨g, 0, none⟩)] w fun e w' => e = .returned (.int .i64 ((d.l.length / 2 : Nat) : Int)) ∧ w = w' := by
 have hl := blen_any h
 go_enter Tryz.func25, Tryz.ntmps25
 go_wp2_with (go_at_call 45; refine hl.mono ?_; clear hl; rintro _ _ ⟨rfl, rfl⟩)
 go_ret
 have hq2 : wrap64 ((d.l.length : Int) / 2) = (d.l.length : Int) / 2 := IntWalk.wrap64_in _ (by have := h.few; omega);exact ⟨by simp [hq2], rfl⟩
theorem hbegin_any {w : World} {S : Nat → Prop} {g : Nat} {d : DM} (hd : Dk w S g d) (at_ : Nat) (ha : at_ ≤ 1) (least : Nat) (hl : least < 18446744073709551616) :
    Calls Tryz.prog 28 #[.pointer (some ⟨g, 0, none⟩), .int .i64 (at_ : Int), .int .u64 (least : Int)] w fun e w' =>
     MadeL w g (zj (yd (zW d.l ((at_ * (d.l.length / 2) : Nat) : Int) ((d.l.length / 2 : Nat) : Int)) ((at_ * (d.l.length / 2) : Nat) : Int) ((d.l.length / 2 : Nat) : Int)) ((at_ * (d.l.length / 2) : Nat) : Int) ((d.l.length / 2 : Nat) : Int) least) (zo d.l.length d.down ((at_ * (d.l.length / 2) : Nat) : Int) ((d.l.length / 2 : Nat) : Int)) e w' := by
 have hsz := size_any hd;have hfew := hd.few;obtain ⟨n, hn⟩ := sqz (d.l.length / 2);have hn2 : n ≤ 32768 := by omega
 rw [← hn] at hsz ⊢;obtain ⟨f, hf⟩ := sqz (at_ * n);have hf2 : f ≤ 32768 := by rw [hf]; rcases Nat.le_one_iff_eq_zero_or_eq_one.1 ha with rfl | rfl <;> omega
 have hmul : IntKind.i64.wrap ((at_ : Int) * (n : Int)) = (f : Int) := by rw [IntWalk.i64_in _ (by rw [← Int.natCast_mul, ← hf]; omega), hf]; simp
 have hbg := wbegin_any hd (f : Int) (n : Int) (by omega) (by omega) least hl;rw [← hf];clear hd hn hfew;have HF := Lib.hid hf;clear hf
 go_enter Tryz.func28, Tryz.ntmps28
 go_wp2_with (first
  | (go_at_call 25; refine hsz.mono ?_; rintro _ _ ⟨rfl, rfl⟩)
  | (go_at_call 55; refine hbg.mono ?_; clear hbg; rintro _ w2 h2; have H2 := Lib.hid h2; obtain ⟨po, rfl, _, _⟩ := h2.cases; clear h2))
 go_ret2
 exact H2.out
end
def hfV (q : Nat) (cnt : Bool) (mv : Value) (A : Option Addr) (n c : Nat) : Array Value := #[.pointer (some ⟨q, 0, none⟩), .bool cnt, mv, .slice A n c]
def hzV : Array Value := #[.pointer none, .bool false, .map none, .slice none 0 0]
theorem xI : (Tryz.prog.info? 76).map (·.size) = some 4 := by kernel_rfl
theorem zero_half : ∀ W, (zeroValue 76).run Tryz.prog W = .ok (.agg #[.pointer none, .bool false, .map none, .slice none 0 0]) W := fun W => by kernel_rfl
theorem zero_half2 : ∀ W, (zeroValue 77).run Tryz.prog W = .ok (.agg #[.pointer none, .bool false, .map none, .slice none 0 0, .pointer none, .bool false, .map none, .slice none 0 0]) W := fun W => by kernel_rfl
theorem half2_info : (Tryz.prog.info? 77).map (·.size) = some 8 := by kernel_rfl
structure Hf (w : World) (g : Nat) (m : LM) (x a b y : Nat) (q : Nat) (cnt : Bool) (mv : Value) (A : Option Addr) (n c : Nat) : Prop where
 le : x ≤ a ∧ a ≤ b ∧ b ≤ y
 log : Lg w (fun k => x ≤ k ∧ k < a) q g m
 rows : Rws w (fun k => a ≤ k ∧ k < b) A n c m.l.tail
 cnt_ : cnt = (yT m).isSome
 no : yT m = none → mv = .map none
 yes : ∀ t, yT m = some t → ∃ mb, mv = .map (some mb) ∧ Nms w (fun k => b ≤ k ∧ k < y) mb t
theorem Hf.turned {T : Nat → Prop} {w w' : World} {g : Nat} {m : LM} {x a b y q : Nat} {cnt : Bool} {mv : Value} {A : Option Addr} {n c : Nat} (h : Hf w g m x a b y q cnt mv A n c) (ht : Turned T w w') (hd : ∀ k, k < w.heap.size → x ≤ k → k < y → ¬ T k) : Hf w' g m x a b y q cnt mv A n c := by
 obtain ⟨h1, h2, h3⟩ := h.le
 exact ⟨h.le, h.log.turned ht fun k hk hs => hd k hk hs.1 (by omega), h.rows.turned ht fun k hk hs => hd k hk (by omega) (by omega), h.cnt_, h.no, fun t ht' => by
  obtain ⟨mb, h4, h5⟩ := h.yes t ht';exact ⟨mb, h4, h5.turned ht fun k hk hs => hd k hk (by omega) hs.2⟩⟩
theorem Hf.mono {w : World} {g : Nat} {m : LM} {x x' a b y y' q : Nat} {cnt : Bool} {mv : Value} {A : Option Addr} {n c : Nat} (h : Hf w g m x a b y q cnt mv A n c) (hx : x' ≤ x) (hy : y ≤ y') : Hf w g m x' a b y' q cnt mv A n c := by
 obtain ⟨h1, h2, h3⟩ := h.le
 exact ⟨⟨by omega, h2, by omega⟩, h.log.mono fun k _ hk => ⟨by omega, hk.2⟩, h.rows, h.cnt_, h.no, fun t ht' => by
  obtain ⟨mb, h4, h5⟩ := h.yes t ht';exact ⟨mb, h4, h5.mono fun k _ hk => ⟨hk.1, by omega⟩⟩⟩
theorem Rws.cut1 {w : World} {S : Nat → Prop} {A : Option Addr} {n c : Nat} {ls : List (List UInt8)} (h : Rws w S A n c ls) (h0 : 0 < n) : Rws w S (cutA A c 1) (n - 1) (c - 1) ls.tail := by
 refine ⟨by rw [List.length_tail, h.len], by have := h.cap; omega, by have := h.max; omega, fun h1 => ?_⟩;obtain ⟨b, off, rfl, h2, h3, h4⟩ := h.row h0;have hc := h.cap;refine ⟨b, off + 1, ?_, h2, h3, fun i hi => ?_⟩
 ·unfold cutA;rw [if_neg (by omega)];simp [zK]
 ·obtain ⟨Ai, ni, ci, h5, h6⟩ := h4 (i + 1) (by omega);refine ⟨Ai, ni, ci, by rw [show off + 1 + i = off + (i + 1) by omega]; exact h5, ?_⟩;rw [List.getElem?_tail];exact h6
theorem sl_size2 : ∀ w, (Go.sizeOf 54).run Tryz.prog w = .ok 1 w := fun w => by kernel_rfl
theorem half_built0 : Tryz.prog.built 76 [] = some #[.pointer none, .bool false, .map none, .slice none 0 0] := by kernel_rfl
theorem half_one (a : Option Addr) (x : Bool) (mv : Option Nat) (A : Option Addr) (n c : Nat) : (#[Value.pointer a, .bool x, .map mv, .slice A n c] : Array Value).all (·.oneCell') = true := by simp [Value.oneCell']
def FdPost (w : World) (g : Nat) (d : DM) (i : Nat) (e : Ending) (w' : World) : Prop :=
 (if zo d.l.length d.down ((i * hn d : Nat) : Int) ((hn d : Nat) : Int) = 0 then
   ∃ a b q cnt mv A n c, e = .returned (.tuple #[.agg (hfV q cnt mv A n c), .int .i64 0]) ∧ Hf w' g (zT d i) w.heap.size a b w'.heap.size q cnt mv A n c
  else e = .returned (.tuple #[.agg hzV, .int .i64 (zo d.l.length d.down ((i * hn d : Nat) : Int) ((hn d : Nat) : Int))])) ∧ Below w.heap.size w w'
theorem hf_result {fn : Func} {p u : Tmp} (h : fn.results = #[.cell p 76, .tmp u]) (tmps : Array Value) (w : World) (g : Nat) (cs : Array Value) (hc : cs.size = 4) (hp : tmps.getD p undef = .pointer (some ⟨g, 0, none⟩)) (hg : w.heap[g]? = some (.cells cs 76 (0, 0))) :
    (results fn tmps).run Tryz.prog w = .ok (.tuple #[.agg cs, tmps.getD u undef]) w := by
 rw [results_cell_tmp h tmps];have hp' : tmps[p]?.getD undef = .pointer (some ⟨g, 0, none⟩) := by simpa using hp
 simp [hp', asAddr, Result.andThen, run_loadVar_row w g 76 76 cs (0, 0) _ hg Tryz.underlying76 rfl (by rw [hc]; exact xI)]
theorem find_any {w : World} {S : Nat → Prop} {g : Nat} {d : DM} (hd : Dk w S g d) (i : Nat) (hi : i ≤ 1) (h1 : 1 ≤ hn d) :
    Calls Tryz.prog 26 #[.pointer (some ⟨g, 0, none⟩), .int .i64 (i : Int)] w fun e w' => FdPost w g d i e w' := by
 have hal : Below w.heap.size w (w.alloc (.cells #[.pointer none, .bool false, .map none, .slice none 0 0] 76)) := (Below.refl _ _).alloc (Nat.le_refl _) _;have hd1 := hd.below hal;have hsz : Calls _ _ _ _ _ := size_any hd1;have hfew := hd.few;have hhn : hn d = d.l.length / 2 := rfl;rw [← hhn] at hsz;obtain ⟨n, hn_⟩ := sqz (hn d);have hn2 : n ≤ 32768 := by omega
 have hn1 : 1 ≤ n := by omega
 rw [← hn_] at hsz;obtain ⟨f, hf⟩ := sqz (i * n);have hf2 : f ≤ 32768 := by rw [hf]; rcases Nat.le_one_iff_eq_zero_or_eq_one.1 hi with rfl | rfl <;> omega
 have hmul : IntKind.i64.wrap ((i : Int) * (n : Int)) = (f : Int) := by rw [IntWalk.i64_in _ (by rw [← Int.natCast_mul, ← hf]; omega), hf]; simp
 have hop := wopen_any hd1 (f : Int) (n : Int) (by omega) (by omega);obtain ⟨E, hE⟩ : ∃ E, E = zo d.l.length d.down (f : Int) (n : Int) := ⟨_, rfl⟩
 obtain ⟨m, hm⟩ : ∃ m, m = yd (zW d.l (f : Int) (n : Int)) (f : Int) (n : Int) := ⟨_, rfl⟩
 rw [← hE, ← hm] at hop;have hln : f + n ≤ d.l.length := by rw [hf]; rcases Nat.le_one_iff_eq_zero_or_eq_one.1 hi with rfl | rfl <;> omega
 have HP : Hid (∀ e w', FdPost w g d i e w' ↔ ((if E = 0 then ∃ a b q cnt mv A k c, e = .returned (.tuple #[.agg (hfV q cnt mv A k c), .int .i64 0]) ∧ Hf w' g m w.heap.size a b w'.heap.size q cnt mv A k c else e = .returned (.tuple #[.agg hzV, .int .i64 E])) ∧ Below w.heap.size w w')) := Lib.hid (fun e w' => by
  unfold FdPost zT;rw [← hn_, ← hf, ← hE, ← hm])
 have HOK : Hid (m.Ok ∧ f + n ≤ d.l.length) := Lib.hid ⟨by rw [hm]; exact openM_ok (d := d) (by omega) hn1 (by omega) hln, hln⟩;have hzh := zero_half;have HAL := Lib.hid hal;clear hd hd1 hal hE hm hf hn_ hhn h1 hfew hln
 go_enter Tryz.func26, Tryz.ntmps26
 go_upto_region 2 with (first
  | (go_at_call 25; refine hsz.mono ?_; rintro _ _ ⟨rfl, rfl⟩)
  | (go_at_call 51; refine hop.mono ?_; clear hop; rintro _ w2 h2; have H2 := Lib.hid h2; obtain ⟨po, rfl, _, _⟩ := h2.cases; clear h2))
 have hb2 := H2.out.2;have HB2 := Lib.hid (HAL.out.trans (hb2.mono HAL.out.size));have hr2 : w2.heap[w.heap.size]? = some (.cells #[.pointer none, .bool false, .map none, .slice none 0 0] 76 (0, 0)) := (hb2.block _ (by simp)).trans (heap_alloc_new w _);have HR2 := Lib.hid hr2;clear hb2 hr2
 by_cases hE0 : E = 0
 ·subst hE0;have h2 := H2.out.1;rw [if_pos rfl] at h2;obtain ⟨q, hq, hlg⟩ := h2
  obtain rfl : po = some q := by
   cases po with
   | none => simp [lgV] at hq
   | some q' => simp [lgV] at hq; rw [hq]
  have hlgV : lgV (some q) = .pointer (some ⟨q, 0, none⟩) := rfl;have HLG := Lib.hid ((hlg.mono (T := fun k => w.heap.size + 1 ≤ k ∧ k < w2.heap.size) fun k hk h => ⟨by have h' : (w.alloc (.cells #[.pointer none, .bool false, .map none, .slice none 0 0] 76)).heap.size ≤ k := h; simp at h'; omega, hk⟩).below ((Below.refl _ _).alloc (Nat.le_refl _) (.cells #[.pointer (some ⟨q, 0, none⟩), .bool false, .map none, .slice none 0 0] 76)));have HA := Lib.hid (show Below w2.heap.size w2 (w2.alloc (.cells #[.pointer (some ⟨q, 0, none⟩), .bool false, .map none, .slice none 0 0] 76)) from (Below.refl _ _).alloc (Nat.le_refl _) _);clear hq hlg hsz;have hrc := wrecords_any HLG.out HOK.out.1
  go_upto_region 6 with (first
   | (go_at_call 52; refine hrc.mono ?_; clear hrc; rintro _ w4 ⟨A4, n4, c4, rfl, hr4, hb4⟩))
  have hrow4 : w4.heap[w2.heap.size]? = some (.cells #[.pointer (some ⟨q, 0, none⟩), .bool false, .map none, .slice none 0 0] 76 (0, 0)) := (hb4.block _ (by simp)).trans (heap_alloc_new w2 _);have hres4 : w4.heap[w.heap.size]? = some (.cells #[.pointer none, .bool false, .map none, .slice none 0 0] 76 (0, 0)) := ((HA.out.trans (hb4.mono HA.out.size)).block _ (zB HR2.out)).trans HR2.out;have H4 := sq6 (HLG.out.below hb4) (hr4.mono (T := fun k => w2.heap.size + 1 ≤ k ∧ k < w4.heap.size) fun k hk h => ⟨by have h' : (w2.alloc (.cells #[.pointer (some ⟨q, 0, none⟩), .bool false, .map none, .slice none 0 0] 76)).heap.size ≤ k := h; simp at h'; omega, hk⟩) (HB2.out.trans ((HA.out.trans (hb4.mono HA.out.size)).mono HB2.out.size)) hrow4 hres4 (show w2.heap.size + 1 ≤ w4.heap.size by have := hb4.size; simp at this; omega);have HLE := Lib.hid (show w.heap.size + 1 ≤ w2.heap.size by have := zB HR2.out; omega);have hlen4 := hr4.len;clear hr4 hb4 hrow4 hres4 hzh HAL HA HLG H2;rcases hml : m.l with _ | ⟨r0, rest⟩
  ·rw [hml] at hlen4;(obtain rfl : n4 = 0 := by simpa using hlen4.symm);(have hgt : ¬ (0 : Int) < ((0 : Nat) : Int) := by omega);have HML := Lib.hid hml;clear hlen4 hml
   go_wp2_with (first
    | (refine yA 8 H4.out.2.2.2.1 Tryz.underlying76 xI ?_)
    | (refine zl 4 44 #[.pointer (some ⟨q, 0, none⟩), .bool false, .map none, .slice none 0 0] H4.out.2.2.2.2.1 xI (by rfl) (half_one _ _ _ _ _ _) ?_))
   (try simp only [Exit.inBlock, Exit.then])
   refine bodyPost_ret (hf_result (p := 4) (u := 5) rfl _ _ w.heap.size _ (by rfl) rfl (zF H4.out.2.2.2.2.1)) rfl ?_;rw [HP.out]
   have hf : Hf (w4.setRow w.heap.size #[.pointer (some ⟨q, 0, none⟩), .bool false, .map none, .slice none 0 0]) g m (w.heap.size + 1) w2.heap.size w4.heap.size w4.heap.size q false (.map none) none 0 0 := by
    (have hal : yT m = none := by unfold yT; rw [HML.out]);refine ⟨⟨HLE.out, by have := H4.out.2.2.2.2.2; omega, Nat.le_refl _⟩, H4.out.1.turned (zO (w := w4) (g := w.heap.size) _) fun k _ h1 h2 => by have h2' : k = w.heap.size := h2; omega, ⟨by rw [HML.out]; rfl, Nat.le_refl _, Nat.zero_le _, fun h => absurd h (by omega)⟩, by rw [hal]; rfl, fun _ => rfl, fun t ht => by rw [hal] at ht; cases ht⟩
   refine ⟨?_, zD H4.out.2.2.1 (Nat.le_refl _) _⟩;rw [if_pos trivial];exact ⟨_, _, q, false, .map none, none, 0, 0, rfl, hf.mono (Nat.le_succ _) (by simp [World.setRow])⟩
  ·(have hz4 : n4 = rest.length + 1 := by rw [hml] at hlen4; simpa using hlen4.symm);(have hgt : (0 : Int) < (n4 : Int) := by omega);obtain ⟨b0, off0, rfl, _, hblt, hcl⟩ := H4.out.2.1.row (by omega);obtain ⟨A0, n0, c0, hc0, hy0⟩ := hcl 0 (by omega);rw [Nat.add_zero] at hc0;(have hg0 : m.l[0]?.getD [] = r0 := by rw [hml]; rfl);rw [hg0] at hy0
   have hr0 : r0.length ≤ 10000000 := by
    obtain ⟨_, _, _, _, _, h9⟩ := H4.out.1;exact h9 r0 (by rw [hml]; simp)
   have hra := readall_any hy0 (by have := hy0.len; omega);have hrt := H4.out.2.1.cut1 (by omega);(obtain ⟨A9, hA9⟩ : ∃ A9 : Option Addr, A9 = some ⟨b0, off0, none⟩ := ⟨_, rfl⟩);(have hsl : ∀ W, (Instr.slice 74 (.slice A9 n4 c4) (some (.int .i64 1)) none none).run Tryz.prog W = .ok (.slice (cutA A9 c4 1) (n4 - 1) (c4 - 1)) W := fun W => run_cut (P := Tryz.prog) 74 54 Tryz.underlying74 sl_size2 A9 n4 c4 1 (by omega) W);rw [← hA9] at hrt;obtain ⟨AT, hAT⟩ := sqz (cutA A9 c4 1);rw [← hAT] at hrt hsl;have HRT := Lib.hid hrt;have HA9 := Lib.hid hA9;clear hA9;have HM := Lib.hid (show yT m = raM r0 by unfold yT; rw [hml]);have HCAP := Lib.hid H4.out.2.1.cap;clear hrt hy0 hcl hg0 hr0 hAT hml hlen4 hz4
   go_upto_region 7 with fail
   rcases hrm : raM r0 with _ | t0
   ·have HRM := Lib.hid (HM.out.trans hrm);rw [hrm] at hra;clear hrm
    go_upto_region 8 with (go_at_call 53; refine hra.mono ?_; clear hra; rintro _ w5 ⟨rfl, hb5⟩; have hrow5 := (hb5.block _ (zB H4.out.2.2.2.1)).trans H4.out.2.2.2.1; have H5 := sq3 hb5 hrow5 trivial; have hc1 := zA hrow5 1; have hf1 := zC hrow5 1; have hc2 := zA hrow5 2; have hf2 := zC hrow5 2; clear hb5 hrow5)
    have hrow6 := zG (zG H5.out.2.1 2 (.map none)) 1 (.bool false);have ht6 : Turned (fun k => k = w2.heap.size) w4 ((w5.setCell ⟨w2.heap.size, 2, none⟩ (.map none)).setCell ⟨w2.heap.size, 1, none⟩ (.bool false)) := ((Turned.of_below (S := fun k => k = w2.heap.size) H5.out.1).set rfl 2 _).set rfl 1 _;have ht56 : Turned (fun k => k = w2.heap.size) w5 ((w5.setCell ⟨w2.heap.size, 2, none⟩ (.map none)).setCell ⟨w2.heap.size, 1, none⟩ (.bool false)) := ((Turned.refl (fun k => k = w2.heap.size) w5).set rfl 2 _).set rfl 1 _;(have hs56 : ((w5.setCell ⟨w2.heap.size, 2, none⟩ (.map none)).setCell ⟨w2.heap.size, 1, none⟩ (.bool false)).heap.size = w5.heap.size := by simp [World.setCell]);have H6 := sq4 hrow6 ht6 ht56 hs56;clear hc1 hf1 hc2 hf2 hrow6 ht6 ht56 hs56 hc0
    (generalize (w5.setCell ⟨w2.heap.size, 2, none⟩ (.map none)).setCell ⟨w2.heap.size, 1, none⟩ (.bool false) = w6 at *);rw [← HA9.out];have hc3 := zA H6.out.1 3;have hf3 := zC H6.out.1 3
    go_upto_region 9 with fail
    have hrow7 := zG H6.out.1 3 (.slice AT (n4 - 1) (c4 - 1));have ht7 : Turned (fun k => k = w2.heap.size) w4 (w6.setCell ⟨w2.heap.size, 3, none⟩ (.slice AT (n4 - 1) (c4 - 1))) := H6.out.2.1.set rfl 3 _;have ht57 : Turned (fun k => k = w2.heap.size) w5 (w6.setCell ⟨w2.heap.size, 3, none⟩ (.slice AT (n4 - 1) (c4 - 1))) := H6.out.2.2.1.set rfl 3 _;(have hs57 : (w6.setCell ⟨w2.heap.size, 3, none⟩ (.slice AT (n4 - 1) (c4 - 1))).heap.size = w5.heap.size := by rw [← H6.out.2.2.2]; simp [World.setCell]);have H7 := sq4 (show (w6.setCell ⟨w2.heap.size, 3, none⟩ (.slice AT (n4 - 1) (c4 - 1))).heap[w2.heap.size]? = some (.cells #[.pointer (some ⟨q, 0, none⟩), .bool false, .map none, .slice AT (n4 - 1) (c4 - 1)] 76 (0, 0)) from hrow7) ht7 ht57 hs57;clear hc3 hf3 hrow7 ht7 ht57 hs57 hsl
    (generalize w6.setCell ⟨w2.heap.size, 3, none⟩ (.slice AT (n4 - 1) (c4 - 1)) = w7 at *);have hres7 := (H7.out.2.1.block _ (zB H4.out.2.2.2.2.1) (by have := HLE.out; omega)).trans H4.out.2.2.2.2.1;have HRES := Lib.hid hres7;clear hres7
    go_wp2_with (first
     | (refine yA 8 H7.out.1 Tryz.underlying76 xI ?_)
     | (refine zl 4 44 #[.pointer (some ⟨q, 0, none⟩), .bool false, .map none, .slice AT (n4 - 1) (c4 - 1)] HRES.out xI (by rfl) (half_one _ _ _ _ _ _) ?_))
    (try simp only [Exit.inBlock, Exit.then])
    refine bodyPost_ret (hf_result (p := 4) (u := 5) rfl _ _ w.heap.size #[.pointer (some ⟨q, 0, none⟩), .bool false, .map none, .slice AT (n4 - 1) (c4 - 1)] (by rfl) rfl (zF HRES.out)) rfl ?_;rw [HP.out];have h45 := H5.out.1.size;have h4e := H4.out.2.2.2.2.2;have hle := HLE.out
    have hf : Hf (w7.setRow w.heap.size #[.pointer (some ⟨q, 0, none⟩), .bool false, .map none, .slice AT (n4 - 1) (c4 - 1)]) g m (w.heap.size + 1) w2.heap.size w4.heap.size w5.heap.size q false (.map none) AT (n4 - 1) (c4 - 1) := by
     have htr := zO (w := w7) (g := w.heap.size) #[.pointer (some ⟨q, 0, none⟩), .bool false, .map none, .slice AT (n4 - 1) (c4 - 1)];refine ⟨⟨hle, by omega, h45⟩, (H4.out.1.turned H7.out.2.1 fun k _ h1 h2 => by omega).turned htr fun k _ h1 h2 => by have h2' : k = w.heap.size := h2; omega, ((HRT.out.mono (T := fun k => w2.heap.size + 1 ≤ k ∧ k < w4.heap.size) fun _ _ h => h).turned H7.out.2.1 (fun k _ h1 h2 => by omega)).turned htr (fun k _ h1 h2 => by have h2' : k = w.heap.size := h2; omega) |>.mono (fun k _ h => ⟨by omega, h.2⟩), by rw [HRM.out]; rfl, fun _ => rfl, fun t ht => by rw [HRM.out] at ht; cases ht⟩
    refine ⟨?_, zD (H4.out.2.2.1.trans ((H7.out.2.1.mono (T := (w.heap.size ≤ ·)) fun k _ h => by have h' : k = w2.heap.size := h; omega).below (by omega))) (Nat.le_refl _) _⟩;rw [if_pos trivial];exact ⟨_, _, q, false, .map none, AT, n4 - 1, c4 - 1, rfl, hf.mono (Nat.le_succ _) (by simp [World.setRow]; have := H7.out.2.2.2; omega)⟩
   ·have HRM := Lib.hid (HM.out.trans hrm);rw [hrm] at hra;clear hrm
    go_upto_region 8 with (go_at_call 53; refine hra.mono ?_; clear hra; rintro _ w5 ⟨⟨mb, rfl, hnm⟩, hb5⟩; have hrow5 := (hb5.block _ (zB H4.out.2.2.2.1)).trans H4.out.2.2.2.1; have H5 := sq3 hb5 hrow5 (hnm.mono (T := fun k => w4.heap.size ≤ k ∧ k < w5.heap.size) fun k hk h => ⟨h, hk⟩); have hc1 := zA hrow5 1; have hf1 := zC hrow5 1; have hc2 := zA hrow5 2; have hf2 := zC hrow5 2; clear hb5 hrow5)
    have hrow6 := zG (zG H5.out.2.1 2 (.map (some mb))) 1 (.bool true);have ht6 : Turned (fun k => k = w2.heap.size) w4 ((w5.setCell ⟨w2.heap.size, 2, none⟩ (.map (some mb))).setCell ⟨w2.heap.size, 1, none⟩ (.bool true)) := ((Turned.of_below (S := fun k => k = w2.heap.size) H5.out.1).set rfl 2 _).set rfl 1 _;have ht56 : Turned (fun k => k = w2.heap.size) w5 ((w5.setCell ⟨w2.heap.size, 2, none⟩ (.map (some mb))).setCell ⟨w2.heap.size, 1, none⟩ (.bool true)) := ((Turned.refl (fun k => k = w2.heap.size) w5).set rfl 2 _).set rfl 1 _;(have hs56 : ((w5.setCell ⟨w2.heap.size, 2, none⟩ (.map (some mb))).setCell ⟨w2.heap.size, 1, none⟩ (.bool true)).heap.size = w5.heap.size := by simp [World.setCell]);have H6 := sq4 hrow6 ht6 ht56 hs56;clear hc1 hf1 hc2 hf2 hrow6 ht6 ht56 hs56 hc0
    (generalize (w5.setCell ⟨w2.heap.size, 2, none⟩ (.map (some mb))).setCell ⟨w2.heap.size, 1, none⟩ (.bool true) = w6 at *);rw [← HA9.out];have hc3 := zA H6.out.1 3;have hf3 := zC H6.out.1 3
    go_upto_region 9 with fail
    have hrow7 := zG H6.out.1 3 (.slice AT (n4 - 1) (c4 - 1));have ht7 : Turned (fun k => k = w2.heap.size) w4 (w6.setCell ⟨w2.heap.size, 3, none⟩ (.slice AT (n4 - 1) (c4 - 1))) := H6.out.2.1.set rfl 3 _;have ht57 : Turned (fun k => k = w2.heap.size) w5 (w6.setCell ⟨w2.heap.size, 3, none⟩ (.slice AT (n4 - 1) (c4 - 1))) := H6.out.2.2.1.set rfl 3 _;(have hs57 : (w6.setCell ⟨w2.heap.size, 3, none⟩ (.slice AT (n4 - 1) (c4 - 1))).heap.size = w5.heap.size := by rw [← H6.out.2.2.2]; simp [World.setCell]);have H7 := sq4 (show (w6.setCell ⟨w2.heap.size, 3, none⟩ (.slice AT (n4 - 1) (c4 - 1))).heap[w2.heap.size]? = some (.cells #[.pointer (some ⟨q, 0, none⟩), .bool true, .map (some mb), .slice AT (n4 - 1) (c4 - 1)] 76 (0, 0)) from hrow7) ht7 ht57 hs57;clear hc3 hf3 hrow7 ht7 ht57 hs57 hsl
    (generalize w6.setCell ⟨w2.heap.size, 3, none⟩ (.slice AT (n4 - 1) (c4 - 1)) = w7 at *);have hres7 := (H7.out.2.1.block _ (zB H4.out.2.2.2.2.1) (by have := HLE.out; omega)).trans H4.out.2.2.2.2.1;have HRES := Lib.hid hres7;clear hres7
    go_wp2_with (first
     | (refine yA 8 H7.out.1 Tryz.underlying76 xI ?_)
     | (refine zl 4 44 #[.pointer (some ⟨q, 0, none⟩), .bool true, .map (some mb), .slice AT (n4 - 1) (c4 - 1)] HRES.out xI (by rfl) (half_one _ _ _ _ _ _) ?_))
    (try simp only [Exit.inBlock, Exit.then])
    refine bodyPost_ret (hf_result (p := 4) (u := 5) rfl _ _ w.heap.size #[.pointer (some ⟨q, 0, none⟩), .bool true, .map (some mb), .slice AT (n4 - 1) (c4 - 1)] (by rfl) rfl (zF HRES.out)) rfl ?_;rw [HP.out];have h45 := H5.out.1.size;have h4e := H4.out.2.2.2.2.2;have hle := HLE.out
    have hf : Hf (w7.setRow w.heap.size #[.pointer (some ⟨q, 0, none⟩), .bool true, .map (some mb), .slice AT (n4 - 1) (c4 - 1)]) g m (w.heap.size + 1) w2.heap.size w4.heap.size w5.heap.size q true (.map (some mb)) AT (n4 - 1) (c4 - 1) := by
     have htr := zO (w := w7) (g := w.heap.size) #[.pointer (some ⟨q, 0, none⟩), .bool true, .map (some mb), .slice AT (n4 - 1) (c4 - 1)]
     refine ⟨⟨hle, by omega, h45⟩, (H4.out.1.turned H7.out.2.1 fun k _ h1 h2 => by omega).turned htr fun k _ h1 h2 => by have h2' : k = w.heap.size := h2; omega, ((HRT.out.mono (T := fun k => w2.heap.size + 1 ≤ k ∧ k < w4.heap.size) fun _ _ h => h).turned H7.out.2.1 (fun k _ h1 h2 => by omega)).turned htr (fun k _ h1 h2 => by have h2' : k = w.heap.size := h2; omega) |>.mono (fun k _ h => ⟨by omega, h.2⟩), by rw [HRM.out]; rfl, (fun h => by rw [HRM.out] at h; cases h), (fun t ht => by
      rw [HRM.out] at ht;(injection ht with ht);subst ht;exact ⟨mb, rfl, (H5.out.2.2.turned H7.out.2.2.1 fun k _ h1 h2 => by omega).turned htr fun k _ h1 h2 => by have h2' : k = w.heap.size := h2; omega⟩)⟩
    refine ⟨?_, zD (H4.out.2.2.1.trans ((H7.out.2.1.mono (T := (w.heap.size ≤ ·)) fun k _ h => by have h' : k = w2.heap.size := h; omega).below (by omega))) (Nat.le_refl _) _⟩;rw [if_pos trivial];exact ⟨_, _, q, true, .map (some mb), AT, n4 - 1, c4 - 1, rfl, hf.mono (Nat.le_succ _) (by simp [World.setRow]; have := H7.out.2.2.2; omega)⟩
 ·have h2 := H2.out.1;rw [if_neg hE0] at h2
  obtain rfl : po = none := by
   cases po with
   | none => rfl
   | some q => simp [lgV] at h2
  have hlg : lgV none = .pointer none := rfl;have hE' : (E != 0) = true := by simpa using hE0
  have HE := Lib.hid hE0;clear h2 hE0 hsz
  go_wp2_with (first
   | (refine wpList_built (by rfl) 76 _ (by rfl) [] (by rfl) #[.pointer none, .bool false, .map none, .slice none 0 0] half_built0 ?_)
   | (refine zl 4 23 #[.pointer none, .bool false, .map none, .slice none 0 0] HR2.out xI (by rfl) (half_one _ _ _ _ _ _) ?_))
  (try simp only [Exit.inBlock, Exit.then])
  refine bodyPost_ret (hf_result (p := 4) (u := 5) rfl _ _ w.heap.size _ (by rfl) rfl (zF HR2.out)) rfl ?_;rw [HP.out];refine ⟨?_, zD HB2.out (Nat.le_refl _) _⟩;rw [if_neg HE.out];rfl
theorem doL_len (t : Tb) (h : Srt t) : ∀ l : List Ch, (doL t l).length ≤ t.length + l.length
 | [] => by simp [doL]
 | c :: l => by
   have h1 := doL_len (doC t c) (h.chg c) l;have h2 := doC_len h c;have e : doL t (c :: l) = doL (doC t c) l := rfl;rw [e, List.length_cons]
   split at h2 <;> split at h2 <;> omega
theorem mapTurned_turned {w w' : World} {b : Nat} (h : w.mapTurned w' b) : Turned (fun q => q = b) w w' := Turned.of_gr h.grown fun _ e => (Option.some.inj e).symm
def DoR (w : World) (S : Nat → Prop) (b : Nat) (t : Tb) (l : List Ch) (i : Value) (wr : World) : Prop :=
 ∃ j : Nat, j ≤ l.length ∧ i = .int .i64 (j : Int) ∧ Nms wr (fun k => S k ∨ (w.heap.size ≤ k ∧ k < wr.heap.size)) b (doL t (l.take j)) ∧ Turned (fun k => k = b) w wr
theorem do_any {w : World} {S T : Nat → Prop} {b : Nat} {t : Tb} {l : List Ch} {A : Option Addr} {n c : Nat} (hm : Nms w S b t) (hl : Chs w T A n c l) (hd : ∀ k, k < w.heap.size → T k → k ≠ b) (hf : t.length + l.length ≤ 10000000000000 ∧ l.length ≤ 100000000) (hs : ∀ x ∈ l, x.k.length ≤ 1000000 ∧ x.v.length ≤ 1000000) :
    Calls Tryz.prog 37 #[.map (some b), .slice A n c] w fun e w' => e = .returned (.tuple #[]) ∧ Nms w' (fun k => S k ∨ (w.heap.size ≤ k ∧ k < w'.heap.size)) b (doL t l) ∧ Turned (fun k => k = b) w w' := by
 have H0 : Hid (DoR w S b t l (.int .i64 0) w) := Lib.hid ⟨0, Nat.zero_le _, rfl, by simpa [doL] using hm.mono (T := fun k => S k ∨ (w.heap.size ≤ k ∧ k < w.heap.size)) fun k _ h => .inl h, Turned.refl _ _⟩;have HL := sq6 hl hd hf hs hm.srt hm.lt;have HN := Lib.hid hl.len;have hzc := zero_chg;have hbig : n ≤ 100000000 := by have := hl.len; omega
 clear hm hl hd hf hs
 go_enter Tryz.func37, Tryz.ntmps37
 go_wp2_with fail
 go_loopw [8] (fun i wr => DoR w S b t l i wr) (fun i _ => n - (intOf i).toNat)
 case atStart => exact H0.out
 case round =>
  obtain ⟨j, hj, rfl, hnm, htn⟩ := hrel;clear H0;have HK := sq2 hnm htn;clear hnm htn
  by_cases hlt : j < n
  ·(have hlt' : (j : Int) < (n : Int) := by omega);obtain ⟨q, off, x, Ai, ni, ci, rfl, hTq, hqlt, hx, hcs, hy⟩ := HL.out.1.at_ hlt;have hqb := HL.out.2.1 q hqlt hTq;have hxl := HL.out.2.2.2.1 x (List.mem_of_getElem? hx);obtain ⟨CV, hCV⟩ := sqz (chV Ai ni ci x);rw [← hCV] at hcs
   have hcw : ∀ (i : Nat) (v : Value), CV[i]? = some v → wr.cell? ((⟨q, off + j * 3, none⟩ : Addr).add i) = some v := fun i v hv => by
    have h1 := hcs i v hv;rw [zK] at h1 ⊢;exact (xS HK.out.2 hqlt hqb _).trans h1
   have hyr := hy.turned HK.out.2 (fun k hk h e => HL.out.2.1 k hk h e);have hadd := IntWalk.i64_in ((j : Int) + 1) (by omega);have HCV := sq3 hCV hcw hyr;have HX := sq5 hx hxl hTq hqlt hqb;clear hCV hcw hyr hcs hy hx hxl hTq hqlt hqb
   go_upto_region 3 with (first
    | (refine sqwa 10 HCV.out.2.1 Tryz.underlying64 (by rw [HCV.out.1]; exact ys) ?_)
    | (refine zl 5 11 CV (heap_alloc_new wr _) (by rw [HCV.out.1]; exact ys) (by rw [HCV.out.1]; rfl) (by rw [HCV.out.1]; exact chV_one _ _ _ _) ?_))
   have hal : Below wr.heap.size wr ((wr.alloc (.cells #[.string ⟨#[]⟩, .slice none 0 0, .bool false] 64)).setRow wr.heap.size CV) := zD ((Below.refl _ _).alloc (Nat.le_refl _) _) (Nat.le_refl _) _;have hpa : ((wr.alloc (.cells #[.string ⟨#[]⟩, .slice none 0 0, .bool false] 64)).setRow wr.heap.size CV).heap[wr.heap.size]? = some (.cells CV 64 (0, 0)) := zF (heap_alloc_new wr _);(have hs5 : ((wr.alloc (.cells #[.string ⟨#[]⟩, .slice none 0 0, .bool false] 64)).setRow wr.heap.size CV).heap.size = wr.heap.size + 1 := by simp [World.setRow]);have H5 := sq3 hal hpa hs5;clear hal hpa hs5 hzc
   (generalize (wr.alloc (.cells #[.string ⟨#[]⟩, .slice none 0 0, .bool false] 64)).setRow wr.heap.size CV = w5 at *);(have hc0 : w5.cell? ⟨wr.heap.size, 0, none⟩ = some (.string (st x.k)) := by rw [zA H5.out.2.1, HCV.out.1]; rfl);(have hc1 : w5.cell? ⟨wr.heap.size, 1, none⟩ = some (.slice Ai ni ci) := by rw [zA H5.out.2.1, HCV.out.1]; rfl);(have hc2 : w5.cell? ⟨wr.heap.size, 2, none⟩ = some (.bool x.g) := by rw [zA H5.out.2.1, HCV.out.1]; rfl);have hnm5 := HK.out.1.below H5.out.1
   have HF : Hid (l.take (j + 1) = l.take j ++ [x] ∧ (doL t (l.take j)).length ≤ 10000000000000) := Lib.hid (by
    obtain ⟨hjl, hxe⟩ := List.getElem?_eq_some_iff.1 HX.out.1;refine ⟨by rw [List.take_succ_eq_append_getElem hjl, hxe], ?_⟩;have h1 := doL_len t HL.out.2.2.2.2.1 (l.take j);have h2 := HL.out.2.2.1;rw [List.length_take] at h1;omega)
   have HT5 : Hid (Turned (fun k => k = b) w w5) := Lib.hid (HK.out.2.trans (Turned.of_below (S := fun k => k = b) H5.out.1) fun _ _ h => h);have HS5 := Lib.hid (show wr.heap.size < w5.heap.size by have := H5.out.2.2; omega);obtain ⟨xk, hxk⟩ := sqz (st x.k);have HNM := Lib.hid hnm5;clear hnm5
   cases hg : x.g
   ·rw [hg] at hc2
    go_upto_region 5 with fail
    have HC : Hid (wr.heap.size < w5.drew.heap.size ∧ w5.drew.cell? ⟨wr.heap.size, 0, none⟩ = some (.string (st x.k)) ∧ w5.drew.cell? ⟨wr.heap.size, 1, none⟩ = some (.slice Ai ni ci) ∧ True ∧ (st x.k).size ≤ 1000000 ∧ ni ≤ 140737488355328 ∧ Byt w5.drew T Ai ni ci x.v) :=
     Lib.hid ⟨HS5.out, hc0, hc1, trivial, by rw [zN]; exact HX.out.2.1.1, by have := HCV.out.2.2.len; have := HX.out.2.1.2; omega, (HCV.out.2.2.below H5.out.1).drew⟩
    have HG := Lib.hid hg;clear hc0 hc1 hc2 hg;refine (wpIn_wide (n := 3)).1 ?_;refine wpIn_region_growL (Grow.open_wide _ _) (fun W W' => Below W.heap.size W W') (Grow.nth [sqv (.map (some b)), sqv (.pointer (some ⟨wr.heap.size, 0, none⟩)), sqv (.string (st x.k)), sqv (.string (st x.k)), sqv (.pointer (some ⟨wr.heap.size, 1, none⟩)), sqv (.slice Ai ni ci), fun v W => ∃ A' c', v = .slice A' ni c' ∧ Byt W (w5.heap.size ≤ ·) A' ni c' x.v]) 25 (by kernel_rfl) (by kernel_rfl) (by kernel_rfl) (by kernel_rfl) (by rfl) (fun W => Below.refl _ W) (fun _ _ _ h1 h2 => h1.trans (h2.mono h1.size)) (Grow.mono_nth ?gmono) 7 (by rfl) (by rfl) (by rfl) ?gsteps ?gfin
    case gmono => exact ⟨sqm, sqm, sqm, sqm, sqm, sqm, fun _ _ _ ⟨A, c, h1, h2⟩ hg => ⟨A, c, h1, h2.below hg⟩, trivial⟩
    case gsteps =>
     show Grow.allBelow _ 7
     iterate 7 refine And.intro ?_ ?_
     exact trivial
     ·exact squ 0
     ·refine sqi ?_;intro E W ec eg ef hG hd hu R HR;have e5 : E (.tmp 5) = .pointer (some ⟨wr.heap.size, 0, none⟩) := hu 5;clear hd hu;go_simp;exact sqh HR
     ·refine sqi ?_;intro E W ec eg ef hG hd hu R HR;have e18 := sqe (hd 1 18);clear hd hu;have hcl := (hG.cell (p := ⟨wr.heap.size, 0, none⟩) HC.out.1).trans HC.out.2.1;go_simp;exact sqh HR
     ·refine sqi ?_;intro E W ec eg ef hG hd hu R HR;have e19 := sqe (hd 2 19);clear hd hu;go_simp;refine (sclone_any (st x.k) W HC.out.2.2.2.2.1).mono ?_;rintro _ w' ⟨rfl, hb⟩;exact ⟨_, rfl, HR.out _ _ hb rfl⟩
     ·refine sqi ?_;intro E W ec eg ef hG hd hu R HR;have e5 : E (.tmp 5) = .pointer (some ⟨wr.heap.size, 0, none⟩) := hu 5;clear hd hu;go_simp;exact sqh HR
     ·refine sqi ?_;intro E W ec eg ef hG hd hu R HR;have e21 := sqe (hd 4 21);clear hd hu;have hcl := (hG.cell (p := ⟨wr.heap.size, 1, none⟩) HC.out.1).trans HC.out.2.2.1;go_simp;exact sqh HR
     ·refine sqi ?_;intro E W ec eg ef hG hd hu R HR;have e22 := sqe (hd 5 22);clear hd hu;go_simp;refine (clone_byt (HC.out.2.2.2.2.2.2.below hG) HC.out.2.2.2.2.2.1).mono ?_;rintro _ w' ⟨A6, c6, rfl, hy6, hb6, _, _⟩;exact ⟨_, rfl, HR.out _ _ hb6 ⟨A6, c6, rfl, hy6.mono fun k _ hk => by have h1 := hG.size; have h2 : W.heap.size ≤ k := hk; show w5.heap.size ≤ k; simp at h1; omega⟩⟩
    case gfin =>
     intro W hG
     iterate 6 (refine Grow.fin_dst (by rfl) ?_; rintro _ rfl)
     refine Grow.fin_dst (by rfl) ?_;rintro _ ⟨A6, c6, rfl, hy6⟩;simp only [Act.put, sqp];refine Grow.fin_end ?_;have HFG := Lib.hid (show Below w5.heap.size w5 W from ⟨hG.os, hG.tape, hG.output, hG.size, hG.block⟩);obtain ⟨w7, hrun, hn7, hm7⟩ := (HNM.out.drew.below hG).put (k := x.k) (v := x.v) HX.out.2.1.1 HF.out.2 hy6 (fun q _ hq => by have := HL.out.2.2.2.2.2; have h2 := HT5.out.size; show q ≠ b; have hq' : w5.heap.size ≤ q := hq; omega);have HY := sq2 hn7 (mapTurned_turned hm7);clear hn7 hm7 hy6 hG
     gi_wp2_with fail
     go_wp2_with fail
     go_roundw
     case rel =>
      unfold DoR;have hsz := HY.out.2.size;have hsw := HFG.out.size;have h5s := H5.out.2.2;have h5t := HT5.out.size;refine ⟨j + 1, by have := HN.out; omega, by simp, ?_, (HT5.out.trans (Turned.of_below (S := fun k => k = b) HFG.out) fun _ _ h => h).trans HY.out.2 fun _ _ h => h⟩;rw [HF.out.1, doL_snoc, show x = ⟨x.k, x.v, false⟩ by rw [← HG.out]];refine HY.out.1.mono fun k hk h => ?_
      rcases h with (h | h) | h
      ·exact .inl h
      ·exact .inr ⟨h.1, hk⟩
      ·exact .inr ⟨by have h' : w5.heap.size ≤ k := h; omega, hk⟩
     case measure => simp only [intOf]; omega
   ·rw [hg] at hc2;obtain ⟨w7, hrun, hn7, hm7⟩ := HNM.out.del (k := x.k) (v := x.v) HX.out.2.1.1 0;have HY := sq2 hn7 (mapTurned_turned hm7);have HG := Lib.hid hg;clear hn7 hm7 hc1 hg
    go_wp2_with fail
    go_roundw
    case rel =>
     unfold DoR;have hsz := HY.out.2.size;have h5s := H5.out.2.2;have h5t := HT5.out.size;refine ⟨j + 1, by have := HN.out; omega, by simp, ?_, HT5.out.trans HY.out.2 fun _ _ h => h⟩;rw [HF.out.1, doL_snoc]
     have e : doC (doL t (l.take j)) x = doC (doL t (l.take j)) ⟨x.k, x.v, true⟩ := by
      unfold doC;simp [HG.out]
     rw [e];refine HY.out.1.mono fun k hk h => ?_
     rcases h with h | h
     ·exact .inl h
     ·exact .inr ⟨h.1, by omega⟩
    case measure => simp only [intOf]; omega
  ·(obtain rfl : j = n := by have := HN.out; omega);(have hnl : ¬ (j : Int) < (j : Int) := by omega);clear hlt
   go_wp2_with fail
   refine bodyPost_end (results_none rfl _ _ _) rfl ?_;have hfull : l.take j = l := List.take_of_length_le (by have := HN.out; omega);have h1 := HK.out.1;rw [hfull] at h1;exact ⟨rfl, h1, HK.out.2⟩
end Go.Proofs.YtmioifcbkhpdaaaGreat
