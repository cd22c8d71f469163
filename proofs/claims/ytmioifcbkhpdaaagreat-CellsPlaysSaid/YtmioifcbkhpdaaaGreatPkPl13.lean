/-
  The code's: Open and Begin.
  The code's Add: what it leaves, by values; where it refuses.
  The code's Add.
  The code's log, all of it: what Open, Begin, Add and the rest do (WalLg, WalKeep, WalWhole, WalOpen, WalAdd).
-/
import Derived.Test.YtmioifcbkhpdaaaGreatPkPl11
import Derived.Test.YtmioifcbkhpdaaaGreatPkPl12
import Derived.Test.YtmioifcbkhpdaaaGreatPkPl01
import Derived.Test.YtmioifcbkhpdaaaGreatPkPl02
set_option maxHeartbeats 16000000
set_option maxRecDepth 100000
/-! The code's: Open and Begin. -/
namespace Go.Proofs.YtmioifcbkhpdaaaGreat
open Go.RowKit
def MadeL (w : World) (g : Nat) (m : LM) (E : Int) (e : Ending) (w' : World) : Prop :=
 (if E = 0 then ∃ p, e = .returned (.tuple #[.pointer (some ⟨p, 0, none⟩), .int .i64 0]) ∧ Lg w' (w.heap.size ≤ ·) p g m else e = .returned (.tuple #[.pointer none, .int .i64 E])) ∧ Below w.heap.size w w'
theorem blocksOf_few {d : DM} (h : d.l.length ≤ 65536) (f n : Int) : (zW d.l f n).length ≤ 65536 := by
 unfold zW;rw [List.length_take, List.length_drop];omega
theorem Lg.new (w : World) (f n : Int) (g next : Nat) : Lg (w.alloc (.cells #[.pointer (some ⟨g, 0, none⟩), .int .i64 f, .int .i64 n, .slice none 0 0, .int .i64 0, .int .u64 0, .int .u64 (next : Int), .int .i64 0] 118)) (fun k => k = w.heap.size) w.heap.size g ⟨f, n, 0, next, 0, [], 0⟩ :=
 ⟨.slice none 0 0, rfl, heap_alloc_new w _, Recs.nil _ _ _, fun _ => rfl, fun x hx => absurd hx (by simp)⟩
theorem wopen_all {w : World} {S : Nat → Prop} {g : Nat} {d : DM} (hd : Dk w S g d) (from_ n : Int) (hf : -9223372036854775808 ≤ from_ ∧ from_ ≤ 9223372036854775807) :
    Calls Tryz.prog 51 #[.pointer (some ⟨g, 0, none⟩), .int .i64 from_, .int .i64 n] w fun e w' => MadeL w g (yd (zW d.l from_ n) from_ n) (zo d.l.length d.down from_ n) e w' := by
 have hrd := wread_any hd from_ n hf;have hfew := blocksOf_few hd.few from_ n;obtain ⟨bs, hbs⟩ := sqz (zW d.l from_ n);obtain ⟨E, hE⟩ := sqz (zo d.l.length d.down from_ n);rw [← hbs] at hrd hfew ⊢;rw [← hE] at hrd ⊢;clear hd hbs hE;have HF := Lib.hid hfew;clear hfew hf
 by_cases h0 : E = 0
 ·subst h0
  have hrd : Calls Tryz.prog 76 #[.pointer (some ⟨g, 0, none⟩), .int .i64 from_, .int .i64 n] w fun e w' => ∃ q, w.heap.size ≤ q ∧ e = .returned (.tuple #[.slice (some ⟨q, 0, none⟩) bs.length bs.length, .int .i64 0]) ∧ Bks w' q bs ∧ Below w.heap.size w w' := by
   refine hrd.mono ?_;rintro _ w' ⟨h1, h2⟩;rw [if_pos rfl] at h1;obtain ⟨q, h3, h4, h5⟩ := h1;exact ⟨q, h3, h4, h5, h2⟩
  obtain ⟨NX, hNX⟩ := sqz ((xQ bs + 1) % 18446744073709551616);have HNX := Lib.hid hNX;clear hNX
  go_enter Tryz.func51, Tryz.ntmps51
  go_upto_region 4 with (go_at_call 76; refine hrd.mono ?_; clear hrd; rintro _ w1 ⟨q, hq, rfl, hbk, hb1⟩)
  have hab := wabove_any hbk HF.out;rw [← HNX.out] at hab;have H1 := sq3 hq hbk hb1;clear hq hbk hb1
  go_wp2_with (first
   | (go_at_call 77; refine hab.mono ?_; clear hab; rintro _ w2 ⟨rfl, hb2⟩; have H2 := sq3 (H1.out.2.1.below hb2) (H1.out.2.2.trans (hb2.mono H1.out.2.2.size)) (show q < w2.heap.size from Nat.lt_of_lt_of_le (zB H1.out.2.1.1) hb2.size); clear hb2)
   | fail)
  have htk := wtake_any (S := fun k => k = w2.heap.size) (Lg.new w2 from_ n g NX) ⟨rfl, rfl, rfl⟩ (H2.out.1.below ((Below.refl _ w2).alloc (Nat.le_refl _) _)) (show ¬ q = w2.heap.size by have := H2.out.2.2; omega) HF.out;refine htk.mono ?_;rintro _ w3 ⟨rfl, hL3, hT3⟩;have H3 := sq2 hL3 hT3;clear hL3 hT3 htk
  go_wp2_with fail
  go_ret2
  have hle := H2.out.2.1.size;have hb3 := (H2.out.2.1.alloc hle (.cells #[.pointer (some ⟨g, 0, none⟩), .int .i64 from_, .int .i64 n, .slice none 0 0, .int .i64 0, .int .u64 0, .int .u64 (NX : Int), .int .i64 0] 118));refine ⟨?_, hb3.trans ((H3.out.2.mono (T := (w.heap.size ≤ ·)) fun k _ h => by omega).below hb3.size)⟩;rw [if_pos rfl];refine ⟨_, rfl, ?_⟩
  have hm : yd bs from_ n = tkM ⟨from_, n, 0, NX, 0, [], 0⟩ (zk bs 0 ws0) := by
   rw [HNX.out];rfl
  rw [hm]
  exact H3.out.1.mono fun k _ h => by
   rcases h with h | h
   ·omega
   ·have := hb3.size;omega
 ·have hrd : Calls Tryz.prog 76 #[.pointer (some ⟨g, 0, none⟩), .int .i64 from_, .int .i64 n] w fun e w' => e = .returned (.tuple #[.slice none 0 0, .int .i64 E]) ∧ Below w.heap.size w w' := by
    refine hrd.mono ?_;rintro _ w' ⟨h1, h2⟩;rw [if_neg h0] at h1;exact ⟨h1, h2⟩
  have h0' : (E != 0) = true := by simpa using h0
  have H0 := Lib.hid h0;clear h0
  go_enter Tryz.func51, Tryz.ntmps51
  go_wp2_with (go_at_call 76; refine hrd.mono ?_; clear hrd; rintro _ w1 ⟨rfl, hb1⟩)
  go_ret2
  exact ⟨by rw [if_neg H0.out]; rfl, hb1⟩
theorem wbegin_all {w : World} {S : Nat → Prop} {g : Nat} {d : DM} (hd : Dk w S g d) (from_ n : Int) (hf : -9223372036854775808 ≤ from_ ∧ from_ ≤ 9223372036854775807) (least : Nat) :
    Calls Tryz.prog 55 #[.pointer (some ⟨g, 0, none⟩), .int .i64 from_, .int .i64 n, .int .u64 (least : Int)] w fun e w' => MadeL w g (zj (yd (zW d.l from_ n) from_ n) from_ n least) (zo d.l.length d.down from_ n) e w' := by
 have hrd := wread_any hd from_ n hf;have hfew := blocksOf_few hd.few from_ n;obtain ⟨bs, hbs⟩ := sqz (zW d.l from_ n);obtain ⟨E, hE⟩ := sqz (zo d.l.length d.down from_ n);rw [← hbs] at hrd hfew ⊢;rw [← hE] at hrd ⊢;clear hd hbs hE;have HF := Lib.hid hfew;clear hfew hf
 by_cases h0 : E = 0
 ·subst h0
  have hrd : Calls Tryz.prog 76 #[.pointer (some ⟨g, 0, none⟩), .int .i64 from_, .int .i64 n] w fun e w' => ∃ q, w.heap.size ≤ q ∧ e = .returned (.tuple #[.slice (some ⟨q, 0, none⟩) bs.length bs.length, .int .i64 0]) ∧ Bks w' q bs ∧ Below w.heap.size w w' := by
   refine hrd.mono ?_;rintro _ w' ⟨h1, h2⟩;rw [if_pos rfl] at h1;obtain ⟨q, h3, h4, h5⟩ := h1;exact ⟨q, h3, h4, h5, h2⟩
  obtain ⟨NX, hNX⟩ := sqz ((xQ bs + 1) % 18446744073709551616);have hab := fun (w1 : World) (q : Nat) (hbk : Bks w1 q bs) => wabove_any hbk HF.out
  rw [← hNX] at hab;have HAB := Lib.hid hab
  have hbm : zj (yd bs from_ n) from_ n least = ⟨from_, n, 0, if 0 < NX ∧ NX < least then least else NX, 0, [], 0⟩ := by
   rw [hNX];rfl
  rw [hbm];clear hNX hab hbm
  by_cases hz : NX = 0
  ·(have hz' : ((NX : Int) != 0) = false := by simpa using hz);rw [if_neg (by omega)];clear hz
   go_enter Tryz.func55, Tryz.ntmps55
   go_wp2_with (first
    | (go_at_call 76; refine hrd.mono ?_; clear hrd; rintro _ w1 ⟨q, hq, rfl, hbk, hb1⟩; have H1 := sq2 hbk hb1; clear hbk hb1 hq)
    | (go_at_call 77; refine (HAB.out _ _ H1.out.1).mono ?_; rintro _ w2 ⟨rfl, hb2⟩; have H2 := Lib.hid (H1.out.2.trans (hb2.mono H1.out.2.size)); clear hb2))
   go_ret2
   refine ⟨?_, H2.out.alloc H2.out.size _⟩;rw [if_pos rfl];exact ⟨_, rfl, (Lg.new w2 from_ n g NX).mono fun k _ h => by have := H2.out.size; omega⟩
  ·have hz' : ((NX : Int) != 0) = true := by simpa using hz
   by_cases hl : NX < least
   ·rw [if_pos (by omega)];have HL : Hid (max (NX : Int) (least : Int) = (least : Int)) := Lib.hid (by omega);clear hz hl
    go_enter Tryz.func55, Tryz.ntmps55
    go_wp2_with (first
     | (go_at_call 76; refine hrd.mono ?_; clear hrd; rintro _ w1 ⟨q, hq, rfl, hbk, hb1⟩; have H1 := sq2 hbk hb1; clear hbk hb1 hq)
     | (go_at_call 77; refine (HAB.out _ _ H1.out.1).mono ?_; rintro _ w2 ⟨rfl, hb2⟩; have H2 := Lib.hid (H1.out.2.trans (hb2.mono H1.out.2.size)); clear hb2))
    go_ret2
    rw [HL.out];refine ⟨?_, H2.out.alloc H2.out.size _⟩;rw [if_pos rfl];exact ⟨_, rfl, (Lg.new w2 from_ n g least).mono fun k _ h => by have := H2.out.size; omega⟩
   ·rw [if_neg (by omega)];have HL : Hid (max (NX : Int) (least : Int) = (NX : Int)) := Lib.hid (by omega);clear hz hl
    go_enter Tryz.func55, Tryz.ntmps55
    go_wp2_with (first
     | (go_at_call 76; refine hrd.mono ?_; clear hrd; rintro _ w1 ⟨q, hq, rfl, hbk, hb1⟩; have H1 := sq2 hbk hb1; clear hbk hb1 hq)
     | (go_at_call 77; refine (HAB.out _ _ H1.out.1).mono ?_; rintro _ w2 ⟨rfl, hb2⟩; have H2 := Lib.hid (H1.out.2.trans (hb2.mono H1.out.2.size)); clear hb2))
    go_ret2
    rw [HL.out];refine ⟨?_, H2.out.alloc H2.out.size _⟩;rw [if_pos rfl];exact ⟨_, rfl, (Lg.new w2 from_ n g NX).mono fun k _ h => by have := H2.out.size; omega⟩
 ·have hrd : Calls Tryz.prog 76 #[.pointer (some ⟨g, 0, none⟩), .int .i64 from_, .int .i64 n] w fun e w' => e = .returned (.tuple #[.slice none 0 0, .int .i64 E]) ∧ Below w.heap.size w w' := by
    refine hrd.mono ?_;rintro _ w' ⟨h1, h2⟩;rw [if_neg h0] at h1;exact ⟨h1, h2⟩
  have h0' : (E != 0) = true := by simpa using h0
  have H0 := Lib.hid h0;clear h0
  go_enter Tryz.func55, Tryz.ntmps55
  go_wp2_with (go_at_call 76; refine hrd.mono ?_; clear hrd; rintro _ w1 ⟨rfl, hb1⟩)
  go_ret2
  exact ⟨by rw [if_neg H0.out]; rfl, hb1⟩
end Go.Proofs.YtmioifcbkhpdaaaGreat
/-! The code's Add: what it leaves, by values; where it refuses. -/
namespace Go.Proofs.YtmioifcbkhpdaaaGreat
open Go.RowKit
theorem addM_no {d : DM} {m : LM} {b : List UInt8} (h : refE m (zP b.length) ≠ 0) : yJ d m b = (d, m, refE m (zP b.length)) := by
 unfold refE at h ⊢;unfold yJ
 by_cases h1 : m.e ≠ 0
 ·rw [if_pos h1, if_pos h1]
 ·rw [if_neg h1, if_neg h1];rw [if_neg h1] at h
  by_cases h2 : m.n - (m.have_ : Int) < (zP b.length : Int)
  ·rw [if_pos h2, if_pos h2]
  ·rw [if_neg h2, if_neg h2];rw [if_neg h2] at h
   by_cases h3 : m.next = 0 ∨ 18446744073709551615 - m.next < zP b.length
   ·rw [if_pos h3, if_pos h3]
   ·rw [if_neg h3] at h;exact absurd rfl h
structure RefOk (m : LM) (k : Nat) : Prop where
 e : m.e = 0
 room : (k : Int) ≤ m.n - (m.have_ : Int)
 next : m.next ≠ 0
 worn : m.next + k ≤ 18446744073709551615
theorem refE_ok {m : LM} {k : Nat} (h : refE m k = 0) (hx : m.next < 18446744073709551616) : RefOk m k := by
 unfold refE at h
 by_cases h1 : m.e ≠ 0
 ·rw [if_pos h1] at h;exact absurd h h1
 ·rw [if_neg h1] at h
  by_cases h2 : m.n - (m.have_ : Int) < (k : Int)
  ·rw [if_pos h2] at h;exact absurd h (by decide)
  ·rw [if_neg h2] at h
   by_cases h3 : m.next = 0 ∨ 18446744073709551615 - m.next < k
   ·rw [if_pos h3] at h;exact absurd h (by decide)
   ·exact ⟨Classical.byContradiction h1, by omega, by omega, by omega⟩
theorem addM_run {d : DM} {m : LM} {b : List UInt8} {k : Nat} (hk : k = zP b.length) (h : RefOk m k) :
    yJ d m b = if (yF (m.from_ + (m.have_ : Int)) m.next b k k 0 d).2 = 0 then ((yF (m.from_ + (m.have_ : Int)) m.next b k k 0 d).1, addOk m b, 0) else ((yF (m.from_ + (m.have_ : Int)) m.next b k k 0 d).1, { m with e := (yF (m.from_ + (m.have_ : Int)) m.next b k k 0 d).2 }, (yF (m.from_ + (m.have_ : Int)) m.next b k k 0 d).2) := by
 have h2 := h.room;have h3 := h.next
 have h4 := h.worn;unfold yJ;rw [if_neg (by rw [h.e]; simp), ← hk, if_neg (by omega), if_neg (by omega)]
theorem addOk_keep {m : LM} {b : List UInt8} {k : Nat} (hk : k = zP b.length) (h : RefOk m k) (ok : m.Ok) (hz : m.l = [] → m.have_ = 0) (h1 : 1 ≤ k) : keepM { m with next := m.next + k } b (m.next + k - 1) (m.have_ + k) = addOk m b := by
 have hf := ok.few;have he := h.e;unfold keepM addOk;rw [← hk]
 by_cases hl : m.l = []
 ·rw [if_pos hl, if_pos (hz hl), hz hl]
  cases m
  simp only at he hl ⊢;subst he
  congr 1
  omega
 ·have : m.have_ ≠ 0 := fun h0 => hl (List.eq_nil_of_length_eq_zero (by omega))
  rw [if_neg hl, if_neg this]
  cases m
  simp only at he ⊢;subst he;rfl
def AddP (w : World) (S T : Nat → Prop) (p g : Nat) (d : DM) (m : LM) (b : List UInt8) (e : Ending) (w' : World) : Prop :=
 e = .returned (.int .i64 (yJ d m b).2.2) ∧ Dk w' S g (yJ d m b).1 ∧ Lg w' (fun k => T k ∨ w.heap.size ≤ k) p g (yJ d m b).2.1 ∧ Turned (fun k => S k ∨ T k) w w'
/-! The parts of a record. -/
theorem chunkN_pos {n : Nat} (h : 0 < n) : 1 ≤ yP n ∧ yP n = zP n := by
 unfold yP zP;rw [if_neg (by omega)];omega
theorem part_byt {w : World} {U : Nat → Prop} {bb off n c i : Nat} {b : List UInt8} (h : Byt w U (some ⟨bb, off, none⟩) n c b) (hi : 110 * i < n) : Byt w U (some ⟨bb, off + 110 * i, none⟩) (min 110 (n - 110 * i)) (min 110 (n - 110 * i)) (partL b i) :=
 ⟨by unfold partL; rw [List.length_take, List.length_drop, h.len], Nat.le_refl _, by unfold maxLen; omega, fun _ => by
   obtain ⟨x, o, e, hU, hlt, hc⟩ := h.row (by omega);(injection e with e);(injection e with e1 e2);subst e1 e2;refine ⟨bb, off + 110 * i, rfl, hU, hlt, fun j hj => ?_⟩;rw [Nat.add_assoc, hc (110 * i + j) (by omega)];unfold partL;rw [List.getElem?_take_of_lt (by omega), List.getElem?_drop]⟩
structure PartsAt (w W : World) (V U : Nat → Prop) (gq N : Nat) (b : List UInt8) : Prop where
 row : ∃ QS, W.heap[gq]? = some (.cells QS 54 (0, 0)) ∧ ∀ i, i < N → ∃ A m c, QS[i]? = some (.slice A m c) ∧ m ≤ 110 ∧ ∀ X, Turned V w X → Byt X U A m c (partL b i)
theorem PartsAt.cell {w W : World} {V U : Nat → Prop} {gq N : Nat} {b : List UInt8} (h : PartsAt w W V U gq N b) {W' : World} (hq : W'.heap[gq]? = W.heap[gq]?) (ht : Turned V w W') {i : Nat} (hi : i < N) :
    ∃ A m c, W'.cell? ⟨gq, i, none⟩ = some (.slice A m c) ∧ m ≤ 110 ∧ Byt W' U A m c (partL b i) := by
 obtain ⟨QS, h1, h2⟩ := h.row;obtain ⟨A, m, c, h3, h4, h5⟩ := h2 i hi;exact ⟨A, m, c, (zA (hq.trans h1) i).trans h3, h4, h5 W' ht⟩
theorem PartsAt.lt {w W : World} {V U : Nat → Prop} {gq N : Nat} {b : List UInt8} (h : PartsAt w W V U gq N b) : gq < W.heap.size := by
 obtain ⟨QS, h1, _⟩ := h.row;exact zB h1
theorem parts_full {w W : World} {V U : Nat → Prop} {bb off n c : Nat} {b : List UInt8} (h : Byt w U (some ⟨bb, off, none⟩) n c b) (hV : ∀ k, k < w.heap.size → U k → ¬ V k) {v : Value} {B : Nat} (hown : W.ownsRow B 54 1 v (yP n) ((List.range (yP n)).map (chunkS bb off n))) (h0 : 0 < n) :
    ∃ gq cq, v = .slice (some ⟨gq, 0, none⟩) (yP n) cq ∧ yP n ≤ cq ∧ cq ≤ maxLen ∧ B ≤ gq ∧ PartsAt w W V U gq (yP n) b := by
 have hpos := (chunkN_pos h0).1;rcases hown.2 with ⟨_, h2⟩ | ⟨g, cap, cur, rfl, hB, hg, hnc, hm, _, _⟩
 ·omega
 ·refine ⟨g, cap, rfl, hnc, hm, hB, ⟨cur, hg, fun i hi => ?_⟩⟩;have hc := hown.cells (g := g) rfl i (chunkS bb off n i) (by simp [hi]);rw [zK, Nat.zero_add, zA hg] at hc;exact ⟨_, _, _, hc, Nat.min_le_left _ _, fun X hX => (part_byt h (by unfold yP at hi; omega)).turned hX hV⟩
theorem parts_none {w W : World} {V U : Nat → Prop} {gq : Nat} (hg : W.heap[gq]? = some (.cells #[.slice none 0 0] 54 (0, 0))) : PartsAt w W V U gq 1 [] :=
 ⟨_, hg, fun i hi => by
   (obtain rfl : i = 0 := by omega);exact ⟨none, 0, 0, rfl, Nat.zero_le _, fun X _ => Byt.nil _ _ _ _ (Nat.zero_le _)⟩⟩
/-! Of one that is none, and where it refuses. -/
theorem wadd_no {w : World} {S T U : Nat → Prop} {p g : Nat} {m : LM} {d : DM} (h : Lg w T p g m) (hd : Dk w S g d) (ok : m.Ok) {A : Option Addr} {n c : Nat} {b : List UInt8} (hb : Byt w U A n c b) (hn : n ≤ 1000000) (hr : refE m (zP n) ≠ 0) :
    Calls Tryz.prog 67 #[.pointer (some ⟨p, 0, none⟩), .slice A n c] w fun e w' => AddP w S T p g d m b e w' := by
 have hbn : zP n ≤ 1000001 := Nat.le_trans (blocksN_le n) (by omega);have hbl := wblocks_any n hn w
 have hbn2 : zP n ≤ 1000000 := by
  unfold zP
  split <;> omega
 have hre := wrefuse_any h ok (zP n) hbn2;have hr' : (refE m (zP n) != 0) = true := by simpa using hr
 have hA : yJ d m b = (d, m, refE m (zP n)) := by
  have := addM_no (d := d) (m := m) (b := b) (by rw [hb.len]; exact hr);rw [hb.len] at this;exact this
 have HH := sq3 h hd hA;clear h hd ok hb hn hbn hbn2 hr hA
 generalize refE m (zP n) = E at *
 go_enter Tryz.func67, Tryz.ntmps67
 go_wp2_with (first
  | (go_at_call 65; refine hbl.mono ?_; clear hbl; rintro _ _ ⟨rfl, rfl⟩)
  | (go_at_call 90; refine hre.mono ?_; clear hre; rintro _ w1 ⟨rfl, hb1⟩))
 go_ret
 unfold AddP;rw [HH.out.2.2];exact ⟨rfl, HH.out.2.1.below hb1, (HH.out.1.below hb1).mono fun _ _ h => .inl h, Turned.of_below hb1⟩
end Go.Proofs.YtmioifcbkhpdaaaGreat
/-! The code's Add. -/
namespace Go.Proofs.YtmioifcbkhpdaaaGreat
open Go.RowKit
def WAd (w4 : World) (V : Nat → Prop) (g : Nat) (at_ : Int) (x : Nat) (b : List UInt8) (N : Nat) (d : DM) (i : Value) (wr : World) : Prop :=
 ∃ (j : Nat) (d' : DM), j ≤ N ∧ i = .int .i64 (j : Int) ∧ Dk wr V g d' ∧ yF at_ x b N N 0 d = yF at_ x b N (N - j) j d' ∧ Turned V w4 wr
theorem addGo_more {at_ : Int} {x : Nat} {b : List UInt8} {N j : Nat} (hj : j < N) (d : DM) : yF at_ x b N (N - j) j d = if (zm d (at_ + (j : Int)) (recB x b N j)).2 = 0 then yF at_ x b N (N - (j + 1)) (j + 1) (zm d (at_ + (j : Int)) (recB x b N j)).1 else zm d (at_ + (j : Int)) (recB x b N j) := by
 rw [show N - j = (N - (j + 1)) + 1 by omega, yF]
structure AdB (w w4 : World) (S T U : Nat → Prop) (p g gq N : Nat) (m : LM) (v : Value) (d : DM) (b : List UInt8) : Prop where
 tp : T p
 cel : w4.heap[p]? = some (.cells (lcV m g v) 118 (0, 0))
 rec_ : Recs w4 T p v m.l
 zer : m.l = [] → m.have_ = 0
 each : ∀ x ∈ m.l, x.length ≤ 10000000
 pts : PartsAt w w4 S U gq N b
 new : w.heap.size ≤ gq
 bel : Below w.heap.size w w4
 dis : ∀ k, S k → ¬ T k
 sm : ∀ k, S k → k < w.heap.size
 tm : ∀ k, T k → k < w.heap.size
 ok : m.Ok
 run : RefOk m N
 num : N = zP b.length
 one : 1 ≤ N
 big : N ≤ 1000000
 blen : b.length ≤ 1000000
section
variable {w w4 wr : World} {S T U : Nat → Prop} {p g gq N : Nat} {m : LM} {v : Value} {d : DM} {b : List UInt8}
theorem AdB.cell (h : AdB w w4 S T U p g gq N m v d b) (ht : Turned S w4 wr) : wr.heap[p]? = some (.cells (lcV m g v) 118 (0, 0)) := (ht.block p (zB h.cel) (fun hs => h.dis p hs h.tp)).trans h.cel
theorem AdB.turn (h : AdB w w4 S T U p g gq N m v d b) (ht : Turned S w4 wr) : Turned S w wr := (Turned.of_below (S := S) h.bel).trans ht fun _ _ h => h
theorem AdB.part (h : AdB w w4 S T U p g gq N m v d b) (ht : Turned S w4 wr) {i : Nat} (hi : i < N) : ∃ A m c, wr.cell? ⟨gq, i, none⟩ = some (.slice A m c) ∧ m ≤ 110 ∧ Byt wr U A m c (partL b i) :=
 h.pts.cell (ht.block gq h.pts.lt (fun hs => by have := h.sm gq hs; have := h.new; omega)) (h.turn ht) hi
theorem AdB.fail (h : AdB w w4 S T U p g gq N m v d b) (ht : Turned S w4 wr) {d' : DM} (hd : Dk wr S g d') {E : Int} (hr : yF (m.from_ + (m.have_ : Int)) m.next b N N 0 d = (d', E)) (hE : E ≠ 0) :
    AddP w S T p g d m b (.returned (.int .i64 E)) (wr.setCell ⟨p, 7, none⟩ (.int .i64 E)) := by
 unfold AddP;rw [addM_run h.num h.run, hr, if_neg hE];have hset : Turned (fun k => k = p) wr (wr.setCell ⟨p, 7, none⟩ (.int .i64 E)) := (Turned.refl (fun k => k = p) wr).set rfl 7 _;refine ⟨rfl, hd.turned hset (fun k _ hs e => h.dis k hs (by rw [e]; exact h.tp)), ?_, (((h.turn ht).mono (T := fun k => S k ∨ T k) fun _ _ h => .inl h).set (.inr h.tp) 7 _)⟩;refine ⟨v, .inl h.tp, zG (h.cell ht) 7 _, ?_, h.zer, h.each⟩;exact ((h.rec_.turned ht fun k _ hk _ hs => h.dis k hs hk).turned hset fun k _ _ hne e => hne e).mono fun k _ hk => .inl hk
end
theorem rec_len (x : Nat) (b : List UInt8) (N i : Nat) : (recB x b N i).length = 128 := yv _ _ (partL_length b i)
theorem u64_sub1 (x : Nat) (h : 1 ≤ x) (h2 : x < 18446744073709551616) : IntKind.u64.wrap ((x : Int) - 1) = ((x - 1 : Nat) : Int) := by rw [IntWalk.u64_in _ (by omega)]; omega
theorem wadd_full {w : World} {S T U : Nat → Prop} {p g : Nat} {m : LM} {d : DM} (h : Lg w T p g m) (hd : Dk w S g d) (hS : ∀ k, S k → k < w.heap.size) (hT : ∀ k, T k → k < w.heap.size) (hST : ∀ k, S k → ¬ T k) (ok : m.Ok) {A : Option Addr} {n c : Nat} {b : List UInt8} (hb : Byt w U A n c b) (hU : ∀ k, k < w.heap.size → U k → ¬ S k ∧ ¬ T k) (hn : n ≤ 1000000) (hr : refE m (zP n) = 0) (h0 : 0 < n) :
    Calls Tryz.prog 67 #[.pointer (some ⟨p, 0, none⟩), .slice A n c] w fun e w' => AddP w S T p g d m b e w' := by
 have hbl := wblocks_any n hn w;have hlen := hb.len;obtain ⟨N, hNN⟩ := sqz (zP n);have hN1 : 1 ≤ N := by rw [hNN]; exact blocksN_one n
 have hN2 : N ≤ 1000000 := by rw [hNN]; unfold zP; split <;> omega
 rw [← hNN] at hbl hr;have hre := wrefuse_any h ok N hN2;rw [hr] at hre;have hrun := refE_ok hr ok.next
 obtain ⟨v, hTp, hce, hrc, hzr, heach⟩ := h;have HT := sq5 hTp hce hrc hzr heach;have HO := sq6 ok hrun (show N = zP b.length by rw [hlen]; exact hNN) hN1 hN2 (show b.length ≤ 1000000 by rw [hlen]; exact hn);have HM := sq4 hS hT hST hd;have HBY := Lib.hid hb;have HU : Hid (∀ k, k < w.heap.size → U k → ¬ (S k ∨ T k)) := Lib.hid fun k hk hu hh => hh.elim (hU k hk hu).1 (hU k hk hu).2
 have HN := Lib.hid hn;obtain ⟨bb, off, rfl, _, _, _⟩ := hb.row h0;have hcN : yP n = N := by rw [hNN]; exact (chunkN_pos h0).2
 have hcol := fun (w2 : World) (q : Nat) (h1 : w2.heap[q]? = some (.cells #[.slice (some ⟨bb, off, none⟩) n c] 54 (0, 0))) (h2 : w2.heap[q + 1]? = some (.cells #[.int .i64 110] 3 (0, 0))) => collect_any q bb off n c (some ⟨bb, off, none⟩) (fun _ => rfl) hb.cap hb.max hn w2 h1 h2
 have HCOL := Lib.hid hcol;have HCN := sq2 hcN h0;have hN0 : ((N : Int) == 0) = false := by simp; omega
 clear hb hn hlen hN1 hN2 hr ok hrun hTp hce hrc hzr heach hS hT hST hd hU hcol hcN h0 hNN
 go_enter Tryz.func67, Tryz.ntmps67
 go_upto_region 4 with (first
  | (go_at_call 65; refine hbl.mono ?_; clear hbl; rintro _ _ ⟨rfl, rfl⟩)
  | (go_at_call 90; refine hre.mono ?_; clear hre; rintro _ w1 ⟨rfl, hb1⟩))
 have hca := chunk_any (some ⟨bb, off, none⟩) n c w1;have h1 := heap_alloc_new w1 (.cells #[.slice (some ⟨bb, off, none⟩) n c] 54);have h2 := heap_alloc_new (w1.alloc (.cells #[.slice (some ⟨bb, off, none⟩) n c] 54)) (.cells #[.int .i64 110] 3);rw [World.size_alloc] at h2;have h1 := (Below.heap_alloc (w1.alloc (.cells #[.slice (some ⟨bb, off, none⟩) n c] 54)) (.cells #[.int .i64 110] 3) w1.heap.size (by simp)).trans h1;have hco := HCOL.out _ _ h1 h2;have hb2 : Below w.heap.size w ((w1.alloc (.cells #[.slice (some ⟨bb, off, none⟩) n c] 54)).alloc (.cells #[.int .i64 110] 3)) := (hb1.alloc hb1.size _).alloc (by have := hb1.size; simp; omega) _;have HB2 := Lib.hid hb2;clear h1 h2 hb1 hb2
 generalize ((w1.alloc (.cells #[.slice (some ⟨bb, off, none⟩) n c] 54)).alloc (.cells #[.int .i64 110] 3)) = w2 at *
 generalize chunkFn w1.heap.size = FN at *
 go_upto_region 5 with (first
  | (go_at_call 92; refine hca.mono ?_; clear hca; rintro _ _ ⟨rfl, rfl⟩)
  | (go_at_call 91; refine hco.mono ?_; clear hco; rintro _ w4 ⟨v4, rfl, hown4, hb4⟩))
 obtain ⟨gq, cq, rfl, hq1, hq2, hq3, hpt⟩ := parts_full (V := S) HBY.out (fun k hk hu h => HU.out k hk hu (.inl h)) hown4 HCN.out.2;rw [HCN.out.1] at hpt hq1 ⊢;have HW4 := Lib.hid (HB2.out.trans (hb4.mono HB2.out.size));have HPT := sq2 hpt (Nat.le_trans HB2.out.size hq3);clear hown4 hb4 hpt hq3 HB2 HCOL;have HB : Hid (AdB w w4 S T U p g gq N m v d b) := Lib.hid ⟨HT.out.1, (HW4.out.block p (zB HT.out.2.1)).trans HT.out.2.1, HT.out.2.2.1.below HW4.out, HT.out.2.2.2.1, HT.out.2.2.2.2, HPT.out.1, HPT.out.2, HW4.out, HM.out.2.2.1, HM.out.1, HM.out.2.1, HO.out.1, HO.out.2.1, HO.out.2.2.1, HO.out.2.2.2.1, HO.out.2.2.2.2.1, HO.out.2.2.2.2.2⟩;clear HT HPT HW4 HO
 go_wp2_with fail
 go_loopw [28] (fun i wr => WAd w4 S g (m.from_ + (m.have_ : Int)) m.next b N d i wr) (fun i _ => N - (intOf i).toNat)
 case atStart => exact ⟨0, d, Nat.zero_le _, rfl, HM.out.2.2.2.below HB.out.bel, by rw [Nat.sub_zero], Turned.refl _ _⟩
 case round =>
  obtain ⟨j, d', hj, rfl, hdk, hgo, htn⟩ := hrel
  by_cases hlt : j < N
  ·have hz := yf;have hce := HB.out.cell htn;have hc6 : wr.cell? ⟨p, 6, none⟩ = some (.int .u64 (m.next : Int)) := zA hce 6;have hrun := HB.out.run;have hwn := hrun.worn;have hok := HB.out.ok;obtain ⟨Aj, mj, cj, hcj, hmj, hyj⟩ := HB.out.part htn hlt;have hadd := IntWalk.i64_in ((j : Int) + 1) (by have := HB.out.big; omega);have hcv := IntWalk.u64_in (j : Int) (by have := HB.out.big; omega);have hnx := IntWalk.u64_in ((m.next : Int) + (j : Int)) (by omega);have hn1 := IntWalk.i64_in ((N : Int) - 1) (by have := HB.out.big; omega);(have hlt' : (j : Int) < (N : Int) := by omega);obtain ⟨e, he⟩ := sqz (decide (j + 1 = N))
   have hq : ((j : Int) == (N : Int) - 1) = e := by
    rw [he]
    by_cases h : j + 1 = N
    ·rw [decide_eq_true h]; simp; omega
    ·rw [decide_eq_false h]; simp; omega
   have hla := wlay_any (m.next + j) (by omega) hyj hmj e;rw [show ((m.next + j : Nat) : Int) = (m.next : Int) + (j : Int) by omega] at hla;obtain ⟨RS, hRS⟩ := sqz (zy (recB m.next b N j));rw [show zU (m.next + j) (partL b j) e = recB m.next b N j by rw [he]; rfl, ← hRS] at hla;have HS : Hid (RS.size = 128 ∧ RS.all (·.oneCell') = true) := Lib.hid ⟨by rw [hRS, yh]; exact rec_len _ _ _ _, by rw [hRS]; exact yx _⟩;have HRS := sq3 hRS hlt htn;have HD := sq2 hdk hgo;clear hce hrun hwn hok hyj hmj he hRS htn hdk hgo hlt hj
   go_upto_region 10 with fail
   go_upto_region 11 with (first
    | (go_at_call 93; refine hla.mono ?_; clear hla; rintro _ w5 ⟨rfl, hb5⟩; have HG := Lib.hid (heap_alloc_new w5 (.cells zS 159)); have HB5 := Lib.hid hb5; clear hb5)
    | (refine zl 9 46 RS HG.out (by rw [HS.out.1]; exact zQ) (by rw [HS.out.1]; exact yE) HS.out.2 ?_))
   try simp only [Act.put]
   have e6 := zF (new := RS) HG.out;have hb6 : Below wr.heap.size wr ((w5.alloc (.cells zS 159)).setRow w5.heap.size RS) := HB5.out.trans ((zD ((Below.refl w5.heap.size w5).alloc (Nat.le_refl _) (.cells zS 159)) (Nat.le_refl _) RS).mono HB5.out.size);have hq6 : w4.heap.size ≤ w5.heap.size := Nat.le_trans HRS.out.2.2.size HB5.out.size;clear HG HB5 hc6 hz
   (generalize (w5.alloc (.cells zS 159)).setRow w5.heap.size RS = w6 at *);obtain ⟨q6, hq6e⟩ := sqz w5.heap.size;rw [← hq6e] at e6 hq6 ⊢;clear hq6e;rw [HRS.out.1] at e6;have hy6 := byt_sub (w := w6.drew) (o := 0) (m := 128) (c := 128) e6 (by rw [rec_len]; omega) (by omega) (by decide) (S := fun k => w4.heap.size ≤ k) hq6;rw [List.drop_zero, List.take_of_length_le (by rw [rec_len]; omega)] at hy6;have hd6 : Dk w6.drew S g d' := (HD.out.1.below hb6).drew;have ht6 : Turned S w4 w6.drew := (HRS.out.2.2.trans (Turned.of_below (S := S) hb6) fun _ _ h => h).drew;have hce6 := HB.out.cell ht6;have hwr := bwrite_any hd6 hy6 (fun k _ h1 h2 => by have := HB.out.sm k h2; have := HB.out.bel.size; omega) (m.from_ + (m.have_ : Int) + (j : Int));have HW := sq2 hwr ht6;have hs1 := IntWalk.i64_in (m.from_ + (m.have_ : Int)) (by have h1 := HB.out.ok.from_; have h2 := HB.out.ok.n; have h3 := HB.out.ok.have_; omega);have hs2 := IntWalk.i64_in (m.from_ + (m.have_ : Int) + (j : Int)) (by have h1 := HB.out.ok.from_; have h2 := HB.out.ok.n; have h3 := HB.out.ok.have_; have h4 := HRS.out.2.1; have h5 := HB.out.big; omega);have hC : w6.drew.cell? ⟨p, 0, none⟩ = some (.pointer (some ⟨g, 0, none⟩)) ∧ w6.drew.cell? ⟨p, 1, none⟩ = some (.int .i64 m.from_) ∧ w6.drew.cell? ⟨p, 4, none⟩ = some (.int .i64 (m.have_ : Int)) := ⟨zA hce6 0, zA hce6 1, zA hce6 4⟩;clear e6 hy6 hd6 ht6 hce6 hwr hb6 hq6;refine sqpl (fun W => W.cell? ⟨p, 0, none⟩ = some (.pointer (some ⟨g, 0, none⟩)) ∧ W.cell? ⟨p, 1, none⟩ = some (.int .i64 m.from_) ∧ W.cell? ⟨p, 4, none⟩ = some (.int .i64 (m.have_ : Int))) [([0, 1, 2, 3, 4, 5, 6, 7, 8, 9, 10, 11, 12, 13, 14, 15], 16)] [17] hC ?_;refine zR ?_;refine sqr ?_ (hv := by intro W hW; obtain ⟨hw0, hw1, hw4⟩ := hW; go_simp; with_reducible rfl)
   try simp only [Act.put, sqp]
   refine sqr ?_ (hv := by intro W hW; obtain ⟨hw0, hw1, hw4⟩ := hW; go_simp; with_reducible rfl)
   try simp only [Act.put, sqp]
   refine sqr ?_ (hv := by intro W hW; obtain ⟨hw0, hw1, hw4⟩ := hW; go_simp; with_reducible rfl)
   try simp only [Act.put, sqp]
   refine sqr ?_ (hv := by intro W hW; obtain ⟨hw0, hw1, hw4⟩ := hW; go_simp; with_reducible rfl)
   try simp only [Act.put, sqp]
   refine sqr ?_ (hv := by intro W hW; obtain ⟨hw0, hw1, hw4⟩ := hW; go_simp; with_reducible rfl)
   try simp only [Act.put, sqp]
   refine sqr ?_ (hv := by intro W hW; obtain ⟨hw0, hw1, hw4⟩ := hW; go_simp; with_reducible rfl)
   try simp only [Act.put, sqp]
   refine sqr ?_ (hv := by intro W hW; obtain ⟨hw0, hw1, hw4⟩ := hW; go_simp; with_reducible rfl)
   try simp only [Act.put, sqp]
   refine sqr ?_ (hv := by intro W hW; obtain ⟨hw0, hw1, hw4⟩ := hW; go_simp; with_reducible rfl)
   try simp only [Act.put, sqp]
   refine sqr ?_ (hv := by intro W hW; obtain ⟨hw0, hw1, hw4⟩ := hW; go_simp; with_reducible rfl)
   try simp only [Act.put, sqp]
   refine sqr ?_ (hv := by intro W hW; obtain ⟨hw0, hw1, hw4⟩ := hW; go_simp; with_reducible rfl)
   try simp only [Act.put, sqp]
   refine sqr ?_ (hv := by intro W hW; obtain ⟨hw0, hw1, hw4⟩ := hW; go_simp; with_reducible rfl)
   try simp only [Act.put, sqp]
   refine sqr ?_ (hv := by intro W hW; obtain ⟨hw0, hw1, hw4⟩ := hW; go_simp; with_reducible rfl)
   try simp only [Act.put, sqp]
   refine sqr ?_ (hv := by intro W hW; obtain ⟨hw0, hw1, hw4⟩ := hW; go_simp; with_reducible rfl)
   try simp only [Act.put, sqp]
   refine sqr ?_ (hv := by intro W hW; obtain ⟨hw0, hw1, hw4⟩ := hW; go_simp; with_reducible rfl)
   try simp only [Act.put, sqp]
   refine sqr ?_ (hv := by intro W hW; obtain ⟨hw0, hw1, hw4⟩ := hW; go_simp; with_reducible rfl)
   try simp only [Act.put, sqp]
   refine sqr ?_ (hv := by intro W hW; obtain ⟨hw0, hw1, hw4⟩ := hW; go_simp; with_reducible rfl)
   try simp only [Act.put, sqp]
   refine zH ?_;refine zr (by rfl) (fun K hK => ?_);go_simp;refine HW.out.1.mono ?_;rintro _ w7 ⟨rfl, hd7, ht7⟩
   refine hK _ _ ⟨fun W => W = w7, rfl, fun W e => by
    rw [e];have hce7 := HB.out.cell (HW.out.2.trans ht7 fun _ _ h => h);exact ⟨zA hce7 0, zA hce7 1, zA hce7 4⟩, ?_⟩
   clear hK K;refine zZ ?_
   repeat (refine zb (by rfl) (fun K hK => ?_); go_simp; refine hK _ ?_; clear hK K)
   refine zH ?_;(have ht47 := HW.out.2.trans ht7 fun _ _ h => h);have hce7 := HB.out.cell ht47;have hc7 : w7.cell? ⟨p, 7, none⟩ = some (.int .i64 m.e) := zA hce7 7;have hf7 := zC hce7 7;(obtain ⟨R, hR⟩ : ∃ R, R = zm d' (m.from_ + (m.have_ : Int) + (j : Int)) (recB m.next b N j) := ⟨_, rfl⟩);rw [← hR] at hd7 ⊢;have hgm := addGo_more (at_ := m.from_ + (m.have_ : Int)) (x := m.next) (b := b) HRS.out.2.1 d';rw [← hR] at hgm;have H7 := sq3 hd7 ht47 hgm;clear hd7 ht7 ht47 hce7 hgm hR HW
   by_cases hE : R.2 = 0
   ·rw [hE];have HF : Hid (WAd w4 S g (m.from_ + (m.have_ : Int)) m.next b N d (.int .i64 ((j : Int) + 1)) w7) := Lib.hid ⟨j + 1, R.1, HRS.out.2.1, by simp, H7.out.1, by rw [HD.out.2, H7.out.2.2, if_pos hE], H7.out.2.1⟩;clear hE
    go_wp2_with fail
    go_roundw
    case rel => exact HF.out
    case measure => simp only [intOf]; have := HRS.out.2.1; omega
   ·(have hE' : (R.2 != 0) = true := by simpa using hE);have HF := Lib.hid (HB.out.fail (d := d) H7.out.2.1 H7.out.1 (by rw [HD.out.2, H7.out.2.2, if_neg hE]) hE);clear hE
    generalize R.2 = E at *
    go_wp2_with fail
    go_ret
    exact HF.out
  ·(obtain rfl : j = N := by omega);(have hgo' : yF (m.from_ + (m.have_ : Int)) m.next b j j 0 d = (d', 0) := by rw [hgo, Nat.sub_self, yF]);have hce := HB.out.cell htn;have hc6 : wr.cell? ⟨p, 6, none⟩ = some (.int .u64 (m.next : Int)) := zA hce 6;have hf6 := zC hce 6;have hwn := HB.out.run.worn;have hcv := IntWalk.u64_in (j : Int) (by have := HB.out.big; omega);obtain ⟨X, hX⟩ := sqz (m.next + j);(have hnx : IntKind.u64.wrap ((m.next : Int) + (j : Int)) = (X : Int) := by rw [IntWalk.u64_in _ (by omega)]; omega);have hset : Turned (fun k => k = p) wr (wr.setCell ⟨p, 6, none⟩ (.int .u64 (X : Int))) := (Turned.refl (fun k => k = p) wr).set rfl 6 _
   have hL5 : Lg (wr.setCell ⟨p, 6, none⟩ (.int .u64 (X : Int))) T p g { m with next := X } :=
    ⟨v, HB.out.tp, zG hce 6 _, (HB.out.rec_.turned htn fun k _ hk _ hs => HB.out.dis k hs hk).turned hset fun k _ _ hne e => hne e, HB.out.zer, HB.out.each⟩
   have hd5 := hdk.turned hset (fun k _ hs e => HB.out.dis k hs (by rw [e]; exact HB.out.tp));have ht5 : Turned (fun k => S k ∨ T k) w (wr.setCell ⟨p, 6, none⟩ (.int .u64 (X : Int))) := ((HB.out.turn htn).mono (T := fun k => S k ∨ T k) fun _ _ h => .inl h).set (.inr HB.out.tp) 6 _;(have hlt' : ¬ (j : Int) < (j : Int) := by omega);have HG := sq2 hgo' hX;clear hlt hj hgo hgo' hwn hset hce htn hdk hX
   go_upto_region 17 with fail
   clear hc6 hf6
   (generalize wr.setCell ⟨p, 6, none⟩ (.int .u64 (X : Int)) = w5 at *);obtain ⟨v5, _, hce5, _⟩ := id hL5;have HCP : Hid (p < w5.drew.heap.size ∧ w5.drew.cell? ⟨p, 6, none⟩ = some (.int .u64 (X : Int)) ∧ w5.drew.cell? ⟨p, 4, none⟩ = some (.int .i64 (m.have_ : Int))) := Lib.hid ⟨zB (w := w5.drew) hce5, zA (w := w5.drew) hce5 6, zA (w := w5.drew) hce5 4⟩;(have HCL : Hid (∀ W, Below w5.drew.heap.size w5.drew W → Calls Tryz.prog 48 #[.slice (some (⟨bb, off, none⟩ : Addr)) n c] W fun e w' => ∃ A' c', e = .returned (.slice A' n c') ∧ Byt w' (W.heap.size ≤ ·) A' n c' b ∧ Below W.heap.size W w' ∧ (A' = none ↔ (some (⟨bb, off, none⟩ : Addr)) = none) ∧ xO w' A') := Lib.hid fun W hb => clone_byt (((HBY.out.turned ht5 HU.out).drew).below hb) (by have := HN.out; omega));obtain ⟨Y, hY⟩ := sqz (X - 1);(have hsub : IntKind.u64.wrap ((X : Int) - 1) = (Y : Int) := by rw [hY]; exact u64_sub1 X (by have := HB.out.one; have := HG.out.2; omega) (by have := HB.out.run.worn; have := HG.out.2; omega));have HSUB := Lib.hid hsub;have HY := Lib.hid hY;clear hsub hY;have hs2 := IntWalk.i64_in ((m.have_ : Int) + (j : Int)) (by have h2 := HB.out.ok.n; have h3 := HB.out.ok.have_; have h5 := HB.out.big; omega);have H5 := sq3 hL5.drew hd5.drew ht5.drew;clear hce5 hL5 hd5 ht5;refine (wpIn_wide (n := 3)).1 ?_;refine wpIn_region_growL (Grow.open_wide _ _) (fun W W' => Below W.heap.size W W') (Grow.nth [sqv (.pointer (some ⟨p, 0, none⟩)), sqv (.slice (some (⟨bb, off, none⟩ : Addr)) n c), fun v W => ∃ A c', v = .slice A n c' ∧ Byt W (fun k => w.heap.size ≤ k) A n c' b, sqv (.pointer (some ⟨p, 0, none⟩)), sqv (.pointer (some ⟨p, 0, none⟩)), sqv (.pointer (some ⟨p, 6, none⟩)), sqv (.int .u64 (X : Int)), sqv (.int .u64 (Y : Int)), sqv (.pointer (some ⟨p, 0, none⟩)), sqv (.pointer (some ⟨p, 0, none⟩)), sqv (.pointer (some ⟨p, 4, none⟩)), sqv (.int .i64 (m.have_ : Int)), sqv (.slice (some ⟨gq, 0, none⟩) j cq), sqv (.int .i64 (j : Int)), sqv (.int .i64 ((m.have_ : Int) + (j : Int)))]) 98 (by kernel_rfl) (by kernel_rfl) (by kernel_rfl) (by kernel_rfl) (by rfl) (fun W => Below.refl _ W) (fun _ _ _ h1 h2 => h1.trans (h2.mono h1.size)) (Grow.mono_nth ?gmono) 15 (by rfl) (by rfl) (by rfl) ?gsteps ?gfin
   case gmono => exact ⟨sqm, sqm, fun _ _ _ ⟨A, c, h1, h2⟩ hg => ⟨A, c, h1, h2.below hg⟩, sqm, sqm, sqm, sqm, sqm, sqm, sqm, sqm, sqm, sqm, sqm, sqm, trivial⟩
   case gsteps =>
    show Grow.allBelow _ 15
    iterate 15 refine And.intro ?_ ?_
    exact trivial
    ·exact squ 0
    ·exact squ 1
    ·refine sqi ?_;intro E W ec eg ef hG hd hu R HR;have e83 := sqe (hd 1 83);clear hd hu;go_simp;refine (HCL.out W hG).mono ?_;rintro _ w' ⟨A6, c6, rfl, hy6, hb6, _, _⟩;exact ⟨_, rfl, HR.out _ _ hb6 ⟨A6, c6, rfl, hy6.mono fun k _ hk => by have := H5.out.2.2.size; have := hG.size; omega⟩⟩
    ·refine sqi ?_;intro E W ec eg ef hG hd hu R HR;have e0 : E (.tmp 0) = .pointer (some ⟨p, 0, none⟩) := hu 0;clear hd hu;go_simp;exact sqh HR
    ·refine sqi ?_;intro E W ec eg ef hG hd hu R HR;have e85 : E (.tmp 85) = .pointer (some ⟨p, 0, none⟩) := hd 3 85;clear hd hu;go_simp;exact sqh HR
    ·refine sqi ?_;intro E W ec eg ef hG hd hu R HR;have e86 := sqe (hd 4 86);clear hd hu;go_simp;exact sqh HR
    ·refine sqi ?_;intro E W ec eg ef hG hd hu R HR;have e87 := sqe (hd 5 87);clear hd hu;have hcl := (hG.cell (p := ⟨p, 6, none⟩) HCP.out.1).trans HCP.out.2.1;go_simp;exact sqh HR
    ·refine sqi ?_;intro E W ec eg ef hG hd hu R HR;have e88 := sqe (hd 6 88);clear hd hu;have hs1 := HSUB.out;go_simp;exact sqh HR
    ·refine sqi ?_;intro E W ec eg ef hG hd hu R HR;have e0 : E (.tmp 0) = .pointer (some ⟨p, 0, none⟩) := hu 0;clear hd hu;go_simp;exact sqh HR
    ·refine sqi ?_;intro E W ec eg ef hG hd hu R HR;have e90 := sqe (hd 8 90);clear hd hu;go_simp;exact sqh HR
    ·refine sqi ?_;intro E W ec eg ef hG hd hu R HR;have e91 := sqe (hd 9 91);clear hd hu;go_simp;exact sqh HR
    ·refine sqi ?_;intro E W ec eg ef hG hd hu R HR;have e92 := sqe (hd 10 92);clear hd hu;have hcl := (hG.cell (p := ⟨p, 4, none⟩) HCP.out.1).trans HCP.out.2.2;go_simp;exact sqh HR
    ·refine sqi ?_;intro E W ec eg ef hG hd hu R HR;have e6 : E (.tmp 6) = .slice (some ⟨gq, 0, none⟩) j cq := hu 6;clear hd hu;go_simp;exact sqh HR
    ·refine sqi ?_;intro E W ec eg ef hG hd hu R HR;have e94 := sqe (hd 12 94);clear hd hu;go_simp;exact sqh HR
    ·refine sqi ?_;intro E W ec eg ef hG hd hu R HR;have e93 := sqe (hd 11 93);have e95 := sqe (hd 13 95);clear hd hu;go_simp;exact sqh HR
   case gfin =>
    intro W hG
    iterate 2 (refine Grow.fin_dst (by rfl) ?_; rintro _ rfl)
    refine Grow.fin_dst (by rfl) ?_;rintro _ ⟨A6, c6, rfl, hy6⟩
    iterate 12 (refine Grow.fin_dst (by rfl) ?_; rintro _ rfl)
    simp only [Act.put, sqp];refine Grow.fin_end ?_;have HF0 := Lib.hid (H5.out.1.below hG);have hkp := wkeep_any HF0.out (by have h1 := HB.out.ok.few; have h2 := HB.out.ok.n; have h3 := HB.out.ok.have_; show m.l.length ≤ 65536; omega) hy6 (fun k hk h1 h2 => by have := HB.out.tm k h2; omega) (by have := HB.out.blen; omega) Y (m.have_ + j) (by have := HB.out.run.worn; have := HG.out.2; have := HY.out; omega) (by have := HB.out.one; omega) (by have h2 := HB.out.ok.n; have h4 := HB.out.run.room; omega) (fun hl => by have h1 := HB.out.zer hl; have h2 := HB.out.run.next; have h3 := HG.out.2; have h4 := HY.out; omega)
    have hkm : keepM { m with next := X } b Y (m.have_ + j) = addOk m b := by
     rw [HY.out, HG.out.2];exact addOk_keep HB.out.num HB.out.run HB.out.ok HB.out.zer HB.out.one
    rw [hkm, show ((m.have_ + j : Nat) : Int) = (m.have_ : Int) + (j : Int) by omega] at hkp;have HFG := Lib.hid hG;have HKP := Lib.hid hkp;clear hkp hy6 hG hkm
    gi_wp2_with (refine ⟨trivial, ?_⟩; gi_at_call 94; refine (callsIn_wide.2 HKP.out).mono ?_; rintro _ w7 ⟨rfl, hL7, ht7⟩)
    have HF : Hid (AddP w S T p g d m b (.returned (.int .i64 0)) w7) := Lib.hid (by
     unfold AddP;rw [addM_run HB.out.num HB.out.run, HG.out.1, if_pos rfl];have hsz := H5.out.2.2.size;refine ⟨rfl, (H5.out.2.1.below HFG.out).turned ht7 fun k _ h1 h2 => HB.out.dis k h1 h2, hL7.mono fun k _ h => ?_, (H5.out.2.2.trans (Turned.of_below (S := fun k => S k ∨ T k) HFG.out) fun _ _ h => h).trans ht7 fun _ _ h => .inr h⟩;rcases h with h | h | h
     ·exact .inl h
     ·exact .inr h
     ·exact .inr (by have := HFG.out.size; omega))
    clear hL7 ht7
    go_wp2_with fail
    go_ret
    exact HF.out
theorem wadd_none {w : World} {S T U : Nat → Prop} {p g : Nat} {m : LM} {d : DM} (h : Lg w T p g m) (hd : Dk w S g d) (hS : ∀ k, S k → k < w.heap.size) (hT : ∀ k, T k → k < w.heap.size) (hST : ∀ k, S k → ¬ T k) (ok : m.Ok) {A : Option Addr} {n c : Nat} {b : List UInt8} (hb : Byt w U A n c b) (hU : ∀ k, k < w.heap.size → U k → ¬ S k ∧ ¬ T k) (hn : n ≤ 1000000) (hr : refE m (zP n) = 0) (h0 : n = 0) :
    Calls Tryz.prog 67 #[.pointer (some ⟨p, 0, none⟩), .slice A n c] w fun e w' => AddP w S T p g d m b e w' := by
 have hbl := wblocks_any n hn w;have hlen := hb.len;obtain ⟨N, hNN⟩ := sqz (zP n);have hN1 : 1 ≤ N := by rw [hNN]; exact blocksN_one n
 have hN2 : N ≤ 1000000 := by rw [hNN]; unfold zP; split <;> omega
 rw [← hNN] at hbl hr;have hre := wrefuse_any h ok N hN2;rw [hr] at hre;have hrun := refE_ok hr ok.next
 obtain ⟨v, hTp, hce, hrc, hzr, heach⟩ := h;have HT := sq5 hTp hce hrc hzr heach;have HO := sq6 ok hrun (show N = zP b.length by rw [hlen]; exact hNN) hN1 hN2 (show b.length ≤ 1000000 by rw [hlen]; exact hn);have HM := sq4 hS hT hST hd;have HBY := Lib.hid hb;have HU : Hid (∀ k, k < w.heap.size → U k → ¬ (S k ∨ T k)) := Lib.hid fun k hk hu hh => hh.elim (hU k hk hu).1 (hU k hk hu).2
 have HN := Lib.hid hn;have hcN : yP n = 0 := by rw [h0]; rfl
 have hN1' : N = 1 := by rw [hNN, h0]; rfl
 have hbn : b = [] := List.eq_nil_of_length_eq_zero (by omega);have hcol := fun (w2 : World) (q : Nat) (h1 : w2.heap[q]? = some (.cells #[.slice A n c] 54 (0, 0))) (h2 : w2.heap[q + 1]? = some (.cells #[.int .i64 110] 3 (0, 0))) => collect_any q 0 0 n c A (fun h => absurd h (by omega)) hb.cap hb.max hn w2 h1 h2
 have HCOL := Lib.hid hcol;have HCN := sq3 hcN hN1' hbn;clear hb hn hlen hN1 hN2 hr ok hrun hTp hce hrc hzr heach hS hT hST hd hU hcol hcN h0 hNN hN1' hbn
 go_enter Tryz.func67, Tryz.ntmps67
 go_upto_region 4 with (first
  | (go_at_call 65; refine hbl.mono ?_; clear hbl; rintro _ _ ⟨rfl, rfl⟩)
  | (go_at_call 90; refine hre.mono ?_; clear hre; rintro _ w1 ⟨rfl, hb1⟩))
 have hca := chunk_any A n c w1;have h1 := heap_alloc_new w1 (.cells #[.slice A n c] 54);have h2 := heap_alloc_new (w1.alloc (.cells #[.slice A n c] 54)) (.cells #[.int .i64 110] 3);rw [World.size_alloc] at h2;have h1 := (Below.heap_alloc (w1.alloc (.cells #[.slice A n c] 54)) (.cells #[.int .i64 110] 3) w1.heap.size (by simp)).trans h1;have hco := HCOL.out _ _ h1 h2;have hb2 : Below w.heap.size w ((w1.alloc (.cells #[.slice A n c] 54)).alloc (.cells #[.int .i64 110] 3)) := (hb1.alloc hb1.size _).alloc (by have := hb1.size; simp; omega) _;have HB2 := Lib.hid hb2;clear h1 h2 hb1 hb2
 generalize ((w1.alloc (.cells #[.slice A n c] 54)).alloc (.cells #[.int .i64 110] 3)) = w2 at *
 generalize chunkFn w1.heap.size = FN at *
 go_upto_region 5 with (first
  | (go_at_call 92; refine hca.mono ?_; clear hca; rintro _ _ ⟨rfl, rfl⟩)
  | (go_at_call 91; refine hco.mono ?_; clear hco; rintro _ w3 ⟨v4, rfl, hown4, hb4⟩))
 obtain ⟨A3, c3, rfl⟩ : ∃ A3 c3, v4 = .slice A3 0 c3 := by
  rcases hown4.2 with ⟨h, h2⟩ | ⟨g, cap, cur, h, _⟩
  ·exact ⟨none, 0, h⟩
  ·rw [HCN.out.1] at h;exact ⟨_, cap, h⟩
 have HB3 := Lib.hid (HB2.out.trans (hb4.mono HB2.out.size));clear hown4 hb4 HB2 HCOL
 go_upto_region 7 with fail
 obtain ⟨gq, hgq⟩ := sqz w3.heap.size;have HSL : Hid (Value.slice (some ⟨w3.heap.size, 0, none⟩) 1 1 = Value.slice (some ⟨gq, 0, none⟩) N N) := Lib.hid (by rw [HCN.out.2.1, hgq]);rw [HSL.out];have HW4 := Lib.hid (HB3.out.alloc HB3.out.size (.cells #[.slice none 0 0] 54));have HPT : Hid (PartsAt w (w3.alloc (.cells #[.slice none 0 0] 54)) S U gq N b ∧ w.heap.size ≤ gq) := Lib.hid ⟨by rw [HCN.out.2.1, HCN.out.2.2, hgq]; exact parts_none (heap_alloc_new w3 _), by rw [hgq]; exact HB3.out.size⟩;clear hgq HB3 HSL
 generalize w3.alloc (.cells #[.slice none 0 0] 54) = w4 at *
 have HB : Hid (AdB w w4 S T U p g gq N m v d b) := Lib.hid ⟨HT.out.1, (HW4.out.block p (zB HT.out.2.1)).trans HT.out.2.1, HT.out.2.2.1.below HW4.out, HT.out.2.2.2.1, HT.out.2.2.2.2, HPT.out.1, HPT.out.2, HW4.out, HM.out.2.2.1, HM.out.1, HM.out.2.1, HO.out.1, HO.out.2.1, HO.out.2.2.1, HO.out.2.2.2.1, HO.out.2.2.2.2.1, HO.out.2.2.2.2.2⟩;clear HT HPT HW4 HO
 go_wp2_with fail
 go_loopw [28] (fun i wr => WAd w4 S g (m.from_ + (m.have_ : Int)) m.next b N d i wr) (fun i _ => N - (intOf i).toNat)
 case atStart => exact ⟨0, d, Nat.zero_le _, rfl, HM.out.2.2.2.below HB.out.bel, by rw [Nat.sub_zero], Turned.refl _ _⟩
 case round =>
  obtain ⟨j, d', hj, rfl, hdk, hgo, htn⟩ := hrel
  by_cases hlt : j < N
  ·have hz := yf;have hce := HB.out.cell htn;have hc6 : wr.cell? ⟨p, 6, none⟩ = some (.int .u64 (m.next : Int)) := zA hce 6;have hrun := HB.out.run;have hwn := hrun.worn;have hok := HB.out.ok;obtain ⟨Aj, mj, cj, hcj, hmj, hyj⟩ := HB.out.part htn hlt;have hadd := IntWalk.i64_in ((j : Int) + 1) (by have := HB.out.big; omega);have hcv := IntWalk.u64_in (j : Int) (by have := HB.out.big; omega);have hnx := IntWalk.u64_in ((m.next : Int) + (j : Int)) (by omega);have hn1 := IntWalk.i64_in ((N : Int) - 1) (by have := HB.out.big; omega);(have hlt' : (j : Int) < (N : Int) := by omega);obtain ⟨e, he⟩ := sqz (decide (j + 1 = N))
   have hq : ((j : Int) == (N : Int) - 1) = e := by
    rw [he]
    by_cases h : j + 1 = N
    ·rw [decide_eq_true h]; simp; omega
    ·rw [decide_eq_false h]; simp; omega
   have hla := wlay_any (m.next + j) (by omega) hyj hmj e;rw [show ((m.next + j : Nat) : Int) = (m.next : Int) + (j : Int) by omega] at hla;obtain ⟨RS, hRS⟩ := sqz (zy (recB m.next b N j));rw [show zU (m.next + j) (partL b j) e = recB m.next b N j by rw [he]; rfl, ← hRS] at hla;have HS : Hid (RS.size = 128 ∧ RS.all (·.oneCell') = true) := Lib.hid ⟨by rw [hRS, yh]; exact rec_len _ _ _ _, by rw [hRS]; exact yx _⟩;have HRS := sq3 hRS hlt htn;have HD := sq2 hdk hgo;clear hce hrun hwn hok hyj hmj he hRS htn hdk hgo hlt hj
   go_upto_region 10 with fail
   go_upto_region 11 with (first
    | (go_at_call 93; refine hla.mono ?_; clear hla; rintro _ w5 ⟨rfl, hb5⟩; have HG := Lib.hid (heap_alloc_new w5 (.cells zS 159)); have HB5 := Lib.hid hb5; clear hb5)
    | (refine zl 9 46 RS HG.out (by rw [HS.out.1]; exact zQ) (by rw [HS.out.1]; exact yE) HS.out.2 ?_))
   try simp only [Act.put]
   have e6 := zF (new := RS) HG.out;have hb6 : Below wr.heap.size wr ((w5.alloc (.cells zS 159)).setRow w5.heap.size RS) := HB5.out.trans ((zD ((Below.refl w5.heap.size w5).alloc (Nat.le_refl _) (.cells zS 159)) (Nat.le_refl _) RS).mono HB5.out.size);have hq6 : w4.heap.size ≤ w5.heap.size := Nat.le_trans HRS.out.2.2.size HB5.out.size;clear HG HB5 hc6 hz
   (generalize (w5.alloc (.cells zS 159)).setRow w5.heap.size RS = w6 at *);obtain ⟨q6, hq6e⟩ := sqz w5.heap.size;rw [← hq6e] at e6 hq6 ⊢;clear hq6e;rw [HRS.out.1] at e6;have hy6 := byt_sub (w := w6.drew) (o := 0) (m := 128) (c := 128) e6 (by rw [rec_len]; omega) (by omega) (by decide) (S := fun k => w4.heap.size ≤ k) hq6;rw [List.drop_zero, List.take_of_length_le (by rw [rec_len]; omega)] at hy6;have hd6 : Dk w6.drew S g d' := (HD.out.1.below hb6).drew;have ht6 : Turned S w4 w6.drew := (HRS.out.2.2.trans (Turned.of_below (S := S) hb6) fun _ _ h => h).drew;have hce6 := HB.out.cell ht6;have hwr := bwrite_any hd6 hy6 (fun k _ h1 h2 => by have := HB.out.sm k h2; have := HB.out.bel.size; omega) (m.from_ + (m.have_ : Int) + (j : Int));have HW := sq2 hwr ht6;have hs1 := IntWalk.i64_in (m.from_ + (m.have_ : Int)) (by have h1 := HB.out.ok.from_; have h2 := HB.out.ok.n; have h3 := HB.out.ok.have_; omega);have hs2 := IntWalk.i64_in (m.from_ + (m.have_ : Int) + (j : Int)) (by have h1 := HB.out.ok.from_; have h2 := HB.out.ok.n; have h3 := HB.out.ok.have_; have h4 := HRS.out.2.1; have h5 := HB.out.big; omega);have hC : w6.drew.cell? ⟨p, 0, none⟩ = some (.pointer (some ⟨g, 0, none⟩)) ∧ w6.drew.cell? ⟨p, 1, none⟩ = some (.int .i64 m.from_) ∧ w6.drew.cell? ⟨p, 4, none⟩ = some (.int .i64 (m.have_ : Int)) := ⟨zA hce6 0, zA hce6 1, zA hce6 4⟩;clear e6 hy6 hd6 ht6 hce6 hwr hb6 hq6;refine sqpl (fun W => W.cell? ⟨p, 0, none⟩ = some (.pointer (some ⟨g, 0, none⟩)) ∧ W.cell? ⟨p, 1, none⟩ = some (.int .i64 m.from_) ∧ W.cell? ⟨p, 4, none⟩ = some (.int .i64 (m.have_ : Int))) [([0, 1, 2, 3, 4, 5, 6, 7, 8, 9, 10, 11, 12, 13, 14, 15], 16)] [17] hC ?_;refine zR ?_;refine sqr ?_ (hv := by intro W hW; obtain ⟨hw0, hw1, hw4⟩ := hW; go_simp; with_reducible rfl)
   try simp only [Act.put, sqp]
   refine sqr ?_ (hv := by intro W hW; obtain ⟨hw0, hw1, hw4⟩ := hW; go_simp; with_reducible rfl)
   try simp only [Act.put, sqp]
   refine sqr ?_ (hv := by intro W hW; obtain ⟨hw0, hw1, hw4⟩ := hW; go_simp; with_reducible rfl)
   try simp only [Act.put, sqp]
   refine sqr ?_ (hv := by intro W hW; obtain ⟨hw0, hw1, hw4⟩ := hW; go_simp; with_reducible rfl)
   try simp only [Act.put, sqp]
   refine sqr ?_ (hv := by intro W hW; obtain ⟨hw0, hw1, hw4⟩ := hW; go_simp; with_reducible rfl)
   try simp only [Act.put, sqp]
   refine sqr ?_ (hv := by intro W hW; obtain ⟨hw0, hw1, hw4⟩ := hW; go_simp; with_reducible rfl)
   try simp only [Act.put, sqp]
   refine sqr ?_ (hv := by intro W hW; obtain ⟨hw0, hw1, hw4⟩ := hW; go_simp; with_reducible rfl)
   try simp only [Act.put, sqp]
   refine sqr ?_ (hv := by intro W hW; obtain ⟨hw0, hw1, hw4⟩ := hW; go_simp; with_reducible rfl)
   try simp only [Act.put, sqp]
   refine sqr ?_ (hv := by intro W hW; obtain ⟨hw0, hw1, hw4⟩ := hW; go_simp; with_reducible rfl)
   try simp only [Act.put, sqp]
   refine sqr ?_ (hv := by intro W hW; obtain ⟨hw0, hw1, hw4⟩ := hW; go_simp; with_reducible rfl)
   try simp only [Act.put, sqp]
   refine sqr ?_ (hv := by intro W hW; obtain ⟨hw0, hw1, hw4⟩ := hW; go_simp; with_reducible rfl)
   try simp only [Act.put, sqp]
   refine sqr ?_ (hv := by intro W hW; obtain ⟨hw0, hw1, hw4⟩ := hW; go_simp; with_reducible rfl)
   try simp only [Act.put, sqp]
   refine sqr ?_ (hv := by intro W hW; obtain ⟨hw0, hw1, hw4⟩ := hW; go_simp; with_reducible rfl)
   try simp only [Act.put, sqp]
   refine sqr ?_ (hv := by intro W hW; obtain ⟨hw0, hw1, hw4⟩ := hW; go_simp; with_reducible rfl)
   try simp only [Act.put, sqp]
   refine sqr ?_ (hv := by intro W hW; obtain ⟨hw0, hw1, hw4⟩ := hW; go_simp; with_reducible rfl)
   try simp only [Act.put, sqp]
   refine sqr ?_ (hv := by intro W hW; obtain ⟨hw0, hw1, hw4⟩ := hW; go_simp; with_reducible rfl)
   try simp only [Act.put, sqp]
   refine zH ?_;refine zr (by rfl) (fun K hK => ?_);go_simp;refine HW.out.1.mono ?_;rintro _ w7 ⟨rfl, hd7, ht7⟩
   refine hK _ _ ⟨fun W => W = w7, rfl, fun W e => by
    rw [e];have hce7 := HB.out.cell (HW.out.2.trans ht7 fun _ _ h => h);exact ⟨zA hce7 0, zA hce7 1, zA hce7 4⟩, ?_⟩
   clear hK K;refine zZ ?_
   repeat (refine zb (by rfl) (fun K hK => ?_); go_simp; refine hK _ ?_; clear hK K)
   refine zH ?_;(have ht47 := HW.out.2.trans ht7 fun _ _ h => h);have hce7 := HB.out.cell ht47;have hc7 : w7.cell? ⟨p, 7, none⟩ = some (.int .i64 m.e) := zA hce7 7;have hf7 := zC hce7 7;(obtain ⟨R, hR⟩ : ∃ R, R = zm d' (m.from_ + (m.have_ : Int) + (j : Int)) (recB m.next b N j) := ⟨_, rfl⟩);rw [← hR] at hd7 ⊢;have hgm := addGo_more (at_ := m.from_ + (m.have_ : Int)) (x := m.next) (b := b) HRS.out.2.1 d';rw [← hR] at hgm;have H7 := sq3 hd7 ht47 hgm;clear hd7 ht7 ht47 hce7 hgm hR HW
   by_cases hE : R.2 = 0
   ·rw [hE];have HF : Hid (WAd w4 S g (m.from_ + (m.have_ : Int)) m.next b N d (.int .i64 ((j : Int) + 1)) w7) := Lib.hid ⟨j + 1, R.1, HRS.out.2.1, by simp, H7.out.1, by rw [HD.out.2, H7.out.2.2, if_pos hE], H7.out.2.1⟩;clear hE
    go_wp2_with fail
    go_roundw
    case rel => exact HF.out
    case measure => simp only [intOf]; have := HRS.out.2.1; omega
   ·(have hE' : (R.2 != 0) = true := by simpa using hE);have HF := Lib.hid (HB.out.fail (d := d) H7.out.2.1 H7.out.1 (by rw [HD.out.2, H7.out.2.2, if_neg hE]) hE);clear hE
    generalize R.2 = E at *
    go_wp2_with fail
    go_ret
    exact HF.out
  ·(obtain rfl : j = N := by omega);(have hgo' : yF (m.from_ + (m.have_ : Int)) m.next b j j 0 d = (d', 0) := by rw [hgo, Nat.sub_self, yF]);have hce := HB.out.cell htn;have hc6 : wr.cell? ⟨p, 6, none⟩ = some (.int .u64 (m.next : Int)) := zA hce 6;have hf6 := zC hce 6;have hwn := HB.out.run.worn;have hcv := IntWalk.u64_in (j : Int) (by have := HB.out.big; omega);obtain ⟨X, hX⟩ := sqz (m.next + j);(have hnx : IntKind.u64.wrap ((m.next : Int) + (j : Int)) = (X : Int) := by rw [IntWalk.u64_in _ (by omega)]; omega);have hset : Turned (fun k => k = p) wr (wr.setCell ⟨p, 6, none⟩ (.int .u64 (X : Int))) := (Turned.refl (fun k => k = p) wr).set rfl 6 _
   have hL5 : Lg (wr.setCell ⟨p, 6, none⟩ (.int .u64 (X : Int))) T p g { m with next := X } :=
    ⟨v, HB.out.tp, zG hce 6 _, (HB.out.rec_.turned htn fun k _ hk _ hs => HB.out.dis k hs hk).turned hset fun k _ _ hne e => hne e, HB.out.zer, HB.out.each⟩
   have hd5 := hdk.turned hset (fun k _ hs e => HB.out.dis k hs (by rw [e]; exact HB.out.tp));have ht5 : Turned (fun k => S k ∨ T k) w (wr.setCell ⟨p, 6, none⟩ (.int .u64 (X : Int))) := ((HB.out.turn htn).mono (T := fun k => S k ∨ T k) fun _ _ h => .inl h).set (.inr HB.out.tp) 6 _;(have hlt' : ¬ (j : Int) < (j : Int) := by omega);have HG := sq2 hgo' hX;clear hlt hj hgo hgo' hwn hset hce htn hdk hX
   go_upto_region 17 with fail
   clear hc6 hf6
   (generalize wr.setCell ⟨p, 6, none⟩ (.int .u64 (X : Int)) = w5 at *);obtain ⟨v5, _, hce5, _⟩ := id hL5;have HCP : Hid (p < w5.drew.heap.size ∧ w5.drew.cell? ⟨p, 6, none⟩ = some (.int .u64 (X : Int)) ∧ w5.drew.cell? ⟨p, 4, none⟩ = some (.int .i64 (m.have_ : Int))) := Lib.hid ⟨zB (w := w5.drew) hce5, zA (w := w5.drew) hce5 6, zA (w := w5.drew) hce5 4⟩;(have HCL : Hid (∀ W, Below w5.drew.heap.size w5.drew W → Calls Tryz.prog 48 #[.slice A n c] W fun e w' => ∃ A' c', e = .returned (.slice A' n c') ∧ Byt w' (W.heap.size ≤ ·) A' n c' b ∧ Below W.heap.size W w' ∧ (A' = none ↔ A = none) ∧ xO w' A') := Lib.hid fun W hb => clone_byt (((HBY.out.turned ht5 HU.out).drew).below hb) (by have := HN.out; omega));obtain ⟨Y, hY⟩ := sqz (X - 1);(have hsub : IntKind.u64.wrap ((X : Int) - 1) = (Y : Int) := by rw [hY]; exact u64_sub1 X (by have := HB.out.one; have := HG.out.2; omega) (by have := HB.out.run.worn; have := HG.out.2; omega));have HSUB := Lib.hid hsub;have HY := Lib.hid hY;clear hsub hY;have hs2 := IntWalk.i64_in ((m.have_ : Int) + (j : Int)) (by have h2 := HB.out.ok.n; have h3 := HB.out.ok.have_; have h5 := HB.out.big; omega);have H5 := sq3 hL5.drew hd5.drew ht5.drew;clear hce5 hL5 hd5 ht5;refine (wpIn_wide (n := 3)).1 ?_;refine wpIn_region_growL (Grow.open_wide _ _) (fun W W' => Below W.heap.size W W') (Grow.nth [sqv (.pointer (some ⟨p, 0, none⟩)), sqv (.slice A n c), fun v W => ∃ A c', v = .slice A n c' ∧ Byt W (fun k => w.heap.size ≤ k) A n c' b, sqv (.pointer (some ⟨p, 0, none⟩)), sqv (.pointer (some ⟨p, 0, none⟩)), sqv (.pointer (some ⟨p, 6, none⟩)), sqv (.int .u64 (X : Int)), sqv (.int .u64 (Y : Int)), sqv (.pointer (some ⟨p, 0, none⟩)), sqv (.pointer (some ⟨p, 0, none⟩)), sqv (.pointer (some ⟨p, 4, none⟩)), sqv (.int .i64 (m.have_ : Int)), sqv (.slice (some ⟨gq, 0, none⟩) j j), sqv (.int .i64 (j : Int)), sqv (.int .i64 ((m.have_ : Int) + (j : Int)))]) 98 (by kernel_rfl) (by kernel_rfl) (by kernel_rfl) (by kernel_rfl) (by rfl) (fun W => Below.refl _ W) (fun _ _ _ h1 h2 => h1.trans (h2.mono h1.size)) (Grow.mono_nth ?gmono) 15 (by rfl) (by rfl) (by rfl) ?gsteps ?gfin
   case gmono => exact ⟨sqm, sqm, fun _ _ _ ⟨A, c, h1, h2⟩ hg => ⟨A, c, h1, h2.below hg⟩, sqm, sqm, sqm, sqm, sqm, sqm, sqm, sqm, sqm, sqm, sqm, sqm, trivial⟩
   case gsteps =>
    show Grow.allBelow _ 15
    iterate 15 refine And.intro ?_ ?_
    exact trivial
    ·exact squ 0
    ·exact squ 1
    ·refine sqi ?_;intro E W ec eg ef hG hd hu R HR;have e83 := sqe (hd 1 83);clear hd hu;go_simp;refine (HCL.out W hG).mono ?_;rintro _ w' ⟨A6, c6, rfl, hy6, hb6, _, _⟩;exact ⟨_, rfl, HR.out _ _ hb6 ⟨A6, c6, rfl, hy6.mono fun k _ hk => by have := H5.out.2.2.size; have := hG.size; omega⟩⟩
    ·refine sqi ?_;intro E W ec eg ef hG hd hu R HR;have e0 : E (.tmp 0) = .pointer (some ⟨p, 0, none⟩) := hu 0;clear hd hu;go_simp;exact sqh HR
    ·refine sqi ?_;intro E W ec eg ef hG hd hu R HR;have e85 : E (.tmp 85) = .pointer (some ⟨p, 0, none⟩) := hd 3 85;clear hd hu;go_simp;exact sqh HR
    ·refine sqi ?_;intro E W ec eg ef hG hd hu R HR;have e86 := sqe (hd 4 86);clear hd hu;go_simp;exact sqh HR
    ·refine sqi ?_;intro E W ec eg ef hG hd hu R HR;have e87 := sqe (hd 5 87);clear hd hu;have hcl := (hG.cell (p := ⟨p, 6, none⟩) HCP.out.1).trans HCP.out.2.1;go_simp;exact sqh HR
    ·refine sqi ?_;intro E W ec eg ef hG hd hu R HR;have e88 := sqe (hd 6 88);clear hd hu;have hs1 := HSUB.out;go_simp;exact sqh HR
    ·refine sqi ?_;intro E W ec eg ef hG hd hu R HR;have e0 : E (.tmp 0) = .pointer (some ⟨p, 0, none⟩) := hu 0;clear hd hu;go_simp;exact sqh HR
    ·refine sqi ?_;intro E W ec eg ef hG hd hu R HR;have e90 := sqe (hd 8 90);clear hd hu;go_simp;exact sqh HR
    ·refine sqi ?_;intro E W ec eg ef hG hd hu R HR;have e91 := sqe (hd 9 91);clear hd hu;go_simp;exact sqh HR
    ·refine sqi ?_;intro E W ec eg ef hG hd hu R HR;have e92 := sqe (hd 10 92);clear hd hu;have hcl := (hG.cell (p := ⟨p, 4, none⟩) HCP.out.1).trans HCP.out.2.2;go_simp;exact sqh HR
    ·refine sqi ?_;intro E W ec eg ef hG hd hu R HR;have e6 : E (.tmp 6) = .slice (some ⟨gq, 0, none⟩) j j := hu 6;clear hd hu;go_simp;exact sqh HR
    ·refine sqi ?_;intro E W ec eg ef hG hd hu R HR;have e94 := sqe (hd 12 94);clear hd hu;go_simp;exact sqh HR
    ·refine sqi ?_;intro E W ec eg ef hG hd hu R HR;have e93 := sqe (hd 11 93);have e95 := sqe (hd 13 95);clear hd hu;go_simp;exact sqh HR
   case gfin =>
    intro W hG
    iterate 2 (refine Grow.fin_dst (by rfl) ?_; rintro _ rfl)
    refine Grow.fin_dst (by rfl) ?_;rintro _ ⟨A6, c6, rfl, hy6⟩
    iterate 12 (refine Grow.fin_dst (by rfl) ?_; rintro _ rfl)
    simp only [Act.put, sqp];refine Grow.fin_end ?_;have HF0 := Lib.hid (H5.out.1.below hG);have hkp := wkeep_any HF0.out (by have h1 := HB.out.ok.few; have h2 := HB.out.ok.n; have h3 := HB.out.ok.have_; show m.l.length ≤ 65536; omega) hy6 (fun k hk h1 h2 => by have := HB.out.tm k h2; omega) (by have := HB.out.blen; omega) Y (m.have_ + j) (by have := HB.out.run.worn; have := HG.out.2; have := HY.out; omega) (by have := HB.out.one; omega) (by have h2 := HB.out.ok.n; have h4 := HB.out.run.room; omega) (fun hl => by have h1 := HB.out.zer hl; have h2 := HB.out.run.next; have h3 := HG.out.2; have h4 := HY.out; omega)
    have hkm : keepM { m with next := X } b Y (m.have_ + j) = addOk m b := by
     rw [HY.out, HG.out.2];exact addOk_keep HB.out.num HB.out.run HB.out.ok HB.out.zer HB.out.one
    rw [hkm, show ((m.have_ + j : Nat) : Int) = (m.have_ : Int) + (j : Int) by omega] at hkp;have HFG := Lib.hid hG;have HKP := Lib.hid hkp;clear hkp hy6 hG hkm
    gi_wp2_with (refine ⟨trivial, ?_⟩; gi_at_call 94; refine (callsIn_wide.2 HKP.out).mono ?_; rintro _ w7 ⟨rfl, hL7, ht7⟩)
    have HF : Hid (AddP w S T p g d m b (.returned (.int .i64 0)) w7) := Lib.hid (by
     unfold AddP;rw [addM_run HB.out.num HB.out.run, HG.out.1, if_pos rfl];have hsz := H5.out.2.2.size;refine ⟨rfl, (H5.out.2.1.below HFG.out).turned ht7 fun k _ h1 h2 => HB.out.dis k h1 h2, hL7.mono fun k _ h => ?_, (H5.out.2.2.trans (Turned.of_below (S := fun k => S k ∨ T k) HFG.out) fun _ _ h => h).trans ht7 fun _ _ h => .inr h⟩;rcases h with h | h | h
     ·exact .inl h
     ·exact .inr h
     ·exact .inr (by have := HFG.out.size; omega))
    clear hL7 ht7
    go_wp2_with fail
    go_ret
    exact HF.out
theorem wadd_any {w : World} {S T U : Nat → Prop} {p g : Nat} {m : LM} {d : DM} (h : Lg w T p g m) (hd : Dk w S g d) (hST : ∀ k, k < w.heap.size → S k → ¬ T k) (ok : m.Ok) {A : Option Addr} {n c : Nat} {b : List UInt8} (hb : Byt w U A n c b) (hU : ∀ k, k < w.heap.size → U k → ¬ S k ∧ ¬ T k) (hn : n ≤ 1000000) :
    Calls Tryz.prog 67 #[.pointer (some ⟨p, 0, none⟩), .slice A n c] w fun e w' => e = .returned (.int .i64 (yJ d m b).2.2) ∧ Dk w' S g (yJ d m b).1 ∧ Lg w' (fun k => T k ∨ w.heap.size ≤ k) p g (yJ d m b).2.1 ∧ Turned (fun k => S k ∨ T k) w w' := by
 have h' : Lg w (fun k => T k ∧ k < w.heap.size) p g m := h.mono fun k hk ht => ⟨ht, hk⟩
 have hd' : Dk w (fun k => S k ∧ k < w.heap.size) g d := hd.mono fun k hk hs => ⟨hs, hk⟩
 have key : Calls Tryz.prog 67 #[.pointer (some ⟨p, 0, none⟩), .slice A n c] w fun e w' => AddP w (fun k => S k ∧ k < w.heap.size) (fun k => T k ∧ k < w.heap.size) p g d m b e w' := by
  by_cases hr : refE m (zP n) = 0
  ·by_cases h0 : n = 0
   ·exact wadd_none h' hd' (fun _ h => h.2) (fun _ h => h.2) (fun k h1 h2 => hST k h1.2 h1.1 h2.1) ok hb (fun k hk hu => ⟨fun hs => (hU k hk hu).1 hs.1, fun ht => (hU k hk hu).2 ht.1⟩) hn hr h0
   ·exact wadd_full h' hd' (fun _ h => h.2) (fun _ h => h.2) (fun k h1 h2 => hST k h1.2 h1.1 h2.1) ok hb (fun k hk hu => ⟨fun hs => (hU k hk hu).1 hs.1, fun ht => (hU k hk hu).2 ht.1⟩) hn hr (by omega)
  ·exact wadd_no h' hd' ok hb hn hr
 refine key.mono ?_;rintro e w' ⟨h1, h2, h3, h4⟩;exact ⟨h1, h2.mono fun _ _ h => h.1, h3.mono fun k _ h => h.elim (fun h => .inl h.1) .inr, h4.mono fun k _ h => h.elim (fun h => .inl h.1) (fun h => .inr h.1)⟩
end Go.Proofs.YtmioifcbkhpdaaaGreat
/-! The code's log, all of it: what Open, Begin, Add and the rest do (WalLg, WalKeep, WalWhole, WalOpen, WalAdd). -/
namespace Go.Proofs.YtmioifcbkhpdaaaGreat
theorem wopen_any {w : World} {S : Nat → Prop} {g : Nat} {d : DM} (hd : Dk w S g d) (from_ n : Int) (hf : -9223372036854775808 ≤ from_ ∧ from_ ≤ 9223372036854775807) (_hn : -9223372036854775808 ≤ n ∧ n ≤ 9223372036854775807) :
    Calls Tryz.prog 51 #[.pointer (some ⟨g, 0, none⟩), .int .i64 from_, .int .i64 n] w fun e w' => MadeL w g (yd (zW d.l from_ n) from_ n) (zo d.l.length d.down from_ n) e w' := wopen_all hd from_ n hf
theorem wbegin_any {w : World} {S : Nat → Prop} {g : Nat} {d : DM} (hd : Dk w S g d) (from_ n : Int) (hf : -9223372036854775808 ≤ from_ ∧ from_ ≤ 9223372036854775807) (_hn : -9223372036854775808 ≤ n ∧ n ≤ 9223372036854775807) (least : Nat) (_hl : least < 18446744073709551616) :
    Calls Tryz.prog 55 #[.pointer (some ⟨g, 0, none⟩), .int .i64 from_, .int .i64 n, .int .u64 (least : Int)] w fun e w' => MadeL w g (zj (yd (zW d.l from_ n) from_ n) from_ n least) (zo d.l.length d.down from_ n) e w' := wbegin_all hd from_ n hf least
end Go.Proofs.YtmioifcbkhpdaaaGreat
