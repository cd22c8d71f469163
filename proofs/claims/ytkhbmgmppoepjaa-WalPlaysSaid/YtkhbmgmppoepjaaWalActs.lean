/-
  The things that are done with a log, as they come in; the law's state (WalPlays).
-/
import Derived.Test.YtkhbmgmppoepjaaWalTl
import Derived.Test.YtkhbmgmppoepjaaWalSame
import Derived.Test.YtkhbmgmppoepjaaWalLike
import Derived.Test.YtkhbmgmppoepjaaWalRefBegin
namespace Go.Proofs.Ytkhbmgmppoepjaa
open Go.RowKit

structure WAct where
  kd : Int
  i : Int
  A : Option Addr
  n : Nat
  c : Nat
  b : List UInt8
  nn : Int
  tn : Int
def wactV (a : WAct) : Array Value := #[.int .i64 a.kd, .int .i64 a.i, .slice a.A a.n a.c, .int .i64 a.nn, .int .i64 a.tn]
structure WActs (w : World) (A : Option Addr) (n c : Nat) (l : List WAct) : Prop where
  len : l.length = n
  cap : n ≤ c
  max : c ≤ maxLen
  row : 0 < n → ∃ b off, A = some ⟨b, off, none⟩ ∧ b < w.heap.size ∧ ∀ (i : Nat) (a : WAct), l[i]? = some a → ∀ (j : Nat) (v : Value), (wactV a)[j]? = some v → w.cell? ⟨b, off + i * 5 + j, none⟩ = some v
  bnd : ∀ a ∈ l, Byt w (· < w.heap.size) a.A a.n a.c a.b ∧ (-9223372036854775808 ≤ a.nn ∧ a.nn ≤ 9223372036854775807)
theorem wact_info : (Try.prog.info? 43).map (·.size) = some 5 := by kernel_rfl
theorem zero_wact : ∀ W, (zeroValue 43).run Try.prog W = .ok (.agg #[.int .i64 0, .int .i64 0, .slice none 0 0, .int .i64 0, .int .i64 0]) W := fun W => by kernel_rfl
theorem wact_one (a : WAct) : (wactV a).all (·.oneCell') = true := by simp [wactV, Value.oneCell']

/-- The value of a log that may be none. -/
def lgV : Option Nat → Value
  | some p => .pointer (some ⟨p, 0, none⟩)
  | none => .pointer none
/-- The code's disk and log, and the reference's, in the boxes pw and pm; R: the reference's blocks. -/
structure PW (w0 : World) (m : Nat) (W : World) (g pw pm : Nat) (d : DM) (po : Option Nat) (M : LM) (R : Nat → Prop) : Prop where
  dsk : Dsk w0 m W g d
  lg : ∀ p, po = some p → Lg W (fun k => m ≤ k ∧ ¬ R k) p g M ∧ M.Ok
  rb : ∀ k, R k → m ≤ k ∧ k < W.heap.size
  bw : R pw
  bm : R pm
  ne : pw ≠ pm
  box : ∃ A n c, W.heap[pw]? = some (.cells (dmV d A n c) 31 (0, 0)) ∧ Strs W (fun k => R k ∧ k ≠ pw ∧ k ≠ pm) A n c d.l
  mox : ∃ A n c, W.heap[pm]? = some (.cells (lmV M A n c) 38 (0, 0)) ∧ Strs W (fun k => R k ∧ k ≠ pw ∧ k ≠ pm) A n c M.l
section
variable {w0 W W' : World} {m g pw pm p : Nat} {d d' : DM} {po : Option Nat} {M M' : LM} {R : Nat → Prop}
theorem PW.below (h : PW w0 m W g pw pm d po M R) (hb : Below W.heap.size W W') : PW w0 m W' g pw pm d po M R := by
  obtain ⟨A, n, c, h1, h2⟩ := h.box
  obtain ⟨A', n', c', h3, h4⟩ := h.mox
  exact ⟨h.dsk.below hb, fun p hp => ⟨(h.lg p hp).1.below hb, (h.lg p hp).2⟩, fun k hk => ⟨(h.rb k hk).1, Nat.lt_of_lt_of_le (h.rb k hk).2 hb.size⟩, h.bw, h.bm, h.ne,
    ⟨A, n, c, (hb.block _ (lt_of_cells h1)).trans h1, h2.below hb⟩, ⟨A', n', c', (hb.block _ (lt_of_cells h3)).trans h3, h4.below hb⟩⟩
/-- The reference's side alone. -/
structure PR (m : Nat) (W : World) (pw pm : Nat) (d : DM) (M : LM) (R : Nat → Prop) : Prop where
  rb : ∀ k, R k → m ≤ k ∧ k < W.heap.size
  bw : R pw
  bm : R pm
  ne : pw ≠ pm
  box : ∃ A n c, W.heap[pw]? = some (.cells (dmV d A n c) 31 (0, 0)) ∧ Strs W (fun k => R k ∧ k ≠ pw ∧ k ≠ pm) A n c d.l
  mox : ∃ A n c, W.heap[pm]? = some (.cells (lmV M A n c) 38 (0, 0)) ∧ Strs W (fun k => R k ∧ k ≠ pw ∧ k ≠ pm) A n c M.l
theorem PW.pr (h : PW w0 m W g pw pm d po M R) : PR m W pw pm d M R := ⟨h.rb, h.bw, h.bm, h.ne, h.box, h.mox⟩
theorem PR.below (h : PR m W pw pm d M R) (hb : Below W.heap.size W W') : PR m W' pw pm d M R := by
  obtain ⟨A, n, c, h1, h2⟩ := h.box
  obtain ⟨A', n', c', h3, h4⟩ := h.mox
  exact ⟨fun k hk => ⟨(h.rb k hk).1, Nat.lt_of_lt_of_le (h.rb k hk).2 hb.size⟩, h.bw, h.bm, h.ne,
    ⟨A, n, c, (hb.block _ (lt_of_cells h1)).trans h1, h2.below hb⟩, ⟨A', n', c', (hb.block _ (lt_of_cells h3)).trans h3, h4.below hb⟩⟩
/-- What the code does leaves the reference's. -/
theorem PR.turned {T : Nat → Prop} (h : PR m W pw pm d M R) (ht : Turned T W W') (hT : ∀ k, T k → ¬ R k) : PR m W' pw pm d M R := by
  obtain ⟨A, n, c, h1, h2⟩ := h.box
  obtain ⟨A', n', c', h3, h4⟩ := h.mox
  exact ⟨fun k hk => ⟨(h.rb k hk).1, Nat.lt_of_lt_of_le (h.rb k hk).2 ht.size⟩, h.bw, h.bm, h.ne,
    ⟨A, n, c, (ht.block _ (lt_of_cells h1) fun hk => hT _ hk h.bw).trans h1, h2.turned ht fun k _ hk h5 => hT k h5 hk.1⟩, ⟨A', n', c', (ht.block _ (lt_of_cells h3) fun hk => hT _ hk h.bm).trans h3, h4.turned ht fun k _ hk h5 => hT k h5 hk.1⟩⟩
/-- New rows of the reference's. -/
def moreR (W W' : World) (R : Nat → Prop) (k : Nat) : Prop := R k ∨ (W.heap.size ≤ k ∧ k < W'.heap.size)
theorem PR.more (h : PR m W pw pm d M R) (hb : Below W.heap.size W W') (hm : m ≤ W.heap.size) : PR m W' pw pm d M (moreR W W' R) := by
  have h' := h.below hb
  obtain ⟨A, n, c, h1, h2⟩ := h'.box
  obtain ⟨A', n', c', h3, h4⟩ := h'.mox
  refine ⟨fun k hk => ?_, .inl h.bw, .inl h.bm, h.ne, ⟨A, n, c, h1, h2.mono fun k _ hk => ⟨.inl hk.1, hk.2⟩⟩, ⟨A', n', c', h3, h4.mono fun k _ hk => ⟨.inl hk.1, hk.2⟩⟩⟩
  rcases hk with hk | hk
  · exact h'.rb k hk
  · omega
/-- The disk's box is written. -/
theorem PR.disk (h : PR m W pw pm d M R) {A : Option Addr} {n c : Nat} (hs : Strs W (fun k => R k ∧ k ≠ pw ∧ k ≠ pm) A n c d'.l) : PR m (W.setRow pw (dmV d' A n c)) pw pm d' M R := by
  obtain ⟨A1, n1, c1, h1, _⟩ := h.box
  obtain ⟨A2, n2, c2, h3, h4⟩ := h.mox
  exact ⟨fun k hk => by have := h.rb k hk; simpa [World.setRow] using this, h.bw, h.bm, h.ne, ⟨A, n, c, setRow_at h1, hs.turned (turned_setRow (w := W) (g := pw) _) fun k _ hk h5 => hk.2.1 h5⟩,
    ⟨A2, n2, c2, (setRow_ne _ _ _ _ h.ne.symm).trans h3, h4.turned (turned_setRow (w := W) (g := pw) _) fun k _ hk h5 => hk.2.1 h5⟩⟩
/-- The log's box is written. -/
theorem PR.log (h : PR m W pw pm d M R) {A : Option Addr} {n c : Nat} (hs : Strs W (fun k => R k ∧ k ≠ pw ∧ k ≠ pm) A n c M'.l) : PR m (W.setRow pm (lmV M' A n c)) pw pm d M' R := by
  obtain ⟨A1, n1, c1, h1, h2⟩ := h.box
  obtain ⟨A2, n2, c2, h3, _⟩ := h.mox
  exact ⟨fun k hk => by have := h.rb k hk; simpa [World.setRow] using this, h.bw, h.bm, h.ne, ⟨A1, n1, c1, (setRow_ne _ _ _ _ h.ne).trans h1, h2.turned (turned_setRow (w := W) (g := pm) _) fun k _ hk h5 => hk.2.2 h5⟩,
    ⟨A, n, c, setRow_at h3, hs.turned (turned_setRow (w := W) (g := pm) _) fun k _ hk h5 => hk.2.2 h5⟩⟩
/-- Both boxes are written. -/
theorem PR.two (h : PR m W pw pm d M R) {A A2 : Option Addr} {n c n2 c2 : Nat} (hs : Strs W (fun k => R k ∧ k ≠ pw ∧ k ≠ pm) A n c d'.l) (hs2 : Strs W (fun k => R k ∧ k ≠ pw ∧ k ≠ pm) A2 n2 c2 M'.l) : PR m ((W.setRow pw (dmV d' A n c)).setRow pm (lmV M' A2 n2 c2)) pw pm d' M' R :=
  (h.disk hs).log (hs2.turned (turned_setRow (w := W) (g := pw) _) fun _ _ hk h5 => hk.2.1 h5)
/-- The code's side alone. -/
structure PC (w0 : World) (m : Nat) (W : World) (g : Nat) (d : DM) (po : Option Nat) (M : LM) (R : Nat → Prop) : Prop where
  dsk : Dsk w0 m W g d
  lg : ∀ p, po = some p → Lg W (fun k => m ≤ k ∧ ¬ R k) p g M ∧ M.Ok
theorem PW.pc (h : PW w0 m W g pw pm d po M R) : PC w0 m W g d po M R := ⟨h.dsk, h.lg⟩
theorem PC.both (h : PC w0 m W g d po M R) (k : PR m W pw pm d M R) : PW w0 m W g pw pm d po M R := ⟨h.dsk, h.lg, k.rb, k.bw, k.bm, k.ne, k.box, k.mox⟩
theorem PC.below (h : PC w0 m W g d po M R) (hb : Below W.heap.size W W') : PC w0 m W' g d po M R := ⟨h.dsk.below hb, fun p hp => ⟨(h.lg p hp).1.below hb, (h.lg p hp).2⟩⟩
theorem PC.more (h : PC w0 m W g d po M R) (hb : Below W.heap.size W W') : PC w0 m W' g d po M (moreR W W' R) :=
  ⟨h.dsk.below hb, fun p hp => ⟨((h.lg p hp).1.mono (T := fun k => m ≤ k ∧ ¬ moreR W W' R k) fun k hk h1 => ⟨h1.1, fun h2 => by
    rcases h2 with h2 | h2
    · exact h1.2 h2
    · omega⟩).below hb, (h.lg p hp).2⟩⟩
theorem PW.more (h : PW w0 m W g pw pm d po M R) (hb : Below W.heap.size W W') (hm : m ≤ W.heap.size) : PW w0 m W' g pw pm d po M (moreR W W' R) := (h.pc.more hb).both (h.pr.more hb hm)
theorem PC.row (h : PC w0 m W g d po M R) {p : Nat} (hp : R p) (hm : m ≤ p) (cs : Array Value) : PC w0 m (W.setRow p cs) g d po M R :=
  ⟨h.dsk.turned (turned_setRow (w := W) (g := p) cs) fun k hk => by rw [hk]; exact hm, fun q hq => ⟨(h.lg q hq).1.turned (turned_setRow (w := W) (g := p) cs) fun k _ h1 h2 => h1.2 (by rw [show k = p from h2]; exact hp), (h.lg q hq).2⟩⟩
theorem PC.add (h : PC w0 m W g d (some p) M R) (hr : ∀ k, R k → m ≤ k ∧ k < W.heap.size) {A : Option Addr} {n c : Nat} {b : List UInt8} (hb : Byt W (· < w0.heap.size) A n c b) (hn : n ≤ 1000000) :
    Calls Try.prog 14 #[.pointer (some ⟨p, 0, none⟩), .slice A n c] W fun e w' => e = .returned (.int .i64 (addM d M b).2.2) ∧ PC w0 m w' g (addM d M b).1 (some p) (addM d M b).2.1 R ∧ Turned (fun k => (w0.heap.size ≤ k ∧ k < m) ∨ (m ≤ k ∧ ¬ R k)) W w' := by
  have hle := h.dsk.le
  refine (h.dsk.add (h.lg p rfl).1 (fun k hk => hk.1) (h.lg p rfl).2 hb (fun k hk => ⟨fun h1 => by omega, .inl hk⟩) hn).mono ?_
  rintro _ w' ⟨rfl, h2, h3, h4⟩
  refine ⟨rfl, ⟨h2, fun q hq => ?_⟩, h4⟩
  injection hq with hq
  subst hq
  refine ⟨h3.mono fun k _ hk => ?_, addM_lok (h.lg p rfl).2⟩
  rcases hk with hk | hk
  · exact hk
  · exact ⟨by have := h.dsk.top; omega, fun h5 => by have := (hr k h5).2; omega⟩
theorem PC.disk {d' : DM} (h : PC w0 m W g d po M R) (hd : Dsk w0 m W' g d') (ht : Turned (· < m) W W') : PC w0 m W' g d' po M R :=
  ⟨hd, fun p hp => ⟨(h.lg p hp).1.turned ht fun k _ h1 h2 => by omega, (h.lg p hp).2⟩⟩
theorem openErr_range (l : Nat) (b : Bool) (f n : Int) : openErr l b f n = 0 → 0 ≤ f ∧ 1 ≤ n ∧ f + n ≤ (l : Int) ∧ b = false := by
  unfold openErr
  split
  · intro h; exact absurd h (by decide)
  · split
    · intro h; exact absurd h (by decide)
    · intro _
      rename_i h1 h2 _
      exact ⟨by omega, by omega, by omega, by cases b with | true => exact absurd rfl h2 | false => rfl⟩
/-- A log that is made: the code's answer. -/
theorem PC.made (hd : Dsk w0 m W' g d) {M' : LM} (hM : M'.Ok) (hr : ∀ k, R k → m ≤ k ∧ k < W.heap.size) (ht : m ≤ W.heap.size) {p : Nat} (hl : Lg W' (W.heap.size ≤ ·) p g M') : PC w0 m W' g d (some p) M' R :=
  ⟨hd, fun q hq => by
    injection hq with hq
    subst hq
    exact ⟨hl.mono fun k _ hk => ⟨by omega, fun h => by have := (hr k h).2; omega⟩, hM⟩⟩
theorem PC.unmade (hd : Dsk w0 m W' g d) (M' : LM) : PC w0 m W' g d none M' R := ⟨hd, fun q hq => by cases hq⟩
end
section
variable {w0 W W' : World} {m g pw pm q : Nat} {d : DM} {po : Option Nat} {M : LM} {R R' : Nat → Prop}
theorem PC.setAt (h : PC w0 m W g d po M R) (hq : R q) (hm : m ≤ q) (o : Nat) (v : Value) : PC w0 m (W.setCell ⟨q, o, none⟩ v) g d po M R :=
  ⟨h.dsk.setAt hm o v, fun p hp => ⟨(h.lg p hp).1.turned (T := fun k => k = q) ((Turned.refl (fun k => k = q) W).set rfl o v) fun k _ h1 h2 => h1.2 (by rw [show k = q from h2]; exact hq), (h.lg p hp).2⟩⟩
theorem PR.setAt (h : PR m W pw pm d M R) (hq : ¬ R q) (o : Nat) (v : Value) : PR m (W.setCell ⟨q, o, none⟩ v) pw pm d M R :=
  h.turned ((Turned.refl (fun k => k = q) W).set rfl o v) fun k hk h2 => hq (by rw [← show k = q from hk]; exact h2)
theorem PR.wide (h : PR m W pw pm d M R) (hR : ∀ k, R k → R' k) (hb : ∀ k, R' k → m ≤ k ∧ k < W.heap.size) : PR m W pw pm d M R' := by
  obtain ⟨A, n, c, h1, h2⟩ := h.box
  obtain ⟨A', n', c', h3, h4⟩ := h.mox
  exact ⟨hb, hR _ h.bw, hR _ h.bm, h.ne, ⟨A, n, c, h1, h2.mono fun k _ hk => ⟨hR k hk.1, hk.2⟩⟩, ⟨A', n', c', h3, h4.mono fun k _ hk => ⟨hR k hk.1, hk.2⟩⟩⟩
/-- A block's bytes, and noughts behind them. -/
def fillL (b : List UInt8) (k : Nat) : List UInt8 := b.take k ++ List.replicate (128 - k) 0
theorem fillL_length {b : List UInt8} {k : Nat} (h : k ≤ b.length) (h2 : k ≤ 128) : (fillL b k).length = 128 := by
  simp [fillL]
  omega
theorem fillL_step {b : List UInt8} {k : Nat} (h : k < b.length) (h2 : k < 128) : (fillL b k).set k (b[k]?.getD 0) = fillL b (k + 1) := by
  unfold fillL
  have hk : (b.take k).length = k := by rw [List.length_take]; omega
  rw [List.set_append_right _ _ (by omega), hk, Nat.sub_self, show 128 - k = (128 - (k + 1)) + 1 by omega, List.replicate_succ, List.set_cons_zero, List.take_succ_eq_append_getElem h, List.getElem?_eq_getElem h, List.append_assoc]
  rfl
end
theorem scan_first {x : Nat} : ∀ (bs : List (List UInt8)) (i : Nat) (s : WS), s.first ≤ x → s.fst ≤ x → (∀ b ∈ bs, fL b ≤ x) → (scanW bs i s).first ≤ x
  | [], _, _, h, _, _ => h
  | b :: bs, i, s, h1, h2, hb => by
    have hr := Nat.le_trans readL_le (hb b (by simp))
    rw [scanW]
    split
    · exact h1
    · refine scan_first bs (i + 1) _ ?_ ?_ fun c hc => hb c (by simp [hc])
      · unfold nextW
        split
        · simp only
          split <;> omega
        · exact h1
      · unfold nextW
        split
        · simp only
          split <;> omega
        · simp only
          split <;> omega
theorem scan_few : ∀ (bs : List (List UInt8)) (i : Nat) (s : WS), s.recs.length ≤ s.have_ → s.have_ ≤ i → (scanW bs i s).recs.length ≤ (scanW bs i s).have_ ∧ (scanW bs i s).have_ ≤ i + bs.length
  | [], i, s, h1, h2 => ⟨h1, h2⟩
  | b :: bs, i, s, h1, h2 => by
    rw [scanW]
    split
    · rw [List.length_cons]; omega
    · have hs : (nextW i s (readL b).1 (readL b).2.1 (readL b).2.2).recs.length ≤ (nextW i s (readL b).1 (readL b).2.1 (readL b).2.2).have_ ∧ (nextW i s (readL b).1 (readL b).2.1 (readL b).2.2).have_ ≤ i + 1 := by
        unfold nextW
        split
        · simp only [List.length_append, List.length_singleton]
          omega
        · simp only
          omega
      have := scan_few bs (i + 1) _ hs.1 hs.2
      rw [List.length_cons]
      omega
/-- A log that is opened, or begun, may be: of any blocks. -/
theorem openM_ok {d : DM} {f n : Nat} (hf : f ≤ 65536) (h1 : 1 ≤ n) (hn : n ≤ 65536) (hl : f + n ≤ d.l.length) : (openM (blocksOf d.l (f : Int) (n : Int)) (f : Int) (n : Int)).Ok := by
  have h8 := fun b (hb : b ∈ blocksOf d.l (f : Int) (n : Int)) => val8 b
  have hfew := scan_few (blocksOf d.l (f : Int) (n : Int)) 0 ws0 (Nat.le_refl _) (Nat.le_refl _)
  rw [blocksOf_length hl] at hfew
  have hfs := scan_first (x := 18446744073709551615) (blocksOf d.l (f : Int) (n : Int)) 0 ws0 (Nat.zero_le _) (Nat.zero_le _) (fun b hb => by have := h8 b hb; unfold fL; omega)
  refine ⟨⟨?_, ?_⟩, ⟨?_, ?_⟩, ?_, ?_, ?_, ?_⟩ <;> unfold openM <;> simp only
  · omega
  · omega
  · omega
  · omega
  · omega
  · exact Nat.mod_lt _ (by omega)
  · omega
  · exact hfew.1
theorem beginM_ok {M : LM} (ok : M.Ok) {f n : Int} (hf : M.from_ = f) (hn : M.n = n) {least : Nat} (hl : least < 18446744073709551616) : (beginM M f n least).Ok := by
  have h1 := ok.next
  have h2 := ok.from_
  have h3 := ok.n
  refine ⟨by rw [← hf]; exact h2, by rw [← hn]; exact h3, ?_, ?_, ?_, ?_⟩ <;> unfold beginM <;> simp only
  · rw [← hn]; omega
  · split <;> omega
  · omega
  · simp
end Go.Proofs.Ytkhbmgmppoepjaa
