/-
  The code's bag in memory: the box, the row of messages, and each message's bytes in a block of its own.
-/
import Derived.Test.YtogfblfekedefaaBagPure
import Derived.Test.YtogfblfekedefaaClone
namespace Go.Proofs.Ytogfblfekedefaa
open Go.RowKit

/-- A message as it lies: the message, its slice, the block of its bytes. -/
structure Am where
  m : Bm
  A : Option Addr
  n : Nat
  c : Nat
  q : Nat
def amC (x : Am) : List Value := [.int .i64 x.m.f, .int .i64 x.m.t, .slice x.A x.n x.c, .int .i64 (x.m.a : Int)]
theorem amC_len (x : Am) : (amC x).length = 4 := rfl
theorem amC_one (x : Am) : ∀ u ∈ amC x, u.oneCell' = true := by
  intro u hu
  simp [amC] at hu
  rcases hu with rfl | rfl | rfl | rfl <;> rfl
/-- A message in memory. -/
def mgV (f t : Int) (A : Option Addr) (n c : Nat) : Array Value := #[.int .i64 f, .int .i64 t, .slice A n c]
theorem mg_info (f t : Int) (A : Option Addr) (n c : Nat) : (Try.prog.info? 31).map (·.size) = some (mgV f t A n c).size := by
  have h : (Try.prog.info? 31).map (·.size) = some 3 := by kernel_rfl
  exact h
theorem mg_one (f t : Int) (A : Option Addr) (n c : Nat) : (mgV f t A n c).all (·.oneCell') = true := by simp [mgV, Value.oneCell']
theorem zero_mg : ∀ W, (zeroValue 31).run Try.prog W = .ok (.agg (mgV 0 0 none 0 0)) W := fun W => by kernel_rfl
/-- A message under way, as cells. -/
def agV (f t : Int) (A : Option Addr) (n c : Nat) (a : Nat) : Array Value := #[.int .i64 f, .int .i64 t, .slice A n c, .int .i64 (a : Int)]
theorem ag_info (f t : Int) (A : Option Addr) (n c a : Nat) : (Try.prog.info? 60).map (·.size) = some (agV f t A n c a).size := by
  have h : (Try.prog.info? 60).map (·.size) = some 4 := by kernel_rfl
  exact h
theorem ag_one (f t : Int) (A : Option Addr) (n c a : Nat) : (agV f t A n c a).all (·.oneCell') = true := by simp [agV, Value.oneCell']
theorem zero_ag : ∀ W, (zeroValue 60).run Try.prog W = .ok (.agg (agV 0 0 none 0 0 0)) W := fun W => by kernel_rfl
theorem ag_info3 : (Try.prog.info? 60).map (fun i => (i.zero, i.size, i.bytes)) = some (some (.agg (agV 0 0 none 0 0 0)), 4, 48) := by kernel_rfl
theorem ag_sizeOf (w : World) : (Go.sizeOf 60).run Try.prog w = .ok 4 w := by
  obtain ⟨i0, hi, _, hz1, _⟩ := info_parts ag_info3
  simp [Go.sizeOf, typeInfo, hi, hz1, Sem.run_bind]

/-- THE ROW OF MESSAGES STANDS IN MEMORY, beside the box p, in blocks of S. -/
structure Ams (w : World) (S : Nat → Prop) (p : Nat) (v : Value) (xs : List Am) : Prop where
  own : w.ownsRow 0 60 4 v xs.length (rosL amC xs)
  ob : ∀ g, v.ownBlock = some g → S g ∧ g ≠ p
  byt : ∀ x ∈ xs, Byt w (fun k => k = x.q ∧ S k ∧ k ≠ p ∧ v.ownBlock ≠ some k) x.A x.n x.c x.m.b
  apart : xs.Pairwise fun x y => 0 < x.n → 0 < y.n → x.q ≠ y.q
def bgV (N : Nat) (v : Value) : Array Value := #[.int .i64 (N : Int), v]
/-- THE BAG STANDS IN MEMORY: at p, in blocks of S, among N nodes, with l in it. -/
def Bgs (w : World) (S : Nat → Prop) (p N : Nat) (l : List Bm) : Prop :=
  ∃ v xs, l = xs.map Am.m ∧ S p ∧ w.heap[p]? = some (.cells (bgV N v) 57 (0, 0)) ∧ Ams w S p v xs ∧ (0 < N ∧ N ≤ 64 ∧ l.length ≤ 256 ∧ ∀ m ∈ l, bmay N m ∧ m.b.length ≤ 2097152)
section
variable {w w' : World} {S T U : Nat → Prop} {p N : Nat} {v : Value} {xs : List Am} {l : List Bm}
theorem Ams.turned (h : Ams w S p v xs) (ht : Turned T w w') (hd : ∀ k, k < w.heap.size → S k → k ≠ p → ¬ T k) : Ams w' S p v xs :=
  ⟨row_keep h.own fun q hq => ht.block q (h.own.lt q hq).2 (hd q (h.own.lt q hq).2 (h.ob q hq).1 (h.ob q hq).2), h.ob,
    fun x hx => (h.byt x hx).turned ht fun b hb hs => hd b hb hs.2.1 hs.2.2.1, h.apart⟩
theorem Ams.mono (h : Ams w S p v xs) (hT : ∀ k, k < w.heap.size → S k → T k) : Ams w T p v xs :=
  ⟨h.own, fun g hg => ⟨hT g (h.own.lt g hg).2 (h.ob g hg).1, (h.ob g hg).2⟩, fun x hx => (h.byt x hx).mono fun b hb hs => ⟨hs.1, hT b hb hs.2.1, hs.2.2⟩, h.apart⟩
theorem Bgs.turned (h : Bgs w S p N l) (ht : Turned T w w') (hd : ∀ k, k < w.heap.size → S k → ¬ T k) : Bgs w' S p N l := by
  obtain ⟨v, xs, h1, h2, h3, h4, h5⟩ := h
  exact ⟨v, xs, h1, h2, (ht.block _ (lt_of_cells h3) (hd _ (lt_of_cells h3) h2)).trans h3, h4.turned ht fun k hk hs _ => hd k hk hs, h5⟩
theorem Bgs.below (h : Bgs w S p N l) (hb : Below w.heap.size w w') : Bgs w' S p N l := h.turned (T := fun _ => False) (Turned.of_below hb) fun _ _ _ h => h
theorem Bgs.mono (h : Bgs w S p N l) (hT : ∀ k, k < w.heap.size → S k → T k) : Bgs w T p N l := by
  obtain ⟨v, xs, h1, h2, h3, h4, h5⟩ := h
  exact ⟨v, xs, h1, hT _ (lt_of_cells h3) h2, h3, h4.mono hT, h5⟩
theorem Bgs.few (h : Bgs w S p N l) : l.length ≤ 256 := by
  obtain ⟨_, _, _, _, _, _, h⟩ := h
  exact h.2.2.1
theorem Bgs.may (h : Bgs w S p N l) : ∀ m ∈ l, bmay N m ∧ m.b.length ≤ 2097152 := by
  obtain ⟨_, _, _, _, _, _, h⟩ := h
  exact h.2.2.2
theorem Ams.slice (h : Ams w S p v xs) : ∃ A c, v = .slice A xs.length c ∧ xs.length ≤ c ∧ c ≤ maxLen := by
  rcases h.own.2 with ⟨rfl, h2⟩ | ⟨g, cap, cur, rfl, _, _, hn, hm, _⟩
  · exact ⟨none, 0, by rw [h2], by omega, Nat.zero_le _⟩
  · exact ⟨_, cap, rfl, hn, hm⟩
theorem Ams.nil (w : World) (S : Nat → Prop) (p : Nat) : Ams w S p (.slice none 0 0) [] :=
  ⟨World.ownsRow_nil _ _ _ _, fun g h => by simp [Value.ownBlock] at h, fun x hx => by simp at hx, List.Pairwise.nil⟩
/-- The i-th message's cells. -/
theorem Ams.at_ (h : Ams w S p v xs) {i : Nat} {x : Am} (hx : xs[i]? = some x) : ∃ g c, v = .slice (some ⟨g, 0, none⟩) xs.length c ∧ xs.length ≤ c ∧ g < w.heap.size ∧ S g ∧ g ≠ p ∧ (∃ cs, w.heap[g]? = some (.cells cs 60 (0, 0)) ∧ cs.size = c * 4 ∧ cs.toList.take (xs.length * 4) = rosL amC xs) ∧ ∀ (j : Nat) (u : Value), (amC x)[j]? = some u → w.cell? ⟨g, i * 4 + j, none⟩ = some u := by
  have hi := (List.getElem?_eq_some_iff.1 hx).1
  obtain ⟨A, c, rfl, _, _⟩ := h.slice
  obtain ⟨g, rfl, _, hg, hcs, hc, _, hr⟩ := row_cells h.own (by omega)
  obtain ⟨h1, h2⟩ := h.ob g rfl
  exact ⟨g, c, rfl, hc, hg, h1, h2, hcs, fun j u hu => hr _ _ (rosL_at amC_len xs hx hu)⟩
end
end Go.Proofs.Ytogfblfekedefaa
