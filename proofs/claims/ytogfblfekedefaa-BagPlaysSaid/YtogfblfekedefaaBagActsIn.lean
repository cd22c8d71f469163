/-
  A slice of things that are done with a bag that came in (BagPlays' second parameter), opened.
-/
import Derived.Test.YtogfblfekedefaaFrame
import Derived.Test.YtogfblfekedefaaBagPure
import Derived.Deep.Strs
namespace Go.Proofs.Ytogfblfekedefaa
open Go.ChangeShapes Go.WideShapes Go.ChangeAt Go.RowKit Go.Deep

/-- A thing that is done: its kind, a message (from, to, its bytes' row, and they), a number. -/
structure BAct where
  kd : Int
  f : Int
  t : Int
  A : Option Addr
  n : Nat
  c : Nat
  b : List UInt8
  i : Int
def bactV (q : BAct) : List Value := [.int .i64 q.kd, .int .i64 q.f, .int .i64 q.t, .slice q.A q.n q.c, .int .i64 q.i]
theorem bact_info : (Try.prog.info? 33).map (·.size) = some 5 := by kernel_rfl
structure BActs (w : World) (A : Option Addr) (n c : Nat) (l : List BAct) : Prop where
  ros : Ros 5 bactV w (· < w.heap.size) A n c l
  each : ∀ q ∈ l, Byt w (· < w.heap.size) q.A q.n q.c q.b
theorem bag_struct3 {H : Type} {enc : TypeId × Value → H} {P : Program} {w : World} {base : Nat} {spare : Nat → Bool} {held : Bool} {t : TypeId} {f0 f1 f2 : Field} {fuel : Nat} {cs : List Value} {x : DataW H × List MemPlace} (ht : P.underlying t = some (.struct #[f0, f1, f2])) (h : DataW.trod enc P w base spare held fuel t cs = some x) :
    ∃ y0 y1 y2 n, DataW.trod enc P w base spare held n f0.type ((cs.drop f0.offset).take (P.cellsOf f0.type)) = some y0 ∧ DataW.trod enc P w base spare held n f1.type ((cs.drop f1.offset).take (P.cellsOf f1.type)) = some y1 ∧ DataW.trod enc P w base spare held n f2.type ((cs.drop f2.offset).take (P.cellsOf f2.type)) = some y2 := by
  obtain ⟨xs, n, _, rfl, _, hlen, hf⟩ := DataW.trod_struct ht h
  match xs, hlen with
  | [y0, y1, y2], _ => exact ⟨y0, y1, y2, n, by simpa using hf 0 f0 rfl, by simpa using hf 1 f1 rfl, by simpa using hf 2 f2 rfl⟩
set_option maxRecDepth 100000 in
theorem bag_acts_in {w : World} {H : Type} {enc : TypeId × Value → H} {base : Nat} {spare : Nat → Bool} {held : Bool} {a : Option Addr} {len cap : Nat} {d : DataW H} {p : List MemPlace}
    (hs : spare = fun _ => true) (h : DataW.Trod enc Try.prog w base spare held 22 (.slice a len cap) d p) : ∃ l, BActs w a len cap l := by
  subst hs
  obtain ⟨fuel, hf⟩ := h
  rcases open_slice Try.underlying22 hf with ⟨hcs, _⟩ | ⟨x, l, c, m, n, D, Pl, hcs, _, hl, hm, hmm, _, hi⟩
  · simp [Value.cells] at hcs
    obtain ⟨rfl, rfl, rfl⟩ := hcs
    exact ⟨[], Ros.nil _ _ _ _ (Nat.zero_le _), by simp⟩
  · simp [Value.cells] at hcs
    obtain ⟨rfl, rfl, rfl⟩ := hcs
    have hce : Try.prog.cellsOf 33 = 5 := by kernel_rfl
    have h3 : Try.prog.cellsOf 3 = 1 := by kernel_rfl
    have hm3 : Try.prog.cellsOf 31 = 3 := by kernel_rfl
    have h8 : Try.prog.cellsOf 29 = 1 := by kernel_rfl
    rw [hce] at hi
    simp only [if_true] at hmm
    have one : ∀ i, ∃ q : BAct, i < len → (∀ (j : Nat) (v : Value), (bactV q)[j]? = some v → w.cell? ((x.add (i * 5)).add j) = some v) ∧ Byt w (· < w.heap.size) q.A q.n q.c q.b := fun i => by
      by_cases him : i < len
      · obtain ⟨cs', hc, ht⟩ := hi i (by omega)
        obtain ⟨_, hcl, hat⟩ := World.cells?_some hc
        obtain ⟨y0, y1, y2, n', t0, t1, t2⟩ := bag_struct3 Try.underlying33 ht
        match cs', hcl with
        | [v0, v1, v2, v3, v4], _ =>
          simp only [h3, hm3] at t0 t1 t2
          obtain ⟨y3, y4, y5, n2, t3, t4, t5⟩ := bag_struct3 Try.underlying31 t1
          simp only [h3, h8] at t3 t4 t5
          obtain ⟨z0, e0, _, _⟩ := DataW.trod_int Try.underlying3 t0
          obtain ⟨z1, e1, _, _⟩ := DataW.trod_int Try.underlying3 t3
          obtain ⟨z2, e2, _, _⟩ := DataW.trod_int Try.underlying3 t4
          obtain ⟨z4, e4, _, _⟩ := DataW.trod_int Try.underlying3 t2
          simp at e0 e1 e2 e4 t5
          subst e0 e1 e2 e4
          have hv : ∃ A k c', v3 = .slice A k c' := by
            rcases open_ints Try.underlying29 Try.underlying5 (by kernel_rfl) t5 with ⟨e, _⟩ | ⟨_, _, _, _, e, _⟩ <;> simp at e <;> exact ⟨_, _, _, e⟩
          obtain ⟨A, k, c', rfl⟩ := hv
          obtain ⟨bb, hb2⟩ := bytes_in (w := w) (enc := enc) (base := base) (held := held) rfl ⟨_, t5⟩
          refine ⟨⟨z0, z1, z2, A, k, c', bb, z4⟩, fun _ => ⟨fun j v hv => ?_, hb2.mono fun b hb _ => hb⟩⟩
          match j, hv with
          | 0, hv => injection hv with hv; subst hv; exact hat 0 (by omega)
          | 1, hv => injection hv with hv; subst hv; exact hat 1 (by omega)
          | 2, hv => injection hv with hv; subst hv; exact hat 2 (by omega)
          | 3, hv => injection hv with hv; subst hv; exact hat 3 (by omega)
          | 4, hv => injection hv with hv; subst hv; exact hat 4 (by omega)
          | j + 5, hv => simp [bactV] at hv
      · exact ⟨⟨0, 0, 0, none, 0, 0, [], 0⟩, fun h => absurd h him⟩
    obtain ⟨f, hf⟩ := Classical.skolem.1 one
    refine ⟨(List.range len).map f, ⟨by simp, hl, hm, fun h0 => ?_⟩, fun q hq => ?_⟩
    · obtain ⟨b, off, spot⟩ := x
      have hc0 := (hf 0 h0).1 0 _ rfl
      have hspot : spot = none := by simpa [Addr.add] using World.cell?_spot hc0
      subst hspot
      have hlt := World.block_lt_of_cell? _ _ hc0
      rw [add_plain, add_plain] at hlt
      refine ⟨b, off, rfl, hlt, hlt, fun i q hq j v hv => ?_⟩
      have hil : i < len := by
        have := (List.getElem?_eq_some_iff.1 hq).1; simpa using this
      obtain rfl : f i = q := by simpa [hil] using hq
      have := (hf i hil).1 j v hv
      rwa [add_plain, add_plain] at this
    · obtain ⟨i, hi', rfl⟩ := List.mem_map.1 hq
      exact (hf i (by simpa using hi')).2
end Go.Proofs.Ytogfblfekedefaa
