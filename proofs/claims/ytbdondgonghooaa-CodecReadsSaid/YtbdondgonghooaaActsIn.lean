/-
  A slice of structs of two numbers that came in (CodecReads' second parameter), opened.
-/
import Derived.Test.YtbdondgonghooaaFrame
import Derived.Test.YtbdondgonghooaaReadsPure
import Derived.Deep.Strs
namespace Go.Proofs.Ytbdondgonghooaa
open Go.ChangeShapes Go.WideShapes Go.ChangeAt Go.RowKit Go.Deep

theorem acts_in {w : World} {H : Type} {enc : TypeId × Value → H} {base : Nat} {spare : Nat → Bool} {held : Bool} {a : Option Addr} {len cap : Nat} {d : DataW H} {p : List MemPlace}
    (hs : spare = fun _ => true) (h : DataW.Trod enc Try.prog w base spare held 23 (.slice a len cap) d p) : ∃ l, Acts w a len cap l := by
  subst hs
  obtain ⟨fuel, hf⟩ := h
  rcases open_slice Try.underlying23 hf with ⟨hcs, _⟩ | ⟨x, l, c, m, n, D, Pl, hcs, _, hl, hm, hmm, _, hi⟩
  · simp [Value.cells] at hcs
    obtain ⟨rfl, rfl, rfl⟩ := hcs
    exact ⟨[], rfl, Nat.zero_le _, Nat.zero_le _, fun h => absurd h (by omega), by simp⟩
  · simp [Value.cells] at hcs
    obtain ⟨rfl, rfl, rfl⟩ := hcs
    have hce : Try.prog.cellsOf 31 = 2 := by kernel_rfl
    have h3 : Try.prog.cellsOf 3 = 1 := by kernel_rfl
    rw [hce] at hi
    simp only [if_true] at hmm
    have one : ∀ i, ∃ q : Int × Int, i < len → w.cell? ((x.add (i * 2)).add 0) = some (.int .i64 q.1) ∧ w.cell? ((x.add (i * 2)).add 1) = some (.int .i64 q.2) ∧ (Lit.int .i64 q.2).wf = true := fun i => by
      by_cases him : i < len
      · obtain ⟨cs', hc, ht⟩ := hi i (by omega)
        obtain ⟨_, hcl, hat⟩ := World.cells?_some hc
        obtain ⟨y0, y1, n', _, _, t0, t1⟩ := trod_struct2 Try.underlying31 ht
        match cs', hcl with
        | [v0, v1], _ =>
          simp only [h3] at t0 t1
          obtain ⟨z0, e0, _, _⟩ := DataW.trod_int Try.underlying3 t0
          obtain ⟨z1, e1, _, w1⟩ := DataW.trod_int Try.underlying3 t1
          simp at e0 e1
          subst e0 e1
          exact ⟨⟨z0, z1⟩, fun _ => ⟨hat 0 (by omega), hat 1 (by omega), w1⟩⟩
      · exact ⟨⟨0, 0⟩, fun h => absurd h him⟩
    obtain ⟨f, hf⟩ := Classical.skolem.1 one
    refine ⟨(List.range len).map f, by simp, hl, hm, fun h0 => ?_, fun q hq => ?_⟩
    · obtain ⟨b, off, spot⟩ := x
      have hc0 := (hf 0 h0).1
      have hspot : spot = none := by simpa [Addr.add] using World.cell?_spot hc0
      subst hspot
      have hlt := World.block_lt_of_cell? _ _ hc0
      rw [add_plain, add_plain] at hlt
      refine ⟨b, off, rfl, hlt, fun i q hq => ?_⟩
      have hil : i < len := by
        have := (List.getElem?_eq_some_iff.1 hq).1; simpa using this
      obtain rfl : f i = q := by simpa [hil] using hq
      obtain ⟨c0, c1, _⟩ := hf i hil
      rw [add_plain, add_plain] at c0 c1
      exact ⟨c0, c1⟩
    · obtain ⟨i, hi', rfl⟩ := List.mem_map.1 hq
      exact (hf i (by simpa using hi')).2.2
end Go.Proofs.Ytbdondgonghooaa
