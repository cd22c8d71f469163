/-
  A slice of rows of bytes that came in, opened.
-/
import Derived.Test.YtkhbmgmppoepjaaFrame
import Derived.Test.YtkhbmgmppoepjaaRws
import Derived.Deep.Strs
namespace Go.Proofs.Ytkhbmgmppoepjaa
open Go.ChangeShapes Go.WideShapes Go.ChangeAt Go.RowKit Go.Deep

theorem rows_in {w : World} {H : Type} {enc : TypeId × Value → H} {base : Nat} {spare : Nat → Bool} {held : Bool} {a : Option Addr} {len cap : Nat} {d : DataW H} {p : List MemPlace}
    (hs : spare = fun _ => true) (h : DataW.Trod enc Try.prog w base spare held 56 (.slice a len cap) d p) : ∃ ls, Rws w (fun _ => True) a len cap ls := by
  subst hs
  obtain ⟨fuel, hf⟩ := h
  rcases open_slice Try.underlying56 hf with ⟨hcs, _⟩ | ⟨x, l, c, m, n, D, Pl, hcs, _, hl, hm, hmm, _, hi⟩
  · simp [Value.cells] at hcs
    obtain ⟨rfl, rfl, rfl⟩ := hcs
    exact ⟨[], rfl, Nat.zero_le _, Nat.zero_le _, fun h => absurd h (by omega)⟩
  · simp [Value.cells] at hcs
    obtain ⟨rfl, rfl, rfl⟩ := hcs
    have hce : Try.prog.cellsOf 41 = 1 := by kernel_rfl
    rw [hce] at hi
    simp only [if_true] at hmm
    have one : ∀ i, ∃ q : List UInt8, i < len → ∃ A k c', w.cell? ((x.add (i * 1)).add 0) = some (.slice A k c') ∧ Byt w (fun _ => True) A k c' q := fun i => by
      by_cases him : i < len
      · obtain ⟨cs', hc, ht⟩ := hi i (by omega)
        obtain ⟨_, hcl, hat⟩ := World.cells?_some hc
        match cs', hcl with
        | [v2], _ =>
          have c0 := hat 0 (by omega)
          have hv : ∃ A k c', v2 = .slice A k c' := by
            rcases open_ints Try.underlying41 Try.underlying5 (by kernel_rfl) ht with ⟨e, _⟩ | ⟨_, _, _, _, e, _⟩ <;> simp at e <;> exact ⟨_, _, _, e⟩
          obtain ⟨A, k, c', rfl⟩ := hv
          obtain ⟨b, hb2⟩ := bytes_in (w := w) (enc := enc) (base := base) (held := held) rfl ⟨_, ht⟩
          exact ⟨b, fun _ => ⟨A, k, c', c0, hb2⟩⟩
      · exact ⟨[], fun h => absurd h him⟩
    obtain ⟨f, hf⟩ := Classical.skolem.1 one
    refine ⟨(List.range len).map f, by simp, hl, hm, fun h0 => ?_⟩
    obtain ⟨b, off, spot⟩ := x
    obtain ⟨_, _, _, hc0, _⟩ := hf 0 h0
    have hspot : spot = none := by simpa [Addr.add] using World.cell?_spot hc0
    subst hspot
    have hlt := World.block_lt_of_cell? _ _ hc0
    rw [add_plain, add_plain] at hlt
    refine ⟨b, off, rfl, trivial, hlt, fun i hil => ?_⟩
    obtain ⟨A, k, c', h1, h2⟩ := hf i hil
    rw [add_plain, add_plain, Nat.mul_one, Nat.add_zero] at h1
    exact ⟨A, k, c', h1, by simpa [hil] using h2⟩
end Go.Proofs.Ytkhbmgmppoepjaa
