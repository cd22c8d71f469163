/-
  The cells of old rows stay, and the rows ahead of B whole: 'Cel B'. ('[]byte("a")' marks a row that it has made: its cells stay.)
-/
import Derived.Test.YtogfblfekedefaaRws
namespace Go.Proofs.Ytogfblfekedefaa
open Go.RowKit

structure Cel (B : Nat) (W W' : World) : Prop where
  os : W'.os = W.os
  tape : W'.tape = W.tape
  output : W'.output = W.output
  size : W.heap.size ≤ W'.heap.size
  block : ∀ k, k < W.heap.size → k < B → W'.heap[k]? = W.heap[k]?
  cell : ∀ b o, b < W.heap.size → W'.cell? ⟨b, o, none⟩ = W.cell? ⟨b, o, none⟩
section
variable {B : Nat} {W W' V : World}
theorem Cel.refl (B : Nat) (W : World) : Cel B W W := ⟨rfl, rfl, rfl, Nat.le_refl _, fun _ _ _ => rfl, fun _ _ _ => rfl⟩
theorem Cel.trans (h : Cel B W W') (k : Cel B W' V) : Cel B W V :=
  ⟨k.os.trans h.os, k.tape.trans h.tape, k.output.trans h.output, Nat.le_trans h.size k.size, fun i hi hb => (k.block i (Nat.lt_of_lt_of_le hi h.size) hb).trans (h.block i hi hb), fun b o hb => (k.cell b o (Nat.lt_of_lt_of_le hb h.size)).trans (h.cell b o hb)⟩
theorem Cel.of_below (h : Below W.heap.size W W') : Cel B W W' := ⟨h.os, h.tape, h.output, h.size, fun k hk _ => h.block k hk, fun b _ hb => h.cell (p := ⟨b, _, none⟩) hb⟩
theorem Cel.below (h : Cel W.heap.size W W') : Below W.heap.size W W' := ⟨h.os, h.tape, h.output, h.size, fun k hk => h.block k hk hk⟩
theorem Cel.of_drew (h : Cel B W.drew W') : Cel B W W' := ⟨h.os, h.tape, h.output, h.size, h.block, h.cell⟩
theorem Byt.cel {S : Nat → Prop} {A : Option Addr} {n c : Nat} {l : List UInt8} (h : Byt W S A n c l) (k : Cel B W W') : Byt W' S A n c l := h.keep k.size k.cell
theorem Rws.cel {S : Nat → Prop} {A : Option Addr} {n c : Nat} {ls : List (List UInt8)} (h : Rws W S A n c ls) (k : Cel B W W') : Rws W' S A n c ls :=
  ⟨h.len, h.cap, h.max, fun h0 => by
    obtain ⟨b, off, hA, hS, hlt, hc⟩ := h.row h0
    refine ⟨b, off, hA, hS, Nat.lt_of_lt_of_le hlt k.size, fun i hi => ?_⟩
    obtain ⟨Ai, ni, ci, h1, h2⟩ := hc i hi
    exact ⟨Ai, ni, ci, (k.cell _ _ hlt).trans h1, h2.cel k⟩⟩

/-- '[]byte("..")' of a constant, whose row lies anywhere. -/
theorem conv_mark {P : Program} (W : World) (t e : TypeId) (ht : P.underlying t = some (.slice e)) (he : P.underlying e = some (.int .u8)) (g n c : Nat) (hB : B ≤ g) :
    ∃ W', (convert t t (.slice (some ⟨g, 0, none⟩) n c)).run P W = .ok (.slice (some ⟨g, 0, none⟩) n c) W' ∧ Cel B W W' := by
  have hf : ∀ k, Cel B W (W.freeze ⟨g, k, none⟩ 1) := fun k => by
    unfold World.freeze
    rw [if_neg (by decide)]
    refine ⟨rfl, rfl, rfl, by simp, fun i _ hi => ?_, fun b o _ => ?_⟩
    · simp only [Array.getElem?_modify]
      rw [if_neg (by omega)]
    · simp only [World.cell?, Array.getElem?_modify]
      by_cases hbg : g = b
      · rw [if_pos hbg]
        cases hh : W.heap[b]? with
        | none => rfl
        | some ob => cases ob <;> rfl
      · rw [if_neg hbg]
  cases hs : W.shape? g with
  | none =>
    refine ⟨W, ?_, Cel.refl _ _⟩
    simp [convert, run_underlying ht, run_underlying he, markStringish, hs]
  | some p =>
    obtain ⟨x, k⟩ := p
    refine ⟨_, ?_, hf k⟩
    simp [convert, run_underlying ht, run_underlying he, markStringish, hs]
end
end Go.Proofs.Ytogfblfekedefaa
