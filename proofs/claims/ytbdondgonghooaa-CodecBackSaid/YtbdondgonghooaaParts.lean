/-
  A slice of structs of the statement CodecBack (a number, a number, a row of bytes), and what such rows are put as.
-/
import Derived.Test.YtbdondgonghooaaCodecPure
import Derived.Test.YtbdondgonghooaaMem
namespace Go.Proofs.Ytbdondgonghooaa
open Go.RowKit Codec

structure Pt where
  k : Int
  x : Nat
  A : Option Addr
  n : Nat
  c : Nat
  b : List UInt8

structure Parts (w : World) (A : Option Addr) (n c : Nat) (l : List Pt) : Prop where
  len : l.length = n
  cap : n ≤ c
  max : c ≤ maxLen
  row : 0 < n → ∃ b off, A = some ⟨b, off, none⟩ ∧ b < w.heap.size ∧ ∀ i p, l[i]? = some p →
    w.cell? ⟨b, off + i * 3, none⟩ = some (.int .i64 p.k) ∧ w.cell? ⟨b, off + i * 3 + 1, none⟩ = some (.int .u64 p.x) ∧ w.cell? ⟨b, off + i * 3 + 2, none⟩ = some (.slice p.A p.n p.c)
  byt : ∀ p ∈ l, p.x < 18446744073709551616 ∧ Byt w (fun _ => True) p.A p.n p.c p.b

theorem Parts.below {w w' : World} {A : Option Addr} {n c : Nat} {l : List Pt} (h : Parts w A n c l) (hb : Below w.heap.size w w') : Parts w' A n c l :=
  ⟨h.len, h.cap, h.max, fun h0 => by
    obtain ⟨b, off, hA, hlt, hc⟩ := h.row h0
    refine ⟨b, off, hA, Nat.lt_of_lt_of_le hlt hb.size, fun i p hp => ?_⟩
    obtain ⟨h1, h2, h3⟩ := hc i p hp
    exact ⟨(hb.cell (p := ⟨_, _, none⟩) hlt).trans h1, (hb.cell (p := ⟨_, _, none⟩) hlt).trans h2, (hb.cell (p := ⟨_, _, none⟩) hlt).trans h3⟩,
   fun p hp => ⟨(h.byt p hp).1, (h.byt p hp).2.below hb⟩⟩

/-- What a part is put as. -/
def pc (p : Pt) : List UInt8 :=
  if bits .and .i64 p.k 3 = 0 ∨ bits .and .i64 p.k 3 = 1 then put p.x
  else if bits .and .i64 p.k 3 = 2 then put p.b.length ++ p.b
  else (if p.x % 2 = 1 then 1 else 0) :: p.b
def pcs : List Pt → List UInt8
  | [] => []
  | p :: l => pc p ++ pcs l
theorem pcs_append : ∀ (l m : List Pt), pcs (l ++ m) = pcs l ++ pcs m
  | [], _ => rfl
  | p :: l, m => by simp [pcs, pcs_append l m]
theorem pcs_take (l : List Pt) (k : Nat) (p : Pt) (h : l[k]? = some p) : pcs (l.take (k + 1)) = pcs (l.take k) ++ pc p := by
  obtain ⟨hk, rfl⟩ := List.getElem?_eq_some_iff.1 h
  rw [List.take_succ_eq_append_getElem hk, pcs_append]; simp [pcs]
theorem pcs_drop (l : List Pt) (k : Nat) (p : Pt) (h : l[k]? = some p) : pcs (l.drop k) = pc p ++ pcs (l.drop (k + 1)) := by
  obtain ⟨hk, rfl⟩ := List.getElem?_eq_some_iff.1 h
  rw [List.drop_eq_getElem_cons hk]; rfl
theorem pc_len (p : Pt) (hx : p.x < 18446744073709551616) (hb : p.b.length ≤ 200) : (pc p).length ≤ 210 := by
  have h1 := put_length_64 hx
  have h2 := put_length_64 (x := p.b.length) (by omega)
  unfold pc
  split
  · omega
  · split <;> simp <;> omega
theorem pcs_len : ∀ (l : List Pt), (∀ p ∈ l, p.x < 18446744073709551616 ∧ p.b.length ≤ 200) → (pcs l).length ≤ 210 * l.length
  | [], _ => by simp [pcs]
  | p :: l, h => by
    have h1 := pc_len p (h p (by simp)).1 (h p (by simp)).2
    have h2 := pcs_len l (fun q hq => h q (by simp [hq]))
    simp [pcs]; omega
end Go.Proofs.Ytbdondgonghooaa
