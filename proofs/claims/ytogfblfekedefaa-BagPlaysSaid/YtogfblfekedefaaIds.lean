/-
  A slice of digests (arrays of 32 bytes) that reads as a list of rows of bytes; how one that came in is opened.
-/
import Derived.Test.YtogfblfekedefaaFrameArr
import Derived.Test.YtogfblfekedefaaOwn
import Derived.Deep.Strs
namespace Go.Proofs.Ytogfblfekedefaa
open Go.ChangeShapes Go.WideShapes Go.ChangeAt Go.RowKit Go.Deep

/-- THE SLICE VALUE '.slice A n c' OF DIGESTS READS AS l; its row, if it has any, lies in a block of S. -/
structure Ids (w : World) (S : Nat → Prop) (A : Option Addr) (n c : Nat) (l : List (List UInt8)) : Prop where
  len : l.length = n
  each : ∀ x ∈ l, x.length = 32
  cap : n ≤ c
  max : c ≤ maxLen
  row : 0 < n → ∃ b off, A = some ⟨b, off, none⟩ ∧ S b ∧ b < w.heap.size ∧ ∀ i j, i < n → j < 32 → w.cell? ⟨b, off + (i * 32 + j), none⟩ = some (.int .u8 (((l[i]?.getD [])[j]?.getD 0).toNat : Int))
section
variable {w w' : World} {S T : Nat → Prop} {A : Option Addr} {n c : Nat} {l : List (List UInt8)}
theorem Ids.below (h : Ids w S A n c l) (hb : Below w.heap.size w w') : Ids w' S A n c l :=
  ⟨h.len, h.each, h.cap, h.max, fun h0 => by
    obtain ⟨b, off, hA, hS, hlt, hc⟩ := h.row h0
    exact ⟨b, off, hA, hS, Nat.lt_of_lt_of_le hlt hb.size, fun i j hi hj => (hb.cell (p := ⟨_, _, none⟩) hlt).trans (hc i j hi hj)⟩⟩
theorem Ids.turned (h : Ids w S A n c l) (ht : Turned T w w') (hd : ∀ b, b < w.heap.size → S b → ¬ T b) : Ids w' S A n c l :=
  ⟨h.len, h.each, h.cap, h.max, fun h0 => by
    obtain ⟨b, off, hA, hS, hlt, hc⟩ := h.row h0
    exact ⟨b, off, hA, hS, Nat.lt_of_lt_of_le hlt ht.size, fun i j hi hj => (World.cell?_of_block (w := w) (a := ⟨b, off + (i * 32 + j), none⟩) (ht.block b hlt (hd b hlt hS))).trans (hc i j hi hj)⟩⟩
theorem Ids.mono (h : Ids w S A n c l) (hT : ∀ b, b < w.heap.size → S b → T b) : Ids w T A n c l :=
  ⟨h.len, h.each, h.cap, h.max, fun h0 => by
    obtain ⟨b, off, hA, hS, hlt, hc⟩ := h.row h0
    exact ⟨b, off, hA, hT b hlt hS, hlt, hc⟩⟩
theorem Ids.drew (h : Ids w S A n c l) : Ids w.drew S A n c l := ⟨h.len, h.each, h.cap, h.max, h.row⟩
theorem Ids.drewN (h : Ids w S A n c l) (k : Nat) : Ids (w.drewN k) S A n c l := ⟨h.len, h.each, h.cap, h.max, h.row⟩
theorem Ids.nil (w : World) (S : Nat → Prop) (A : Option Addr) (c : Nat) (hc : c ≤ maxLen) : Ids w S A 0 c [] := ⟨rfl, by simp, Nat.zero_le _, hc, fun h => absurd h (by omega)⟩
/-- One of them, as a row of bytes. -/
theorem Ids.at_ (h : Ids w S A n c l) {i : Nat} (hi : i < n) : ∃ b off, A = some ⟨b, off, none⟩ ∧ b < w.heap.size ∧ (l[i]?.getD []).length = 32 ∧ ∀ j v, (row8 (l[i]?.getD []))[j]? = some v → w.cell? ((⟨b, off + i * 32, none⟩ : Addr).add j) = some v := by
  obtain ⟨b, off, hA, _, hlt, hc⟩ := h.row (by omega)
  have hil : i < l.length := by rw [h.len]; exact hi
  have h32 : (l[i]?.getD []).length = 32 := by
    rw [List.getElem?_eq_getElem hil]
    exact h.each _ (List.getElem_mem hil)
  refine ⟨b, off, hA, hlt, h32, fun j v hj => ?_⟩
  have hjl : j < 32 := by
    have := (Array.getElem?_eq_some_iff.1 hj).1
    rwa [row8_size, h32] at this
  rw [add_plain, Nat.add_assoc, hc i j hi hjl, ← hj, row8, List.getElem?_toArray]
  generalize l[i]?.getD [] = x at *
  simp [u8s, show j < x.length by omega]
end
/-- Digests one behind the other, as cells. -/
def idsC (l : List (List UInt8)) : List Value := u8s l.flatten
theorem flatten_length32 : ∀ {l : List (List UInt8)}, (∀ x ∈ l, x.length = 32) → l.flatten.length = l.length * 32
  | [], _ => rfl
  | a :: l, h => by
    rw [List.flatten_cons, List.length_append, h a (by simp), flatten_length32 (fun x hx => h x (by simp [hx])), List.length_cons]
    omega
theorem flatten_at32 : ∀ {l : List (List UInt8)}, (∀ x ∈ l, x.length = 32) → ∀ i j, i < l.length → j < 32 → l.flatten[i * 32 + j]? = (l[i]?.getD [])[j]?
  | [], _, _, _, h, _ => absurd h (by simp)
  | a :: l, h, i, j, hi, hj => by
    have ha := h a (by simp)
    have hl : ∀ x ∈ l, x.length = 32 := fun x hx => h x (by simp [hx])
    rw [List.flatten_cons]
    cases i with
    | zero => rw [List.getElem?_append_left (by omega)]; simp
    | succ i =>
      rw [List.getElem?_append_right (by omega), show (i + 1) * 32 + j - a.length = i * 32 + j by omega, flatten_at32 hl i j (by simpa using hi) hj]
      simp
/-- A row of the call's own reads as digests. -/
theorem own_ids {w : World} {B : Nat} {e : TypeId} {v : Value} {n : Nat} {l : List (List UInt8)} (h : w.ownsRow B e 32 v n (idsC l)) (hl : ∀ x ∈ l, x.length = 32) : ∃ A c, v = .slice A n c ∧ Ids w (B ≤ ·) A n c l := by
  have hn : l.length = n := by
    have := h.1
    rw [idsC, u8s_length, flatten_length32 hl] at this
    omega
  rcases h.2 with ⟨rfl, h2⟩ | ⟨g, cap, cur, rfl, hb, hg, hnc, hm, _, _⟩
  · have : n = 0 := by
      have := h.1
      rw [h2] at this
      simp at this
      omega
    subst this
    obtain rfl : l = [] := List.eq_nil_of_length_eq_zero hn
    exact ⟨none, 0, rfl, Ids.nil _ _ _ _ (Nat.zero_le _)⟩
  · refine ⟨_, cap, rfl, hn, hl, hnc, hm, fun _ => ⟨g, 0, rfl, hb, (Array.getElem?_eq_some_iff.1 hg).1, fun i j hi hj => ?_⟩⟩
    have hil : i < l.length := by omega
    have hx : (l[i]?.getD []).length = 32 := by
      rw [List.getElem?_eq_getElem hil]
      exact hl _ (List.getElem_mem hil)
    have hf := flatten_at32 hl i j hil hj
    have := h.cells (g := g) rfl (i * 32 + j) (.int .u8 (((l[i]?.getD [])[j]?.getD 0).toNat : Int)) (by
      rw [idsC, u8s, List.getElem?_map, hf]
      generalize l[i]?.getD [] = x at *
      simp [show j < x.length by omega])
    rw [add_plain] at this
    exact this
/-- Digests that came in. -/
theorem ids_in {P : Program} {w : World} {H : Type} {enc : TypeId × Value → H} {base : Nat} {spare : Nat → Bool} {held : Bool} {t e b8 : TypeId} {a : Option Addr} {len cap : Nat} {d : DataW H} {p : List MemPlace}
    (ht : P.underlying t = some (.slice e)) (he : P.underlying e = some (.array 32 b8)) (hb : P.underlying b8 = some (.int .u8)) (hc1 : P.cellsOf b8 = 1) (hce : P.cellsOf e = 32)
    (hs : spare = fun _ => true) (h : DataW.Trod enc P w base spare held t (.slice a len cap) d p) : ∃ l, Ids w (fun _ => True) a len cap l := by
  subst hs
  obtain ⟨fuel, hf⟩ := h
  rcases open_slice ht hf with ⟨hcs, _⟩ | ⟨x, l, c, m, n, D, Pl, hcs, _, hl, hm, hmm, _, hi⟩
  · simp [Value.cells] at hcs
    obtain ⟨rfl, rfl, rfl⟩ := hcs
    exact ⟨[], Ids.nil _ _ _ _ (Nat.zero_le _)⟩
  · simp [Value.cells] at hcs
    obtain ⟨rfl, rfl, rfl⟩ := hcs
    rw [hce] at hi
    simp only [if_true] at hmm
    have one : ∀ i, ∃ q : List UInt8, i < len → q.length = 32 ∧ ∀ j, j < 32 → w.cell? ((x.add (i * 32)).add j) = some (.int .u8 ((q[j]?.getD 0).toNat : Int)) := fun i => by
      by_cases him : i < len
      · obtain ⟨cs', hc, htr⟩ := hi i (by omega)
        obtain ⟨_, hcl, hat⟩ := World.cells?_some hc
        obtain ⟨q, hq, hql⟩ := arr_in (P := P) (w := w) (enc := enc) (base := base) (held := held) (cs := cs'.toArray) he hb hc1 hce ⟨_, by simpa [Value.cells] using htr⟩
        refine ⟨q, fun _ => ⟨hql, fun j hj => ?_⟩⟩
        have hcj := hat j (by omega)
        have he2 : cs' = u8s q := by
          have := congrArg Array.toList hq
          simpa [row8] using this
        rw [hcj]
        subst he2
        simp [u8s, show j < q.length by omega]
      · exact ⟨[], fun h => absurd h him⟩
    obtain ⟨f, hf⟩ := Classical.skolem.1 one
    refine ⟨(List.range len).map f, by simp, fun y hy => ?_, hl, hm, fun h0 => ?_⟩
    · obtain ⟨i, hi, rfl⟩ := List.mem_map.1 hy
      exact (hf i (List.mem_range.1 hi)).1
    · obtain ⟨b, off, spot⟩ := x
      have hc0 := (hf 0 h0).2 0 (by omega)
      have hspot : spot = none := by simpa [Addr.add] using World.cell?_spot hc0
      subst hspot
      have hlt := World.block_lt_of_cell? _ _ hc0
      rw [add_plain, add_plain] at hlt
      refine ⟨b, off, rfl, trivial, hlt, fun i j hil hj => ?_⟩
      have h1 := (hf i hil).2 j hj
      rw [add_plain, add_plain, Nat.add_assoc] at h1
      rw [h1]
      simp [hil]
end Go.Proofs.Ytogfblfekedefaa
