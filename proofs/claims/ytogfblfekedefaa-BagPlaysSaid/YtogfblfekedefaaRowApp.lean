/-
  Rows of one's own of any element: parts of them, and one appended to another.
-/
import Derived.Test.YtogfblfekedefaaIdLit
import Derived.Test.YtogfblfekedefaaInts
import Derived.Test.YtogfblfekedefaaOwn
import Derived.Maps.AppendAt
namespace Go.Proofs.Ytogfblfekedefaa
open Go.RowKit

section
variable {W W' : World} {B base : Nat} {ts te : TypeId} {size n k c : Nat} {v : Value} {xs ys : List Value} {A : Option Addr}
theorem row_slice (h : W.ownsRow base te size v k xs) : ∃ A c, v = .slice A k c ∧ k ≤ c := by
  rcases h.2 with ⟨rfl, h2⟩ | ⟨g, cap, cur, rfl, _, _, hn, _⟩
  · exact ⟨none, 0, by rw [h2], by omega⟩
  · exact ⟨_, cap, rfl, hn⟩
theorem row_keep (h : W.ownsRow base te size v n xs) (hb : ∀ q, v.ownBlock = some q → W'.heap[q]? = W.heap[q]?) : W'.ownsRow base te size v n xs := by
  refine ⟨h.1, ?_⟩
  rcases h.2 with h2 | ⟨g, cap, cur, rfl, h3, h4, h5⟩
  · exact .inl h2
  · exact .inr ⟨g, cap, cur, rfl, h3, by rw [hb g rfl]; exact h4, h5⟩
theorem row_below (h : W.ownsRow base te size v n xs) (hb : Below W.heap.size W W') : W'.ownsRow base te size v n xs :=
  row_keep h fun q hq => hb.block q (h.lt q hq).2
theorem row_base (h : W.ownsRow base te size v n xs) (hb : B ≤ base) : W.ownsRow B te size v n xs :=
  ⟨h.1, h.2.imp id fun ⟨g, cap, cur, h1, h2, h3⟩ => ⟨g, cap, cur, h1, Nat.le_trans hb h2, h3⟩⟩
/-- Its cells. -/
theorem row_cells (h : W.ownsRow base te size (.slice A n c) n xs) (h0 : 0 < n) : ∃ g, A = some ⟨g, 0, none⟩ ∧ base ≤ g ∧ g < W.heap.size ∧ (∃ cs, W.heap[g]? = some (.cells cs te (0, 0)) ∧ cs.size = c * size ∧ cs.toList.take (n * size) = xs) ∧ n ≤ c ∧ c ≤ maxLen ∧ ∀ j u, xs[j]? = some u → W.cell? ⟨g, j, none⟩ = some u := by
  rcases h.2 with ⟨e, e0⟩ | ⟨g, cap, cur, e, hb, hg, hc, hm, hs, ht⟩
  · omega
  · injection e with e1 e2 e3
    subst e1 e3
    refine ⟨g, rfl, hb, lt_of_cells hg, ⟨cur, hg, hs, ht⟩, hc, hm, fun j u hu => ?_⟩
    have hj := (List.getElem?_eq_some_iff.1 hu).1
    rw [h.1] at hj
    rw [h.cellAt j hj, hu]
set_option maxRecDepth 100000 in
/-- A part of a row, appended to a row of one's own. -/
theorem gapp {i0 : TypeInfo} {z : Value} {bytes : Nat} (hts : Try.prog.underlying ts = some (.slice te)) (hi : Try.prog.info? te = some i0) (hz0 : i0.zero = some z) (hz1 : i0.size = size) (hz2 : i0.bytes = bytes) (hzs : z.cells.size = size) (hsz : 0 < size)
    (hown : W.ownsRow B te size v k xs) (hl : ys.length = n * size) (h0 : 0 < n → ∃ ad, A = some ad ∧ ∀ j u, ys[j]? = some u → W.cell? (ad.add j) = some u) (h1 : ∀ u ∈ ys, u.oneCell' = true) (hb : k + n ≤ 1000000) (hby : bytes ≤ 1000) (hB : B ≤ W.heap.size) (ty : TypeId) :
    ∃ A' c' W', (Builtin.append_ #[ts, ts] ty #[v, .slice A n c]).run Try.prog W = .ok (.slice A' (k + n) c') W' ∧ W'.ownsRow B te size (.slice A' (k + n) c') (k + n) (xs ++ ys) ∧ Below B W W' := by
  obtain ⟨A1, c1, rfl, hkc⟩ := row_slice hown
  rcases A with _ | ad
  · obtain rfl : n = 0 := by
      rcases Nat.eq_zero_or_pos n with h | h
      · exact h
      · obtain ⟨_, hA, _⟩ := h0 h
        cases hA
    obtain rfl : ys = [] := List.eq_nil_of_length_eq_zero (by omega)
    refine ⟨A1, c1, W, ?_, ?_, Below.refl _ _⟩
    · exact run_append_zero (P := Try.prog) W ts ty te i0 hts hi A1 k c1 c hkc
    · rw [List.append_nil]
      exact hown
  · obtain ⟨v', W', hrun, r1, r2, _⟩ := run_append_own (P := Try.prog) W B ts ty te i0 z size bytes hts hi hz0 hz1 hz2 hzs hsz (.slice A1 k c1) k xs hown ad n c ys hl
      (fun j u hj => by
        have hj' := (List.getElem?_eq_some_iff.1 hj).1
        rcases Nat.eq_zero_or_pos n with h | h
        · rw [hl, h] at hj'; omega
        · obtain ⟨_, hA, hr⟩ := h0 h
          injection hA with hA
          subst hA
          exact hr j u hj) h1 (by unfold maxLen; omega) (by have := Nat.mul_le_mul hb hby; omega) hB
    obtain ⟨A', c', rfl, _⟩ := row_slice r1
    exact ⟨A', c', W', hrun, r1, (Below.refl B W).grown r2 hB fun k hk => (hown.lt k hk).1⟩
/-- l[:k] -/
theorem run_gto (hts : Try.prog.underlying ts = some (.slice te)) (hsz : ∀ w, (Go.sizeOf te).run Try.prog w = .ok size w) (A : Option Addr) (n c k : Nat) (hk : k ≤ c) (W : World) : (Instr.slice ts (.slice A n c) none (some (.int .i64 (k : Int))) none).run Try.prog W = .ok (.slice A k c) W := by
  have ht' : Try.prog.underlying ts = some (.slice (Try.prog.elem ts)) := by simp [Program.elem, hts]
  have he : Try.prog.elem ts = te := by simp [Program.elem, hts]
  rw [run_slice_h W ts A n c ht' .i64 (k : Int) (by omega) (by omega), he, hsz]
  have h0 : ∀ a : Addr, a.add 0 = a := fun a => by simp [Addr.add]
  cases A <;> simp [Result.andThen, sliced, h0]
/-- Where l[k:] lies. -/
def cutG (size : Nat) (A : Option Addr) (c k : Nat) : Option Addr := if c = k then A else A.map (·.add (k * size))
/-- l[k:] -/
theorem run_gfrom (hts : Try.prog.underlying ts = some (.slice te)) (hsz : ∀ w, (Go.sizeOf te).run Try.prog w = .ok size w) (A : Option Addr) (n c k : Nat) (hk : k ≤ n) (W : World) : (Instr.slice ts (.slice A n c) (some (.int .i64 (k : Int))) none none).run Try.prog W = .ok (.slice (cutG size A c k) (n - k) (c - k)) W := by
  have ht' : Try.prog.underlying ts = some (.slice (Try.prog.elem ts)) := by simp [Program.elem, hts]
  have he : Try.prog.elem ts = te := by simp [Program.elem, hts]
  rw [run_slice_l W ts A n c ht' .i64 (k : Int) (by omega) (by omega), he, hsz]
  simp [Result.andThen, sliced, cutG]
/-- Where the cells xs of M elements stand. -/
def RowAt (W : World) (A : Option Addr) (M : Nat) (xs : List Value) : Prop := 0 < M → ∃ b off, A = some ⟨b, off, none⟩ ∧ b < W.heap.size ∧ ∀ j u, xs[j]? = some u → W.cell? ⟨b, off + j, none⟩ = some u
theorem row_at (h : W.ownsRow base te size (.slice A n c) n xs) : RowAt W A n xs := fun h0 => by
  obtain ⟨g, rfl, _, hg, _, _, _, hc⟩ := row_cells h h0
  exact ⟨g, 0, rfl, hg, fun j u hu => by rw [Nat.zero_add]; exact hc j u hu⟩
/-- What l[:k] reads as, in any world behind. -/
theorem row_to (h : RowAt W A n xs) (hk : k ≤ n) (hw : Below W.heap.size W W') : 0 < k → ∃ ad, A = some ad ∧ ∀ j u, (xs.take (k * size))[j]? = some u → W'.cell? (ad.add j) = some u := fun h0 => by
  obtain ⟨g, off, rfl, hg, hc⟩ := h (by omega)
  refine ⟨_, rfl, fun j u hu => ?_⟩
  have hj := (List.getElem?_eq_some_iff.1 hu).1
  rw [List.length_take] at hj
  rw [List.getElem?_take_of_lt (by omega)] at hu
  rw [add_plain, hw.cell (p := ⟨g, _, none⟩) hg, hc j u hu]
theorem row_from (h : RowAt W A n xs) (hn : n ≤ c) (hk : k ≤ n) (hw : Below W.heap.size W W') : 0 < n - k → ∃ ad, cutG size A c k = some ad ∧ ∀ j u, (xs.drop (k * size))[j]? = some u → W'.cell? (ad.add j) = some u := fun h0 => by
  obtain ⟨g, off, rfl, hg, hc⟩ := h (by omega)
  refine ⟨(⟨g, off, none⟩ : Addr).add (k * size), by unfold cutG; rw [if_neg (by omega)]; rfl, fun j u hu => ?_⟩
  rw [List.getElem?_drop] at hu
  have h1 := hc _ u hu
  rw [add_plain, add_plain, Nat.add_assoc, hw.cell (p := ⟨g, _, none⟩) hg, h1]
set_option maxRecDepth 100000 in
/-- One element put into a row at k, by three appends to a new row. -/
theorem gins {i0 : TypeInfo} {z : Value} {bytes M : Nat} {pc : List Value} (hts : Try.prog.underlying ts = some (.slice te)) (hi : Try.prog.info? te = some i0) (hz0 : i0.zero = some z) (hz1 : i0.size = size) (hz2 : i0.bytes = bytes) (hzs : z.cells.size = size) (hsz : 0 < size)
    (hxl : xs.length = M * size) (hat : RowAt W A M xs) (hc : M ≤ c) (hk : k ≤ M) (hM : M ≤ 100000) (hx1 : ∀ u ∈ xs, u.oneCell' = true) (hp : pc.length = size) (hp1 : ∀ u ∈ pc, u.oneCell' = true) (hby : bytes ≤ 1000) (ty : TypeId) :
    ∃ A1 c1 W1 A2 c2 W2 A3 c3 W3, (Builtin.append_ #[ts, ts] ty #[.slice none 0 0, .slice A k c]).run Try.prog W = .ok (.slice A1 k c1) W1 ∧
      (Builtin.append_ #[ts, ts] ty #[.slice A1 k c1, .slice (some ⟨W1.heap.size, 0, none⟩) 1 1]).run Try.prog (W1.alloc (.cells pc.toArray te)) = .ok (.slice A2 (k + 1) c2) W2 ∧
      (Builtin.append_ #[ts, ts] ty #[.slice A2 (k + 1) c2, .slice (cutG size A c k) (M - k) (c - k)]).run Try.prog W2 = .ok (.slice A3 (M + 1) c3) W3 ∧
      W3.ownsRow W.heap.size te size (.slice A3 (M + 1) c3) (M + 1) (xs.take (k * size) ++ pc ++ xs.drop (k * size)) ∧ Below W.heap.size W W1 ∧ Below W.heap.size W W2 ∧ Below W.heap.size W W3 := by
  have hkm : k * size ≤ M * size := Nat.mul_le_mul_right _ hk
  obtain ⟨A1, c1, W1, r1, o1, b1⟩ := gapp (W := W) (B := W.heap.size) (v := .slice none 0 0) (k := 0) (xs := []) (n := k) (c := c) (ys := xs.take (k * size)) hts hi hz0 hz1 hz2 hzs hsz (World.ownsRow_nil _ _ _ _) (by rw [List.length_take]; omega) (row_to hat hk (Below.refl _ _)) (fun u hu => hx1 u (List.mem_of_mem_take hu)) (by omega) hby (Nat.le_refl _) ty
  rw [Nat.zero_add] at r1 o1
  rw [List.nil_append] at o1
  have hb1 : Below W.heap.size W (W1.alloc (.cells pc.toArray te)) := b1.alloc b1.size _
  obtain ⟨A2, c2, W2, r2, o2, b2⟩ := gapp (W := W1.alloc (.cells pc.toArray te)) (B := W.heap.size) (v := .slice A1 k c1) (k := k) (A := some ⟨W1.heap.size, 0, none⟩) (n := 1) (c := 1) (ys := pc) hts hi hz0 hz1 hz2 hzs hsz (row_below o1 ((Below.refl _ _).alloc (Nat.le_refl _) _)) (by omega)
    (fun _ => ⟨_, rfl, fun j u hu => by rw [add_plain, Nat.zero_add, cell_of_cells (heap_alloc_new W1 _), List.getElem?_toArray, hu]⟩) hp1 (by omega) hby hb1.size ty
  have hb2 : Below W.heap.size W W2 := hb1.trans b2
  obtain ⟨A3, c3, W3, r3, o3, b3⟩ := gapp (W := W2) (B := W.heap.size) (v := .slice A2 (k + 1) c2) (k := k + 1) (A := cutG size A c k) (n := M - k) (c := c - k) (ys := xs.drop (k * size)) hts hi hz0 hz1 hz2 hzs hsz o2 (by rw [List.length_drop, hxl, Nat.sub_mul]) (row_from hat hc hk hb2) (fun u hu => hx1 u (List.mem_of_mem_drop hu)) (by omega) hby hb2.size ty
  rw [show k + 1 + (M - k) = M + 1 by omega] at r3 o3
  exact ⟨A1, c1, W1, A2, c2, W2, A3, c3, W3, r1, r2, r3, o3, b1, hb2, hb2.trans b3⟩
end
end Go.Proofs.Ytogfblfekedefaa
