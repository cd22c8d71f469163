/-
  What stands behind some parts, whichever they are; what holds between the rounds of Over.
-/
import Derived.Test.YtmgglcllfpikcaaDoorChaPart
import Derived.Test.YtmgglcllfpikcaaDoorChunk
namespace Go.Proofs.YtmgglcllfpikcaaDoor
open Go.RowKit

/-- The bytes of part x, the stream's part j laid over them. -/
def chunkO (k no b : List UInt8) (j x : Nat) : List UInt8 := (List.range (min 64 (b.length - 64 * x))).map fun i => (b[64 * x + i]?.getD 0) ^^^ ((partL k no (BitVec.ofNat 32 j))[i]?.getD 0)
theorem chunkO_length (k no b : List UInt8) (j x : Nat) : (chunkO k no b j x).length = min 64 (b.length - 64 * x) := by simp [chunkO]
theorem chunkO_at (k no b : List UInt8) (j x i : Nat) (h : i < min 64 (b.length - 64 * x)) : (chunkO k no b j x)[i]? = some ((b[64 * x + i]?.getD 0) ^^^ ((partL k no (BitVec.ofNat 32 j))[i]?.getD 0)) := by
  rw [chunkO, List.getElem?_map, List.getElem?_range h]
  rfl
/-- .. of parts, one behind the other. -/
def outp (k no b : List UInt8) (pre : List Nat) : List UInt8 := (pre.zipIdx.map fun p => chunkO k no b p.2 p.1).flatten
theorem outp_snoc (k no b : List UInt8) (pre : List Nat) (x : Nat) : outp k no b (pre ++ [x]) = outp k no b pre ++ chunkO k no b pre.length x := by
  simp [outp, List.zipIdx_append]
theorem outp_length (k no b : List UInt8) (pre : List Nat) : (outp k no b pre).length ≤ 64 * pre.length := by
  have h : ∀ (l : List (Nat × Nat)), ((l.map fun p => chunkO k no b p.2 p.1).flatten).length ≤ 64 * l.length := by
    intro l
    induction l with
    | nil => simp
    | cons p l ih =>
      rw [List.map_cons, List.flatten_cons, List.length_append, chunkO_length, List.length_cons]
      omega
  have := h pre.zipIdx
  rwa [List.length_zipIdx] at this
theorem over_more (k no b : List UInt8) (m e : Nat) (he : e ≤ 64) : overN k no b (64 * m + e) = overN k no b (64 * m) ++ (List.range e).map fun i => (b[64 * m + i]?.getD 0) ^^^ ((partL k no (BitVec.ofNat 32 m))[i]?.getD 0) := by
  have h : ∀ i, i < e → overAt k no b (64 * m + i) = (b[64 * m + i]?.getD 0) ^^^ ((partL k no (BitVec.ofNat 32 m))[i]?.getD 0) := fun i hi => by
    rw [overAt, show (64 * m + i) / 64 = m by omega, show (64 * m + i) % 64 = i by omega]
  have e2 : (List.range e).map (overAt k no b ∘ (64 * m + ·)) = (List.range e).map fun i => (b[64 * m + i]?.getD 0) ^^^ ((partL k no (BitVec.ofNat 32 m))[i]?.getD 0) :=
    List.map_congr_left fun i hi => h i (List.mem_range.1 hi)
  rw [overN, List.range_add, List.map_append, List.map_map, e2, overN]
theorem outp_range (k no b : List UInt8) (m : Nat) : outp k no b (List.range m) = overN k no b (min b.length (64 * m)) := by
  induction m with
  | zero => simp [outp, overN]
  | succ m ih =>
    rw [List.range_succ, outp_snoc, ih, List.length_range]
    by_cases h : 64 * m ≤ b.length
    · have e1 : min b.length (64 * m) = 64 * m := by omega
      have e2 : min b.length (64 * (m + 1)) = 64 * m + min 64 (b.length - 64 * m) := by omega
      rw [e1, e2, over_more k no b m _ (Nat.min_le_left _ _), chunkO]
    · have e1 : min b.length (64 * m) = b.length := by omega
      have e2 : min b.length (64 * (m + 1)) = b.length := by omega
      have e3 : chunkO k no b m m = [] := by
        apply List.eq_nil_of_length_eq_zero
        rw [chunkO_length]
        omega
      rw [e1, e2, e3, List.append_nil]
theorem outp_all (k no b : List UInt8) : outp k no b (List.range (chunkN b.length)) = overL k no b := by
  rw [outp_range, overL, show min b.length (64 * chunkN b.length) = b.length by unfold chunkN; omega]

/-- A block of cells stays where only a block that is none turns. -/
theorem cells_kept {W W' : World} {row : Option Nat} {p : Nat} {cs : Array Value} {t : TypeId} {f : Nat × Nat} (h : W.heap[p]? = some (.cells cs t f)) (hg : W.grownBy W' row) (hr : ∀ r, row = some r → ∃ o : Obj, W.heap[r]? = some o ∧ o.isCells = false) : W'.heap[p]? = some (.cells cs t f) :=
  (hg.block p (lt_of_cells h) (fun e => by
    obtain ⟨o, ho, hc⟩ := hr p e.symm
    rw [h] at ho
    cases ho
    cases hc)).trans h

/-- What holds all through Over, but for the bytes laid so far. -/
structure OBase (w0 : World) (B7 : Nat) (KS NS : Array Value) (A : Option Addr) (n c : Nat) (b : List UInt8) (j : Nat) (W : World) : Prop where
  below : Below w0.heap.size w0 W
  key : W.heap[w0.heap.size]? = some (.cells KS 23 (0, 0))
  non : W.heap[w0.heap.size + 1]? = some (.cells NS 24 (0, 0))
  tab : QTab W
  src : Byt W (fun x => x < w0.heap.size) A n c b
  num : Boxed W (B7 + 1) 25 (.int .u32 (nv (BitVec.ofNat 32 j)))
  bs : W.heap[B7 + 2]? = some (.cells #[.slice A n c] 30 (0, 0))
  bn : W.heap[B7 + 3]? = some (.cells #[.int .i64 64] 3 (0, 0))
/-- The bytes laid so far. -/
structure ORow (w0 : World) (B7 : Nat) (out : List UInt8) (v : Value) (W : World) : Prop where
  box : Boxed W B7 30 v
  own : W.ownsRow w0.heap.size 5 1 v out.length (u8s out)
  isl : ∃ a l c, v = .slice a l c
section
variable {w0 W W' : World} {B7 : Nat} {KS NS : Array Value} {A : Option Addr} {n c : Nat} {b : List UInt8} {j : Nat} {out : List UInt8} {v : Value}
theorem QTab.kept (h : QTab W) {row : Option Nat} (hg : W.grownBy W' row) (hr : ∀ r, row = some r → ∃ o : Obj, W.heap[r]? = some o ∧ o.isCells = false) : QTab W' := ⟨fun i hi => cell_kept (h.at_ i hi) hg hr⟩
theorem Byt.kept {S : Nat → Prop} {l : List UInt8} (h : Byt W S A n c l) {row : Option Nat} (hg : W.grownBy W' row) (hr : ∀ r, row = some r → ∃ o : Obj, W.heap[r]? = some o ∧ o.isCells = false) : Byt W' S A n c l :=
  ⟨h.len, h.cap, h.max, fun h0 => by
    obtain ⟨x, off, hA, hB, hb, hc⟩ := h.row h0
    exact ⟨x, off, hA, hB, Nat.lt_of_lt_of_le hb hg.size, fun i hi => cell_kept (hc i hi) hg hr⟩⟩
theorem OBase.kept (h : OBase w0 B7 KS NS A n c b j W) {row : Option Nat} (hg : W.grownBy W' row) (hr : ∀ r, row = some r → w0.heap.size ≤ r ∧ ∃ o : Obj, W.heap[r]? = some o ∧ o.isCells = false) : OBase w0 B7 KS NS A n c b j W' := by
  have hr2 : ∀ r, row = some r → ∃ o : Obj, W.heap[r]? = some o ∧ o.isCells = false := fun r e => (hr r e).2
  exact ⟨h.below.grown hg h.below.size (fun k e => (hr k e).1), cells_kept h.key hg hr2, cells_kept h.non hg hr2, h.tab.kept hg hr2, h.src.kept hg hr2, cells_kept h.num hg hr2, cells_kept h.bs hg hr2, cells_kept h.bn hg hr2⟩
theorem OBase.belo (h : OBase w0 B7 KS NS A n c b j W) (hb : Below W.heap.size W W') : OBase w0 B7 KS NS A n c b j W' :=
  ⟨h.below.trans (hb.mono h.below.size), (hb.block _ (lt_of_cells h.key)).trans h.key, (hb.block _ (lt_of_cells h.non)).trans h.non, h.tab.below hb, h.src.below hb, (hb.block _ h.num.lt).trans h.num, (hb.block _ (lt_of_cells h.bs)).trans h.bs, (hb.block _ (lt_of_cells h.bn)).trans h.bn⟩
theorem OBase.drew (h : OBase w0 B7 KS NS A n c b j W) : OBase w0 B7 KS NS A n c b j W.drew := ⟨below_drew h.below, h.key, h.non, h.tab.drew, h.src.drew, h.num, h.bs, h.bn⟩
/-- .. where none of its blocks turns. -/
theorem OBase.turned (h : OBase w0 B7 KS NS A n c b j W) {S : Nat → Prop} (ht : Turned S W W') (hlt : QTab w0) (h1 : ∀ x, S x → w0.heap.size + 2 ≤ x ∧ x ≠ B7 + 1 ∧ x ≠ B7 + 2 ∧ x ≠ B7 + 3) : OBase w0 B7 KS NS A n c b j W' := by
  have hg := hlt.lt
  have hk : ∀ x cs t f, ¬ S x → W.heap[x]? = some (.cells cs t f) → W'.heap[x]? = some (.cells cs t f) := fun x cs t f hx hc => (ht.block x (lt_of_cells hc) hx).trans hc
  exact ⟨h.below.trans ((ht.mono (T := (w0.heap.size ≤ ·)) fun x _ hx => by have := h1 x hx; omega).below h.below.size), hk _ _ _ _ (fun hx => by have := h1 _ hx; omega) h.key, hk _ _ _ _ (fun hx => by have := h1 _ hx; omega) h.non,
    h.tab.turned ht (fun hx => by have := h1 _ hx; omega), h.src.turned ht (fun x _ hx hs => by have := h1 _ hs; omega), hk _ _ _ _ (fun hx => (h1 _ hx).2.1 rfl) h.num, hk _ _ _ _ (fun hx => (h1 _ hx).2.2.1 rfl) h.bs, hk _ _ _ _ (fun hx => (h1 _ hx).2.2.2 rfl) h.bn⟩
theorem ORow.belo (h : ORow w0 B7 out v W) (hb : Below W.heap.size W W') : ORow w0 B7 out v W' := by
  refine ⟨(hb.block _ h.box.lt).trans h.box, ?_, h.isl⟩
  refine h.own.kept (w' := W') (row := none) ⟨hb.os, hb.tape, hb.output, hb.size, fun k hk _ => hb.block k hk⟩ ?_
  rcases h.own.2 with ⟨rfl, _⟩ | ⟨g, cap, cur, rfl, _⟩
  · exact .inl rfl
  · exact .inr (by simp [Value.ownBlock])
theorem ORow.kept (h : ORow w0 B7 out v W) {row : Option Nat} (hg : W.grownBy W' row) (hr : ∀ r, row = some r → ∃ o : Obj, W.heap[r]? = some o ∧ o.isCells = false) : ORow w0 B7 out v W' := by
  refine ⟨cells_kept h.box hg hr, h.own.kept hg ?_, h.isl⟩
  rcases h.own.2 with ⟨rfl, _⟩ | ⟨g, cap, cur, rfl, _, hgb, _⟩
  · exact .inl rfl
  · refine .inr fun e' => ?_
    obtain ⟨o, ho, hc⟩ := hr g (by simpa [Value.ownBlock] using e'.symm)
    rw [hgb] at ho
    cases ho
    cases hc
theorem ORow.drew (h : ORow w0 B7 out v W) : ORow w0 B7 out v W.drew := h.belo ⟨rfl, rfl, rfl, Nat.le_refl _, fun _ _ => rfl⟩
/-- .. where a row of bytes turns, which is none of them. -/
theorem OBase.rowed (h : OBase w0 B7 KS NS A n c b j W) (h0 : QTab w0) {row : Option Nat} (hg : W.grownBy W' row) (hr : ∀ r, row = some r → w0.heap.size ≤ r ∧ ∃ cs f, W.heap[r]? = some (.cells cs 5 f)) : OBase w0 B7 KS NS A n c b j W' := by
  have hlt := h0.lt
  have hk : ∀ (x : Nat) (cs : Array Value) (t : TypeId) (f : Nat × Nat), t ≠ 5 → W.heap[x]? = some (.cells cs t f) → W'.heap[x]? = some (.cells cs t f) := fun x cs t f ht hc => (hg.block x (lt_of_cells hc) (fun e => by
    obtain ⟨_, cs2, f2, h2⟩ := hr x e.symm
    rw [hc] at h2
    injection h2 with h2
    injection h2 with _ h3 _
    exact ht h3)).trans hc
  have hlo : ∀ (x : Nat), x < W.heap.size → x < w0.heap.size → W'.heap[x]? = W.heap[x]? := fun x hx h1 => hg.block x hx (fun e => by
    have := (hr x e.symm).1
    omega)
  exact ⟨h.below.grown hg h.below.size (fun k e => (hr k e).1), hk _ _ _ _ (by decide) h.key, hk _ _ _ _ (by decide) h.non, ⟨fun i hi => (World.cell?_of_block (hlo _ h.tab.lt hlt)).trans (h.tab.at_ i hi)⟩,
    ⟨h.src.len, h.src.cap, h.src.max, fun hn => by
      obtain ⟨x, off, hA, hB, hb, hc⟩ := h.src.row hn
      exact ⟨x, off, hA, hB, Nat.lt_of_lt_of_le hb hg.size, fun i hi => (World.cell?_of_block (w := W) (a := ⟨x, off + i, none⟩) (hlo _ hb hB)).trans (hc i hi)⟩⟩,
    hk _ _ _ _ (by decide) h.num, hk _ _ _ _ (by decide) h.bs, hk _ _ _ _ (by decide) h.bn⟩
/-- The next part's number. -/
theorem OBase.next (h : OBase w0 B7 KS NS A n c b j W) (h0 : QTab w0) (hB : w0.heap.size + 1 < B7) : OBase w0 B7 KS NS A n c b (j + 1) (W.setCell ⟨B7 + 1, 0, none⟩ (.int .u32 (nv (BitVec.ofNat 32 (j + 1))))) := by
  have hg := h0.lt
  have hk : ∀ (x : Nat), x ≠ B7 + 1 → (W.setCell ⟨B7 + 1, 0, none⟩ (.int .u32 (nv (BitVec.ofNat 32 (j + 1))))).heap[x]? = W.heap[x]? := fun x hx => Below.heap_setCell _ _ _ _ hx
  have ht : Turned (· = B7 + 1) W (W.setCell ⟨B7 + 1, 0, none⟩ (.int .u32 (nv (BitVec.ofNat 32 (j + 1))))) := (Turned.refl (· = B7 + 1) W).set (p := B7 + 1) rfl _ _
  exact ⟨h.below.setCell (by dsimp only; omega) _, (hk _ (by omega)).trans h.key, (hk _ (by omega)).trans h.non, h.tab.turned ht (by omega), h.src.turned ht (fun x _ hx hs => by omega), h.num.set _, (hk _ (by omega)).trans h.bs, (hk _ (by omega)).trans h.bn⟩
theorem ORow.other (h : ORow w0 B7 out v W) {p : Nat} (hp : p ≠ B7) {u0 : Value} {t : TypeId} (hb : Boxed W p t u0) (ht : t ≠ 5) (u : Value) : ORow w0 B7 out v (W.setCell ⟨p, 0, none⟩ u) :=
  ⟨(Below.heap_setCell _ _ _ _ (fun e => hp e.symm)).trans h.box, h.own.kept (grownBy_setCell' W p u) (.inr (hb.not_row ht h.own).symm), h.isl⟩
theorem own_row {base : Nat} {e : TypeId} {size k : Nat} {xs : List Value} (h : W.ownsRow base e size v k xs) : ∀ r, v.ownBlock = some r → base ≤ r ∧ ∃ cs f, W.heap[r]? = some (.cells cs e f) := by
  intro r hr
  rcases h.2 with ⟨rfl, _⟩ | ⟨g, cap, cur, rfl, hb, hgb, _⟩
  · simp [Value.ownBlock] at hr
  · obtain rfl : g = r := by simpa [Value.ownBlock] using hr
    exact ⟨hb, _, _, hgb⟩
theorem keeps_grown {row : Option Nat} (hg : W.grownBy W' row) {t : TypeId} (hr : ∀ r, row = some r → ∃ cs f, W.heap[r]? = some (.cells cs t f)) : KeepsOthers W W' :=
  KeepsOthers.of_grownBy hg fun j o ej hj => by
    obtain ⟨cs, f, hc⟩ := hr j ej
    rw [hc] at hj
    cases hj
    rfl
theorem cells_other {row : Option Nat} (hg : W.grownBy W' row) {t t2 : TypeId} (ht : t2 ≠ t) (hr : ∀ r, row = some r → ∃ cs f, W.heap[r]? = some (.cells cs t f)) {p : Nat} {cs : Array Value} {f : Nat × Nat} (h : W.heap[p]? = some (.cells cs t2 f)) : W'.heap[p]? = some (.cells cs t2 f) :=
  (hg.block p (lt_of_cells h) (fun e => by
    obtain ⟨cs2, f2, h2⟩ := hr p e.symm
    rw [h] at h2
    injection h2 with h2
    injection h2 with _ h3 _
    exact ht h3)).trans h
end
end Go.Proofs.YtmgglcllfpikcaaDoor
