/-
  proof.climb: what its iterator's state is, and how it is kept.
-/
import Derived.Test.YtebhlfmianohlaaDoorProofClimbPure
import Derived.Test.YtebhlfmianohlaaDoorGrowF
namespace Go.Proofs.YtebhlfmianohlaaDoor
open Go.RowKit Go.Shelf
attribute [local go_sem] Oper.semAt_some

theorem cells_of_cell {W : World} {a : Addr} {v : Value} (h : W.cell? a = some v) : ∃ o : Obj, W.heap[a.block]? = some o ∧ o.isCells = true := by
  unfold World.cell? at h
  cases ho : W.heap[a.block]? with
  | none => simp [ho] at h
  | some o => exact ⟨o, rfl, by cases o <;> simp_all [Obj.isCells]⟩
theorem Steps.cell {B : Nat} {D : Nat → Prop} {W W' : World} (h : Steps B D W W') {a : Addr} {v : Value} (hc : W.cell? a = some v) (hd : ¬ D a.block) : W'.cell? a = some v := by
  obtain ⟨o, ho, hoc⟩ := cells_of_cell hc
  exact (World.cell?_of_block (h.block _ (Array.getElem?_eq_some_iff.1 ho).1 hd (.inr ⟨o, ho, hoc⟩))).trans hc
theorem Byt.steps {B : Nat} {D S : Nat → Prop} {W W' : World} {A : Option Addr} {n c : Nat} {l : List UInt8} (h : Byt W S A n c l) (hS : Steps B D W W') (hd : ∀ b, S b → ¬ D b) : Byt W' S A n c l :=
  ⟨h.len, h.cap, h.max, fun h0 => by
    obtain ⟨b, off, hA, hSb, hlt, hc⟩ := h.row h0
    exact ⟨b, off, hA, hSb, Nat.lt_of_lt_of_le hlt hS.size, fun i hi => hS.cell (hc i hi) (hd b hSb)⟩⟩
theorem Ids.steps {B : Nat} {D S : Nat → Prop} {W W' : World} {A : Option Addr} {n c : Nat} {l : List (List UInt8)} (h : Ids W S A n c l) (hS : Steps B D W W') (hd : ∀ b, S b → ¬ D b) : Ids W' S A n c l :=
  ⟨h.len, h.each, h.cap, h.max, fun h0 => by
    obtain ⟨b, off, hA, hSb, hlt, hc⟩ := h.row h0
    exact ⟨b, off, hA, hSb, Nat.lt_of_lt_of_le hlt hS.size, fun i j hi hj => hS.cell (hc i j hi hj) (hd b hSb)⟩⟩
theorem Tab.steps {B : Nat} {D : Nat → Prop} {W W' : World} (h : Tab W) (hS : Steps B D W W') (h1 : ¬ D 0) (h2 : ¬ D 1) : Tab W' :=
  ⟨fun i hi => hS.cell (h.first i hi) h1, fun i hi => hS.cell (h.round i hi) h2⟩

abbrev ClV := SlV × List UInt8
def clE (x : ClV) : Array Value := #[.slice x.1.1 x.1.2.1 x.1.2.2, .agg (row8 x.2)]
def climbX (R : List (List UInt8)) (D : Nat → Prop) (pre : List ClV) (W : World) : Prop := pre.length ≤ R.length ∧ ∀ (k : Nat) (x : ClV), pre[k]? = some x → Byt W D x.1.1 x.1.2.1 x.1.2.2 (R[k]?.getD []) ∧ x.2 = shaL (R[k]?.getD [])
section
variable {R : List (List UInt8)} {D D' T : Nat → Prop} {pre : List ClV} {W W' : World}
theorem climbX_turned (h : climbX R D pre W) (ht : Turned T W W') (hd : ∀ b, D b → ¬ T b) : climbX R D pre W' := ⟨h.1, fun k x hx => ⟨(h.2 k x hx).1.turned ht fun b _ hb => hd b hb, (h.2 k x hx).2⟩⟩
theorem climbX_mono (h : climbX R D pre W) (hD : ∀ b, D b → D' b) : climbX R D' pre W := ⟨h.1, fun k x hx => ⟨(h.2 k x hx).1.mono fun b _ hb => hD b hb, (h.2 k x hx).2⟩⟩
theorem climbX_steps (h : climbX R D pre W) {B : Nat} (hS : Steps B T W W') (hd : ∀ b, D b → ¬ T b) : climbX R D pre W' := ⟨h.1, fun k x hx => ⟨(h.2 k x hx).1.steps hS hd, (h.2 k x hx).2⟩⟩
theorem climbX_snoc (h : climbX R D pre W) {x : ClV} (hl : pre.length < R.length) (hx : Byt W D x.1.1 x.1.2.1 x.1.2.2 (R[pre.length]?.getD [])) (h0 : x.2 = shaL (R[pre.length]?.getD [])) : climbX R D (pre ++ [x]) W := by
  refine ⟨by rw [List.length_append]; simp; omega, fun k y hy => ?_⟩
  rcases Nat.lt_trichotomy k pre.length with hk | hk | hk
  · rw [List.getElem?_append_left hk] at hy
    exact h.2 k y hy
  · subst hk
    simp at hy
    subst hy
    exact ⟨hx, h0⟩
  · rw [List.getElem?_eq_none (by rw [List.length_append]; simp; omega)] at hy
    cases hy
end
def orD (A B : Nat → Prop) : Nat → Prop := fun b => A b ∨ B b
/-- What the iterator's contract speaks of. -/
structure ClP where
  B : Nat
  p : Nat
  n : Nat
  i : Nat
  WS : Nat → Prop
  K : Nat → Prop
  Aw : Option Addr
  nw : Nat
  cw : Nat
  way : List (List UInt8)
  R : List (List UInt8)
  J : (Nat → Prop) → List ClV → World → Prop
structure ClF (P : ClP) : Prop where
  hp : P.p + 3 < P.B
  ws : ∀ b, P.WS b → b < P.B
  tb : 0 < P.B ∧ 1 < P.B
  kp : P.K P.p ∧ P.K (P.p + 1) ∧ P.K (P.p + 3)
  kw : ∀ b, P.WS b → P.K b
  kt : ∀ b, tabK b → P.K b
  st : Still P.B P.J
/-- Between its steps: Dr: rows that came; Dx: its own variables. -/
structure ClB (P : ClP) (Dr Dx : Nat → Prop) (opre : List ClV) (W : World) : Prop where
  bs : P.B ≤ W.heap.size
  bnd : Bounds P.B (orD Dr Dx) W
  dis : ∀ b, Dr b → ¬ Dx b
  j : P.J (orD Dr Dx) opre W
  xx : climbX P.R Dr opre W
  bn : W.heap[P.p]? = some (.cells #[.int .i64 (P.n : Int)] 3 (0, 0))
  bi : W.heap[P.p + 1]? = some (.cells #[.int .i64 (P.i : Int)] 3 (0, 0))
  bw : W.heap[P.p + 3]? = some (.cells #[.slice P.Aw P.nw P.cw] 24 (0, 0))
  ids : Ids W P.WS P.Aw P.nw P.cw P.way
  tab : Tab W
section
variable {P : ClP} {Dr Dx Dr' Dx' : Nat → Prop} {opre opre' : List ClV} {W W' : World}
theorem ClB.kept (h : ClB P Dr Dx opre W) (hF : ClF P) (hk : Kept P.B (orD Dr Dx) P.K W W') (hj : P.J (orD Dr Dx) opre' W') (hx : climbX P.R Dr opre' W) : ClB P Dr Dx opre' W' := by
  have hb : ∀ b, P.K b → b < W.heap.size → W'.heap[b]? = W.heap[b]? := fun b hb hlt => hk.turned.block b hlt (fun hn => hn (.inr hb))
  exact ⟨Nat.le_trans h.bs hk.turned.size, h.bnd.grow hk.turned.size, h.dis, hj, climbX_turned hx hk.turned (fun b hb hn => hn (.inl (.inl hb))), (hb _ hF.kp.1 (lt_of_cells h.bn)).trans h.bn, (hb _ hF.kp.2.1 (lt_of_cells h.bi)).trans h.bi, (hb _ hF.kp.2.2 (lt_of_cells h.bw)).trans h.bw,
    h.ids.turned hk.turned (fun b _ hb hn => hn (.inr (hF.kw b hb))), h.tab.kept hk hF.kt⟩
/-- A step of its own. -/
theorem ClB.step (h : ClB P Dr Dx opre W) (hF : ClF P) (ht : Turned Dx W W') (h1 : ∀ b, Dr' b → Dr b ∨ (W.heap.size ≤ b ∧ b < W'.heap.size)) (h1' : ∀ b, Dr b → Dr' b) (h2 : ∀ b, Dx' b → Dx b ∨ (W.heap.size ≤ b ∧ b < W'.heap.size)) (hd : ∀ b, Dr' b → ¬ Dx' b) : ClB P Dr' Dx' opre W' := by
  have hlo : ∀ b, b < P.B → ¬ Dx b := fun b hb hx => by
    have := (h.bnd b (.inr hx)).1
    omega
  have hS : Steps P.B (orD Dr Dx) W W' := ⟨ht.os, ht.tape, ht.output, ht.size, fun b hb hd _ => ht.block b hb (fun hx => hd (.inr hx))⟩
  have hp := hF.hp
  refine ⟨Nat.le_trans h.bs ht.size, fun b hb => ?_, hd, hF.st _ _ _ _ _ h.bnd h.j hS (fun b hb => ?_), climbX_mono (climbX_turned h.xx ht h.dis) h1', (ht.block _ (lt_of_cells h.bn) (hlo _ (by omega))).trans h.bn, (ht.block _ (lt_of_cells h.bi) (hlo _ (by omega))).trans h.bi, (ht.block _ (lt_of_cells h.bw) (hlo _ (by omega))).trans h.bw,
    h.ids.turned ht (fun b _ hb => hlo b (hF.ws b hb)), h.tab.turned ht (hlo _ hF.tb.1) (hlo _ hF.tb.2)⟩
  · have hbs := h.bs
    rcases hb with hb | hb
    · rcases h1 b hb with h3 | h3
      · exact (h.bnd.grow ht.size) b (.inl h3)
      · exact ⟨by omega, h3.2⟩
    · rcases h2 b hb with h3 | h3
      · exact (h.bnd.grow ht.size) b (.inr h3)
      · exact ⟨by omega, h3.2⟩
  · rcases hb with hb | hb
    · exact (h1 b hb).imp (fun h => .inl h) id
    · exact (h2 b hb).imp (fun h => .inr h) id
def newD (Dr : Nat → Prop) (W W' : World) : Nat → Prop := fun b => Dr b ∨ (W.heap.size ≤ b ∧ b < W'.heap.size)
/-- .. that turns variables, and whose new blocks are no variables. -/
theorem ClB.turn (h : ClB P Dr Dx opre W) (hF : ClF P) (ht : Turned Dx W W') : ClB P (newD Dr W W') Dx opre W' :=
  h.step hF ht (fun _ h => h) (fun _ h => .inl h) (fun _ h => .inl h) (fun b hb hx => by
    rcases hb with hb | hb
    · exact h.dis b hb hx
    · have := (h.bnd b (.inr hx)).2
      omega)
theorem ClB.below (h : ClB P Dr Dx opre W) (hF : ClF P) (hb : Below W.heap.size W W') : ClB P (newD Dr W W') Dx opre W' := h.turn hF (Turned.of_below hb)
/-- .. that makes a variable. -/
theorem ClB.var (h : ClB P Dr Dx opre W) (hF : ClF P) (o : Obj) : ClB P Dr (orD Dx (· = W.heap.size)) opre (W.alloc o) :=
  h.step hF (Turned.of_below ((Below.refl _ _).alloc (Nat.le_refl _) _)) (fun _ h => .inl h) (fun _ h => h) (fun b hb => hb.imp id fun e => by rw [e]; simp) (fun b hb hx => by
    rcases hx with hx | hx
    · exact h.dis b hb hx
    · have := (h.bnd b (.inl hb)).2
      omega)
theorem ClB.drew (h : ClB P Dr Dx opre W) (hF : ClF P) : ClB P Dr Dx opre W.drew :=
  h.step hF ⟨rfl, rfl, rfl, Nat.le_refl _, fun _ _ _ => rfl⟩ (fun _ h => .inl h) (fun _ h => h) (fun _ h => .inl h) h.dis
/-- The steps of another iterator, whose blocks are Db. -/
theorem ClB.still {Q Db Db' : Nat → Prop} {b2 : Nat} (h : ClB P Dr (orD Q Db) opre W) (hF : ClF P) (hB : P.B ≤ b2) (hb : Bounds b2 Db W) (hS : Steps b2 Db W W') (hD : ∀ b, Db' b → Db b ∨ (W.heap.size ≤ b ∧ b < W'.heap.size)) : ClB P Dr (orD Q Db') opre W' := by
  have hp := hF.hp
  have hlo : ∀ b, b < P.B → ¬ Db b := fun b hb2 hx => by
    have := (hb b hx).1
    omega
  have hS2 : Steps P.B (orD Dr (orD Q Db)) W W' := ⟨hS.os, hS.tape, hS.output, hS.size, fun b hb hd hc => hS.block b hb (fun hx => hd (.inr (.inr hx))) (hc.imp (fun h => by omega) id)⟩
  refine ⟨Nat.le_trans h.bs hS.size, fun b hb => ?_, fun b hb hx => ?_, hF.st _ _ _ _ _ h.bnd h.j hS2 (fun b hb => ?_), climbX_steps h.xx hS (fun b hb hx => h.dis b hb (.inr hx)), hS.cells h.bn (hlo _ (by omega)), hS.cells h.bi (hlo _ (by omega)), hS.cells h.bw (hlo _ (by omega)), h.ids.steps hS (fun b hb => hlo b (hF.ws b hb)), h.tab.steps hS (hlo _ hF.tb.1) (hlo _ hF.tb.2)⟩
  · rcases hb with hb | hb | hb
    · exact (h.bnd.grow hS.size) b (.inl hb)
    · exact (h.bnd.grow hS.size) b (.inr (.inl hb))
    · rcases hD b hb with h3 | h3
      · exact (h.bnd.grow hS.size) b (.inr (.inr h3))
      · have := h.bs
        exact ⟨by omega, h3.2⟩
  · rcases hx with hx | hx
    · exact h.dis b hb (.inl hx)
    · rcases hD b hx with hx | hx
      · exact h.dis b hb (.inr hx)
      · have := (h.bnd b (.inl hb)).2
        omega
  · rcases hb with hb | hb | hb
    · exact .inl (.inl hb)
    · exact .inl (.inr (.inl hb))
    · exact (hD b hb).imp (fun h => .inr (.inr h)) id
end
/-- .. where a row stands ready, and its digest. -/
structure ClS (P : ClP) (l q5 q6 q7 : Nat) (Dr Dx : Nat → Prop) (opre : List ClV) (s6 : SlV) (row x : List UInt8) (W : World) : Prop where
  b : ClB P Dr Dx opre W
  x5 : Boxed W q5 88 (.func (.yield l) #[] #[])
  x6 : Boxed W q6 22 (.slice s6.1 s6.2.1 s6.2.2)
  x7 : W.heap[q7]? = some (.cells (row8 x) 31 (0, 0))
  d : Dx q5 ∧ Dx q6 ∧ Dx q7
  ne : q5 ≠ q6 ∧ q5 ≠ q7 ∧ q6 ≠ q7
  row : Byt W Dr s6.1 s6.2.1 s6.2.2 row
  sz : x.length = 32
section
variable {P : ClP} {l q5 q6 q7 : Nat} {Dr Dx Dr' Dx' : Nat → Prop} {opre opre' : List ClV} {s6 : SlV} {row x : List UInt8} {W W' : World}
theorem ClS.next (h : ClS P l q5 q6 q7 Dr Dx opre s6 row x W) (hl : opre.length < P.R.length) (hr : P.R[opre.length]?.getD [] = row) (hx : x = shaL row) : climbX P.R Dr (opre ++ [(s6, x)]) W :=
  climbX_snoc h.b.xx hl (by rw [hr]; exact h.row) (by rw [hr]; exact hx)
theorem ClS.kept (h : ClS P l q5 q6 q7 Dr Dx opre s6 row x W) (hF : ClF P) (hk : Kept P.B (orD Dr Dx) P.K W W') (hj : P.J (orD Dr Dx) opre' W') (hx : climbX P.R Dr opre' W) : ClS P l q5 q6 q7 Dr Dx opre' s6 row x W' := by
  have hb : ∀ b, Dx b → b < W.heap.size → W'.heap[b]? = W.heap[b]? := fun b hb hlt => hk.turned.block b hlt (fun hn => hn (.inl (.inr hb)))
  exact ⟨h.b.kept hF hk hj hx, (hb _ h.d.1 h.x5.lt).trans h.x5, (hb _ h.d.2.1 h.x6.lt).trans h.x6, (hb _ h.d.2.2 (lt_of_cells h.x7)).trans h.x7, h.d, h.ne, h.row.turned hk.turned (fun b _ hb hn => hn (.inl (.inl hb))), h.sz⟩
theorem ClS.below (h : ClS P l q5 q6 q7 Dr Dx opre s6 row x W) (hF : ClF P) (hb : Below W.heap.size W W') : ClS P l q5 q6 q7 (newD Dr W W') Dx opre s6 row x W' :=
  ⟨h.b.below hF hb, (hb.block _ h.x5.lt).trans h.x5, (hb.block _ h.x6.lt).trans h.x6, (hb.block _ (lt_of_cells h.x7)).trans h.x7, h.d, h.ne, (h.row.mono (T := newD Dr W W') fun _ _ hb => .inl hb).below hb, h.sz⟩
/-- Variables are turned; the row and its digest are told anew. -/
theorem ClS.turn (h : ClS P l q5 q6 q7 Dr Dx opre s6 row x W) (hF : ClF P) (ht : Turned Dx W W') (h5 : Boxed W' q5 88 (.func (.yield l) #[] #[])) {s6' : SlV} {row' x' : List UInt8} (h6 : Boxed W' q6 22 (.slice s6'.1 s6'.2.1 s6'.2.2)) (h7 : W'.heap[q7]? = some (.cells (row8 x') 31 (0, 0)))
    (hr : Byt W' (newD Dr W W') s6'.1 s6'.2.1 s6'.2.2 row') (hs : x'.length = 32) : ClS P l q5 q6 q7 (newD Dr W W') Dx opre s6' row' x' W' :=
  ⟨h.b.turn hF ht, h5, h6, h7, h.d, h.ne, hr, hs⟩
theorem ClS.var (h : ClS P l q5 q6 q7 Dr Dx opre s6 row x W) (hF : ClF P) (o : Obj) : ClS P l q5 q6 q7 Dr (orD Dx (· = W.heap.size)) opre s6 row x (W.alloc o) :=
  ⟨h.b.var hF o, h.x5.alloc o, h.x6.alloc o, (Below.heap_alloc _ _ _ (lt_of_cells h.x7)).trans h.x7, ⟨.inl h.d.1, .inl h.d.2.1, .inl h.d.2.2⟩, h.ne, h.row.alloc o, h.sz⟩
theorem ClS.still {Q Db Db' : Nat → Prop} {b2 : Nat} (h : ClS P l q5 q6 q7 Dr (orD Q Db) opre s6 row x W) (hQ : Q q5 ∧ Q q6 ∧ Q q7) (hq : q5 < b2 ∧ q6 < b2 ∧ q7 < b2) (hF : ClF P) (hB : P.B ≤ b2) (hb : Bounds b2 Db W) (hS : Steps b2 Db W W') (hD : ∀ b, Db' b → Db b ∨ (W.heap.size ≤ b ∧ b < W'.heap.size)) : ClS P l q5 q6 q7 Dr (orD Q Db') opre s6 row x W' := by
  have hlo : ∀ b, b < b2 → ¬ Db b := fun b hb2 hx => by
    have := (hb b hx).1
    omega
  exact ⟨h.b.still hF hB hb hS hD, hS.boxed h.x5 (hlo _ hq.1), hS.boxed h.x6 (hlo _ hq.2.1), hS.cells h.x7 (hlo _ hq.2.2), ⟨.inl hQ.1, .inl hQ.2.1, .inl hQ.2.2⟩, h.ne, h.row.steps hS (fun b hb hx => h.b.dis b hb (.inr hx)), h.sz⟩
theorem ClS.drew (h : ClS P l q5 q6 q7 Dr Dx opre s6 row x W) (hF : ClF P) : ClS P l q5 q6 q7 Dr Dx opre s6 row x W.drew := ⟨h.b.drew hF, h.x5, h.x6, h.x7, h.d, h.ne, h.row.drew, h.sz⟩
theorem Boxed.kept2 {B : Nat} {D K : Nat → Prop} {q : Nat} {t : TypeId} {v : Value} (h : Boxed W q t v) (hk : Kept B D K W W') (hd : D q) : Boxed W' q t v := (hk.turned.block _ h.lt (fun hn => hn (.inl hd))).trans h
end
/-- What stands in row's variable behind the region that puts two digests together. -/
def P6 (q6 lo : Nat) (row : List UInt8) (W : World) : Prop := ∃ g c', Boxed W q6 22 (.slice (some ⟨g, 0, none⟩) 65 c') ∧ Byt W (lo ≤ ·) (some ⟨g, 0, none⟩) 65 c' row
structure G6 (q6 lo : Nat) (row : List UInt8) (W W' : World) : Prop where
  turned : Turned (· = q6) W W'
  p6 : P6 q6 lo row W → P6 q6 lo row W'
  b6 : (∃ v, Boxed W q6 22 v) → ∃ v, Boxed W' q6 22 v
theorem G6.refl (q6 lo : Nat) (row : List UInt8) (W : World) : G6 q6 lo row W W := ⟨Turned.refl _ _, id, id⟩
theorem G6.trans {q6 lo : Nat} {row : List UInt8} {A B C : World} (h : G6 q6 lo row A B) (k : G6 q6 lo row B C) : G6 q6 lo row A C := ⟨h.turned.trans k.turned fun _ _ h => h, fun x => k.p6 (h.p6 x), fun x => k.b6 (h.b6 x)⟩
theorem G6.of_below {q6 lo : Nat} {row : List UInt8} {A B : World} (h : Below A.heap.size A B) : G6 q6 lo row A B :=
  ⟨Turned.of_below h, fun ⟨g, c', h1, h2⟩ => ⟨g, c', (h.block _ h1.lt).trans h1, h2.below h⟩, fun ⟨v, hv⟩ => ⟨v, (h.block _ hv.lt).trans hv⟩⟩
/-- The outer law's word at a round that ends the walk. -/
structure ClX (P : ClP) (Jx : (Nat → Prop) → List ClV → World → Prop) (b2 : Nat) (Dr Dx : Nat → Prop) (opre : List ClV) (W : World) : Prop where
  bs : P.B ≤ W.heap.size
  bnd : Bounds P.B (orD Dr Dx) W
  dis : ∀ b, Dr b → ¬ Dx b
  xx : climbX P.R Dr opre W
  j : Jx (orD Dr Dx) opre W
  far : ∀ b, Dr b → b < b2 ∨ b2 + 2 ≤ b
theorem ClX.still {P : ClP} {Jx : (Nat → Prop) → List ClV → World → Prop} (hJx : Still P.B Jx) {b2 : Nat} {Dr Q Db Db' : Nat → Prop} {opre : List ClV} {W W' : World} (h : ClX P Jx b2 Dr (orD Q Db) opre W) (hB : P.B ≤ b2) (hS : Steps b2 Db W W') (hD : ∀ b, Db' b → Db b ∨ (W.heap.size ≤ b ∧ b < W'.heap.size)) : ClX P Jx b2 Dr (orD Q Db') opre W' := by
  have hS2 : Steps P.B (orD Dr (orD Q Db)) W W' := ⟨hS.os, hS.tape, hS.output, hS.size, fun b hb hd hc => hS.block b hb (fun hx => hd (.inr (.inr hx))) (hc.imp (fun h => by omega) id)⟩
  refine ⟨Nat.le_trans h.bs hS.size, fun b hb => ?_, fun b hb hx => ?_, climbX_steps h.xx hS (fun b hb hx => h.dis b hb (.inr hx)), hJx _ _ _ _ _ h.bnd h.j hS2 (fun b hb => ?_), h.far⟩
  · rcases hb with hb | hb | hb
    · exact (h.bnd.grow hS.size) b (.inl hb)
    · exact (h.bnd.grow hS.size) b (.inr (.inl hb))
    · rcases hD b hb with h3 | h3
      · exact (h.bnd.grow hS.size) b (.inr (.inr h3))
      · have := h.bs
        exact ⟨by omega, h3.2⟩
  · rcases hx with hx | hx
    · exact h.dis b hb (.inl hx)
    · rcases hD b hx with hx | hx
      · exact h.dis b hb (.inr hx)
      · have := (h.bnd b (.inl hb)).2
        omega
  · rcases hb with hb | hb | hb
    · exact .inl (.inl hb)
    · exact .inl (.inr (.inl hb))
    · exact (hD b hb).imp (fun h => .inr (.inr h)) id
/-- Between two rounds of the loop over what stands beside. -/
def ClI (P : ClP) (l q5 q6 q7 q8 b2 : Nat) (Q : Nat → Prop) (X0 : List UInt8) (Db : Nat → Prop) (pre : List (Nat × Nat)) (W : World) : Prop :=
  ∃ Dr opre s6 row, ClS P l q5 q6 q7 Dr (orD Q Db) opre s6 row (upX pre (P.way.take pre.length) X0) W ∧ opre.length = pre.length + 1 ∧ Boxed W q8 3 (.int .i64 (pre.length : Int)) ∧ ∀ b, Dr b → b < b2 ∨ b2 + 2 ≤ b
theorem ClI.still {P : ClP} {l q5 q6 q7 q8 b2 : Nat} {Q : Nat → Prop} {X0 : List UInt8} (hF : ClF P) (hB : P.B ≤ b2) (hQ : Q q5 ∧ Q q6 ∧ Q q7) (hq : q5 < b2 ∧ q6 < b2 ∧ q7 < b2) (hq8 : q8 < b2) : Still b2 (ClI P l q5 q6 q7 q8 b2 Q X0) := by
  rintro D D' s W W' hb ⟨Dr, opre, s6, row, h, hl, h8, hf⟩ hS hD
  exact ⟨Dr, opre, s6, row, h.still hQ hq hF hB hb hS hD, hl, hS.boxed h8 (fun hx => by have := (hb _ hx).1; omega), hf⟩
theorem turned_putObj (W : World) (E : Nat) (o : Obj) : Turned (· = E) W (W.putObj E o) := ⟨rfl, rfl, rfl, by simp, fun _ _ hk => World.putObj_heap_other hk⟩
theorem ClX.fin {P : ClP} {Jx : (Nat → Prop) → List ClV → World → Prop} (hJx : Still P.B Jx) {b2 : Nat} {Dr Dx : Nat → Prop} {opre : List ClV} {W : World} (h : ClX P Jx b2 Dr Dx opre W) {E : Nat} (hE : E = b2) (hB : P.B ≤ b2) (hK : W.heap[E]? = some (.deferred (some []))) (o : Obj) :
    ∃ D, Bounds P.B D (W.putObj E o) ∧ ∃ pre, climbX P.R D pre (W.putObj E o) ∧ Jx D pre (W.putObj E o) :=
  ⟨orD Dr Dx, h.bnd.grow (by simp), opre, climbX_mono (climbX_turned h.xx (turned_putObj W E o) (fun b hb e => by have := h.far b hb; omega)) (fun _ h => .inl h), hJx _ _ _ _ _ h.bnd h.j (Steps.putObj o (by omega) hK rfl) (fun _ h => .inl h)⟩
theorem cl_fin {P : ClP} {J : (Nat → Prop) → List ClV → World → Prop} (hJ : Still P.B J) {Dr Dx : Nat → Prop} {pre : List ClV} {w : World} (hb : Bounds P.B (orD Dr Dx) w) (hx : climbX P.R Dr pre w) (hj : J (orD Dr Dx) pre w) {E : Nat} (hE : w.heap[E]? = some (.deferred (some []))) (hB : P.B ≤ E) (hd : ¬ Dr E) (o : Obj) :
    ∃ D, Bounds P.B D (w.putObj E o) ∧ climbX P.R D pre (w.putObj E o) ∧ J D pre (w.putObj E o) :=
  ⟨orD Dr Dx, hb.grow (by simp), climbX_mono (climbX_turned hx (turned_putObj w E o) (fun b hb e => hd (e ▸ hb))) (fun _ h => .inl h), hJ _ _ _ _ _ hb hj (Steps.putObj o hB hE rfl) (fun _ h => .inl h)⟩
theorem upX_snoc {pre : List (Nat × Nat)} {way : List (List UInt8)} {X0 : List UInt8} (x : Nat × Nat) (h : pre.length < way.length) : upX (pre ++ [x]) (way.take (pre ++ [x]).length) X0 = shaL (pairR x.2 (way[pre.length]?.getD []) (upX pre (way.take pre.length) X0)) := by
  have e : way.take (pre ++ [x]).length = way.take pre.length ++ [way[pre.length]?.getD []] := by
    rw [List.length_append, List.length_singleton, List.take_succ_eq_append_getElem h, List.getElem?_eq_getElem h]
    rfl
  rw [e, upX_app _ _ _ _ _ (by rw [List.length_take]; omega)]
  rfl
theorem far_new {Dr : Nat → Prop} {W W' : World} {b2 : Nat} (h : ∀ b, Dr b → b < b2 ∨ b2 + 2 ≤ b) (hw : b2 + 2 ≤ W.heap.size) : ∀ b, newD Dr W W' b → b < b2 ∨ b2 + 2 ≤ b := fun b hb => by
  rcases hb with hb | hb
  · exact h b hb
  · omega
end Go.Proofs.YtebhlfmianohlaaDoor
