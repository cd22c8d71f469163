/-
  A range over a function whose iterator makes memory of its own and hands out what lies in it: what the iterator promises (Iter), and the law for the loop.
-/
import Derived.Test.YtkhbmgmppoepjaaMem
import Derived.RangeFuncNested
import Derived.RangeFuncBound
import Derived.RangeFuncCalls
import Derived.RangeFuncLeaves
namespace Go.Proofs.Ytkhbmgmppoepjaa
open Go.RowKit

/-- A step that turns blocks of D alone, and such from B on as are no cells. -/
structure Steps (B : Nat) (D : Nat → Prop) (W W' : World) : Prop where
  os : W'.os = W.os
  tape : W'.tape = W.tape
  output : W'.output = W.output
  size : W.heap.size ≤ W'.heap.size
  block : ∀ b, b < W.heap.size → ¬ D b → (b < B ∨ ∃ o : Obj, W.heap[b]? = some o ∧ o.isCells = true) → W'.heap[b]? = W.heap[b]?
theorem Steps.of_turned {B : Nat} {D : Nat → Prop} {W W' : World} (h : Turned D W W') : Steps B D W W' := ⟨h.os, h.tape, h.output, h.size, fun b hb hd _ => h.block b hb hd⟩
theorem Steps.of_below {B : Nat} {D : Nat → Prop} {W W' : World} (h : Below W.heap.size W W') : Steps B D W W' := ⟨h.os, h.tape, h.output, h.size, fun b hb _ _ => h.block b hb⟩
theorem Steps.lower {B B' : Nat} {D : Nat → Prop} {W W' : World} (h : Steps B' D W W') (hB : B ≤ B') : Steps B D W W' :=
  ⟨h.os, h.tape, h.output, h.size, fun b hb hd hc => h.block b hb hd (hc.imp (fun h => by omega) id)⟩
theorem Steps.putObj {B : Nat} {D : Nat → Prop} {W : World} {l : Nat} {o : Obj} (o' : Obj) (hB : B ≤ l) (hl : W.heap[l]? = some o) (ho : o.isCells = false) : Steps B D W (W.putObj l o') :=
  ⟨rfl, rfl, rfl, by simp, fun b _ _ hc => World.putObj_heap_other (by
    rintro rfl
    rcases hc with hc | ⟨o2, h2, h3⟩
    · omega
    · rw [hl] at h2
      cases h2
      rw [ho] at h3
      cases h3)⟩
/-- A cells' block that is none of D's stays. -/
theorem Steps.cells {B : Nat} {D : Nat → Prop} {W W' : World} (h : Steps B D W W') {b : Nat} {cs : Array Value} {t : TypeId} {f : Nat × Nat} (hb : W.heap[b]? = some (.cells cs t f)) (hd : ¬ D b) : W'.heap[b]? = some (.cells cs t f) :=
  (h.block b (Array.getElem?_eq_some_iff.1 hb).1 hd (.inr ⟨_, hb, rfl⟩)).trans hb
theorem Steps.boxed {B : Nat} {D : Nat → Prop} {W W' : World} (h : Steps B D W W') {b : Nat} {v : Value} {t : TypeId} (hb : Boxed W b t v) (hd : ¬ D b) : Boxed W' b t v := h.cells hb hd
def Bounds (B : Nat) (D : Nat → Prop) (W : World) : Prop := ∀ b, D b → B ≤ b ∧ b < W.heap.size
theorem Bounds.none_ (B : Nat) (W : World) : Bounds B (fun _ => False) W := fun _ h => h.elim
theorem Bounds.grow {B : Nat} {D : Nat → Prop} {W W' : World} (h : Bounds B D W) (hs : W.heap.size ≤ W'.heap.size) : Bounds B D W' := fun b hb => ⟨(h b hb).1, Nat.lt_of_lt_of_le (h b hb).2 hs⟩
theorem Bounds.not {B b : Nat} {D : Nat → Prop} {W : World} (h : Bounds B D W) (hb : b < B) : ¬ D b := fun hd => by
  have := (h b hd).1
  omega
theorem Steps.below {B n0 : Nat} {D : Nat → Prop} {w0 W W' : World} (h : Steps B D W W') (hb : Below n0 w0 W) (hB : Bounds B D W) (h0 : n0 ≤ w0.heap.size) (h1 : n0 ≤ B) : Below n0 w0 W' :=
  hb.trans ⟨h.os, h.tape, h.output, h.size, fun k hk => h.block k (by have := hb.size; omega) (hB.not (by omega)) (.inl (by omega))⟩
/-- What does not mind the other's steps. -/
def Still {σ : Type} (B : Nat) (J : (Nat → Prop) → σ → World → Prop) : Prop :=
  ∀ (D D' : Nat → Prop) (s : σ) (W W' : World), Bounds B D W → J D s W → Steps B D W W' → (∀ b, D' b → D b ∨ (W.heap.size ≤ b ∧ b < W'.heap.size)) → J D' s W'
theorem still_false {σ : Type} (B : Nat) : Still B (fun _ (_ : σ) _ => False) := fun _ _ _ _ _ _ h _ _ => h
/-- What a round keeps: the iterator's blocks, those of K, and whatever from B on is no cells. -/
structure Kept (B : Nat) (D K : Nat → Prop) (W W' : World) : Prop where
  turned : Turned (fun b => ¬ (D b ∨ K b)) W W'
  keeps : KeepsFrom B W W'
theorem Kept.refl (B : Nat) (D K : Nat → Prop) (W : World) : Kept B D K W W := ⟨Turned.refl _ _, KeepsFrom.refl _ _⟩
theorem Kept.trans {B : Nat} {D K : Nat → Prop} {X Y Z : World} (h : Kept B D K X Y) (k : Kept B D K Y Z) : Kept B D K X Z := ⟨h.turned.trans k.turned fun _ _ h => h, h.keeps.trans k.keeps⟩
theorem Kept.raise {B B' : Nat} {D K : Nat → Prop} {W W' : World} (h : Kept B D K W W') (hB : B ≤ B') : Kept B' D K W W' := ⟨h.turned, ⟨h.keeps.size, fun k o hk => h.keeps.same k o (by omega)⟩⟩
theorem Kept.of_below {B : Nat} {D K : Nat → Prop} {W W' : World} (h : Below W.heap.size W W') : Kept B D K W W' :=
  ⟨Turned.of_below h, ⟨h.size, fun k _ _ hk _ => (h.block k (Array.getElem?_eq_some_iff.1 hk).1).trans hk⟩⟩
/-- One old block, of cells, which is none of the iterator's. -/
theorem Kept.of_gr {B : Nat} {D K : Nat → Prop} {W W' : World} {row : Option Nat} (h : W.grownBy W' row) (hr : ∀ g, row = some g → ¬ D g ∧ ¬ K g ∧ ∃ cs t f, W.heap[g]? = some (.cells cs t f)) : Kept B D K W W' :=
  ⟨Turned.of_gr h fun g e => by
      have := hr g e
      rintro (h1 | h1)
      · exact this.1 h1
      · exact this.2.1 h1,
   ⟨h.size, fun k o _ hk ho => (h.block k (Array.getElem?_eq_some_iff.1 hk).1 (fun e => by
      obtain ⟨_, _, cs, t, f, hc⟩ := hr k e.symm
      rw [hk] at hc
      cases hc
      cases ho)).trans hk⟩⟩
theorem Kept.of_turned {B q : Nat} {D K : Nat → Prop} {W W' : World} (h : Turned (· = q) W W') {cs : Array Value} {t : TypeId} {f : Nat × Nat} (hc : W.heap[q]? = some (.cells cs t f)) (hd : ¬ D q) (hk : ¬ K q) : Kept B D K W W' :=
  ⟨h.mono fun b _ e => by
      subst e
      exact fun hn => hn.elim hd hk,
   ⟨h.size, fun k o _ hk2 ho => (h.block k (Array.getElem?_eq_some_iff.1 hk2).1 (fun e => by
      rw [e, hc] at hk2
      cases hk2
      cases ho)).trans hk2⟩⟩
theorem Kept.inner {B B' : Nat} {D D' K K' : Nat → Prop} {W W' : World} (h : Kept B D K W W') (hB : B ≤ B') (hD : ∀ b, D' b → D b) (hK : ∀ b, K' b → K b ∨ D b) : Kept B' D' K' W W' :=
  ⟨h.turned.mono fun b _ hn hh => hn (by
      rcases hh with hh | hh
      · exact .inl (hD b hh)
      · exact (hK b hh).symm), (h.raise hB).keeps⟩
theorem Kept.putObj {B : Nat} {D K : Nat → Prop} {W : World} {l : Nat} (o' : Obj) (hB : l < B) (hd : ¬ D l) (hk : ¬ K l) : Kept B D K W (W.putObj l o') :=
  ⟨⟨rfl, rfl, rfl, by simp, fun b _ hb => World.putObj_heap_other (by
      rintro rfl
      exact hb (fun h => h.elim hd hk))⟩,
   ⟨by simp, fun _ _ _ hk _ => (World.putObj_heap_other (by omega)).trans hk⟩⟩
theorem RoundIn.wide {m m' : Nat} {P : Program} {l : Nat} {f : FuncId} {tmps : Array Value} {assign body : Code} {w : World} {R : Ending → World → Prop} (h : RoundIn Fence.wide m P l f tmps assign body w R) : RoundIn Fence.wide m' P l f tmps assign body w R :=
  ⟨h.1, fun c cs _ => h.2 c cs (room_wide _)⟩

theorem RoundIn.wideIn {m m' : Nat} (l' : Nat) {P : Program} {l : Nat} {f : FuncId} {tmps : Array Value} {assign body : Code} {w : World} {R : Ending → World → Prop} (h : RoundIn Fence.wide m P l f tmps assign body w R) : RoundIn (Fence.wide.inRound l') m' P l f tmps assign body w R :=
  (RoundIn.wide h : RoundIn Fence.wide m' P l f tmps assign body w R)

/-- THE ITERATOR's PROMISE. X: what is known of what has come; K: blocks that rounds must leave alone. -/
def Iter {α : Type} (P : Program) (g : Nat) (lb : Array Value) (encs : α → Array Value) (K : Nat → Prop) (X : (Nat → Prop) → List α → World → Prop) (S : List α → Prop) (w : World) : Prop :=
  (∀ D s W W', X D s W → Turned (fun b => ¬ (D b ∨ K b)) W W' → X D s W') ∧
  ∀ (l : Nat) (J Jx : (Nat → Prop) → List α → World → Prop) (W : World), Below w.heap.size w W → Still W.heap.size J → Still W.heap.size Jx →
    (∀ D pre x W1, Bounds W.heap.size D W1 → J D pre W1 → X D (pre ++ [x]) W1 → YieldAt Fence.wide 1 P l (encs x) W1 fun e W' =>
      (e = .returned (.bool true) ∧ J D (pre ++ [x]) W' ∧ Kept W.heap.size D K W1 W') ∨ (e = .returned (.bool false) ∧ Jx D (pre ++ [x]) W' ∧ Kept W.heap.size D K W1 W')) →
    J (fun _ => False) [] W →
    Calls P g (#[.func (.yield l) #[] #[]] ++ lb) W fun e W' => (∃ v, e = .returned v) ∧ ∃ D, Bounds W.heap.size D W' ∧ ((∃ xs, S xs ∧ X D xs W' ∧ J D xs W') ∨ (∃ pre, X D pre W' ∧ Jx D pre W'))

/-- How a round's body may be left. -/
def itPost {α : Type} (B : Nat) (K : Nat → Prop) (I : (Nat → Prop) → List α → World → Prop) (Ix : Code → (Nat → Prop) → List α → World → Prop) (D : Nat → Prop) (xs : List α) (W : World) : Exit → Act → World → Prop
  | .normal, _, W' => Kept B D K W W' ∧ I D xs W'
  | .ret, _, W' => Kept B D K W W' ∧ Ix .ret D xs W'
  | .exit id, _, W' => Kept B D K W W' ∧ Ix (.exit id) D xs W'
  | .goto t, _, W' => Kept B D K W W' ∧ Ix (.goto t) D xs W'
  | .panic _, _, _ => False
  | .outgrown, _, _ => False

/-- THE LAW. -/
theorem wpIn_rangeFunc_it {α : Type} {P : Program} {g : Operand} {ps : Array Tmp} {assign body : Code} {Q : Exit → Act → World → Prop} {a : Act} {w : World}
    {gf : Nat} {lb : Array Value} (hg : a.eval g = .func (.func gf) #[] lb) (eg : ∀ args w, (callFunc gf args).run P w = .ok (.enter gf args) w)
    {encs : α → Array Value} {K : Nat → Prop} {X : (Nat → Prop) → List α → World → Prop} {S : List α → Prop} {w0 : World} (hseq : Iter P gf lb encs K X S w0) (hb0 : Below w0.heap.size w0 w) (hK : ∀ b, K b → b < w.heap.size) (hps : ∀ x, (encs x).size = ps.size)
    (I : (Nat → Prop) → List α → World → Prop) (Ix : Code → (Nat → Prop) → List α → World → Prop) (hI : Still w.heap.size I) (hIx : ∀ c, Still w.heap.size (Ix c)) (h0 : I (fun _ => False) [] w)
    (Ax : α → Act → World → Prop) (hAx : ∀ x a', OwnFrom w.heap.size (fun (_ : Unit) W => Ax x a' W))
    (hassign : ∀ (l : Nat) (D : Nat → Prop) (pre : List α) (x : α) (W : World) (C : Act → World → Prop), Bounds (w.heap.size + 2) D W → I D pre W → X D (pre ++ [x]) W → (∀ a' W', Kept w.heap.size D K W W' → I D pre W' → Ax x a' W' → C a' W') →
      assign.wpIn (Fence.wide.inRound l) 1 P (Exit.then C (fun _ _ _ => False)) { tmps := (ps.zip (encs x)).foldl (fun t (p, v) => t.setIfInBounds p v) a.tmps, defers := [] } W)
    (hbody : ∀ (l : Nat) (D : Nat → Prop) (pre : List α) (x : α) (a' : Act) (W : World), w.heap.size ≤ l → w.heap.size + 2 ≤ W.heap.size → Bounds (w.heap.size + 2) D W → I D pre W → X D (pre ++ [x]) W → Ax x a' W → body.wpIn (Fence.wide.inRound l) 1 P (itPost w.heap.size K I Ix D (pre ++ [x]) W) a' W)
    (hdone : ∀ (E : Nat) (D : Nat → Prop) (xs : List α) (W : World), E = w.heap.size → w.heap.size + 2 ≤ W.heap.size → Bounds (w.heap.size + 2) D W → S xs → X D xs W → I D xs W → W.heap[E]? = some (.deferred (some [])) → Q .normal { a with defers := { target := .collected E, args := #[] } :: a.defers } W)
    (hstop : ∀ (E : Nat) (D : Nat → Prop) (c : Code) (pre : List α) (W : World), E = w.heap.size → w.heap.size + 2 ≤ W.heap.size → Bounds (w.heap.size + 2) D W → X D pre W → Ix c D pre W → W.heap[E]? = some (.deferred (some [])) → c.wpIn Fence.wide 3 P Q { a with defers := { target := .collected E, args := #[] } :: a.defers } W) :
    (Code.rangeFunc g ps assign body).wpIn Fence.wide 3 P Q a w := by
  refine wpIn_rangeFunc ?_
  intro fn hfn
  obtain ⟨rec, hrec⟩ : ∃ rec : LoopState → Option Code → Loop, rec = fun st pe => { state := st, pending := pe, fn, tmps := a.tmps, params := ps, assign, body, defers := w.heap.size } := ⟨_, rfl⟩
  obtain ⟨W1, hW1⟩ : ∃ W1, (w.alloc (.deferred (some []))).alloc (.loop (rec .ready none)) = W1 := ⟨_, rfl⟩
  have hs1 : W1.heap.size = w.heap.size + 2 := by rw [← hW1]; simp
  have hL1 : W1.heap[w.heap.size + 1]? = some (.loop (rec .ready none)) := by
    rw [← hW1]
    have := World.alloc_heap_new (w.alloc (.deferred (some []))) (.loop (rec .ready none))
    rwa [World.size_alloc] at this
  have hD1 : W1.heap[w.heap.size]? = some (.deferred (some [])) := by
    rw [← hW1]
    exact (Below.heap_alloc _ _ _ (by simp)).trans (World.alloc_heap_new w _)
  have hb01 : Below w.heap.size w W1 := by
    rw [← hW1]
    exact ((Below.refl _ w).alloc (Nat.le_refl _) _).alloc (by simp) _
  have hI1 : I (fun _ => False) [] W1 := hI _ _ _ _ _ (Bounds.none_ _ _) h0 (Steps.of_below hb01) (fun _ h => .inl h)
  have hb1 : Below w0.heap.size w0 W1 := hb0.trans (hb01.mono hb0.size)
  have hnK : ∀ b, w.heap.size ≤ b → ¬ K b := fun b hb hk => by
    have := hK b hk
    omega
  -- the record's and the deferred block's facts don't mind the iterator's steps
  have hrk : ∀ {D : Nat → Prop} {A C : World} {o : Obj} {b : Nat}, Bounds W1.heap.size D A → Steps W1.heap.size D A C → b < W1.heap.size → A.heap[b]? = some o → C.heap[b]? = some o := fun {D A C o b} hB hS hb ho =>
    (hS.block b (Array.getElem?_eq_some_iff.1 ho).1 (fun hd => by have := (hB b hd).1; omega) (.inl hb)).trans ho
  refine ⟨w.heap.size + 1, [{ target := .collected w.heap.size, args := #[] }], W1, { target := .fn (.func gf) lb, args := #[.func (.yield (w.heap.size + 1)) #[] #[]] }, W1, gf,
    #[.func (.yield (w.heap.size + 1)) #[] #[]] ++ lb, W1, ?_, ?_, ?_, ?_, fun _ => by omega, callsIn_wide.2 ?_⟩
  · rw [← hW1, hrec]
    exact run_enterLoop_outer _ _ _ _ _
  · simp only [resolve, hg]
    simp [go_sem]
  · intro f' _
    trivial
  · simp [invoke, go_sem, eg]
  · refine (hseq.2 (w.heap.size + 1)
      (fun D pre W => I D pre W ∧ W.heap[w.heap.size + 1]? = some (.loop (rec .ready none)) ∧ W.heap[w.heap.size]? = some (.deferred (some [])))
      (fun D pre W => ∃ c, Ix c D pre W ∧ W.heap[w.heap.size + 1]? = some (.loop (rec .done (some c))) ∧ W.heap[w.heap.size]? = some (.deferred (some [])))
      W1 hb1
      (fun D D' s A C hB hs hS hD => ⟨hI _ _ _ _ _ (fun b hb => ⟨by have := (hB b hb).1; omega, (hB b hb).2⟩) hs.1 (hS.lower (by omega)) hD, hrk hB hS (by omega) hs.2.1, hrk hB hS (by omega) hs.2.2⟩)
      (fun D D' s A C hB hs hS hD => by
        obtain ⟨c, hc, hl, hk⟩ := hs
        exact ⟨c, hIx c _ _ _ _ _ (fun b hb => ⟨by have := (hB b hb).1; omega, (hB b hb).2⟩) hc (hS.lower (by omega)) hD, hrk hB hS (by omega) hl, hrk hB hS (by omega) hk⟩)
      ?_ ⟨hI1, hL1, hD1⟩).mono ?_
    · -- one round
      rintro D pre x W hB ⟨hi, hl, hk⟩ hx
      rw [hs1] at hB
      have hnD : ¬ D (w.heap.size + 1) := fun h => by have := (hB _ h).1; omega
      have hy := run_yield (P := P) (args := encs x) hl (by rw [hrec]; exact hps x)
      rw [hrec] at hy
      refine ⟨fn, _, assign, body, hy, roundIn_of_wpIn hfn (hassign _ D pre x W _ hB hi hx ?_)⟩
      clear hy
      intro a' Wa hka hia hax
      have hla := hka.keeps.same _ _ (by omega) hl rfl
      have hda := hka.keeps.same _ _ (Nat.le_refl _) hk rfl
      have hxa := hseq.1 _ _ _ _ hx hka.turned
      have hBa := hB.grow hka.turned.size
      have hlt : w.heap.size + 1 < Wa.heap.size := (Array.getElem?_eq_some_iff.1 hla).1
      refine ⟨_, run_beginRound hla (by rw [hrec]), ?_⟩
      obtain ⟨Wb, hWb⟩ : ∃ Wb, Wa.putObj (w.heap.size + 1) (.loop { rec .ready none with state := .busy }) = Wb := ⟨_, rfl⟩
      have hkb : Kept W1.heap.size D K Wa Wb := by
        rw [← hWb]
        exact Kept.putObj _ (by omega) hnD (hnK _ (by omega))
      have hsb : Steps w.heap.size D Wa Wb := by
        rw [← hWb]
        exact Steps.putObj _ (by omega) hla rfl
      have hlb : Wb.heap[w.heap.size + 1]? = some (.loop { rec .ready none with state := .busy }) := by
        rw [← hWb]
        exact World.putObj_heap_same hlt
      have hdb : Wb.heap[w.heap.size]? = some (.deferred (some [])) := by
        rw [← hWb]
        exact (World.putObj_heap_other (by omega)).trans hda
      have hBl : Bounds w.heap.size D Wa := fun b hb => ⟨by have := (hBa b hb).1; omega, (hBa b hb).2⟩
      have hib := hI _ _ _ _ _ hBl hia hsb (fun _ h => .inl h)
      have haxb : Ax x a' Wb := by
        rw [← hWb]
        exact (hAx x a').putObj (s := ()) _ hax (by omega) hla rfl
      rw [hWb]
      refine wpIn_mono (hbody _ D pre x a' Wb (by omega) (by have := hkb.turned.size; omega) (hBa.grow hkb.turned.size) hib (hseq.1 _ _ _ _ hxa hkb.turned) haxb) ?_
      have fin : ∀ (jump : Option Code) (W3 : World), Kept w.heap.size D K Wb W3 →
          (Instr.endRound (w.heap.size + 1) jump).run P W3 = .ok (.bool jump.isNone) (W3.putObj (w.heap.size + 1) (.loop (rec (if jump.isNone then .ready else .done) jump))) ∧
          (W3.putObj (w.heap.size + 1) (.loop (rec (if jump.isNone then .ready else .done) jump))).heap[w.heap.size + 1]? = some (.loop (rec (if jump.isNone then .ready else .done) jump)) ∧
          (W3.putObj (w.heap.size + 1) (.loop (rec (if jump.isNone then .ready else .done) jump))).heap[w.heap.size]? = some (.deferred (some [])) ∧
          Kept W1.heap.size D K W (W3.putObj (w.heap.size + 1) (.loop (rec (if jump.isNone then .ready else .done) jump))) ∧
          Steps w.heap.size D W3 (W3.putObj (w.heap.size + 1) (.loop (rec (if jump.isNone then .ready else .done) jump))) ∧ Bounds w.heap.size D W3 := fun jump W3 hk3 => by
        have hl3 := hk3.keeps.same _ _ (by omega) hlb rfl
        have hd3 := hk3.keeps.same _ _ (Nat.le_refl _) hdb rfl
        have hend := run_endRound (P := P) jump hl3
        rw [hrec] at hend
        refine ⟨by rw [hrec]; exact hend, World.putObj_heap_same (Array.getElem?_eq_some_iff.1 hl3).1, (World.putObj_heap_other (by omega)).trans hd3, ?_, Steps.putObj _ (by omega) hl3 rfl, (hBl.grow hkb.turned.size).grow hk3.turned.size⟩
        exact (hka.raise (by omega)).trans (hkb.trans ((hk3.raise (by omega)).trans (Kept.putObj _ (by omega) hnD (hnK _ (by omega)))))
      rintro e a3 W3 hp
      cases e with
      | normal =>
        obtain ⟨hr, hl4, hd4, hk4, hs4, hB4⟩ := fin none W3 hp.1
        exact ⟨_, _, hr, .inl ⟨rfl, ⟨hI _ _ _ _ _ hB4 hp.2 hs4 (fun _ h => .inl h), hl4, hd4⟩, hk4⟩⟩
      | ret =>
        obtain ⟨hr, hl4, hd4, hk4, hs4, hB4⟩ := fin (some .ret) W3 hp.1
        exact ⟨_, _, hr, .inr ⟨rfl, ⟨.ret, hIx _ _ _ _ _ _ hB4 hp.2 hs4 (fun _ h => .inl h), hl4, hd4⟩, hk4⟩⟩
      | exit id =>
        obtain ⟨hr, hl4, hd4, hk4, hs4, hB4⟩ := fin (some (.exit id)) W3 hp.1
        exact ⟨_, _, hr, .inr ⟨rfl, ⟨.exit id, hIx _ _ _ _ _ _ hB4 hp.2 hs4 (fun _ h => .inl h), hl4, hd4⟩, hk4⟩⟩
      | goto t =>
        obtain ⟨hr, hl4, hd4, hk4, hs4, hB4⟩ := fin (some (.goto t)) W3 hp.1
        exact ⟨_, _, hr, .inr ⟨rfl, ⟨.goto t, hIx _ _ _ _ _ _ hB4 hp.2 hs4 (fun _ h => .inl h), hl4, hd4⟩, hk4⟩⟩
      | panic ch => exact hp.elim
      | outgrown => exact hp.elim
    · -- behind the iterator
      rintro e W2 ⟨⟨v, rfl⟩, D, hB, (⟨xs, hS, hx, hi, hl, hk⟩ | ⟨pre, hx, c, hi, hl, hk⟩)⟩
      · have hnD : ¬ D (w.heap.size + 1) := fun h => by have := (hB _ h).1; omega
        rw [hs1] at hB
        have hBl : Bounds w.heap.size D W2 := fun b hb => ⟨by have := (hB b hb).1; omega, (hB b hb).2⟩
        have hend := run_endLoop (P := P) hl (by rw [hrec]; simp)
        rw [hrec] at hend
        refine ⟨none, _, hend, hdone _ D xs _ rfl (by have := (Array.getElem?_eq_some_iff.1 hl).1; simp; omega) (hB.grow (by simp)) hS (hseq.1 _ _ _ _ hx (Kept.putObj (B := W1.heap.size) _ (by omega) hnD (hnK _ (by omega))).turned) (hI _ _ _ _ _ hBl hi (Steps.putObj _ (by omega) hl rfl) (fun _ h => .inl h)) ((World.putObj_heap_other (by omega)).trans hk)⟩
      · have hnD : ¬ D (w.heap.size + 1) := fun h => by have := (hB _ h).1; omega
        rw [hs1] at hB
        have hBl : Bounds w.heap.size D W2 := fun b hb => ⟨by have := (hB b hb).1; omega, (hB b hb).2⟩
        have hend := run_endLoop (P := P) hl (by rw [hrec]; simp)
        rw [hrec] at hend
        refine ⟨some c, _, hend, hstop _ D c pre _ rfl (by have := (Array.getElem?_eq_some_iff.1 hl).1; simp; omega) (hB.grow (by simp)) (hseq.1 _ _ _ _ hx (Kept.putObj (B := W1.heap.size) _ (by omega) hnD (hnK _ (by omega))).turned) (hIx c _ _ _ _ _ hBl hi (Steps.putObj _ (by omega) hl rfl) (fun _ h => .inl h)) ((World.putObj_heap_other (by omega)).trans hk)⟩
end Go.Proofs.Ytkhbmgmppoepjaa
