/-
  A range over a function whose iterator makes memory of its own and hands out what lies in it: what the iterator promises (Iter), and the law for the loop.
  A range over a function whose iterator keeps state in cells Z that were there ahead of the loop: what it promises (IterZ), and the law for the loop.
  []byte(s) of any string.
  Files: strings.SplitSeq at a slash: what its iterator promises.
  Files: whether a path may be.
-/
import Derived.Test.YtpcoiakdbfihlaaDoorPk01
import Derived.RangeFuncNested
import Derived.RangeFuncBound
import Derived.RangeFuncCalls
import Derived.RangeFuncLeaves
import Derived.Laws.IdiomStrings
import Derived.Test.YtpcoiakdbfihlaaDoorPk02
import Derived.Shelf.Abstract
import Derived.Shelf.RegionOpen
import Derived.OwnWalkIn
import Derived.TacticsInMore
import Derived.LoopNIn
import Derived.LoopIn
/-! A range over a function whose iterator makes memory of its own and hands out what lies in it: what the iterator promises (Iter), and the law for the loop. -/
namespace Go.Proofs.YtpcoiakdbfihlaaDoor
open Go.RowKit

/-- A step that turns blocks of D alone, and such from B on as are no cells. -/
structure Steps (B : Nat) (D : Nat → Prop) (W W' : World) : Prop where
  os : W'.os = W.os
  tape : W'.tape = W.tape
  output : W'.output = W.output
  size : W.heap.size ≤ W'.heap.size
  block : ∀ b, b < W.heap.size → ¬ D b → (b < B ∨ ∃ o : Obj, W.heap[b]? = some o ∧ o.isCells = true) → W'.heap[b]? = W.heap[b]?
theorem Steps.of_turned {B : Nat} {D : Nat → Prop} {W W' : World} (h : Turned D W W') : Steps B D W W' := ⟨h.os, h.tape, h.output, h.size, fun b hb hd _ => h.block b hb hd⟩
theorem Steps.of_below {B : Nat} {D : Nat → Prop} {W W' : World} (h : Below W.heap.size W W') : Steps B D W W' := ⟨h.os, h.tape, h.output, h.size, fun b hb _ _ => h.block b hb⟩
theorem Steps.lower {B B' : Nat} {D : Nat → Prop} {W W' : World} (h : Steps B' D W W') (hB : B ≤ B') : Steps B D W W' :=
  ⟨h.os, h.tape, h.output, h.size, fun b hb hd hc => h.block b hb hd (hc.imp (fun h => by omega) id)⟩
theorem Steps.putObj {B : Nat} {D : Nat → Prop} {W : World} {l : Nat} {o : Obj} (o' : Obj) (hB : B ≤ l) (hl : W.heap[l]? = some o) (ho : o.isCells = false) : Steps B D W (W.putObj l o') :=
  ⟨rfl, rfl, rfl, by simp, fun b _ _ hc => World.putObj_heap_other (by
    rintro rfl
    rcases hc with hc | ⟨o2, h2, h3⟩
    · omega
    · rw [hl] at h2
      cases h2
      rw [ho] at h3
      cases h3)⟩
/-- A cells' block that is none of D's stays. -/
theorem Steps.cells {B : Nat} {D : Nat → Prop} {W W' : World} (h : Steps B D W W') {b : Nat} {cs : Array Value} {t : TypeId} {f : Nat × Nat} (hb : W.heap[b]? = some (.cells cs t f)) (hd : ¬ D b) : W'.heap[b]? = some (.cells cs t f) :=
  (h.block b (Array.getElem?_eq_some_iff.1 hb).1 hd (.inr ⟨_, hb, rfl⟩)).trans hb
theorem Steps.boxed {B : Nat} {D : Nat → Prop} {W W' : World} (h : Steps B D W W') {b : Nat} {v : Value} {t : TypeId} (hb : Boxed W b t v) (hd : ¬ D b) : Boxed W' b t v := h.cells hb hd
def Bounds (B : Nat) (D : Nat → Prop) (W : World) : Prop := ∀ b, D b → B ≤ b ∧ b < W.heap.size
theorem Bounds.none_ (B : Nat) (W : World) : Bounds B (fun _ => False) W := fun _ h => h.elim
theorem Bounds.grow {B : Nat} {D : Nat → Prop} {W W' : World} (h : Bounds B D W) (hs : W.heap.size ≤ W'.heap.size) : Bounds B D W' := fun b hb => ⟨(h b hb).1, Nat.lt_of_lt_of_le (h b hb).2 hs⟩
theorem Bounds.not {B b : Nat} {D : Nat → Prop} {W : World} (h : Bounds B D W) (hb : b < B) : ¬ D b := fun hd => by
  have := (h b hd).1
  omega
theorem Steps.below {B n0 : Nat} {D : Nat → Prop} {w0 W W' : World} (h : Steps B D W W') (hb : Below n0 w0 W) (hB : Bounds B D W) (h0 : n0 ≤ w0.heap.size) (h1 : n0 ≤ B) : Below n0 w0 W' :=
  hb.trans ⟨h.os, h.tape, h.output, h.size, fun k hk => h.block k (by have := hb.size; omega) (hB.not (by omega)) (.inl (by omega))⟩
/-- What does not mind the other's steps. -/
def Still {σ : Type} (B : Nat) (J : (Nat → Prop) → σ → World → Prop) : Prop :=
  ∀ (D D' : Nat → Prop) (s : σ) (W W' : World), Bounds B D W → J D s W → Steps B D W W' → (∀ b, D' b → D b ∨ (W.heap.size ≤ b ∧ b < W'.heap.size)) → J D' s W'
theorem still_false {σ : Type} (B : Nat) : Still B (fun _ (_ : σ) _ => False) := fun _ _ _ _ _ _ h _ _ => h
/-- What a round keeps: the iterator's blocks, those of K, and whatever from B on is no cells. -/
structure Kept (B : Nat) (D K : Nat → Prop) (W W' : World) : Prop where
  turned : Turned (fun b => ¬ (D b ∨ K b)) W W'
  keeps : KeepsFrom B W W'
theorem Kept.refl (B : Nat) (D K : Nat → Prop) (W : World) : Kept B D K W W := ⟨Turned.refl _ _, KeepsFrom.refl _ _⟩
theorem Kept.trans {B : Nat} {D K : Nat → Prop} {X Y Z : World} (h : Kept B D K X Y) (k : Kept B D K Y Z) : Kept B D K X Z := ⟨h.turned.trans k.turned fun _ _ h => h, h.keeps.trans k.keeps⟩
theorem Kept.raise {B B' : Nat} {D K : Nat → Prop} {W W' : World} (h : Kept B D K W W') (hB : B ≤ B') : Kept B' D K W W' := ⟨h.turned, ⟨h.keeps.size, fun k o hk => h.keeps.same k o (by omega)⟩⟩
theorem Kept.of_below {B : Nat} {D K : Nat → Prop} {W W' : World} (h : Below W.heap.size W W') : Kept B D K W W' :=
  ⟨Turned.of_below h, ⟨h.size, fun k _ _ hk _ => (h.block k (Array.getElem?_eq_some_iff.1 hk).1).trans hk⟩⟩
/-- One old block, of cells, which is none of the iterator's. -/
theorem Kept.of_gr {B : Nat} {D K : Nat → Prop} {W W' : World} {row : Option Nat} (h : W.grownBy W' row) (hr : ∀ g, row = some g → ¬ D g ∧ ¬ K g ∧ ∃ cs t f, W.heap[g]? = some (.cells cs t f)) : Kept B D K W W' :=
  ⟨Turned.of_gr h fun g e => by
      have := hr g e
      rintro (h1 | h1)
      · exact this.1 h1
      · exact this.2.1 h1,
   ⟨h.size, fun k o _ hk ho => (h.block k (Array.getElem?_eq_some_iff.1 hk).1 (fun e => by
      obtain ⟨_, _, cs, t, f, hc⟩ := hr k e.symm
      rw [hk] at hc
      cases hc
      cases ho)).trans hk⟩⟩
theorem Kept.of_turned {B q : Nat} {D K : Nat → Prop} {W W' : World} (h : Turned (· = q) W W') {cs : Array Value} {t : TypeId} {f : Nat × Nat} (hc : W.heap[q]? = some (.cells cs t f)) (hd : ¬ D q) (hk : ¬ K q) : Kept B D K W W' :=
  ⟨h.mono fun b _ e => by
      subst e
      exact fun hn => hn.elim hd hk,
   ⟨h.size, fun k o _ hk2 ho => (h.block k (Array.getElem?_eq_some_iff.1 hk2).1 (fun e => by
      rw [e, hc] at hk2
      cases hk2
      cases ho)).trans hk2⟩⟩
theorem Kept.inner {B B' : Nat} {D D' K K' : Nat → Prop} {W W' : World} (h : Kept B D K W W') (hB : B ≤ B') (hD : ∀ b, D' b → D b) (hK : ∀ b, K' b → K b ∨ D b) : Kept B' D' K' W W' :=
  ⟨h.turned.mono fun b _ hn hh => hn (by
      rcases hh with hh | hh
      · exact .inl (hD b hh)
      · exact (hK b hh).symm), (h.raise hB).keeps⟩
theorem Kept.putObj {B : Nat} {D K : Nat → Prop} {W : World} {l : Nat} (o' : Obj) (hB : l < B) (hd : ¬ D l) (hk : ¬ K l) : Kept B D K W (W.putObj l o') :=
  ⟨⟨rfl, rfl, rfl, by simp, fun b _ hb => World.putObj_heap_other (by
      rintro rfl
      exact hb (fun h => h.elim hd hk))⟩,
   ⟨by simp, fun _ _ _ hk _ => (World.putObj_heap_other (by omega)).trans hk⟩⟩
theorem RoundIn.wide {m m' : Nat} {P : Program} {l : Nat} {f : FuncId} {tmps : Array Value} {assign body : Code} {w : World} {R : Ending → World → Prop} (h : RoundIn Fence.wide m P l f tmps assign body w R) : RoundIn Fence.wide m' P l f tmps assign body w R :=
  ⟨h.1, fun c cs _ => h.2 c cs (room_wide _)⟩

theorem RoundIn.wideIn {m m' : Nat} (l' : Nat) {P : Program} {l : Nat} {f : FuncId} {tmps : Array Value} {assign body : Code} {w : World} {R : Ending → World → Prop} (h : RoundIn Fence.wide m P l f tmps assign body w R) : RoundIn (Fence.wide.inRound l') m' P l f tmps assign body w R :=
  (RoundIn.wide h : RoundIn Fence.wide m' P l f tmps assign body w R)

/-- THE ITERATOR's PROMISE. X: what is known of what has come; K: blocks that rounds must leave alone. -/
def Iter {α : Type} (P : Program) (g : Nat) (lb : Array Value) (encs : α → Array Value) (K : Nat → Prop) (X : (Nat → Prop) → List α → World → Prop) (S : List α → Prop) (w : World) : Prop :=
  (∀ D s W W', X D s W → Turned (fun b => ¬ (D b ∨ K b)) W W' → X D s W') ∧
  ∀ (l : Nat) (J Jx : (Nat → Prop) → List α → World → Prop) (W : World), Below w.heap.size w W → Still W.heap.size J → Still W.heap.size Jx →
    (∀ D pre x W1, Bounds W.heap.size D W1 → J D pre W1 → X D (pre ++ [x]) W1 → YieldAt Fence.wide 1 P l (encs x) W1 fun e W' =>
      (e = .returned (.bool true) ∧ J D (pre ++ [x]) W' ∧ Kept W.heap.size D K W1 W') ∨ (e = .returned (.bool false) ∧ Jx D (pre ++ [x]) W' ∧ Kept W.heap.size D K W1 W')) →
    J (fun _ => False) [] W →
    Calls P g (#[.func (.yield l) #[] #[]] ++ lb) W fun e W' => (∃ v, e = .returned v) ∧ ∃ D, Bounds W.heap.size D W' ∧ ((∃ xs, S xs ∧ X D xs W' ∧ J D xs W') ∨ (∃ pre, X D pre W' ∧ Jx D pre W'))

/-- How a round's body may be left. -/
def itPost {α : Type} (B : Nat) (K : Nat → Prop) (I : (Nat → Prop) → List α → World → Prop) (Ix : Code → (Nat → Prop) → List α → World → Prop) (D : Nat → Prop) (xs : List α) (W : World) : Exit → Act → World → Prop
  | .normal, _, W' => Kept B D K W W' ∧ I D xs W'
  | .ret, _, W' => Kept B D K W W' ∧ Ix .ret D xs W'
  | .exit id, _, W' => Kept B D K W W' ∧ Ix (.exit id) D xs W'
  | .goto t, _, W' => Kept B D K W W' ∧ Ix (.goto t) D xs W'
  | .panic _, _, _ => False
  | .outgrown, _, _ => False

/-- THE LAW. -/
theorem wpIn_rangeFunc_it {α : Type} {P : Program} {g : Operand} {ps : Array Tmp} {assign body : Code} {Q : Exit → Act → World → Prop} {a : Act} {w : World}
    {gf : Nat} {lb : Array Value} (hg : a.eval g = .func (.func gf) #[] lb) (eg : ∀ args w, (callFunc gf args).run P w = .ok (.enter gf args) w)
    {encs : α → Array Value} {K : Nat → Prop} {X : (Nat → Prop) → List α → World → Prop} {S : List α → Prop} {w0 : World} (hseq : Iter P gf lb encs K X S w0) (hb0 : Below w0.heap.size w0 w) (hK : ∀ b, K b → b < w.heap.size) (hps : ∀ x, (encs x).size = ps.size)
    (I : (Nat → Prop) → List α → World → Prop) (Ix : Code → (Nat → Prop) → List α → World → Prop) (hI : Still w.heap.size I) (hIx : ∀ c, Still w.heap.size (Ix c)) (h0 : I (fun _ => False) [] w)
    (Ax : α → Act → World → Prop) (hAx : ∀ x a', OwnFrom w.heap.size (fun (_ : Unit) W => Ax x a' W))
    (hassign : ∀ (l : Nat) (D : Nat → Prop) (pre : List α) (x : α) (W : World) (C : Act → World → Prop), Bounds (w.heap.size + 2) D W → I D pre W → X D (pre ++ [x]) W → (∀ a' W', Kept w.heap.size D K W W' → I D pre W' → Ax x a' W' → C a' W') →
      assign.wpIn (Fence.wide.inRound l) 1 P (Exit.then C (fun _ _ _ => False)) { tmps := (ps.zip (encs x)).foldl (fun t (p, v) => t.setIfInBounds p v) a.tmps, defers := [] } W)
    (hbody : ∀ (l : Nat) (D : Nat → Prop) (pre : List α) (x : α) (a' : Act) (W : World), w.heap.size ≤ l → w.heap.size + 2 ≤ W.heap.size → Bounds (w.heap.size + 2) D W → I D pre W → X D (pre ++ [x]) W → Ax x a' W → body.wpIn (Fence.wide.inRound l) 1 P (itPost w.heap.size K I Ix D (pre ++ [x]) W) a' W)
    (hdone : ∀ (E : Nat) (D : Nat → Prop) (xs : List α) (W : World), E = w.heap.size → w.heap.size + 2 ≤ W.heap.size → Bounds (w.heap.size + 2) D W → S xs → X D xs W → I D xs W → W.heap[E]? = some (.deferred (some [])) → Q .normal { a with defers := { target := .collected E, args := #[] } :: a.defers } W)
    (hstop : ∀ (E : Nat) (D : Nat → Prop) (c : Code) (pre : List α) (W : World), E = w.heap.size → w.heap.size + 2 ≤ W.heap.size → Bounds (w.heap.size + 2) D W → X D pre W → Ix c D pre W → W.heap[E]? = some (.deferred (some [])) → c.wpIn Fence.wide 3 P Q { a with defers := { target := .collected E, args := #[] } :: a.defers } W) :
    (Code.rangeFunc g ps assign body).wpIn Fence.wide 3 P Q a w := by
  refine wpIn_rangeFunc ?_
  intro fn hfn
  obtain ⟨rec, hrec⟩ : ∃ rec : LoopState → Option Code → Loop, rec = fun st pe => { state := st, pending := pe, fn, tmps := a.tmps, params := ps, assign, body, defers := w.heap.size } := ⟨_, rfl⟩
  obtain ⟨W1, hW1⟩ : ∃ W1, (w.alloc (.deferred (some []))).alloc (.loop (rec .ready none)) = W1 := ⟨_, rfl⟩
  have hs1 : W1.heap.size = w.heap.size + 2 := by rw [← hW1]; simp
  have hL1 : W1.heap[w.heap.size + 1]? = some (.loop (rec .ready none)) := by
    rw [← hW1]
    have := World.alloc_heap_new (w.alloc (.deferred (some []))) (.loop (rec .ready none))
    rwa [World.size_alloc] at this
  have hD1 : W1.heap[w.heap.size]? = some (.deferred (some [])) := by
    rw [← hW1]
    exact (Below.heap_alloc _ _ _ (by simp)).trans (World.alloc_heap_new w _)
  have hb01 : Below w.heap.size w W1 := by
    rw [← hW1]
    exact ((Below.refl _ w).alloc (Nat.le_refl _) _).alloc (by simp) _
  have hI1 : I (fun _ => False) [] W1 := hI _ _ _ _ _ (Bounds.none_ _ _) h0 (Steps.of_below hb01) (fun _ h => .inl h)
  have hb1 : Below w0.heap.size w0 W1 := hb0.trans (hb01.mono hb0.size)
  have hnK : ∀ b, w.heap.size ≤ b → ¬ K b := fun b hb hk => by
    have := hK b hk
    omega
  -- the record's and the deferred block's facts don't mind the iterator's steps
  have hrk : ∀ {D : Nat → Prop} {A C : World} {o : Obj} {b : Nat}, Bounds W1.heap.size D A → Steps W1.heap.size D A C → b < W1.heap.size → A.heap[b]? = some o → C.heap[b]? = some o := fun {D A C o b} hB hS hb ho =>
    (hS.block b (Array.getElem?_eq_some_iff.1 ho).1 (fun hd => by have := (hB b hd).1; omega) (.inl hb)).trans ho
  refine ⟨w.heap.size + 1, [{ target := .collected w.heap.size, args := #[] }], W1, { target := .fn (.func gf) lb, args := #[.func (.yield (w.heap.size + 1)) #[] #[]] }, W1, gf,
    #[.func (.yield (w.heap.size + 1)) #[] #[]] ++ lb, W1, ?_, ?_, ?_, ?_, fun _ => by omega, callsIn_wide.2 ?_⟩
  · rw [← hW1, hrec]
    exact run_enterLoop_outer _ _ _ _ _
  · simp only [resolve, hg]
    simp [go_sem]
  · intro f' _
    trivial
  · simp [invoke, go_sem, eg]
  · refine (hseq.2 (w.heap.size + 1)
      (fun D pre W => I D pre W ∧ W.heap[w.heap.size + 1]? = some (.loop (rec .ready none)) ∧ W.heap[w.heap.size]? = some (.deferred (some [])))
      (fun D pre W => ∃ c, Ix c D pre W ∧ W.heap[w.heap.size + 1]? = some (.loop (rec .done (some c))) ∧ W.heap[w.heap.size]? = some (.deferred (some [])))
      W1 hb1
      (fun D D' s A C hB hs hS hD => ⟨hI _ _ _ _ _ (fun b hb => ⟨by have := (hB b hb).1; omega, (hB b hb).2⟩) hs.1 (hS.lower (by omega)) hD, hrk hB hS (by omega) hs.2.1, hrk hB hS (by omega) hs.2.2⟩)
      (fun D D' s A C hB hs hS hD => by
        obtain ⟨c, hc, hl, hk⟩ := hs
        exact ⟨c, hIx c _ _ _ _ _ (fun b hb => ⟨by have := (hB b hb).1; omega, (hB b hb).2⟩) hc (hS.lower (by omega)) hD, hrk hB hS (by omega) hl, hrk hB hS (by omega) hk⟩)
      ?_ ⟨hI1, hL1, hD1⟩).mono ?_
    · -- one round
      rintro D pre x W hB ⟨hi, hl, hk⟩ hx
      rw [hs1] at hB
      have hnD : ¬ D (w.heap.size + 1) := fun h => by have := (hB _ h).1; omega
      have hy := run_yield (P := P) (args := encs x) hl (by rw [hrec]; exact hps x)
      rw [hrec] at hy
      refine ⟨fn, _, assign, body, hy, roundIn_of_wpIn hfn (hassign _ D pre x W _ hB hi hx ?_)⟩
      clear hy
      intro a' Wa hka hia hax
      have hla := hka.keeps.same _ _ (by omega) hl rfl
      have hda := hka.keeps.same _ _ (Nat.le_refl _) hk rfl
      have hxa := hseq.1 _ _ _ _ hx hka.turned
      have hBa := hB.grow hka.turned.size
      have hlt : w.heap.size + 1 < Wa.heap.size := (Array.getElem?_eq_some_iff.1 hla).1
      refine ⟨_, run_beginRound hla (by rw [hrec]), ?_⟩
      obtain ⟨Wb, hWb⟩ : ∃ Wb, Wa.putObj (w.heap.size + 1) (.loop { rec .ready none with state := .busy }) = Wb := ⟨_, rfl⟩
      have hkb : Kept W1.heap.size D K Wa Wb := by
        rw [← hWb]
        exact Kept.putObj _ (by omega) hnD (hnK _ (by omega))
      have hsb : Steps w.heap.size D Wa Wb := by
        rw [← hWb]
        exact Steps.putObj _ (by omega) hla rfl
      have hlb : Wb.heap[w.heap.size + 1]? = some (.loop { rec .ready none with state := .busy }) := by
        rw [← hWb]
        exact World.putObj_heap_same hlt
      have hdb : Wb.heap[w.heap.size]? = some (.deferred (some [])) := by
        rw [← hWb]
        exact (World.putObj_heap_other (by omega)).trans hda
      have hBl : Bounds w.heap.size D Wa := fun b hb => ⟨by have := (hBa b hb).1; omega, (hBa b hb).2⟩
      have hib := hI _ _ _ _ _ hBl hia hsb (fun _ h => .inl h)
      have haxb : Ax x a' Wb := by
        rw [← hWb]
        exact (hAx x a').putObj (s := ()) _ hax (by omega) hla rfl
      rw [hWb]
      refine wpIn_mono (hbody _ D pre x a' Wb (by omega) (by have := hkb.turned.size; omega) (hBa.grow hkb.turned.size) hib (hseq.1 _ _ _ _ hxa hkb.turned) haxb) ?_
      have fin : ∀ (jump : Option Code) (W3 : World), Kept w.heap.size D K Wb W3 →
          (Instr.endRound (w.heap.size + 1) jump).run P W3 = .ok (.bool jump.isNone) (W3.putObj (w.heap.size + 1) (.loop (rec (if jump.isNone then .ready else .done) jump))) ∧
          (W3.putObj (w.heap.size + 1) (.loop (rec (if jump.isNone then .ready else .done) jump))).heap[w.heap.size + 1]? = some (.loop (rec (if jump.isNone then .ready else .done) jump)) ∧
          (W3.putObj (w.heap.size + 1) (.loop (rec (if jump.isNone then .ready else .done) jump))).heap[w.heap.size]? = some (.deferred (some [])) ∧
          Kept W1.heap.size D K W (W3.putObj (w.heap.size + 1) (.loop (rec (if jump.isNone then .ready else .done) jump))) ∧
          Steps w.heap.size D W3 (W3.putObj (w.heap.size + 1) (.loop (rec (if jump.isNone then .ready else .done) jump))) ∧ Bounds w.heap.size D W3 := fun jump W3 hk3 => by
        have hl3 := hk3.keeps.same _ _ (by omega) hlb rfl
        have hd3 := hk3.keeps.same _ _ (Nat.le_refl _) hdb rfl
        have hend := run_endRound (P := P) jump hl3
        rw [hrec] at hend
        refine ⟨by rw [hrec]; exact hend, World.putObj_heap_same (Array.getElem?_eq_some_iff.1 hl3).1, (World.putObj_heap_other (by omega)).trans hd3, ?_, Steps.putObj _ (by omega) hl3 rfl, (hBl.grow hkb.turned.size).grow hk3.turned.size⟩
        exact (hka.raise (by omega)).trans (hkb.trans ((hk3.raise (by omega)).trans (Kept.putObj _ (by omega) hnD (hnK _ (by omega)))))
      rintro e a3 W3 hp
      cases e with
      | normal =>
        obtain ⟨hr, hl4, hd4, hk4, hs4, hB4⟩ := fin none W3 hp.1
        exact ⟨_, _, hr, .inl ⟨rfl, ⟨hI _ _ _ _ _ hB4 hp.2 hs4 (fun _ h => .inl h), hl4, hd4⟩, hk4⟩⟩
      | ret =>
        obtain ⟨hr, hl4, hd4, hk4, hs4, hB4⟩ := fin (some .ret) W3 hp.1
        exact ⟨_, _, hr, .inr ⟨rfl, ⟨.ret, hIx _ _ _ _ _ _ hB4 hp.2 hs4 (fun _ h => .inl h), hl4, hd4⟩, hk4⟩⟩
      | exit id =>
        obtain ⟨hr, hl4, hd4, hk4, hs4, hB4⟩ := fin (some (.exit id)) W3 hp.1
        exact ⟨_, _, hr, .inr ⟨rfl, ⟨.exit id, hIx _ _ _ _ _ _ hB4 hp.2 hs4 (fun _ h => .inl h), hl4, hd4⟩, hk4⟩⟩
      | goto t =>
        obtain ⟨hr, hl4, hd4, hk4, hs4, hB4⟩ := fin (some (.goto t)) W3 hp.1
        exact ⟨_, _, hr, .inr ⟨rfl, ⟨.goto t, hIx _ _ _ _ _ _ hB4 hp.2 hs4 (fun _ h => .inl h), hl4, hd4⟩, hk4⟩⟩
      | panic ch => exact hp.elim
      | outgrown => exact hp.elim
    · -- behind the iterator
      rintro e W2 ⟨⟨v, rfl⟩, D, hB, (⟨xs, hS, hx, hi, hl, hk⟩ | ⟨pre, hx, c, hi, hl, hk⟩)⟩
      · have hnD : ¬ D (w.heap.size + 1) := fun h => by have := (hB _ h).1; omega
        rw [hs1] at hB
        have hBl : Bounds w.heap.size D W2 := fun b hb => ⟨by have := (hB b hb).1; omega, (hB b hb).2⟩
        have hend := run_endLoop (P := P) hl (by rw [hrec]; simp)
        rw [hrec] at hend
        refine ⟨none, _, hend, hdone _ D xs _ rfl (by have := (Array.getElem?_eq_some_iff.1 hl).1; simp; omega) (hB.grow (by simp)) hS (hseq.1 _ _ _ _ hx (Kept.putObj (B := W1.heap.size) _ (by omega) hnD (hnK _ (by omega))).turned) (hI _ _ _ _ _ hBl hi (Steps.putObj _ (by omega) hl rfl) (fun _ h => .inl h)) ((World.putObj_heap_other (by omega)).trans hk)⟩
      · have hnD : ¬ D (w.heap.size + 1) := fun h => by have := (hB _ h).1; omega
        rw [hs1] at hB
        have hBl : Bounds w.heap.size D W2 := fun b hb => ⟨by have := (hB b hb).1; omega, (hB b hb).2⟩
        have hend := run_endLoop (P := P) hl (by rw [hrec]; simp)
        rw [hrec] at hend
        refine ⟨some c, _, hend, hstop _ D c pre _ rfl (by have := (Array.getElem?_eq_some_iff.1 hl).1; simp; omega) (hB.grow (by simp)) (hseq.1 _ _ _ _ hx (Kept.putObj (B := W1.heap.size) _ (by omega) hnD (hnK _ (by omega))).turned) (hIx c _ _ _ _ _ hBl hi (Steps.putObj _ (by omega) hl rfl) (fun _ h => .inl h)) ((World.putObj_heap_other (by omega)).trans hk)⟩
end Go.Proofs.YtpcoiakdbfihlaaDoor

/-! A range over a function whose iterator keeps state in cells Z that were there ahead of the loop: what it promises (IterZ), and the law for the loop. -/
namespace Go.Proofs.YtpcoiakdbfihlaaDoor
open Go.RowKit

/-- What does not mind the other's steps. -/
def StillZ (B : Nat) (Z : Nat → Prop) (J : Nat → World → Prop) : Prop := ∀ k W W', J k W → Steps B Z W W' → J k W'
theorem Steps.belowZ {B n0 : Nat} {Z : Nat → Prop} {w0 W W' : World} (h : Steps B Z W W') (hb : Below n0 w0 W) (hZ : ∀ b, Z b → n0 ≤ b) (h0 : n0 ≤ w0.heap.size) (h1 : n0 ≤ B) : Below n0 w0 W' :=
  hb.trans ⟨h.os, h.tape, h.output, h.size, fun k hk => h.block k (by have := hb.size; omega) (fun hz => by have := hZ k hz; omega) (.inl (by omega))⟩
theorem stillZ_false (B : Nat) (Z : Nat → Prop) : StillZ B Z (fun _ _ => False) := fun _ _ _ h _ => h
/-- THE ITERATOR's PROMISE: xs come, one behind the other. -/
def IterZ {α : Type} (P : Program) (g : Nat) (lb : Array Value) (encs : α → Array Value) (Z K : Nat → Prop) (xs : List α) (w : World) : Prop :=
  ∀ (l : Nat) (J Jx : Nat → World → Prop) (W : World), Below w.heap.size w W → StillZ W.heap.size Z J → StillZ W.heap.size Z Jx →
    (∀ k x W1, xs[k]? = some x → J k W1 → YieldAt Fence.wide 1 P l (encs x) W1 fun e W' =>
      (e = .returned (.bool true) ∧ J (k + 1) W' ∧ Kept W.heap.size Z K W1 W') ∨ (e = .returned (.bool false) ∧ Jx k W' ∧ Kept W.heap.size Z K W1 W')) →
    J 0 W →
    Calls P g (#[.func (.yield l) #[] #[]] ++ lb) W fun e W' => (∃ v, e = .returned v) ∧ (J xs.length W' ∨ ∃ k x, xs[k]? = some x ∧ Jx k W')

/-- How a round's body may be left. -/
def itPostZ (B : Nat) (Z K : Nat → Prop) (I : Nat → World → Prop) (Ix : Code → Nat → World → Prop) (k : Nat) (W : World) : Exit → Act → World → Prop
  | .normal, _, W' => Kept B Z K W W' ∧ I (k + 1) W'
  | .ret, _, W' => Kept B Z K W W' ∧ Ix .ret k W'
  | .exit id, _, W' => Kept B Z K W W' ∧ Ix (.exit id) k W'
  | .goto t, _, W' => Kept B Z K W W' ∧ Ix (.goto t) k W'
  | .panic _, _, _ => False
  | .outgrown, _, _ => False

/-- THE LAW. -/
theorem wpIn_rangeFunc_itZ {α : Type} {P : Program} {g : Operand} {ps : Array Tmp} {assign body : Code} {Q : Exit → Act → World → Prop} {a : Act} {w : World}
    {gf : Nat} {lb : Array Value} (hg : a.eval g = .func (.func gf) #[] lb) (eg : ∀ args w, (callFunc gf args).run P w = .ok (.enter gf args) w)
    {encs : α → Array Value} {Z K : Nat → Prop} {xs : List α} {w0 : World} (hseq : IterZ P gf lb encs Z K xs w0) (hb0 : Below w0.heap.size w0 w) (hZ : ∀ b, Z b → b < w.heap.size) (hK : ∀ b, K b → b < w.heap.size) (hps : ∀ x, (encs x).size = ps.size)
    (I : Nat → World → Prop) (Ix : Code → Nat → World → Prop) (hI : StillZ w.heap.size Z I) (hIx : ∀ c, StillZ w.heap.size Z (Ix c)) (h0 : I 0 w)
    (Ax : α → Act → World → Prop) (hAx : ∀ x a', OwnFrom w.heap.size (fun (_ : Unit) W => Ax x a' W))
    (hassign : ∀ (l : Nat) (k : Nat) (x : α) (W : World) (C : Act → World → Prop), xs[k]? = some x → I k W → (∀ a' W', Kept w.heap.size Z K W W' → I k W' → Ax x a' W' → C a' W') →
      assign.wpIn (Fence.wide.inRound l) 1 P (Exit.then C (fun _ _ _ => False)) { tmps := (ps.zip (encs x)).foldl (fun t (p, v) => t.setIfInBounds p v) a.tmps, defers := [] } W)
    (hbody : ∀ (l : Nat) (k : Nat) (x : α) (a' : Act) (W : World), w.heap.size ≤ l → w.heap.size + 2 ≤ W.heap.size → xs[k]? = some x → I k W → Ax x a' W → body.wpIn (Fence.wide.inRound l) 1 P (itPostZ w.heap.size Z K I Ix k W) a' W)
    (hdone : ∀ (E : Nat) (W : World), E = w.heap.size → w.heap.size + 2 ≤ W.heap.size → I xs.length W → W.heap[E]? = some (.deferred (some [])) → Q .normal { a with defers := { target := .collected E, args := #[] } :: a.defers } W)
    (hstop : ∀ (E : Nat) (c : Code) (k : Nat) (x : α) (W : World), E = w.heap.size → w.heap.size + 2 ≤ W.heap.size → xs[k]? = some x → Ix c k W → W.heap[E]? = some (.deferred (some [])) → c.wpIn Fence.wide 3 P Q { a with defers := { target := .collected E, args := #[] } :: a.defers } W) :
    (Code.rangeFunc g ps assign body).wpIn Fence.wide 3 P Q a w := by
  refine wpIn_rangeFunc ?_
  intro fn hfn
  obtain ⟨rec, hrec⟩ : ∃ rec : LoopState → Option Code → Loop, rec = fun st pe => { state := st, pending := pe, fn, tmps := a.tmps, params := ps, assign, body, defers := w.heap.size } := ⟨_, rfl⟩
  obtain ⟨W1, hW1⟩ : ∃ W1, (w.alloc (.deferred (some []))).alloc (.loop (rec .ready none)) = W1 := ⟨_, rfl⟩
  have hs1 : W1.heap.size = w.heap.size + 2 := by rw [← hW1]; simp
  have hL1 : W1.heap[w.heap.size + 1]? = some (.loop (rec .ready none)) := by
    rw [← hW1]
    have := World.alloc_heap_new (w.alloc (.deferred (some []))) (.loop (rec .ready none))
    rwa [World.size_alloc] at this
  have hD1 : W1.heap[w.heap.size]? = some (.deferred (some [])) := by
    rw [← hW1]
    exact (Below.heap_alloc _ _ _ (by simp)).trans (World.alloc_heap_new w _)
  have hb01 : Below w.heap.size w W1 := by
    rw [← hW1]
    exact ((Below.refl _ w).alloc (Nat.le_refl _) _).alloc (by simp) _
  have hI1 : I 0 W1 := hI _ _ _ h0 (Steps.of_below hb01)
  have hb1 : Below w0.heap.size w0 W1 := hb0.trans (hb01.mono hb0.size)
  have hnK : ∀ b, w.heap.size ≤ b → ¬ K b := fun b hb hk => by
    have := hK b hk
    omega
  have hnZ : ∀ b, w.heap.size ≤ b → ¬ Z b := fun b hb hk => by
    have := hZ b hk
    omega
  -- the record's and the deferred block's facts don't mind the iterator's steps
  have hrk : ∀ {A C : World} {o : Obj} {b : Nat}, Steps W1.heap.size Z A C → w.heap.size ≤ b → b < W1.heap.size → A.heap[b]? = some o → C.heap[b]? = some o := fun {A C o b} hS hb1 hb ho =>
    (hS.block b (Array.getElem?_eq_some_iff.1 ho).1 (hnZ b hb1) (.inl hb)).trans ho
  have hnD : ¬ Z (w.heap.size + 1) := hnZ _ (by omega)
  refine ⟨w.heap.size + 1, [{ target := .collected w.heap.size, args := #[] }], W1, { target := .fn (.func gf) lb, args := #[.func (.yield (w.heap.size + 1)) #[] #[]] }, W1, gf,
    #[.func (.yield (w.heap.size + 1)) #[] #[]] ++ lb, W1, ?_, ?_, ?_, ?_, fun _ => by omega, callsIn_wide.2 ?_⟩
  · rw [← hW1, hrec]
    exact run_enterLoop_outer _ _ _ _ _
  · simp only [resolve, hg]
    simp [go_sem]
  · intro f' _
    trivial
  · simp [invoke, go_sem, eg]
  · refine (hseq (w.heap.size + 1)
      (fun k W => I k W ∧ W.heap[w.heap.size + 1]? = some (.loop (rec .ready none)) ∧ W.heap[w.heap.size]? = some (.deferred (some [])))
      (fun k W => ∃ c, Ix c k W ∧ W.heap[w.heap.size + 1]? = some (.loop (rec .done (some c))) ∧ W.heap[w.heap.size]? = some (.deferred (some [])))
      W1 hb1
      (fun k A C hs hS => ⟨hI _ _ _ hs.1 (hS.lower (by omega)), hrk hS (by omega) (by omega) hs.2.1, hrk hS (by omega) (by omega) hs.2.2⟩)
      (fun k A C hs hS => by
        obtain ⟨c, hc, hl, hk⟩ := hs
        exact ⟨c, hIx c _ _ _ hc (hS.lower (by omega)), hrk hS (by omega) (by omega) hl, hrk hS (by omega) (by omega) hk⟩)
      ?_ ⟨hI1, hL1, hD1⟩).mono ?_
    · -- one round
      rintro k x W hx ⟨hi, hl, hk⟩
      have hy := run_yield (P := P) (args := encs x) hl (by rw [hrec]; exact hps x)
      rw [hrec] at hy
      refine ⟨fn, _, assign, body, hy, roundIn_of_wpIn hfn (hassign _ k x W _ hx hi ?_)⟩
      clear hy
      intro a' Wa hka hia hax
      have hla := hka.keeps.same _ _ (by omega) hl rfl
      have hda := hka.keeps.same _ _ (Nat.le_refl _) hk rfl
      have hlt : w.heap.size + 1 < Wa.heap.size := (Array.getElem?_eq_some_iff.1 hla).1
      refine ⟨_, run_beginRound hla (by rw [hrec]), ?_⟩
      obtain ⟨Wb, hWb⟩ : ∃ Wb, Wa.putObj (w.heap.size + 1) (.loop { rec .ready none with state := .busy }) = Wb := ⟨_, rfl⟩
      have hkb : Kept W1.heap.size Z K Wa Wb := by
        rw [← hWb]
        exact Kept.putObj _ (by omega) hnD (hnK _ (by omega))
      have hsb : Steps w.heap.size Z Wa Wb := by
        rw [← hWb]
        exact Steps.putObj _ (by omega) hla rfl
      have hlb : Wb.heap[w.heap.size + 1]? = some (.loop { rec .ready none with state := .busy }) := by
        rw [← hWb]
        exact World.putObj_heap_same hlt
      have hdb : Wb.heap[w.heap.size]? = some (.deferred (some [])) := by
        rw [← hWb]
        exact (World.putObj_heap_other (by omega)).trans hda
      have hib := hI _ _ _ hia hsb
      have haxb : Ax x a' Wb := by
        rw [← hWb]
        exact (hAx x a').putObj (s := ()) _ hax (by omega) hla rfl
      rw [hWb]
      refine wpIn_mono (hbody _ k x a' Wb (by omega) (by have := (Array.getElem?_eq_some_iff.1 hlb).1; omega) hx hib haxb) ?_
      have fin : ∀ (jump : Option Code) (W3 : World), Kept w.heap.size Z K Wb W3 →
          (Instr.endRound (w.heap.size + 1) jump).run P W3 = .ok (.bool jump.isNone) (W3.putObj (w.heap.size + 1) (.loop (rec (if jump.isNone then .ready else .done) jump))) ∧
          (W3.putObj (w.heap.size + 1) (.loop (rec (if jump.isNone then .ready else .done) jump))).heap[w.heap.size + 1]? = some (.loop (rec (if jump.isNone then .ready else .done) jump)) ∧
          (W3.putObj (w.heap.size + 1) (.loop (rec (if jump.isNone then .ready else .done) jump))).heap[w.heap.size]? = some (.deferred (some [])) ∧
          Kept W1.heap.size Z K W (W3.putObj (w.heap.size + 1) (.loop (rec (if jump.isNone then .ready else .done) jump))) ∧
          Steps w.heap.size Z W3 (W3.putObj (w.heap.size + 1) (.loop (rec (if jump.isNone then .ready else .done) jump))) := fun jump W3 hk3 => by
        have hl3 := hk3.keeps.same _ _ (by omega) hlb rfl
        have hd3 := hk3.keeps.same _ _ (Nat.le_refl _) hdb rfl
        have hend := run_endRound (P := P) jump hl3
        rw [hrec] at hend
        refine ⟨by rw [hrec]; exact hend, World.putObj_heap_same (Array.getElem?_eq_some_iff.1 hl3).1, (World.putObj_heap_other (by omega)).trans hd3, ?_, Steps.putObj _ (by omega) hl3 rfl⟩
        exact (hka.raise (by omega)).trans (hkb.trans ((hk3.raise (by omega)).trans (Kept.putObj _ (by omega) hnD (hnK _ (by omega)))))
      rintro e a3 W3 hp
      cases e with
      | normal =>
        obtain ⟨hr, hl4, hd4, hk4, hs4⟩ := fin none W3 hp.1
        exact ⟨_, _, hr, .inl ⟨rfl, ⟨hI _ _ _ hp.2 hs4, hl4, hd4⟩, hk4⟩⟩
      | ret =>
        obtain ⟨hr, hl4, hd4, hk4, hs4⟩ := fin (some .ret) W3 hp.1
        exact ⟨_, _, hr, .inr ⟨rfl, ⟨.ret, hIx _ _ _ _ hp.2 hs4, hl4, hd4⟩, hk4⟩⟩
      | exit id =>
        obtain ⟨hr, hl4, hd4, hk4, hs4⟩ := fin (some (.exit id)) W3 hp.1
        exact ⟨_, _, hr, .inr ⟨rfl, ⟨.exit id, hIx _ _ _ _ hp.2 hs4, hl4, hd4⟩, hk4⟩⟩
      | goto t =>
        obtain ⟨hr, hl4, hd4, hk4, hs4⟩ := fin (some (.goto t)) W3 hp.1
        exact ⟨_, _, hr, .inr ⟨rfl, ⟨.goto t, hIx _ _ _ _ hp.2 hs4, hl4, hd4⟩, hk4⟩⟩
      | panic ch => exact hp.elim
      | outgrown => exact hp.elim
    · -- behind the iterator
      rintro e W2 ⟨⟨v, rfl⟩, (⟨hi, hl, hk⟩ | ⟨k, x, hx, c, hi, hl, hk⟩)⟩
      · have hend := run_endLoop (P := P) hl (by rw [hrec]; simp)
        rw [hrec] at hend
        refine ⟨none, _, hend, hdone _ _ rfl (by have := (Array.getElem?_eq_some_iff.1 hl).1; simp; omega) (hI _ _ _ hi (Steps.putObj _ (by omega) hl rfl)) ((World.putObj_heap_other (by omega)).trans hk)⟩
      · have hend := run_endLoop (P := P) hl (by rw [hrec]; simp)
        rw [hrec] at hend
        refine ⟨some c, _, hend, hstop _ c k x _ rfl (by have := (Array.getElem?_eq_some_iff.1 hl).1; simp; omega) hx (hIx c _ _ _ hi (Steps.putObj _ (by omega) hl rfl)) ((World.putObj_heap_other (by omega)).trans hk)⟩
end Go.Proofs.YtpcoiakdbfihlaaDoor

/-! []byte(s) of any string. -/
namespace Go.Proofs.YtpcoiakdbfihlaaDoor
open Go.RowKit
/-- []byte(s) -/
theorem conv_bytes (l : List UInt8) (hl : l.length ≤ 1000000) (W : World) : ∃ c' W', (convert 9 27 (.string (st l))).run Tryd.prog W = .ok (.slice (some ⟨W.heap.size, 0, none⟩) l.length c') W' ∧ Below W.heap.size W W' ∧ Byt W' (fun b => b = W.heap.size) (some ⟨W.heap.size, 0, none⟩) l.length c' l := by
  have h := run_bytes_of_string (P := Tryd.prog) W 9 27 5 (st l) Tryd.underlying9 Tryd.underlying27 Tryd.underlying5
  rw [st_size] at h
  have hge := grownCap_ge W l.length 0 5
  have hle := grownCap_le_maxLen W l.length 0 5 (by unfold maxLen; omega)
  generalize grownCap W l.length 0 5 = C at *
  refine ⟨C, _, h, (below_drew (Below.refl _ _)).alloc (Nat.le_refl _) _, rfl, hge, hle, fun h0 => ⟨_, 0, rfl, rfl, by simp, fun i hi => ?_⟩⟩
  have hnew : (W.drew.alloc (.cells (bytesRow (st l) C) 5 ((bytesRow (st l) C).size, (bytesRow (st l) C).size + 1))).heap[W.heap.size]? = some _ := heap_alloc_new W.drew _
  rw [cell_of_cells hnew]
  simp [bytesRow, st, Array.getElem?_append, hi]
end Go.Proofs.YtpcoiakdbfihlaaDoor

/-! Files: strings.SplitSeq at a slash: what its iterator promises. -/
namespace Go.Proofs.YtpcoiakdbfihlaaDoor
open Go.RowKit Go.Shelf
attribute [local go_sem] Oper.semAt_some

def splFn (p : Nat) : Value := .func (.func 62) #[] #[.pointer (some ⟨p + 1, 0, none⟩), .pointer (some ⟨p, 0, none⟩), .pointer (some ⟨p + 2, 0, none⟩)]
/-- What the iterator holds: the rest, the slash, nought. -/
structure SpC (p : Nat) (r : List UInt8) (w : World) : Prop where
  rest : w.heap[p]? = some (.cells #[.string (st r)] 9 (0, 0))
  sep : w.heap[p + 1]? = some (.cells #[.string ⟨#[47]⟩] 9 (0, 0))
  save : w.heap[p + 2]? = some (.cells #[.int .i64 0] 3 (0, 0))
set_option maxHeartbeats 2000000 in
set_option maxRecDepth 100000 in
theorem splitseq_any (l : List UInt8) (w : World) :
    Calls Tryd.prog 30 #[.string (st l), .string ⟨#[47]⟩] w fun e w' => e = .returned (splFn w.heap.size) ∧ SpC w.heap.size l w' ∧ Below w.heap.size w w' ∧ w'.heap.size = w.heap.size + 3 := by
  have hmf : ∀ (fn : Fn) (first cap : Array Value) (w : World), (Instr.makeFunc fn first cap).run Tryd.prog w = .ok (.func fn first cap) w := fun _ _ _ _ => rfl
  go_enter Tryd.func30, Tryd.ntmps30
  go_wp2
  go_ret
  have h0 := heap_alloc_new w (.cells #[.string (st l)] 9)
  have h1 := heap_alloc_new (w.alloc (.cells #[.string (st l)] 9)) (.cells #[.string ⟨#[47]⟩] 9)
  have h2 := heap_alloc_new ((w.alloc (.cells #[.string (st l)] 9)).alloc (.cells #[.string ⟨#[47]⟩] 9)) (.cells #[.int .i64 0] 3)
  simp only [World.size_alloc] at h1 h2
  refine ⟨by simp [splFn], ⟨?_, ?_, ?_⟩, (((Below.refl _ w).alloc (Nat.le_refl _) _).alloc (by simp) _).alloc (by simp; omega) _, by simp⟩
  · exact (Below.heap_alloc _ _ _ (by simp; omega)).trans ((Below.heap_alloc _ _ _ (by simp)).trans h0)
  · exact (Below.heap_alloc _ _ _ (by simp)).trans h1
  · exact h2
/-- How much of the string is left. -/
def strAt (w : World) (p : Nat) : Nat := match w.heap[p]? with
  | some (.cells #[.string s] _ _) => s.size
  | _ => 0
theorem strAt_eq {w : World} {p : Nat} {r : List UInt8} {t : TypeId} {f : Nat × Nat} (h : w.heap[p]? = some (.cells #[.string (st r)] t f)) : strAt w p = r.length := by
  unfold strAt
  rw [h]
  exact st_size r
set_option maxHeartbeats 4000000 in
set_option maxRecDepth 100000 in
theorem split1_any (ly p : Nat) (l : List UInt8) (hl : l.length ≤ maxLen) (J Jx : Nat → World → Prop) (B : Nat) (W : World) (hJ : StillZ B (· = p) J) (hs : SpC p l W)
    (hY : ∀ k x W1, (spl l)[k]? = some x → J k W1 → (∀ r, SpC p r W1 → YieldAt Fence.wide 2 Tryd.prog ly #[.string (st x)] W1 fun e W' =>
      (e = .returned (.bool true) ∧ J (k + 1) W' ∧ SpC p r W') ∨ (e = .returned (.bool false) ∧ Jx k W')))
    (h0 : J 0 W) :
    CallsIn Fence.wide 3 Tryd.prog 62 #[.func (.yield ly) #[] #[], .pointer (some ⟨p + 1, 0, none⟩), .pointer (some ⟨p, 0, none⟩), .pointer (some ⟨p + 2, 0, none⟩)] W fun e W' => (∃ v, e = .returned v) ∧ (J (spl l).length W' ∨ ∃ k x, (spl l)[k]? = some x ∧ Jx k W') := by
  have HS := Lib.hid hs
  have HY := Lib.hid hY
  have HJ := Lib.hid hJ
  have HL := Lib.hid hl
  have hb1 := cell_of_cells hs.sep 0
  simp only [List.getElem?_toArray, List.getElem?_cons_zero] at hb1
  clear hs hY hJ hl
  refine callsIn_of_wp Tryd.func62 rfl trivial ?_ rfl
  simp only [Tryd.ntmps62, List.size_toArray, List.length_cons, List.length_nil, Nat.reduceAdd, Nat.reduceSub, Array.replicate_succ, Array.replicate_zero, List.push_toArray, List.append_toArray, List.nil_append, List.cons_append]
  gi_wp2
  gi_loopw [] (fun wr => ∃ (k : Nat) (r : List UInt8), (spl l).drop k = spl r ∧ k + (spl r).length = (spl l).length ∧ r.length ≤ l.length ∧ J k wr ∧ SpC p r wr) (fun wr => strAt wr p)
  case atStart => exact ⟨0, l, by simp, by simp, Nat.le_refl _, h0, HS.out⟩
  case round =>
    obtain ⟨k, r, hd, hk, hrl, hJk, hc⟩ := hrel
    have hr0 := cell_of_cells hc.rest 0
    have hr1 := cell_of_cells hc.sep 0
    have hr2 := cell_of_cells hc.save 0
    simp only [List.getElem?_toArray, List.getElem?_cons_zero] at hr0 hr1 hr2
    have hfz := free_of_cells hc.rest 0
    have hix := sindex_one (st r) 47 wr
    rw [st_data] at hix
    have HC := Lib.hid hc
    have HSZ := Lib.hid (strAt_eq hc.rest)
    clear hc h0 hb1 HS
    rcases ixb_cases r with h1 | ⟨j, h1⟩
    · rw [h1] at hix
      have hs1 := spl_none (ixb_none h1)
      rw [hs1] at hd hk
      have hx : (spl l)[k]? = some r := by
        have := congrArg (fun z => z[0]?) hd
        simpa using this
      obtain ⟨fn, tmps, assign, body, hy, hR⟩ := HY.out k r wr hx hJk r HC.out
      have HR := Lib.hid hR
      have HX := Lib.hid (And.intro hx hk)
      clear hR hx hk hd hs1 h1 HC
      gi_wp2_with (refine ⟨trivial, ?_⟩; gi_at_call 64; refine (callsIn_wide.2 hix).mono ?_; clear hix; rintro _ _ ⟨rfl, rfl⟩)
      refine HR.out.mono ?_
      rintro e W3 (⟨rfl, hJ3, hk3⟩ | ⟨rfl, hJx3⟩)
      · gi_wp2
        go_end0
        refine ⟨⟨_, rfl⟩, .inl ?_⟩
        rw [← HX.out.2]
        exact hJ3
      · gi_wp2
        go_end0
        exact ⟨⟨_, rfl⟩, .inr ⟨k, r, HX.out.1, hJx3⟩⟩
    · obtain ⟨hj, hn, he⟩ := ixb_some h1
      rw [h1] at hix
      have hs1 : spl r = r.take j :: spl (r.drop (j + 1)) := by
        conv => lhs; rw [he]
        exact spl_at _ hn
      rw [hs1] at hd hk
      have hx : (spl l)[k]? = some (r.take j) := by
        have := congrArg (fun z => z[0]?) hd
        simpa using this
      have hd1 : (spl l).drop (k + 1) = spl (r.drop (j + 1)) := by
        have := congrArg (fun z => z.drop 1) hd
        simpa using this
      obtain ⟨fn, tmps, assign, body, hy, hR⟩ := HY.out k (r.take j) wr hx hJk r HC.out
      have HR := Lib.hid hR
      have hml := HL.out
      unfold maxLen at hml
      have hto0 := fun W => st_to (P := Tryd.prog) 9 Tryd.underlying9 r W j (j : Int) (by omega) (by omega)
      have hfrom := fun W => st_from (P := Tryd.prog) 9 Tryd.underlying9 r W (j + 1) ((j : Int) + 1) (by omega) (by omega)
      have hadd := IntWalk.i64_in ((j : Int) + 1) (by omega)
      have hadd0 : wrap64 (j : Int) = (j : Int) := by unfold wrap64; omega
      have hj0 : (0 : Int) ≤ (j : Int) := by omega
      have HX := Lib.hid (And.intro hx (And.intro hk (And.intro hd1 (And.intro hj hrl))))
      clear hR hx hk hd hs1 h1 HC hd1 he hn hml hj hrl
      gi_wp2_with (refine ⟨trivial, ?_⟩; gi_at_call 64; refine (callsIn_wide.2 hix).mono ?_; clear hix; rintro _ _ ⟨rfl, rfl⟩)
      refine HR.out.mono ?_
      rintro e W3 (⟨rfl, hJ3, hk3⟩ | ⟨rfl, hJx3⟩)
      · have hr0 := cell_of_cells hk3.rest 0
        have hr1 := cell_of_cells hk3.sep 0
        simp only [List.getElem?_toArray, List.getElem?_cons_zero] at hr0 hr1
        have hfz := free_of_cells hk3.rest 0
        have H3 := Lib.hid (And.intro hJ3 hk3)
        clear hJ3 hk3 hy HR hto0 hr2 hJk
        gi_wp2
        have hp1 : (W3.setCell ⟨p, 0, none⟩ (.string (st (r.drop (j + 1))))).heap[p]? = some (.cells #[.string (st (r.drop (j + 1)))] 9 (0, 0)) := by simpa using set_of_cells H3.out.2.rest 0 (.string (st (r.drop (j + 1))))
        refine ⟨⟨k + 1, r.drop (j + 1), HX.out.2.2.1, ?_, ?_, HJ.out _ _ _ H3.out.1 (Steps.of_turned (Turned.set (S := fun x => x = p) (Turned.refl _ _) (p := p) rfl _ _)), ⟨hp1, ?_, ?_⟩⟩, ?_⟩
        · have := HX.out.2.1
          simp at this
          omega
        · have := HX.out.2.2.2
          simp
          omega
        · exact (Below.heap_setCell _ _ _ _ (by simp)).trans H3.out.2.sep
        · exact (Below.heap_setCell _ _ _ _ (by simp)).trans H3.out.2.save
        · rw [strAt_eq hp1, HSZ.out]
          have := HX.out.2.2.2
          simp
          omega
      · gi_wp2
        refine bodyPost_ret (results_none rfl _ _ _) rfl ?_
        exact ⟨⟨_, rfl⟩, .inr ⟨k, _, HX.out.1, hJx3⟩⟩
/-- ITS PROMISE. -/
theorem split_iter (p : Nat) (l : List UInt8) (hl : l.length ≤ maxLen) (w : World) (hs : SpC p l w) :
    IterZ Tryd.prog 62 #[.pointer (some ⟨p + 1, 0, none⟩), .pointer (some ⟨p, 0, none⟩), .pointer (some ⟨p + 2, 0, none⟩)] (fun x => #[.string (st x)]) (· = p) (fun k => k = p + 1 ∨ k = p + 2) (spl l) w := by
  intro ly J Jx W hW hJ hJx hY h0
  have hs' : SpC p l W := ⟨(hW.block _ (lt_of_cells hs.rest)).trans hs.rest, (hW.block _ (lt_of_cells hs.sep)).trans hs.sep, (hW.block _ (lt_of_cells hs.save)).trans hs.save⟩
  refine callsIn_wide.1 (split1_any ly p l hl J Jx W.heap.size W hJ hs' (fun k x W1 hx hj r hr => ?_) h0)
  obtain ⟨fn, tmps, assign, body, hy, hR⟩ := hY k x W1 hx hj
  refine ⟨fn, tmps, assign, body, hy, RoundIn.wide (hR.mono ?_)⟩
  rintro e W' (⟨rfl, hj', hk'⟩ | ⟨rfl, hj', hk'⟩)
  · exact .inl ⟨rfl, hj', (hk'.turned.block _ (lt_of_cells hr.rest) (fun h => h (.inl rfl))).trans hr.rest, (hk'.turned.block _ (lt_of_cells hr.sep) (fun h => h (.inr (.inl rfl)))).trans hr.sep, (hk'.turned.block _ (lt_of_cells hr.save) (fun h => h (.inr (.inr rfl)))).trans hr.save⟩
  · exact .inr ⟨rfl, hj'⟩
end Go.Proofs.YtpcoiakdbfihlaaDoor

/-! Files: whether a path may be. -/
namespace Go.Proofs.YtpcoiakdbfihlaaDoor
open Go.RowKit Go.Shelf Codec
attribute [local go_sem] Oper.semAt_some

/-- []byte(s), of any string. -/
theorem conv_long (l : List UInt8) (hl : l.length ≤ maxLen) (W : World) : ∃ c' W', (convert 9 27 (.string (st l))).run Tryd.prog W = .ok (.slice (some ⟨W.heap.size, 0, none⟩) l.length c') W' ∧ Below W.heap.size W W' ∧ Byt W' (fun b => b = W.heap.size) (some ⟨W.heap.size, 0, none⟩) l.length c' l := by
  have h := run_bytes_of_string (P := Tryd.prog) W 9 27 5 (st l) Tryd.underlying9 Tryd.underlying27 Tryd.underlying5
  rw [st_size] at h
  have hge := grownCap_ge W l.length 0 5
  have hle := grownCap_le_maxLen W l.length 0 5 (by unfold maxLen at hl ⊢; omega)
  generalize grownCap W l.length 0 5 = C at *
  refine ⟨C, _, h, (below_drew (Below.refl _ _)).alloc (Nat.le_refl _) _, rfl, hge, hle, fun h0 => ⟨_, 0, rfl, rfl, by simp, fun i hi => ?_⟩⟩
  have hnew : (W.drew.alloc (.cells (bytesRow (st l) C) 5 ((bytesRow (st l) C).size, (bytesRow (st l) C).size + 1))).heap[W.heap.size]? = some _ := heap_alloc_new W.drew _
  rw [cell_of_cells hnew]
  simp [bytesRow, st, Array.getElem?_append, hi]

theorem wpIn_scope_wide {n : Nat} {P : Program} {Q : Exit → Act → World → Prop} {a : Act} {w : World} {c : Code} (h : c.wpIn Fence.wide n P (Exit.noGoto Q) a w) : (Code.scope c).wpIn Fence.wide n P Q a w :=
  wpIn_wide.2 (wp_scope_straight (wpIn_wide.1 h))
def FpI (w : World) (l : List UInt8) (k : Nat) (W : World) : Prop := ((spl l).take k).all nmOk = true ∧ W.heap[w.heap.size]? = some (.cells #[.bool (decide (l.length ≤ 255))] 4 (0, 0)) ∧ Below w.heap.size w W
def FpX (w : World) (l : List UInt8) (c : Code) (k : Nat) (W : World) : Prop := c = .exit 0 ∧ (∃ x, (spl l)[k]? = some x ∧ nmOk x = false) ∧ W.heap[w.heap.size]? = some (.cells #[.bool false] 4 (0, 0)) ∧ Below w.heap.size w W
theorem FpI.still {w : World} {l : List UInt8} {B : Nat} (hB : w.heap.size < B) : StillZ B (· = w.heap.size + 1) (FpI w l) := fun _ W W' h hs =>
  ⟨h.1, (hs.block _ (lt_of_cells h.2.1) (by omega) (.inl hB)).trans h.2.1, hs.belowZ h.2.2 (fun b hb => by omega) (Nat.le_refl _) (by omega)⟩
theorem FpX.still {w : World} {l : List UInt8} {B : Nat} {c : Code} (hB : w.heap.size < B) : StillZ B (· = w.heap.size + 1) (FpX w l c) := fun _ W W' h hs =>
  ⟨h.1, h.2.1, (hs.block _ (lt_of_cells h.2.2.1) (by omega) (.inl hB)).trans h.2.2.1, hs.belowZ h.2.2.2 (fun b hb => by omega) (Nat.le_refl _) (by omega)⟩
theorem path_no {l x : List UInt8} {k : Nat} (h : (spl l)[k]? = some x) (hx : nmOk x = false) : pathOk l = false := by
  unfold pathOk
  have : (spl l).all nmOk = false := List.all_eq_false.2 ⟨x, List.mem_of_getElem? h, by simp [hx]⟩
  rw [this, Bool.and_false]
theorem spl_len : ∀ {l x : List UInt8}, x ∈ spl l → x.length ≤ l.length
  | [], x, h => by
    obtain rfl : x = [] := by simpa [spl] using h
    simp
  | c :: t, x, h => by
    by_cases hc : c = 47
    · subst hc
      rw [spl_slash] at h
      rcases List.mem_cons.1 h with rfl | h
      · simp
      · have := spl_len h
        simp
        omega
    · obtain ⟨y, r, e⟩ := List.exists_cons_of_ne_nil (spl_ne t)
      rw [spl_cons hc e] at h
      rcases List.mem_cons.1 h with rfl | h
      · have := spl_len (l := t) (x := y) (by rw [e]; simp)
        simp
        omega
      · have := spl_len (l := t) (x := x) (by rw [e]; exact List.mem_cons_of_mem _ h)
        simp
        omega
set_option maxHeartbeats 4000000 in
set_option maxRecDepth 100000 in
theorem path_any (l : List UInt8) (hl : l.length ≤ maxLen) (w : World) :
    Calls Tryd.prog 14 #[.string (st l)] w fun e w' => e = .returned (.bool (pathOk l)) ∧ Below w.heap.size w w' := by
  have hsz := st_size l
  obtain ⟨L, hL⟩ : ∃ L, L = l.length := ⟨_, rfl⟩
  rw [← hL] at hsz
  have HL := Lib.hid hL
  have HM := Lib.hid hl
  have hdl : decide ((L : Int) ≤ 255) = decide (l.length ≤ 255) := by
    rw [HL.out]
    by_cases h : l.length ≤ 255
    · rw [decide_eq_true h, decide_eq_true (by omega)]
    · rw [decide_eq_false h, decide_eq_false (by omega)]
  obtain ⟨D, hD⟩ : ∃ D, D = decide (l.length ≤ 255) := ⟨_, rfl⟩
  rw [← hD] at hdl
  have HD := Lib.hid hD
  clear hL hl hD
  refine (callsIn_wide (n := 3)).1 ?_
  refine callsIn_of_wp_marks Tryd.func14 rfl trivial ?_ rfl
  simp only [Tryd.ntmps14, List.size_toArray, List.length_cons, List.length_nil, Nat.reduceAdd, Nat.reduceSub, Array.replicate_succ, Array.replicate_zero, List.push_toArray, List.append_toArray, List.nil_append, List.cons_append]
  have hsq := fun W => splitseq_any l W
  gi_wp2
  refine wpIn_scope_wide ?_
  gi_wp2
  refine wpIn_label ?_
  gi_wp2_with (refine ⟨trivial, ?_⟩; gi_at_call 30; refine (callsIn_wide.2 (hsq _)).mono ?_; clear hsq; rintro _ w1 ⟨rfl, hsc, hb1, hs1⟩)
  have H1 : Hid (FpI w l 0 w1 ∧ SpC (w.heap.size + 1) l w1 ∧ w1.heap.size = w.heap.size + 4) := by
    simp only [World.size_alloc] at hsc hb1 hs1
    refine Lib.hid ⟨⟨by simp, ?_, ((Below.refl _ w).alloc (Nat.le_refl _) _).trans (hb1.mono (by omega))⟩, hsc, by omega⟩
    rw [← HD.out]
    exact (hb1.block _ (by simp)).trans (heap_alloc_new w _)
  clear hsc hb1 hs1
  refine wpIn_rangeFunc_itZ (gf := 62) (lb := #[.pointer (some ⟨w.heap.size + 1 + 1, 0, none⟩), .pointer (some ⟨w.heap.size + 1, 0, none⟩), .pointer (some ⟨w.heap.size + 1 + 2, 0, none⟩)]) rfl (enters_of Tryd.func62 (by kernel_rfl) rfl) (split_iter (w.heap.size + 1) l HM.out w1 H1.out.2.1) (Below.refl _ _)
    (fun b hb => by have := H1.out.2.2; omega) (fun b hb => by have := H1.out.2.2; omega) (fun _ => rfl)
    (FpI w l) (FpX w l) (FpI.still (by have := H1.out.2.2; omega)) (fun _ => FpX.still (by have := H1.out.2.2; omega)) H1.out.1
    (fun x a' _ => a' = { tmps := #[.string (st l), undef, .bool false, .pointer (some ⟨w.heap.size, 0, none⟩), .string (st x), undef, undef, .string (st l), .int .i64 (L : Int), .bool D, .string (st l), splFn (w.heap.size + 1), .string (st x), undef, undef, undef, undef, undef, undef, undef, undef, undef, undef, undef, undef, undef, undef, undef, undef], defers := [] }) (fun _ _ => ownFrom_pure _ _) ?assign ?body ?done ?stop
  case assign =>
    intro l k x W C _ hi hC
    gi_wp2
    exact hC _ _ (Kept.refl _ _ _ _) hi (by simp)
  case done =>
    rintro E W hE hws ⟨ha, hc, hb⟩ hK
    have hc0 := cell_of_cells hc 0
    simp only [List.getElem?_toArray, List.getElem?_cons_zero] at hc0
    have HX := Lib.hid (And.intro ha (And.intro hb hK))
    clear ha hc hb hK
    gi_wp2
    refine ⟨by simp, .inl ⟨_, _, rfl, run_takeDeferred HX.out.2.2, ?_⟩⟩
    refine ⟨_, results_tmp rfl _ _ _, ?_, HX.out.2.1.trans (belowK_b (w := w) (Nat.le_refl _) W E _ _ (by have := H1.out.2.2; omega) HX.out.2.2 rfl rfl)⟩
    have h1 := HX.out.1
    rw [List.take_length] at h1
    unfold pathOk
    rw [h1, Bool.and_true]
    rfl
  case stop =>
    rintro E c k x W hE hws hx ⟨rfl, hn, hc, hb⟩ hK
    have hc0 := cell_of_cells hc 0
    simp only [List.getElem?_toArray, List.getElem?_cons_zero] at hc0
    have HX := Lib.hid (And.intro hn (And.intro hb hK))
    clear hn hc hb hK
    gi_wp2
    refine ⟨by simp, .inl ⟨_, _, rfl, run_takeDeferred HX.out.2.2, ?_⟩⟩
    refine ⟨_, results_tmp rfl _ _ _, ?_, HX.out.2.1.trans (belowK_b (w := w) (Nat.le_refl _) W E _ _ (by have := H1.out.2.2; omega) HX.out.2.2 rfl rfl)⟩
    obtain ⟨y, h1, h2⟩ := HX.out.1
    rw [path_no h1 h2]
    rfl
  case body =>
    rintro ly k x a' W hly hW hx ⟨ha, hc, hb⟩ rfl
    have hfz := free_of_cells hc 0
    have hc0 := cell_of_cells hc 0
    simp only [List.getElem?_toArray, List.getElem?_cons_zero] at hc0
    have HEX : Hid (∀ W5, Below W.heap.size W W5 → nmOk x = false → ∀ a', itPostZ w1.heap.size (fun b => b = w.heap.size + 1) (fun b => b = w.heap.size + 1 + 1 ∨ b = w.heap.size + 1 + 2) (FpI w l) (FpX w l) k W (Exit.exit 0) a' (W5.setCell ⟨w.heap.size, 0, none⟩ (.bool false))) := Lib.hid (by
      intro W5 h5 hn a'
      have hc5 := (h5.block _ (lt_of_cells hc)).trans hc
      refine ⟨(Kept.of_below h5).trans (Kept.of_gr (row := some w.heap.size) (grownBy_setCell' W5 w.heap.size _) fun g e => ?_), rfl, ⟨x, hx, hn⟩, by simpa using set_of_cells hc5 0 (.bool false), (hb.trans (h5.mono hb.size)).setCell (p := ⟨w.heap.size, 0, none⟩) (Nat.le_refl _) _⟩
      injection e with e
      subst e
      exact ⟨by omega, by omega, _, _, _, hc5⟩)
    have HOK : Hid (∀ W5, Below W.heap.size W W5 → nmOk x = true → ∀ a', itPostZ w1.heap.size (fun b => b = w.heap.size + 1) (fun b => b = w.heap.size + 1 + 1 ∨ b = w.heap.size + 1 + 2) (FpI w l) (FpX w l) k W Exit.normal a' W5) := Lib.hid (by
      intro W5 h5 hn a'
      refine ⟨Kept.of_below h5, ?_, (h5.block _ (lt_of_cells hc)).trans hc, hb.trans (h5.mono hb.size)⟩
      rw [List.take_add_one, hx, List.all_append, ha]
      simp [hn])
    have HB := Lib.hid hb
    have hxl := spl_len (List.mem_of_getElem? hx)
    have HXL : Hid (x.length ≤ maxLen) := Lib.hid (by have := HM.out; omega)
    have HC := Lib.hid hc
    clear ha hc hb hx hxl
    by_cases h0 : x = []
    · have e0 : (st x).toList.isEmpty = true := by rw [st_list, h0]; rfl
      have HZ := Lib.hid h0
      clear h0
      gi_wp2
      exact HEX.out W (Below.refl _ _) (by rw [HZ.out]; rfl) _
    · have e0 : (st x).toList.isEmpty = false := by rw [st_list]; simpa using h0
      by_cases h1 : x = [46]
      · have e1 : ((st x).toList == [46]) = true := by rw [st_list, h1]; rfl
        have HZ := Lib.hid h1
        clear h1 h0
        gi_wp2
        exact HEX.out W (Below.refl _ _) (by rw [HZ.out]; rfl) _
      · have e1 : ((st x).toList == [46]) = false := by rw [st_list]; simpa using h1
        by_cases h2 : x = [46, 46]
        · have e2 : ((st x).toList == [46, 46]) = true := by rw [st_list, h2]; rfl
          have HZ := Lib.hid h2
          clear h2 h1 h0
          gi_wp2
          exact HEX.out W (Below.refl _ _) (by rw [HZ.out]; rfl) _
        · have e2 : ((st x).toList == [46, 46]) = false := by rw [st_list]; simpa using h2
          obtain ⟨c5, W5, hcv, hb5, hy5⟩ := conv_long x HXL.out W
          have HNM : Hid (nmOk x = x.all fun c => decide (32 ≤ c.toNat)) := Lib.hid (by unfold nmOk; simp [h0, h1, h2])
          obtain ⟨n, hn⟩ : ∃ n, n = x.length := ⟨_, rfl⟩
          rw [← hn] at hcv hy5
          have HY := Lib.hid (And.intro hb5 (And.intro hy5 hn))
          clear h0 h1 h2 hb5 hy5 hn
          gi_wp2
          gi_loopw [21] (fun i wr => ∃ j : Nat, j ≤ n ∧ i = .int .i64 (j : Int) ∧ (x.take j).all (fun c => decide (32 ≤ c.toNat)) = true ∧ wr = W5) (fun i _ => n - (intOf i).toNat)
          case atStart => exact ⟨0, Nat.zero_le _, rfl, rfl, rfl⟩
          case round =>
            obtain ⟨j, hj, rfl, haj, rfl⟩ := hrel
            have hcq := (HY.out.1.block _ (lt_of_cells HC.out)).trans HC.out
            have hfz := free_of_cells hcq 0
            have hc0 := cell_of_cells hcq 0
            simp only [List.getElem?_toArray, List.getElem?_cons_zero] at hc0
            clear hcq hcv
            by_cases hlt : j < n
            · have hlt' : (j : Int) < (n : Int) := by omega
              have hcell : wr.cell? ⟨W.heap.size, j, none⟩ = some (.int .u8 ((x[j]?.getD 0).toNat : Int)) := by
                obtain ⟨b, off, he, _, _, hce⟩ := HY.out.2.1.row (by omega)
                injection he with he
                injection he with e1 e2 _
                subst e1 e2
                simpa using hce j hlt
              have hxj : x[j]? = some (x[j]?.getD 0) := by
                have : j < x.length := by have := HY.out.2.2; omega
                simp [List.getElem?_eq_getElem this]
              have hadd := IntWalk.i64_in ((j : Int) + 1) (by have h1 := HXL.out; have h2 := HY.out.2.2; unfold maxLen at h1; omega)
              obtain ⟨c, hc⟩ : ∃ c, c = x[j]?.getD 0 := ⟨_, rfl⟩
              rw [← hc] at hcell hxj
              have HJ := Lib.hid (And.intro hxj (And.intro haj hlt))
              clear hxj haj hlt hc
              by_cases h32 : c.toNat < 32
              · have h32' : (c.toNat : Int) < 32 := by omega
                have HC3 := Lib.hid h32
                clear h32
                gi_wp2
                refine HEX.out wr HY.out.1 ?_ _
                rw [HNM.out]
                exact List.all_eq_false.2 ⟨c, List.mem_of_getElem? HJ.out.1, by have := HC3.out; simp; omega⟩
              · have h32' : ¬ (c.toNat : Int) < 32 := by omega
                have HC3 := Lib.hid h32
                clear h32
                gi_wp2
                go_roundw
                case rel => exact ⟨j + 1, by have := HJ.out.2.2; omega, by go_num, by rw [List.take_add_one, HJ.out.1, List.all_append, HJ.out.2.1]; have := HC3.out; simp; omega, by first | rfl | trivial⟩
                case measure => have := HJ.out.2.2; simp [intOf]; omega
            · have hjn : j = n := by omega
              have HJ : Hid (nmOk x = true) := Lib.hid (by rw [HNM.out]; rw [hjn, HY.out.2.2, List.take_length] at haj; exact haj)
              have hlt' : ¬ (j : Int) < (n : Int) := by omega
              clear hjn haj hlt
              gi_wp2
              exact HOK.out wr HY.out.1 HJ.out _
end Go.Proofs.YtpcoiakdbfihlaaDoor
