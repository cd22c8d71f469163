/-
  The law of drawn regions (Grow) where one old row may be written, once: 'Sto q o': of the old blocks only q may have turned, and it is as it was, or it is o.
-/
import Derived.Test.YtogfblfekedefaaGrow
import Derived.Test.YtogfblfekedefaaCells
namespace Go.Proofs.Ytogfblfekedefaa
open Go.RowKit

structure Sto (q : Nat) (o : Obj) (W W' : World) : Prop where
  turned : Turned (· = q) W W'
  at_ : W'.heap[q]? = W.heap[q]? ∨ W'.heap[q]? = some o
section
variable {q : Nat} {o : Obj} {A B C : World}
theorem Sto.refl (q : Nat) (o : Obj) (W : World) : Sto q o W W := ⟨Turned.refl _ _, .inl rfl⟩
theorem Sto.trans (h : Sto q o A B) (k : Sto q o B C) : Sto q o A C :=
  ⟨h.turned.trans k.turned fun _ _ h => h, by
    rcases k.at_ with h1 | h1
    · rw [h1]; exact h.at_
    · exact .inr h1⟩
theorem Sto.of_below (h : Below A.heap.size A B) (hq : q < A.heap.size) : Sto q o A B := ⟨Turned.of_below h, .inl (h.block q hq)⟩
theorem Sto.keeps (h : Sto q o A B) (hA : A.heap[q]? = some o) : B.heap[q]? = some o := by
  rcases h.at_ with h1 | h1
  · rw [h1, hA]
  · exact h1
theorem Sto.lt (h : Sto q o A B) (hq : q < A.heap.size) : q < B.heap.size := Nat.lt_of_lt_of_le hq h.turned.size
theorem Sto.old {cs os : Array Value} {t : TypeId} (h : Sto q (.cells cs t (0, 0)) A B) (hA : A.heap[q]? = some (.cells os t (0, 0))) : ∃ ds, B.heap[q]? = some (.cells ds t (0, 0)) ∧ (ds = os ∨ ds = cs) := by
  rcases h.at_ with h1 | h1
  · exact ⟨os, h1.trans hA, .inl rfl⟩
  · exact ⟨cs, h1, .inr rfl⟩
theorem turned_setRow {w : World} {g : Nat} (cs : Array Value) : Turned (· = g) w (w.setRow g cs) :=
  ⟨rfl, rfl, rfl, by simp [World.setRow], fun k _ hk => by
    simp only [World.setRow, Array.getElem?_modify]
    rw [if_neg (fun e => hk e.symm)]⟩
theorem Sto.store {W : World} {cs os : Array Value} {t : TypeId} (h : W.heap[q]? = some (.cells os t (0, 0))) : Sto q (.cells cs t (0, 0)) W (W.setRow q cs) :=
  ⟨turned_setRow cs, .inr (setRow_at h)⟩
theorem Sto.of_drew (h : Sto q o A.drew B) : Sto q o A B := ⟨⟨h.turned.os, h.turned.tape, h.turned.output, h.turned.size, h.turned.block⟩, h.at_⟩
end

/-- What a store of a whole row comes to. -/
theorem runs_store {P : Program} {R : Value → World → Prop} {E : Operand → Value} {o : Oper} {W : World} (ty : TypeId) (x y : Operand) (ho : o.op = .store ty x y) (g : Nat) (cells : Array Value) (hx : E x = .pointer (some ⟨g, 0, none⟩)) (hy : E y = .agg cells)
    (t : TypeId) (old : Array Value) (hg : W.heap[g]? = some (.cells old t (0, 0))) (hi : (P.info? ty).map (·.size) = some cells.size) (hold : old.size = cells.size) (h1 : cells.all (·.oneCell') = true) (h : R undef (W.setRow g cells)) : Grow.runsTo P R ((execOp E o).run P W) := by
  unfold execOp
  simp only [ho, hx, hy, Instr.storeAt, Instr.sureAddr, Sem.run_bind, Sem.run_pure, Result.andThen_ok, run_storeVar_row W g t ty old cells hg hi hold h1]
  exact h
/-- What a load of a whole row comes to. -/
theorem runs_load {P : Program} {R : Value → World → Prop} {E : Operand → Value} {o : Oper} {W : World} {t e : TypeId} {n : Nat} (ty : TypeId) (x : Operand) (ho : o.op = .load ty x) (g : Nat) (hx : E x = .pointer (some ⟨g, 0, none⟩)) (cells : Array Value) (f : Nat × Nat) (hg : W.heap[g]? = some (.cells cells t f))
    (hu : P.underlying ty = some (.array n e)) (hi : (P.info? ty).map (·.size) = some cells.size) (h : R (.agg cells) W) : Grow.runsTo P R ((execOp E o).run P W) := by
  unfold execOp
  simp only [ho, hx, Instr.loadAt, Instr.sureAddr, Sem.run_bind, Sem.run_pure, Result.andThen_ok, run_loadVar_row W g t ty cells f _ hg hu rfl hi]
  exact h
end Go.Proofs.Ytogfblfekedefaa
