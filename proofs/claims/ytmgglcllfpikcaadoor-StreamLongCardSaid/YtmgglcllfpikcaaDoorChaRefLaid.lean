/-
  The reference's laid: one quarter of sixteen numbers.
-/
import Derived.Test.YtmgglcllfpikcaaDoorChaRot
namespace Go.Proofs.YtmgglcllfpikcaaDoor
open Go.RowKit

def zeros16v : Array Value := (u32s (List.replicate 16 0)).toArray
theorem zero16_ref : ∀ W, (zeroValue 38).run Tryd.prog W = .ok (.agg zeros16v) W := fun W => by unfold zeros16v; kernel_rfl
theorem info16_ref : (Tryd.prog.info? 38).map (·.size) = some 16 := by kernel_rfl

/-- A row of sixteen numbers stands whole at block g. -/
structure Row16 (t : TypeId) (w : World) (g : Nat) (s : List (BitVec 32)) : Prop where
  at_ : w.heap[g]? = some (.cells (u32s s).toArray t (0, 0))
  len : s.length = 16
section
variable {t : TypeId} {w w' : World} {g : Nat} {s : List (BitVec 32)}
theorem Row16.lt (h : Row16 t w g s) : g < w.heap.size := lt_of_cells h.at_
theorem Row16.cell (h : Row16 t w g s) (i : Nat) (hi : i < 16) : w.cell? ⟨g, i, none⟩ = some (.int .u32 (nv (s[i]?.getD 0))) := u32s_cell h.at_ i (by rw [h.len]; exact hi)
theorem Row16.free (h : Row16 t w g s) (i : Nat) : w.frozen? ⟨g, i, none⟩ = false := free_of_cells h.at_ i
theorem Row16.drewN (h : Row16 t w g s) (k : Nat) : Row16 t (w.drewN k) g s := ⟨h.at_, h.len⟩
theorem Row16.drew (h : Row16 t w g s) : Row16 t w.drew g s := ⟨h.at_, h.len⟩
theorem Row16.set (h : Row16 t w g s) (i : Nat) (x : BitVec 32) : Row16 t (w.setCell ⟨g, i, none⟩ (.int .u32 (nv x))) g (s.set i x) := ⟨u32s_cells_set h.at_ i x, by simp [h.len]⟩
theorem Row16.below (h : Row16 t w g s) (hb : Below w.heap.size w w') : Row16 t w' g s := ⟨(hb.block g h.lt).trans h.at_, h.len⟩
theorem Row16.keep {S : Nat → Prop} (h : Row16 t w g s) (ht : Turned S w w') (hS : ¬ S g) : Row16 t w' g s := ⟨(ht.block g h.lt hS).trans h.at_, h.len⟩
end

theorem rquarter_still (a b c d : BitVec 32) (w : World) :
    Calls Tryd.prog 20 #[.int .u32 (nv a), .int .u32 (nv b), .int .u32 (nv c), .int .u32 (nv d)] w fun e w' =>
      e = .returned (.tuple #[.int .u32 (nv (qr a b c d).a), .int .u32 (nv (qr a b c d).b), .int .u32 (nv (qr a b c d).c), .int .u32 (nv (qr a b c d).d)]) ∧ w' = w :=
  (rquarter_any a b c d w).mono fun _ _ ⟨h1, h2⟩ => ⟨h1, h2.symm⟩

set_option maxHeartbeats 2000000 in
set_option maxRecDepth 100000 in
theorem rlaid_any (s : List (BitVec 32)) (hs : s.length = 16) (i j k l : Nat) (hi : i < 16) (hj : j < 16) (hk : k < 16) (hl : l < 16) (w : World) :
    Calls Tryd.prog 16 #[.agg (u32s s).toArray, .int .i64 i, .int .i64 j, .int .i64 k, .int .i64 l] w fun e w' => e = .returned (.agg (u32s (quart s i j k l)).toArray) ∧ Below w.heap.size w w' := by
  have hz := zero16_ref
  obtain ⟨RS, hRS⟩ : ∃ RS, RS = (u32s s).toArray := ⟨_, rfl⟩
  rw [← hRS]
  have HS := Lib.hid hs
  have H0 : Hid (Row16 38 ((w.alloc (.cells RS 38)).alloc (.cells zeros16v 38)) w.heap.size s) := Lib.hid ⟨by rw [← hRS]; exact (Below.heap_alloc _ _ _ (by simp)).trans (heap_alloc_new w _), hs⟩
  have HR : Hid (((w.alloc (.cells RS 38)).alloc (.cells zeros16v 38)).heap[w.heap.size + 1]? = some (.cells zeros16v 38 (0, 0))) := Lib.hid (by
    have := heap_alloc_new (w.alloc (.cells RS 38)) (.cells zeros16v 38)
    simpa using this)
  have HB0 : Hid (Below w.heap.size w ((w.alloc (.cells RS 38)).alloc (.cells zeros16v 38))) := Lib.hid (((Below.refl _ _).alloc (Nat.le_refl _) _).alloc (by simp) _)
  clear hRS hs
  go_enter Tryd.func16, Tryd.ntmps16
  go_wp2_with fail
  generalize (w.alloc (.cells RS 38)).alloc (.cells zeros16v 38) = W0 at *
  obtain ⟨g, hg⟩ : ∃ g, w.heap.size = g := ⟨_, rfl⟩
  have HG := Lib.hid hg
  rw [hg] at H0 HR
  rw [hg]
  clear hg
  have ci : ∀ m, (W0.drewN m).cell? ⟨g, i, none⟩ = _ := fun m => H0.out.cell i hi
  have cj : ∀ m, (W0.drewN m).cell? ⟨g, j, none⟩ = _ := fun m => H0.out.cell j hj
  have ck : ∀ m, (W0.drewN m).cell? ⟨g, k, none⟩ = _ := fun m => H0.out.cell k hk
  have cl : ∀ m, (W0.drewN m).cell? ⟨g, l, none⟩ = _ := fun m => H0.out.cell l hl
  have HE := Lib.hid (show quart s i j k l = (((s.set i (qr (s[i]?.getD 0) (s[j]?.getD 0) (s[k]?.getD 0) (s[l]?.getD 0)).a).set j (qr (s[i]?.getD 0) (s[j]?.getD 0) (s[k]?.getD 0) (s[l]?.getD 0)).b).set k (qr (s[i]?.getD 0) (s[j]?.getD 0) (s[k]?.getD 0) (s[l]?.getD 0)).c).set l (qr (s[i]?.getD 0) (s[j]?.getD 0) (s[k]?.getD 0) (s[l]?.getD 0)).d from rfl)
  generalize s[i]?.getD 0 = xi at *
  generalize s[j]?.getD 0 = xj at *
  generalize s[k]?.getD 0 = xk at *
  generalize s[l]?.getD 0 = xl at *
  go_quiet ((go_at_call 20; exact Calls.quiet_of_same (rquarter_still _ _ _ _ _)))
  generalize qr xi xj xk xl = q at *
  have H1 := Lib.hid (H0.out.drewN nq)
  have HR1 : Hid ((W0.drewN nq).heap[g + 1]? = some (.cells zeros16v 38 (0, 0)) ∧ Below w.heap.size w (W0.drewN nq)) := Lib.hid ⟨HR.out, below_drewN HB0.out nq⟩
  clear ci cj ck cl HB0 HR H0
  generalize W0.drewN nq = W1 at *
  have hf := H1.out.free i
  have hc := H1.out.cell i hi
  go_upto_region 3 with fail
  clear hf hc
  have H2 := Lib.hid (H1.out.set i q.a)
  have HR2 : Hid ((W1.setCell ⟨g, i, none⟩ (.int .u32 (nv q.a))).heap[g + 1]? = some (.cells zeros16v 38 (0, 0)) ∧ Below w.heap.size w (W1.setCell ⟨g, i, none⟩ (.int .u32 (nv q.a)))) := Lib.hid ⟨(Below.heap_setCell _ _ _ _ (by dsimp only; omega)).trans HR1.out.1, HR1.out.2.setCell (by rw [HG.out]; exact Nat.le_refl _) _⟩
  clear H1 HR1
  generalize W1.setCell ⟨g, i, none⟩ (.int .u32 (nv q.a)) = W2 at *
  have hf := H2.out.free j
  have hc := H2.out.cell j hj
  go_upto_region 4 with fail
  clear hf hc
  have H3 := Lib.hid (H2.out.set j q.b)
  have HR3 : Hid ((W2.setCell ⟨g, j, none⟩ (.int .u32 (nv q.b))).heap[g + 1]? = some (.cells zeros16v 38 (0, 0)) ∧ Below w.heap.size w (W2.setCell ⟨g, j, none⟩ (.int .u32 (nv q.b)))) := Lib.hid ⟨(Below.heap_setCell _ _ _ _ (by dsimp only; omega)).trans HR2.out.1, HR2.out.2.setCell (by rw [HG.out]; exact Nat.le_refl _) _⟩
  clear H2 HR2
  generalize W2.setCell ⟨g, j, none⟩ (.int .u32 (nv q.b)) = W3 at *
  have hf := H3.out.free k
  have hc := H3.out.cell k hk
  go_upto_region 5 with fail
  clear hf hc
  have H4 := Lib.hid (H3.out.set k q.c)
  have HR4 : Hid ((W3.setCell ⟨g, k, none⟩ (.int .u32 (nv q.c))).heap[g + 1]? = some (.cells zeros16v 38 (0, 0)) ∧ Below w.heap.size w (W3.setCell ⟨g, k, none⟩ (.int .u32 (nv q.c)))) := Lib.hid ⟨(Below.heap_setCell _ _ _ _ (by dsimp only; omega)).trans HR3.out.1, HR3.out.2.setCell (by rw [HG.out]; exact Nat.le_refl _) _⟩
  clear H3 HR3
  generalize W3.setCell ⟨g, k, none⟩ (.int .u32 (nv q.c)) = W4 at *
  have hf := H4.out.free l
  have hc := H4.out.cell l hl
  go_upto_region 6 with fail
  clear hf hc
  have H5 := Lib.hid (H4.out.set l q.d)
  have HR5 : Hid ((W4.setCell ⟨g, l, none⟩ (.int .u32 (nv q.d))).heap[g + 1]? = some (.cells zeros16v 38 (0, 0)) ∧ Below w.heap.size w (W4.setCell ⟨g, l, none⟩ (.int .u32 (nv q.d)))) := Lib.hid ⟨(Below.heap_setCell _ _ _ _ (by dsimp only; omega)).trans HR4.out.1, HR4.out.2.setCell (by rw [HG.out]; exact Nat.le_refl _) _⟩
  clear H4 HR4
  generalize W4.setCell ⟨g, l, none⟩ (.int .u32 (nv q.d)) = W5 at *
  obtain ⟨QS, hQS⟩ : ∃ QS, QS = (u32s (quart s i j k l)).toArray := ⟨_, rfl⟩
  have HQE := Lib.hid hQS
  have HQ : Hid (W5.heap[g]? = some (.cells QS 38 (0, 0)) ∧ QS.size = 16 ∧ QS.all (·.oneCell') = true) := Lib.hid (by
    rw [hQS]
    refine ⟨by rw [HE.out]; exact H5.out.at_, by simp [u32s_length, quart_length, HS.out], all_oneCell_toArray (u32s_one _)⟩)
  clear hQS
  go_wp2_with (first | (refine wpList_load_row (by rfl) 38 (.tmp 5) (by rfl) g (by rfl) 38 QS (0, 0) _ HQ.out.1 Tryd.underlying38 (by rfl) (by rw [HQ.out.2.1]; exact info16_ref) ?_) | (refine wpList_store_row (by rfl) 38 (.tmp 10) (.tmp 45) (by rfl) (g + 1) QS (by rfl) (by rfl) 38 _ HR5.out.1 (by rw [HQ.out.2.1]; exact info16_ref) (by rw [HQ.out.2.1]; rfl) HQ.out.2.2 ?_))
  exact bodyPost_ret (results_cell_row rfl _ _ (g + 1) 38 QS (0, 0) _ rfl (setRow_at HR5.out.1) Tryd.underlying38 rfl (by rw [HQ.out.2.1]; exact info16_ref)) rfl ⟨by rw [HQE.out], below_setRow HR5.out.2 (by rw [HG.out]; omega) _⟩
end Go.Proofs.YtmgglcllfpikcaaDoor
