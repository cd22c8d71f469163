/-
  The stream's start.
-/
import Derived.Test.YtmgglcllfpikcaaDoorChaLay
import Derived.Test.YtmgglcllfpikcaaDoorRegion
namespace Go.Proofs.YtmgglcllfpikcaaDoor
open Go.RowKit

def zeros16s : Array Value := (u32s (List.replicate 16 0)).toArray
theorem zero16s : ∀ W, (zeroValue 39).run Tryd.prog W = .ok (.agg zeros16s) W := fun W => by unfold zeros16s; kernel_rfl
theorem info16s : (Tryd.prog.info? 39).map (·.size) = some 16 := by kernel_rfl
theorem info12s : (Tryd.prog.info? 24).map (·.size) = some 12 := by kernel_rfl
theorem info32s : (Tryd.prog.info? 23).map (·.size) = some 32 := by kernel_rfl
def magicValS : List (Nat × Value) := [(0, .int .u32 1634760805), (1, .int .u32 857760878), (2, .int .u32 2036477234), (3, .int .u32 1797285236)]
theorem build_magicS : (Tryd.prog.built 39 magicValS) = some (u32s magic).toArray := by unfold magicValS; kernel_rfl

/-- What holds while a part's numbers are laid. -/
structure CSt (w0 : World) (k no : List UInt8) (s : List (BitVec 32)) (w : World) : Prop where
  below : Below w0.heap.size w0 w
  key : w.heap[w0.heap.size]? = some (.cells (row8 k) 23 (0, 0))
  non : w.heap[w0.heap.size + 1]? = some (.cells (row8 no) 24 (0, 0))
  res : w.heap[w0.heap.size + 2]? = some (.cells zeros16s 39 (0, 0))
  row : Row16 39 w (w0.heap.size + 3) s
theorem CSt.lay {w0 w w' : World} {k no : List UInt8} {s s' : List (BitVec 32)} (h : CSt w0 k no s w) (hr : Row16 39 w' (w0.heap.size + 3) s') (ht : Turned (· = w0.heap.size + 3) w w') : CSt w0 k no s' w' :=
  ⟨h.below.trans ((ht.mono (T := (w0.heap.size ≤ ·)) fun b _ hb => by omega).below h.below.size), (ht.block _ (lt_of_cells h.key) (by omega)).trans h.key, (ht.block _ (lt_of_cells h.non) (by omega)).trans h.non, (ht.block _ (lt_of_cells h.res) (by omega)).trans h.res, hr⟩
theorem CSt.drew {w0 w : World} {k no : List UInt8} {s : List (BitVec 32)} (h : CSt w0 k no s w) : CSt w0 k no s w.drew := ⟨below_drew h.below, h.key, h.non, h.res, h.row.drew⟩

set_option maxHeartbeats 4000000 in
set_option maxRecDepth 100000 in
theorem start_any (k no : List UInt8) (hk : k.length = 32) (hno : no.length = 12) (n : BitVec 32) (w : World) :
    Calls Tryd.prog 13 #[.agg (row8 k), .agg (row8 no), .int .u32 (nv n)] w fun e w' => e = .returned (.agg (u32s (startL k no n)).toArray) ∧ Below w.heap.size w w' := by
  have hz := zero16s
  obtain ⟨KS, hKS⟩ : ∃ KS, KS = row8 k := ⟨_, rfl⟩
  obtain ⟨NS, hNS⟩ : ∃ NS, NS = row8 no := ⟨_, rfl⟩
  rw [← hKS, ← hNS]
  obtain ⟨MS, hMS⟩ : ∃ MS, MS = (u32s magic).toArray := ⟨_, rfl⟩
  have hbm := build_magicS
  rw [← hMS] at hbm
  have HBM : Hid ((Tryd.prog.built 39 magicValS) = some MS ∧ MS.size = 16 ∧ MS.all (·.oneCell') = true) := Lib.hid ⟨hbm, by rw [hMS]; rfl, by rw [hMS]; exact all_oneCell_toArray (u32s_one _)⟩
  obtain ⟨W0, hW0⟩ : ∃ W0, ((((w.alloc (.cells KS 23)).alloc (.cells NS 24)).alloc (.cells zeros16s 39)).alloc (.cells zeros16s 39)) = W0 := ⟨_, rfl⟩
  have hg0 := heap_alloc_new w (.cells KS 23)
  have hg1 := heap_alloc_new (w.alloc (.cells KS 23)) (.cells NS 24)
  have hg2 := heap_alloc_new ((w.alloc (.cells KS 23)).alloc (.cells NS 24)) (.cells zeros16s 39)
  have hg3 := heap_alloc_new (((w.alloc (.cells KS 23)).alloc (.cells NS 24)).alloc (.cells zeros16s 39)) (.cells zeros16s 39)
  have hb0 : Below w.heap.size w W0 := by rw [← hW0]; exact ((((Below.refl _ _).alloc (Nat.le_refl _) _).alloc (by simp) _).alloc (by simp; omega) _).alloc (by simp; omega) _
  simp only [World.size_alloc] at hg1 hg2 hg3
  have HG : Hid (W0.heap[w.heap.size]? = some (.cells KS 23 (0, 0)) ∧ W0.heap[w.heap.size + 1]? = some (.cells NS 24 (0, 0)) ∧ W0.heap[w.heap.size + 2]? = some (.cells zeros16s 39 (0, 0)) ∧ W0.heap[w.heap.size + 3]? = some (.cells zeros16s 39 (0, 0))) := Lib.hid (by
    rw [← hW0]
    refine ⟨?_, ?_, ?_, hg3⟩
    · exact (Below.heap_alloc _ _ _ (by simp <;> omega)).trans ((Below.heap_alloc _ _ _ (by simp <;> omega)).trans ((Below.heap_alloc _ _ _ (by simp)).trans hg0))
    · exact (Below.heap_alloc _ _ _ (by simp <;> omega)).trans ((Below.heap_alloc _ _ _ (by simp <;> omega)).trans hg1)
    · exact (Below.heap_alloc _ _ _ (by simp <;> omega)).trans hg2)
  have HB0 := Lib.hid hb0
  have HMS := Lib.hid hMS
  have HK := Lib.hid (And.intro hKS hk)
  have HN := Lib.hid (And.intro hNS hno)
  clear hg0 hg1 hg2 hg3 hb0 hbm hMS hKS hNS hk hno
  go_enter Tryd.func13, Tryd.ntmps13
  go_upto_region 2 with (first | (refine wpList_built (by rfl) 39 _ (by rfl) magicValS (by unfold magicValS; simp [Act.eval]) MS HBM.out.1 ?_) | (refine wpList_store_row (by rfl) 39 (.tmp 7) (.tmp 8) (by rfl) (w.heap.size + 3) MS (by rfl) (by rfl) 39 _ HG.out.2.2.2 (by rw [HBM.out.2.1]; exact info16s) (by rw [HBM.out.2.1]; rfl) HBM.out.2.2 ?_))
  have HS0 : Hid (CSt w k no magic (W0.setRow (w.heap.size + 3) MS).drew) := Lib.hid (by
    have h3 := setRow_at (new := MS) HG.out.2.2.2
    have e : ∀ b, b ≠ w.heap.size + 3 → (W0.setRow (w.heap.size + 3) MS).heap[b]? = W0.heap[b]? := fun b hb => by
      simp only [World.setRow, Array.getElem?_modify]
      rw [if_neg (by omega)]
    refine CSt.drew ⟨below_setRow HB0.out (by omega) _, ?_, ?_, ?_, by rw [← HMS.out]; exact h3, rfl⟩
    · rw [e _ (by omega), ← HK.out.1]; exact HG.out.1
    · rw [e _ (by omega), ← HN.out.1]; exact HG.out.2.1
    · rw [e _ (by omega)]; exact HG.out.2.2.1)
  clear hW0 HG HB0 HBM HMS
  have HL1 : Hid (∀ W, CSt w k no magic W → Calls Tryd.prog 18 #[.slice (some ⟨w.heap.size + 3, 4, none⟩) 8 12, .slice (some ⟨w.heap.size, 0, none⟩) 32 32] W fun e w' => e = .returned (.tuple #[]) ∧ CSt w k no (start0 k) w') := Lib.hid fun W h => by
    have h1 := lay_any (o := 4) (n := 8) (c := 12) h.row h.key (by omega) (by rw [HK.out.2]; omega) (by omega) magic_zero
    rw [HK.out.2] at h1
    exact h1.mono fun e w' ⟨a, b, c⟩ => ⟨a, h.lay b c⟩
  refine wp_region_plan (fun _ => True) [([0, 1], 2)] [] (by kernel_rfl) (by kernel_rfl) (fun _ _ d _ _ h => by cases d <;> exact h) trivial ?_
  generalize (W0.setRow (w.heap.size + 3) MS).drew = W1 at *
  refine plan_eff ?_
  refine seg_read ?v1 (by rfl) (by rfl) ?h1 ?_
  case h1 => intro W hW; go_simp; with_reducible rfl
  try simp only [Act.put, List.setIfInBounds_toArray, List.set_cons_zero, List.set_cons_succ]
  refine seg_read ?v2 (by rfl) (by rfl) ?h2 ?_
  case h2 => intro W hW; go_simp; with_reducible rfl
  try simp only [Act.put, List.setIfInBounds_toArray, List.set_cons_zero, List.set_cons_succ]
  refine seg_nil ?_
  refine eff_step (by rfl) (fun K hK => ?_)
  go_simp
  refine (HL1.out _ HS0.out).mono ?_
  rintro _ W2 ⟨rfl, hst⟩
  have HS1 := Lib.hid hst
  clear hst HS0 HL1
  refine hK _ _ ⟨fun _ => True, trivial, fun _ h => h, ?_⟩
  clear hK K
  refine plan_last ?_
  refine seg_nil ?_
  have hf := HS1.out.row.free 12
  have hc := HS1.out.row.cell 12 (by omega)
  go_upto_region 4 with fail
  clear hf hc
  have HS2 : Hid (CSt w k no (start1 k n) (W2.setCell ⟨w.heap.size + 3, 12, none⟩ (.int .u32 (nv n))).drew) := Lib.hid (CSt.drew (HS1.out.lay (HS1.out.row.set 12 n) ((Turned.refl (· = w.heap.size + 3) W2).set (p := w.heap.size + 3) rfl 12 _)))
  clear HS1
  have HL2 : Hid (∀ W, CSt w k no (start1 k n) W → Calls Tryd.prog 18 #[.slice (some ⟨w.heap.size + 3, 13, none⟩) 3 3, .slice (some ⟨w.heap.size + 1, 0, none⟩) 12 12] W fun e w' => e = .returned (.tuple #[]) ∧ CSt w k no (startL k no n) w') := Lib.hid fun W h => by
    have h1 := lay_any (o := 13) (n := 3) (c := 3) h.row h.non (by omega) (by rw [HN.out.2]; omega) (by omega) (start1_zero k n)
    rw [HN.out.2] at h1
    exact h1.mono fun e w' ⟨a, b, c⟩ => ⟨a, h.lay b c⟩
  refine wp_region_plan (fun _ => True) [([0, 1], 2)] [] (by kernel_rfl) (by kernel_rfl) (fun _ _ d _ _ h => by cases d <;> exact h) trivial ?_
  generalize (W2.setCell ⟨w.heap.size + 1 + 1 + 1, 12, none⟩ (.int .u32 (nv n))).drew = W3 at *
  refine plan_eff ?_
  refine seg_read ?v3 (by rfl) (by rfl) ?h3 ?_
  case h3 => intro W hW; go_simp; with_reducible rfl
  try simp only [Act.put, List.setIfInBounds_toArray, List.set_cons_zero, List.set_cons_succ]
  refine seg_read ?v4 (by rfl) (by rfl) ?h4 ?_
  case h4 => intro W hW; go_simp; with_reducible rfl
  try simp only [Act.put, List.setIfInBounds_toArray, List.set_cons_zero, List.set_cons_succ]
  refine seg_nil ?_
  refine eff_step (by rfl) (fun K hK => ?_)
  go_simp
  refine (HL2.out _ HS2.out).mono ?_
  rintro _ W4 ⟨rfl, hst⟩
  have HS3 := Lib.hid hst
  clear hst HS2 HL2
  refine hK _ _ ⟨fun _ => True, trivial, fun _ h => h, ?_⟩
  clear hK K
  refine plan_last ?_
  refine seg_nil ?_
  have hfl := startL_length k no n
  obtain ⟨FS, hFS⟩ : ∃ FS, FS = (u32s (startL k no n)).toArray := ⟨_, rfl⟩
  have HF : Hid (W4.heap[w.heap.size + 3]? = some (.cells FS 39 (0, 0)) ∧ FS.size = 16 ∧ FS.all (·.oneCell') = true) := Lib.hid (by
    rw [hFS]
    exact ⟨HS3.out.row.at_, by simp [u32s_length, hfl], all_oneCell_toArray (u32s_one _)⟩)
  have HFS := Lib.hid hFS
  clear hFS hfl
  go_wp2_with (first | (refine wpList_load_row (by rfl) 39 (.tmp 7) (by rfl) (w.heap.size + 3) (by rfl) 39 FS (0, 0) _ HF.out.1 Tryd.underlying39 (by rfl) (by rw [HF.out.2.1]; exact info16s) ?_) | (refine wpList_store_row (by rfl) 39 (.tmp 6) (.tmp 17) (by rfl) (w.heap.size + 2) FS (by rfl) (by rfl) 39 _ HS3.out.res (by rw [HF.out.2.1]; exact info16s) (by rw [HF.out.2.1]; rfl) HF.out.2.2 ?_))
  exact bodyPost_ret (results_cell_row rfl _ _ (w.heap.size + 2) 39 FS (0, 0) _ rfl (setRow_at HS3.out.res) Tryd.underlying39 rfl (by rw [HF.out.2.1]; exact info16s)) rfl ⟨by rw [HFS.out], below_setRow HS3.out.below (by omega) _⟩
end Go.Proofs.YtmgglcllfpikcaaDoor
