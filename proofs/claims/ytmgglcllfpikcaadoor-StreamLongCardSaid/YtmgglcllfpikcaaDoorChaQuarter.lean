/-
  The stream's quarter.
-/
import Derived.Test.YtmgglcllfpikcaaDoorChaRefLaid
import Derived.Test.YtmgglcllfpikcaaDoorRegion
namespace Go.Proofs.YtmgglcllfpikcaaDoor
open Go.RowKit

theorem rotl_still (x : BitVec 32) (k : Int) (h0 : 0 ≤ k) (h : k < 32) (w : World) :
    Calls Tryd.prog 19 #[.int .u32 (nv x), .int .i64 k] w fun e w' => e = .returned (.int .u32 (nv (rotl x k.toNat))) ∧ w' = w :=
  (rotl_at x k h0 h w).mono fun _ _ ⟨h1, h2⟩ => ⟨h1, h2.symm⟩

set_option maxHeartbeats 2000000 in
set_option maxRecDepth 100000 in
theorem quarter_any {w : World} {p : Nat} {s : List (BitVec 32)} (h : Row16 39 w p s) (i j k l : Nat) (hi : i < 16) (hj : j < 16) (hk : k < 16) (hl : l < 16) :
    Calls Tryd.prog 14 #[.pointer (some ⟨p, 0, none⟩), .agg #[.int .i64 i, .int .i64 j, .int .i64 k, .int .i64 l]] w fun e w' => e = .returned (.tuple #[]) ∧ Row16 39 w' p (quart s i j k l) ∧ Turned (· = p) w w' := by
  have H0 : Hid (Row16 39 (w.alloc (.cells #[.int .i64 i, .int .i64 j, .int .i64 k, .int .i64 l] 41)) p s ∧ p < w.heap.size) := Lib.hid ⟨h.below ((Below.refl _ _).alloc (Nat.le_refl _) _), h.lt⟩
  have HB0 : Hid (Below w.heap.size w (w.alloc (.cells #[.int .i64 i, .int .i64 j, .int .i64 k, .int .i64 l] 41)) ∧ (w.alloc (.cells #[.int .i64 i, .int .i64 j, .int .i64 k, .int .i64 l] 41)).heap[w.heap.size]? = some (.cells #[.int .i64 i, .int .i64 j, .int .i64 k, .int .i64 l] 41 (0, 0))) := Lib.hid ⟨(Below.refl _ _).alloc (Nat.le_refl _) _, heap_alloc_new w _⟩
  clear h
  go_enter Tryd.func14, Tryd.ntmps14
  go_wp2_with fail
  generalize w.alloc (.cells #[.int .i64 i, .int .i64 j, .int .i64 k, .int .i64 l] 41) = W0 at *
  obtain ⟨g, hg⟩ : ∃ g, w.heap.size = g := ⟨_, rfl⟩
  have HG := Lib.hid hg
  rw [hg] at H0 HB0
  rw [hg]
  clear hg
  have b0 : ∀ m, (W0.drewN m).cell? ⟨g, 0, none⟩ = _ := fun m => cell_of_cells HB0.out.2 0
  have b1 : ∀ m, (W0.drewN m).cell? ⟨g, 1, none⟩ = _ := fun m => cell_of_cells HB0.out.2 1
  have b2 : ∀ m, (W0.drewN m).cell? ⟨g, 2, none⟩ = _ := fun m => cell_of_cells HB0.out.2 2
  have b3 : ∀ m, (W0.drewN m).cell? ⟨g, 3, none⟩ = _ := fun m => cell_of_cells HB0.out.2 3
  simp only [List.getElem?_toArray, List.getElem?_cons_zero, List.getElem?_cons_succ] at b0 b1 b2 b3
  have ci : ∀ m, (W0.drewN m).cell? ⟨p, i, none⟩ = _ := fun m => H0.out.1.cell i hi
  have cj : ∀ m, (W0.drewN m).cell? ⟨p, j, none⟩ = _ := fun m => H0.out.1.cell j hj
  have ck : ∀ m, (W0.drewN m).cell? ⟨p, k, none⟩ = _ := fun m => H0.out.1.cell k hk
  have cl : ∀ m, (W0.drewN m).cell? ⟨p, l, none⟩ = _ := fun m => H0.out.1.cell l hl
  have HE := Lib.hid (show quart s i j k l = (((s.set i (qr (s[i]?.getD 0) (s[j]?.getD 0) (s[k]?.getD 0) (s[l]?.getD 0)).a).set j (qr (s[i]?.getD 0) (s[j]?.getD 0) (s[k]?.getD 0) (s[l]?.getD 0)).b).set k (qr (s[i]?.getD 0) (s[j]?.getD 0) (s[k]?.getD 0) (s[l]?.getD 0)).c).set l (qr (s[i]?.getD 0) (s[j]?.getD 0) (s[k]?.getD 0) (s[l]?.getD 0)).d from rfl)
  generalize s[i]?.getD 0 = xi at *
  generalize s[j]?.getD 0 = xj at *
  generalize s[k]?.getD 0 = xk at *
  generalize s[l]?.getD 0 = xl at *
  go_quiet (fail)
  have hadd := W32.add_
  have hxor := W32.xor_
  clear b0 b1 b2 b3 ci cj ck cl
  go_wp2_with (go_at_call 19; refine (rotl_at _ _ (by omega) (by omega) _).mono ?_; rintro _ _ ⟨rfl, rfl⟩)
  have HR1 : Hid (Row16 39 (W0.drewN nq).drew p s) := Lib.hid (H0.out.1.drewN nq).drew
  have HC1 : Hid ((W0.drewN nq).drew.heap[g]? = some (.cells #[.int .i64 i, .int .i64 j, .int .i64 k, .int .i64 l] 41 (0, 0))) := Lib.hid HB0.out.2
  have HT1 : Hid (Turned (· = p) w (W0.drewN nq).drew) := Lib.hid ((Turned.of_below (by rw [HG.out]; exact HB0.out.1)).drewN nq).drew
  have hpg : p ≠ g := by have := H0.out.2; omega
  have HQ : Hid (∀ q : Q4, q = qr xi xj xk xl → quart s i j k l = (((s.set i q.a).set j q.b).set k q.c).set l q.d) := Lib.hid fun q hq => by rw [hq]; exact HE.out
  obtain ⟨q, hq⟩ : ∃ q, q = qr xi xj xk xl := ⟨_, rfl⟩
  have HQ := Lib.hid (HQ.out q hq)
  have ea : xi + xj + rotl (xj ^^^ xk + rotl (xl ^^^ xi + xj) 16) 12 = q.a := by rw [hq]; rfl
  have eb : rotl (rotl (xj ^^^ xk + rotl (xl ^^^ xi + xj) 16) 12 ^^^ xk + rotl (xl ^^^ xi + xj) 16 + rotl (rotl (xl ^^^ xi + xj) 16 ^^^ xi + xj + rotl (xj ^^^ xk + rotl (xl ^^^ xi + xj) 16) 12) 8) 7 = q.b := by rw [hq]; rfl
  have ec : xk + rotl (xl ^^^ xi + xj) 16 + rotl (rotl (xl ^^^ xi + xj) 16 ^^^ xi + xj + rotl (xj ^^^ xk + rotl (xl ^^^ xi + xj) 16) 12) 8 = q.c := by rw [hq]; rfl
  have ed : rotl (rotl (xl ^^^ xi + xj) 16 ^^^ xi + xj + rotl (xj ^^^ xk + rotl (xl ^^^ xi + xj) 16) 12) 8 = q.d := by rw [hq]; rfl
  rw [eb, ec, ed, ea]
  clear ea eb ec ed hq HE hadd hxor
  refine wp_region_plan (fun W => W.heap[g]? = some (.cells #[.int .i64 i, .int .i64 j, .int .i64 k, .int .i64 l] 41 (0, 0))) [([0, 1, 2, 3, 4, 5, 6, 7, 8, 9, 10, 11, 12, 13, 14, 15, 16, 19, 22, 25, 17], 18), ([20], 21), ([23], 24), ([26], 27)] [] (by kernel_rfl) (by kernel_rfl) (fun _ _ d _ _ h => by cases d <;> exact h) HC1.out ?_
  clear HB0 H0
  generalize (W0.drewN nq).drew = W1 at *
  have ii : (i : Int) < 16 := by omega
  have ij : (j : Int) < 16 := by omega
  have ik : (k : Int) < 16 := by omega
  have il : (l : Int) < 16 := by omega
  refine plan_eff ?_
  refine seg_read ?v1 (by rfl) (by rfl) ?h1 ?_
  case h1 => intro W hW; go_simp; with_reducible rfl
  try simp only [Act.put, List.setIfInBounds_toArray, List.set_cons_zero, List.set_cons_succ]
  refine seg_read ?v2 (by rfl) (by rfl) ?h2 ?_
  case h2 => intro W hW; go_simp; with_reducible rfl
  try simp only [Act.put, List.setIfInBounds_toArray, List.set_cons_zero, List.set_cons_succ]
  refine seg_read ?v3 (by rfl) (by rfl) ?h3 ?_
  case h3 => intro W hW; have hb := cell_of_cells hW 0; simp only [List.getElem?_toArray, List.getElem?_cons_zero] at hb; go_simp; with_reducible rfl
  try simp only [Act.put, List.setIfInBounds_toArray, List.set_cons_zero, List.set_cons_succ]
  refine seg_read ?v4 (by rfl) (by rfl) ?h4 ?_
  case h4 => intro W hW; go_simp; with_reducible rfl
  try simp only [Act.put, List.setIfInBounds_toArray, List.set_cons_zero, List.set_cons_succ]
  refine seg_read ?v5 (by rfl) (by rfl) ?h5 ?_
  case h5 => intro W hW; go_simp; with_reducible rfl
  try simp only [Act.put, List.setIfInBounds_toArray, List.set_cons_zero, List.set_cons_succ]
  refine seg_read ?v6 (by rfl) (by rfl) ?h6 ?_
  case h6 => intro W hW; have hb := cell_of_cells hW 1; simp only [List.getElem?_toArray, List.getElem?_cons_zero, List.getElem?_cons_succ] at hb; go_simp; with_reducible rfl
  try simp only [Act.put, List.setIfInBounds_toArray, List.set_cons_zero, List.set_cons_succ]
  refine seg_read ?v7 (by rfl) (by rfl) ?h7 ?_
  case h7 => intro W hW; go_simp; with_reducible rfl
  try simp only [Act.put, List.setIfInBounds_toArray, List.set_cons_zero, List.set_cons_succ]
  refine seg_read ?v8 (by rfl) (by rfl) ?h8 ?_
  case h8 => intro W hW; go_simp; with_reducible rfl
  try simp only [Act.put, List.setIfInBounds_toArray, List.set_cons_zero, List.set_cons_succ]
  refine seg_read ?v9 (by rfl) (by rfl) ?h9 ?_
  case h9 => intro W hW; have hb := cell_of_cells hW 2; simp only [List.getElem?_toArray, List.getElem?_cons_zero, List.getElem?_cons_succ] at hb; go_simp; with_reducible rfl
  try simp only [Act.put, List.setIfInBounds_toArray, List.set_cons_zero, List.set_cons_succ]
  refine seg_read ?v10 (by rfl) (by rfl) ?h10 ?_
  case h10 => intro W hW; go_simp; with_reducible rfl
  try simp only [Act.put, List.setIfInBounds_toArray, List.set_cons_zero, List.set_cons_succ]
  refine seg_read ?v11 (by rfl) (by rfl) ?h11 ?_
  case h11 => intro W hW; go_simp; with_reducible rfl
  try simp only [Act.put, List.setIfInBounds_toArray, List.set_cons_zero, List.set_cons_succ]
  refine seg_read ?v12 (by rfl) (by rfl) ?h12 ?_
  case h12 => intro W hW; have hb := cell_of_cells hW 3; simp only [List.getElem?_toArray, List.getElem?_cons_zero, List.getElem?_cons_succ] at hb; go_simp; with_reducible rfl
  try simp only [Act.put, List.setIfInBounds_toArray, List.set_cons_zero, List.set_cons_succ]
  refine seg_read ?v13 (by rfl) (by rfl) ?h13 ?_
  case h13 => intro W hW; go_simp; with_reducible rfl
  try simp only [Act.put, List.setIfInBounds_toArray, List.set_cons_zero, List.set_cons_succ]
  refine seg_read ?v14 (by rfl) (by rfl) ?h14 ?_
  case h14 => intro W hW; go_simp; with_reducible rfl
  try simp only [Act.put, List.setIfInBounds_toArray, List.set_cons_zero, List.set_cons_succ]
  refine seg_read ?v15 (by rfl) (by rfl) ?h15 ?_
  case h15 => intro W hW; go_simp; with_reducible rfl
  try simp only [Act.put, List.setIfInBounds_toArray, List.set_cons_zero, List.set_cons_succ]
  refine seg_read ?v16 (by rfl) (by rfl) ?h16 ?_
  case h16 => intro W hW; go_simp; with_reducible rfl
  try simp only [Act.put, List.setIfInBounds_toArray, List.set_cons_zero, List.set_cons_succ]
  refine seg_read ?v17 (by rfl) (by rfl) ?h17 ?_
  case h17 => intro W hW; go_simp; with_reducible rfl
  try simp only [Act.put, List.setIfInBounds_toArray, List.set_cons_zero, List.set_cons_succ]
  refine seg_read ?v18 (by rfl) (by rfl) ?h18 ?_
  case h18 => intro W hW; go_simp; with_reducible rfl
  try simp only [Act.put, List.setIfInBounds_toArray, List.set_cons_zero, List.set_cons_succ]
  refine seg_read ?v19 (by rfl) (by rfl) ?h19 ?_
  case h19 => intro W hW; go_simp; with_reducible rfl
  try simp only [Act.put, List.setIfInBounds_toArray, List.set_cons_zero, List.set_cons_succ]
  refine seg_read ?v20 (by rfl) (by rfl) ?h20 ?_
  case h20 => intro W hW; go_simp; with_reducible rfl
  try simp only [Act.put, List.setIfInBounds_toArray, List.set_cons_zero, List.set_cons_succ]
  refine seg_read ?v21 (by rfl) (by rfl) ?h21 ?_
  case h21 => intro W hW; go_simp; with_reducible rfl
  try simp only [Act.put, List.setIfInBounds_toArray, List.set_cons_zero, List.set_cons_succ]
  have hf := HR1.out.free i
  have hc := HR1.out.cell i hi
  refine seg_nil ?_
  refine eff_step (by rfl) (fun K hK => ?_)
  go_simp
  have HC2 : Hid ((W1.setCell ⟨p, i, none⟩ (.int .u32 (nv q.a))).heap[g]? = some (.cells #[.int .i64 i, .int .i64 j, .int .i64 k, .int .i64 l] 41 (0, 0))) := Lib.hid ((Below.heap_setCell _ _ _ _ (fun e => hpg e.symm)).trans HC1.out)
  refine hK _ _ ⟨fun W => W.heap[g]? = some (.cells #[.int .i64 i, .int .i64 j, .int .i64 k, .int .i64 l] 41 (0, 0)), HC2.out, fun _ h => h, ?_⟩
  clear hK K hf hc
  try simp only [Act.put, List.setIfInBounds_toArray, List.set_cons_zero, List.set_cons_succ]
  have HR2 := Lib.hid (HR1.out.set i q.a)
  have HT2 := Lib.hid (HT1.out.set (p := p) rfl i (.int .u32 (nv q.a)))
  clear HR1 HC1 HT1
  generalize W1.setCell ⟨p, i, none⟩ (.int .u32 (nv q.a)) = W2 at *
  refine plan_eff ?_
  refine seg_read ?v22 (by rfl) (by rfl) ?h22 ?_
  case h22 => intro W hW; go_simp; with_reducible rfl
  try simp only [Act.put, List.setIfInBounds_toArray, List.set_cons_zero, List.set_cons_succ]
  have hf := HR2.out.free j
  have hc := HR2.out.cell j hj
  refine seg_nil ?_
  refine eff_step (by rfl) (fun K hK => ?_)
  go_simp
  have HC3 : Hid ((W2.setCell ⟨p, j, none⟩ (.int .u32 (nv q.b))).heap[g]? = some (.cells #[.int .i64 i, .int .i64 j, .int .i64 k, .int .i64 l] 41 (0, 0))) := Lib.hid ((Below.heap_setCell _ _ _ _ (fun e => hpg e.symm)).trans HC2.out)
  refine hK _ _ ⟨fun W => W.heap[g]? = some (.cells #[.int .i64 i, .int .i64 j, .int .i64 k, .int .i64 l] 41 (0, 0)), HC3.out, fun _ h => h, ?_⟩
  clear hK K hf hc
  try simp only [Act.put, List.setIfInBounds_toArray, List.set_cons_zero, List.set_cons_succ]
  have HR3 := Lib.hid (HR2.out.set j q.b)
  have HT3 := Lib.hid (HT2.out.set (p := p) rfl j (.int .u32 (nv q.b)))
  clear HR2 HC2 HT2
  generalize W2.setCell ⟨p, j, none⟩ (.int .u32 (nv q.b)) = W3 at *
  refine plan_eff ?_
  refine seg_read ?v23 (by rfl) (by rfl) ?h23 ?_
  case h23 => intro W hW; go_simp; with_reducible rfl
  try simp only [Act.put, List.setIfInBounds_toArray, List.set_cons_zero, List.set_cons_succ]
  have hf := HR3.out.free k
  have hc := HR3.out.cell k hk
  refine seg_nil ?_
  refine eff_step (by rfl) (fun K hK => ?_)
  go_simp
  have HC4 : Hid ((W3.setCell ⟨p, k, none⟩ (.int .u32 (nv q.c))).heap[g]? = some (.cells #[.int .i64 i, .int .i64 j, .int .i64 k, .int .i64 l] 41 (0, 0))) := Lib.hid ((Below.heap_setCell _ _ _ _ (fun e => hpg e.symm)).trans HC3.out)
  refine hK _ _ ⟨fun W => W.heap[g]? = some (.cells #[.int .i64 i, .int .i64 j, .int .i64 k, .int .i64 l] 41 (0, 0)), HC4.out, fun _ h => h, ?_⟩
  clear hK K hf hc
  try simp only [Act.put, List.setIfInBounds_toArray, List.set_cons_zero, List.set_cons_succ]
  have HR4 := Lib.hid (HR3.out.set k q.c)
  have HT4 := Lib.hid (HT3.out.set (p := p) rfl k (.int .u32 (nv q.c)))
  clear HR3 HC3 HT3
  generalize W3.setCell ⟨p, k, none⟩ (.int .u32 (nv q.c)) = W4 at *
  refine plan_eff ?_
  refine seg_read ?v24 (by rfl) (by rfl) ?h24 ?_
  case h24 => intro W hW; go_simp; with_reducible rfl
  try simp only [Act.put, List.setIfInBounds_toArray, List.set_cons_zero, List.set_cons_succ]
  have hf := HR4.out.free l
  have hc := HR4.out.cell l hl
  refine seg_nil ?_
  refine eff_step (by rfl) (fun K hK => ?_)
  go_simp
  have HC5 : Hid ((W4.setCell ⟨p, l, none⟩ (.int .u32 (nv q.d))).heap[g]? = some (.cells #[.int .i64 i, .int .i64 j, .int .i64 k, .int .i64 l] 41 (0, 0))) := Lib.hid ((Below.heap_setCell _ _ _ _ (fun e => hpg e.symm)).trans HC4.out)
  refine hK _ _ ⟨fun W => W.heap[g]? = some (.cells #[.int .i64 i, .int .i64 j, .int .i64 k, .int .i64 l] 41 (0, 0)), HC5.out, fun _ h => h, ?_⟩
  clear hK K hf hc
  try simp only [Act.put, List.setIfInBounds_toArray, List.set_cons_zero, List.set_cons_succ]
  have HR5 := Lib.hid (HR4.out.set l q.d)
  have HT5 := Lib.hid (HT4.out.set (p := p) rfl l (.int .u32 (nv q.d)))
  clear HR4 HC4 HT4
  generalize W4.setCell ⟨p, l, none⟩ (.int .u32 (nv q.d)) = W5 at *
  refine plan_last ?_
  refine seg_nil ?_
  go_wp2_with fail
  go_end0
  exact ⟨rfl, by rw [HQ.out]; exact HR5.out, HT5.out⟩
end Go.Proofs.YtmgglcllfpikcaaDoor
