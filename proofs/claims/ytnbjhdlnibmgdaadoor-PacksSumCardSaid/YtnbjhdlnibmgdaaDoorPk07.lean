/-
  Packs: what blobs take, whether a pack holds them.
  Packs: whether something is so of each size.
  Packs: fill, which tells the pack that each blob comes into, and its promise.
-/
import Derived.Test.YtnbjhdlnibmgdaaDoorPk01
import Derived.Test.YtnbjhdlnibmgdaaDoorPk06
import Derived.Test.YtnbjhdlnibmgdaaDoorPk02
import Derived.Test.YtnbjhdlnibmgdaaDoorPk03
import Derived.BigQuiet
import Derived.Test.YtnbjhdlnibmgdaaDoorPk05
import Derived.TacticsInMore
import Derived.LoopNIn
import Derived.LoopIn
import Derived.Sort.CutIn
/-! Packs: what blobs take, whether a pack holds them. -/
namespace Go.Proofs.YtnbjhdlnibmgdaaDoor
open Go.RowKit Codec

theorem room_info : (Tryd.prog.info? 46).map (·.size) = some 2 := by kernel_rfl
def rmV (k y : Nat) : Array Value := #[.int .i64 (k : Int), .int .i64 (y : Int)]
theorem may_any (s : Int) (w : World) : Calls Tryd.prog 14 #[.int .i64 s] w fun e w' => e = .returned (.bool (pkMay s)) ∧ w = w' := by
  unfold pkMay
  by_cases h1 : 41 ≤ s
  · by_cases h2 : s ≤ 65577
    · go_enter Tryd.func14, Tryd.ntmps14
      go_wp2
      go_ret
      simp [h1, h2]
    · go_enter Tryd.func14, Tryd.ntmps14
      go_wp2
      go_ret
      simp [h2]
  · go_enter Tryd.func14, Tryd.ntmps14
    go_wp2
    go_ret
    simp; omega
set_option maxHeartbeats 4000000 in
theorem long_any (x : Nat) (hx : x < 9223372036854775808) (w : World) : Calls Tryd.prog 34 #[.int .i64 (x : Int)] w fun e w' => e = .returned (.int .i64 (lnN x : Int)) ∧ Below w.heap.size w w' := by
  have hcv := IntWalk.u64_in (x : Int) (by omega)
  have hnw := newWriter w
  have HX := Lib.hid hx
  clear hx
  go_enter Tryd.func34, Tryd.ntmps34
  go_upto_region 2 with (go_at_call 17; refine hnw.mono ?_; clear hnw; rintro _ w1 ⟨p, rfl, hw1, hb1⟩)
  have h2 := wuint hw1 (x := x) (by have := HX.out; omega) (by simp)
  have HB1 := Lib.hid hb1
  clear hw1 hb1
  go_upto_region 3 with (go_at_call 18; refine h2.mono ?_; clear h2; rintro _ w2 hp2; obtain ⟨rfl, hw2, ht2⟩ := hp2)
  have hp2 := Put.from (e := .returned (.tuple #[])) (show Put w1 (w.heap.size ≤ ·) p ([] ++ put x) _ w2 from ⟨rfl, hw2, ht2⟩) HB1.out.size
  have hout := wout hp2.1 (by have h2 := put_length_64 (x := x) (by have := HX.out; omega); simp; omega)
  have HB2 := Lib.hid (HB1.out.trans hp2.2)
  clear hw2 ht2 hp2 HB1
  obtain ⟨M, hM⟩ : ∃ M, M = ([] ++ put x).length := ⟨_, rfl⟩
  rw [← hM] at hout
  have HM := Lib.hid hM
  clear hM
  go_wp2_with (go_at_call 20; refine hout.mono ?_; clear hout; rintro _ w3 ⟨A3, c3, rfl, _, hb3, _⟩)
  go_ret
  exact ⟨by rw [HM.out]; rfl, HB2.out.trans (hb3.mono HB2.out.size)⟩
set_option maxHeartbeats 4000000 in
set_option maxRecDepth 100000 in
theorem with_any (k y x : Nat) (hk : k ≤ 1000000) (hy : y ≤ 1000000000000) (hx : x ≤ 1000000000000) (w : World) :
    Calls Tryd.prog 15 #[.agg (rmV k y), .int .i64 (x : Int)] w fun e w' => e = .returned (.agg (rmV (k + 1) (y + pkE x))) ∧ Below w.heap.size w w' := by
  have hln := fun W => long_any x (by omega) W
  have hl10 := lnN_le (x := x) (by omega)
  have h1 := IntWalk.i64_in ((k : Int) + 1) (by omega)
  have h2 := IntWalk.i64_in ((y : Int) + (lnN x : Int)) (by omega)
  have h3 := IntWalk.i64_in ((y : Int) + (lnN x : Int) + (x : Int)) (by omega)
  have HE : Hid (rmV (k + 1) (y + pkE x) = #[.int .i64 ((k : Int) + 1), .int .i64 ((y : Int) + (lnN x : Int) + (x : Int))]) := Lib.hid (by unfold rmV pkE; simp [Int.add_assoc])
  rw [HE.out, show rmV k y = #[.int .i64 (k : Int), .int .i64 (y : Int)] from rfl]
  generalize lnN x = L at *
  have H1 := Lib.hid h1
  have H2 := Lib.hid h2
  have H3 := Lib.hid h3
  clear hk hy hx hl10 h1 h2 h3 HE
  go_enter Tryd.func15, Tryd.ntmps15
  go_upto_region 1 with fail
  have hc0 : ((w.alloc (.cells #[.int .i64 (k : Int), .int .i64 (y : Int)] 46)).alloc (.cells #[.int .i64 0, .int .i64 0] 46)).heap[w.heap.size]? = some (.cells #[.int .i64 (k : Int), .int .i64 (y : Int)] 46 (0, 0)) := (Below.heap_alloc _ _ _ (by simp)).trans (heap_alloc_new w _)
  have hc1 : ((w.alloc (.cells #[.int .i64 (k : Int), .int .i64 (y : Int)] 46)).alloc (.cells #[.int .i64 0, .int .i64 0] 46)).heap[w.heap.size + 1]? = some (.cells #[.int .i64 0, .int .i64 0] 46 (0, 0)) := by
    have := heap_alloc_new (w.alloc (.cells #[.int .i64 (k : Int), .int .i64 (y : Int)] 46)) (.cells #[.int .i64 0, .int .i64 0] 46)
    simpa using this
  have hb0 : Below w.heap.size w ((w.alloc (.cells #[.int .i64 (k : Int), .int .i64 (y : Int)] 46)).alloc (.cells #[.int .i64 0, .int .i64 0] 46)).drew := below_drew (((Below.refl _ _).alloc (Nat.le_refl _) _).alloc (by simp) _)
  have hd0 := hc0
  have hd1 := hc1
  rw [← show ∀ W : World, W.drew.heap = W.heap from fun _ => rfl] at hd0 hd1
  have HH := Lib.hid (And.intro hb0 (And.intro hd0 hd1))
  clear hc0 hc1 hb0 hd1
  refine wp_region_plan (fun W => W.heap[w.heap.size]? = some (.cells #[.int .i64 (k : Int), .int .i64 (y : Int)] 46 (0, 0))) [([0, 1, 2, 3, 4, 5, 8], 6), ([7, 9, 10], 11)] [] (by kernel_rfl) (by kernel_rfl) (fun _ _ d _ _ h => by cases d <;> exact h) hd0 ?_
  generalize ((w.alloc (.cells #[.int .i64 (k : Int), .int .i64 (y : Int)] 46)).alloc (.cells #[.int .i64 0, .int .i64 0] 46)).drew = wd at *
  clear hd0
  refine plan_eff ?_
  refine seg_read ?v1 (by rfl) (by rfl) ?h1 ?_
  case h1 => intro W hW; have hc0 := cell_of_cells hW 0; have hc1 := cell_of_cells hW 1; have h1 := H1.out; go_simp; with_reducible rfl
  try simp only [Act.put, List.setIfInBounds_toArray, List.set_cons_zero, List.set_cons_succ]
  refine seg_read ?v2 (by rfl) (by rfl) ?h2 ?_
  case h2 => intro W hW; have hc0 := cell_of_cells hW 0; have hc1 := cell_of_cells hW 1; have h1 := H1.out; go_simp; with_reducible rfl
  try simp only [Act.put, List.setIfInBounds_toArray, List.set_cons_zero, List.set_cons_succ]
  refine seg_read ?v3 (by rfl) (by rfl) ?h3 ?_
  case h3 => intro W hW; have hc0 := cell_of_cells hW 0; have hc1 := cell_of_cells hW 1; have h1 := H1.out; go_simp; with_reducible rfl
  try simp only [Act.put, List.setIfInBounds_toArray, List.set_cons_zero, List.set_cons_succ]
  refine seg_read ?v4 (by rfl) (by rfl) ?h4 ?_
  case h4 => intro W hW; have hc0 := cell_of_cells hW 0; have hc1 := cell_of_cells hW 1; have h1 := H1.out; go_simp; with_reducible rfl
  try simp only [Act.put, List.setIfInBounds_toArray, List.set_cons_zero, List.set_cons_succ]
  refine seg_read ?v5 (by rfl) (by rfl) ?h5 ?_
  case h5 => intro W hW; have hc0 := cell_of_cells hW 0; have hc1 := cell_of_cells hW 1; have h1 := H1.out; go_simp; with_reducible rfl
  try simp only [Act.put, List.setIfInBounds_toArray, List.set_cons_zero, List.set_cons_succ]
  refine seg_read ?v6 (by rfl) (by rfl) ?h6 ?_
  case h6 => intro W hW; have hc0 := cell_of_cells hW 0; have hc1 := cell_of_cells hW 1; have h1 := H1.out; go_simp; with_reducible rfl
  try simp only [Act.put, List.setIfInBounds_toArray, List.set_cons_zero, List.set_cons_succ]
  refine seg_read ?v7 (by rfl) (by rfl) ?h7 ?_
  case h7 => intro W hW; have hc0 := cell_of_cells hW 0; have hc1 := cell_of_cells hW 1; have h1 := H1.out; go_simp; with_reducible rfl
  try simp only [Act.put, List.setIfInBounds_toArray, List.set_cons_zero, List.set_cons_succ]
  refine seg_nil ?_
  refine eff_step (by rfl) (fun K hK => ?_)
  go_simp
  refine (hln _).mono ?_
  rintro _ w4 ⟨rfl, hb4⟩
  have H4 := Lib.hid (And.intro (HH.out.1.trans (hb4.mono HH.out.1.size)) ((hb4.block _ (lt_of_cells HH.out.2.2)).trans HH.out.2.2))
  have hw4 := (hb4.block _ (lt_of_cells HH.out.2.1)).trans HH.out.2.1
  clear hb4
  refine hK _ _ ⟨_, hw4, fun _ h => h, ?_⟩
  clear hK K
  refine plan_eff ?_
  refine seg_read ?v8 (by rfl) (by rfl) ?h8 ?_
  case h8 => intro W hW; have hc0 := cell_of_cells hW 0; have hc1 := cell_of_cells hW 1; have h2 := H2.out; have h3 := H3.out; go_simp; with_reducible rfl
  try simp only [Act.put, List.setIfInBounds_toArray, List.set_cons_zero, List.set_cons_succ]
  refine seg_read ?v9 (by rfl) (by rfl) ?h9 ?_
  case h9 => intro W hW; have hc0 := cell_of_cells hW 0; have hc1 := cell_of_cells hW 1; have h2 := H2.out; have h3 := H3.out; go_simp; with_reducible rfl
  try simp only [Act.put, List.setIfInBounds_toArray, List.set_cons_zero, List.set_cons_succ]
  refine seg_read ?v10 (by rfl) (by rfl) ?h10 ?_
  case h10 => intro W hW; have hc0 := cell_of_cells hW 0; have hc1 := cell_of_cells hW 1; have h2 := H2.out; have h3 := H3.out; go_simp; with_reducible rfl
  try simp only [Act.put, List.setIfInBounds_toArray, List.set_cons_zero, List.set_cons_succ]
  refine seg_nil ?_
  refine eff_store_row (by rfl) (by rfl) 46 (.tmp 4) (.tmp 15) (by rfl) (w.heap.size + 1) #[.int .i64 ((k : Int) + 1), .int .i64 ((y : Int) + (L : Int) + (x : Int))] (by rfl) (by rfl) 46 _ H4.out.2 room_info rfl (by simp [Value.oneCell']) ?_
  have HF : Hid (Below w.heap.size w (w4.setRow (w.heap.size + 1) #[.int .i64 ((k : Int) + 1), .int .i64 ((y : Int) + (L : Int) + (x : Int))]) ∧ (w4.setRow (w.heap.size + 1) #[.int .i64 ((k : Int) + 1), .int .i64 ((y : Int) + (L : Int) + (x : Int))]).heap[w.heap.size + 1]? = some (.cells #[.int .i64 ((k : Int) + 1), .int .i64 ((y : Int) + (L : Int) + (x : Int))] 46 (0, 0))) := Lib.hid ⟨below_setRow H4.out.1 (by omega) _, setRow_at H4.out.2⟩
  have hw5 : (w4.setRow (w.heap.size + 1) #[.int .i64 ((k : Int) + 1), .int .i64 ((y : Int) + (L : Int) + (x : Int))]).heap[w.heap.size]? = some (.cells #[.int .i64 (k : Int), .int .i64 (y : Int)] 46 (0, 0)) := (setRow_ne _ _ _ _ (by omega)).trans hw4
  clear H4 hw4
  generalize w4.setRow (w.heap.size + 1) #[.int .i64 ((k : Int) + 1), .int .i64 ((y : Int) + (L : Int) + (x : Int))] = w5 at *
  refine ⟨fun W => W = w5, rfl, fun W (e : W = w5) => e ▸ hw5, ?_⟩
  clear hw5
  refine plan_last ?_
  try simp only [Act.put]
  repeat (refine seg_step (by rfl) (fun K hK => ?_); go_simp; refine hK _ ?_; clear hK K)
  refine seg_nil ?_
  go_wp2_with fail
  exact bodyPost_ret (results_cell_row rfl _ _ (w.heap.size + 1) 46 #[.int .i64 ((k : Int) + 1), .int .i64 ((y : Int) + (L : Int) + (x : Int))] (0, 0) _ rfl HF.out.2 Tryd.underlying46 rfl room_info) rfl ⟨rfl, HF.out.1⟩
set_option maxHeartbeats 4000000 in
set_option maxRecDepth 100000 in
theorem pack_any (k y : Nat) (hk : k ≤ 1000000) (hy : y ≤ 1000000000000) (w : World) :
    Calls Tryd.prog 16 #[.agg (rmV k y)] w fun e w' => e = .returned (.int .i64 ((lnN k + y : Nat) : Int)) ∧ Below w.heap.size w w' := by
  have hln := fun W => long_any k (by omega) W
  have hl10 := lnN_le (x := k) (by omega)
  have h2 := IntWalk.i64_in ((lnN k : Int) + (y : Int)) (by omega)
  rw [show ((lnN k + y : Nat) : Int) = (lnN k : Int) + (y : Int) from Int.natCast_add _ _, show rmV k y = #[.int .i64 (k : Int), .int .i64 (y : Int)] from rfl]
  generalize lnN k = L at *
  have H2 := Lib.hid h2
  clear hk hy hl10 h2
  go_enter Tryd.func16, Tryd.ntmps16
  go_upto_region 1 with fail
  have hd0 : (w.alloc (.cells #[.int .i64 (k : Int), .int .i64 (y : Int)] 46)).drew.heap[w.heap.size]? = some (.cells #[.int .i64 (k : Int), .int .i64 (y : Int)] 46 (0, 0)) := heap_alloc_new w _
  have hb0 : Below w.heap.size w (w.alloc (.cells #[.int .i64 (k : Int), .int .i64 (y : Int)] 46)).drew := below_drew ((Below.refl _ _).alloc (Nat.le_refl _) _)
  have HH := Lib.hid hb0
  clear hb0
  refine wp_region_plan (fun W => W.heap[w.heap.size]? = some (.cells #[.int .i64 (k : Int), .int .i64 (y : Int)] 46 (0, 0))) [([0, 1, 3, 4], 2)] [5, 6] (by kernel_rfl) (by kernel_rfl) (fun _ _ d _ _ h => by cases d <;> exact h) hd0 ?_
  generalize (w.alloc (.cells #[.int .i64 (k : Int), .int .i64 (y : Int)] 46)).drew = wd at *
  refine plan_eff ?_
  refine seg_read ?v11 (by rfl) (by rfl) ?h11 ?_
  case h11 => intro W hW; have hc0 := cell_of_cells hW 0; have hc1 := cell_of_cells hW 1; go_simp; with_reducible rfl
  try simp only [Act.put, List.setIfInBounds_toArray, List.set_cons_zero, List.set_cons_succ]
  refine seg_read ?v12 (by rfl) (by rfl) ?h12 ?_
  case h12 => intro W hW; have hc0 := cell_of_cells hW 0; have hc1 := cell_of_cells hW 1; go_simp; with_reducible rfl
  try simp only [Act.put, List.setIfInBounds_toArray, List.set_cons_zero, List.set_cons_succ]
  refine seg_read ?v13 (by rfl) (by rfl) ?h13 ?_
  case h13 => intro W hW; have hc0 := cell_of_cells hW 0; have hc1 := cell_of_cells hW 1; go_simp; with_reducible rfl
  try simp only [Act.put, List.setIfInBounds_toArray, List.set_cons_zero, List.set_cons_succ]
  refine seg_read ?v14 (by rfl) (by rfl) ?h14 ?_
  case h14 => intro W hW; have hc0 := cell_of_cells hW 0; have hc1 := cell_of_cells hW 1; go_simp; with_reducible rfl
  try simp only [Act.put, List.setIfInBounds_toArray, List.set_cons_zero, List.set_cons_succ]
  refine seg_nil ?_
  refine eff_step (by rfl) (fun K hK => ?_)
  go_simp
  refine (hln _).mono ?_
  rintro _ w4 ⟨rfl, hb4⟩
  have H4 := Lib.hid (HH.out.trans (hb4.mono HH.out.size))
  have hw4 := (hb4.block _ (lt_of_cells hd0)).trans hd0
  clear hb4 hd0
  refine hK _ _ ⟨fun W => W = w4, rfl, fun W (e : W = w4) => e ▸ hw4, ?_⟩
  clear hK K
  have h2 := H2.out
  refine plan_last ?_
  try simp only [Act.put]
  repeat (refine seg_step (by rfl) (fun K hK => ?_); go_simp; refine hK _ ?_; clear hK K)
  refine seg_nil ?_
  go_wp2_with fail
  go_ret
  exact ⟨rfl, H4.out⟩
def flV (A : Option Addr) (n c : Nat) (m : Int) : Array Value := #[.slice A n c, .int .i64 m]
set_option maxHeartbeats 4000000 in
set_option maxRecDepth 100000 in
theorem holds_any (A : Option Addr) (n c most k y : Nat) (hk : k ≤ 1000000) (hy : y ≤ 1000000000000) (w : World) :
    Calls Tryd.prog 50 #[.agg (flV A n c (most : Int)), .agg (rmV k y)] w fun e w' => e = .returned (.bool (pkHolds most k y)) ∧ Below w.heap.size w w' := by
  have hln := fun W => pack_any k y hk hy W
  obtain ⟨M, hM⟩ : ∃ M, M = lnN k + y := ⟨_, rfl⟩
  unfold pkHolds
  rw [← hM]
  rw [← hM, show rmV k y = #[.int .i64 (k : Int), .int .i64 (y : Int)] from rfl] at hln
  rw [show rmV k y = #[.int .i64 (k : Int), .int .i64 (y : Int)] from rfl, show flV A n c (most : Int) = #[.slice A n c, .int .i64 (most : Int)] from rfl]
  have HH : Hid (∀ W, W = ((w.alloc (.cells #[.slice A n c, .int .i64 (most : Int)] 63)).alloc (.cells #[.int .i64 (k : Int), .int .i64 (y : Int)] 46)).drew → Below w.heap.size w W ∧ W.heap[w.heap.size]? = some (.cells #[.slice A n c, .int .i64 (most : Int)] 63 (0, 0)) ∧ W.heap[w.heap.size + 1]? = some (.cells #[.int .i64 (k : Int), .int .i64 (y : Int)] 46 (0, 0))) := Lib.hid (fun W h => by
    subst h
    refine ⟨below_drew (((Below.refl _ _).alloc (Nat.le_refl _) _).alloc (by simp) _), (Below.heap_alloc _ _ _ (by simp)).trans (heap_alloc_new w _), ?_⟩
    have := heap_alloc_new (w.alloc (.cells #[.slice A n c, .int .i64 (most : Int)] 63)) (.cells #[.int .i64 (k : Int), .int .i64 (y : Int)] 46)
    rw [World.size_alloc] at this
    exact this)
  clear hy hM
  by_cases h1 : k ≤ 1024
  · have hd : decide (k ≤ 1024) = true := by simpa using h1
    have hd' : decide ((k : Int) ≤ 1024) = true := by simp; omega
    rw [hd]
    clear h1 hk hd
    go_enter Tryd.func50, Tryd.ntmps50
    go_upto_region 1 with fail
    obtain ⟨hb0, hd0, hd1⟩ := HH.out _ rfl
    refine wp_region_plan (fun W => W.heap[w.heap.size]? = some (.cells #[.slice A n c, .int .i64 (most : Int)] 63 (0, 0)) ∧ W.heap[w.heap.size + 1]? = some (.cells #[.int .i64 (k : Int), .int .i64 (y : Int)] 46 (0, 0))) [([0, 1, 2, 3, 4, 6, 7], 5)] [8, 9, 10] (by kernel_rfl) (by kernel_rfl) (fun _ _ d _ _ h => by cases d <;> exact h) ⟨hd0, hd1⟩ ?_
    generalize ((w.alloc (.cells #[.slice A n c, .int .i64 (most : Int)] 63)).alloc (.cells #[.int .i64 (k : Int), .int .i64 (y : Int)] 46)).drew = wd at *
    have H0 := Lib.hid (And.intro hb0 (And.intro hd0 hd1))
    clear hb0 hd0 hd1 HH
    refine plan_eff ?_
    refine seg_read ?v15 (by rfl) (by rfl) ?h15 ?_
    case h15 => intro W hW; have hc0 := cell_of_cells hW.1 0; have hc1 := cell_of_cells hW.1 1; have hc2 := cell_of_cells hW.2 0; have hc3 := cell_of_cells hW.2 1; go_simp; with_reducible rfl
    try simp only [Act.put, List.setIfInBounds_toArray, List.set_cons_zero, List.set_cons_succ]
    refine seg_read ?v16 (by rfl) (by rfl) ?h16 ?_
    case h16 => intro W hW; have hc0 := cell_of_cells hW.1 0; have hc1 := cell_of_cells hW.1 1; have hc2 := cell_of_cells hW.2 0; have hc3 := cell_of_cells hW.2 1; go_simp; with_reducible rfl
    try simp only [Act.put, List.setIfInBounds_toArray, List.set_cons_zero, List.set_cons_succ]
    refine seg_read ?v17 (by rfl) (by rfl) ?h17 ?_
    case h17 => intro W hW; have hc0 := cell_of_cells hW.1 0; have hc1 := cell_of_cells hW.1 1; have hc2 := cell_of_cells hW.2 0; have hc3 := cell_of_cells hW.2 1; go_simp; with_reducible rfl
    try simp only [Act.put, List.setIfInBounds_toArray, List.set_cons_zero, List.set_cons_succ]
    refine seg_read ?v18 (by rfl) (by rfl) ?h18 ?_
    case h18 => intro W hW; have hc0 := cell_of_cells hW.1 0; have hc1 := cell_of_cells hW.1 1; have hc2 := cell_of_cells hW.2 0; have hc3 := cell_of_cells hW.2 1; go_simp; with_reducible rfl
    try simp only [Act.put, List.setIfInBounds_toArray, List.set_cons_zero, List.set_cons_succ]
    refine seg_read ?v19 (by rfl) (by rfl) ?h19 ?_
    case h19 => intro W hW; have hc0 := cell_of_cells hW.1 0; have hc1 := cell_of_cells hW.1 1; have hc2 := cell_of_cells hW.2 0; have hc3 := cell_of_cells hW.2 1; go_simp; with_reducible rfl
    try simp only [Act.put, List.setIfInBounds_toArray, List.set_cons_zero, List.set_cons_succ]
    refine seg_read ?v20 (by rfl) (by rfl) ?h20 ?_
    case h20 => intro W hW; have hc0 := cell_of_cells hW.1 0; have hc1 := cell_of_cells hW.1 1; have hc2 := cell_of_cells hW.2 0; have hc3 := cell_of_cells hW.2 1; go_simp; with_reducible rfl
    try simp only [Act.put, List.setIfInBounds_toArray, List.set_cons_zero, List.set_cons_succ]
    refine seg_read ?v21 (by rfl) (by rfl) ?h21 ?_
    case h21 => intro W hW; have hc0 := cell_of_cells hW.1 0; have hc1 := cell_of_cells hW.1 1; have hc2 := cell_of_cells hW.2 0; have hc3 := cell_of_cells hW.2 1; go_simp; with_reducible rfl
    try simp only [Act.put, List.setIfInBounds_toArray, List.set_cons_zero, List.set_cons_succ]
    refine seg_nil ?_
    refine eff_step (by rfl) (fun K hK => ?_)
    go_simp
    refine (hln _).mono ?_
    rintro _ w4 ⟨rfl, hb4⟩
    have H4 := Lib.hid (And.intro (H0.out.1.trans (hb4.mono H0.out.1.size)) (And.intro ((hb4.block _ (lt_of_cells H0.out.2.1)).trans H0.out.2.1) ((hb4.block _ (lt_of_cells H0.out.2.2)).trans H0.out.2.2)))
    clear hb4 H0
    refine hK _ _ ⟨fun W => W = w4, rfl, fun W (e : W = w4) => e ▸ H4.out.2, ?_⟩
    clear hK K
    refine plan_last ?_
    try simp only [Act.put]
    repeat (refine seg_step (by rfl) (fun K hK => ?_); go_simp; refine hK _ ?_; clear hK K)
    refine seg_nil ?_
    go_wp2_with fail
    go_ret
    refine ⟨?_, H4.out.1⟩
    simp
  · have hd : decide (k ≤ 1024) = false := by simpa using h1
    have hd' : decide ((k : Int) ≤ 1024) = false := by simp; omega
    rw [hd]
    clear h1 hk hd hln
    go_enter Tryd.func50, Tryd.ntmps50
    go_upto_region 1 with fail
    obtain ⟨hb0, hd0, hd1⟩ := HH.out _ rfl
    refine wp_region_plan (fun W => W.heap[w.heap.size]? = some (.cells #[.slice A n c, .int .i64 (most : Int)] 63 (0, 0)) ∧ W.heap[w.heap.size + 1]? = some (.cells #[.int .i64 (k : Int), .int .i64 (y : Int)] 46 (0, 0))) [] [0, 1, 2, 3, 4, 5, 6, 7, 8, 9, 10] (by kernel_rfl) (by kernel_rfl) (fun _ _ d _ _ h => by cases d <;> exact h) ⟨hd0, hd1⟩ ?_
    generalize ((w.alloc (.cells #[.slice A n c, .int .i64 (most : Int)] 63)).alloc (.cells #[.int .i64 (k : Int), .int .i64 (y : Int)] 46)).drew = wd at *
    refine plan_last ?_
    refine seg_read ?v22 (by rfl) (by rfl) ?h22 ?_
    case h22 => intro W hW; have hc0 := cell_of_cells hW.1 0; have hc1 := cell_of_cells hW.1 1; have hc2 := cell_of_cells hW.2 0; have hc3 := cell_of_cells hW.2 1; go_simp; with_reducible rfl
    try simp only [Act.put, List.setIfInBounds_toArray, List.set_cons_zero, List.set_cons_succ]
    refine seg_read ?v23 (by rfl) (by rfl) ?h23 ?_
    case h23 => intro W hW; have hc0 := cell_of_cells hW.1 0; have hc1 := cell_of_cells hW.1 1; have hc2 := cell_of_cells hW.2 0; have hc3 := cell_of_cells hW.2 1; go_simp; with_reducible rfl
    try simp only [Act.put, List.setIfInBounds_toArray, List.set_cons_zero, List.set_cons_succ]
    refine seg_read ?v24 (by rfl) (by rfl) ?h24 ?_
    case h24 => intro W hW; have hc0 := cell_of_cells hW.1 0; have hc1 := cell_of_cells hW.1 1; have hc2 := cell_of_cells hW.2 0; have hc3 := cell_of_cells hW.2 1; go_simp; with_reducible rfl
    try simp only [Act.put, List.setIfInBounds_toArray, List.set_cons_zero, List.set_cons_succ]
    refine seg_read ?v25 (by rfl) (by rfl) ?h25 ?_
    case h25 => intro W hW; have hc0 := cell_of_cells hW.1 0; have hc1 := cell_of_cells hW.1 1; have hc2 := cell_of_cells hW.2 0; have hc3 := cell_of_cells hW.2 1; go_simp; with_reducible rfl
    try simp only [Act.put, List.setIfInBounds_toArray, List.set_cons_zero, List.set_cons_succ]
    refine seg_off (by rfl) (by rfl) ?_
    try simp only [Act.put, List.setIfInBounds_toArray, List.set_cons_zero, List.set_cons_succ]
    refine seg_off (by rfl) (by rfl) ?_
    try simp only [Act.put, List.setIfInBounds_toArray, List.set_cons_zero, List.set_cons_succ]
    refine seg_off (by rfl) (by rfl) ?_
    try simp only [Act.put, List.setIfInBounds_toArray, List.set_cons_zero, List.set_cons_succ]
    refine seg_off (by rfl) (by rfl) ?_
    try simp only [Act.put, List.setIfInBounds_toArray, List.set_cons_zero, List.set_cons_succ]
    refine seg_off (by rfl) (by rfl) ?_
    try simp only [Act.put, List.setIfInBounds_toArray, List.set_cons_zero, List.set_cons_succ]
    refine seg_read ?v26 (by rfl) (by rfl) ?h26 ?_
    case h26 => intro W hW; have hc0 := cell_of_cells hW.1 0; have hc1 := cell_of_cells hW.1 1; have hc2 := cell_of_cells hW.2 0; have hc3 := cell_of_cells hW.2 1; go_simp; with_reducible rfl
    try simp only [Act.put, List.setIfInBounds_toArray, List.set_cons_zero, List.set_cons_succ]
    refine seg_read ?v27 (by rfl) (by rfl) ?h27 ?_
    case h27 => intro W hW; have hc0 := cell_of_cells hW.1 0; have hc1 := cell_of_cells hW.1 1; have hc2 := cell_of_cells hW.2 0; have hc3 := cell_of_cells hW.2 1; go_simp; with_reducible rfl
    try simp only [Act.put, List.setIfInBounds_toArray, List.set_cons_zero, List.set_cons_succ]
    refine seg_nil ?_
    go_wp2_with fail
    go_ret
    exact ⟨by simp, hb0⟩
theorem zero_room : ∀ W, (zeroValue 46).run Tryd.prog W = .ok (.agg #[.int .i64 0, .int .i64 0]) W := fun W => by kernel_rfl
set_option maxHeartbeats 4000000 in
set_option maxRecDepth 100000 in
theorem alone_any (A : Option Addr) (n c most x : Nat) (hx : x ≤ 100000000000) (w : World) :
    Calls Tryd.prog 31 #[.agg (flV A n c (most : Int)), .int .i64 (x : Int)] w fun e w' => e = .returned (.bool (pkAlone most x)) ∧ Below w.heap.size w w' := by
  have hln := fun W => with_any 0 0 x (by omega) (by omega) (by omega) W
  have hho := fun W => holds_any A n c most 1 (pkE x) (by omega) (by have := lnN_le (x := x) (by omega); unfold pkE; omega) W
  rw [show rmV 0 0 = #[.int .i64 0, .int .i64 0] from rfl, show rmV (0 + 1) (0 + pkE x) = rmV 1 (pkE x) by simp] at hln
  unfold pkAlone
  generalize pkHolds most 1 (pkE x) = B at *
  obtain ⟨RV, hRV⟩ : ∃ RV, RV = rmV 1 (pkE x) := ⟨_, rfl⟩
  rw [← hRV] at hln hho
  have hz := zero_room
  rw [show flV A n c (most : Int) = #[.slice A n c, .int .i64 (most : Int)] from rfl] at hho ⊢
  clear hRV hx
  go_enter Tryd.func31, Tryd.ntmps31
  go_upto_region 1 with fail
  have hd0 : (w.alloc (.cells #[.slice A n c, .int .i64 (most : Int)] 63)).drew.heap[w.heap.size]? = some (.cells #[.slice A n c, .int .i64 (most : Int)] 63 (0, 0)) := heap_alloc_new w _
  have hb0 : Below w.heap.size w (w.alloc (.cells #[.slice A n c, .int .i64 (most : Int)] 63)).drew := below_drew ((Below.refl _ _).alloc (Nat.le_refl _) _)
  have H0 := Lib.hid (And.intro hb0 hd0)
  clear hb0
  refine wp_region_plan (fun W => W.heap[w.heap.size]? = some (.cells #[.slice A n c, .int .i64 (most : Int)] 63 (0, 0))) [([0, 1, 2], 3), ([], 4)] [5] (by kernel_rfl) (by kernel_rfl) (fun _ _ d _ _ h => by cases d <;> exact h) hd0 ?_
  generalize (w.alloc (.cells #[.slice A n c, .int .i64 (most : Int)] 63)).drew = wd at *
  clear hd0
  refine plan_eff ?_
  refine seg_read ?v28 (by rfl) (by rfl) ?h28 ?_
  case h28 => intro W hW; have hc0 := cell_of_cells hW 0; have hc1 := cell_of_cells hW 1; go_simp; with_reducible rfl
  try simp only [Act.put, List.setIfInBounds_toArray, List.set_cons_zero, List.set_cons_succ]
  refine seg_read ?v29 (by rfl) (by rfl) ?h29 ?_
  case h29 => intro W hW; have hc0 := cell_of_cells hW 0; have hc1 := cell_of_cells hW 1; go_simp; with_reducible rfl
  try simp only [Act.put, List.setIfInBounds_toArray, List.set_cons_zero, List.set_cons_succ]
  refine seg_read ?v30 (by rfl) (by rfl) ?h30 ?_
  case h30 => intro W hW; have hc0 := cell_of_cells hW 0; have hc1 := cell_of_cells hW 1; go_simp; with_reducible rfl
  try simp only [Act.put, List.setIfInBounds_toArray, List.set_cons_zero, List.set_cons_succ]
  refine seg_nil ?_
  refine eff_step (by rfl) (fun K hK => ?_)
  go_simp
  refine (hln _).mono ?_
  rintro _ w4 ⟨rfl, hb4⟩
  have H4 := Lib.hid (And.intro (H0.out.1.trans (hb4.mono H0.out.1.size)) ((hb4.block _ (lt_of_cells H0.out.2)).trans H0.out.2))
  clear hb4 H0
  refine hK _ _ ⟨_, H4.out.2, fun _ h => h, ?_⟩
  clear hK K
  refine plan_eff ?_
  refine seg_nil ?_
  refine eff_step (by rfl) (fun K hK => ?_)
  go_simp
  refine (hho _).mono ?_
  rintro _ w5 ⟨rfl, hb5⟩
  have H5 := Lib.hid (And.intro (H4.out.1.trans (hb5.mono H4.out.1.size)) ((hb5.block _ (lt_of_cells H4.out.2)).trans H4.out.2))
  clear hb5 H4
  refine hK _ _ ⟨fun W => W = w5, rfl, fun W (e : W = w5) => e ▸ H5.out.2, ?_⟩
  clear hK K
  refine plan_last ?_
  try simp only [Act.put]
  repeat (refine seg_step (by rfl) (fun K hK => ?_); go_simp; refine hK _ ?_; clear hK K)
  refine seg_nil ?_
  go_wp2_with fail
  go_ret
  exact ⟨rfl, H5.out.1⟩
end Go.Proofs.YtnbjhdlnibmgdaaDoor

/-! Packs: whether something is so of each size. -/
namespace Go.Proofs.YtnbjhdlnibmgdaaDoor
open Go.RowKit Codec

/-- The function value: of bound arguments, and one that is handed in. -/
def bxF (K : Nat) (FA : Array Value) : Value := .func (.func K) FA #[]
def all1F (p : Nat) : Value := .func (.func 49) #[] #[.pointer (some ⟨p, 0, none⟩)]
set_option maxHeartbeats 4000000 in
theorem all1_may {w : World} {p : Nat} (hp : w.heap[p]? = some (.cells #[bxF 14 #[]] 47 (0, 0))) (x : Int) :
    Calls Tryd.prog 49 #[.int .i64 x, .pointer (some ⟨p, 0, none⟩)] w fun e w' => e = .returned (.bool (!pkMay x)) ∧ Below w.heap.size w w' := by
  have hc := cell_of_cells hp 0
  simp only [List.getElem?_toArray, List.getElem?_cons_zero, bxF] at hc
  have hm := may_any x w
  clear hp
  go_enter Tryd.func49, Tryd.ntmps49
  go_wp2_with (go_at_call 14; refine hm.mono ?_; clear hm; rintro _ w1 ⟨rfl, rfl⟩)
  go_ret
  exact ⟨rfl, Below.refl _ _⟩
set_option maxHeartbeats 4000000 in
theorem all1_alone {w : World} {p : Nat} {A : Option Addr} {n c most : Nat} (hp : w.heap[p]? = some (.cells #[bxF 31 #[.agg (flV A n c (most : Int))]] 47 (0, 0))) (x : Nat) (hx : x ≤ 100000000000) :
    Calls Tryd.prog 49 #[.int .i64 (x : Int), .pointer (some ⟨p, 0, none⟩)] w fun e w' => e = .returned (.bool (!pkAlone most x)) ∧ Below w.heap.size w w' := by
  have hc := cell_of_cells hp 0
  simp only [List.getElem?_toArray, List.getElem?_cons_zero, bxF] at hc
  have hm := alone_any A n c most x hx w
  clear hp
  obtain ⟨FL, hFL⟩ : ∃ FL, FL = flV A n c (most : Int) := ⟨_, rfl⟩
  rw [← hFL] at hc hm
  clear hFL
  go_enter Tryd.func49, Tryd.ntmps49
  go_wp2_with (go_at_call 31; refine hm.mono ?_; clear hm; rintro _ w1 ⟨rfl, hb1⟩)
  go_ret
  exact ⟨rfl, hb1⟩
theorem any_take {l : List Int} {q : Int → Bool} {j : Nat} {x : Int} (h : l[j]? = some x) : (l.take (j + 1)).any q = ((l.take j).any q || q x) := by rw [take_snoc h]; simp
def IfR (w : World) (l : List Int) (q : Int → Bool) (i : Value) (wr : World) : Prop := ∃ j : Nat, j ≤ l.length ∧ i = .int .i64 (j : Int) ∧ (l.take j).any q = false ∧ Below w.heap.size w wr
/-- Whether something is so of one of them. -/
def IfPost (w : World) (B : Bool) (e : Ending) (w' : World) : Prop := ∃ r : Int, e = .returned (.int .i64 r) ∧ decide (0 ≤ r) = B ∧ Below w.heap.size w w'
set_option maxHeartbeats 4000000 in
set_option maxRecDepth 100000 in
theorem index_any {w : World} {S : Nat → Prop} {A : Option Addr} {n c : Nat} {l : List Int} (h : Ints .i64 w S A n c l) (p : Nat) (q : Int → Bool)
    (hF : ∀ x ∈ l, ∀ W, Below w.heap.size w W → Calls Tryd.prog 49 #[.int .i64 x, .pointer (some ⟨p, 0, none⟩)] W fun e W' => e = .returned (.bool (q x)) ∧ Below W.heap.size W W') :
    Calls Tryd.prog 62 #[.slice A n c, all1F p] w fun e w' => IfPost w (l.any q) e w' := by
  have HL := Lib.hid (And.intro h (And.intro h.len (And.intro hF (Nat.le_trans h.cap h.max))))
  clear h hF
  unfold all1F
  go_enter Tryd.func62, Tryd.ntmps62
  go_upto_region 2 with fail
  go_loopw [5, 8] (fun _ i wr => IfR w l q i wr) (fun _ i _ => n - (intOf i).toNat)
  case atStart => exact ⟨0, Nat.zero_le _, rfl, rfl, Below.refl _ _⟩
  case round =>
    obtain ⟨j, hj, rfl, hq, hb⟩ := hrel
    by_cases hlt : j < n
    · have hlt' : (j : Int) < (n : Int) := by omega
      have hadd := IntWalk.i64_in ((j : Int) + 1) (by have h1 := HL.out.2.2.2; unfold maxLen at h1; omega)
      obtain ⟨b, off, rfl, _, hbl, hc⟩ := HL.out.1.row (by omega)
      have hc0 := (hb.cell (p := ⟨b, off + j, none⟩) hbl).trans (hc j hlt)
      have hjl : l[j]? = some (l[j]?.getD 0) := by rw [List.getElem?_eq_getElem (by have := HL.out.2.1; omega)]; rfl
      obtain ⟨x, hx⟩ : ∃ x, x = l[j]?.getD 0 := ⟨_, rfl⟩
      rw [← hx] at hc0 hjl
      have hf := HL.out.2.2.1 x (List.mem_of_getElem? hjl) wr hb
      have hnx := any_take (q := q) hjl
      rw [hq, Bool.false_or] at hnx
      obtain ⟨Y, hY⟩ : ∃ Y, Y = q x := ⟨_, rfl⟩
      rw [← hY] at hf hnx
      have H := Lib.hid (And.intro hb (And.intro hlt (And.intro hnx (And.intro hY (List.mem_of_getElem? hjl)))))
      clear hb hlt hnx hY hjl hx hq hj hc hbl
      cases hYc : Y with
      | false =>
        subst hYc
        go_wp2_with (go_at_call 49; refine hf.mono ?_; clear hf; rintro _ w1 ⟨rfl, hb1⟩)
        have H1 := Lib.hid (H.out.1.trans (hb1.mono H.out.1.size))
        clear hb1
        go_roundw
        case rel => exact ⟨j + 1, by have h1 := H.out.2.1; have h2 := HL.out.2.1; omega, by simp, H.out.2.2.1, H1.out⟩
        case measure => have := H.out.2.1; simp only [intOf]; omega
      | true =>
        subst hYc
        go_wp2_with (go_at_call 49; refine hf.mono ?_; clear hf; rintro _ w1 ⟨rfl, hb1⟩)
        go_ret
        refine ⟨(j : Int), rfl, ?_, H.out.1.trans (hb1.mono H.out.1.size)⟩
        rw [List.any_eq_true.2 ⟨x, H.out.2.2.2.2, H.out.2.2.2.1.symm⟩]
        simp
    · have hlt' : ¬ (j : Int) < (n : Int) := by omega
      have H : Hid (Below w.heap.size w wr ∧ l.any q = false) := Lib.hid ⟨hb, by rw [List.take_of_length_le (by have := HL.out.2.1; omega)] at hq; exact hq⟩
      clear hb hq hj hlt
      go_wp2
      go_ret
      exact ⟨-1, rfl, by rw [H.out.2]; rfl, H.out.1⟩
set_option maxHeartbeats 4000000 in
theorem contains_any {w : World} {S : Nat → Prop} {A : Option Addr} {n c : Nat} {l : List Int} (h : Ints .i64 w S A n c l) (p : Nat) (q : Int → Bool)
    (hF : ∀ x ∈ l, ∀ W, Below w.heap.size w W → Calls Tryd.prog 49 #[.int .i64 x, .pointer (some ⟨p, 0, none⟩)] W fun e W' => e = .returned (.bool (q x)) ∧ Below W.heap.size W W') :
    Calls Tryd.prog 48 #[.slice A n c, all1F p] w fun e w' => e = .returned (.bool (l.any q)) ∧ Below w.heap.size w w' := by
  have hi := index_any h p q hF
  obtain ⟨FV, hFV⟩ : ∃ FV, FV = all1F p := ⟨_, rfl⟩
  rw [← hFV] at hi ⊢
  generalize l.any q = B at *
  clear h hF hFV
  go_enter Tryd.func48, Tryd.ntmps48
  go_wp2_with (go_at_call 62; refine hi.mono ?_; clear hi; rintro _ w1 ⟨r, rfl, hr, hb1⟩)
  go_ret
  exact ⟨by rw [← hr]; simp, hb1⟩
set_option maxHeartbeats 4000000 in
set_option maxRecDepth 100000 in
theorem all_any {w : World} {S : Nat → Prop} {A : Option Addr} {n c : Nat} {l : List Int} (h : Ints .i64 w S A n c l) (m : Int) (K : Nat) (FA : Array Value) (q : Int → Bool)
    (hF : ∀ x ∈ l, ∀ p W, W.heap[p]? = some (.cells #[bxF K FA] 47 (0, 0)) → Calls Tryd.prog 49 #[.int .i64 x, .pointer (some ⟨p, 0, none⟩)] W fun e W' => e = .returned (.bool (!q x)) ∧ Below W.heap.size W W') :
    Calls Tryd.prog 30 #[.agg (flV A n c m), bxF K FA] w fun e w' => e = .returned (.bool (l.all q)) ∧ Below w.heap.size w w' := by
  obtain ⟨W2, hW2⟩ : ∃ W2, W2 = (w.alloc (.cells #[.slice A n c, .int .i64 m] 63)).alloc (.cells #[.func (.func K) FA #[]] 47) := ⟨_, rfl⟩
  have hbx : W2.heap[w.heap.size + 1]? = some (.cells #[bxF K FA] 47 (0, 0)) := by
    rw [hW2]
    have := heap_alloc_new (w.alloc (.cells #[.slice A n c, .int .i64 m] 63)) (.cells #[.func (.func K) FA #[]] 47)
    rw [World.size_alloc] at this
    exact this
  have hb2 : Below w.heap.size w W2 := by rw [hW2]; exact ((Below.refl _ _).alloc (Nat.le_refl _) _).alloc (by simp) _
  have hco := contains_any (h.below hb2) (w.heap.size + 1) (fun x => !q x) (fun x hx W hb => hF x hx _ W ((hb.block _ (lt_of_cells hbx)).trans hbx))
  have hnl : (!(l.any fun x => !q x)) = l.all q := by rw [List.all_eq_not_any_not]
  have HB := Lib.hid (And.intro hb2 hnl)
  generalize l.any (fun x => !q x) = B at *
  unfold all1F at hco
  unfold bxF flV
  have hmf : ∀ (fn : Fn) (first cap : Array Value) (w : World), (Instr.makeFunc fn first cap).run Tryd.prog w = .ok (.func fn first cap) w := fun _ _ _ _ => rfl
  clear h hF hbx hb2 hnl
  rw [hW2] at hco
  go_enter Tryd.func30, Tryd.ntmps30
  go_wp2_with (go_at_call 48; refine hco.mono ?_; clear hco; rintro _ w1 ⟨rfl, hb1⟩; rw [← hW2] at hb1)
  go_ret
  exact ⟨by rw [← HB.out.2]; rfl, HB.out.1.trans (hb1.mono HB.out.1.size)⟩
end Go.Proofs.YtnbjhdlnibmgdaaDoor

/-! Packs: fill, which tells the pack that each blob comes into, and its promise. -/
namespace Go.Proofs.YtnbjhdlnibmgdaaDoor
open Go.RowKit Go.Shelf Codec
attribute [local go_sem] Oper.semAt_some

theorem filler_info : (Tryd.prog.info? 63).map (·.size) = some 2 := by kernel_rfl
theorem rmV_one (k y : Nat) : (rmV k y).all (·.oneCell') = true := by simp [rmV, Value.oneCell']
/-- Between two rounds. -/
structure FiS (w0 W : World) (J : (Nat → Prop) → List (Nat × Nat) → World → Prop) (A : Option Addr) (n c most : Nat) (l : List Nat) (j : Nat) (wr : World) : Prop where
  le : j ≤ l.length
  fil : wr.heap[W.heap.size]? = some (.cells #[.slice A n c, .int .i64 (most : Int)] 63 (0, 0))
  room : wr.heap[W.heap.size + 1]? = some (.cells (rmV (pkSt most (l.take j)).k (pkSt most (l.take j)).y) 46 (0, 0))
  j : J (fun b => b = W.heap.size ∨ b = W.heap.size + 1) ((pkSeq most l).take j) wr
  old : ∀ k, k < w0.heap.size → wr.heap[k]? = w0.heap[k]?
def FiR (w0 W : World) (J : (Nat → Prop) → List (Nat × Nat) → World → Prop) (A : Option Addr) (n c most : Nat) (l : List Nat) (p i : Value) (wr : World) : Prop :=
  ∃ j : Nat, i = .int .i64 (j : Int) ∧ p = .int .i64 ((pkSt most (l.take j)).p : Int) ∧ FiS w0 W J A n c most l j wr
def fiD (W : World) (b : Nat) : Prop := b = W.heap.size ∨ b = W.heap.size + 1
section
variable {w0 W wr w3 : World} {J : (Nat → Prop) → List (Nat × Nat) → World → Prop} {A : Option Addr} {n c most : Nat} {l : List Nat} {j : Nat}
/-- Ahead of the round's telling. -/
theorem FiS.mid (h : FiS w0 W J A n c most l j wr) (hJ : Still W.heap.size J) (h0 : w0.heap.size ≤ W.heap.size) (ht : Turned (· = W.heap.size + 1) wr w3) :
    Bounds W.heap.size (fiD W) w3 ∧ J (fiD W) ((pkSeq most l).take j) w3 ∧ w3.heap[W.heap.size]? = some (.cells #[.slice A n c, .int .i64 (most : Int)] 63 (0, 0)) ∧ ∀ k, k < w0.heap.size → w3.heap[k]? = w0.heap[k]? := by
  have h1 := lt_of_cells h.fil
  have h2 := lt_of_cells h.room
  have hB : ∀ V : World, wr.heap.size ≤ V.heap.size → Bounds W.heap.size (fiD W) V := fun V hV b hb => by rcases hb with rfl | rfl <;> exact ⟨by omega, by omega⟩
  refine ⟨hB _ ht.size, hJ _ _ _ _ _ (hB _ (Nat.le_refl _)) h.j (Steps.of_turned (ht.mono fun k _ e => .inr e)) (fun b hb => .inl hb), (ht.block _ h1 (by omega)).trans h.fil, fun k hk => (ht.block k (by omega) (by omega)).trans (h.old k hk)⟩
/-- Behind it. -/
theorem FiS.next {W3 : World} (hj : j < l.length) (h1 : w3.heap[W.heap.size]? = some (.cells #[.slice A n c, .int .i64 (most : Int)] 63 (0, 0)))
    (h2 : w3.heap[W.heap.size + 1]? = some (.cells (rmV (pkSt most (l.take (j + 1))).k (pkSt most (l.take (j + 1))).y) 46 (0, 0))) (h3 : ∀ k, k < w0.heap.size → w3.heap[k]? = w0.heap[k]?) (h0 : w0.heap.size ≤ W.heap.size)
    (hk : Kept W.heap.size (fiD W) (fun k => k < w0.heap.size) w3 W3) (hJ : J (fiD W) ((pkSeq most l).take (j + 1)) W3) : FiS w0 W J A n c most l (j + 1) W3 :=
  ⟨hj, (hk.turned.block _ (lt_of_cells h1) (fun h => h (.inl (.inl rfl)))).trans h1, (hk.turned.block _ (lt_of_cells h2) (fun h => h (.inl (.inr rfl)))).trans h2, hJ, fun k hk' => (hk.turned.block k (by have := lt_of_cells h1; omega) (fun h => h (.inr hk'))).trans (h3 k hk')⟩
end
theorem pkX_at {most : Nat} {l : List Nat} {j : Nat} (hj : j < l.length) (D : Nat → Prop) (W : World) : pkX most l D ((pkSeq most l).take j ++ [((pkSt most (l.take (j + 1))).p, j)]) W := by
  rw [← pkSeq_take hj]
  unfold pkX
  rw [List.length_take, pkSeq_len]
  exact ⟨by congr 1; omega, by omega⟩
theorem Ints.old {kd : IntKind} {w w' : World} {S : Nat → Prop} {A : Option Addr} {n c : Nat} {l : List Int} (h : Ints kd w S A n c l) (ho : ∀ k, k < w.heap.size → w'.heap[k]? = w.heap[k]?) {j : Nat} (hj : j < n) : ∃ b off, A = some ⟨b, off, none⟩ ∧ w'.cell? ⟨b, off + j, none⟩ = some (.int kd (l[j]?.getD 0)) := by
  obtain ⟨b, off, hA, _, hb, hc⟩ := h.row (by omega)
  exact ⟨b, off, hA, (World.cell?_of_block (w := w) (a := ⟨b, off + j, none⟩) (ho b hb)).trans (hc j hj)⟩
def FiPost (W : World) (J Jx : (Nat → Prop) → List (Nat × Nat) → World → Prop) (most : Nat) (l : List Nat) (e : Ending) (W' : World) : Prop :=
  (∃ v, e = .returned v) ∧ ∃ D, Bounds W.heap.size D W' ∧ ((∃ xs, xs = pkSeq most l ∧ pkX most l D xs W' ∧ J D xs W') ∨ ∃ pre, pkX most l D pre W' ∧ Jx D pre W')
set_option maxHeartbeats 8000000 in
set_option maxRecDepth 100000 in
theorem fill1_any {w0 W : World} {S : Nat → Prop} {A : Option Addr} {n c most : Nat} {l : List Nat} (hl : Ints .i64 w0 S A n c (natI l)) (hW : Below w0.heap.size w0 W) (hle : ∀ s ∈ l, s ≤ 65577) (hn : l.length ≤ 1000000) (hm : most ≤ 1048576)
    (ly : Nat) (J Jx : (Nat → Prop) → List (Nat × Nat) → World → Prop) (hJ : Still W.heap.size J)
    (hY : ∀ D pre x W1, Bounds W.heap.size D W1 → J D pre W1 → pkX most l D (pre ++ [x]) W1 → YieldAt Fence.wide 2 Tryd.prog ly (told x) W1 fun e W' =>
      (e = .returned (.bool true) ∧ J D (pre ++ [x]) W' ∧ Kept W.heap.size D (fun k => k < w0.heap.size) W1 W') ∨ (e = .returned (.bool false) ∧ Jx D (pre ++ [x]) W' ∧ Kept W.heap.size D (fun k => k < w0.heap.size) W1 W'))
    (h0 : J (fun _ => False) [] W) :
    CallsIn Fence.wide 3 Tryd.prog 33 #[.agg #[.slice A n c, .int .i64 (most : Int)], .func (.yield ly) #[] #[]] W (FiPost W J Jx most l) := by
  have HY := Lib.hid hY
  have HJ := Lib.hid hJ
  have hnl : n = l.length := by have := hl.len; rw [← this]; simp [natI]
  have HL := Lib.hid (And.intro hl (And.intro hle (And.intro hn (And.intro hm (And.intro hW hnl)))))
  have hz := zero_room
  have hmf : ∀ (fn : Fn) (first cap : Array Value) (w : World), (Instr.makeFunc fn first cap).run Tryd.prog w = .ok (.func fn first cap) w := fun _ _ _ _ => rfl
  clear hY hJ hl hle hn hm hnl
  refine callsIn_of_wp Tryd.func33 rfl trivial ?_ rfl
  simp only [Tryd.ntmps33, List.size_toArray, List.length_cons, List.length_nil, Nat.reduceAdd, Nat.reduceSub, Array.replicate_succ, Array.replicate_zero, List.push_toArray, List.append_toArray, List.nil_append, List.cons_append]
  have hA1 := heap_alloc_new W (.cells #[.slice A n c, .int .i64 (most : Int)] 63)
  gi_wp2
  have H0 : Hid (FiS w0 W J A n c most l 0 ((W.alloc (.cells #[.slice A n c, .int .i64 (most : Int)] 63)).alloc (.cells #[.int .i64 0, .int .i64 0] 46))) := Lib.hid (by
    have hb : Below W.heap.size W ((W.alloc (.cells #[.slice A n c, .int .i64 (most : Int)] 63)).alloc (.cells #[.int .i64 0, .int .i64 0] 46)) := ((Below.refl _ _).alloc (Nat.le_refl _) _).alloc (by simp) _
    have h2 := heap_alloc_new (W.alloc (.cells #[.slice A n c, .int .i64 (most : Int)] 63)) (.cells #[.int .i64 0, .int .i64 0] 46)
    rw [World.size_alloc] at h2
    refine ⟨Nat.zero_le _, (Below.heap_alloc _ _ _ (by simp)).trans hA1, h2, ?_, fun k hk => (hb.block k (by have := HL.out.2.2.2.2.1.size; omega)).trans (HL.out.2.2.2.2.1.block k hk)⟩
    refine HJ.out _ _ _ _ _ (Bounds.none_ _ _) h0 (Steps.of_below hb) (fun b hb => .inr ?_)
    simp only [World.size_alloc]
    rcases hb with hb | hb <;> omega)
  clear h0 hW hA1 hz
  have hz := zero_room
  gi_loopw [4, 6, 7, 12] (fun p _ _ i wr => FiR w0 W J A n c most l p i wr) (fun _ _ _ i _ => n - (intOf i).toNat)
  case atStart => exact ⟨0, rfl, rfl, H0.out⟩
  case round =>
    obtain ⟨j, rfl, rfl, hs⟩ := hrel
    clear H0
    have HS := Lib.hid hs
    clear hs
    by_cases hlt : j < n
    · have hlt' : (j : Int) < (n : Int) := by omega
      have hjl : j < l.length := by have := HL.out.2.2.2.2.2; omega
      obtain ⟨b, off, rfl, hc0⟩ := HL.out.1.old HS.out.old hlt
      obtain ⟨s, hsj⟩ : ∃ s, l[j]? = some s := ⟨_, List.getElem?_eq_getElem hjl⟩
      have hsv : (natI l)[j]?.getD 0 = (s : Int) := by unfold natI; rw [List.getElem?_map, hsj]; rfl
      rw [hsv] at hc0
      have hs5 := HL.out.2.1 s (List.mem_of_getElem? hsj)
      have hst := pkSt_at (most := most) hsj
      have hk4 := pkSt_k most (l.take j)
      have hy4 := pkSt_y most (l.take j) fun x hx => HL.out.2.1 x (List.mem_of_mem_take hx)
      have hp4 := pkSt_p most (l.take j)
      have hm4 := HL.out.2.2.2.1
      have hn4 := HL.out.2.2.1
      have hpl : (l.take j).length ≤ j := by rw [List.length_take]; omega
      have hr0 := HS.out.room
      have hf0 := HS.out.fil
      obtain ⟨ST, hST⟩ : ∃ ST, ST = pkSt most (l.take j) := ⟨_, rfl⟩
      rw [← hST] at hst hk4 hy4 hp4 hr0
      have hadd := IntWalk.i64_in ((j : Int) + 1) (by omega)
      have hpadd := IntWalk.i64_in ((ST.p : Int) + 1) (by omega)
      have hwi := fun W => with_any ST.k ST.y s (by omega) (by omega) (by omega) W
      have hho := fun W => holds_any (some ⟨b, off, none⟩) n c most (ST.k + 1) (ST.y + pkE s) (by omega) (by have := lnN_3 (x := s) (by omega); unfold pkE; omega) W
      have hw1 := fun W => with_any 0 0 s (by omega) (by omega) (by omega) W
      rw [show rmV 0 0 = #[.int .i64 0, .int .i64 0] from rfl, show rmV (0 + 1) (0 + pkE s) = rmV 1 (pkE s) by simp] at hw1
      obtain ⟨FV, hFV⟩ : ∃ FV, FV = flV (some ⟨b, off, none⟩) n c (most : Int) := ⟨_, rfl⟩
      obtain ⟨RV, hRV⟩ : ∃ RV, RV = rmV ST.k ST.y := ⟨_, rfl⟩
      obtain ⟨RW, hRW⟩ : ∃ RW, RW = rmV (ST.k + 1) (ST.y + pkE s) := ⟨_, rfl⟩
      obtain ⟨R1, hR1⟩ : ∃ R1, R1 = rmV 1 (pkE s) := ⟨_, rfl⟩
      obtain ⟨B, hB⟩ : ∃ B, B = pkHolds most (ST.k + 1) (ST.y + pkE s) := ⟨_, rfl⟩
      have hf1 : wr.heap[W.heap.size]? = some (.cells FV 63 (0, 0)) := by rw [hFV]; exact hf0
      rw [← hRV, ← hRW] at hwi
      rw [← hRW, ← hB, ← hFV] at hho
      rw [← hR1] at hw1
      rw [← hRV] at hr0
      have HQ := Lib.hid (And.intro hr0 hf1)
      have HR : Hid (RV.size = 2 ∧ RW.size = 2 ∧ RW.all (·.oneCell') = true ∧ R1.size = 2 ∧ R1.all (·.oneCell') = true ∧ FV.size = 2) := Lib.hid (by rw [hRV, hRW, hR1, hFV]; exact ⟨rfl, rfl, rmV_one _ _, rfl, rmV_one _ _, rfl⟩)
      have HE := Lib.hid (And.intro hsj (And.intro hst (And.intro hRW (And.intro hR1 (And.intro hB hlt)))))
      obtain ⟨P0, hP0⟩ : ∃ P0, P0 = ST.p := ⟨_, rfl⟩
      have hSTp : (pkSt most (l.take j)).p = P0 := by rw [hP0, hST]
      rw [← hP0] at hpadd
      rw [hSTp]
      have HP0 := Lib.hid hP0
      clear hsj hst hsv hs5 hk4 hy4 hp4 hm4 hn4 hpl hr0 hf0 hf1 hFV hRV hRW hR1 hB hST hjl hSTp hP0
      cases hBc : B with
      | true =>
        subst hBc
        gi_upto_region 8 with (first
          | (refine ⟨trivial, ?_⟩; gi_at_call 15; refine (callsIn_wide.2 (hwi _)).mono ?_; clear hwi; rintro _ w1 ⟨rfl, hb1⟩; have hq1 := (hb1.block _ (lt_of_cells HQ.out.1)).trans HQ.out.1; have hf1 := (hb1.block _ (lt_of_cells HQ.out.2)).trans HQ.out.2; have HB1 := Lib.hid hb1; clear hb1)
          | (refine ⟨trivial, ?_⟩; gi_at_call 50; refine (callsIn_wide.2 (hho _)).mono ?_; clear hho; rintro _ w3 ⟨rfl, hb3⟩; have HB3 := Lib.hid hb3; clear hb3)
          | (refine wpListIn_load_row (by rfl) 46 (.tmp 5) (by rfl) (W.heap.size + 1) (by rfl) 46 RV (0, 0) _ HQ.out.1 Tryd.underlying46 (by rfl) (by rw [HR.out.1]; exact room_info) ?_)
          | (refine wpListIn_load_row (by rfl) 46 (.tmp 5) (by rfl) (W.heap.size + 1) (by rfl) 46 RW (0, 0) _ (setRow_at hq1) Tryd.underlying46 (by rfl) (by rw [HR.out.2.1]; exact room_info) ?_)
          | (refine wpListIn_load_row (by rfl) 63 (.tmp 2) (by rfl) W.heap.size (by rfl) 63 FV (0, 0) _ ((setRow_ne _ _ _ _ (by omega)).trans hf1) Tryd.underlying63 (by rfl) (by rw [HR.out.2.2.2.2.2]; exact filler_info) ?_)
          | (refine wpListIn_store_row (by rfl) 46 (.tmp 5) (.tmp 19) (by rfl) (W.heap.size + 1) RW (by rfl) (by rfl) 46 _ hq1 (by rw [HR.out.2.1]; exact room_info) (by rw [HR.out.1, HR.out.2.1]) HR.out.2.2.1 ?_))
        have H3 := Lib.hid (HS.out.mid (w3 := w3) HJ.out HL.out.2.2.2.2.1.size (((Turned.of_below HB1.out).trans (turned_setRow RW) fun k hk e => e).trans (Turned.of_below HB3.out) fun k _ h => h))
        have HRM : Hid (w3.heap[W.heap.size + 1]? = some (.cells (rmV (pkSt most (l.take (j + 1))).k (pkSt most (l.take (j + 1))).y) 46 (0, 0))) := Lib.hid (by rw [HE.out.2.1]; unfold pkStep; rw [if_pos HE.out.2.2.2.2.1.symm, ← HE.out.2.2.1]; exact (HB3.out.block _ (lt_of_cells (setRow_at hq1))).trans (setRow_at hq1))
        have hjl : j < l.length := by have h1 := HE.out.2.2.2.2.2; have h2 := HL.out.2.2.2.2.2; omega
        have HP : Hid ((pkSt most (l.take (j + 1))).p = P0) := Lib.hid (by rw [HE.out.2.1]; unfold pkStep; rw [if_pos HE.out.2.2.2.2.1.symm, HP0.out])
        obtain ⟨fn, tmps, assign, body, hy, hR⟩ := HY.out _ _ _ w3 H3.out.1 H3.out.2.1 (pkX_at (most := most) hjl _ _)
        have HRR := Lib.hid hR
        simp only [told] at hy
        rw [HP.out] at hy
        clear hq1 hf1
        clear hR hjl
        gi_wp2
        refine HRR.out.mono ?_
        rintro e W3 (⟨rfl, hJ3, hk3⟩ | ⟨rfl, hJx3, hk3⟩)
        · have hjl : j < l.length := by have h1 := HE.out.2.2.2.2.2; have h2 := HL.out.2.2.2.2.2; omega
          have H5 : Hid (FiS w0 W J (some ⟨b, off, none⟩) n c most l (j + 1) W3) := Lib.hid (FiS.next hjl H3.out.2.2.1 HRM.out H3.out.2.2.2 HL.out.2.2.2.2.1.size hk3 (by rw [pkSeq_take hjl]; exact hJ3))
          clear hJ3 hk3 hy HRR hjl
          gi_wp2
          go_roundw
          case rel => exact ⟨j + 1, by simp, by rw [HP.out], H5.out⟩
          case measure => simp [intOf]; omega
        · have hjl : j < l.length := by have h1 := HE.out.2.2.2.2.2; have h2 := HL.out.2.2.2.2.2; omega
          have HX : Hid (FiPost W J Jx most l (.returned (.tuple #[])) W3) := Lib.hid ⟨⟨_, rfl⟩, _, H3.out.1.grow hk3.turned.size, .inr ⟨_, pkX_at hjl _ _, hJx3⟩⟩
          clear hJx3 hk3 hy HRR hjl
          gi_wp2
          refine bodyPost_ret (results_none rfl _ _ _) rfl ?_
          exact HX.out
      | false =>
        subst hBc
        gi_upto_region 8 with (first
          | (refine ⟨trivial, ?_⟩; gi_at_call 15; refine (callsIn_wide.2 (hwi _)).mono ?_; clear hwi; rintro _ w1 ⟨rfl, hb1⟩; have hq1 := (hb1.block _ (lt_of_cells HQ.out.1)).trans HQ.out.1; have hf1 := (hb1.block _ (lt_of_cells HQ.out.2)).trans HQ.out.2; have HB1 := Lib.hid hb1; clear hb1)
          | (refine ⟨trivial, ?_⟩; gi_at_call 15; refine (callsIn_wide.2 (hw1 _)).mono ?_; clear hw1; rintro _ w5 ⟨rfl, hb5⟩; have hq5 := (hb5.block _ (lt_of_cells HQ3.out)).trans HQ3.out; have HB5 := Lib.hid hb5; clear hb5)
          | (refine ⟨trivial, ?_⟩; gi_at_call 50; refine (callsIn_wide.2 (hho _)).mono ?_; clear hho; rintro _ w3 ⟨rfl, hb3⟩; have HB3 := Lib.hid hb3; have HQ3 := Lib.hid ((hb3.block _ (lt_of_cells (setRow_at (new := RW) hq1))).trans (setRow_at hq1)); clear hb3)
          | (refine wpListIn_load_row (by rfl) 46 (.tmp 5) (by rfl) (W.heap.size + 1) (by rfl) 46 RV (0, 0) _ HQ.out.1 Tryd.underlying46 (by rfl) (by rw [HR.out.1]; exact room_info) ?_)
          | (refine wpListIn_load_row (by rfl) 46 (.tmp 5) (by rfl) (W.heap.size + 1) (by rfl) 46 RW (0, 0) _ (setRow_at hq1) Tryd.underlying46 (by rfl) (by rw [HR.out.2.1]; exact room_info) ?_)
          | (refine wpListIn_load_row (by rfl) 63 (.tmp 2) (by rfl) W.heap.size (by rfl) 63 FV (0, 0) _ ((setRow_ne _ _ _ _ (by omega)).trans hf1) Tryd.underlying63 (by rfl) (by rw [HR.out.2.2.2.2.2]; exact filler_info) ?_)
          | (refine wpListIn_store_row (by rfl) 46 (.tmp 5) (.tmp 19) (by rfl) (W.heap.size + 1) RW (by rfl) (by rfl) 46 _ hq1 (by rw [HR.out.2.1]; exact room_info) (by rw [HR.out.1, HR.out.2.1]) HR.out.2.2.1 ?_)
          | (refine wpListIn_store_row (by rfl) 46 (.tmp 5) (.tmp 28) (by rfl) (W.heap.size + 1) R1 (by rfl) (by rfl) 46 _ hq5 (by rw [HR.out.2.2.2.1]; exact room_info) (by rw [HR.out.2.1, HR.out.2.2.2.1]) HR.out.2.2.2.2.1 ?_))
        have H3 := Lib.hid (HS.out.mid (w3 := (w5.setRow (W.heap.size + 1) R1)) HJ.out HL.out.2.2.2.2.1.size ((((Turned.of_below HB1.out).trans (turned_setRow RW) fun k hk e => e).trans (Turned.of_below (S := fun _ => False) HB3.out) fun k _ h => h.elim).trans ((Turned.of_below (S := (· = W.heap.size + 1)) HB5.out).trans (turned_setRow R1) fun k hk e => e) fun k hk e => e))
        have HRM : Hid ((w5.setRow (W.heap.size + 1) R1).heap[W.heap.size + 1]? = some (.cells (rmV (pkSt most (l.take (j + 1))).k (pkSt most (l.take (j + 1))).y) 46 (0, 0))) := Lib.hid (by rw [HE.out.2.1]; unfold pkStep; rw [if_neg (by rw [← HE.out.2.2.2.2.1]; simp), ← HE.out.2.2.2.1]; exact setRow_at hq5)
        have hjl : j < l.length := by have h1 := HE.out.2.2.2.2.2; have h2 := HL.out.2.2.2.2.2; omega
        have HP : Hid ((pkSt most (l.take (j + 1))).p = P0 + 1) := Lib.hid (by rw [HE.out.2.1]; unfold pkStep; rw [if_neg (by rw [← HE.out.2.2.2.2.1]; simp), HP0.out])
        obtain ⟨fn, tmps, assign, body, hy, hR⟩ := HY.out _ _ _ (w5.setRow (W.heap.size + 1) R1) H3.out.1 H3.out.2.1 (pkX_at (most := most) hjl _ _)
        have HRR := Lib.hid hR
        simp only [told] at hy
        rw [HP.out] at hy
        rw [show ((P0 + 1 : Nat) : Int) = (P0 : Int) + 1 from Int.natCast_succ P0] at hy
        clear hq1 hf1 hq5
        clear hR hjl
        gi_wp2
        refine HRR.out.mono ?_
        rintro e W3 (⟨rfl, hJ3, hk3⟩ | ⟨rfl, hJx3, hk3⟩)
        · have hjl : j < l.length := by have h1 := HE.out.2.2.2.2.2; have h2 := HL.out.2.2.2.2.2; omega
          have H5 : Hid (FiS w0 W J (some ⟨b, off, none⟩) n c most l (j + 1) W3) := Lib.hid (FiS.next hjl H3.out.2.2.1 HRM.out H3.out.2.2.2 HL.out.2.2.2.2.1.size hk3 (by rw [pkSeq_take hjl]; exact hJ3))
          clear hJ3 hk3 hy HRR hjl
          gi_wp2
          go_roundw
          case rel => exact ⟨j + 1, by simp, by rw [HP.out]; simp, H5.out⟩
          case measure => simp [intOf]; omega
        · have hjl : j < l.length := by have h1 := HE.out.2.2.2.2.2; have h2 := HL.out.2.2.2.2.2; omega
          have HX : Hid (FiPost W J Jx most l (.returned (.tuple #[])) W3) := Lib.hid ⟨⟨_, rfl⟩, _, H3.out.1.grow hk3.turned.size, .inr ⟨_, pkX_at hjl _ _, hJx3⟩⟩
          clear hJx3 hk3 hy HRR hjl
          gi_wp2
          refine bodyPost_ret (results_none rfl _ _ _) rfl ?_
          exact HX.out
    · have hjn : j = l.length := by have h1 := HS.out.le; have h2 := HL.out.2.2.2.2.2; omega
      have hlt' : ¬ (j : Int) < (n : Int) := by omega
      have HX : Hid (FiPost W J Jx most l (.returned (.tuple #[])) wr) := Lib.hid (by
        have h1 := HS.out.j
        rw [hjn, List.take_of_length_le (by rw [pkSeq_len]; exact Nat.le_refl _)] at h1
        exact ⟨⟨_, rfl⟩, fiD W, (HS.out.mid HJ.out HL.out.2.2.2.2.1.size (Turned.refl _ _)).1, .inl ⟨_, rfl, ⟨by rw [List.take_of_length_le (Nat.le_refl _)], by rw [pkSeq_len]; exact Nat.le_refl _⟩, h1⟩⟩)
      clear hjn
      gi_wp2
      go_end0
      exact HX.out
/-- ITS PROMISE. -/
theorem fill_iter {w0 : World} {S : Nat → Prop} {A : Option Addr} {n c most : Nat} {l : List Nat} (hl : Ints .i64 w0 S A n c (natI l)) (hle : ∀ s ∈ l, s ≤ 65577) (hn : l.length ≤ 1000000) (hm : most ≤ 1048576) :
    IterB Tryd.prog 33 #[.agg #[.slice A n c, .int .i64 (most : Int)]] #[] told (fun k => k < w0.heap.size) (pkX most l) (fun xs => xs = pkSeq most l) w0 := by
  refine ⟨fun _ _ _ _ h _ => h, fun ly J Jx W hW hJ hJx hY h0 => ?_⟩
  refine callsIn_wide.1 ((fill1_any hl hW hle hn hm ly J Jx hJ (fun D pre x W1 hB hj hx => ?_) h0).mono ?_)
  · obtain ⟨fn, tmps, assign, body, hy, hR⟩ := hY D pre x W1 hB hj hx
    exact ⟨fn, tmps, assign, body, hy, RoundIn.wide hR⟩
  · rintro e W' ⟨hv, D, hB, hh⟩
    exact ⟨hv, D, hB, hh⟩
end Go.Proofs.YtnbjhdlnibmgdaaDoor
