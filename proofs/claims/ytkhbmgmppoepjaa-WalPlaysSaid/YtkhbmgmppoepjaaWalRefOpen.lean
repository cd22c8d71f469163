/-
  The reference: Open.
-/
import Derived.Test.YtkhbmgmppoepjaaWalRefBlk
import Derived.Test.YtkhbmgmppoepjaaWalLog
import Derived.Test.YtkhbmgmppoepjaaBlkWrite
namespace Go.Proofs.Ytkhbmgmppoepjaa
open Go.RowKit

theorem lm_info : (Try.prog.info? 38).map (·.size) = some 7 := by kernel_rfl
theorem zero_lm : ∀ W, (zeroValue 38).run Try.prog W = .ok (.agg (lmV lm0 none 0 0)) W := fun W => by kernel_rfl
theorem lm_one (m : LM) (A : Option Addr) (n c : Nat) : (lmV m A n c).all (·.oneCell') = true := by simp [lmV, Value.oneCell']
theorem lm_size (m : LM) (A : Option Addr) (n c : Nat) : (lmV m A n c).size = 7 := rfl
/-- The answer stands in a cell, and in a slot. -/
theorem lm_result {fn : Func} {p u : Tmp} (h : fn.results = #[.cell p 38, .tmp u]) (tmps : Array Value) (w : World) (g : Nat) (cs : Array Value) (hp : tmps.getD p undef = .pointer (some ⟨g, 0, none⟩)) (hg : w.heap[g]? = some (.cells cs 38 (0, 0))) (hs : cs.size = 7) :
    (results fn tmps).run Try.prog w = .ok (.tuple #[.agg cs, tmps.getD u undef]) w := by
  rw [results_cell_tmp h tmps]
  have hp' : tmps[p]?.getD undef = .pointer (some ⟨g, 0, none⟩) := by simpa using hp
  simp [hp', asAddr, Result.andThen, run_loadVar_row w g 38 38 cs (0, 0) _ hg Try.underlying38 rfl (by rw [hs]; exact lm_info)]
def OpenPost (w : World) (bs : List (List UInt8)) (from_ n : Int) (E : Int) (e : Ending) (w' : World) : Prop :=
  ∃ A k c, e = .returned (.tuple #[.agg (lmV (if E = 0 then openM bs from_ n else lm0) A k c), .int .i64 E]) ∧ Strs w' (w.heap.size ≤ ·) A k c (if E = 0 then openM bs from_ n else lm0).l ∧ Below w.heap.size w w'
set_option maxHeartbeats 4000000 in
set_option maxRecDepth 100000 in
theorem rwopen_a {w : World} {A : Option Addr} {nl c : Nat} {d : DM} (from_ n : Int) (h1 : from_ < 0) :
    Calls Try.prog 13 #[.agg (dmV d A nl c), .int .i64 from_, .int .i64 n] w fun e w' => OpenPost w [] from_ n 1 e w' := by
  have hz := zero_lm
  obtain ⟨ZV, hZV⟩ : ∃ ZV, ZV = lmV lm0 none 0 0 := ⟨_, rfl⟩
  rw [← hZV] at hz
  obtain ⟨DV, hDV⟩ : ∃ DV, DV = dmV d A nl c := ⟨_, rfl⟩
  rw [← hDV]
  have hd0 := heap_alloc_new w (.cells DV 31)
  have hd1 := (heap_alloc_old (w.alloc (.cells DV 31)) (.cells ZV 38) (lt_of_cells hd0)).trans hd0
  have hz1 := heap_alloc_new (w.alloc (.cells DV 31)) (.cells ZV 38)
  rw [World.size_alloc] at hz1
  have hb1 := below_two w (.cells DV 31) (.cells ZV 38)
  have HV := Lib.hid (And.intro hZV hDV)
  clear hZV hDV
  go_enter Try.func13, Try.ntmps13
  go_upto_region 1 with fail
  generalize (w.alloc (.cells DV 31)).alloc (.cells ZV 38) = w2 at *
  have hc0 : w2.cell? ⟨w.heap.size, 0, none⟩ = some (.slice A nl c) := by rw [cell_of_cells hd1, HV.out.2]; rfl
  have hc3 : w2.cell? ⟨w.heap.size, 3, none⟩ = some (.bool d.down) := by rw [cell_of_cells hd1, HV.out.2]; rfl
  have HZ := Lib.hid (And.intro HV.out.1 (And.intro hz1 hb1))

  clear hd0 hd1 hz1 hb1
  go_wp2_with (refine wpList_store_row (by rfl) 38 (.tmp 6) (.tmp 43) (by rfl) (w.heap.size + 1) ZV (by rfl) (by rfl) 38 ZV HZ.out.2.1 (by rw [HZ.out.1]; exact lm_info) rfl (by rw [HZ.out.1]; exact lm_one _ _ _ _) ?_)
  (try simp only [Exit.inBlock, Exit.then])
  refine bodyPost_ret (lm_result (p := 6) (u := 7) rfl _ _ (w.heap.size + 1) ZV rfl (setRow_at HZ.out.2.1) (by rw [HZ.out.1]; rfl)) rfl ?_
  exact ⟨none, 0, 0, by rw [HZ.out.1]; rfl, Strs.nil _ _ _ _ (Nat.zero_le _), below_setRow HZ.out.2.2 (by omega) _⟩
set_option maxHeartbeats 4000000 in
set_option maxRecDepth 100000 in
theorem rwopen_b {w : World} {A : Option Addr} {nl c : Nat} {d : DM} (from_ n : Int) (h1 : ¬ from_ < 0) (h2 : n < 1) :
    Calls Try.prog 13 #[.agg (dmV d A nl c), .int .i64 from_, .int .i64 n] w fun e w' => OpenPost w [] from_ n 1 e w' := by
  have hz := zero_lm
  obtain ⟨ZV, hZV⟩ : ∃ ZV, ZV = lmV lm0 none 0 0 := ⟨_, rfl⟩
  rw [← hZV] at hz
  obtain ⟨DV, hDV⟩ : ∃ DV, DV = dmV d A nl c := ⟨_, rfl⟩
  rw [← hDV]
  have hd0 := heap_alloc_new w (.cells DV 31)
  have hd1 := (heap_alloc_old (w.alloc (.cells DV 31)) (.cells ZV 38) (lt_of_cells hd0)).trans hd0
  have hz1 := heap_alloc_new (w.alloc (.cells DV 31)) (.cells ZV 38)
  rw [World.size_alloc] at hz1
  have hb1 := below_two w (.cells DV 31) (.cells ZV 38)
  have HV := Lib.hid (And.intro hZV hDV)
  clear hZV hDV
  go_enter Try.func13, Try.ntmps13
  go_upto_region 1 with fail
  generalize (w.alloc (.cells DV 31)).alloc (.cells ZV 38) = w2 at *
  have hc0 : w2.cell? ⟨w.heap.size, 0, none⟩ = some (.slice A nl c) := by rw [cell_of_cells hd1, HV.out.2]; rfl
  have hc3 : w2.cell? ⟨w.heap.size, 3, none⟩ = some (.bool d.down) := by rw [cell_of_cells hd1, HV.out.2]; rfl
  have HZ := Lib.hid (And.intro HV.out.1 (And.intro hz1 hb1))

  clear hd0 hd1 hz1 hb1
  go_wp2_with (refine wpList_store_row (by rfl) 38 (.tmp 6) (.tmp 43) (by rfl) (w.heap.size + 1) ZV (by rfl) (by rfl) 38 ZV HZ.out.2.1 (by rw [HZ.out.1]; exact lm_info) rfl (by rw [HZ.out.1]; exact lm_one _ _ _ _) ?_)
  (try simp only [Exit.inBlock, Exit.then])
  refine bodyPost_ret (lm_result (p := 6) (u := 7) rfl _ _ (w.heap.size + 1) ZV rfl (setRow_at HZ.out.2.1) (by rw [HZ.out.1]; rfl)) rfl ?_
  exact ⟨none, 0, 0, by rw [HZ.out.1]; rfl, Strs.nil _ _ _ _ (Nat.zero_le _), below_setRow HZ.out.2.2 (by omega) _⟩
set_option maxHeartbeats 4000000 in
set_option maxRecDepth 100000 in
theorem rwopen_c {w : World} {A : Option Addr} {nl c : Nat} {d : DM} (from_ n : Int) (h1 : ¬ from_ < 0) (h2 : ¬ n < 1) (h3 : (nl : Int) < from_) :
    Calls Try.prog 13 #[.agg (dmV d A nl c), .int .i64 from_, .int .i64 n] w fun e w' => OpenPost w [] from_ n 1 e w' := by
  have hz := zero_lm
  obtain ⟨ZV, hZV⟩ : ∃ ZV, ZV = lmV lm0 none 0 0 := ⟨_, rfl⟩
  rw [← hZV] at hz
  obtain ⟨DV, hDV⟩ : ∃ DV, DV = dmV d A nl c := ⟨_, rfl⟩
  rw [← hDV]
  have hd0 := heap_alloc_new w (.cells DV 31)
  have hd1 := (heap_alloc_old (w.alloc (.cells DV 31)) (.cells ZV 38) (lt_of_cells hd0)).trans hd0
  have hz1 := heap_alloc_new (w.alloc (.cells DV 31)) (.cells ZV 38)
  rw [World.size_alloc] at hz1
  have hb1 := below_two w (.cells DV 31) (.cells ZV 38)
  have HV := Lib.hid (And.intro hZV hDV)
  clear hZV hDV
  go_enter Try.func13, Try.ntmps13
  go_upto_region 1 with fail
  generalize (w.alloc (.cells DV 31)).alloc (.cells ZV 38) = w2 at *
  have hc0 : w2.cell? ⟨w.heap.size, 0, none⟩ = some (.slice A nl c) := by rw [cell_of_cells hd1, HV.out.2]; rfl
  have hc3 : w2.cell? ⟨w.heap.size, 3, none⟩ = some (.bool d.down) := by rw [cell_of_cells hd1, HV.out.2]; rfl
  have HZ := Lib.hid (And.intro HV.out.1 (And.intro hz1 hb1))

  clear hd0 hd1 hz1 hb1
  go_wp2_with (refine wpList_store_row (by rfl) 38 (.tmp 6) (.tmp 43) (by rfl) (w.heap.size + 1) ZV (by rfl) (by rfl) 38 ZV HZ.out.2.1 (by rw [HZ.out.1]; exact lm_info) rfl (by rw [HZ.out.1]; exact lm_one _ _ _ _) ?_)
  (try simp only [Exit.inBlock, Exit.then])
  refine bodyPost_ret (lm_result (p := 6) (u := 7) rfl _ _ (w.heap.size + 1) ZV rfl (setRow_at HZ.out.2.1) (by rw [HZ.out.1]; rfl)) rfl ?_
  exact ⟨none, 0, 0, by rw [HZ.out.1]; rfl, Strs.nil _ _ _ _ (Nat.zero_le _), below_setRow HZ.out.2.2 (by omega) _⟩
set_option maxHeartbeats 4000000 in
set_option maxRecDepth 100000 in
theorem rwopen_d {w : World} {A : Option Addr} {nl c : Nat} {d : DM} (hn : nl ≤ 1000000) (from_ n : Int) (h1 : ¬ from_ < 0) (h2 : ¬ n < 1) (h3 : ¬ (nl : Int) < from_) (h4 : (nl : Int) - from_ < n) :
    Calls Try.prog 13 #[.agg (dmV d A nl c), .int .i64 from_, .int .i64 n] w fun e w' => OpenPost w [] from_ n 1 e w' := by
  have hz := zero_lm
  obtain ⟨ZV, hZV⟩ : ∃ ZV, ZV = lmV lm0 none 0 0 := ⟨_, rfl⟩
  rw [← hZV] at hz
  obtain ⟨DV, hDV⟩ : ∃ DV, DV = dmV d A nl c := ⟨_, rfl⟩
  rw [← hDV]
  have hd0 := heap_alloc_new w (.cells DV 31)
  have hd1 := (heap_alloc_old (w.alloc (.cells DV 31)) (.cells ZV 38) (lt_of_cells hd0)).trans hd0
  have hz1 := heap_alloc_new (w.alloc (.cells DV 31)) (.cells ZV 38)
  rw [World.size_alloc] at hz1
  have hb1 := below_two w (.cells DV 31) (.cells ZV 38)
  have HV := Lib.hid (And.intro hZV hDV)
  clear hZV hDV
  go_enter Try.func13, Try.ntmps13
  go_upto_region 1 with fail
  generalize (w.alloc (.cells DV 31)).alloc (.cells ZV 38) = w2 at *
  have hc0 : w2.cell? ⟨w.heap.size, 0, none⟩ = some (.slice A nl c) := by rw [cell_of_cells hd1, HV.out.2]; rfl
  have hc3 : w2.cell? ⟨w.heap.size, 3, none⟩ = some (.bool d.down) := by rw [cell_of_cells hd1, HV.out.2]; rfl
  have HZ := Lib.hid (And.intro HV.out.1 (And.intro hz1 hb1))
  have hsub := IntWalk.i64_in ((nl : Int) - from_) (by omega)
  clear hd0 hd1 hz1 hb1
  go_wp2_with (refine wpList_store_row (by rfl) 38 (.tmp 6) (.tmp 43) (by rfl) (w.heap.size + 1) ZV (by rfl) (by rfl) 38 ZV HZ.out.2.1 (by rw [HZ.out.1]; exact lm_info) rfl (by rw [HZ.out.1]; exact lm_one _ _ _ _) ?_)
  (try simp only [Exit.inBlock, Exit.then])
  refine bodyPost_ret (lm_result (p := 6) (u := 7) rfl _ _ (w.heap.size + 1) ZV rfl (setRow_at HZ.out.2.1) (by rw [HZ.out.1]; rfl)) rfl ?_
  exact ⟨none, 0, 0, by rw [HZ.out.1]; rfl, Strs.nil _ _ _ _ (Nat.zero_le _), below_setRow HZ.out.2.2 (by omega) _⟩
set_option maxHeartbeats 4000000 in
set_option maxRecDepth 100000 in
theorem rwopen_e {w : World} {A : Option Addr} {nl c : Nat} {d : DM} (hn : nl ≤ 1000000) (from_ n : Int) (h1 : ¬ from_ < 0) (h2 : ¬ n < 1) (h3 : ¬ (nl : Int) < from_) (h4 : ¬ (nl : Int) - from_ < n) (h5 : d.down = true) :
    Calls Try.prog 13 #[.agg (dmV d A nl c), .int .i64 from_, .int .i64 n] w fun e w' => OpenPost w [] from_ n 30 e w' := by
  have hz := zero_lm
  obtain ⟨ZV, hZV⟩ : ∃ ZV, ZV = lmV lm0 none 0 0 := ⟨_, rfl⟩
  rw [← hZV] at hz
  obtain ⟨DV, hDV⟩ : ∃ DV, DV = dmV d A nl c := ⟨_, rfl⟩
  rw [← hDV]
  have hd0 := heap_alloc_new w (.cells DV 31)
  have hd1 := (heap_alloc_old (w.alloc (.cells DV 31)) (.cells ZV 38) (lt_of_cells hd0)).trans hd0
  have hz1 := heap_alloc_new (w.alloc (.cells DV 31)) (.cells ZV 38)
  rw [World.size_alloc] at hz1
  have hb1 := below_two w (.cells DV 31) (.cells ZV 38)
  have HV := Lib.hid (And.intro hZV hDV)
  clear hZV hDV
  go_enter Try.func13, Try.ntmps13
  go_upto_region 1 with fail
  generalize (w.alloc (.cells DV 31)).alloc (.cells ZV 38) = w2 at *
  have hc0 : w2.cell? ⟨w.heap.size, 0, none⟩ = some (.slice A nl c) := by rw [cell_of_cells hd1, HV.out.2]; rfl
  have hc3 : w2.cell? ⟨w.heap.size, 3, none⟩ = some (.bool d.down) := by rw [cell_of_cells hd1, HV.out.2]; rfl
  have HZ := Lib.hid (And.intro HV.out.1 (And.intro hz1 hb1))
  have hsub := IntWalk.i64_in ((nl : Int) - from_) (by omega)
  rw [h5] at hc3
  clear hd0 hd1 hz1 hb1
  go_wp2_with (refine wpList_store_row (by rfl) 38 (.tmp 6) (.tmp 46) (by rfl) (w.heap.size + 1) ZV (by rfl) (by rfl) 38 ZV HZ.out.2.1 (by rw [HZ.out.1]; exact lm_info) rfl (by rw [HZ.out.1]; exact lm_one _ _ _ _) ?_)
  (try simp only [Exit.inBlock, Exit.then])
  refine bodyPost_ret (lm_result (p := 6) (u := 7) rfl _ _ (w.heap.size + 1) ZV rfl (setRow_at HZ.out.2.1) (by rw [HZ.out.1]; rfl)) rfl ?_
  exact ⟨none, 0, 0, by rw [HZ.out.1]; rfl, Strs.nil _ _ _ _ (Nat.zero_le _), below_setRow HZ.out.2.2 (by omega) _⟩
end Go.Proofs.Ytkhbmgmppoepjaa
