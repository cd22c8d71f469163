/-
  The reference: Begin.
-/
import Derived.Test.YtkhbmgmppoepjaaWalRefRun
import Derived.Test.YtkhbmgmppoepjaaWalLog
namespace Go.Proofs.Ytkhbmgmppoepjaa
open Go.RowKit

theorem open_err {w : World} {bs bs' : List (List UInt8)} {from_ n E : Int} {e : Ending} {w' : World} (hE : E ≠ 0) (h : OpenPost w bs from_ n E e w') : OpenPost w bs' from_ n E e w' := by
  unfold OpenPost at *
  rw [if_neg hE] at *
  exact h
theorem rwopen_any {w : World} {T : Nat → Prop} {A : Option Addr} {nl c : Nat} {d : DM} (h : Strs w T A nl c d.l) (ok : d.Ok) (hn : nl ≤ 1000000) (from_ n : Int) :
    Calls Try.prog 13 #[.agg (dmV d A nl c), .int .i64 from_, .int .i64 n] w fun e w' => OpenPost w (blocksOf d.l from_ n) from_ n (openErr nl d.down from_ n) e w' := by
  by_cases h1 : from_ < 0
  · rw [openErr, if_pos (.inl h1)]
    exact (rwopen_a from_ n h1).mono fun e w' hp => open_err (by decide) hp
  · by_cases h2 : n < 1
    · rw [openErr, if_pos (.inr (.inl h2))]
      exact (rwopen_b from_ n h1 h2).mono fun e w' hp => open_err (by decide) hp
    · by_cases h3 : (nl : Int) < from_
      · rw [openErr, if_pos (.inr (.inr (.inl h3)))]
        exact (rwopen_c from_ n h1 h2 h3).mono fun e w' hp => open_err (by decide) hp
      · by_cases h4 : (nl : Int) - from_ < n
        · rw [openErr, if_pos (.inr (.inr (.inr h4)))]
          exact (rwopen_d hn from_ n h1 h2 h3 h4).mono fun e w' hp => open_err (by decide) hp
        · rw [openErr, if_neg (by omega)]
          cases h5 : d.down with
          | true =>
            rw [if_pos rfl]
            exact (rwopen_e hn from_ n h1 h2 h3 h4 h5).mono fun e w' hp => open_err (by decide) hp
          | false =>
            obtain ⟨f, rfl⟩ := Int.eq_ofNat_of_zero_le (show 0 ≤ from_ by omega)
            obtain ⟨k, rfl⟩ := Int.eq_ofNat_of_zero_le (show 0 ≤ n by omega)
            rw [if_neg (by simp)]
            exact rwopen_run h ok hn f k (by omega) (by omega) h5

def BeginPost (w : World) (M : LM) (from_ n : Int) (least : Nat) (E : Int) (e : Ending) (w' : World) : Prop :=
  e = .returned (.tuple #[.agg (lmV (if E = 0 then beginM M from_ n least else lm0) none 0 0), .int .i64 E]) ∧ Below w.heap.size w w'
set_option maxHeartbeats 4000000 in
set_option maxRecDepth 100000 in
theorem rwbegin_any {w : World} {T : Nat → Prop} {A : Option Addr} {nl c : Nat} {d : DM} (h : Strs w T A nl c d.l) (ok : d.Ok) (hn : nl ≤ 1000000) (from_ n : Int) (least : Nat) :
    Calls Try.prog 21 #[.agg (dmV d A nl c), .int .i64 from_, .int .i64 n, .int .u64 (least : Int)] w fun e w' => BeginPost w (openM (blocksOf d.l from_ n) from_ n) from_ n least (openErr nl d.down from_ n) e w' := by
  have hz := zero_lm
  obtain ⟨ZV, hZV⟩ : ∃ ZV, ZV = lmV lm0 none 0 0 := ⟨_, rfl⟩
  rw [← hZV] at hz
  obtain ⟨DV, hDV⟩ : ∃ DV, DV = dmV d A nl c := ⟨_, rfl⟩
  rw [← hDV]
  obtain ⟨E, hE⟩ : ∃ E, E = openErr nl d.down from_ n := ⟨_, rfl⟩
  obtain ⟨M, hM⟩ : ∃ M, M = openM (blocksOf d.l from_ n) from_ n := ⟨_, rfl⟩
  have hop := fun (W : World) (hb : Below w.heap.size w W) => rwopen_any (w := W) (h.below hb) ok hn from_ n
  rw [← hE] at hop ⊢
  rw [← hDV] at hop
  rw [← hM]
  have hd0 := heap_alloc_new w (.cells DV 31)
  have hd1 := (heap_alloc_old (w.alloc (.cells DV 31)) (.cells ZV 38) (lt_of_cells hd0)).trans hd0
  have hz1 := heap_alloc_new (w.alloc (.cells DV 31)) (.cells ZV 38)
  rw [World.size_alloc] at hz1
  have hb1 := below_two w (.cells DV 31) (.cells ZV 38)
  have hsz2 : ((w.alloc (.cells DV 31)).alloc (.cells ZV 38)).heap.size = w.heap.size + 2 := by simp
  have HV := Lib.hid (And.intro hZV hDV)
  clear hZV hDV hd0
  go_enter Try.func21, Try.ntmps21
  go_upto_region 1 with fail
  generalize (w.alloc (.cells DV 31)).alloc (.cells ZV 38) = w2 at *
  have hoq := hop w2 hb1
  unfold OpenPost at hoq
  rw [← hM] at hoq
  have H2 := Lib.hid (And.intro hd1 (And.intro hz1 (And.intro hb1 hsz2)))
  have HM := Lib.hid hM
  clear hop hd1 hz1 hb1 hE hM h ok
  obtain ⟨R, hR⟩ : ∃ R, R = (if E = 0 then M else lm0) := ⟨_, rfl⟩
  rw [← hR] at hoq
  have HR := Lib.hid hR
  clear hR
  have hld : w2.heap[w.heap.size]? = some (.cells DV 31 (0, 0)) := H2.out.1
  have HLD := Lib.hid hld
  clear hld
  go_upto_region 2 with (first
    | (refine wpList_load_row (by rfl) 31 (.tmp 4) (by rfl) w.heap.size (by rfl) 31 DV (0, 0) _ HLD.out Try.underlying31 (by rfl) (by rw [HV.out.2]; exact dm_info) ?_)
    | (go_at_call 13; refine hoq.mono ?_; clear hoq; rintro _ w3 ⟨A1, k1, c1, rfl, hs3, hb3⟩; obtain ⟨RV, hRV⟩ : ∃ RV, RV = lmV R A1 k1 c1 := ⟨_, rfl⟩; rw [← hRV]; have H3 := Lib.hid (And.intro hb3 hRV); clear hs3 hb3 hRV)
    | (refine wpList_store_row (by rfl) 38 (.tmp 10) (.tmp 18) (by rfl) w3.heap.size RV (by rfl) (by rfl) 38 ZV (heap_alloc_new w3 _) (by rw [H3.out.2]; exact lm_info) (by rw [H3.out.2, HV.out.1]; rfl) (by rw [H3.out.2]; exact lm_one _ _ _ _) ?_))
  have hb4 : Below w.heap.size w ((w3.alloc (.cells ZV 38)).setRow w3.heap.size RV) := below_setRow ((H2.out.2.2.1.trans (H3.out.1.mono H2.out.2.2.1.size)).alloc (by have h1 := H2.out.2.2.1.size; have h2 := H3.out.1.size; omega) _) (by have h1 := H2.out.2.2.1.size; have h2 := H3.out.1.size; omega) _
  have hz4 : ((w3.alloc (.cells ZV 38)).setRow w3.heap.size RV).heap[w.heap.size + 1]? = some (.cells ZV 38 (0, 0)) := by
    have h1 := H2.out.2.2.2
    have h2 := H3.out.1.size
    rw [setRow_ne _ _ _ _ (by omega)]
    exact (heap_alloc_old _ _ (by omega)).trans ((H3.out.1.block _ (by omega)).trans H2.out.2.1)
  have hr4 : ((w3.alloc (.cells ZV 38)).setRow w3.heap.size RV).heap[w3.heap.size]? = some (.cells RV 38 (0, 0)) := setRow_at (heap_alloc_new w3 _)
  have hs4 : ((w3.alloc (.cells ZV 38)).setRow w3.heap.size RV).heap.size = w3.heap.size + 1 := by simp [World.setRow]
  have H4 := Lib.hid (And.intro hb4 (And.intro hz4 (And.intro hr4 hs4)))
  have HS3 := Lib.hid (show w.heap.size + 2 ≤ w3.heap.size by have h1 := H2.out.2.2.2; have h2 := H3.out.1.size; omega)
  clear hb4 hz4 hr4 hs4
  generalize (w3.alloc (.cells ZV 38)).setRow w3.heap.size RV = w4 at *
  generalize w3.heap.size = p3 at *
  by_cases hE0 : E = 0
  · have HRM : Hid (R = M) := Lib.hid (by rw [HR.out, if_pos hE0])
    subst hE0
    have hc3 : w4.cell? ⟨p3, 3, none⟩ = some (.int .u64 (M.next : Int)) := by rw [cell_of_cells H4.out.2.2.1, H3.out.2, HRM.out]; rfl
    clear hz HR
    go_upto_region 5 with fail
    have hb5 := H4.out.1.alloc H4.out.1.size (.cells #[.int .i64 from_, .int .i64 n, .int .u64 0, .int .u64 (M.next : Int), .int .i64 0, .slice none 0 0, .int .i64 0] 38)
    have hz5 := (heap_alloc_old w4 (.cells #[.int .i64 from_, .int .i64 n, .int .u64 0, .int .u64 (M.next : Int), .int .i64 0, .slice none 0 0, .int .i64 0] 38) (lt_of_cells H4.out.2.1)).trans H4.out.2.1
    have hr5 := (heap_alloc_old w4 (.cells #[.int .i64 from_, .int .i64 n, .int .u64 0, .int .u64 (M.next : Int), .int .i64 0, .slice none 0 0, .int .i64 0] 38) (lt_of_cells H4.out.2.2.1)).trans H4.out.2.2.1
    have hn5 := heap_alloc_new w4 (.cells #[.int .i64 from_, .int .i64 n, .int .u64 0, .int .u64 (M.next : Int), .int .i64 0, .slice none 0 0, .int .i64 0] 38)
    have hp4 : w.heap.size + 2 ≤ w4.heap.size := by have := HS3.out; have := H4.out.2.2.2; omega
    clear hc3
    generalize w4.alloc (.cells #[.int .i64 from_, .int .i64 n, .int .u64 0, .int .u64 (M.next : Int), .int .i64 0, .slice none 0 0, .int .i64 0] 38) = w5 at *
    generalize w4.heap.size = p4 at *
    have hc3 : w5.cell? ⟨p3, 3, none⟩ = some (.int .u64 (M.next : Int)) := by rw [cell_of_cells hr5, H3.out.2, HRM.out]; rfl
    have hc4 : w5.cell? ⟨p4, 3, none⟩ = some (.int .u64 (M.next : Int)) := cell_of_cells hn5 3
    have hf4 := free_of_cells hn5 3
    have H5 := Lib.hid (And.intro hb5 (And.intro hz5 (And.intro hn5 hp4)))
    clear hb5 hz5 hr5 hn5 hp4
    by_cases hg : 0 < M.next ∧ M.next < least
    · have hq1 : (0 : Int) < (M.next : Int) := by omega
      have hq2 : (M.next : Int) < (least : Int) := by omega
      have hb6 := H5.out.1.setCell (p := ⟨p4, 3, none⟩) (by show w.heap.size ≤ p4; have := H5.out.2.2.2; omega) (.int .u64 (least : Int))
      have hz6 := (Below.heap_setCell w5 ⟨p4, 3, none⟩ (.int .u64 (least : Int)) (w.heap.size + 1) (by have := H5.out.2.2.2; show w.heap.size + 1 ≠ p4; omega)).trans H5.out.2.1
      have hn6 := set_of_cells H5.out.2.2.1 3 (.int .u64 (least : Int))
      obtain ⟨NV, hNV⟩ : ∃ NV, NV = lmV ⟨from_, n, 0, least, 0, [], 0⟩ none 0 0 := ⟨_, rfl⟩
      have hn6' : (w5.setCell ⟨p4, 3, none⟩ (.int .u64 (least : Int))).heap[p4]? = some (.cells NV 38 (0, 0)) := by rw [hn6, hNV]; rfl
      have H6 := Lib.hid (And.intro hb6 (And.intro hz6 (And.intro hn6' hNV)))
      have HB := Lib.hid (show beginM M from_ n least = ⟨from_, n, 0, least, 0, [], 0⟩ by rw [beginM, if_pos hg])
      clear hb6 hz6 hn6 hn6' hNV hg
      go_wp2_with (first
        | (refine wpList_load_row (by rfl) 38 (.tmp 12) (by rfl) p4 (by rfl) 38 NV (0, 0) _ H6.out.2.2.1 Try.underlying38 (by rfl) (by rw [H6.out.2.2.2]; exact lm_info) ?_)
        | (refine wpList_store_row (by rfl) 38 (.tmp 8) (.tmp 40) (by rfl) (w.heap.size + 1) NV (by rfl) (by rfl) 38 ZV H6.out.2.1 (by rw [H6.out.2.2.2]; exact lm_info) (by rw [H6.out.2.2.2, HV.out.1]; rfl) (by rw [H6.out.2.2.2]; exact lm_one _ _ _ _) ?_))
      (try simp only [Exit.inBlock, Exit.then])
      refine bodyPost_ret (lm_result (p := 8) (u := 9) rfl _ _ (w.heap.size + 1) NV rfl (setRow_at H6.out.2.1) (by rw [H6.out.2.2.2]; rfl)) rfl ?_
      exact (show BeginPost w M from_ n least 0 _ _ from ⟨by rw [show (if (0 : Int) = 0 then beginM M from_ n least else lm0) = beginM M from_ n least from if_pos rfl, HB.out, H6.out.2.2.2]; rfl, below_setRow H6.out.1 (by omega) _⟩)
    · obtain ⟨NV, hNV⟩ : ∃ NV, NV = lmV ⟨from_, n, 0, M.next, 0, [], 0⟩ none 0 0 := ⟨_, rfl⟩
      have hn6' : w5.heap[p4]? = some (.cells NV 38 (0, 0)) := by rw [H5.out.2.2.1, hNV]; rfl
      have H6 := Lib.hid (And.intro hn6' hNV)
      have HB := Lib.hid (show beginM M from_ n least = ⟨from_, n, 0, M.next, 0, [], 0⟩ by rw [beginM, if_neg hg])
      clear hn6' hNV
      by_cases hq : 0 < M.next
      · have hq1 : (0 : Int) < (M.next : Int) := by omega
        have hq2 : ¬ (M.next : Int) < (least : Int) := by omega
        clear hg hq
        go_wp2_with (first
          | (refine wpList_load_row (by rfl) 38 (.tmp 12) (by rfl) p4 (by rfl) 38 NV (0, 0) _ H6.out.1 Try.underlying38 (by rfl) (by rw [H6.out.2]; exact lm_info) ?_)
          | (refine wpList_store_row (by rfl) 38 (.tmp 8) (.tmp 40) (by rfl) (w.heap.size + 1) NV (by rfl) (by rfl) 38 ZV H5.out.2.1 (by rw [H6.out.2]; exact lm_info) (by rw [H6.out.2, HV.out.1]; rfl) (by rw [H6.out.2]; exact lm_one _ _ _ _) ?_))
        (try simp only [Exit.inBlock, Exit.then])
        refine bodyPost_ret (lm_result (p := 8) (u := 9) rfl _ _ (w.heap.size + 1) NV rfl (setRow_at H5.out.2.1) (by rw [H6.out.2]; rfl)) rfl ?_
        exact (show BeginPost w M from_ n least 0 _ _ from ⟨by rw [show (if (0 : Int) = 0 then beginM M from_ n least else lm0) = beginM M from_ n least from if_pos rfl, HB.out, H6.out.2]; rfl, below_setRow H5.out.1 (by omega) _⟩)
      · have hq1 : ¬ (0 : Int) < (M.next : Int) := by omega
        clear hg hq
        go_wp2_with (first
          | (refine wpList_load_row (by rfl) 38 (.tmp 12) (by rfl) p4 (by rfl) 38 NV (0, 0) _ H6.out.1 Try.underlying38 (by rfl) (by rw [H6.out.2]; exact lm_info) ?_)
          | (refine wpList_store_row (by rfl) 38 (.tmp 8) (.tmp 40) (by rfl) (w.heap.size + 1) NV (by rfl) (by rfl) 38 ZV H5.out.2.1 (by rw [H6.out.2]; exact lm_info) (by rw [H6.out.2, HV.out.1]; rfl) (by rw [H6.out.2]; exact lm_one _ _ _ _) ?_))
        (try simp only [Exit.inBlock, Exit.then])
        refine bodyPost_ret (lm_result (p := 8) (u := 9) rfl _ _ (w.heap.size + 1) NV rfl (setRow_at H5.out.2.1) (by rw [H6.out.2]; rfl)) rfl ?_
        exact (show BeginPost w M from_ n least 0 _ _ from ⟨by rw [show (if (0 : Int) = 0 then beginM M from_ n least else lm0) = beginM M from_ n least from if_pos rfl, HB.out, H6.out.2]; rfl, below_setRow H5.out.1 (by omega) _⟩)
  · have hE1 : (E != 0) = true := by simpa using hE0
    have HE0 := Lib.hid hE0
    clear hE0
    go_wp2_with (refine wpList_store_row (by rfl) 38 (.tmp 8) (.tmp 22) (by rfl) (w.heap.size + 1) ZV (by rfl) (by rfl) 38 ZV H4.out.2.1 (by rw [HV.out.1]; exact lm_info) rfl (by rw [HV.out.1]; exact lm_one _ _ _ _) ?_)
    (try simp only [Exit.inBlock, Exit.then])
    refine bodyPost_ret (lm_result (p := 8) (u := 9) rfl _ _ (w.heap.size + 1) ZV rfl (setRow_at H4.out.2.1) (by rw [HV.out.1]; rfl)) rfl ?_
    exact (show BeginPost w M from_ n least E _ _ from ⟨by rw [if_neg HE0.out, HV.out.1]; rfl, below_setRow H4.out.1 (by omega) _⟩)
end Go.Proofs.Ytkhbmgmppoepjaa
