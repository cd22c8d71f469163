/-
  The reference's Write.
  The reference's New; bytes out of a seed.
-/
import Derived.Test.YtcgnaomffioldaaGreatPk05
import Derived.Test.YtcgnaomffioldaaGreatPk03
import Derived.Test.YtcgnaomffioldaaGreatPk02
/-! The reference's Write. -/
namespace Go.Proofs.YtcgnaomffioldaaGreat
open Go.RowKit

theorem dm_result2 {fn : Func} {p u : Tmp} (h : fn.results = #[.cell p 30, .tmp u]) (tmps : Array Value) (w : World) (g : Nat) (v1 v2 v3 v4 : Value) (hp : tmps.getD p undef = .pointer (some ⟨g, 0, none⟩)) (hg : w.heap[g]? = some (.cells #[v1, v2, v3, v4] 30 (0, 0))) :
    (results fn tmps).run Tryz.prog w = .ok (.tuple #[.agg #[v1, v2, v3, v4], tmps.getD u undef]) w := by
  rw [results_cell_tmp h tmps]
  have hp' : tmps[p]?.getD undef = .pointer (some ⟨g, 0, none⟩) := by simpa using hp
  simp [hp', asAddr, Result.andThen, run_loadVar_row w g 30 30 #[v1, v2, v3, v4] (0, 0) _ hg Tryz.underlying30 rfl dm_info]

theorem dm_one (A : Option Addr) (n c : Nat) (x y : Int) (z : Bool) : (#[Value.slice A n c, .int .i64 x, .int .i64 y, .bool z] : Array Value).all (·.oneCell') = true := by simp [Value.oneCell']
set_option maxHeartbeats 4000000 in
theorem rbwrite_stay {w : World} {S : Nat → Prop} {A : Option Addr} {n c : Nat} {d : DM} (h : Strs w S A n c d.l) (i : Int) (b : List UInt8) (he : (readM d i).2 ≠ 0 ∨ b.length ≠ 128) :
    Calls Tryz.prog 17 #[.agg (dmV d A n c), .int .i64 i, .string (st b)] w fun e w' => e = .returned (.tuple #[.agg (dmV d A n c), .int .i64 (if (readM d i).2 = 0 then 1 else (readM d i).2)]) ∧ Below w.heap.size w w' := by
  have hrd := rbread_any (h.below (below_two w (.cells (dmV d A n c) 30) (.cells #[.slice none 0 0, .int .i64 0, .int .i64 0, .bool false] 30))) i
  have hbs := st_size b
  have hz := zero_dm
  obtain ⟨l, left, tn, down⟩ := d
  obtain ⟨V, hV⟩ : ∃ V, V = (readM ⟨l, left, tn, down⟩ i).2 := ⟨_, rfl⟩
  obtain ⟨X, hX⟩ : ∃ X, X = (readM ⟨l, left, tn, down⟩ i).1 := ⟨_, rfl⟩
  rw [← hV, ← hX] at hrd
  rw [← hV] at he ⊢
  have hb2 := below_two w (.cells #[.slice A n c, .int .i64 left, .int .i64 tn, .bool down] 30) (.cells #[.slice none 0 0, .int .i64 0, .int .i64 0, .bool false] 30)
  have HB := Lib.hid hb2
  unfold dmV at *
  clear hV hX h hb2
  have HPRE : ∀ w1, Below ((w.alloc (.cells #[.slice A n c, .int .i64 left, .int .i64 tn, .bool down] 30)).alloc (.cells #[.slice none 0 0, .int .i64 0, .int .i64 0, .bool false] 30)).heap.size ((w.alloc (.cells #[.slice A n c, .int .i64 left, .int .i64 tn, .bool down] 30)).alloc (.cells #[.slice none 0 0, .int .i64 0, .int .i64 0, .bool false] 30)) w1 → Hid (Below w.heap.size w w1 ∧ w1.heap[w.heap.size]? = some (.cells #[.slice A n c, .int .i64 left, .int .i64 tn, .bool down] 30 (0, 0)) ∧ w1.heap[w.heap.size + 1]? = some (.cells #[.slice none 0 0, .int .i64 0, .int .i64 0, .bool false] 30 (0, 0))) := fun w1 hb => by
    have h1 := heap_alloc_new w (.cells #[.slice A n c, .int .i64 left, .int .i64 tn, .bool down] 30)
    have h2 := heap_alloc_new (w.alloc (.cells #[.slice A n c, .int .i64 left, .int .i64 tn, .bool down] 30)) (.cells #[.slice none 0 0, .int .i64 0, .int .i64 0, .bool false] 30)
    rw [World.size_alloc] at h2
    exact Lib.hid ⟨HB.out.trans (hb.mono HB.out.size), (hb.block _ (by simp <;> omega)).trans ((Below.heap_alloc _ _ _ (by simp)).trans h1), (hb.block _ (by simp)).trans h2⟩
  by_cases hv : V = 0
  · have hlb : b.length ≠ 128 := he.resolve_left (fun h => h hv)
    subst hv
    have hlb' : ((b.length : Int) != 128) = true := by simp; omega
    clear he hlb
    go_enter Tryz.func17, Tryz.ntmps17
    go_wp2_with (first
      | (go_at_call 45; refine hrd.mono ?_; clear hrd; rintro _ w1 ⟨rfl, hb1⟩; have H1 := HPRE w1 hb1; clear hb1)
      | (refine wpList_load_row (by rfl) 30 (.tmp 3) (by rfl) w.heap.size (by rfl) 30 #[.slice A n c, .int .i64 left, .int .i64 tn, .bool down] (0, 0) _ H1.out.2.1 Tryz.underlying30 (by rfl) dm_info ?_)
      | (refine wpList_store_row (by rfl) 30 (.tmp 6) (.tmp 24) (by rfl) (w.heap.size + 1) #[.slice A n c, .int .i64 left, .int .i64 tn, .bool down] (by rfl) (by rfl) 30 _ H1.out.2.2 dm_info rfl (dm_one _ _ _ _ _ _) ?_))
    (try simp only [Exit.inBlock, Exit.then])
    refine bodyPost_ret (dm_result2 (p := 6) (u := 7) rfl _ _ (w.heap.size + 1) (.slice A n c) (.int .i64 left) (.int .i64 tn) (.bool down) rfl (setRow_at H1.out.2.2)) rfl ?_
    exact ⟨rfl, below_setRow H1.out.1 (by omega) _⟩
  · have hv' : (V != 0) = true := by simpa using hv
    rw [if_neg hv]
    clear he hv
    go_enter Tryz.func17, Tryz.ntmps17
    go_wp2_with (first
      | (go_at_call 45; refine hrd.mono ?_; clear hrd; rintro _ w1 ⟨rfl, hb1⟩; have H1 := HPRE w1 hb1; clear hb1)
      | (refine wpList_load_row (by rfl) 30 (.tmp 3) (by rfl) w.heap.size (by rfl) 30 #[.slice A n c, .int .i64 left, .int .i64 tn, .bool down] (0, 0) _ H1.out.2.1 Tryz.underlying30 (by rfl) dm_info ?_)
      | (refine wpList_store_row (by rfl) 30 (.tmp 6) (.tmp 19) (by rfl) (w.heap.size + 1) #[.slice A n c, .int .i64 left, .int .i64 tn, .bool down] (by rfl) (by rfl) 30 _ H1.out.2.2 dm_info rfl (dm_one _ _ _ _ _ _) ?_))
    (try simp only [Exit.inBlock, Exit.then])
    refine bodyPost_ret (dm_result2 (p := 6) (u := 7) rfl _ _ (w.heap.size + 1) (.slice A n c) (.int .i64 left) (.int .i64 tn) (.bool down) rfl (setRow_at H1.out.2.2)) rfl ?_
    exact ⟨rfl, below_setRow H1.out.1 (by omega) _⟩

set_option maxHeartbeats 4000000 in
theorem rbwrite_done {w : World} {S : Nat → Prop} {A : Option Addr} {n c : Nat} {l : List (List UInt8)} {left tn : Int} (h : Strs w S A n c l) (hn : n ≤ 1000000) (i : Nat) (hi : i < n) (b : List UInt8) (hb : b.length = 128) (hl : left ≠ 0) (hl2 : -9223372036854775808 ≤ left ∧ left ≤ 9223372036854775807) :
    Calls Tryz.prog 17 #[.agg #[.slice A n c, .int .i64 left, .int .i64 tn, .bool false], .int .i64 (i : Int), .string (st b)] w fun e w' => ∃ A' c', e = .returned (.tuple #[.agg #[.slice A' n c', .int .i64 (if 0 < left then left - 1 else left), .int .i64 tn, .bool false], .int .i64 0]) ∧ Strs w' (w.heap.size ≤ ·) A' n c' (l.set i b) ∧ Below w.heap.size w w' := by
  have hrd := rbread_any (d := ⟨l, left, tn, false⟩) (h.below (below_two w (.cells #[.slice A n c, .int .i64 left, .int .i64 tn, .bool false] 30) (.cells #[.slice none 0 0, .int .i64 0, .int .i64 0, .bool false] 30))) (i : Int)
  have hlen := h.len
  have hrm : (readM ⟨l, left, tn, false⟩ (i : Int)) = (l[i]?.getD [], 0) := by simp [readM, hlen]; omega
  rw [hrm] at hrd
  have hbs := st_size b
  rw [hb] at hbs
  have hz := zero_dm
  have hb2 := below_two w (.cells #[.slice A n c, .int .i64 left, .int .i64 tn, .bool false] 30) (.cells #[.slice none 0 0, .int .i64 0, .int .i64 0, .bool false] 30)
  have HB := Lib.hid (And.intro hb2 (And.intro h (And.intro hi (And.intro hn hlen))))
  have HPRE : ∀ w1, Below ((w.alloc (.cells #[.slice A n c, .int .i64 left, .int .i64 tn, .bool false] 30)).alloc (.cells #[.slice none 0 0, .int .i64 0, .int .i64 0, .bool false] 30)).heap.size ((w.alloc (.cells #[.slice A n c, .int .i64 left, .int .i64 tn, .bool false] 30)).alloc (.cells #[.slice none 0 0, .int .i64 0, .int .i64 0, .bool false] 30)) w1 → Hid (Below w.heap.size w w1 ∧ w1.heap[w.heap.size]? = some (.cells #[.slice A n c, .int .i64 left, .int .i64 tn, .bool false] 30 (0, 0)) ∧ w1.heap[w.heap.size + 1]? = some (.cells #[.slice none 0 0, .int .i64 0, .int .i64 0, .bool false] 30 (0, 0))) := fun w1 hb => by
    have h1 := heap_alloc_new w (.cells #[.slice A n c, .int .i64 left, .int .i64 tn, .bool false] 30)
    have h2 := heap_alloc_new (w.alloc (.cells #[.slice A n c, .int .i64 left, .int .i64 tn, .bool false] 30)) (.cells #[.slice none 0 0, .int .i64 0, .int .i64 0, .bool false] 30)
    rw [World.size_alloc] at h2
    exact Lib.hid ⟨HB.out.1.trans (hb.mono HB.out.1.size), (hb.block _ (by simp <;> omega)).trans ((Below.heap_alloc _ _ _ (by simp)).trans h1), (hb.block _ (by simp)).trans h2⟩
  have hl0 : (left == 0) = false := by simpa using hl
  obtain ⟨LF, hLF⟩ : ∃ LF, LF = if 0 < left then left - 1 else left := ⟨_, rfl⟩
  rw [← hLF]
  have HLF := Lib.hid hLF
  clear hLF
  generalize l[i]?.getD [] = X at hrd
  clear hrm hb2 h hlen hb
  go_enter Tryz.func17, Tryz.ntmps17
  go_upto_region 13 with (first
    | (go_at_call 45; refine hrd.mono ?_; clear hrd; rintro _ w1 ⟨rfl, hb1⟩; have H1 := HPRE w1 hb1; clear hb1 HPRE
       obtain ⟨g, c', w2, hrun, hown, hb12⟩ := append_strs (HB.out.2.1.below H1.out.1) (by omega) HB.out.2.2.2.1 28
       have H2 := Lib.hid (And.intro (H1.out.1.trans (hb12.mono H1.out.1.size)) (And.intro ((hb12.block _ (lt_of_cells H1.out.2.1)).trans H1.out.2.1) (And.intro ((hb12.block _ (lt_of_cells H1.out.2.2)).trans H1.out.2.2) (And.intro hown (lt_of_cells H1.out.2.2)))))
       have hq0 : w1.cell? ⟨w.heap.size, 0, none⟩ = some (.slice A n c) := cell_of_cells H1.out.2.1 0
       have hq1 : w2.cell? ⟨w.heap.size, 1, none⟩ = some (.int .i64 left) := cell_of_cells H2.out.2.1 1
       clear hown hb12)
    | (at_builtin; refine wpList_app (by rfl) _ _ 28 (by rfl) (by rfl) (by rfl) hrun ?_; clear hrun))
  have hown := H2.out.2.2.2.1
  have hgl := (hown.lt g rfl).1
  have hgs := (hown.lt g rfl).2
  have hcg : w2.cell? ⟨g, i, none⟩ = some (.string (st (l[i]?.getD []))) := by
    have h1 := HB.out.2.2.1
    have h2 := HB.out.2.2.2.2
    rw [hown.cellAt i (by omega), strs, List.getElem?_map, List.getElem?_eq_getElem (by omega)]
    rfl
  have hfg : w2.frozen? ⟨g, i, none⟩ = false := hown.frozenAt i
  have hin : (i : Int) < (n : Int) := by have := HB.out.2.2.1; omega
  have hst := (hown.stored i (.string (st b))).1
  rw [strs_set] at hst
  have hlq := H2.out.2.2.2.2
  have H3 := Lib.hid (And.intro (H2.out.1.setCell (p := ⟨g, i, none⟩) (show w.heap.size ≤ g by omega) (.string (st b))) (And.intro ((Below.heap_setCell w2 ⟨g, i, none⟩ (.string (st b)) w.heap.size (show w.heap.size ≠ g by omega)).trans H2.out.2.1) (And.intro ((Below.heap_setCell w2 ⟨g, i, none⟩ (.string (st b)) (w.heap.size + 1) (show w.heap.size + 1 ≠ g by omega)).trans H2.out.2.2.1) hst)))
  clear hown hst hq0 hq1
  go_upto_region 14 with fail
  clear hcg hfg
  generalize w2.setCell ⟨g, i, none⟩ (.string (st b)) = w3 at H3 ⊢
  have hq0 : w3.cell? ⟨w.heap.size, 0, none⟩ = some (.slice A n c) := cell_of_cells H3.out.2.1 0
  have hf0 : w3.frozen? ⟨w.heap.size, 0, none⟩ = false := free_of_cells H3.out.2.1 0
  have hgq : w.heap.size + 1 < g := by have := H2.out.2.2.2.2; omega
  have H4 := Lib.hid (And.intro (H3.out.1.setCell (p := ⟨w.heap.size, 0, none⟩) (Nat.le_refl _) (.slice (some ⟨g, 0, none⟩) n c')) (And.intro (set_of_cells H3.out.2.1 0 (.slice (some ⟨g, 0, none⟩) n c')) (And.intro ((Below.heap_setCell w3 ⟨w.heap.size, 0, none⟩ (.slice (some ⟨g, 0, none⟩) n c') (w.heap.size + 1) (show w.heap.size + 1 ≠ w.heap.size by omega)).trans H3.out.2.2.1) (ownsRow_setCell_other H3.out.2.2.2 (a := ⟨w.heap.size, 0, none⟩) (by simp [Value.ownBlock]; omega) (.slice (some ⟨g, 0, none⟩) n c')))))
  go_upto_region 15 with fail
  clear hq0 hf0
  generalize w3.setCell ⟨w.heap.size, 0, none⟩ (.slice (some ⟨g, 0, none⟩) n c') = w4 at H4 ⊢
  have hx4 : w4.heap[w.heap.size]? = some (.cells #[.slice (some ⟨g, 0, none⟩) n c', .int .i64 left, .int .i64 tn, .bool false] 30 (0, 0)) := H4.out.2.1
  have hq1 : w4.cell? ⟨w.heap.size, 1, none⟩ = some (.int .i64 left) := cell_of_cells hx4 1
  have hf1 : w4.frozen? ⟨w.heap.size, 1, none⟩ = false := free_of_cells hx4 1
  have HX4 := Lib.hid hx4
  clear hx4
  by_cases hp : 0 < left
  · have HF : Hid (LF = left - 1) := Lib.hid (by rw [HLF.out, if_pos hp])
    have hw := IntWalk.i64_in (left - 1) (by omega)
    have H5 := Lib.hid (And.intro (H4.out.1.setCell (p := ⟨w.heap.size, 1, none⟩) (Nat.le_refl _) (.int .i64 (left - 1))) (And.intro (set_of_cells HX4.out 1 (.int .i64 (left - 1))) (And.intro ((Below.heap_setCell w4 ⟨w.heap.size, 1, none⟩ (.int .i64 (left - 1)) (w.heap.size + 1) (show w.heap.size + 1 ≠ w.heap.size by omega)).trans H4.out.2.2.1) (ownsRow_setCell_other H4.out.2.2.2 (a := ⟨w.heap.size, 1, none⟩) (by simp [Value.ownBlock]; omega) (.int .i64 (left - 1))))))
    go_upto_region 17 with fail
    clear hq1 hf1 hw
    generalize w4.setCell ⟨w.heap.size, 1, none⟩ (.int .i64 (left - 1)) = w5 at H5 ⊢
    have HX5 : Hid (w5.heap[w.heap.size]? = some (.cells #[.slice (some ⟨g, 0, none⟩) n c', .int .i64 (left - 1), .int .i64 tn, .bool false] 30 (0, 0))) := Lib.hid H5.out.2.1
    go_wp2_with (first
      | (refine wpList_load_row (by rfl) 30 (.tmp 3) (by rfl) w.heap.size (by rfl) 30 #[.slice (some ⟨g, 0, none⟩) n c', .int .i64 (left - 1), .int .i64 tn, .bool false] (0, 0) _ HX5.out Tryz.underlying30 (by rfl) dm_info ?_)
      | (refine wpList_store_row (by rfl) 30 (.tmp 6) (.tmp 61) (by rfl) (w.heap.size + 1) #[.slice (some ⟨g, 0, none⟩) n c', .int .i64 (left - 1), .int .i64 tn, .bool false] (by rfl) (by rfl) 30 _ H5.out.2.2.1 dm_info rfl (dm_one _ _ _ _ _ _) ?_))
    (try simp only [Exit.inBlock, Exit.then])
    refine bodyPost_ret (dm_result2 (p := 6) (u := 7) rfl _ _ (w.heap.size + 1) (.slice (some ⟨g, 0, none⟩) n c') (.int .i64 (left - 1)) (.int .i64 tn) (.bool false) rfl (setRow_at H5.out.2.2.1)) rfl ?_
    obtain ⟨A', c2, hv, hs⟩ := own_strs H5.out.2.2.2
    injection hv with e1 e2 e3
    subst e1 e3
    refine ⟨_, _, by rw [HF.out]; rfl, ?_, below_setRow H5.out.1 (by omega) _⟩
    exact (hs.turned (turned_setRow _) (fun k _ h1 h2 => by have := H2.out.2.2.2.2; omega)).mono fun k _ h1 => by have := H1.out.1.size; omega
  · have HF : Hid (LF = left) := Lib.hid (by rw [HLF.out, if_neg hp])
    go_wp2_with (first
      | (refine wpList_load_row (by rfl) 30 (.tmp 3) (by rfl) w.heap.size (by rfl) 30 #[.slice (some ⟨g, 0, none⟩) n c', .int .i64 left, .int .i64 tn, .bool false] (0, 0) _ HX4.out Tryz.underlying30 (by rfl) dm_info ?_)
      | (refine wpList_store_row (by rfl) 30 (.tmp 6) (.tmp 61) (by rfl) (w.heap.size + 1) #[.slice (some ⟨g, 0, none⟩) n c', .int .i64 left, .int .i64 tn, .bool false] (by rfl) (by rfl) 30 _ H4.out.2.2.1 dm_info rfl (dm_one _ _ _ _ _ _) ?_))
    (try simp only [Exit.inBlock, Exit.then])
    refine bodyPost_ret (dm_result2 (p := 6) (u := 7) rfl _ _ (w.heap.size + 1) (.slice (some ⟨g, 0, none⟩) n c') (.int .i64 left) (.int .i64 tn) (.bool false) rfl (setRow_at H4.out.2.2.1)) rfl ?_
    obtain ⟨A', c2, hv, hs⟩ := own_strs H4.out.2.2.2
    injection hv with e1 e2 e3
    subst e1 e3
    refine ⟨_, _, by rw [HF.out]; rfl, ?_, below_setRow H4.out.1 (by omega) _⟩
    exact (hs.turned (turned_setRow _) (fun k _ h1 h2 => by have := H2.out.2.2.2.2; omega)).mono fun k _ h1 => by have := H1.out.1.size; omega
set_option maxHeartbeats 4000000 in
theorem rbwrite_torn {w : World} {S : Nat → Prop} {A : Option Addr} {n c : Nat} {l : List (List UInt8)} {t : Nat} (h : Strs w S A n c l) (hn : n ≤ 1000000) (i : Nat) (hi : i < n) (b : List UInt8) (hb : b.length = 128) (hx : (l[i]?.getD []).length = 128) (ht : t ≤ 128) :
    Calls Tryz.prog 17 #[.agg #[.slice A n c, .int .i64 0, .int .i64 (t : Int), .bool false], .int .i64 (i : Int), .string (st b)] w fun e w' => ∃ A' c', e = .returned (.tuple #[.agg #[.slice A' n c', .int .i64 0, .int .i64 (t : Int), .bool true], .int .i64 30]) ∧ Strs w' (w.heap.size ≤ ·) A' n c' (l.set i (b.take t ++ (l[i]?.getD []).drop t)) ∧ Below w.heap.size w w' := by
  have hrd := rbread_any (d := ⟨l, 0, (t : Int), false⟩) (h.below (below_two w (.cells #[.slice A n c, .int .i64 0, .int .i64 (t : Int), .bool false] 30) (.cells #[.slice none 0 0, .int .i64 0, .int .i64 0, .bool false] 30))) (i : Int)
  have hlen := h.len
  have hrm : (readM ⟨l, 0, (t : Int), false⟩ (i : Int)) = (l[i]?.getD [], 0) := by simp [readM, hlen]; omega
  rw [hrm] at hrd
  have hbs := st_size b
  rw [hb] at hbs
  have hz := zero_dm
  have hb2 := below_two w (.cells #[.slice A n c, .int .i64 0, .int .i64 (t : Int), .bool false] 30) (.cells #[.slice none 0 0, .int .i64 0, .int .i64 0, .bool false] 30)
  have HB := Lib.hid (And.intro hb2 (And.intro h (And.intro hi (And.intro hn hlen))))
  have HPRE : ∀ w1, Below ((w.alloc (.cells #[.slice A n c, .int .i64 0, .int .i64 (t : Int), .bool false] 30)).alloc (.cells #[.slice none 0 0, .int .i64 0, .int .i64 0, .bool false] 30)).heap.size ((w.alloc (.cells #[.slice A n c, .int .i64 0, .int .i64 (t : Int), .bool false] 30)).alloc (.cells #[.slice none 0 0, .int .i64 0, .int .i64 0, .bool false] 30)) w1 → Hid (Below w.heap.size w w1 ∧ w1.heap[w.heap.size]? = some (.cells #[.slice A n c, .int .i64 0, .int .i64 (t : Int), .bool false] 30 (0, 0)) ∧ w1.heap[w.heap.size + 1]? = some (.cells #[.slice none 0 0, .int .i64 0, .int .i64 0, .bool false] 30 (0, 0))) := fun w1 hb => by
    have h1 := heap_alloc_new w (.cells #[.slice A n c, .int .i64 0, .int .i64 (t : Int), .bool false] 30)
    have h2 := heap_alloc_new (w.alloc (.cells #[.slice A n c, .int .i64 0, .int .i64 (t : Int), .bool false] 30)) (.cells #[.slice none 0 0, .int .i64 0, .int .i64 0, .bool false] 30)
    rw [World.size_alloc] at h2
    exact Lib.hid ⟨HB.out.1.trans (hb.mono HB.out.1.size), (hb.block _ (by simp <;> omega)).trans ((Below.heap_alloc _ _ _ (by simp)).trans h1), (hb.block _ (by simp)).trans h2⟩
  have hxs := st_size (l[i]?.getD [])
  rw [hx] at hxs
  have hto := fun W => st_to (P := Tryz.prog) 9 Tryz.underlying9 b W t (t : Int) rfl (by omega)
  have hfr := fun W => st_from (P := Tryz.prog) 9 Tryz.underlying9 (l[i]?.getD []) W t (t : Int) rfl (by omega)
  have s1 := st_size (b.take t)
  have s2 := st_size ((l[i]?.getD []).drop t)
  have hap := st_app (b.take t) ((l[i]?.getD []).drop t)
  rw [List.length_take, hb, Nat.min_eq_left ht] at s1
  rw [List.length_drop, hx] at s2
  obtain ⟨r, hr⟩ : ∃ r, r = 128 - t := ⟨_, rfl⟩
  rw [← hr] at s2
  have hsum : ¬ 9223372036854775807 < t + r := by omega
  obtain ⟨Y, hY⟩ : ∃ Y, Y = b.take t ++ (l[i]?.getD []).drop t := ⟨_, rfl⟩
  rw [← hY] at hap
  rw [← hY]
  generalize b.take t = b1 at *
  generalize (l[i]?.getD []).drop t = b2 at *
  have HXL := Lib.hid (show l[i]?.getD [] = l[i]?.getD [] from rfl)
  obtain ⟨X, hXe⟩ : ∃ X, X = l[i]?.getD [] := ⟨_, rfl⟩
  rw [← hXe] at hrd hfr hxs
  have HXE := Lib.hid hXe
  clear hrm hb2 h hlen hb hx hr hY hXe HXL
  go_enter Tryz.func17, Tryz.ntmps17
  go_upto_region 9 with (first
    | (go_at_call 45; refine hrd.mono ?_; clear hrd; rintro _ w1 ⟨rfl, hb1⟩; have H1 := HPRE w1 hb1; clear hb1 HPRE
       obtain ⟨g, c', w2, hrun, hown, hb12⟩ := append_strs (HB.out.2.1.below H1.out.1) (by omega) HB.out.2.2.2.1 28
       have H2 := Lib.hid (And.intro (H1.out.1.trans (hb12.mono H1.out.1.size)) (And.intro ((hb12.block _ (lt_of_cells H1.out.2.1)).trans H1.out.2.1) (And.intro ((hb12.block _ (lt_of_cells H1.out.2.2)).trans H1.out.2.2) (And.intro hown (lt_of_cells H1.out.2.2)))))
       have hq0 : w1.cell? ⟨w.heap.size, 0, none⟩ = some (.slice A n c) := cell_of_cells H1.out.2.1 0
       have hq1 : w2.cell? ⟨w.heap.size, 1, none⟩ = some (.int .i64 0) := cell_of_cells H2.out.2.1 1
       clear hown hb12)
    | (at_builtin; refine wpList_app (by rfl) _ _ 28 (by rfl) (by rfl) (by rfl) hrun ?_; clear hrun))
  have hown := H2.out.2.2.2.1
  have hgl := (hown.lt g rfl).1
  have hgs := (hown.lt g rfl).2
  have hcg : w2.cell? ⟨g, i, none⟩ = some (.string (st (l[i]?.getD []))) := by
    have h1 := HB.out.2.2.1
    have h2 := HB.out.2.2.2.2
    rw [hown.cellAt i (by omega), strs, List.getElem?_map, List.getElem?_eq_getElem (by omega)]
    rfl
  have hfg : w2.frozen? ⟨g, i, none⟩ = false := hown.frozenAt i
  have hin : (i : Int) < (n : Int) := by have := HB.out.2.2.1; omega
  have hst := (hown.stored i (.string (st Y))).1
  rw [strs_set] at hst
  have hlq := H2.out.2.2.2.2
  have hq2 : w2.cell? ⟨w.heap.size, 2, none⟩ = some (.int .i64 (t : Int)) := cell_of_cells H2.out.2.1 2
  have H3 : Hid (Below w.heap.size w (w2.drew.setCell ⟨g, i, none⟩ (.string (st Y))) ∧ (w2.drew.setCell ⟨g, i, none⟩ (.string (st Y))).heap[w.heap.size]? = some (.cells #[.slice A n c, .int .i64 0, .int .i64 (t : Int), .bool false] 30 (0, 0)) ∧ (w2.drew.setCell ⟨g, i, none⟩ (.string (st Y))).heap[w.heap.size + 1]? = some (.cells #[.slice none 0 0, .int .i64 0, .int .i64 0, .bool false] 30 (0, 0)) ∧ (w2.drew.setCell ⟨g, i, none⟩ (.string (st Y))).ownsRow w1.heap.size 9 1 (.slice (some ⟨g, 0, none⟩) n c') n (strs (l.set i Y))) := Lib.hid ⟨(below_drew H2.out.1).setCell (p := ⟨g, i, none⟩) (show w.heap.size ≤ g by omega) _, (Below.heap_setCell w2 ⟨g, i, none⟩ (.string (st Y)) w.heap.size (show w.heap.size ≠ g by omega)).trans H2.out.2.1, (Below.heap_setCell w2 ⟨g, i, none⟩ (.string (st Y)) (w.heap.size + 1) (show w.heap.size + 1 ≠ g by omega)).trans H2.out.2.2.1, hst⟩
  clear hown hst hq0 hq1
  have hq2d : w2.drew.cell? ⟨w.heap.size, 2, none⟩ = some (.int .i64 (t : Int)) := hq2
  have hcgd : w2.drew.cell? ⟨g, i, none⟩ = some (.string (st (l[i]?.getD []))) := hcg
  have hfgd : w2.drew.frozen? ⟨g, i, none⟩ = false := hfg
  clear hq2 hcg hfg
  refine wp_region_plan (fun W => W.cell? ⟨w.heap.size, 2, none⟩ = some (.int .i64 (t : Int))) [([0, 1, 2, 3, 4, 5, 6, 7, 8, 9, 10, 11], 12)] [] (by kernel_rfl) (by kernel_rfl) (fun _ _ d _ _ h => by cases d <;> exact h) hq2d ?_
  generalize w2.drew = wd at *
  refine plan_eff ?_
  refine seg_read ?v1 (by rfl) (by rfl) ?h1 ?_
  case h1 => intro W hW; go_simp; with_reducible rfl
  try simp only [Act.put, List.setIfInBounds_toArray, List.set_cons_zero, List.set_cons_succ]
  refine seg_read ?v2 (by rfl) (by rfl) ?h2 ?_
  case h2 => intro W hW; go_simp; with_reducible rfl
  try simp only [Act.put, List.setIfInBounds_toArray, List.set_cons_zero, List.set_cons_succ]
  refine seg_read ?v3 (by rfl) (by rfl) ?h3 ?_
  case h3 => intro W hW; go_simp; with_reducible rfl
  try simp only [Act.put, List.setIfInBounds_toArray, List.set_cons_zero, List.set_cons_succ]
  refine seg_read ?v4 (by rfl) (by rfl) ?h4 ?_
  case h4 => intro W hW; go_simp; with_reducible rfl
  try simp only [Act.put, List.setIfInBounds_toArray, List.set_cons_zero, List.set_cons_succ]
  refine seg_read ?v5 (by rfl) (by rfl) ?h5 ?_
  case h5 => intro W hW; go_simp; with_reducible rfl
  try simp only [Act.put, List.setIfInBounds_toArray, List.set_cons_zero, List.set_cons_succ]
  refine seg_read ?v6 (by rfl) (by rfl) ?h6 ?_
  case h6 => intro W hW; go_simp; with_reducible rfl
  try simp only [Act.put, List.setIfInBounds_toArray, List.set_cons_zero, List.set_cons_succ]
  refine seg_read ?v7 (by rfl) (by rfl) ?h7 ?_
  case h7 => intro W hW; go_simp; with_reducible rfl
  try simp only [Act.put, List.setIfInBounds_toArray, List.set_cons_zero, List.set_cons_succ]
  refine seg_read ?v8 (by rfl) (by rfl) ?h8 ?_
  case h8 => intro W hW; go_simp; with_reducible rfl
  try simp only [Act.put, List.setIfInBounds_toArray, List.set_cons_zero, List.set_cons_succ]
  refine seg_read ?v9 (by rfl) (by rfl) ?h9 ?_
  case h9 => intro W hW; go_simp; with_reducible rfl
  try simp only [Act.put, List.setIfInBounds_toArray, List.set_cons_zero, List.set_cons_succ]
  refine seg_read ?v10 (by rfl) (by rfl) ?h10 ?_
  case h10 => intro W hW; go_simp; with_reducible rfl
  try simp only [Act.put, List.setIfInBounds_toArray, List.set_cons_zero, List.set_cons_succ]
  refine seg_read ?v11 (by rfl) (by rfl) ?h11 ?_
  case h11 => intro W hW; go_simp; (try rw [if_neg hsum]); with_reducible rfl
  try simp only [Act.put, List.setIfInBounds_toArray, List.set_cons_zero, List.set_cons_succ]
  refine seg_read ?v12 (by rfl) (by rfl) ?h12 ?_
  case h12 => intro W hW; go_simp; with_reducible rfl
  try simp only [Act.put, List.setIfInBounds_toArray, List.set_cons_zero, List.set_cons_succ]
  refine seg_nil ?_
  refine eff_step (by rfl) (fun K hK => ?_)
  go_simp
  refine hK _ _ ⟨fun W => W = wd.setCell ⟨g, i, none⟩ (.string (st Y)), rfl, fun W e => by rw [e]; exact cell_of_cells H3.out.2.1 2, ?_⟩
  clear hK K
  try simp only [Act.put, List.setIfInBounds_toArray, List.set_cons_zero, List.set_cons_succ]
  refine plan_last ?_
  refine seg_nil ?_
  generalize wd.setCell ⟨g, i, none⟩ (.string (st Y)) = w3 at H3 ⊢
  clear hq2d hcgd hfgd
  have hq0 : w3.cell? ⟨w.heap.size, 0, none⟩ = some (.slice A n c) := cell_of_cells H3.out.2.1 0
  have hf0 : w3.frozen? ⟨w.heap.size, 0, none⟩ = false := free_of_cells H3.out.2.1 0
  have hgq : w.heap.size + 1 < g := by omega
  have H4 := Lib.hid (And.intro (H3.out.1.setCell (p := ⟨w.heap.size, 0, none⟩) (Nat.le_refl _) (.slice (some ⟨g, 0, none⟩) n c')) (And.intro (set_of_cells H3.out.2.1 0 (.slice (some ⟨g, 0, none⟩) n c')) (And.intro ((Below.heap_setCell w3 ⟨w.heap.size, 0, none⟩ (.slice (some ⟨g, 0, none⟩) n c') (w.heap.size + 1) (show w.heap.size + 1 ≠ w.heap.size by omega)).trans H3.out.2.2.1) (ownsRow_setCell_other H3.out.2.2.2 (a := ⟨w.heap.size, 0, none⟩) (by simp [Value.ownBlock]; omega) (.slice (some ⟨g, 0, none⟩) n c')))))
  go_upto_region 11 with fail
  clear hq0 hf0
  generalize w3.setCell ⟨w.heap.size, 0, none⟩ (.slice (some ⟨g, 0, none⟩) n c') = w4 at H4 ⊢
  have hx4 : w4.heap[w.heap.size]? = some (.cells #[.slice (some ⟨g, 0, none⟩) n c', .int .i64 0, .int .i64 (t : Int), .bool false] 30 (0, 0)) := H4.out.2.1
  have hq3 : w4.cell? ⟨w.heap.size, 3, none⟩ = some (.bool false) := cell_of_cells hx4 3
  have hf3 : w4.frozen? ⟨w.heap.size, 3, none⟩ = false := free_of_cells hx4 3
  have H5 := Lib.hid (And.intro (H4.out.1.setCell (p := ⟨w.heap.size, 3, none⟩) (Nat.le_refl _) (.bool true)) (And.intro (set_of_cells hx4 3 (.bool true)) (And.intro ((Below.heap_setCell w4 ⟨w.heap.size, 3, none⟩ (.bool true) (w.heap.size + 1) (show w.heap.size + 1 ≠ w.heap.size by omega)).trans H4.out.2.2.1) (ownsRow_setCell_other H4.out.2.2.2 (a := ⟨w.heap.size, 3, none⟩) (by simp [Value.ownBlock]; omega) (.bool true)))))
  clear hx4
  go_upto_region 12 with fail
  clear hq3 hf3
  generalize w4.setCell ⟨w.heap.size, 3, none⟩ (.bool true) = w5 at H5 ⊢
  have HX5 : Hid (w5.heap[w.heap.size]? = some (.cells #[.slice (some ⟨g, 0, none⟩) n c', .int .i64 0, .int .i64 (t : Int), .bool true] 30 (0, 0))) := Lib.hid H5.out.2.1
  go_wp2_with (first
    | (refine wpList_load_row (by rfl) 30 (.tmp 3) (by rfl) w.heap.size (by rfl) 30 #[.slice (some ⟨g, 0, none⟩) n c', .int .i64 0, .int .i64 (t : Int), .bool true] (0, 0) _ HX5.out Tryz.underlying30 (by rfl) dm_info ?_)
    | (refine wpList_store_row (by rfl) 30 (.tmp 6) (.tmp 47) (by rfl) (w.heap.size + 1) #[.slice (some ⟨g, 0, none⟩) n c', .int .i64 0, .int .i64 (t : Int), .bool true] (by rfl) (by rfl) 30 _ H5.out.2.2.1 dm_info rfl (dm_one _ _ _ _ _ _) ?_))
  (try simp only [Exit.inBlock, Exit.then])
  refine bodyPost_ret (dm_result2 (p := 6) (u := 7) rfl _ _ (w.heap.size + 1) (.slice (some ⟨g, 0, none⟩) n c') (.int .i64 0) (.int .i64 (t : Int)) (.bool true) rfl (setRow_at H5.out.2.2.1)) rfl ?_
  obtain ⟨A', c2, hv, hs⟩ := own_strs H5.out.2.2.2
  injection hv with e1 e2 e3
  subst e1 e3
  refine ⟨_, _, rfl, ?_, below_setRow H5.out.1 (by omega) _⟩
  exact (hs.turned (turned_setRow _) (fun k _ h1 h2 => by have := H2.out.2.2.2.2; omega)).mono fun k _ h1 => by have := H1.out.1.size; omega

structure DM.Ok (d : DM) : Prop where
  each : ∀ x ∈ d.l, x.length = 128
  torn : 0 ≤ d.torn ∧ d.torn ≤ 128
  left : -9223372036854775808 ≤ d.left ∧ d.left ≤ 9223372036854775807
theorem readM_no {d : DM} {i : Int} {b : List UInt8} (h : (readM d i).2 ≠ 0 ∨ b.length ≠ 128) : writeM d i b = (d, if (readM d i).2 = 0 then 1 else (readM d i).2) := by
  unfold readM at h ⊢
  unfold writeM
  by_cases h1 : d.down = true
  · rw [if_pos h1, if_pos h1]; rfl
  · rw [if_neg h1] at h
    rw [if_neg h1, if_neg h1]
    by_cases h2 : i < 0 ∨ (d.l.length : Int) ≤ i
    · rw [if_pos h2, if_pos h2]; rfl
    · rw [if_neg h2] at h
      rw [if_neg h2, if_neg h2]
      have h3 : b.length ≠ 128 := h.resolve_left (fun h => h rfl)
      rw [if_pos h3]; rfl
theorem readM_yes {d : DM} {i : Int} (h : (readM d i).2 = 0) : d.down = false ∧ 0 ≤ i ∧ i < (d.l.length : Int) := by
  unfold readM at h
  by_cases h1 : d.down = true
  · rw [if_pos h1] at h; exact absurd h (by decide)
  · rw [if_neg h1] at h
    by_cases h2 : i < 0 ∨ (d.l.length : Int) ≤ i
    · rw [if_pos h2] at h; exact absurd h (by decide)
    · exact ⟨by simpa using h1, by omega, by omega⟩
theorem rbwrite_any {w : World} {S : Nat → Prop} {A : Option Addr} {n c : Nat} {d : DM} (h : Strs w S A n c d.l) (hn : n ≤ 1000000) (ok : d.Ok) (i : Int) (b : List UInt8) :
    Calls Tryz.prog 17 #[.agg (dmV d A n c), .int .i64 i, .string (st b)] w fun e w' => ∃ A' c', e = .returned (.tuple #[.agg (dmV (writeM d i b).1 A' n c'), .int .i64 (writeM d i b).2]) ∧ Strs w' (fun k => S k ∨ w.heap.size ≤ k) A' n c' (writeM d i b).1.l ∧ Below w.heap.size w w' := by
  by_cases hs : (readM d i).2 ≠ 0 ∨ b.length ≠ 128
  · rw [readM_no hs]
    refine (rbwrite_stay h i b hs).mono ?_
    rintro _ w' ⟨rfl, hb⟩
    exact ⟨A, c, rfl, (h.below hb).mono fun k _ hk => .inl hk, hb⟩
  · have hr : (readM d i).2 = 0 := Classical.byContradiction fun h => hs (.inl h)
    have hl : b.length = 128 := Classical.byContradiction fun h => hs (.inr h)
    obtain ⟨hd, h0, h1⟩ := readM_yes hr
    obtain ⟨i', rfl⟩ := Int.eq_ofNat_of_zero_le h0
    have hlen := h.len
    obtain ⟨l, left, torn, down⟩ := d
    simp only at hd hlen h1 h
    subst hd
    have hw : writeM ⟨l, left, torn, false⟩ (i' : Int) b = if left = 0 then (⟨l.set i' (b.take torn.toNat ++ (l[i']?.getD []).drop torn.toNat), left, torn, true⟩, 30) else (⟨l.set i' b, if 0 < left then left - 1 else left, torn, false⟩, 0) := by
      unfold writeM
      rw [if_neg (by simp), if_neg (by simp only; omega), if_neg (by simpa using hl)]
      simp
    rw [hw]
    by_cases hz : left = 0
    · subst hz
      rw [if_pos rfl]
      obtain ⟨t, rfl⟩ := Int.eq_ofNat_of_zero_le ok.torn.1
      have ht := ok.torn.2
      simp only at ht
      refine (rbwrite_torn (t := t) h hn i' (by omega) b hl ?_ (by omega)).mono ?_
      · have hil : i' < l.length := by omega
        rw [List.getElem?_eq_getElem hil]
        exact ok.each _ (List.getElem_mem hil)
      · rintro _ w' ⟨A', c', rfl, h2, h3⟩
        exact ⟨A', c', rfl, h2.mono fun k _ hk => .inr hk, h3⟩
    · rw [if_neg hz]
      refine (rbwrite_done (tn := torn) h hn i' (by omega) b hl hz ok.left).mono ?_
      rintro _ w' ⟨A', c', rfl, h2, h3⟩
      exact ⟨A', c', rfl, h2.mono fun k _ hk => .inr hk, h3⟩
theorem writeM_ok {d : DM} (ok : d.Ok) (i : Int) (b : List UInt8) : (writeM d i b).1.Ok := by
  by_cases hs : (readM d i).2 ≠ 0 ∨ b.length ≠ 128
  · rw [readM_no hs]; exact ok
  · have hr : (readM d i).2 = 0 := Classical.byContradiction fun h => hs (.inl h)
    have hl : b.length = 128 := Classical.byContradiction fun h => hs (.inr h)
    obtain ⟨hd, h0, h1⟩ := readM_yes hr
    unfold writeM
    rw [if_neg (by simp [hd]), if_neg (by omega), if_neg (by omega)]
    have hx : (d.l[i.toNat]?.getD []).length = 128 := by
      have hil : i.toNat < d.l.length := by omega
      rw [List.getElem?_eq_getElem hil]
      exact ok.each _ (List.getElem_mem hil)
    have ht := ok.torn
    split
    · refine ⟨fun x hx2 => ?_, ok.torn, ok.left⟩
      rcases List.mem_or_eq_of_mem_set hx2 with h | rfl
      · exact ok.each x h
      · rw [List.length_append, List.length_take, List.length_drop, hx, hl]
        omega
    · refine ⟨fun x hx2 => ?_, ok.torn, ?_⟩
      · rcases List.mem_or_eq_of_mem_set hx2 with h | rfl
        · exact ok.each x h
        · exact hl
      · have := ok.left
        simp only
        split <;> omega
theorem stopM_ok {d : DM} (ok : d.Ok) {after torn : Int} (h : -9223372036854775808 ≤ after ∧ after ≤ 9223372036854775807) : (stopM d after torn).Ok := by
  refine ⟨ok.each, ?_, ?_⟩
  · unfold stopM
    simp only
    split
    · omega
    · split <;> omega
  · unfold stopM
    simp only
    split <;> omega
theorem restartM_ok {d : DM} (ok : d.Ok) : (restartM d).Ok := ⟨ok.each, ok.torn, by unfold restartM; simp only; omega⟩
end Go.Proofs.YtcgnaomffioldaaGreat

/-! The reference's New; bytes out of a seed. -/
namespace Go.Proofs.YtcgnaomffioldaaGreat
open Go.RowKit

def zero128 : List UInt8 := List.replicate 128 0
def newM (k : Int) : DM × Int := if k < 1 ∨ 65536 < k then (⟨[], 0, 0, false⟩, 1) else (⟨List.replicate k.toNat zero128, -1, 0, false⟩, 0)
def RNw (w1 : World) (k : Nat) (v i : Value) (wr : World) : Prop := ∃ j : Nat, j ≤ k ∧ i = .int .i64 (j : Int) ∧ wr.ownsRow w1.heap.size 9 1 v j (strs (List.replicate j zero128)) ∧ Below w1.heap.size w1 wr
theorem st_zero128 : (⟨(List.replicate 128 (0 : UInt8)).toArray⟩ : ByteArray) = st zero128 := rfl

set_option maxHeartbeats 4000000 in
theorem rbnew_ok (k : Nat) (h1 : 1 ≤ k) (h2 : k ≤ 65536) (w : World) :
    Calls Tryz.prog 7 #[.int .i64 (k : Int)] w fun e w' => ∃ A' c', e = .returned (.tuple #[.agg #[.slice A' k c', .int .i64 (-1), .int .i64 0, .bool false], .int .i64 0]) ∧ Strs w' (w.heap.size ≤ ·) A' k c' (List.replicate k zero128) ∧ Below w.heap.size w w' := by
  have hz := zero_dm
  obtain ⟨i0, hi, hz0, hz1, hz2⟩ := info_parts str_info2
  have HI := Lib.hid (And.intro hi (And.intro hz0 (And.intro hz1 hz2)))
  have h3 : ¬ (k : Int) < 1 := by omega
  have h4 : ¬ (65536 : Int) < (k : Int) := by omega
  obtain ⟨w1, hw1⟩ : ∃ w1, w.alloc (.cells #[.slice none 0 0, .int .i64 0, .int .i64 0, .bool false] 30) = w1 := ⟨_, rfl⟩
  have H1 : Hid (Below w.heap.size w w1 ∧ w1.heap[w.heap.size]? = some (.cells #[.slice none 0 0, .int .i64 0, .int .i64 0, .bool false] 30 (0, 0)) ∧ 1 ≤ k ∧ k ≤ 65536) := Lib.hid ⟨by rw [← hw1]; exact (Below.refl _ _).alloc (Nat.le_refl _) _, by rw [← hw1]; exact heap_alloc_new w _, h1, h2⟩
  clear hi hz0 hz1 hz2 h1 h2
  go_enter Tryz.func7, Tryz.ntmps7
  go_wp2_with fail
  try rw [hw1]
  clear hw1
  go_loopw [4, 5] (fun v i wr => RNw w1 k v i wr) (fun _ i _ => k - (intOf i).toNat)
  case atStart => exact ⟨0, Nat.zero_le _, rfl, World.ownsRow_nil _ _ _ _, Below.refl _ _⟩
  case round =>
    obtain ⟨j, hj, rfl, hown, hbr⟩ := hrel
    have HR := Lib.hid (And.intro hj (And.intro hown hbr))
    by_cases hlt : j < k
    · have hlt' : (j : Int) < (k : Int) := by omega
      have hmk : (Instr.makeSlice 54 (.int .i64 128) (.int .i64 128)).run Tryz.prog wr = _ := make_bytes wr 128 (by omega)
      have hcv := byt_string (byt_new (w := wr) (List.replicate 128 0) 5 (0, 0) (by simp))
      have hbm : Below wr.heap.size wr (wr.alloc (.cells (u8s (List.replicate 128 0)).toArray 5)) := (Below.refl _ _).alloc (Nat.le_refl _) _
      simp only [List.length_replicate] at hcv
      have hcv2 : (convert 54 9 (.slice (some ⟨wr.heap.size, 0, none⟩) 128 128)).run Tryz.prog (wr.alloc (.cells (u8s (List.replicate 128 0)).toArray 5)) = .ok (.string (st zero128)) (wr.alloc (.cells (u8s (List.replicate 128 0)).toArray 5)) := hcv
      have HM := Lib.hid hbm
      have hadd := IntWalk.i64_in ((j : Int) + 1) (by have := H1.out.2.2.2; omega)
      clear hj hown hbr hcv hbm
      generalize wr.alloc (.cells (u8s (List.replicate 128 0)).toArray 5) = wm at *
      have HO := Lib.hid (own_below HR.out.2.1 HM.out)
      have HBM := Lib.hid (HR.out.2.2.trans (HM.out.mono HR.out.2.2.size))
      go_wp2_with (at_builtin; refine wpList_append_own_at _ rfl _ _ 28 rfl w1.heap.size 9 i0 (.string ByteArray.empty) 1 16 Tryz.underlying28 HI.out.1 HI.out.2.1 HI.out.2.2.1 HI.out.2.2.2 rfl (by decide) _ j (strs (List.replicate j zero128)) rfl (HO.out.alloc _) ⟨wm.heap.size, 0, none⟩ 1 1 [.string (st zero128)] rfl rfl (cell_one_new _ _ _) (one_of rfl) (by have := H1.out.2.2.2; unfold maxLen; omega) (by have := H1.out.2.2.2; omega) (by have := HBM.out.size; simp; omega) ?_)
      intro v' w2 hown2 hgrow _ _
      have hlt2 := HO.out.lt
      have hsz := HBM.out.size
      have HB2 : Hid (Below w1.heap.size w1 w2) := Lib.hid ((HBM.out.alloc hsz _).grown hgrow (by simp; omega) (fun b hb => (hlt2 b hb).1))
      have HO2 : Hid (w2.ownsRow w1.heap.size 9 1 v' (j + 1) (strs (List.replicate (j + 1) zero128))) := Lib.hid (by
        rw [List.replicate_succ', strs, List.map_append]
        exact hown2)
      clear hown2 hgrow hlt2 hsz
      go_wp2_with fail
      go_roundw
      case rel => unfold RNw; exact ⟨j + 1, by omega, by simp, HO2.out, HB2.out⟩
      case measure => simp only [intOf]; omega
    · have hlt' : ¬ (j : Int) < (k : Int) := by omega
      obtain rfl : j = k := by omega
      obtain ⟨A', c', rfl, hs⟩ := own_strs hown
      have hx := (hbr.block _ (lt_of_cells H1.out.2.1)).trans H1.out.2.1
      have HF := Lib.hid (And.intro hs (And.intro hx (H1.out.1.trans (hbr.mono H1.out.1.size))))
      clear hj hown hbr hs hx
      go_wp2_with (refine wpList_store_row (by rfl) 30 (.tmp 2) (.tmp 24) (by rfl) w.heap.size #[.slice A' j c', .int .i64 (-1), .int .i64 0, .bool false] (by rfl) (by rfl) 30 _ HF.out.2.1 dm_info rfl (dm_one _ _ _ _ _ _) ?_)
      (try simp only [Exit.inBlock, Exit.then])
      refine bodyPost_ret (dm_result2 (p := 2) (u := 3) rfl _ _ w.heap.size (.slice A' j c') (.int .i64 (-1)) (.int .i64 0) (.bool false) rfl (setRow_at HF.out.2.1)) rfl ?_
      refine ⟨_, _, rfl, ?_, below_setRow HF.out.2.2 (Nat.le_refl _) _⟩
      exact (HF.out.1.turned (turned_setRow _) (fun q _ h1 h2 => by have := lt_of_cells H1.out.2.1; omega)).mono fun q _ h1 => by have := H1.out.1.size; omega
set_option maxHeartbeats 1000000 in
theorem rbnew_no (k : Int) (h : k < 1 ∨ 65536 < k) (w : World) :
    Calls Tryz.prog 7 #[.int .i64 k] w fun e w' => e = .returned (.tuple #[.agg #[.slice none 0 0, .int .i64 0, .int .i64 0, .bool false], .int .i64 1]) ∧ Below w.heap.size w w' := by
  have hz := zero_dm
  have hg := heap_alloc_new w (.cells #[.slice none 0 0, .int .i64 0, .int .i64 0, .bool false] 30)
  have HG := Lib.hid (And.intro hg ((Below.refl w.heap.size w).alloc (Nat.le_refl _) (.cells #[.slice none 0 0, .int .i64 0, .int .i64 0, .bool false] 30)))
  clear hg
  by_cases h1 : k < 1
  · clear h
    go_enter Tryz.func7, Tryz.ntmps7
    go_wp2_with (refine wpList_store_row (by rfl) 30 (.tmp 2) (.tmp 12) (by rfl) w.heap.size #[.slice none 0 0, .int .i64 0, .int .i64 0, .bool false] (by rfl) (by rfl) 30 _ HG.out.1 dm_info rfl (dm_one _ _ _ _ _ _) ?_)
    (try simp only [Exit.inBlock, Exit.then])
    refine bodyPost_ret (dm_result2 (p := 2) (u := 3) rfl _ _ w.heap.size (.slice none 0 0) (.int .i64 0) (.int .i64 0) (.bool false) rfl (setRow_at HG.out.1)) rfl ?_
    exact ⟨rfl, below_setRow HG.out.2 (Nat.le_refl _) _⟩
  · have h2 : 65536 < k := h.resolve_left h1
    clear h
    go_enter Tryz.func7, Tryz.ntmps7
    go_wp2_with (refine wpList_store_row (by rfl) 30 (.tmp 2) (.tmp 12) (by rfl) w.heap.size #[.slice none 0 0, .int .i64 0, .int .i64 0, .bool false] (by rfl) (by rfl) 30 _ HG.out.1 dm_info rfl (dm_one _ _ _ _ _ _) ?_)
    (try simp only [Exit.inBlock, Exit.then])
    refine bodyPost_ret (dm_result2 (p := 2) (u := 3) rfl _ _ w.heap.size (.slice none 0 0) (.int .i64 0) (.int .i64 0) (.bool false) rfl (setRow_at HG.out.1)) rfl ?_
    exact ⟨rfl, below_setRow HG.out.2 (Nat.le_refl _) _⟩
theorem rbnew_any (k : Int) (w : World) :
    Calls Tryz.prog 7 #[.int .i64 k] w fun e w' => ∃ A' n' c', e = .returned (.tuple #[.agg (dmV (newM k).1 A' n' c'), .int .i64 (newM k).2]) ∧ Strs w' (w.heap.size ≤ ·) A' n' c' (newM k).1.l ∧ Below w.heap.size w w' := by
  by_cases h : k < 1 ∨ 65536 < k
  · have e : newM k = (⟨[], 0, 0, false⟩, 1) := by rw [newM, if_pos h]
    rw [e]
    refine (rbnew_no k h w).mono ?_
    rintro _ w' ⟨rfl, hb⟩
    exact ⟨none, 0, 0, rfl, Strs.nil _ _ _ _ (Nat.zero_le _), hb⟩
  · obtain ⟨j, rfl⟩ := Int.eq_ofNat_of_zero_le (show 0 ≤ k by omega)
    have e : newM (j : Int) = (⟨List.replicate j zero128, -1, 0, false⟩, 0) := by rw [newM, if_neg h]; rfl
    rw [e]
    refine (rbnew_ok j (by omega) (by omega) w).mono ?_
    rintro _ w' ⟨A', c', rfl, h1, h2⟩
    exact ⟨A', j, c', rfl, h1, h2⟩
theorem newM_ok (k : Int) : (newM k).1.Ok := by
  unfold newM
  split
  · exact ⟨fun x hx => absurd hx (by simp), by simp, by simp⟩
  · exact ⟨fun x hx => by rw [List.eq_of_mem_replicate hx]; rfl, by simp, by simp⟩
end Go.Proofs.YtcgnaomffioldaaGreat
