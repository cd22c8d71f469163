/-
  proof.Two.
-/
import Derived.Test.YtebhlfmianohlaaDoorProofTwoB
namespace Go.Proofs.YtebhlfmianohlaaDoor
open Go.RowKit Go.Shelf
attribute [local go_sem] Oper.semAt_some

set_option maxHeartbeats 4000000 in
set_option maxRecDepth 100000 in
theorem ptwo_any {w : World} {S T S2 T2 : Nat → Prop} {A Ax B By : Option Addr} {na ca nx cx nb cb ny cy : Nat} {a b : List UInt8} {x y : List (List UInt8)} (root : List UInt8) (hroot : root.length = 32) (n i : Int) (hn : n < 9223372036854775808)
    (ha : Byt w S A na ca a) (hx : Ids w T Ax nx cx x) (hb : Byt w S2 B nb cb b) (hy : Ids w T2 By ny cy y) (ht : Tab w) :
    Calls Tryd.prog 19 #[.agg (row8 root), .int .i64 n, .int .i64 i, .slice A na ca, .slice Ax nx cx, .slice B nb cb, .slice By ny cy] w (PTwo w root n i a x b y) := by
  obtain ⟨OS, hOS⟩ : ∃ OS, OS = row8 root := ⟨_, rfl⟩
  rw [← hOS]
  have HOS : Hid (OS = row8 root ∧ OS.size = 32 ∧ root.length = 32) := Lib.hid ⟨hOS, by rw [hOS, row8_size, hroot], hroot⟩
  obtain ⟨W0, hW0⟩ : ∃ W0, (((w.alloc (.cells OS 31)).alloc (.cells #[.slice none 0 0] 22)).alloc (.cells #[.slice none 0 0] 22)).alloc (.cells #[.bool false] 4) = W0 := ⟨_, rfl⟩
  have hs0 : W0.heap.size = w.heap.size + 4 := by rw [← hW0]; simp
  have hb0 : Below w.heap.size w W0 := by rw [← hW0]; exact ((((Below.refl _ _).alloc (Nat.le_refl _) _).alloc (by simp) _).alloc (by simp <;> omega) _).alloc (by simp <;> omega) _
  have hx0 : W0.heap[w.heap.size]? = some (.cells OS 31 (0, 0)) := by
    rw [← hW0]
    exact (Below.heap_alloc _ _ _ (by simp <;> omega)).trans ((Below.heap_alloc _ _ _ (by simp <;> omega)).trans ((Below.heap_alloc _ _ _ (by simp)).trans (heap_alloc_new w _)))
  have hx1 : Boxed W0 (w.heap.size + 1) 22 (.slice none 0 0) := by
    rw [← hW0]
    have h := Boxed.new (w.alloc (.cells OS 31)) 22 (.slice none 0 0)
    rw [World.size_alloc] at h
    exact (h.alloc _).alloc _
  have hx2 : Boxed W0 (w.heap.size + 1 + 1) 22 (.slice none 0 0) := by
    rw [← hW0]
    have h := Boxed.new ((w.alloc (.cells OS 31)).alloc (.cells #[.slice none 0 0] 22)) 22 (.slice none 0 0)
    simp only [World.size_alloc] at h
    exact h.alloc _
  have hx3 : Boxed W0 (w.heap.size + 1 + 1 + 1) 4 (.bool false) := by
    rw [← hW0]
    have h := Boxed.new (((w.alloc (.cells OS 31)).alloc (.cells #[.slice none 0 0] 22)).alloc (.cells #[.slice none 0 0] 22)) 4 (.bool false)
    simp only [World.size_alloc] at h
    exact h
  have heq := equal_any (ha.below hb0) (hb.below hb0)
  have HA := Lib.hid (And.intro ha (And.intro hx (And.intro hb (And.intro hy (And.intro ht hn)))))
  have H0 := Lib.hid (And.intro hs0 (And.intro hb0 (And.intro hx0 (And.intro hx1 (And.intro hx2 hx3)))))
  clear hOS hroot ha hx hb hy ht hn hs0 hb0 hx0 hx1 hx2 hx3
  by_cases hab : a = b
  · have hd : (a == b) = true := by simpa using hab
    refine (callsIn_wide (n := 3)).1 ?_
    refine callsIn_of_wp_marks Tryd.func19 rfl trivial ?_ rfl
    simp only [Tryd.ntmps19, List.size_toArray, List.length_cons, List.length_nil, Nat.reduceAdd, Nat.reduceSub, Array.replicate_succ, Array.replicate_zero, List.push_toArray, List.append_toArray, List.nil_append, List.cons_append]
    gi_wp2_with (first
      | (refine ⟨trivial, ?_⟩; gi_at_call 34; (try simp only [World.size_alloc]); (try rw [hW0]); refine (callsIn_wide.2 heq).mono ?_; clear heq hW0; rintro _ _ ⟨rfl, rfl⟩)
      | (refine wpListIn_store_three (w.heap.size + 1) (.slice none 0 0) (.slice none 0 0) (.bool false) (by rfl) (by rfl) (by rfl) _ _ _ _ _ _ (by rfl) (by rfl) (by rfl) (by rfl) (by rfl) (by rfl) (by rfl) (by rfl) (by rfl) (by rfl) (by rfl) (by rfl) (by rfl) (by rfl) (by rfl) H0.out.2.2.2.1 H0.out.2.2.2.2.1 H0.out.2.2.2.2.2 ?_; rintro w1 ht1 - hr1 hr2 hr3)
      | (refine ⟨trivial, ?_⟩; gi_step))
    exact ⟨_, results_cells3 rfl _ _ _ _ _ rfl rfl rfl (run_loadVar_slice8 hr1) (run_loadVar_slice8 hr2) (run_loadVar_bool hr3), none, 0, 0, none, 0, 0, [], [], false, rfl, Byt.nil _ _ _ _ (Nat.zero_le _), Byt.nil _ _ _ _ (Nat.zero_le _), ⟨by simp [hab], fun _ => ⟨rfl, rfl⟩, fun h => by cases h⟩, H0.out.2.1.trans ((ht1.mono (T := (w.heap.size ≤ ·)) fun b _ hb => by omega).below (by have := H0.out.1; omega))⟩
  · have hd : (a == b) = false := by simpa using hab
    have hc1 := check_any root HOS.out.2.2 n i HA.out.2.2.2.2.2 (HA.out.1.below H0.out.2.1) (HA.out.2.1.below H0.out.2.1) (HA.out.2.2.2.2.1.below H0.out.2.1)
    rw [← HOS.out.1] at hc1
    obtain ⟨V1, hV1⟩ : ∃ V1, V1 = checkL root n i a x := ⟨_, rfl⟩
    rw [← hV1] at hc1
    have HV1 := Lib.hid hV1
    clear hV1
    have HAB := Lib.hid hab
    clear hab
    by_cases h1 : V1 = 0
    · subst h1
      obtain ⟨V2, hV2⟩ : ∃ V2, V2 = checkL root n i b y := ⟨_, rfl⟩
      have HV2 := Lib.hid hV2
      clear hV2
      by_cases h2 : V2 = 0
      · subst h2
        exact ptwo_both root HOS.out.2.2 n i HA.out.2.2.2.2.2 HA.out.1 HA.out.2.1 HA.out.2.2.1 HA.out.2.2.2.1 HA.out.2.2.2.2.1 HAB.out HV1.out.symm HV2.out.symm HOS.out.1 hW0 (Lib.hid H0.out)
      · have hn2 : (V2 != 0) = true := by simpa using h2
        refine (callsIn_wide (n := 3)).1 ?_
        refine callsIn_of_wp_marks Tryd.func19 rfl trivial ?_ rfl
        simp only [Tryd.ntmps19, List.size_toArray, List.length_cons, List.length_nil, Nat.reduceAdd, Nat.reduceSub, Array.replicate_succ, Array.replicate_zero, List.push_toArray, List.append_toArray, List.nil_append, List.cons_append]
        gi_wp2_with (first
          | (refine ⟨trivial, ?_⟩; gi_at_call 34; (try simp only [World.size_alloc]); (try rw [hW0]); refine (callsIn_wide.2 heq).mono ?_; clear heq hW0; rintro _ _ ⟨rfl, rfl⟩)
          | (refine ⟨trivial, ?_⟩; gi_at_call 17; refine (callsIn_wide.2 hc1).mono ?_; clear hc1; rintro _ w1 ⟨rfl, hb1⟩; have H1 := twoBox H0.out hb1; have hc2 := check_any root HOS.out.2.2 n i HA.out.2.2.2.2.2 (HA.out.2.2.1.below H1.out.1) (HA.out.2.2.2.1.below H1.out.1) (HA.out.2.2.2.2.1.below H1.out.1); rw [← HOS.out.1, ← HV2.out] at hc2; clear hb1)
          | (refine ⟨trivial, ?_⟩; gi_at_call 17; refine (callsIn_wide.2 hc2).mono ?_; clear hc2; rintro _ w2 ⟨rfl, hb2⟩; have H2 := twoBox2 H1 hb2; clear hb2)
          | (refine wpListIn_load_row_on (by rfl) 31 (.tmp 7) (by rfl) w.heap.size (by rfl) 31 OS (0, 0) _ H0.out.2.2.1 Tryd.underlying31 (by rfl) (by rw [HOS.out.2.1]; exact id_info) ?_)
          | (refine wpListIn_load_row_on (by rfl) 31 (.tmp 7) (by rfl) w.heap.size (by rfl) 31 OS (0, 0) _ H1.out.2.1 Tryd.underlying31 (by rfl) (by rw [HOS.out.2.1]; exact id_info) ?_)
          | (refine wpListIn_store_three (w.heap.size + 1) (.slice none 0 0) (.slice none 0 0) (.bool false) (by rfl) (by rfl) (by rfl) _ _ _ _ _ _ (by rfl) (by rfl) (by rfl) (by rfl) (by rfl) (by rfl) (by rfl) (by rfl) (by rfl) (by rfl) (by rfl) (by rfl) (by rfl) (by rfl) (by rfl) H2.out.2.2.1 H2.out.2.2.2.1 H2.out.2.2.2.2 ?_; rintro w9 ht9 - hr1 hr2 hr3)
          | (refine ⟨trivial, ?_⟩; gi_step))
        exact ⟨_, results_cells3 rfl _ _ _ _ _ rfl rfl rfl (run_loadVar_slice8 hr1) (run_loadVar_slice8 hr2) (run_loadVar_bool hr3), none, 0, 0, none, 0, 0, [], [], false, rfl, Byt.nil _ _ _ _ (Nat.zero_le _), Byt.nil _ _ _ _ (Nat.zero_le _), ⟨by rw [← HV2.out]; simp [h2], fun _ => ⟨rfl, rfl⟩, fun h => by cases h⟩, H2.out.1.trans ((ht9.mono (T := (w.heap.size ≤ ·)) fun b _ hb => by omega).below (by have := H2.out.1.size; omega))⟩
    · have hn1 : (V1 != 0) = true := by simpa using h1
      refine (callsIn_wide (n := 3)).1 ?_
      refine callsIn_of_wp_marks Tryd.func19 rfl trivial ?_ rfl
      simp only [Tryd.ntmps19, List.size_toArray, List.length_cons, List.length_nil, Nat.reduceAdd, Nat.reduceSub, Array.replicate_succ, Array.replicate_zero, List.push_toArray, List.append_toArray, List.nil_append, List.cons_append]
      gi_wp2_with (first
        | (refine ⟨trivial, ?_⟩; gi_at_call 34; (try simp only [World.size_alloc]); (try rw [hW0]); refine (callsIn_wide.2 heq).mono ?_; clear heq hW0; rintro _ _ ⟨rfl, rfl⟩)
        | (refine ⟨trivial, ?_⟩; gi_at_call 17; refine (callsIn_wide.2 hc1).mono ?_; clear hc1; rintro _ w1 ⟨rfl, hb1⟩; have H1 := twoBox H0.out hb1; clear hb1)
        | (refine wpListIn_load_row_on (by rfl) 31 (.tmp 7) (by rfl) w.heap.size (by rfl) 31 OS (0, 0) _ H0.out.2.2.1 Tryd.underlying31 (by rfl) (by rw [HOS.out.2.1]; exact id_info) ?_)
        | (refine wpListIn_store_three (w.heap.size + 1) (.slice none 0 0) (.slice none 0 0) (.bool false) (by rfl) (by rfl) (by rfl) _ _ _ _ _ _ (by rfl) (by rfl) (by rfl) (by rfl) (by rfl) (by rfl) (by rfl) (by rfl) (by rfl) (by rfl) (by rfl) (by rfl) (by rfl) (by rfl) (by rfl) H1.out.2.2.1 H1.out.2.2.2.1 H1.out.2.2.2.2 ?_; rintro w9 ht9 - hr1 hr2 hr3)
        | (refine ⟨trivial, ?_⟩; gi_step))
      exact ⟨_, results_cells3 rfl _ _ _ _ _ rfl rfl rfl (run_loadVar_slice8 hr1) (run_loadVar_slice8 hr2) (run_loadVar_bool hr3), none, 0, 0, none, 0, 0, [], [], false, rfl, Byt.nil _ _ _ _ (Nat.zero_le _), Byt.nil _ _ _ _ (Nat.zero_le _), ⟨by rw [← HV1.out]; simp [h1], fun _ => ⟨rfl, rfl⟩, fun h => by cases h⟩, H1.out.1.trans ((ht9.mono (T := (w.heap.size ≤ ·)) fun b _ hb => by omega).below (by have := H1.out.1.size; omega))⟩
end Go.Proofs.YtebhlfmianohlaaDoor
