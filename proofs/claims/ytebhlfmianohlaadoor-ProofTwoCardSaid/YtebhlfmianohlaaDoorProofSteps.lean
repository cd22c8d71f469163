/-
  proof.steps.
-/
import Derived.Test.YtebhlfmianohlaaDoorProofWay
namespace Go.Proofs.YtebhlfmianohlaaDoor
open Go.RowKit Go.Shelf
attribute [local go_sem] Oper.semAt_some

theorem bes_short : ∀ (m h a : Nat), (bes m h a).length ≤ m := by
  intro m
  induction m using Nat.strongRecOn with
  | _ m ih =>
    intro h a
    by_cases hm : 1 < m
    · rw [bes_more hm, List.length_append]
      have := ih ((m + 1) / 2) (by omega) (h + 1) (a / 2)
      split
      · simp only [List.length_singleton]; omega
      · simp only [List.length_nil]; omega
    · rw [bes_one hm]
      simp

set_option maxHeartbeats 4000000 in
set_option maxRecDepth 100000 in
theorem steps_any (n i : Nat) (hn : n < 9223372036854775808) (hi : i < n) (w : World) :
    Calls Tryd.prog 31 #[.int .i64 (n : Int), .int .i64 (i : Int)] w fun e w' => e = .returned (.int .i64 ((bes n 0 i).length : Int)) ∧ Below w.heap.size w w' := by
  have HN := Lib.hid (And.intro hn hi)
  clear hn hi
  refine (callsIn_wide (n := 3)).1 ?_
  refine callsIn_of_wp_marks Tryd.func31 rfl trivial ?_ rfl
  simp only [Tryd.ntmps31, List.size_toArray, List.length_cons, List.length_nil, Nat.reduceAdd, Nat.reduceSub, Array.replicate_succ, Array.replicate_zero, List.push_toArray, List.append_toArray, List.nil_append, List.cons_append]
  gi_wp2_with (refine ⟨trivial, ?_⟩; gi_at_call 23; refine (callsIn_wide.2 (beside_any n i _)).mono ?_; rintro _ _ ⟨rfl, rfl⟩)
  obtain ⟨W1, hW1⟩ : ∃ W1, ((w.alloc (.cells #[.int .i64 0] 3)).alloc (.cells #[.int .i64 (n : Int)] 3)).alloc (.cells #[.int .i64 (i : Int)] 3) = W1 := ⟨_, rfl⟩
  have hsz : W1.heap.size = w.heap.size + 3 := by rw [← hW1]; simp
  have hb1 : Below w.heap.size w W1 := by rw [← hW1]; exact (((Below.refl _ _).alloc (Nat.le_refl _) _).alloc (by simp) _).alloc (by simp; omega) _
  have hx0 : Boxed W1 w.heap.size 3 (.int .i64 0) := by
    rw [← hW1]
    exact ((Boxed.new w 3 (.int .i64 0)).alloc _).alloc _
  have hx1 : W1.heap[w.heap.size + 1]? = some (.cells #[.int .i64 (n : Int)] 3 (0, 0)) := by
    rw [← hW1]
    have := heap_alloc_new (w.alloc (.cells #[.int .i64 0] 3)) (.cells #[.int .i64 (n : Int)] 3)
    refine (Below.heap_alloc _ _ _ (by simp)).trans ?_
    simpa using this
  have hx2 : W1.heap[w.heap.size + 1 + 1]? = some (.cells #[.int .i64 (i : Int)] 3 (0, 0)) := by
    rw [← hW1]
    have := heap_alloc_new ((w.alloc (.cells #[.int .i64 0] 3)).alloc (.cells #[.int .i64 (n : Int)] 3)) (.cells #[.int .i64 (i : Int)] 3)
    simpa using this
  rw [hW1]
  refine wpIn_rangeFunc_it (gf := 42) (lb := #[.pointer (some ⟨w.heap.size + 1, 0, none⟩), .pointer (some ⟨w.heap.size + 1 + 1, 0, none⟩)]) rfl (enters_of Tryd.func42 (by kernel_rfl) rfl) (beside_iter n i HN.out.1 HN.out.2 (w.heap.size + 1) W1 hx1 hx2) (Below.refl _ _) (fun _ h => h.elim) (fun _ => rfl)
    (fun _ pre W => Boxed W w.heap.size 3 (.int .i64 (pre.length : Int)) ∧ Below w.heap.size w W) (fun _ _ _ _ => False)
    (fun D D' s X Y hB hs hS _ => ⟨hS.boxed hs.1 (hB.not (by omega)), hS.below hs.2 hB (Nat.le_refl _) (by omega)⟩) (fun _ => still_false _) ⟨hx0, hb1⟩
    (fun x a' _ => a' = { tmps := #[.int .i64 (n : Int), .int .i64 (i : Int), undef, undef, .int .i64 0, .pointer (some ⟨w.heap.size, 0, none⟩), .int .i64 (n : Int), .int .i64 (i : Int), besFn (w.heap.size + 1), .int .i64 (x.1 : Int), .int .i64 (x.2 : Int), undef, undef, undef], defers := [] }) (fun _ _ => ownFrom_pure _ _) ?assign ?body ?done ?stop
  case assign =>
    intro l D pre x W C _ hi _ hC
    simp only [besE]
    gi_wp2
    exact hC _ _ (Kept.refl _ _ _ _) hi (by simp)
  case body =>
    rintro l D pre x a' W hl _ hB ⟨hbx, hbl⟩ ⟨r, hr⟩ rfl
    have hlen : (pre ++ [x]).length ≤ n := by
      have h1 := bes_short n 0 i
      rw [← hr, List.length_append] at h1
      omega
    have hgs : w.heap.size < W.heap.size := lt_of_cells hbx
    have hc := hbx.cell
    have hf := hbx.frozen
    have HX := Lib.hid (And.intro hbx (And.intro hbl hr))
    have hw := IntWalk.i64_in ((pre.length : Int) + 1) (by have := HN.out.1; simp at hlen; omega)
    clear hbx hbl hr
    gi_wp2
    refine ⟨?_, ?_, ?_⟩
    · exact Kept.of_gr (row := some w.heap.size) (grownBy_setCell' W w.heap.size _) (fun g e => by
        injection e with e
        subst e
        exact ⟨hB.not (by omega), fun h => h.elim, _, _, _, HX.out.1⟩)
    · have := HX.out.1.set (.int .i64 ((pre.length : Int) + 1))
      simpa using this
    · exact HX.out.2.1.setCell (Nat.le_refl _) _
  case done =>
    rintro E D xs W hE _ hB rfl _ ⟨hbx, hbl⟩ hK
    have hc := hbx.cell
    have HX := Lib.hid (And.intro hbx (And.intro hbl hK))
    clear hbx hbl hK
    gi_wp2
    refine ⟨by simp, .inl ⟨_, _, rfl, run_takeDeferred HX.out.2.2, ?_⟩⟩
    exact ⟨_, results_tmp rfl _ _ _, rfl, HX.out.2.1.trans (belowK_b (w := w) (Nat.le_refl _) W E _ _ (by omega) HX.out.2.2 rfl rfl)⟩
  case stop =>
    intro E D c pre W _ _ _ _ h _
    exact h.elim
end Go.Proofs.YtebhlfmianohlaaDoor
