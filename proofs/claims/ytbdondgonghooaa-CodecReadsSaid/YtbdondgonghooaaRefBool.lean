/-
  The document's reading of a bool, by value.
-/
import Derived.Test.YtbdondgonghooaaRefB
namespace Go.Proofs.Ytbdondgonghooaa
open Go.RowKit Codec

set_option linter.unusedSimpArgs false
set_option maxHeartbeats 1000000 in
theorem ref_bool (l : List UInt8) (e : Int) (w : World) : Calls Try.prog 18 #[RV l e] w fun r w' => ∃ y : Bool, (boE l e = 0 → y = boX l e) ∧ RGot w (boE l e) (fxL l e 1) (.bool y) r w' := by
  have hu := fun w => ref_fixed l e 1 w
  unfold boE boX
  by_cases ht : tkE l e 1 = 0
  · obtain ⟨rfl, _, hlen⟩ := tkE_zero ht
    have hlen : 1 ≤ l.length := hlen
    obtain ⟨c, t, rfl⟩ : ∃ c t, l = c :: t := by
      cases l with
      | nil => simp at hlen
      | cons c t => exact ⟨c, t, rfl⟩
    have e2 : fxL (c :: t) 0 1 = t := by unfold fxL; rw [if_pos ht]; rfl
    have e3 : fxB (c :: t) 0 1 = [c] := by unfold fxB; rw [if_pos ht]; rfl
    have e4 : ((c :: t)[0]?.getD 0) = c := rfl
    have hnt : ¬ (tkE (c :: t) 0 1 ≠ 0) := fun h => h ht
    rw [if_neg hnt, if_neg hnt, e2, e4]
    simp only [ht, e2, e3] at hu
    clear ht e2 e3 e4 hnt hlen
    have hd0 := strB_head c []
    have hsz : (strB [c]).size = 1 := by rw [strB_size]; rfl
    by_cases hc : 1 < c.toNat
    · rw [if_pos hc]
      have hc' : 1 < (c.toNat : Int) := by omega
      unfold RV at *
      go_enter Try.func18, Try.ntmps18
      go_wp2_with fail
      refine (hu _).mono ?_
      rintro _ w1 ⟨rfl, h2⟩
      obtain ⟨⟨c1, c2, c3, c4⟩, ⟨f1, f2, f3, f4⟩, hb1⟩ := two_kept h2
      have hbs := below_four hb1
      have hss := set_set
      clear h2 hu hc
      go_wp2_with fail
      refine bodyPost_ret (v := .tuple #[.agg #[.string (strB t), .int .i64 11], .bool false]) (by simp [results, Try.results18, go_sem, c3, c4]) rfl ⟨false, (fun h => by cases h), t, rfl, (fun h => by cases h), hbs _ _ _ _⟩
    · rw [if_neg hc]
      have hc' : (c.toNat : Int) ≤ 1 := by omega
      have HC := Lib.hid (show ((c.toNat : Int) == 1) = (c.toNat == 1) by
        by_cases h : c.toNat = 1
        · rw [h]; rfl
        · have h2 : ¬ ((c.toNat : Int) = 1) := by omega
          rw [show ((c.toNat : Int) == 1) = false by simpa using h2, show (c.toNat == 1) = false by simpa using h])
      unfold RV at *
      go_enter Try.func18, Try.ntmps18
      go_wp2_with fail
      refine (hu _).mono ?_
      rintro _ w1 ⟨rfl, h2⟩
      obtain ⟨⟨c1, c2, c3, c4⟩, ⟨f1, f2, f3, f4⟩, hb1⟩ := two_kept h2
      have hbs := below_four hb1
      have hss := set_set
      clear h2 hu hc
      go_wp2_with fail
      refine wp_region_plan (fun W => W.cell? ⟨w.heap.size, 0, none⟩ = some (.string (strB t)) ∧ W.cell? ⟨w.heap.size, 1, none⟩ = some (.int .i64 0)) [([0, 1, 2, 3], 4)] [5] (by kernel_rfl) (by kernel_rfl) (fun _ _ d _ _ h => by cases d <;> exact h) (by constructor <;> simp [go_sem, c1, c2]) ?_
      refine plan_eff ?_
      refine seg_read ?v1 (by rfl) (by rfl) ?h1 ?_
      case h1 => intro W hW; obtain ⟨e1, e2⟩ := hW; go_simp; with_reducible rfl
      try simp only [Act.put, List.setIfInBounds_toArray, List.set_cons_zero, List.set_cons_succ]
      refine seg_read ?v2 (by rfl) (by rfl) ?h2 ?_
      case h2 => intro W hW; obtain ⟨e1, e2⟩ := hW; go_simp; with_reducible rfl
      try simp only [Act.put, List.setIfInBounds_toArray, List.set_cons_zero, List.set_cons_succ]
      refine seg_read ?v3 (by rfl) (by rfl) ?h3 ?_
      case h3 => intro W hW; obtain ⟨e1, e2⟩ := hW; go_simp; with_reducible rfl
      try simp only [Act.put, List.setIfInBounds_toArray, List.set_cons_zero, List.set_cons_succ]
      refine seg_read ?v4 (by rfl) (by rfl) ?h4 ?_
      case h4 => intro W hW; obtain ⟨e1, e2⟩ := hW; go_simp; with_reducible rfl
      try simp only [Act.put, List.setIfInBounds_toArray, List.set_cons_zero, List.set_cons_succ]
      refine seg_nil ?_
      refine eff_step (by rfl) (fun K hK => ?_)
      go_simp
      obtain ⟨W9, hW9⟩ : ∃ W9, W9 = ((((w1.setCell ⟨w.heap.size, 0, none⟩ (.string (strB t))).setCell ⟨w.heap.size, 1, none⟩ (.int .i64 0)).setCell ⟨w.heap.size + 1, 0, none⟩ (.string (strB t))).setCell ⟨w.heap.size + 1, 1, none⟩ (.int .i64 0)).drew := ⟨_, rfl⟩
      have hb9 : Below w.heap.size w W9 := by rw [hW9]; exact (hbs _ _ _ _).drew
      have g1 : W9.cell? ⟨w.heap.size, 0, none⟩ = some (.string (strB t)) := by rw [hW9]; simp [go_sem, c1, c2, c3, c4]
      have g2 : W9.cell? ⟨w.heap.size, 1, none⟩ = some (.int .i64 0) := by rw [hW9]; simp [go_sem, c1, c2, c3, c4]
      have g3 : W9.cell? ⟨w.heap.size + 1, 0, none⟩ = some (.string (strB t)) := by rw [hW9]; simp [go_sem, c1, c2, c3, c4]
      have g4 : W9.cell? ⟨w.heap.size + 1, 1, none⟩ = some (.int .i64 0) := by rw [hW9]; simp [go_sem, c1, c2, c3, c4]
      rw [← hW9]
      clear hW9 hbs hb1
      refine hK _ _ ⟨fun W => W = W9, rfl, fun W e => e ▸ ⟨g1, g2⟩, ?_⟩
      clear hK K
      refine plan_last ?_
      refine seg_step (by rfl) (fun K hK => ?_)
      go_simp
      refine hK _ ?_
      clear hK K
      refine seg_nil ?_
      go_wp2
      rw [HC.out]
      refine bodyPost_ret (v := .tuple #[.agg #[.string (strB t), .int .i64 0], .bool (c.toNat == 1)]) (by simp [results, Try.results18, go_sem, g3, g4]) rfl ⟨_, (fun _ => rfl), t, rfl, (fun _ => rfl), hb9⟩
  · have hne : tkE l e 1 ≠ 0 := ht
    rw [if_pos hne, if_pos hne]
    have HE := Lib.hid ht
    generalize tkE l e 1 = e1 at *
    generalize fxL l e 1 = m at *
    generalize fxB l e 1 = b at *
    have he' : (e1 != 0) = true := by simpa using ht
    clear ht hne
    unfold RV at *
    go_enter Try.func18, Try.ntmps18
    go_wp2_with fail
    refine (hu _).mono ?_
    rintro _ w1 ⟨rfl, h2⟩
    obtain ⟨⟨c1, c2, c3, c4⟩, ⟨f1, f2, f3, f4⟩, hb1⟩ := two_kept h2
    have hbs := below_four hb1
    have hss := set_set
    clear h2 hu
    go_wp2_with fail
    refine bodyPost_ret (v := .tuple #[.agg #[.string (strB m), .int .i64 e1], .bool false]) (by simp [results, Try.results18, go_sem, c3, c4]) rfl ⟨false, fun h => absurd h HE.out, m, rfl, fun h => absurd h HE.out, hbs _ _ _ _⟩
end Go.Proofs.Ytbdondgonghooaa
