/-
  The reference's Prove.
-/
import Derived.Test.YtebhlfmianohlaaDoorProofRefRoot
import Derived.Test.YtebhlfmianohlaaDoorProofProvePure
namespace Go.Proofs.YtebhlfmianohlaaDoor
open Go.RowKit

def RPv (w2 : World) (b : List UInt8) (i' N : Nat) (iv lv v : Value) (wr : World) : Prop :=
  ∃ (ij n k : Nat) (A : Option Addr) (c : Nat) (l ws : List (List UInt8)), iv = .int .i64 (ij : Int) ∧ lv = .slice A n c ∧ ij < n ∧ n ≤ N ∧ k + n ≤ N ∧ ws ++ wayL l ij = wayL (digs b) i' ∧ (∀ x ∈ ws, x.length = 32) ∧ Ids wr (fun g => some g ≠ v.ownBlock) A n c l ∧ wr.ownsRow w2.heap.size 31 32 v k (idsC ws) ∧ Below w2.heap.size w2 wr

set_option maxHeartbeats 4000000 in
set_option maxRecDepth 100000 in
theorem rprove_any (b : List UInt8) (hb : b.length ≤ 1000000) (i : Int) (w : World) :
    Calls Tryd.prog 11 #[.string (st b), .int .i64 i] w fun e w' => ∃ A n c, e = .returned (.tuple #[.string (st (proveLeaf b i)), .slice A n c, .int .i64 (proveErr b i)]) ∧ Ids w' (fun _ => True) A n c (proveWay b i) ∧ Below w.heap.size w w' := by
  obtain ⟨i0, hi, hz0, hz1, hz2⟩ := info_parts id_info3
  have HI := Lib.hid (And.intro hi (And.intro hz0 (And.intro hz1 hz2)))
  have hpos := splitL_pos b
  have hcnt := splitL_count b
  have hN6 : (splitL b).length ≤ 1000000 := by split at hcnt <;> omega
  have hro := rrow_any b hb w
  by_cases hr : 0 ≤ i ∧ i < ((splitL b).length : Int)
  · rw [proveLeaf, if_pos hr, proveErr, if_pos hr, proveWay, if_pos hr]
    obtain ⟨i', rfl⟩ := Int.eq_ofNat_of_zero_le hr.1
    rw [Int.toNat_natCast]
    have hsp := fun W => rsplit_any b hb W
    obtain ⟨N, hN⟩ : ∃ N, N = (splitL b).length := ⟨_, rfl⟩
    rw [← hN] at hro hpos hN6 hsp
    have hi' : i' < N := by omega
    have d1 : ¬ (i' : Int) < 0 := by omega
    have d2 : ¬ (N : Int) ≤ (i' : Int) := by omega
    obtain ⟨m, hm⟩ : ∃ m, m = (splitL b)[i']?.getD [] := ⟨_, rfl⟩
    rw [← hm]
    have HM := Lib.hid (And.intro hm (And.intro hN (And.intro hi' (And.intro hN6 hpos))))
    clear hi hz0 hz1 hz2 hb hcnt hr hm hN
    go_enter Tryd.func11, Tryd.ntmps11
    go_wp2_with fail
    refine hro.mono ?_
    clear hro
    rintro _ w1 ⟨v, rfl, hown, hb1⟩
    obtain ⟨A1, c1, rfl, hi1⟩ := own_ids hown (digs_32 b)
    have H1 := Lib.hid (And.intro hi1 hb1)
    clear hown hi1 hb1
    go_wp2_with fail
    refine (hsp w1).mono ?_
    clear hsp
    rintro _ w2 ⟨v, rfl, hown, hb2⟩
    obtain ⟨g, cap, rfl, hcap⟩ := hown.form hpos
    have hcell : w2.cell? ⟨g, i', none⟩ = some (.string (st m)) := by
      rw [hown.cellAt i' (by omega), HM.out.1, strs]
      simp [show i' < (splitL b).length by rw [← HM.out.2.1]; exact hi']
    have H2 : Hid (Ids w2 (fun _ => True) A1 N c1 (digs b) ∧ Below w.heap.size w w2) := Lib.hid ⟨(H1.out.1.below hb2).mono (fun _ _ _ => trivial), H1.out.2.trans (hb2.mono H1.out.2.size)⟩
    clear hown hb2 hcap
    go_wp2_with fail
    go_loopw [1, 7, 9] (fun iv lv v wr => RPv w2 b i' N iv lv v wr) (fun _ lv _ _ => slLn lv)
    case atStart =>
      unfold RPv
      exact ⟨i', N, 0, A1, c1, _, [], rfl, rfl, HM.out.2.2.1, Nat.le_refl _, by omega, rfl, (fun _ h => by cases h), H2.out.1.mono (fun _ _ _ h => by cases h), by simpa [idsC, u8s] using World.ownsRow_nil _ _ _ _, Below.refl _ _⟩
    case round =>
      obtain ⟨ij, n, k, A, c, l, ws, rfl, rfl, hij, hnN, hkN, hway, hw32, hids, hown, hbr⟩ := hrel
      have HR := Lib.hid (And.intro hids (And.intro hown (And.intro hbr (And.intro hway hw32))))
      clear hids hown hbr hway hw32
      by_cases h1 : 1 < n
      · have h1' : (1 : Int) < (n : Int) := by omega
        by_cases ho : ij % 2 = 1
        · skip
          obtain ⟨X, hX⟩ : ∃ X, X = l[ij - 1]?.getD [] := ⟨_, rfl⟩
          obtain ⟨XS, hXS⟩ : ∃ XS, XS = row8 X := ⟨_, rfl⟩
          have hxn : ij - 1 < n := by omega
          have HX : Hid (XS = row8 X ∧ X.length = 32 ∧ X = l[ij - 1]?.getD []) := Lib.hid ⟨hXS, by rw [hX]; exact get32 HR.out.1.each (i := ij - 1) (by rw [HR.out.1.len]; exact hxn), hX⟩
          have HWY : Hid ((ws ++ [X]) ++ wayL (aboveL l) (ij / 2) = wayL (digs b) i') := Lib.hid (by
            rw [← HR.out.2.2.2.1, wayL_more (l := l) (by rw [HR.out.1.len]; exact h1) ij, if_pos ho, ← hX, List.append_assoc]
            try rw [HR.out.1.len]
            try rfl)
          have hrow := row8_cell (l := X) (by rw [hXS.symm]; exact heap_alloc_new wr (.cells XS 31))
          obtain ⟨ba, off, rfl, _⟩ := HR.out.1.row (by omega)
          have hw0 := IntWalk.i64_in ((ij : Int) - 1) (by omega)
          clear hX hXS
          go_wp2_with (first
            | refine wpList_load_id (by rfl) (.tmp 35) (by rfl) HR.out.1 (ij - 1) hxn XS (by rw [← HX.out.2.2]; exact HX.out.1) _ rfl (by rfl) ?_
            | refine wpList_id_lit (by rfl) (.tmp 36) (by rfl) XS X HX.out.1 HX.out.2.1 (by rfl) ?_
            | (at_builtin; refine wpList_append_own_at _ rfl _ _ 24 rfl w2.heap.size 31 i0 (.agg zerosId) 32 32 Tryd.underlying24 HI.out.1 HI.out.2.1 HI.out.2.2.1 HI.out.2.2.2 (by kernel_rfl) (by decide) _ k (idsC ws) rfl (HR.out.2.1.alloc _) ⟨wr.heap.size, 0, none⟩ 1 1 (u8s X) rfl (by rw [u8s_length, HX.out.2.1]) hrow (u8s_one X) (by unfold maxLen; omega) (by omega) (by have := HR.out.2.2.1.size; simp; omega) ?_))
          intro v' w3 hown3 hgrow _ hat
          have hlt2 := HR.out.2.1.lt
          have hids3 : Ids w3 (fun g => some g ≠ v'.ownBlock) (some ⟨ba, off, none⟩) n c l := by
            have ha := (HR.out.1.below ((Below.refl _ wr).alloc (Nat.le_refl _) (.cells XS 31))).mono (T := fun g => some g ≠ u9.ownBlock ∧ g < wr.heap.size + 1) (fun g hg h => ⟨h, by simpa using hg⟩)
            refine (ha.turned (Turned.of_gr (S := fun g => u9.ownBlock = some g) hgrow (fun g h => h)) (fun g _ h e => h.1 e.symm)).mono (fun g _ h => ?_)
            rcases hat with e | e
            · rw [e]; exact h.1
            · rw [e]; intro e2; injection e2 with e2; omega
          have H3 : Hid (Below w2.heap.size w2 w3 ∧ Ids w3 (fun g => some g ≠ v'.ownBlock) (some ⟨ba, off, none⟩) n c l ∧ w3.ownsRow w2.heap.size 31 32 v' (k + 1) (idsC (ws ++ [X])) ∧ ∀ x ∈ ws ++ [X], x.length = 32) := Lib.hid ⟨(HR.out.2.2.1.alloc HR.out.2.2.1.size _).grown hgrow (by have := HR.out.2.2.1.size; simp; omega) (fun b hb => (hlt2 b hb).1), hids3, by rw [idsC_app]; exact hown3, fun x hx => by
            rcases List.mem_append.1 hx with h | h
            · exact HR.out.2.2.2.2 x h
            · rw [List.mem_singleton.1 h]; exact HX.out.2.1⟩
          clear hids3 hown3 hgrow hat hlt2 hrow hw0
          go_wp2_with fail
          refine (rabove_any H3.out.2.1 (by omega) (by omega)).mono ?_
          rintro _ w4 ⟨v5, rfl, hown5, hb4⟩
          obtain ⟨A5, c5, rfl, hi5⟩ := own_ids hown5 (aboveL_32 HR.out.1.each)
          have hlt3 := H3.out.2.2.1.lt
          have H4 : Hid (Ids w4 (fun g => some g ≠ v'.ownBlock) A5 ((n + 1) / 2) c5 (aboveL l) ∧ w4.ownsRow w2.heap.size 31 32 v' (k + 1) (idsC (ws ++ [X])) ∧ Below w2.heap.size w2 w4) := Lib.hid ⟨hi5.mono (fun g _ h e => by have := (hlt3 g e.symm).2; omega), own_below H3.out.2.2.1 hb4, H3.out.1.trans (hb4.mono H3.out.1.size)⟩
          clear hown5 hb4 hi5 hlt3
          go_wp2_with fail
          go_roundw
          case rel => unfold RPv; exact ⟨ij / 2, (n + 1) / 2, k + 1, A5, c5, _, _, congrArg _ (by omega), rfl, by omega, by omega, by omega, HWY.out, H3.out.2.2.2, H4.out.1, H4.out.2.1, H4.out.2.2⟩
          case measure => simp only [slLn]; omega
        · by_cases hb2 : ij + 1 < n
          · obtain ⟨X, hX⟩ : ∃ X, X = l[ij + 1]?.getD [] := ⟨_, rfl⟩
            obtain ⟨XS, hXS⟩ : ∃ XS, XS = row8 X := ⟨_, rfl⟩
            have hxn : ij + 1 < n := by omega
            have HX : Hid (XS = row8 X ∧ X.length = 32 ∧ X = l[ij + 1]?.getD []) := Lib.hid ⟨hXS, by rw [hX]; exact get32 HR.out.1.each (i := ij + 1) (by rw [HR.out.1.len]; exact hxn), hX⟩
            have HWY : Hid ((ws ++ [X]) ++ wayL (aboveL l) (ij / 2) = wayL (digs b) i') := Lib.hid (by
              rw [← HR.out.2.2.2.1, wayL_more (l := l) (by rw [HR.out.1.len]; exact h1) ij, if_neg ho, if_pos (show ij + 1 < l.length by rw [HR.out.1.len]; exact hb2), ← hX, List.append_assoc]
              try rw [HR.out.1.len]
              try rfl)
            have hrow := row8_cell (l := X) (by rw [hXS.symm]; exact heap_alloc_new wr (.cells XS 31))
            obtain ⟨ba, off, rfl, _⟩ := HR.out.1.row (by omega)
            have hw0 := IntWalk.i64_in ((ij : Int) + 1) (by omega)
            clear hX hXS
            go_wp2_with (first
              | refine wpList_load_id (by rfl) (.tmp 48) (by rfl) HR.out.1 (ij + 1) hxn XS (by rw [← HX.out.2.2]; exact HX.out.1) _ rfl (by rfl) ?_
              | refine wpList_id_lit (by rfl) (.tmp 49) (by rfl) XS X HX.out.1 HX.out.2.1 (by rfl) ?_
              | (at_builtin; refine wpList_append_own_at _ rfl _ _ 24 rfl w2.heap.size 31 i0 (.agg zerosId) 32 32 Tryd.underlying24 HI.out.1 HI.out.2.1 HI.out.2.2.1 HI.out.2.2.2 (by kernel_rfl) (by decide) _ k (idsC ws) rfl (HR.out.2.1.alloc _) ⟨wr.heap.size, 0, none⟩ 1 1 (u8s X) rfl (by rw [u8s_length, HX.out.2.1]) hrow (u8s_one X) (by unfold maxLen; omega) (by omega) (by have := HR.out.2.2.1.size; simp; omega) ?_))
            intro v' w3 hown3 hgrow _ hat
            have hlt2 := HR.out.2.1.lt
            have hids3 : Ids w3 (fun g => some g ≠ v'.ownBlock) (some ⟨ba, off, none⟩) n c l := by
              have ha := (HR.out.1.below ((Below.refl _ wr).alloc (Nat.le_refl _) (.cells XS 31))).mono (T := fun g => some g ≠ u9.ownBlock ∧ g < wr.heap.size + 1) (fun g hg h => ⟨h, by simpa using hg⟩)
              refine (ha.turned (Turned.of_gr (S := fun g => u9.ownBlock = some g) hgrow (fun g h => h)) (fun g _ h e => h.1 e.symm)).mono (fun g _ h => ?_)
              rcases hat with e | e
              · rw [e]; exact h.1
              · rw [e]; intro e2; injection e2 with e2; omega
            have H3 : Hid (Below w2.heap.size w2 w3 ∧ Ids w3 (fun g => some g ≠ v'.ownBlock) (some ⟨ba, off, none⟩) n c l ∧ w3.ownsRow w2.heap.size 31 32 v' (k + 1) (idsC (ws ++ [X])) ∧ ∀ x ∈ ws ++ [X], x.length = 32) := Lib.hid ⟨(HR.out.2.2.1.alloc HR.out.2.2.1.size _).grown hgrow (by have := HR.out.2.2.1.size; simp; omega) (fun b hb => (hlt2 b hb).1), hids3, by rw [idsC_app]; exact hown3, fun x hx => by
              rcases List.mem_append.1 hx with h | h
              · exact HR.out.2.2.2.2 x h
              · rw [List.mem_singleton.1 h]; exact HX.out.2.1⟩
            clear hids3 hown3 hgrow hat hlt2 hrow hw0
            go_wp2_with fail
            refine (rabove_any H3.out.2.1 (by omega) (by omega)).mono ?_
            rintro _ w4 ⟨v5, rfl, hown5, hb4⟩
            obtain ⟨A5, c5, rfl, hi5⟩ := own_ids hown5 (aboveL_32 HR.out.1.each)
            have hlt3 := H3.out.2.2.1.lt
            have H4 : Hid (Ids w4 (fun g => some g ≠ v'.ownBlock) A5 ((n + 1) / 2) c5 (aboveL l) ∧ w4.ownsRow w2.heap.size 31 32 v' (k + 1) (idsC (ws ++ [X])) ∧ Below w2.heap.size w2 w4) := Lib.hid ⟨hi5.mono (fun g _ h e => by have := (hlt3 g e.symm).2; omega), own_below H3.out.2.2.1 hb4, H3.out.1.trans (hb4.mono H3.out.1.size)⟩
            clear hown5 hb4 hi5 hlt3
            go_wp2_with fail
            go_roundw
            case rel => unfold RPv; exact ⟨ij / 2, (n + 1) / 2, k + 1, A5, c5, _, _, congrArg _ (by omega), rfl, by omega, by omega, by omega, HWY.out, H3.out.2.2.2, H4.out.1, H4.out.2.1, H4.out.2.2⟩
            case measure => simp only [slLn]; omega
          · have HWY : Hid (ws ++ wayL (aboveL l) (ij / 2) = wayL (digs b) i') := Lib.hid (by
              rw [← HR.out.2.2.2.1, wayL_more (l := l) (by rw [HR.out.1.len]; exact h1) ij, if_neg ho, if_neg (show ¬ ij + 1 < l.length by rw [HR.out.1.len]; exact hb2), List.nil_append])
            have hw0 := IntWalk.i64_in ((ij : Int) + 1) (by omega)
            go_wp2_with fail
            refine (rabove_any HR.out.1 (by omega) (by omega)).mono ?_
            rintro _ w4 ⟨v5, rfl, hown5, hb4⟩
            obtain ⟨A5, c5, rfl, hi5⟩ := own_ids hown5 (aboveL_32 HR.out.1.each)
            have hlt3 := HR.out.2.1.lt
            have H4 : Hid (Ids w4 (fun g => some g ≠ u9.ownBlock) A5 ((n + 1) / 2) c5 (aboveL l) ∧ w4.ownsRow w2.heap.size 31 32 u9 k (idsC ws) ∧ Below w2.heap.size w2 w4) := Lib.hid ⟨hi5.mono (fun g _ h e => by have := (hlt3 g e.symm).2; omega), own_below HR.out.2.1 hb4, HR.out.2.2.1.trans (hb4.mono HR.out.2.2.1.size)⟩
            clear hown5 hb4 hi5 hlt3
            go_wp2_with fail
            go_roundw
            case rel => unfold RPv; exact ⟨ij / 2, (n + 1) / 2, k, A5, c5, _, _, congrArg _ (by omega), rfl, by omega, by omega, by omega, HWY.out, HR.out.2.2.2.2, H4.out.1, H4.out.2.1, H4.out.2.2⟩
            case measure => simp only [slLn]; omega
      · have h1' : ¬ (1 : Int) < (n : Int) := by omega
        have hwy := HR.out.2.2.2.1
        rw [wayL_one (by rw [HR.out.1.len]; exact h1), List.append_nil] at hwy
        obtain ⟨A9, c9, e9, hi9⟩ := own_ids HR.out.2.1 HR.out.2.2.2.2
        subst e9
        have HF : Hid (Ids wr (fun _ => True) A9 k c9 (wayL (digs b) i') ∧ Below w.heap.size w wr) := Lib.hid ⟨by rw [← hwy]; exact hi9.mono (fun _ _ _ => trivial), H2.out.2.trans (HR.out.2.2.1.mono H2.out.2.size)⟩
        clear hwy hi9
        go_wp2_with fail
        refine bodyPost_ret (results_tmp3 rfl _ _ _) rfl ?_
        exact ⟨_, _, _, rfl, HF.out.1, HF.out.2⟩
  · have HP : Hid (proveLeaf b i = [] ∧ proveErr b i = 14 ∧ proveWay b i = []) := Lib.hid ⟨by rw [proveLeaf, if_neg hr], by rw [proveErr, if_neg hr], by rw [proveWay, if_neg hr]⟩
    have hfin : ∀ w', Below w.heap.size w w' → ∃ A n c, (Ending.returned (.tuple #[.string { data := #[] }, .slice none 0 0, .int .i64 14])) = .returned (.tuple #[.string (st (proveLeaf b i)), .slice A n c, .int .i64 (proveErr b i)]) ∧ Ids w' (fun _ => True) A n c (proveWay b i) ∧ Below w.heap.size w w' := fun w' hb => ⟨none, 0, 0, by rw [HP.out.1, HP.out.2.1]; rfl, by rw [HP.out.2.2]; exact Ids.nil _ _ _ _ (Nat.zero_le _), hb⟩
    have HF := Lib.hid hfin
    clear hfin hi hz0 hz1 hz2 hcnt
    obtain ⟨N, hN⟩ : ∃ N, N = (splitL b).length := ⟨_, rfl⟩
    rw [← hN] at hro hr
    by_cases h1 : i < 0
    · clear hr hN hN6 hpos hb
      go_enter Tryd.func11, Tryd.ntmps11
      go_wp2_with fail
      refine hro.mono ?_
      clear hro
      rintro _ w1 ⟨v, rfl, hown, hb1⟩
      obtain ⟨A1, c1, rfl, hi1⟩ := own_ids hown (digs_32 b)
      go_wp2_with fail
      refine bodyPost_ret (results_tmp3 rfl _ _ _) rfl ?_
      exact HF.out _ hb1
    · have h2 : (N : Int) ≤ i := by omega
      clear hr hN hN6 hpos hb
      go_enter Tryd.func11, Tryd.ntmps11
      go_wp2_with fail
      refine hro.mono ?_
      clear hro
      rintro _ w1 ⟨v, rfl, hown, hb1⟩
      obtain ⟨A1, c1, rfl, hi1⟩ := own_ids hown (digs_32 b)
      go_wp2_with fail
      refine bodyPost_ret (results_tmp3 rfl _ _ _) rfl ?_
      exact HF.out _ hb1
end Go.Proofs.YtebhlfmianohlaaDoor
