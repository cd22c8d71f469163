/-
  The reference's row above one.
-/
import Derived.Test.YtebhlfmianohlaaDoorProofRefRow
import Derived.Test.YtebhlfmianohlaaDoorGrowY
import Derived.Test.YtebhlfmianohlaaDoorProofRows
import Derived.Deep.AppendLies
namespace Go.Proofs.YtebhlfmianohlaaDoor
open Go.RowKit

@[reducible] def AbL (B J : Nat) (SV AV P1 P2 : Value) (XS YS ZS : Array Value) (NEW : List Value) : List (Value → World → Prop) :=
  [fun u _ => u = SV, fun u _ => u = AV, fun u _ => u = .int .i64 (2 * (J : Int)), fun u _ => u = P1, fun u _ => u = .agg XS, fun u _ => u = AV, fun u _ => u = .int .i64 (2 * (J : Int)), fun u _ => u = .int .i64 (2 * (J : Int) + 1), fun u _ => u = P2, fun u _ => u = .agg YS, fun u _ => u = .agg ZS,
   fun u V => ∃ q, u = .slice (some ⟨q, 0, none⟩) 1 1 ∧ V.heap[q]? = some (.cells ZS 31 (0, 0)) ∧ some q ≠ SV.ownBlock, fun u V => V.ownsRow B 31 32 u (J + 1) NEW, fun u V => V.ownsRow B 31 32 u (J + 1) NEW]
theorem AbL.mono {B J : Nat} {SV AV P1 P2 : Value} {XS YS ZS : Array Value} {NEW : List Value} {V V' : World} (hb : Below V.heap.size V V') (j : Nat) (u : Value) (h : Grow.nth (AbL B J SV AV P1 P2 XS YS ZS NEW) j u V) : Grow.nth (AbL B J SV AV P1 P2 XS YS ZS NEW) j u V' :=
  Grow.mono_nth (G := fun V V' => Below V.heap.size V V') (L := AbL B J SV AV P1 P2 XS YS ZS NEW) ⟨fun _ _ _ h _ => h, fun _ _ _ h _ => h, fun _ _ _ h _ => h, fun _ _ _ h _ => h, fun _ _ _ h _ => h, fun _ _ _ h _ => h, fun _ _ _ h _ => h, fun _ _ _ h _ => h, fun _ _ _ h _ => h, fun _ _ _ h _ => h, fun _ _ _ h _ => h,
    fun _ _ _ ⟨q, h1, h2, h3⟩ hb => ⟨q, h1, (hb.block _ (lt_of_cells h2)).trans h2, h3⟩, fun _ _ _ h hb => own_below h hb, fun _ _ _ h hb => own_below h hb, trivial⟩ j u V V' h hb

def RAb (w : World) (l : List (List UInt8)) (M : Nat) (v i : Value) (wr : World) : Prop :=
  ∃ j : Nat, j ≤ M ∧ i = .int .i64 (2 * (j : Int)) ∧ wr.ownsRow w.heap.size 31 32 v j (idsC ((aboveL l).take j)) ∧ Below w.heap.size w wr

set_option maxHeartbeats 8000000 in
set_option maxRecDepth 100000 in
theorem rabove_any {w : World} {S : Nat → Prop} {A : Option Addr} {n c : Nat} {l : List (List UInt8)} (h : Ids w S A n c l) (h0 : 0 < n) (hn : n ≤ 1000000) :
    Calls Tryd.prog 27 #[.slice A n c] w fun e w' => ∃ v, e = .returned v ∧ w'.ownsRow w.heap.size 31 32 v ((n + 1) / 2) (idsC (aboveL l)) ∧ Below w.heap.size w w' := by
  obtain ⟨i0, hi, hz0, hz1, hz2⟩ := info_parts id_info3
  have HI := Lib.hid (And.intro hi (And.intro hz0 (And.intro hz1 hz2)))
  obtain ⟨M, hM⟩ : ∃ M, M = (n + 1) / 2 := ⟨_, rfl⟩
  rw [← hM]
  obtain ⟨b, off, rfl, _⟩ := h.row h0
  have HH := Lib.hid (And.intro (h.mono (T := fun x => x < w.heap.size) (fun b hb _ => hb)) (And.intro hn (And.intro hM (show (aboveL l).length = M by rw [aboveL_length, h.len, hM]))))
  have H32 := Lib.hid (aboveL_32 h.each)
  clear hi hz0 hz1 hz2 h hM
  go_enter Tryd.func27, Tryd.ntmps27
  go_wp2_with fail
  go_loopw [3, 4] (fun v i wr => RAb w l M v i wr) (fun _ i _ => n + 1 - (intOf i).toNat)
  case atStart => unfold RAb; exact ⟨0, Nat.zero_le _, rfl, by simpa [idsC, u8s] using World.ownsRow_nil _ _ _ _, Below.refl _ _⟩
  case round =>
    obtain ⟨j, hj, rfl, hown, hbr⟩ := hrel
    have HO := Lib.hid hown
    have HBR := Lib.hid hbr
    have hszr := hbr.size
    clear hown hbr
    have hMe := HH.out.2.2.1
    by_cases hlt : j < M
    · have hjn : 2 * j < n := by omega
      have hjn' : 2 * (j : Int) < (n : Int) := by omega
      have HI1 : Hid (Ids wr (fun x => x < w.heap.size) (some ⟨b, off, none⟩) n c l) := Lib.hid (HH.out.1.below HBR.out)
      have hat := aboveL_at l (2 * j) (by rw [HI1.out.len]; exact hjn)
      rw [show 2 * j / 2 = j by omega, if_neg (by omega), HI1.out.len] at hat
      obtain ⟨X, hX⟩ : ∃ X, X = l[2 * j]?.getD [] := ⟨_, rfl⟩
      obtain ⟨XS, hXS⟩ : ∃ XS, XS = row8 X := ⟨_, rfl⟩
      have HX : Hid (XS = row8 X ∧ X.length = 32 ∧ X = l[2 * j]?.getD []) := Lib.hid ⟨hXS, by rw [hX]; exact get32 HI1.out.each (i := 2 * j) (by rw [HI1.out.len]; exact hjn), hX⟩
      obtain ⟨Z, hZ⟩ : ∃ Z, Z = (aboveL l)[j]?.getD [] := ⟨_, rfl⟩
      have HT : Hid (Z.length = 32 ∧ (aboveL l).take (j + 1) = (aboveL l).take j ++ [Z]) := Lib.hid ⟨by rw [hZ]; exact get32 H32.out (by rw [HH.out.2.2.2]; exact hlt), by
        rw [List.take_add_one, hZ, List.getElem?_eq_getElem (show j < (aboveL l).length by rw [HH.out.2.2.2]; exact hlt)]
        rfl⟩
      rw [← hZ, ← hX] at hat
      clear hZ hX hXS
      have hw3 := IntWalk.i64_in (2 * (j : Int) + 2) (by have := HH.out.2.1; omega)
      by_cases hj2 : 2 * j + 1 < n
      · have hj2' : (2 * (j : Int) + 1) < (n : Int) := by omega
        rw [if_pos hj2] at hat
        obtain ⟨Y, hY⟩ : ∃ Y, Y = l[2 * j + 1]?.getD [] := ⟨_, rfl⟩
        obtain ⟨YS, hYS⟩ : ∃ YS, YS = row8 Y := ⟨_, rfl⟩
        obtain ⟨ZS, hZS⟩ : ∃ ZS, ZS = row8 Z := ⟨_, rfl⟩
        have HY : Hid (YS = row8 Y ∧ Y.length = 32 ∧ Y = l[2 * j + 1]?.getD []) := Lib.hid ⟨hYS, by rw [hY]; exact get32 HI1.out.each (by rw [HI1.out.len]; exact hj2), hY⟩
        have HZ : Hid (ZS = row8 Z ∧ Z.length = 32 ∧ Z = nodeD X Y) := Lib.hid ⟨hZS, HT.out.1, by rw [hY]; exact hat⟩
        clear hY hYS hZS hat
        have hw2 := IntWalk.i64_in (2 * (j : Int) + 1) (by have := HH.out.2.1; omega)
        go_wp2_with fail
        refine (wpIn_wide (n := 3)).1 ?_
        refine wpIn_region_growY (Grow.open_wide _ _) (fun V => Below w.heap.size w V) (fun k V => (k = 12 → V.ownsRow w.heap.size 31 32 u3 j (idsC ((aboveL l).take j)))) (Grow.nth (AbL w.heap.size j u3 (.slice (some ⟨b, off, none⟩) n c) (.pointer (some ⟨b, off + 2 * j * 32, none⟩)) (.pointer (some ⟨b, off + (2 * j + 1) * 32, none⟩)) XS YS ZS (idsC ((aboveL l).take j) ++ u8s Z))) 37 (by kernel_rfl) (by kernel_rfl) (by kernel_rfl) (by rfl) (below_drew HBR.out) (fun k hk => fun _ => HO.out) ?gsteps ?gfin
        case gsteps =>
          show Grow.allBelow _ 14
          refine And.intro ?_ ?s13
          refine And.intro ?_ ?s12
          refine And.intro ?_ ?s11
          refine And.intro ?_ ?s10
          refine And.intro ?_ ?s9
          refine And.intro ?_ ?s8
          refine And.intro ?_ ?s7
          refine And.intro ?_ ?s6
          refine And.intro ?_ ?s5
          refine And.intro ?_ ?s4
          refine And.intro ?_ ?s3
          refine And.intro ?_ ?s2
          refine And.intro ?_ ?s1
          refine And.intro ?_ ?s0
          exact trivial
          case s0 =>
            refine Grow.stepY_in (by rfl) (by rfl) ?_
            intro E V ec eg ef hT hd hu hy R HR
            have e3 : E (.tmp 3) = u3 := hu 3 (by kernel_rfl)
            clear hd hu
            go_simp
            exact HR.out _ _ hT rfl (fun _ _ _ _ _ h => h) (fun _ _ _ h => h)
          case s1 =>
            refine Grow.stepY_in (by rfl) (by rfl) ?_
            intro E V ec eg ef hT hd hu hy R HR
            have e0 : E (.tmp 0) = .slice (some ⟨b, off, none⟩) n c := hu 0 (by kernel_rfl)
            clear hd hu
            go_simp
            exact HR.out _ _ hT rfl (fun _ _ _ _ _ h => h) (fun _ _ _ h => h)
          case s2 =>
            refine Grow.stepY_in (by rfl) (by rfl) ?_
            intro E V ec eg ef hT hd hu hy R HR
            have e4 : E (.tmp 4) = .int .i64 (2 * (j : Int)) := hu 4 (by kernel_rfl)
            clear hd hu
            go_simp
            exact HR.out _ _ hT rfl (fun _ _ _ _ _ h => h) (fun _ _ _ h => h)
          case s3 =>
            refine Grow.stepY_in (by rfl) (by rfl) ?_
            intro E V ec eg ef hT hd hu hy R HR
            have e17 : E (.tmp 17) = .slice (some ⟨b, off, none⟩) n c := hd 1 17 (by kernel_rfl)
            have e18 : E (.tmp 18) = .int .i64 (2 * (j : Int)) := hd 2 18 (by kernel_rfl)
            clear hd hu
            go_simp
            first | (exact HR.out _ _ hT rfl (fun _ _ _ _ _ h => h) (fun _ _ _ h => h)) | (rw [if_pos ⟨by omega, by omega⟩, show (2 * (j : Int)).toNat = 2 * j by omega]; exact HR.out _ _ hT rfl (fun _ _ _ _ _ h => h) (fun _ _ _ h => h))
          case s4 =>
            refine Grow.stepY_in (by rfl) (by rfl) ?_
            intro E V ec eg ef hT hd hu hy R HR
            have e19 : E (.tmp 19) = .pointer (some ⟨b, off + 2 * j * 32, none⟩) := hd 3 19 (by kernel_rfl)
            clear hd hu
            exact runs_load_id (.tmp 19) rfl (HH.out.1.below hT) (2 * j) hjn XS (by rw [← HX.out.2.2]; exact HX.out.1) _ rfl e19 (HR.out _ _ hT rfl (fun _ _ _ _ _ h => h) (fun _ _ _ h => h))
          case s5 =>
            refine Grow.stepY_in (by rfl) (by rfl) ?_
            intro E V ec eg ef hT hd hu hy R HR
            have e0 : E (.tmp 0) = .slice (some ⟨b, off, none⟩) n c := hu 0 (by kernel_rfl)
            clear hd hu
            go_simp
            exact HR.out _ _ hT rfl (fun _ _ _ _ _ h => h) (fun _ _ _ h => h)
          case s6 =>
            refine Grow.stepY_in (by rfl) (by rfl) ?_
            intro E V ec eg ef hT hd hu hy R HR
            have e4 : E (.tmp 4) = .int .i64 (2 * (j : Int)) := hu 4 (by kernel_rfl)
            clear hd hu
            go_simp
            exact HR.out _ _ hT rfl (fun _ _ _ _ _ h => h) (fun _ _ _ h => h)
          case s7 =>
            refine Grow.stepY_in (by rfl) (by rfl) ?_
            intro E V ec eg ef hT hd hu hy R HR
            have e22 : E (.tmp 22) = .int .i64 (2 * (j : Int)) := hd 6 22 (by kernel_rfl)
            clear hd hu
            go_simp
            exact HR.out _ _ hT rfl (fun _ _ _ _ _ h => h) (fun _ _ _ h => h)
          case s8 =>
            refine Grow.stepY_in (by rfl) (by rfl) ?_
            intro E V ec eg ef hT hd hu hy R HR
            have e21 : E (.tmp 21) = .slice (some ⟨b, off, none⟩) n c := hd 5 21 (by kernel_rfl)
            have e23 : E (.tmp 23) = .int .i64 (2 * (j : Int) + 1) := hd 7 23 (by kernel_rfl)
            clear hd hu
            go_simp
            first | (exact HR.out _ _ hT rfl (fun _ _ _ _ _ h => h) (fun _ _ _ h => h)) | (rw [if_pos (by omega), show (2 * (j : Int) + 1).toNat = 2 * j + 1 by omega]; exact HR.out _ _ hT rfl (fun _ _ _ _ _ h => h) (fun _ _ _ h => h))
          case s9 =>
            refine Grow.stepY_in (by rfl) (by rfl) ?_
            intro E V ec eg ef hT hd hu hy R HR
            have e24 : E (.tmp 24) = .pointer (some ⟨b, off + (2 * j + 1) * 32, none⟩) := hd 8 24 (by kernel_rfl)
            clear hd hu
            exact runs_load_id (.tmp 24) rfl (HH.out.1.below hT) (2 * j + 1) hj2 YS (by rw [← HY.out.2.2]; exact HY.out.1) _ rfl e24 (HR.out _ _ hT rfl (fun _ _ _ _ _ h => h) (fun _ _ _ h => h))
          case s10 =>
            refine Grow.stepY_in (by rfl) (by rfl) ?_
            intro E V ec eg ef hT hd hu hy R HR
            have e20 : E (.tmp 20) = .agg XS := hd 4 20 (by kernel_rfl)
            have e25 : E (.tmp 25) = .agg YS := hd 9 25 (by kernel_rfl)
            clear hd hu
            go_simp
            rw [HX.out.1, HY.out.1]
            refine (rnode_any X Y HX.out.2.1 HY.out.2.1 V).mono ?_
            rintro _ w' ⟨rfl, hb⟩
            exact ⟨_, rfl, HR.out _ _ (hT.trans (hb.mono hT.size)) (show Value.agg _ = Value.agg ZS by rw [HZ.out.1, HZ.out.2.2]) (fun k _ _ _ u hu => AbL.mono hb k u hu) (fun k _ _ h e => own_below (h e) hb)⟩
          case s11 =>
            refine Grow.stepY_in (by rfl) (by rfl) ?_
            intro E V ec eg ef hT hd hu hy R HR
            have e26 : E (.tmp 26) = .agg ZS := hd 10 26 (by kernel_rfl)
            have hown := (hy 12 (by decide) (.inr (by kernel_rfl))) rfl
            have HT2 := Lib.hid hT
            clear hy hT
            clear hd hu
            have hrun := run_ids_lit V ZS HZ.out.1 HZ.out.2.1
            simp [execOp, e26, hrun, Result.andThen, Grow.runsTo]
            have hbl := (Below.refl V.heap.size V).alloc (Nat.le_refl _) (.cells ZS 31)
            exact HR.out _ _ (HT2.out.trans (hbl.mono HT2.out.size)) ⟨V.heap.size, rfl, heap_alloc_new V _, fun e => by have := (hown.lt _ e.symm).2; omega⟩ (fun k _ _ _ u hu => AbL.mono hbl k u hu) (fun k _ _ h e => own_below (h e) hbl)
          case s12 =>
            refine Grow.stepY_in (by rfl) (by rfl) ?_
            intro E V ec eg ef hT hd hu hy R HR
            have e16 : E (.tmp 16) = u3 := hd 0 16 (by kernel_rfl)
            obtain ⟨q, e27, hq0, hqr⟩ := hd 11 27 (by kernel_rfl)
            have hown := (hy 12 (by decide) (.inl rfl)) rfl
            clear hy
            clear hd hu
            obtain ⟨v', w', hrun, hown', hgr, _⟩ := run_append_own_at (P := Tryd.prog) V w.heap.size 24 24 31 i0 (.agg zerosId) 32 32 Tryd.underlying24 HI.out.1 HI.out.2.1 HI.out.2.2.1 HI.out.2.2.2 (by kernel_rfl) (by decide) _ j (idsC ((aboveL l).take j)) hown ⟨q, 0, none⟩ 1 1 (u8s Z) (by rw [u8s_length, HZ.out.2.1]) (row8_cell (l := Z) (by rw [← HZ.out.1]; exact hq0)) (u8s_one Z) (by unfold maxLen; have := HH.out.2.1; omega) (by have := HH.out.2.1; omega) hT.size
            simp [execOp, resolve, invoke, builtin, e16, e27, hrun, Result.andThen, Grow.runsTo]
            refine HR.out _ _ (hT.grown hgr hT.size (fun g hg => (hown.lt g hg).1)) hown' (fun k hk hne2 hw u hu => ?_) (fun k _ hne2 h e => absurd e hne2)
            have h9 : k < 14 := hk
            rcases (show k = 0 ∨ k = 1 ∨ k = 2 ∨ k = 3 ∨ k = 4 ∨ k = 5 ∨ k = 6 ∨ k = 7 ∨ k = 8 ∨ k = 9 ∨ k = 10 ∨ k = 11 ∨ k = 12 ∨ k = 13 by omega) with rfl | rfl | rfl | rfl | rfl | rfl | rfl | rfl | rfl | rfl | rfl | rfl | rfl | rfl
            · exact hu
            · exact hu
            · exact hu
            · exact hu
            · exact hu
            · exact hu
            · exact hu
            · exact hu
            · exact hu
            · exact hu
            · exact hu
            · obtain ⟨q2, h1, h2, h3⟩ := hu
              exact ⟨q2, h1, (hgr.block _ (lt_of_cells h2) h3).trans h2, h3⟩
            · exact absurd rfl hne2
            · cases hw.symm.trans (show Grow.waitsB _ 13 12 = true by kernel_rfl)
          case s13 =>
            refine Grow.stepY_in (by rfl) (by rfl) ?_
            intro E V ec eg ef hT hd hu hy R HR
            have h28 := hd 12 28 (by kernel_rfl)
            clear hd hu
            obtain ⟨u, hu28⟩ : ∃ u, u = E (.tmp 28) := ⟨_, rfl⟩
            rw [← hu28] at h28
            have e28 := hu28.symm
            clear hu28
            go_simp
            exact HR.out _ _ hT h28 (fun _ _ _ _ _ h => h) (fun _ _ _ h => h)
        case gfin =>
          intro W hW
          refine Grow.fin_dst (by rfl) ?_
          rintro _ rfl
          refine Grow.fin_dst (by rfl) ?_
          rintro _ rfl
          refine Grow.fin_dst (by rfl) ?_
          rintro _ rfl
          refine Grow.fin_dst (by rfl) ?_
          rintro _ rfl
          refine Grow.fin_dst (by rfl) ?_
          rintro _ rfl
          refine Grow.fin_dst (by rfl) ?_
          rintro _ rfl
          refine Grow.fin_dst (by rfl) ?_
          rintro _ rfl
          refine Grow.fin_dst (by rfl) ?_
          rintro _ rfl
          refine Grow.fin_dst (by rfl) ?_
          rintro _ rfl
          refine Grow.fin_dst (by rfl) ?_
          rintro _ rfl
          refine Grow.fin_dst (by rfl) ?_
          rintro _ rfl
          refine Grow.fin_dst (by rfl) ?_
          rintro _ ⟨q, rfl, _⟩
          refine Grow.fin_dst (by rfl) ?_
          rintro v12 _
          refine Grow.fin_dst (by rfl) ?_
          rintro v13 ho13
          simp only [Act.put, List.setIfInBounds_toArray, List.set_cons_zero, List.set_cons_succ]
          refine Grow.fin_end ?_
          have HB3 : Hid (Below w.heap.size w W) := Lib.hid hW
          have HO3 : Hid (W.ownsRow w.heap.size 31 32 v13 (j + 1) (idsC ((aboveL l).take (j + 1)))) := Lib.hid (by
            rw [HT.out.2, idsC_app]
            exact ho13)
          clear hW ho13
          go_wp2_with fail
          go_roundw
          case rel => unfold RAb; exact ⟨j + 1, by omega, congrArg _ (by omega), HO3.out, HB3.out⟩
          case measure => simp [intOf]; omega
      · have hj2' : ¬ (2 * (j : Int) + 1) < (n : Int) := by omega
        rw [if_neg hj2] at hat
        have hw2 := IntWalk.i64_in (2 * (j : Int) + 1) (by have := HH.out.2.1; omega)
        have HZX := Lib.hid hat
        clear hat
        have hrow := row8_cell (l := X) (by rw [← HX.out.1]; exact heap_alloc_new wr (.cells XS 31))
        go_wp2_with (first
          | refine wpList_load_id (by rfl) (.tmp 32) (by rfl) HI1.out (2 * j) hjn XS (by rw [← HX.out.2.2]; exact HX.out.1) _ rfl (by rfl) ?_
          | refine wpList_id_lit (by rfl) (.tmp 33) (by rfl) XS X HX.out.1 HX.out.2.1 (by rfl) ?_
          | (at_builtin; refine wpList_append_own_at _ rfl _ _ 24 rfl w.heap.size 31 i0 (.agg zerosId) 32 32 Tryd.underlying24 HI.out.1 HI.out.2.1 HI.out.2.2.1 HI.out.2.2.2 (by kernel_rfl) (by decide) _ j (idsC ((aboveL l).take j)) rfl (HO.out.alloc _) ⟨wr.heap.size, 0, none⟩ 1 1 (u8s X) rfl (by rw [u8s_length, HX.out.2.1]) hrow (u8s_one X) (by unfold maxLen; have := HH.out.2.1; omega) (by have := HH.out.2.1; omega) (by simp; omega) ?_))
        intro v' w3 hown3 hgrow _ _
        have hlt2 := HO.out.lt
        have HB3 : Hid (Below w.heap.size w w3) := Lib.hid ((HBR.out.alloc hszr _).grown hgrow (by simp; omega) (fun b hb => (hlt2 b hb).1))
        have HO3 : Hid (w3.ownsRow w.heap.size 31 32 v' (j + 1) (idsC ((aboveL l).take (j + 1)))) := Lib.hid (by
          rw [HT.out.2, idsC_app, HZX.out]
          exact hown3)
        clear hown3 hgrow hlt2 hrow
        go_wp2_with fail
        go_roundw
        case rel => unfold RAb; exact ⟨j + 1, by omega, congrArg _ (by omega), HO3.out, HB3.out⟩
        case measure => simp [intOf]; omega
    · obtain rfl : M = j := by omega
      have hall : (aboveL l).take M = aboveL l := by rw [List.take_of_length_le (by have := HH.out.2.2.2; omega)]
      have hjn' : ¬ 2 * (M : Int) < (n : Int) := by omega
      clear hlt hj hMe
      go_wp2_with fail
      go_ret
      have hfin := HO.out
      rw [hall] at hfin
      exact ⟨_, rfl, hfin, HBR.out⟩
end Go.Proofs.YtebhlfmianohlaaDoor
