/-
  The reference's node and crown.
-/
import Derived.Test.YtebhlfmianohlaaDoorProofPure
import Derived.Test.YtebhlfmianohlaaDoorRefNum
import Derived.Test.YtebhlfmianohlaaDoorOwn
import Derived.Test.YtebhlfmianohlaaDoorSto
namespace Go.Proofs.YtebhlfmianohlaaDoor
open Go.RowKit

theorem st_cons (a : UInt8) (l : List UInt8) : ({ data := #[a] } : ByteArray) ++ st l = st (a :: l) := st_app [a] l
/-- A block of bytes known whole, of which one block is not. -/
theorem byt_other {w : World} {g q : Nat} {l : List UInt8} {t : TypeId} {f : Nat × Nat} (h : w.heap[g]? = some (.cells (row8 l) t f)) (hl : l.length = 32) (hq : g ≠ q) : Byt w (fun b => b ≠ q) (some ⟨g, 0, none⟩) 32 32 l := by
  have hw := byt_whole h (by omega)
  rw [hl] at hw
  obtain ⟨a1, a2, a3, a4⟩ := hw
  exact ⟨a1, a2, a3, fun h => by
    obtain ⟨b, off, hA, _, hb, hc⟩ := a4 h
    injection hA with hA
    injection hA with hA1 hA2
    exact ⟨b, off, by rw [← hA1, ← hA2], by rw [← hA1]; exact hq, hb, hc⟩⟩

set_option maxHeartbeats 4000000 in
set_option maxRecDepth 100000 in
theorem rnode_any (X Y : List UInt8) (hX : X.length = 32) (hY : Y.length = 32) (w : World) :
    Calls Tryd.prog 33 #[.agg (row8 X), .agg (row8 Y)] w fun e w' => e = .returned (.agg (row8 (nodeD X Y))) ∧ Below w.heap.size w w' := by
  have hz := zero_id
  obtain ⟨M1, hM1⟩ : ∃ M1, M1 = 1 :: X := ⟨_, rfl⟩
  obtain ⟨M2, hM2⟩ : ∃ M2, M2 = M1 ++ Y := ⟨_, rfl⟩
  have hl1 : M1.length = 33 := by rw [hM1]; simp [hX]
  have HAP_a : Hid (({ data := #[1] } : ByteArray) ++ st X = st M1 ∧ (st X).size = X.length ∧ ¬ (9223372036854775807 : Int) < 1 + (X.length : Int) ∧ True) := Lib.hid ⟨by rw [hM1]; exact st_cons 1 X, st_size X, by omega, trivial⟩
  have HAP_b : Hid (st M1 ++ st Y = st M2 ∧ (st M1).size = M1.length ∧ (st Y).size = Y.length ∧ ¬ (9223372036854775807 : Int) < (M1.length : Int) + (Y.length : Int)) := Lib.hid (by rw [hM2]; exact st2 (by omega))
  have HL : Hid (M2.length < 576460752303423488) := Lib.hid (by rw [hM2, List.length_append]; omega)
  have HN : Hid (nodeD X Y = shaL M2) := Lib.hid (by rw [hM2, hM1]; rfl)
  obtain ⟨XS, hXS⟩ : ∃ XS, XS = row8 X := ⟨_, rfl⟩
  rw [← hXS]
  have HXS : Hid (XS.size = 32) := Lib.hid (by rw [hXS, row8_size, hX])
  obtain ⟨YS, hYS⟩ : ∃ YS, YS = row8 Y := ⟨_, rfl⟩
  rw [← hYS]
  have HYS : Hid (YS.size = 32) := Lib.hid (by rw [hYS, row8_size, hY])
  obtain ⟨RS, hRS⟩ : ∃ RS, RS = row8 (nodeD X Y) := ⟨_, rfl⟩
  rw [← hRS]
  have HS : Hid (RS.size = 32 ∧ RS.all (·.oneCell') = true) := Lib.hid (by rw [hRS]; exact ⟨(row8_size _).trans (nodeD_length _ _), row8_one _⟩)
  have HRS := Lib.hid hRS
  have HK : Hid (XS = row8 X ∧ X.length = 32 ∧ YS = row8 Y ∧ Y.length = 32) := Lib.hid ⟨hXS, hX, hYS, hY⟩
  clear hM1 hM2 hl1 hXS hYS hRS hX hY
  obtain ⟨W1, hW1⟩ : ∃ W1, ((w.alloc (.cells XS 31)).alloc (.cells YS 31)).alloc (.cells zerosId 31) = W1 := ⟨_, rfl⟩
  have HB3 : Hid (Below w.heap.size w W1) := Lib.hid (by rw [← hW1]; exact (((Below.refl _ _).alloc (Nat.le_refl _) _).alloc (by simp) _).alloc (by simp <;> omega) _)
  have HY1 : Hid (W1.drew.heap[w.heap.size + 2]? = some (.cells zerosId 31 (0, 0))) := Lib.hid (by
    have := heap_alloc_new ((w.alloc (.cells XS 31)).alloc (.cells YS 31)) (.cells zerosId 31)
    simp only [World.size_alloc] at this
    rw [← hW1]
    exact this)
  have hx : W1.drew.heap[w.heap.size]? = some (.cells (row8 X) 31 (0, 0)) := by
    rw [← hW1, ← HK.out.1]
    exact (Below.heap_alloc _ _ _ (by simp <;> omega)).trans ((Below.heap_alloc _ _ _ (by simp)).trans (heap_alloc_new w _))
  have hy : W1.drew.heap[w.heap.size + 1]? = some (.cells (row8 Y) 31 (0, 0)) := by
    have := heap_alloc_new (w.alloc (.cells XS 31)) (.cells YS 31)
    rw [World.size_alloc] at this
    rw [← hW1, ← HK.out.2.2.1]
    exact (Below.heap_alloc _ _ _ (by simp)).trans this
  have HY : Hid (w.heap.size + 2 < W1.drew.heap.size ∧ Byt W1.drew (fun b => b ≠ w.heap.size + 2) (some ⟨w.heap.size, 0, none⟩) 32 32 X ∧ Byt W1.drew (fun b => b ≠ w.heap.size + 2) (some ⟨w.heap.size + 1, 0, none⟩) 32 32 Y) := Lib.hid ⟨lt_of_cells HY1.out, byt_other hx HK.out.2.1 (by omega), byt_other hy HK.out.2.2.2 (by omega)⟩
  clear hx hy
  go_enter Tryd.func33, Tryd.ntmps33
  go_wp2_with fail
  simp only [hW1] at *
  clear hz hW1
  refine wp_region_grow (Sto (w.heap.size + 2) (.cells RS 31 (0, 0))) (Grow.nth [fun v _ => v = .slice (some ⟨w.heap.size, 0, none⟩) 32 32, fun v _ => v = .string (st X), fun v _ => v = .string (st M1), fun v _ => v = .slice (some ⟨w.heap.size + 1, 0, none⟩) 32 32, fun v _ => v = .string (st Y), fun v _ => v = .string (st M2), fun v _ => v = .agg RS, fun _ W => W.heap[w.heap.size + 2]? = some (.cells RS 31 (0, 0))]) 12 (by kernel_rfl) (by kernel_rfl) (by rfl) (Sto.refl _ _) (fun _ _ _ h1 h2 => h1.trans h2) (Grow.mono_nth ?gmono) ?gsteps ?gfin
  case gmono => exact ⟨fun _ _ _ h _ => h, fun _ _ _ h _ => h, fun _ _ _ h _ => h, fun _ _ _ h _ => h, fun _ _ _ h _ => h, fun _ _ _ h _ => h, fun _ _ _ h _ => h, fun _ _ _ h g => g.keeps h, trivial⟩
  case gsteps =>
    show Grow.allBelow _ 8
    refine And.intro ?_ ?s7
    refine And.intro ?_ ?s6
    refine And.intro ?_ ?s5
    refine And.intro ?_ ?s4
    refine And.intro ?_ ?s3
    refine And.intro ?_ ?s2
    refine And.intro ?_ ?s1
    refine And.intro ?_ ?s0
    exact trivial
    case s0 =>
      refine Grow.step_in (by rfl) (by rfl) ?_
      intro E W ec eg ef hG hd hu R HR
      have e2 : E (.tmp 2) = .pointer (some ⟨w.heap.size, 0, none⟩) := hu 2 (by kernel_rfl)
      clear hd hu
      go_simp
      exact HR.out _ _ (Sto.refl _ _ _) rfl
    case s1 =>
      refine Grow.step_in (by rfl) (by rfl) ?_
      intro E W ec eg ef hG hd hu R HR
      have e5 : E (.tmp 5) = .slice (some ⟨w.heap.size, 0, none⟩) 32 32 := hd 0 5 (by kernel_rfl)
      clear hd hu
      have hs := byt_string (HY.out.2.1.turned hG.turned fun _ _ h => h)
      go_simp
      exact HR.out _ _ (Sto.refl _ _ _) rfl
    case s2 =>
      refine Grow.step_in (by rfl) (by rfl) ?_
      intro E W ec eg ef hG hd hu R HR
      have e6 : E (.tmp 6) = .string (st X) := hd 1 6 (by kernel_rfl)
      clear hd hu
      have ha := HAP_a.out.1
      have hs1 := HAP_a.out.2.1
      have hs2 := HAP_a.out.2.2.1
      have hs3 := HAP_a.out.2.2.2
      go_simp
      first | exact HR.out _ _ (Sto.refl _ _ _) rfl | (rw [if_neg (by omega)]; exact HR.out _ _ (Sto.refl _ _ _) rfl)
    case s3 =>
      refine Grow.step_in (by rfl) (by rfl) ?_
      intro E W ec eg ef hG hd hu R HR
      have e3 : E (.tmp 3) = .pointer (some ⟨w.heap.size + 1, 0, none⟩) := hu 3 (by kernel_rfl)
      clear hd hu
      go_simp
      exact HR.out _ _ (Sto.refl _ _ _) rfl
    case s4 =>
      refine Grow.step_in (by rfl) (by rfl) ?_
      intro E W ec eg ef hG hd hu R HR
      have e8 : E (.tmp 8) = .slice (some ⟨w.heap.size + 1, 0, none⟩) 32 32 := hd 3 8 (by kernel_rfl)
      clear hd hu
      have hs := byt_string (HY.out.2.2.turned hG.turned fun _ _ h => h)
      go_simp
      exact HR.out _ _ (Sto.refl _ _ _) rfl
    case s5 =>
      refine Grow.step_in (by rfl) (by rfl) ?_
      intro E W ec eg ef hG hd hu R HR
      have e7 : E (.tmp 7) = .string (st M1) := hd 2 7 (by kernel_rfl)
      have e9 : E (.tmp 9) = .string (st Y) := hd 4 9 (by kernel_rfl)
      clear hd hu
      have ha := HAP_b.out.1
      have hs1 := HAP_b.out.2.1
      have hs2 := HAP_b.out.2.2.1
      have hs3 := HAP_b.out.2.2.2
      go_simp
      first | exact HR.out _ _ (Sto.refl _ _ _) rfl | (rw [if_neg (by omega)]; exact HR.out _ _ (Sto.refl _ _ _) rfl)
    case s6 =>
      refine Grow.step_in (by rfl) (by rfl) ?_
      intro E W ec eg ef hG hd hu R HR
      have e10 : E (.tmp 10) = .string (st M2) := hd 5 10 (by kernel_rfl)
      clear hd hu
      go_simp
      refine (rof_any M2 HL.out _).mono ?_
      rintro _ w' ⟨rfl, hb⟩
      exact ⟨_, rfl, HR.out _ _ (Sto.of_below hb (hG.lt HY.out.1)) (show _ = _ by rw [HRS.out, HN.out]; rfl)⟩
    case s7 =>
      refine Grow.step_in (by rfl) (by rfl) ?_
      intro E W ec eg ef hG hd hu R HR
      have e4 : E (.tmp 4) = .pointer (some ⟨w.heap.size + 2, 0, none⟩) := hu 4 (by kernel_rfl)
      have e11 : E (.tmp 11) = .agg RS := hd 6 11 (by kernel_rfl)
      clear hd hu
      obtain ⟨ds, hds, hdo⟩ := hG.old HY1.out
      exact runs_store 31 (.tmp 4) (.tmp 11) rfl (w.heap.size + 2) RS e4 e11 31 ds hds (by rw [HS.out.1]; exact id_info) (by rcases hdo with rfl | rfl; exact HS.out.1.symm; rfl) HS.out.2 (HR.out _ _ (Sto.store hds) (setRow_at hds))
  case gfin =>
    intro W hG
    refine Grow.fin_dst (by rfl) ?_
    rintro _ rfl
    refine Grow.fin_dst (by rfl) ?_
    rintro _ rfl
    refine Grow.fin_dst (by rfl) ?_
    rintro _ rfl
    refine Grow.fin_dst (by rfl) ?_
    rintro _ rfl
    refine Grow.fin_dst (by rfl) ?_
    rintro _ rfl
    refine Grow.fin_dst (by rfl) ?_
    rintro _ rfl
    refine Grow.fin_dst (by rfl) ?_
    rintro _ rfl
    refine Grow.fin_told (by rfl) ?_
    rintro ⟨_, hK⟩
    simp only [Act.put, List.setIfInBounds_toArray, List.set_cons_zero, List.set_cons_succ]
    refine Grow.fin_end ?_
    have HG : Hid (Below w.heap.size w W) := Lib.hid (HB3.out.trans ((hG.of_drew.turned.mono (T := (w.heap.size ≤ ·)) fun b _ hb => by omega).below HB3.out.size))
    have HK2 := Lib.hid hK
    clear hG hK
    go_wp2_with fail
    exact bodyPost_ret (results_cell_row rfl _ _ (w.heap.size + 2) 31 RS (0, 0) _ rfl HK2.out Tryd.underlying31 rfl (by rw [HS.out.1]; exact id_info)) rfl ⟨rfl, HG.out⟩

set_option maxHeartbeats 4000000 in
set_option maxRecDepth 100000 in
theorem rcrown_any (N : Nat) (hN : N < 9223372036854775808) (X : List UInt8) (hX : X.length = 32) (w : World) :
    Calls Tryd.prog 30 #[.int .i64 (N : Int), .agg (row8 X)] w fun e w' => e = .returned (.agg (row8 (crownD N X))) ∧ Below w.heap.size w w' := by
  have hz := zero_id
  obtain ⟨D, hD⟩ : ∃ D, D = le8 N 8 := ⟨_, rfl⟩
  obtain ⟨M1, hM1⟩ : ∃ M1, M1 = 2 :: D := ⟨_, rfl⟩
  obtain ⟨M2, hM2⟩ : ∃ M2, M2 = M1 ++ X := ⟨_, rfl⟩
  have hdl : D.length = 8 := by rw [hD]; exact le8_length _ _
  have hl1 : M1.length = 9 := by rw [hM1]; simp [hdl]
  have HAP_a : Hid (({ data := #[2] } : ByteArray) ++ st D = st M1 ∧ (st D).size = D.length ∧ ¬ (9223372036854775807 : Int) < 1 + (D.length : Int) ∧ True) := Lib.hid ⟨by rw [hM1]; exact st_cons 2 D, st_size D, by omega, trivial⟩
  have HAP_b : Hid (st M1 ++ st X = st M2 ∧ (st M1).size = M1.length ∧ (st X).size = X.length ∧ ¬ (9223372036854775807 : Int) < (M1.length : Int) + (X.length : Int)) := Lib.hid (by rw [hM2]; exact st2 (by omega))
  have HL : Hid (M2.length < 576460752303423488) := Lib.hid (by rw [hM2, List.length_append]; omega)
  have HN : Hid (crownD N X = shaL M2 ∧ N < 18446744073709551616 ∧ D = le8 N 8) := Lib.hid ⟨by rw [hM2, hM1, hD]; rfl, by omega, hD⟩
  obtain ⟨XS, hXS⟩ : ∃ XS, XS = row8 X := ⟨_, rfl⟩
  rw [← hXS]
  have HXS : Hid (XS.size = 32) := Lib.hid (by rw [hXS, row8_size, hX])
  obtain ⟨RS, hRS⟩ : ∃ RS, RS = row8 (crownD N X) := ⟨_, rfl⟩
  rw [← hRS]
  have HS : Hid (RS.size = 32 ∧ RS.all (·.oneCell') = true) := Lib.hid (by rw [hRS]; exact ⟨(row8_size _).trans (crownD_length _ _), row8_one _⟩)
  have HRS := Lib.hid hRS
  have HK : Hid (XS = row8 X ∧ X.length = 32 ∧ N < 9223372036854775808) := Lib.hid ⟨hXS, hX, hN⟩
  clear hM1 hM2 hl1 hXS hRS hX hN hD hdl
  obtain ⟨W1, hW1⟩ : ∃ W1, (w.alloc (.cells XS 31)).alloc (.cells zerosId 31) = W1 := ⟨_, rfl⟩
  have HB3 : Hid (Below w.heap.size w W1) := Lib.hid (by rw [← hW1]; exact ((Below.refl _ _).alloc (Nat.le_refl _) _).alloc (by simp) _)
  have HY1 : Hid (W1.drew.heap[w.heap.size + 1]? = some (.cells zerosId 31 (0, 0))) := Lib.hid (by
    have := heap_alloc_new (w.alloc (.cells XS 31)) (.cells zerosId 31)
    simp only [World.size_alloc] at this
    rw [← hW1]
    exact this)
  have hx : W1.drew.heap[w.heap.size]? = some (.cells (row8 X) 31 (0, 0)) := by
    rw [← hW1, ← HK.out.1]
    exact (Below.heap_alloc _ _ _ (by simp)).trans (heap_alloc_new w _)
  have HY : Hid (w.heap.size + 1 < W1.drew.heap.size ∧ Byt W1.drew (fun b => b ≠ w.heap.size + 1) (some ⟨w.heap.size, 0, none⟩) 32 32 X) := Lib.hid ⟨lt_of_cells HY1.out, byt_other hx HK.out.2.1 (by omega)⟩
  clear hx
  go_enter Tryd.func30, Tryd.ntmps30
  go_wp2_with fail
  simp only [hW1] at *
  clear hz hW1
  refine wp_region_grow (Sto (w.heap.size + 1) (.cells RS 31 (0, 0))) (Grow.nth [fun v _ => v = .int .i64 (N : Int), fun v _ => v = .int .u64 (N : Int), fun v _ => v = .string (st D), fun v _ => v = .string (st M1), fun v _ => v = .slice (some ⟨w.heap.size, 0, none⟩) 32 32, fun v _ => v = .string (st X), fun v _ => v = .string (st M2), fun v _ => v = .agg RS, fun _ W => W.heap[w.heap.size + 1]? = some (.cells RS 31 (0, 0))]) 13 (by kernel_rfl) (by kernel_rfl) (by rfl) (Sto.refl _ _) (fun _ _ _ h1 h2 => h1.trans h2) (Grow.mono_nth ?gmono) ?gsteps ?gfin
  case gmono => exact ⟨fun _ _ _ h _ => h, fun _ _ _ h _ => h, fun _ _ _ h _ => h, fun _ _ _ h _ => h, fun _ _ _ h _ => h, fun _ _ _ h _ => h, fun _ _ _ h _ => h, fun _ _ _ h _ => h, fun _ _ _ h g => g.keeps h, trivial⟩
  case gsteps =>
    show Grow.allBelow _ 9
    refine And.intro ?_ ?s8
    refine And.intro ?_ ?s7
    refine And.intro ?_ ?s6
    refine And.intro ?_ ?s5
    refine And.intro ?_ ?s4
    refine And.intro ?_ ?s3
    refine And.intro ?_ ?s2
    refine And.intro ?_ ?s1
    refine And.intro ?_ ?s0
    exact trivial
    case s0 =>
      refine Grow.step_in (by rfl) (by rfl) ?_
      intro E W ec eg ef hG hd hu R HR
      have e0 : E (.tmp 0) = .int .i64 (N : Int) := hu 0 (by kernel_rfl)
      clear hd hu
      go_simp
      exact HR.out _ _ (Sto.refl _ _ _) rfl
    case s1 =>
      refine Grow.step_in (by rfl) (by rfl) ?_
      intro E W ec eg ef hG hd hu R HR
      have e5 : E (.tmp 5) = .int .i64 (N : Int) := hd 0 5 (by kernel_rfl)
      clear hd hu
      have hN := HK.out.2.2
      go_simp
      rw [IntKind.wrap_u64, Int.emod_eq_of_lt (by omega) (by omega)]
      exact HR.out _ _ (Sto.refl _ _ _) rfl
    case s2 =>
      refine Grow.step_in (by rfl) (by rfl) ?_
      intro E W ec eg ef hG hd hu R HR
      have e6 : E (.tmp 6) = .int .u64 (N : Int) := hd 1 6 (by kernel_rfl)
      clear hd hu
      go_simp
      refine (rnumber_any N HN.out.2.1 _).mono ?_
      rintro _ w' ⟨rfl, hb⟩
      exact ⟨_, rfl, HR.out _ _ (Sto.of_below hb (hG.lt HY.out.1)) (show _ = _ by rw [HN.out.2.2])⟩
    case s3 =>
      refine Grow.step_in (by rfl) (by rfl) ?_
      intro E W ec eg ef hG hd hu R HR
      have e7 : E (.tmp 7) = .string (st D) := hd 2 7 (by kernel_rfl)
      clear hd hu
      have ha := HAP_a.out.1
      have hs1 := HAP_a.out.2.1
      have hs2 := HAP_a.out.2.2.1
      have hs3 := HAP_a.out.2.2.2
      go_simp
      first | exact HR.out _ _ (Sto.refl _ _ _) rfl | (rw [if_neg (by omega)]; exact HR.out _ _ (Sto.refl _ _ _) rfl)
    case s4 =>
      refine Grow.step_in (by rfl) (by rfl) ?_
      intro E W ec eg ef hG hd hu R HR
      have e3 : E (.tmp 3) = .pointer (some ⟨w.heap.size, 0, none⟩) := hu 3 (by kernel_rfl)
      clear hd hu
      go_simp
      exact HR.out _ _ (Sto.refl _ _ _) rfl
    case s5 =>
      refine Grow.step_in (by rfl) (by rfl) ?_
      intro E W ec eg ef hG hd hu R HR
      have e9 : E (.tmp 9) = .slice (some ⟨w.heap.size, 0, none⟩) 32 32 := hd 4 9 (by kernel_rfl)
      clear hd hu
      have hs := byt_string (HY.out.2.turned hG.turned fun _ _ h => h)
      go_simp
      exact HR.out _ _ (Sto.refl _ _ _) rfl
    case s6 =>
      refine Grow.step_in (by rfl) (by rfl) ?_
      intro E W ec eg ef hG hd hu R HR
      have e8 : E (.tmp 8) = .string (st M1) := hd 3 8 (by kernel_rfl)
      have e10 : E (.tmp 10) = .string (st X) := hd 5 10 (by kernel_rfl)
      clear hd hu
      have ha := HAP_b.out.1
      have hs1 := HAP_b.out.2.1
      have hs2 := HAP_b.out.2.2.1
      have hs3 := HAP_b.out.2.2.2
      go_simp
      first | exact HR.out _ _ (Sto.refl _ _ _) rfl | (rw [if_neg (by omega)]; exact HR.out _ _ (Sto.refl _ _ _) rfl)
    case s7 =>
      refine Grow.step_in (by rfl) (by rfl) ?_
      intro E W ec eg ef hG hd hu R HR
      have e11 : E (.tmp 11) = .string (st M2) := hd 6 11 (by kernel_rfl)
      clear hd hu
      go_simp
      refine (rof_any M2 HL.out _).mono ?_
      rintro _ w' ⟨rfl, hb⟩
      exact ⟨_, rfl, HR.out _ _ (Sto.of_below hb (hG.lt HY.out.1)) (show _ = _ by rw [HRS.out, HN.out.1]; rfl)⟩
    case s8 =>
      refine Grow.step_in (by rfl) (by rfl) ?_
      intro E W ec eg ef hG hd hu R HR
      have e4 : E (.tmp 4) = .pointer (some ⟨w.heap.size + 1, 0, none⟩) := hu 4 (by kernel_rfl)
      have e12 : E (.tmp 12) = .agg RS := hd 7 12 (by kernel_rfl)
      clear hd hu
      obtain ⟨ds, hds, hdo⟩ := hG.old HY1.out
      exact runs_store 31 (.tmp 4) (.tmp 12) rfl (w.heap.size + 1) RS e4 e12 31 ds hds (by rw [HS.out.1]; exact id_info) (by rcases hdo with rfl | rfl; exact HS.out.1.symm; rfl) HS.out.2 (HR.out _ _ (Sto.store hds) (setRow_at hds))
  case gfin =>
    intro W hG
    refine Grow.fin_dst (by rfl) ?_
    rintro _ rfl
    refine Grow.fin_dst (by rfl) ?_
    rintro _ rfl
    refine Grow.fin_dst (by rfl) ?_
    rintro _ rfl
    refine Grow.fin_dst (by rfl) ?_
    rintro _ rfl
    refine Grow.fin_dst (by rfl) ?_
    rintro _ rfl
    refine Grow.fin_dst (by rfl) ?_
    rintro _ rfl
    refine Grow.fin_dst (by rfl) ?_
    rintro _ rfl
    refine Grow.fin_dst (by rfl) ?_
    rintro _ rfl
    refine Grow.fin_told (by rfl) ?_
    rintro ⟨_, hK⟩
    simp only [Act.put, List.setIfInBounds_toArray, List.set_cons_zero, List.set_cons_succ]
    refine Grow.fin_end ?_
    have HG : Hid (Below w.heap.size w W) := Lib.hid (HB3.out.trans ((hG.of_drew.turned.mono (T := (w.heap.size ≤ ·)) fun b _ hb => by omega).below HB3.out.size))
    have HK2 := Lib.hid hK
    clear hG hK
    go_wp2_with fail
    exact bodyPost_ret (results_cell_row rfl _ _ (w.heap.size + 1) 31 RS (0, 0) _ rfl HK2.out Tryd.underlying31 rfl (by rw [HS.out.1]; exact id_info)) rfl ⟨rfl, HG.out⟩
end Go.Proofs.YtebhlfmianohlaaDoor
