/-
  The reference's node and crown.
  The reference's row of digests.
  The law of drawn regions with what holds till an operation is done (wpIn_region_grow of XGrowIn), at any open fence.
  The reference's row above one.
  The reference's Root.
  Packs: what a pack is known by.
-/
import Derived.Test.YtnbjhdlnibmgdaaDoorPk11
import Derived.Test.YtnbjhdlnibmgdaaDoorPk14
import Derived.Test.YtnbjhdlnibmgdaaDoorPk03
import Derived.Test.YtnbjhdlnibmgdaaDoorPk09
import Derived.Test.YtnbjhdlnibmgdaaDoorPk10
import Derived.Deep.AppendLies
import Derived.Test.YtnbjhdlnibmgdaaDoorPk13
import Derived.Test.YtnbjhdlnibmgdaaDoorPk04
import Derived.Test.YtnbjhdlnibmgdaaDoorPk12
/-! The reference's node and crown. -/
namespace Go.Proofs.YtnbjhdlnibmgdaaDoor
open Go.RowKit

theorem st_cons (a : UInt8) (l : List UInt8) : ({ data := #[a] } : ByteArray) ++ st l = st (a :: l) := st_app [a] l
/-- A block of bytes known whole, of which one block is not. -/
theorem byt_other {w : World} {g q : Nat} {l : List UInt8} {t : TypeId} {f : Nat × Nat} (h : w.heap[g]? = some (.cells (row8 l) t f)) (hl : l.length = 32) (hq : g ≠ q) : Byt w (fun b => b ≠ q) (some ⟨g, 0, none⟩) 32 32 l := by
  have hw := byt_whole h (by omega)
  rw [hl] at hw
  obtain ⟨a1, a2, a3, a4⟩ := hw
  exact ⟨a1, a2, a3, fun h => by
    obtain ⟨b, off, hA, _, hb, hc⟩ := a4 h
    injection hA with hA
    injection hA with hA1 hA2
    exact ⟨b, off, by rw [← hA1, ← hA2], by rw [← hA1]; exact hq, hb, hc⟩⟩

set_option maxHeartbeats 4000000 in
set_option maxRecDepth 100000 in
theorem rnode_any (X Y : List UInt8) (hX : X.length = 32) (hY : Y.length = 32) (w : World) :
    Calls Tryd.prog 60 #[.agg (row8 X), .agg (row8 Y)] w fun e w' => e = .returned (.agg (row8 (nodeD X Y))) ∧ Below w.heap.size w w' := by
  have hz := zero_id
  obtain ⟨M1, hM1⟩ : ∃ M1, M1 = 1 :: X := ⟨_, rfl⟩
  obtain ⟨M2, hM2⟩ : ∃ M2, M2 = M1 ++ Y := ⟨_, rfl⟩
  have hl1 : M1.length = 33 := by rw [hM1]; simp [hX]
  have HAP_a : Hid (({ data := #[1] } : ByteArray) ++ st X = st M1 ∧ (st X).size = X.length ∧ ¬ (9223372036854775807 : Int) < 1 + (X.length : Int) ∧ True) := Lib.hid ⟨by rw [hM1]; exact st_cons 1 X, st_size X, by omega, trivial⟩
  have HAP_b : Hid (st M1 ++ st Y = st M2 ∧ (st M1).size = M1.length ∧ (st Y).size = Y.length ∧ ¬ (9223372036854775807 : Int) < (M1.length : Int) + (Y.length : Int)) := Lib.hid (by rw [hM2]; exact st2 (by omega))
  have HL : Hid (M2.length < 576460752303423488) := Lib.hid (by rw [hM2, List.length_append]; omega)
  have HN : Hid (nodeD X Y = shaL M2) := Lib.hid (by rw [hM2, hM1]; rfl)
  obtain ⟨XS, hXS⟩ : ∃ XS, XS = row8 X := ⟨_, rfl⟩
  rw [← hXS]
  have HXS : Hid (XS.size = 32) := Lib.hid (by rw [hXS, row8_size, hX])
  obtain ⟨YS, hYS⟩ : ∃ YS, YS = row8 Y := ⟨_, rfl⟩
  rw [← hYS]
  have HYS : Hid (YS.size = 32) := Lib.hid (by rw [hYS, row8_size, hY])
  obtain ⟨RS, hRS⟩ : ∃ RS, RS = row8 (nodeD X Y) := ⟨_, rfl⟩
  rw [← hRS]
  have HS : Hid (RS.size = 32 ∧ RS.all (·.oneCell') = true) := Lib.hid (by rw [hRS]; exact ⟨(row8_size _).trans (nodeD_length _ _), row8_one _⟩)
  have HRS := Lib.hid hRS
  have HK : Hid (XS = row8 X ∧ X.length = 32 ∧ YS = row8 Y ∧ Y.length = 32) := Lib.hid ⟨hXS, hX, hYS, hY⟩
  clear hM1 hM2 hl1 hXS hYS hRS hX hY
  obtain ⟨W1, hW1⟩ : ∃ W1, ((w.alloc (.cells XS 36)).alloc (.cells YS 36)).alloc (.cells zerosId 36) = W1 := ⟨_, rfl⟩
  have HB3 : Hid (Below w.heap.size w W1) := Lib.hid (by rw [← hW1]; exact (((Below.refl _ _).alloc (Nat.le_refl _) _).alloc (by simp) _).alloc (by simp <;> omega) _)
  have HY1 : Hid (W1.drew.heap[w.heap.size + 2]? = some (.cells zerosId 36 (0, 0))) := Lib.hid (by
    have := heap_alloc_new ((w.alloc (.cells XS 36)).alloc (.cells YS 36)) (.cells zerosId 36)
    simp only [World.size_alloc] at this
    rw [← hW1]
    exact this)
  have hx : W1.drew.heap[w.heap.size]? = some (.cells (row8 X) 36 (0, 0)) := by
    rw [← hW1, ← HK.out.1]
    exact (Below.heap_alloc _ _ _ (by simp <;> omega)).trans ((Below.heap_alloc _ _ _ (by simp)).trans (heap_alloc_new w _))
  have hy : W1.drew.heap[w.heap.size + 1]? = some (.cells (row8 Y) 36 (0, 0)) := by
    have := heap_alloc_new (w.alloc (.cells XS 36)) (.cells YS 36)
    rw [World.size_alloc] at this
    rw [← hW1, ← HK.out.2.2.1]
    exact (Below.heap_alloc _ _ _ (by simp)).trans this
  have HY : Hid (w.heap.size + 2 < W1.drew.heap.size ∧ Byt W1.drew (fun b => b ≠ w.heap.size + 2) (some ⟨w.heap.size, 0, none⟩) 32 32 X ∧ Byt W1.drew (fun b => b ≠ w.heap.size + 2) (some ⟨w.heap.size + 1, 0, none⟩) 32 32 Y) := Lib.hid ⟨lt_of_cells HY1.out, byt_other hx HK.out.2.1 (by omega), byt_other hy HK.out.2.2.2 (by omega)⟩
  clear hx hy
  go_enter Tryd.func60, Tryd.ntmps60
  go_wp2_with fail
  simp only [hW1] at *
  clear hz hW1
  refine wp_region_grow (Sto (w.heap.size + 2) (.cells RS 36 (0, 0))) (Grow.nth [fun v _ => v = .slice (some ⟨w.heap.size, 0, none⟩) 32 32, fun v _ => v = .string (st X), fun v _ => v = .string (st M1), fun v _ => v = .slice (some ⟨w.heap.size + 1, 0, none⟩) 32 32, fun v _ => v = .string (st Y), fun v _ => v = .string (st M2), fun v _ => v = .agg RS, fun _ W => W.heap[w.heap.size + 2]? = some (.cells RS 36 (0, 0))]) 12 (by kernel_rfl) (by kernel_rfl) (by rfl) (Sto.refl _ _) (fun _ _ _ h1 h2 => h1.trans h2) (Grow.mono_nth ?gmono) ?gsteps ?gfin
  case gmono => exact ⟨fun _ _ _ h _ => h, fun _ _ _ h _ => h, fun _ _ _ h _ => h, fun _ _ _ h _ => h, fun _ _ _ h _ => h, fun _ _ _ h _ => h, fun _ _ _ h _ => h, fun _ _ _ h g => g.keeps h, trivial⟩
  case gsteps =>
    show Grow.allBelow _ 8
    refine And.intro ?_ ?s7
    refine And.intro ?_ ?s6
    refine And.intro ?_ ?s5
    refine And.intro ?_ ?s4
    refine And.intro ?_ ?s3
    refine And.intro ?_ ?s2
    refine And.intro ?_ ?s1
    refine And.intro ?_ ?s0
    exact trivial
    case s0 =>
      refine Grow.step_in (by rfl) (by rfl) ?_
      intro E W ec eg ef hG hd hu R HR
      have e2 : E (.tmp 2) = .pointer (some ⟨w.heap.size, 0, none⟩) := hu 2 (by kernel_rfl)
      clear hd hu
      go_simp
      exact HR.out _ _ (Sto.refl _ _ _) rfl
    case s1 =>
      refine Grow.step_in (by rfl) (by rfl) ?_
      intro E W ec eg ef hG hd hu R HR
      have e5 : E (.tmp 5) = .slice (some ⟨w.heap.size, 0, none⟩) 32 32 := hd 0 5 (by kernel_rfl)
      clear hd hu
      have hs := byt_string (HY.out.2.1.turned hG.turned fun _ _ h => h)
      go_simp
      exact HR.out _ _ (Sto.refl _ _ _) rfl
    case s2 =>
      refine Grow.step_in (by rfl) (by rfl) ?_
      intro E W ec eg ef hG hd hu R HR
      have e6 : E (.tmp 6) = .string (st X) := hd 1 6 (by kernel_rfl)
      clear hd hu
      have ha := HAP_a.out.1
      have hs1 := HAP_a.out.2.1
      have hs2 := HAP_a.out.2.2.1
      have hs3 := HAP_a.out.2.2.2
      go_simp
      first | exact HR.out _ _ (Sto.refl _ _ _) rfl | (rw [if_neg (by omega)]; exact HR.out _ _ (Sto.refl _ _ _) rfl)
    case s3 =>
      refine Grow.step_in (by rfl) (by rfl) ?_
      intro E W ec eg ef hG hd hu R HR
      have e3 : E (.tmp 3) = .pointer (some ⟨w.heap.size + 1, 0, none⟩) := hu 3 (by kernel_rfl)
      clear hd hu
      go_simp
      exact HR.out _ _ (Sto.refl _ _ _) rfl
    case s4 =>
      refine Grow.step_in (by rfl) (by rfl) ?_
      intro E W ec eg ef hG hd hu R HR
      have e8 : E (.tmp 8) = .slice (some ⟨w.heap.size + 1, 0, none⟩) 32 32 := hd 3 8 (by kernel_rfl)
      clear hd hu
      have hs := byt_string (HY.out.2.2.turned hG.turned fun _ _ h => h)
      go_simp
      exact HR.out _ _ (Sto.refl _ _ _) rfl
    case s5 =>
      refine Grow.step_in (by rfl) (by rfl) ?_
      intro E W ec eg ef hG hd hu R HR
      have e7 : E (.tmp 7) = .string (st M1) := hd 2 7 (by kernel_rfl)
      have e9 : E (.tmp 9) = .string (st Y) := hd 4 9 (by kernel_rfl)
      clear hd hu
      have ha := HAP_b.out.1
      have hs1 := HAP_b.out.2.1
      have hs2 := HAP_b.out.2.2.1
      have hs3 := HAP_b.out.2.2.2
      go_simp
      first | exact HR.out _ _ (Sto.refl _ _ _) rfl | (rw [if_neg (by omega)]; exact HR.out _ _ (Sto.refl _ _ _) rfl)
    case s6 =>
      refine Grow.step_in (by rfl) (by rfl) ?_
      intro E W ec eg ef hG hd hu R HR
      have e10 : E (.tmp 10) = .string (st M2) := hd 5 10 (by kernel_rfl)
      clear hd hu
      go_simp
      refine (rof_any M2 HL.out _).mono ?_
      rintro _ w' ⟨rfl, hb⟩
      exact ⟨_, rfl, HR.out _ _ (Sto.of_below hb (hG.lt HY.out.1)) (show _ = _ by rw [HRS.out, HN.out]; rfl)⟩
    case s7 =>
      refine Grow.step_in (by rfl) (by rfl) ?_
      intro E W ec eg ef hG hd hu R HR
      have e4 : E (.tmp 4) = .pointer (some ⟨w.heap.size + 2, 0, none⟩) := hu 4 (by kernel_rfl)
      have e11 : E (.tmp 11) = .agg RS := hd 6 11 (by kernel_rfl)
      clear hd hu
      obtain ⟨ds, hds, hdo⟩ := hG.old HY1.out
      exact runs_store 36 (.tmp 4) (.tmp 11) rfl (w.heap.size + 2) RS e4 e11 36 ds hds (by rw [HS.out.1]; exact id_info) (by rcases hdo with rfl | rfl; exact HS.out.1.symm; rfl) HS.out.2 (HR.out _ _ (Sto.store hds) (setRow_at hds))
  case gfin =>
    intro W hG
    refine Grow.fin_dst (by rfl) ?_
    rintro _ rfl
    refine Grow.fin_dst (by rfl) ?_
    rintro _ rfl
    refine Grow.fin_dst (by rfl) ?_
    rintro _ rfl
    refine Grow.fin_dst (by rfl) ?_
    rintro _ rfl
    refine Grow.fin_dst (by rfl) ?_
    rintro _ rfl
    refine Grow.fin_dst (by rfl) ?_
    rintro _ rfl
    refine Grow.fin_dst (by rfl) ?_
    rintro _ rfl
    refine Grow.fin_told (by rfl) ?_
    rintro ⟨_, hK⟩
    simp only [Act.put, List.setIfInBounds_toArray, List.set_cons_zero, List.set_cons_succ]
    refine Grow.fin_end ?_
    have HG : Hid (Below w.heap.size w W) := Lib.hid (HB3.out.trans ((hG.of_drew.turned.mono (T := (w.heap.size ≤ ·)) fun b _ hb => by omega).below HB3.out.size))
    have HK2 := Lib.hid hK
    clear hG hK
    go_wp2_with fail
    exact bodyPost_ret (results_cell_row rfl _ _ (w.heap.size + 2) 36 RS (0, 0) _ rfl HK2.out Tryd.underlying36 rfl (by rw [HS.out.1]; exact id_info)) rfl ⟨rfl, HG.out⟩

set_option maxHeartbeats 4000000 in
set_option maxRecDepth 100000 in
theorem rcrown_any (N : Nat) (hN : N < 9223372036854775808) (X : List UInt8) (hX : X.length = 32) (w : World) :
    Calls Tryd.prog 47 #[.int .i64 (N : Int), .agg (row8 X)] w fun e w' => e = .returned (.agg (row8 (crownD N X))) ∧ Below w.heap.size w w' := by
  have hz := zero_id
  obtain ⟨D, hD⟩ : ∃ D, D = le8 N 8 := ⟨_, rfl⟩
  obtain ⟨M1, hM1⟩ : ∃ M1, M1 = 2 :: D := ⟨_, rfl⟩
  obtain ⟨M2, hM2⟩ : ∃ M2, M2 = M1 ++ X := ⟨_, rfl⟩
  have hdl : D.length = 8 := by rw [hD]; exact le8_length _ _
  have hl1 : M1.length = 9 := by rw [hM1]; simp [hdl]
  have HAP_a : Hid (({ data := #[2] } : ByteArray) ++ st D = st M1 ∧ (st D).size = D.length ∧ ¬ (9223372036854775807 : Int) < 1 + (D.length : Int) ∧ True) := Lib.hid ⟨by rw [hM1]; exact st_cons 2 D, st_size D, by omega, trivial⟩
  have HAP_b : Hid (st M1 ++ st X = st M2 ∧ (st M1).size = M1.length ∧ (st X).size = X.length ∧ ¬ (9223372036854775807 : Int) < (M1.length : Int) + (X.length : Int)) := Lib.hid (by rw [hM2]; exact st2 (by omega))
  have HL : Hid (M2.length < 576460752303423488) := Lib.hid (by rw [hM2, List.length_append]; omega)
  have HN : Hid (crownD N X = shaL M2 ∧ N < 18446744073709551616 ∧ D = le8 N 8) := Lib.hid ⟨by rw [hM2, hM1, hD]; rfl, by omega, hD⟩
  obtain ⟨XS, hXS⟩ : ∃ XS, XS = row8 X := ⟨_, rfl⟩
  rw [← hXS]
  have HXS : Hid (XS.size = 32) := Lib.hid (by rw [hXS, row8_size, hX])
  obtain ⟨RS, hRS⟩ : ∃ RS, RS = row8 (crownD N X) := ⟨_, rfl⟩
  rw [← hRS]
  have HS : Hid (RS.size = 32 ∧ RS.all (·.oneCell') = true) := Lib.hid (by rw [hRS]; exact ⟨(row8_size _).trans (crownD_length _ _), row8_one _⟩)
  have HRS := Lib.hid hRS
  have HK : Hid (XS = row8 X ∧ X.length = 32 ∧ N < 9223372036854775808) := Lib.hid ⟨hXS, hX, hN⟩
  clear hM1 hM2 hl1 hXS hRS hX hN hD hdl
  obtain ⟨W1, hW1⟩ : ∃ W1, (w.alloc (.cells XS 36)).alloc (.cells zerosId 36) = W1 := ⟨_, rfl⟩
  have HB3 : Hid (Below w.heap.size w W1) := Lib.hid (by rw [← hW1]; exact ((Below.refl _ _).alloc (Nat.le_refl _) _).alloc (by simp) _)
  have HY1 : Hid (W1.drew.heap[w.heap.size + 1]? = some (.cells zerosId 36 (0, 0))) := Lib.hid (by
    have := heap_alloc_new (w.alloc (.cells XS 36)) (.cells zerosId 36)
    simp only [World.size_alloc] at this
    rw [← hW1]
    exact this)
  have hx : W1.drew.heap[w.heap.size]? = some (.cells (row8 X) 36 (0, 0)) := by
    rw [← hW1, ← HK.out.1]
    exact (Below.heap_alloc _ _ _ (by simp)).trans (heap_alloc_new w _)
  have HY : Hid (w.heap.size + 1 < W1.drew.heap.size ∧ Byt W1.drew (fun b => b ≠ w.heap.size + 1) (some ⟨w.heap.size, 0, none⟩) 32 32 X) := Lib.hid ⟨lt_of_cells HY1.out, byt_other hx HK.out.2.1 (by omega)⟩
  clear hx
  go_enter Tryd.func47, Tryd.ntmps47
  go_wp2_with fail
  simp only [hW1] at *
  clear hz hW1
  refine wp_region_grow (Sto (w.heap.size + 1) (.cells RS 36 (0, 0))) (Grow.nth [fun v _ => v = .int .i64 (N : Int), fun v _ => v = .int .u64 (N : Int), fun v _ => v = .string (st D), fun v _ => v = .string (st M1), fun v _ => v = .slice (some ⟨w.heap.size, 0, none⟩) 32 32, fun v _ => v = .string (st X), fun v _ => v = .string (st M2), fun v _ => v = .agg RS, fun _ W => W.heap[w.heap.size + 1]? = some (.cells RS 36 (0, 0))]) 13 (by kernel_rfl) (by kernel_rfl) (by rfl) (Sto.refl _ _) (fun _ _ _ h1 h2 => h1.trans h2) (Grow.mono_nth ?gmono) ?gsteps ?gfin
  case gmono => exact ⟨fun _ _ _ h _ => h, fun _ _ _ h _ => h, fun _ _ _ h _ => h, fun _ _ _ h _ => h, fun _ _ _ h _ => h, fun _ _ _ h _ => h, fun _ _ _ h _ => h, fun _ _ _ h _ => h, fun _ _ _ h g => g.keeps h, trivial⟩
  case gsteps =>
    show Grow.allBelow _ 9
    refine And.intro ?_ ?s8
    refine And.intro ?_ ?s7
    refine And.intro ?_ ?s6
    refine And.intro ?_ ?s5
    refine And.intro ?_ ?s4
    refine And.intro ?_ ?s3
    refine And.intro ?_ ?s2
    refine And.intro ?_ ?s1
    refine And.intro ?_ ?s0
    exact trivial
    case s0 =>
      refine Grow.step_in (by rfl) (by rfl) ?_
      intro E W ec eg ef hG hd hu R HR
      have e0 : E (.tmp 0) = .int .i64 (N : Int) := hu 0 (by kernel_rfl)
      clear hd hu
      go_simp
      exact HR.out _ _ (Sto.refl _ _ _) rfl
    case s1 =>
      refine Grow.step_in (by rfl) (by rfl) ?_
      intro E W ec eg ef hG hd hu R HR
      have e5 : E (.tmp 5) = .int .i64 (N : Int) := hd 0 5 (by kernel_rfl)
      clear hd hu
      have hN := HK.out.2.2
      go_simp
      rw [IntKind.wrap_u64, Int.emod_eq_of_lt (by omega) (by omega)]
      exact HR.out _ _ (Sto.refl _ _ _) rfl
    case s2 =>
      refine Grow.step_in (by rfl) (by rfl) ?_
      intro E W ec eg ef hG hd hu R HR
      have e6 : E (.tmp 6) = .int .u64 (N : Int) := hd 1 6 (by kernel_rfl)
      clear hd hu
      go_simp
      refine (rnumber_any N HN.out.2.1 _).mono ?_
      rintro _ w' ⟨rfl, hb⟩
      exact ⟨_, rfl, HR.out _ _ (Sto.of_below hb (hG.lt HY.out.1)) (show _ = _ by rw [HN.out.2.2])⟩
    case s3 =>
      refine Grow.step_in (by rfl) (by rfl) ?_
      intro E W ec eg ef hG hd hu R HR
      have e7 : E (.tmp 7) = .string (st D) := hd 2 7 (by kernel_rfl)
      clear hd hu
      have ha := HAP_a.out.1
      have hs1 := HAP_a.out.2.1
      have hs2 := HAP_a.out.2.2.1
      have hs3 := HAP_a.out.2.2.2
      go_simp
      first | exact HR.out _ _ (Sto.refl _ _ _) rfl | (rw [if_neg (by omega)]; exact HR.out _ _ (Sto.refl _ _ _) rfl)
    case s4 =>
      refine Grow.step_in (by rfl) (by rfl) ?_
      intro E W ec eg ef hG hd hu R HR
      have e3 : E (.tmp 3) = .pointer (some ⟨w.heap.size, 0, none⟩) := hu 3 (by kernel_rfl)
      clear hd hu
      go_simp
      exact HR.out _ _ (Sto.refl _ _ _) rfl
    case s5 =>
      refine Grow.step_in (by rfl) (by rfl) ?_
      intro E W ec eg ef hG hd hu R HR
      have e9 : E (.tmp 9) = .slice (some ⟨w.heap.size, 0, none⟩) 32 32 := hd 4 9 (by kernel_rfl)
      clear hd hu
      have hs := byt_string (HY.out.2.turned hG.turned fun _ _ h => h)
      go_simp
      exact HR.out _ _ (Sto.refl _ _ _) rfl
    case s6 =>
      refine Grow.step_in (by rfl) (by rfl) ?_
      intro E W ec eg ef hG hd hu R HR
      have e8 : E (.tmp 8) = .string (st M1) := hd 3 8 (by kernel_rfl)
      have e10 : E (.tmp 10) = .string (st X) := hd 5 10 (by kernel_rfl)
      clear hd hu
      have ha := HAP_b.out.1
      have hs1 := HAP_b.out.2.1
      have hs2 := HAP_b.out.2.2.1
      have hs3 := HAP_b.out.2.2.2
      go_simp
      first | exact HR.out _ _ (Sto.refl _ _ _) rfl | (rw [if_neg (by omega)]; exact HR.out _ _ (Sto.refl _ _ _) rfl)
    case s7 =>
      refine Grow.step_in (by rfl) (by rfl) ?_
      intro E W ec eg ef hG hd hu R HR
      have e11 : E (.tmp 11) = .string (st M2) := hd 6 11 (by kernel_rfl)
      clear hd hu
      go_simp
      refine (rof_any M2 HL.out _).mono ?_
      rintro _ w' ⟨rfl, hb⟩
      exact ⟨_, rfl, HR.out _ _ (Sto.of_below hb (hG.lt HY.out.1)) (show _ = _ by rw [HRS.out, HN.out.1]; rfl)⟩
    case s8 =>
      refine Grow.step_in (by rfl) (by rfl) ?_
      intro E W ec eg ef hG hd hu R HR
      have e4 : E (.tmp 4) = .pointer (some ⟨w.heap.size + 1, 0, none⟩) := hu 4 (by kernel_rfl)
      have e12 : E (.tmp 12) = .agg RS := hd 7 12 (by kernel_rfl)
      clear hd hu
      obtain ⟨ds, hds, hdo⟩ := hG.old HY1.out
      exact runs_store 36 (.tmp 4) (.tmp 12) rfl (w.heap.size + 1) RS e4 e12 36 ds hds (by rw [HS.out.1]; exact id_info) (by rcases hdo with rfl | rfl; exact HS.out.1.symm; rfl) HS.out.2 (HR.out _ _ (Sto.store hds) (setRow_at hds))
  case gfin =>
    intro W hG
    refine Grow.fin_dst (by rfl) ?_
    rintro _ rfl
    refine Grow.fin_dst (by rfl) ?_
    rintro _ rfl
    refine Grow.fin_dst (by rfl) ?_
    rintro _ rfl
    refine Grow.fin_dst (by rfl) ?_
    rintro _ rfl
    refine Grow.fin_dst (by rfl) ?_
    rintro _ rfl
    refine Grow.fin_dst (by rfl) ?_
    rintro _ rfl
    refine Grow.fin_dst (by rfl) ?_
    rintro _ rfl
    refine Grow.fin_dst (by rfl) ?_
    rintro _ rfl
    refine Grow.fin_told (by rfl) ?_
    rintro ⟨_, hK⟩
    simp only [Act.put, List.setIfInBounds_toArray, List.set_cons_zero, List.set_cons_succ]
    refine Grow.fin_end ?_
    have HG : Hid (Below w.heap.size w W) := Lib.hid (HB3.out.trans ((hG.of_drew.turned.mono (T := (w.heap.size ≤ ·)) fun b _ hb => by omega).below HB3.out.size))
    have HK2 := Lib.hid hK
    clear hG hK
    go_wp2_with fail
    exact bodyPost_ret (results_cell_row rfl _ _ (w.heap.size + 1) 36 RS (0, 0) _ rfl HK2.out Tryd.underlying36 rfl (by rw [HS.out.1]; exact id_info)) rfl ⟨rfl, HG.out⟩
end Go.Proofs.YtnbjhdlnibmgdaaDoor

/-! The reference's row of digests. -/
namespace Go.Proofs.YtnbjhdlnibmgdaaDoor
open Go.RowKit

/-- A slice of one digest. -/
theorem wpList_id_lit {ops : Array Oper} {rest : List Oper} {o : Oper} {a : Act} {Q : Exit → Act → World → Prop} {W : World} (hgd : o.guard = none) (x : Operand) (ho : o.op = .buildSlice 81 1 #[(0, x)]) (XS : Array Value) (l : List UInt8) (h : XS = row8 l) (hl : l.length = 32) (hx : a.eval x = .agg XS)
    (hK : wpList Tryd.prog ops Q rest (a.put o.dst (.slice (some ⟨W.heap.size, 0, none⟩) 1 1)) (W.alloc (.cells XS 36))) : wpList Tryd.prog ops Q (o :: rest) a W := by
  refine wpList_plain hgd fun K hK' => ?_
  have hrun := run_ids_lit W XS h hl
  unfold Oper.wp execOp
  simp [ho, hx, hrun, Result.andThen]
  exact hK' _ _ hK
theorem idsC_app (l : List (List UInt8)) (x : List UInt8) : idsC (l ++ [x]) = idsC l ++ u8s x := by
  simp [idsC, u8s]
theorem row8_cell {W : World} {g : Nat} {l : List UInt8} (h : W.heap[g]? = some (.cells (row8 l) 36 (0, 0))) : ∀ j u, (u8s l)[j]? = some u → W.cell? ((⟨g, 0, none⟩ : Addr).add j) = some u := fun j u hj => by
  rw [add_plain, Nat.zero_add, cell_of_cells h, row8, List.getElem?_toArray, hj]

def RRw (w1 : World) (b : List UInt8) (v i : Value) (wr : World) : Prop :=
  ∃ j : Nat, j ≤ (splitL b).length ∧ i = .int .i64 (j : Int) ∧ wr.ownsRow w1.heap.size 36 32 v j (idsC ((digs b).take j)) ∧ Below w1.heap.size w1 wr

set_option maxHeartbeats 4000000 in
set_option maxRecDepth 100000 in
theorem rrow_any (b : List UInt8) (hb : b.length ≤ 1000000) (w : World) :
    Calls Tryd.prog 45 #[.string (st b)] w fun e w' => ∃ v, e = .returned v ∧ w'.ownsRow w.heap.size 36 32 v (splitL b).length (idsC (digs b)) ∧ Below w.heap.size w w' := by
  obtain ⟨i0, hi, hz0, hz1, hz2⟩ := info_parts id_info3
  have HI := Lib.hid (And.intro hi (And.intro hz0 (And.intro hz1 hz2)))
  have hsp := rsplit_any b hb w
  have HBL := Lib.hid hb
  have hpos := splitL_pos b
  have hcnt := splitL_count b
  have hN6 : (splitL b).length ≤ 1000000 := by split at hcnt <;> omega
  have hdl := digs_length b
  obtain ⟨N, hN⟩ : ∃ N, N = (splitL b).length := ⟨_, rfl⟩
  rw [← hN] at hsp hpos hN6 hdl ⊢
  have HN := Lib.hid (And.intro hN (And.intro hpos (And.intro hN6 hdl)))
  clear hi hz0 hz1 hz2 hb hcnt hN hdl
  go_enter Tryd.func45, Tryd.ntmps45
  go_wp2_with fail
  refine hsp.mono ?_
  clear hsp
  rintro _ w1 ⟨v, rfl, hown, hb1⟩
  obtain ⟨g, cap, rfl, hcap⟩ := hown.form hpos
  have HS := Lib.hid (And.intro hown hb1)
  clear hown hb1 hcap
  go_wp2_with fail
  go_loopw [3, 5] (fun v i wr => RRw w1 b v i wr) (fun _ i _ => N - (intOf i).toNat)
  case atStart => unfold RRw; exact ⟨0, Nat.zero_le _, rfl, by simpa [idsC, u8s] using World.ownsRow_nil _ _ _ _, Below.refl _ _⟩
  case round =>
    obtain ⟨j, hj, rfl, hown, hbr⟩ := hrel
    have HO := Lib.hid hown
    have HBR := Lib.hid hbr
    have hszr := hbr.size
    rw [← HN.out.1] at hj
    clear hown hbr
    by_cases hlt : j < N
    · obtain ⟨m, hm⟩ : ∃ m, m = (splitL b)[j]?.getD [] := ⟨_, rfl⟩
      have hjs : j < (splitL b).length := by rw [← HN.out.1]; exact hlt
      have hml : m.length ≤ 64 := by
        rw [hm, List.getElem?_eq_getElem hjs]
        exact splitL_le b _ (List.getElem_mem hjs)
      have hown := own_below HS.out.1 HBR.out
      have hcell : wr.cell? ⟨g, j, none⟩ = some (.string (st m)) := by
        rw [hown.cellAt j (by omega), hm, strs]
        simp [hjs]
      obtain ⟨X, hX⟩ : ∃ X, X = leafD m := ⟨_, rfl⟩
      obtain ⟨XS, hXS⟩ : ∃ XS, XS = row8 X := ⟨_, rfl⟩
      have HX : Hid (XS = row8 X ∧ X.length = 32 ∧ (digs b).take (j + 1) = (digs b).take j ++ [X]) := Lib.hid ⟨hXS, by rw [hX]; exact leafD_length _, by
        rw [List.take_add_one, hX, hm]
        simp [digs, hjs]⟩
      have hof := rof_any (0 :: m) (by simp; omega) wr
      rw [show shaL (0 :: m) = X from hX.symm, show (u8s X).toArray = XS from hXS.symm] at hof
      have ha := st_cons 0 m
      have hsm := st_size m
      have hsum : ¬ (9223372036854775807 : Int) < 1 + (m.length : Int) := by omega
      generalize st (0 :: m) = sl at *
      clear hm hjs hml hown hX hXS
      go_wp2_with (first
        | (go_at_call 59; refine hof.mono ?_; clear hof; rintro _ w2 ⟨rfl, hb2⟩
           have HO1 := Lib.hid (own_below HO.out hb2)
           have HB1 := Lib.hid (HBR.out.trans (hb2.mono HBR.out.size))
           have hs2 : w1.heap.size ≤ w2.heap.size := HB1.out.size
           have hrow := row8_cell (l := X) (by rw [← HX.out.1]; exact heap_alloc_new w2 (.cells XS 36))
           clear hb2)
        | refine wpList_id_lit (by rfl) (.tmp 20) (by rfl) XS X HX.out.1 HX.out.2.1 (by rfl) ?_
        | (at_builtin; refine wpList_append_own_at _ rfl _ _ 81 rfl w1.heap.size 36 i0 (.agg zerosId) 32 32 Tryd.underlying81 HI.out.1 HI.out.2.1 HI.out.2.2.1 HI.out.2.2.2 (by kernel_rfl) (by decide) _ j (idsC ((digs b).take j)) rfl (HO1.out.alloc _) ⟨w2.heap.size, 0, none⟩ 1 1 (u8s X) rfl (by rw [u8s_length, HX.out.2.1]) hrow (u8s_one X) (by unfold maxLen; have := HN.out.2.2.1; omega) (by have := HN.out.2.2.1; omega) (by simp; omega) ?_))
      intro v' w3 hown3 hgrow _ _
      have hlt2 := HO1.out.lt
      have HB3 : Hid (Below w1.heap.size w1 w3) := Lib.hid ((HB1.out.alloc hs2 _).grown hgrow (by simp; omega) (fun b hb => (hlt2 b hb).1))
      have HO3 : Hid (w3.ownsRow w1.heap.size 36 32 v' (j + 1) (idsC ((digs b).take (j + 1)))) := Lib.hid (by
        rw [HX.out.2.2, idsC_app]
        exact hown3)
      clear hown3 hgrow hlt2
      go_wp2_with fail
      go_roundw
      case rel => unfold RRw; exact ⟨j + 1, by rw [← HN.out.1]; omega, by go_num, HO3.out, HB3.out⟩
      case measure => simp [intOf]; omega
    · obtain rfl : N = j := by omega
      have hall : (digs b).take N = digs b := by rw [List.take_of_length_le (by have := HN.out.2.2.2; omega)]
      clear hlt hj
      go_wp2_with fail
      go_ret
      exact ⟨_, rfl, by have := own_base HO.out HS.out.2.size; rwa [hall] at this, HS.out.2.trans (HBR.out.mono HS.out.2.size)⟩
end Go.Proofs.YtnbjhdlnibmgdaaDoor

/-! The law of drawn regions with what holds till an operation is done (wpIn_region_grow of XGrowIn), at any open fence. -/
namespace Go.Proofs.YtnbjhdlnibmgdaaDoor
open Go.RowKit
namespace Grow
section
variable {P : Program} {ops : Array Oper} {Q : Exit → Act → World → Prop} {G : World → World → Prop} {Φ : Nat → Value → World → Prop} {a0 : Act} {w0 : World} {F : Fence} {nr : Nat}
theorem step_invYF (hF : Open F nr P) {Ψ : Nat → World → Prop} {n i : Nat} {listed : Array Bool} {a : Act} {w : World} (hnd : noDefer ops = true) (hB : growB ops n = true) (hn : a0.tmps.size = n)
    (hI : InvY Ψ ops G Φ a0 w0 listed a w) (hi : i ∈ Region.ready .any ops listed) (hs : GStepY P Ψ ops G Φ a0 w0 i) : wpOpIn F nr P ops Q i (fun a' w' => InvY Ψ ops G Φ a0 w0 (listed.setIfInBounds i true) a' w') a w := by
  obtain ⟨hun, o, ho, hall⟩ := mem_ready.1 hi
  obtain ⟨hun, hil⟩ := getD_both' hun
  obtain ⟨hr1, hr2⟩ := inv_reads hI.base hi ho
  have hwait : ∀ j, waitsB ops j i = true → listed.getD j false = false := fun j hw => by
    unfold waitsB at hw
    cases hoj : ops[j]? with
    | none => rw [hoj] at hw; cases hw
    | some oj =>
      rw [hoj] at hw
      obtain ⟨e, he, hb⟩ := Array.any_eq_true'.1 hw
      simp only [Bool.and_eq_true, beq_iff_eq] at hb
      cases hlj : listed.getD j false with
      | false => rfl
      | true =>
        have := hI.base.closed j oj hoj hlj e he hb.1
        rw [hb.2, hun] at this
        cases this
  obtain ⟨hg, hr⟩ := hs o ho a.eval w (fun _ => rfl) (fun _ => rfl) (fun _ => rfl) hI.base.grow hr1 hr2 (fun j hj hji => by
    refine hI.yet j hj ?_
    rcases hji with rfl | hw
    · exact hun
    · exact hwait j hw)
  unfold wpOpIn
  rw [ho]
  show if Region.wanted o (yielded ops a.tmps) = true then _ else _
  rw [if_pos (by unfold Region.wanted; rw [hg])]
  refine runs_wpF hF (noDefer_spec hnd ho) (fun v w' h => ⟨inv_put hB hn hI.base hi ho h.1 (fun j hl u hu => ?_) h.2.1, fun j hj hl => ?_⟩) hr
  · have hlt : j < ops.size := by
      rw [← hI.base.lsize]
      cases Nat.lt_or_ge j listed.size with
      | inl h => exact h
      | inr h => rw [Array.getD_eq_getD_getElem?, Array.getElem?_eq_none h] at hl; cases hl
    have hne : j ≠ i := by rintro rfl; rw [hun] at hl; cases hl
    have hw : waitsB ops j i = false := by
      cases hw : waitsB ops j i with
      | false => rfl
      | true => rw [hwait j hw] at hl; cases hl
    exact h.2.2.1 j hlt hne hw u hu
  by_cases hji : i = j
  · subst hji
    rw [getD_set_same hil] at hl
    cases hl
  · rw [getD_set_ne' hji] at hl
    exact h.2.2.2 j hj (fun e => hji e.symm) (hI.yet j hj hl)

theorem any_of_invYF (hF : Open F nr P) {Ψ : Nat → World → Prop} {n : Nat} (hnd : noDefer ops = true) (hB : growB ops n = true) (hn : a0.tmps.size = n)
    (hs : ∀ i, i < ops.size → GStepY P Ψ ops G Φ a0 w0 i) (hfin : ∀ W, G w0 W → fin Φ Q W ops.toList 0 a0) :
    ∀ (fuel : Nat) (listed : Array Bool) (a : Act) (w : World), InvY Ψ ops G Φ a0 w0 listed a w → listed.toList.count false ≤ fuel → wpAnyIn F nr P .any ops Q fuel listed a w := by
  have hend : ∀ (listed : Array Bool) (a : Act) (w : World), Inv ops G Φ a0 w0 listed a w → Region.ready .any ops listed = [] → Q .normal a w := by
    intro listed a w hI hr
    have hall := all_of_ready hB hI.lsize hr
    have hal : ∀ j o, ops[j]? = some o → listed.getD j false = true := fun j o hj => hall j (Array.getElem?_eq_some_iff.1 hj).1
    have hsame : putL (fun j => a.tmps.getD ((dstOf ops j).getD 0) undef) ops.toList 0 a0 = a := by
      refine putL_same (a := a) _ 0 a0 hI.size.symm hI.defers.symm ?_ ?_
      · intro j o d hj hd
        have hj' : ops[j]? = some o := by rw [← hj, Array.getElem?_toList]
        refine ⟨by rw [hI.size, hn]; exact ((growB_spec hB hj').2 d hd).1, ?_⟩
        have hdd : dstOf ops j = some d := by unfold dstOf; rw [hj']; exact hd
        simp [hdd]
      · intro d hd
        exact (hI.rest d fun j o hj _ => hd o (by rw [Array.mem_toList_iff]; exact Array.mem_of_getElem? hj)).symm
    rw [← hsame]
    refine fin_putL ops.toList 0 a0 (hfin w hI.grow) ?_ (fun j o hj hd => by
      have hj' : ops[j]? = some o := by rw [← hj, Array.getElem?_toList]
      simpa using hI.doneN j o hj' (hal j o hj') hd)
    intro j o d hj hd
    have hj' : ops[j]? = some o := by rw [← hj, Array.getElem?_toList]
    have hdd : dstOf ops j = some d := by unfold dstOf; rw [hj']; exact hd
    have := hI.done j o d hj' (hal j o hj') hd
    simpa [hdd] using this
  intro fuel
  induction fuel with
  | zero =>
    intro listed a w hI hc
    have hr : Region.ready .any ops listed = [] := by
      rw [List.eq_nil_iff_forall_not_mem]
      intro i hi
      have := count_set (mem_ready.1 hi).1
      omega
    exact ⟨hr, hend _ _ _ hI.base hr⟩
  | succ fuel ih =>
    intro listed a w hI hc
    refine ⟨hend _ _ _ hI.base, fun i hi => ?_⟩
    obtain ⟨h1, o, ho, _⟩ := mem_ready.1 hi
    refine wpOpIn_mono ?_ (step_invYF hF hnd hB hn hI hi (hs i (Array.getElem?_eq_some_iff.1 ho).1))
    intro a' w' hI'
    exact ih _ a' w' hI' (by have := count_set h1; omega)
end
end Grow

/-- THE LAW. n: how many slots the frame has; Ψ: what holds till an operation is done. -/
theorem wpIn_region_growY {F : Fence} {nr : Nat} {P : Program} {ops : Array Oper} {Q : Exit → Act → World → Prop} {id : Nat} {a : Act} {w : World} (hF : Grow.Open F nr P) (Θ : World → Prop) (Ψ : Nat → World → Prop) (Φ : Nat → Value → World → Prop) (n : Nat) (hm : P.follows .mixedOrders = true) (hnd : Grow.noDefer ops = true)
    (hB : Grow.growB ops n = true) (hn : a.tmps.size = n) (hθ : Θ w.drew) (hy : ∀ j, j < ops.size → Ψ j w.drew)
    (hs : Grow.allBelow (Grow.GStepY P Ψ ops (fun _ W => Θ W) Φ a w.drew) ops.size) (hfin : ∀ W, Θ W → Grow.fin Φ Q W ops.toList 0 a) : (Code.region id ops true).wpIn F nr P Q a w := by
  refine wpIn_region_any hm (Grow.any_of_invYF hF hnd hB hn (Grow.allBelow_at hs) hfin ops.size _ a _ ⟨⟨hθ, by simp, rfl, rfl, ?_, ?_, ?_, fun _ _ => rfl⟩, fun j hj _ => hy j hj⟩ ?_)
  · intro j o hj hl
    simp at hl
    have := (Array.getElem?_eq_some_iff.1 hj).1
    simp [this] at hl
  · intro j o d hj hl
    have := (Array.getElem?_eq_some_iff.1 hj).1
    simp [this] at hl
  · intro j o hj hl
    have := (Array.getElem?_eq_some_iff.1 hj).1
    simp [this] at hl
  · simp

end Go.Proofs.YtnbjhdlnibmgdaaDoor

/-! The reference's row above one. -/
namespace Go.Proofs.YtnbjhdlnibmgdaaDoor
open Go.RowKit

@[reducible] def AbL (B J : Nat) (SV AV P1 P2 : Value) (XS YS ZS : Array Value) (NEW : List Value) : List (Value → World → Prop) :=
  [fun u _ => u = SV, fun u _ => u = AV, fun u _ => u = .int .i64 (2 * (J : Int)), fun u _ => u = P1, fun u _ => u = .agg XS, fun u _ => u = AV, fun u _ => u = .int .i64 (2 * (J : Int)), fun u _ => u = .int .i64 (2 * (J : Int) + 1), fun u _ => u = P2, fun u _ => u = .agg YS, fun u _ => u = .agg ZS,
   fun u V => ∃ q, u = .slice (some ⟨q, 0, none⟩) 1 1 ∧ V.heap[q]? = some (.cells ZS 36 (0, 0)) ∧ some q ≠ SV.ownBlock, fun u V => V.ownsRow B 36 32 u (J + 1) NEW, fun u V => V.ownsRow B 36 32 u (J + 1) NEW]
theorem AbL.mono {B J : Nat} {SV AV P1 P2 : Value} {XS YS ZS : Array Value} {NEW : List Value} {V V' : World} (hb : Below V.heap.size V V') (j : Nat) (u : Value) (h : Grow.nth (AbL B J SV AV P1 P2 XS YS ZS NEW) j u V) : Grow.nth (AbL B J SV AV P1 P2 XS YS ZS NEW) j u V' :=
  Grow.mono_nth (G := fun V V' => Below V.heap.size V V') (L := AbL B J SV AV P1 P2 XS YS ZS NEW) ⟨fun _ _ _ h _ => h, fun _ _ _ h _ => h, fun _ _ _ h _ => h, fun _ _ _ h _ => h, fun _ _ _ h _ => h, fun _ _ _ h _ => h, fun _ _ _ h _ => h, fun _ _ _ h _ => h, fun _ _ _ h _ => h, fun _ _ _ h _ => h, fun _ _ _ h _ => h,
    fun _ _ _ ⟨q, h1, h2, h3⟩ hb => ⟨q, h1, (hb.block _ (lt_of_cells h2)).trans h2, h3⟩, fun _ _ _ h hb => own_below h hb, fun _ _ _ h hb => own_below h hb, trivial⟩ j u V V' h hb

def RAb (w : World) (l : List (List UInt8)) (M : Nat) (v i : Value) (wr : World) : Prop :=
  ∃ j : Nat, j ≤ M ∧ i = .int .i64 (2 * (j : Int)) ∧ wr.ownsRow w.heap.size 36 32 v j (idsC ((aboveL l).take j)) ∧ Below w.heap.size w wr

set_option maxHeartbeats 8000000 in
set_option maxRecDepth 100000 in
theorem rabove_any {w : World} {S : Nat → Prop} {A : Option Addr} {n c : Nat} {l : List (List UInt8)} (h : Ids w S A n c l) (h0 : 0 < n) (hn : n ≤ 1000000) :
    Calls Tryd.prog 46 #[.slice A n c] w fun e w' => ∃ v, e = .returned v ∧ w'.ownsRow w.heap.size 36 32 v ((n + 1) / 2) (idsC (aboveL l)) ∧ Below w.heap.size w w' := by
  obtain ⟨i0, hi, hz0, hz1, hz2⟩ := info_parts id_info3
  have HI := Lib.hid (And.intro hi (And.intro hz0 (And.intro hz1 hz2)))
  obtain ⟨M, hM⟩ : ∃ M, M = (n + 1) / 2 := ⟨_, rfl⟩
  rw [← hM]
  obtain ⟨b, off, rfl, _⟩ := h.row h0
  have HH := Lib.hid (And.intro (h.mono (T := fun x => x < w.heap.size) (fun b hb _ => hb)) (And.intro hn (And.intro hM (show (aboveL l).length = M by rw [aboveL_length, h.len, hM]))))
  have H32 := Lib.hid (aboveL_32 h.each)
  clear hi hz0 hz1 hz2 h hM
  go_enter Tryd.func46, Tryd.ntmps46
  go_wp2_with fail
  go_loopw [3, 4] (fun v i wr => RAb w l M v i wr) (fun _ i _ => n + 1 - (intOf i).toNat)
  case atStart => unfold RAb; exact ⟨0, Nat.zero_le _, rfl, by simpa [idsC, u8s] using World.ownsRow_nil _ _ _ _, Below.refl _ _⟩
  case round =>
    obtain ⟨j, hj, rfl, hown, hbr⟩ := hrel
    have HO := Lib.hid hown
    have HBR := Lib.hid hbr
    have hszr := hbr.size
    clear hown hbr
    have hMe := HH.out.2.2.1
    by_cases hlt : j < M
    · have hjn : 2 * j < n := by omega
      have hjn' : 2 * (j : Int) < (n : Int) := by omega
      have HI1 : Hid (Ids wr (fun x => x < w.heap.size) (some ⟨b, off, none⟩) n c l) := Lib.hid (HH.out.1.below HBR.out)
      have hat := aboveL_at l (2 * j) (by rw [HI1.out.len]; exact hjn)
      rw [show 2 * j / 2 = j by omega, if_neg (by omega), HI1.out.len] at hat
      obtain ⟨X, hX⟩ : ∃ X, X = l[2 * j]?.getD [] := ⟨_, rfl⟩
      obtain ⟨XS, hXS⟩ : ∃ XS, XS = row8 X := ⟨_, rfl⟩
      have HX : Hid (XS = row8 X ∧ X.length = 32 ∧ X = l[2 * j]?.getD []) := Lib.hid ⟨hXS, by rw [hX]; exact get32 HI1.out.each (i := 2 * j) (by rw [HI1.out.len]; exact hjn), hX⟩
      obtain ⟨Z, hZ⟩ : ∃ Z, Z = (aboveL l)[j]?.getD [] := ⟨_, rfl⟩
      have HT : Hid (Z.length = 32 ∧ (aboveL l).take (j + 1) = (aboveL l).take j ++ [Z]) := Lib.hid ⟨by rw [hZ]; exact get32 H32.out (by rw [HH.out.2.2.2]; exact hlt), by
        rw [List.take_add_one, hZ, List.getElem?_eq_getElem (show j < (aboveL l).length by rw [HH.out.2.2.2]; exact hlt)]
        rfl⟩
      rw [← hZ, ← hX] at hat
      clear hZ hX hXS
      have hw3 := IntWalk.i64_in (2 * (j : Int) + 2) (by have := HH.out.2.1; omega)
      by_cases hj2 : 2 * j + 1 < n
      · have hj2' : (2 * (j : Int) + 1) < (n : Int) := by omega
        rw [if_pos hj2] at hat
        obtain ⟨Y, hY⟩ : ∃ Y, Y = l[2 * j + 1]?.getD [] := ⟨_, rfl⟩
        obtain ⟨YS, hYS⟩ : ∃ YS, YS = row8 Y := ⟨_, rfl⟩
        obtain ⟨ZS, hZS⟩ : ∃ ZS, ZS = row8 Z := ⟨_, rfl⟩
        have HY : Hid (YS = row8 Y ∧ Y.length = 32 ∧ Y = l[2 * j + 1]?.getD []) := Lib.hid ⟨hYS, by rw [hY]; exact get32 HI1.out.each (by rw [HI1.out.len]; exact hj2), hY⟩
        have HZ : Hid (ZS = row8 Z ∧ Z.length = 32 ∧ Z = nodeD X Y) := Lib.hid ⟨hZS, HT.out.1, by rw [hY]; exact hat⟩
        clear hY hYS hZS hat
        have hw2 := IntWalk.i64_in (2 * (j : Int) + 1) (by have := HH.out.2.1; omega)
        go_wp2_with fail
        refine (wpIn_wide (n := 3)).1 ?_
        refine wpIn_region_growY (Grow.open_wide _ _) (fun V => Below w.heap.size w V) (fun k V => (k = 12 → V.ownsRow w.heap.size 36 32 u3 j (idsC ((aboveL l).take j)))) (Grow.nth (AbL w.heap.size j u3 (.slice (some ⟨b, off, none⟩) n c) (.pointer (some ⟨b, off + 2 * j * 32, none⟩)) (.pointer (some ⟨b, off + (2 * j + 1) * 32, none⟩)) XS YS ZS (idsC ((aboveL l).take j) ++ u8s Z))) 37 (by kernel_rfl) (by kernel_rfl) (by kernel_rfl) (by rfl) (below_drew HBR.out) (fun k hk => fun _ => HO.out) ?gsteps ?gfin
        case gsteps =>
          show Grow.allBelow _ 14
          refine And.intro ?_ ?s13
          refine And.intro ?_ ?s12
          refine And.intro ?_ ?s11
          refine And.intro ?_ ?s10
          refine And.intro ?_ ?s9
          refine And.intro ?_ ?s8
          refine And.intro ?_ ?s7
          refine And.intro ?_ ?s6
          refine And.intro ?_ ?s5
          refine And.intro ?_ ?s4
          refine And.intro ?_ ?s3
          refine And.intro ?_ ?s2
          refine And.intro ?_ ?s1
          refine And.intro ?_ ?s0
          exact trivial
          case s0 =>
            refine Grow.stepY_in (by rfl) (by rfl) ?_
            intro E V ec eg ef hT hd hu hy R HR
            have e3 : E (.tmp 3) = u3 := hu 3 (by kernel_rfl)
            clear hd hu
            go_simp
            exact HR.out _ _ hT rfl (fun _ _ _ _ _ h => h) (fun _ _ _ h => h)
          case s1 =>
            refine Grow.stepY_in (by rfl) (by rfl) ?_
            intro E V ec eg ef hT hd hu hy R HR
            have e0 : E (.tmp 0) = .slice (some ⟨b, off, none⟩) n c := hu 0 (by kernel_rfl)
            clear hd hu
            go_simp
            exact HR.out _ _ hT rfl (fun _ _ _ _ _ h => h) (fun _ _ _ h => h)
          case s2 =>
            refine Grow.stepY_in (by rfl) (by rfl) ?_
            intro E V ec eg ef hT hd hu hy R HR
            have e4 : E (.tmp 4) = .int .i64 (2 * (j : Int)) := hu 4 (by kernel_rfl)
            clear hd hu
            go_simp
            exact HR.out _ _ hT rfl (fun _ _ _ _ _ h => h) (fun _ _ _ h => h)
          case s3 =>
            refine Grow.stepY_in (by rfl) (by rfl) ?_
            intro E V ec eg ef hT hd hu hy R HR
            have e17 : E (.tmp 17) = .slice (some ⟨b, off, none⟩) n c := hd 1 17 (by kernel_rfl)
            have e18 : E (.tmp 18) = .int .i64 (2 * (j : Int)) := hd 2 18 (by kernel_rfl)
            clear hd hu
            go_simp
            first | (exact HR.out _ _ hT rfl (fun _ _ _ _ _ h => h) (fun _ _ _ h => h)) | (rw [if_pos ⟨by omega, by omega⟩, show (2 * (j : Int)).toNat = 2 * j by omega]; exact HR.out _ _ hT rfl (fun _ _ _ _ _ h => h) (fun _ _ _ h => h))
          case s4 =>
            refine Grow.stepY_in (by rfl) (by rfl) ?_
            intro E V ec eg ef hT hd hu hy R HR
            have e19 : E (.tmp 19) = .pointer (some ⟨b, off + 2 * j * 32, none⟩) := hd 3 19 (by kernel_rfl)
            clear hd hu
            exact runs_load_id (.tmp 19) rfl (HH.out.1.below hT) (2 * j) hjn XS (by rw [← HX.out.2.2]; exact HX.out.1) _ rfl e19 (HR.out _ _ hT rfl (fun _ _ _ _ _ h => h) (fun _ _ _ h => h))
          case s5 =>
            refine Grow.stepY_in (by rfl) (by rfl) ?_
            intro E V ec eg ef hT hd hu hy R HR
            have e0 : E (.tmp 0) = .slice (some ⟨b, off, none⟩) n c := hu 0 (by kernel_rfl)
            clear hd hu
            go_simp
            exact HR.out _ _ hT rfl (fun _ _ _ _ _ h => h) (fun _ _ _ h => h)
          case s6 =>
            refine Grow.stepY_in (by rfl) (by rfl) ?_
            intro E V ec eg ef hT hd hu hy R HR
            have e4 : E (.tmp 4) = .int .i64 (2 * (j : Int)) := hu 4 (by kernel_rfl)
            clear hd hu
            go_simp
            exact HR.out _ _ hT rfl (fun _ _ _ _ _ h => h) (fun _ _ _ h => h)
          case s7 =>
            refine Grow.stepY_in (by rfl) (by rfl) ?_
            intro E V ec eg ef hT hd hu hy R HR
            have e22 : E (.tmp 22) = .int .i64 (2 * (j : Int)) := hd 6 22 (by kernel_rfl)
            clear hd hu
            go_simp
            exact HR.out _ _ hT rfl (fun _ _ _ _ _ h => h) (fun _ _ _ h => h)
          case s8 =>
            refine Grow.stepY_in (by rfl) (by rfl) ?_
            intro E V ec eg ef hT hd hu hy R HR
            have e21 : E (.tmp 21) = .slice (some ⟨b, off, none⟩) n c := hd 5 21 (by kernel_rfl)
            have e23 : E (.tmp 23) = .int .i64 (2 * (j : Int) + 1) := hd 7 23 (by kernel_rfl)
            clear hd hu
            go_simp
            first | (exact HR.out _ _ hT rfl (fun _ _ _ _ _ h => h) (fun _ _ _ h => h)) | (rw [if_pos (by omega), show (2 * (j : Int) + 1).toNat = 2 * j + 1 by omega]; exact HR.out _ _ hT rfl (fun _ _ _ _ _ h => h) (fun _ _ _ h => h))
          case s9 =>
            refine Grow.stepY_in (by rfl) (by rfl) ?_
            intro E V ec eg ef hT hd hu hy R HR
            have e24 : E (.tmp 24) = .pointer (some ⟨b, off + (2 * j + 1) * 32, none⟩) := hd 8 24 (by kernel_rfl)
            clear hd hu
            exact runs_load_id (.tmp 24) rfl (HH.out.1.below hT) (2 * j + 1) hj2 YS (by rw [← HY.out.2.2]; exact HY.out.1) _ rfl e24 (HR.out _ _ hT rfl (fun _ _ _ _ _ h => h) (fun _ _ _ h => h))
          case s10 =>
            refine Grow.stepY_in (by rfl) (by rfl) ?_
            intro E V ec eg ef hT hd hu hy R HR
            have e20 : E (.tmp 20) = .agg XS := hd 4 20 (by kernel_rfl)
            have e25 : E (.tmp 25) = .agg YS := hd 9 25 (by kernel_rfl)
            clear hd hu
            go_simp
            rw [HX.out.1, HY.out.1]
            refine (rnode_any X Y HX.out.2.1 HY.out.2.1 V).mono ?_
            rintro _ w' ⟨rfl, hb⟩
            exact ⟨_, rfl, HR.out _ _ (hT.trans (hb.mono hT.size)) (show Value.agg _ = Value.agg ZS by rw [HZ.out.1, HZ.out.2.2]) (fun k _ _ _ u hu => AbL.mono hb k u hu) (fun k _ _ h e => own_below (h e) hb)⟩
          case s11 =>
            refine Grow.stepY_in (by rfl) (by rfl) ?_
            intro E V ec eg ef hT hd hu hy R HR
            have e26 : E (.tmp 26) = .agg ZS := hd 10 26 (by kernel_rfl)
            have hown := (hy 12 (by decide) (.inr (by kernel_rfl))) rfl
            have HT2 := Lib.hid hT
            clear hy hT
            clear hd hu
            have hrun := run_ids_lit V ZS HZ.out.1 HZ.out.2.1
            simp [execOp, e26, hrun, Result.andThen, Grow.runsTo]
            have hbl := (Below.refl V.heap.size V).alloc (Nat.le_refl _) (.cells ZS 36)
            exact HR.out _ _ (HT2.out.trans (hbl.mono HT2.out.size)) ⟨V.heap.size, rfl, heap_alloc_new V _, fun e => by have := (hown.lt _ e.symm).2; omega⟩ (fun k _ _ _ u hu => AbL.mono hbl k u hu) (fun k _ _ h e => own_below (h e) hbl)
          case s12 =>
            refine Grow.stepY_in (by rfl) (by rfl) ?_
            intro E V ec eg ef hT hd hu hy R HR
            have e16 : E (.tmp 16) = u3 := hd 0 16 (by kernel_rfl)
            obtain ⟨q, e27, hq0, hqr⟩ := hd 11 27 (by kernel_rfl)
            have hown := (hy 12 (by decide) (.inl rfl)) rfl
            clear hy
            clear hd hu
            obtain ⟨v', w', hrun, hown', hgr, _⟩ := run_append_own_at (P := Tryd.prog) V w.heap.size 81 81 36 i0 (.agg zerosId) 32 32 Tryd.underlying81 HI.out.1 HI.out.2.1 HI.out.2.2.1 HI.out.2.2.2 (by kernel_rfl) (by decide) _ j (idsC ((aboveL l).take j)) hown ⟨q, 0, none⟩ 1 1 (u8s Z) (by rw [u8s_length, HZ.out.2.1]) (row8_cell (l := Z) (by rw [← HZ.out.1]; exact hq0)) (u8s_one Z) (by unfold maxLen; have := HH.out.2.1; omega) (by have := HH.out.2.1; omega) hT.size
            simp [execOp, resolve, invoke, builtin, e16, e27, hrun, Result.andThen, Grow.runsTo]
            refine HR.out _ _ (hT.grown hgr hT.size (fun g hg => (hown.lt g hg).1)) hown' (fun k hk hne2 hw u hu => ?_) (fun k _ hne2 h e => absurd e hne2)
            have h9 : k < 14 := hk
            rcases (show k = 0 ∨ k = 1 ∨ k = 2 ∨ k = 3 ∨ k = 4 ∨ k = 5 ∨ k = 6 ∨ k = 7 ∨ k = 8 ∨ k = 9 ∨ k = 10 ∨ k = 11 ∨ k = 12 ∨ k = 13 by omega) with rfl | rfl | rfl | rfl | rfl | rfl | rfl | rfl | rfl | rfl | rfl | rfl | rfl | rfl
            · exact hu
            · exact hu
            · exact hu
            · exact hu
            · exact hu
            · exact hu
            · exact hu
            · exact hu
            · exact hu
            · exact hu
            · exact hu
            · obtain ⟨q2, h1, h2, h3⟩ := hu
              exact ⟨q2, h1, (hgr.block _ (lt_of_cells h2) h3).trans h2, h3⟩
            · exact absurd rfl hne2
            · cases hw.symm.trans (show Grow.waitsB _ 13 12 = true by kernel_rfl)
          case s13 =>
            refine Grow.stepY_in (by rfl) (by rfl) ?_
            intro E V ec eg ef hT hd hu hy R HR
            have h28 := hd 12 28 (by kernel_rfl)
            clear hd hu
            obtain ⟨u, hu28⟩ : ∃ u, u = E (.tmp 28) := ⟨_, rfl⟩
            rw [← hu28] at h28
            have e28 := hu28.symm
            clear hu28
            go_simp
            exact HR.out _ _ hT h28 (fun _ _ _ _ _ h => h) (fun _ _ _ h => h)
        case gfin =>
          intro W hW
          refine Grow.fin_dst (by rfl) ?_
          rintro _ rfl
          refine Grow.fin_dst (by rfl) ?_
          rintro _ rfl
          refine Grow.fin_dst (by rfl) ?_
          rintro _ rfl
          refine Grow.fin_dst (by rfl) ?_
          rintro _ rfl
          refine Grow.fin_dst (by rfl) ?_
          rintro _ rfl
          refine Grow.fin_dst (by rfl) ?_
          rintro _ rfl
          refine Grow.fin_dst (by rfl) ?_
          rintro _ rfl
          refine Grow.fin_dst (by rfl) ?_
          rintro _ rfl
          refine Grow.fin_dst (by rfl) ?_
          rintro _ rfl
          refine Grow.fin_dst (by rfl) ?_
          rintro _ rfl
          refine Grow.fin_dst (by rfl) ?_
          rintro _ rfl
          refine Grow.fin_dst (by rfl) ?_
          rintro _ ⟨q, rfl, _⟩
          refine Grow.fin_dst (by rfl) ?_
          rintro v12 _
          refine Grow.fin_dst (by rfl) ?_
          rintro v13 ho13
          simp only [Act.put, List.setIfInBounds_toArray, List.set_cons_zero, List.set_cons_succ]
          refine Grow.fin_end ?_
          have HB3 : Hid (Below w.heap.size w W) := Lib.hid hW
          have HO3 : Hid (W.ownsRow w.heap.size 36 32 v13 (j + 1) (idsC ((aboveL l).take (j + 1)))) := Lib.hid (by
            rw [HT.out.2, idsC_app]
            exact ho13)
          clear hW ho13
          go_wp2_with fail
          go_roundw
          case rel => unfold RAb; exact ⟨j + 1, by omega, congrArg _ (by omega), HO3.out, HB3.out⟩
          case measure => simp [intOf]; omega
      · have hj2' : ¬ (2 * (j : Int) + 1) < (n : Int) := by omega
        rw [if_neg hj2] at hat
        have hw2 := IntWalk.i64_in (2 * (j : Int) + 1) (by have := HH.out.2.1; omega)
        have HZX := Lib.hid hat
        clear hat
        have hrow := row8_cell (l := X) (by rw [← HX.out.1]; exact heap_alloc_new wr (.cells XS 36))
        go_wp2_with (first
          | refine wpList_load_id (by rfl) (.tmp 32) (by rfl) HI1.out (2 * j) hjn XS (by rw [← HX.out.2.2]; exact HX.out.1) _ rfl (by rfl) ?_
          | refine wpList_id_lit (by rfl) (.tmp 33) (by rfl) XS X HX.out.1 HX.out.2.1 (by rfl) ?_
          | (at_builtin; refine wpList_append_own_at _ rfl _ _ 81 rfl w.heap.size 36 i0 (.agg zerosId) 32 32 Tryd.underlying81 HI.out.1 HI.out.2.1 HI.out.2.2.1 HI.out.2.2.2 (by kernel_rfl) (by decide) _ j (idsC ((aboveL l).take j)) rfl (HO.out.alloc _) ⟨wr.heap.size, 0, none⟩ 1 1 (u8s X) rfl (by rw [u8s_length, HX.out.2.1]) hrow (u8s_one X) (by unfold maxLen; have := HH.out.2.1; omega) (by have := HH.out.2.1; omega) (by simp; omega) ?_))
        intro v' w3 hown3 hgrow _ _
        have hlt2 := HO.out.lt
        have HB3 : Hid (Below w.heap.size w w3) := Lib.hid ((HBR.out.alloc hszr _).grown hgrow (by simp; omega) (fun b hb => (hlt2 b hb).1))
        have HO3 : Hid (w3.ownsRow w.heap.size 36 32 v' (j + 1) (idsC ((aboveL l).take (j + 1)))) := Lib.hid (by
          rw [HT.out.2, idsC_app, HZX.out]
          exact hown3)
        clear hown3 hgrow hlt2 hrow
        go_wp2_with fail
        go_roundw
        case rel => unfold RAb; exact ⟨j + 1, by omega, congrArg _ (by omega), HO3.out, HB3.out⟩
        case measure => simp [intOf]; omega
    · obtain rfl : M = j := by omega
      have hall : (aboveL l).take M = aboveL l := by rw [List.take_of_length_le (by have := HH.out.2.2.2; omega)]
      have hjn' : ¬ 2 * (M : Int) < (n : Int) := by omega
      clear hlt hj hMe
      go_wp2_with fail
      go_ret
      have hfin := HO.out
      rw [hall] at hfin
      exact ⟨_, rfl, hfin, HBR.out⟩
end Go.Proofs.YtnbjhdlnibmgdaaDoor

/-! The reference's Root. -/
namespace Go.Proofs.YtnbjhdlnibmgdaaDoor
open Go.RowKit

def slLn : Value → Nat
  | .slice _ n _ => n
  | _ => 0
theorem digs_32 (b : List UInt8) : ∀ x ∈ digs b, x.length = 32 := fun x hx => by
  obtain ⟨y, _, rfl⟩ := List.mem_map.1 hx
  exact leafD_length y
def RRt (w0 : World) (N : Nat) (T : List UInt8) (v : Value) (wr : World) : Prop :=
  ∃ A n c l, v = .slice A n c ∧ Ids wr (w0.heap.size ≤ ·) A n c l ∧ 0 < n ∧ n ≤ N ∧ topL l = T ∧ Below w0.heap.size w0 wr

set_option maxHeartbeats 4000000 in
set_option maxRecDepth 100000 in
theorem rroot_any (b : List UInt8) (hb : b.length ≤ 1000000) (w : World) :
    Calls Tryd.prog 29 #[.string (st b)] w fun e w' => e = .returned (.agg (row8 (rootL b))) ∧ Below w.heap.size w w' := by
  have hz := zero_id
  have hpos := splitL_pos b
  have hcnt := splitL_count b
  have hN6 : (splitL b).length ≤ 1000000 := by split at hcnt <;> omega
  have hro := rrow_any b hb (w.alloc (.cells zerosId 36))
  obtain ⟨N, hN⟩ : ∃ N, N = (splitL b).length := ⟨_, rfl⟩
  rw [← hN] at hro hpos hN6
  obtain ⟨RS, hRS⟩ : ∃ RS, RS = row8 (rootL b) := ⟨_, rfl⟩
  rw [← hRS]
  have HRS : Hid (RS = row8 (rootL b) ∧ RS.size = 32 ∧ RS.all (·.oneCell') = true ∧ rootL b = crownD N (topL (digs b))) := Lib.hid ⟨hRS, by rw [hRS, row8_size]; exact crownD_length _ _, by rw [hRS]; exact row8_one _, by rw [hN]; rfl⟩
  have HN := Lib.hid (And.intro hpos hN6)
  have H0 : Hid (Below w.heap.size w (w.alloc (.cells zerosId 36)) ∧ (w.alloc (.cells zerosId 36)).heap[w.heap.size]? = some (.cells zerosId 36 (0, 0)) ∧ (w.alloc (.cells zerosId 36)).heap.size = w.heap.size + 1) := Lib.hid ⟨(Below.refl _ _).alloc (Nat.le_refl _) _, heap_alloc_new w _, World.size_alloc _ _⟩
  clear hRS hN hcnt
  go_enter Tryd.func29, Tryd.ntmps29
  go_wp2_with fail
  refine hro.mono ?_
  clear hro hz
  generalize w.alloc (.cells zerosId 36) = w0 at *
  rintro _ w1 ⟨v, rfl, hown, hb1⟩
  obtain ⟨A1, c1, rfl, hi1⟩ := own_ids hown (digs_32 b)
  have HR1 : Hid (RRt w0 N (topL (digs b)) (.slice A1 N c1) w1) := Lib.hid ⟨A1, N, c1, _, rfl, hi1, hpos, Nat.le_refl _, rfl, hb1⟩
  clear hown hi1 hb1 hpos hN6
  go_wp2_with fail
  go_loopw [3] (fun v wr => RRt w0 N (topL (digs b)) v wr) (fun v _ => slLn v)
  case atStart => exact HR1.out
  case round =>
    obtain ⟨A, n, c, l, rfl, hids, hn0, hnN, htop, hbr⟩ := hrel
    have HX := Lib.hid (And.intro hids (And.intro hbr htop))
    have hNb := HN.out.2
    clear hids hbr htop
    by_cases h1 : 1 < n
    · have h1' : (1 : Int) < (n : Int) := by omega
      go_wp2_with fail
      refine (rabove_any HX.out.1 hn0 (by omega)).mono ?_
      rintro _ w2 ⟨v, rfl, hown, hb2⟩
      obtain ⟨A2, c2, rfl, hi2⟩ := own_ids hown (aboveL_32 HX.out.1.each)
      have HR2 : Hid (RRt w0 N (topL (digs b)) (.slice A2 ((n + 1) / 2) c2) w2) := Lib.hid ⟨A2, _, c2, _, rfl, hi2.mono (fun b _ h => Nat.le_trans HX.out.2.1.size h), by omega, by omega, (topL_more (by rw [HX.out.1.len]; exact h1)).symm.trans HX.out.2.2, HX.out.2.1.trans (hb2.mono HX.out.2.1.size)⟩
      clear hown hi2 hb2
      go_wp2_with fail
      go_roundw
      case rel => exact HR2.out
      case measure => simp only [slLn]; omega
    · have h1' : ¬ (1 : Int) < (n : Int) := by omega
      have htop := HX.out.2.2
      rw [topL_one (by rw [HX.out.1.len]; exact h1)] at htop
      obtain ⟨t, ht⟩ : ∃ t, t = topL (digs b) := ⟨_, rfl⟩
      obtain ⟨TS, hTS⟩ : ∃ TS, TS = row8 t := ⟨_, rfl⟩
      have HT : Hid (TS = row8 t ∧ t.length = 32 ∧ t = l[0]?.getD [] ∧ crownD N t = rootL b) := Lib.hid ⟨hTS, by rw [ht, ← htop]; exact get32 HX.out.1.each (by rw [HX.out.1.len]; exact hn0), ht.trans htop.symm, by rw [ht, HRS.out.2.2.2]⟩
      obtain ⟨ba, off, rfl, _⟩ := HX.out.1.row hn0
      have hcr := rcrown_any N (by omega) t HT.out.2.1 wr
      rw [HT.out.2.2.2, ← HRS.out.1, ← HT.out.1] at hcr
      have hn0' : (0 : Int) < (n : Int) := by omega
      clear ht hTS htop
      go_wp2_with (first
        | refine wpList_load_id (by rfl) (.tmp 16) (by rfl) HX.out.1 0 hn0 TS (by rw [← HT.out.2.2.1]; exact HT.out.1) off (by simp) (by rfl) ?_
        | (go_at_call 47; refine hcr.mono ?_; clear hcr; rintro _ w2 ⟨rfl, hb2⟩
           have H2 : Hid (Below w0.heap.size w0 w2 ∧ w2.heap[w.heap.size]? = some (.cells zerosId 36 (0, 0))) := Lib.hid (by
             have hb := HX.out.2.1.trans (hb2.mono HX.out.2.1.size)
             exact ⟨hb, (hb.block _ (by have := H0.out.2.2; omega)).trans H0.out.2.1⟩)
           clear hb2)
        | refine wpList_store_row (by rfl) 36 (.tmp 2) (.tmp 18) (by rfl) w.heap.size RS (by rfl) (by rfl) 36 zerosId H2.out.2 (by rw [HRS.out.2.1]; exact id_info) (by rw [HRS.out.2.1]; rfl) HRS.out.2.2.1 ?_)
      have hfin : Below w.heap.size w (w2.setRow w.heap.size RS) := below_setRow (H0.out.1.trans (H2.out.1.mono (by have := H0.out.2.2; omega))) (Nat.le_refl _) _
      have HF := Lib.hid (And.intro hfin (setRow_at (new := RS) H2.out.2))
      clear hfin
      generalize w2.setRow w.heap.size RS = w3 at HF ⊢
      exact bodyPost_ret (results_cell_row rfl _ _ w.heap.size 36 RS (0, 0) _ rfl HF.out.2 Tryd.underlying36 rfl (by rw [HRS.out.2.1]; exact id_info)) rfl ⟨rfl, HF.out.1⟩
end Go.Proofs.YtnbjhdlnibmgdaaDoor

/-! Packs: what a pack is known by. -/
namespace Go.Proofs.YtnbjhdlnibmgdaaDoor
open Go.RowKit

theorem row8_rs (l : List UInt8) (h : l.length = 32) : (row8 l).size = 32 ∧ (row8 l).all (·.oneCell') = true := ⟨(row8_size l).trans h, row8_one l⟩
set_option maxHeartbeats 4000000 in
set_option maxRecDepth 100000 in
theorem pid_any {w : World} {S : Nat → Prop} {A : Option Addr} {n c : Nat} {b : List UInt8} (h : Byt w S A n c b) (hn : n ≤ 1000000) (ht : Tab w) :
    Calls Tryd.prog 11 #[.slice A n c] w fun e w' => e = .returned (.agg (row8 (rootL b))) ∧ Below w.heap.size w w' := by
  have hz := zero_id
  have hb1 : Below w.heap.size w (w.alloc (.cells zerosId 36)) := (Below.refl _ _).alloc (Nat.le_refl _) _
  have hro := root_any (h.below hb1) hn (ht.below hb1)
  have hg1 := heap_alloc_new w (.cells zerosId 36)
  obtain ⟨RS, hRS⟩ : ∃ RS, RS = row8 (rootL b) := ⟨_, rfl⟩
  have HRS : Hid (RS.size = 32 ∧ RS.all (·.oneCell') = true) := Lib.hid (by rw [hRS]; exact row8_rs _ (crownD_length _ _))
  rw [← hRS] at hro ⊢
  have H1 := Lib.hid (And.intro hb1 hg1)
  clear hRS h ht hb1 hg1
  go_enter Tryd.func11, Tryd.ntmps11
  go_wp2_with (first
    | (go_at_call 28; refine hro.mono ?_; clear hro; rintro _ w2 ⟨rfl, hb2⟩; have H2 := Lib.hid (And.intro (H1.out.1.trans (hb2.mono H1.out.1.size)) ((hb2.block _ (lt_of_cells H1.out.2)).trans H1.out.2)); clear hb2)
    | (refine wpList_store_row (by rfl) 36 (.tmp 2) (.tmp 4) (by rfl) w.heap.size RS (by rfl) (by rfl) 36 zerosId H2.out.2 (by rw [HRS.out.1]; exact id_info) (by rw [HRS.out.1]; rfl) HRS.out.2 ?_))
  exact bodyPost_ret (results_cell_row rfl _ _ w.heap.size 36 RS (0, 0) _ rfl (setRow_at H2.out.2) Tryd.underlying36 rfl (by rw [HRS.out.1]; exact id_info)) rfl ⟨rfl, below_setRow H2.out.1 (Nat.le_refl _) _⟩
set_option maxHeartbeats 4000000 in
set_option maxRecDepth 100000 in
theorem prid_any (b : List UInt8) (hb : b.length ≤ 1000000) (w : World) :
    Calls Tryd.prog 12 #[.string (st b)] w fun e w' => e = .returned (.agg (row8 (rootL b))) ∧ Below w.heap.size w w' := by
  have hz := zero_id
  have hb1 : Below w.heap.size w (w.alloc (.cells zerosId 36)) := (Below.refl _ _).alloc (Nat.le_refl _) _
  have hro := rroot_any b hb (w.alloc (.cells zerosId 36))
  have hg1 := heap_alloc_new w (.cells zerosId 36)
  obtain ⟨RS, hRS⟩ : ∃ RS, RS = row8 (rootL b) := ⟨_, rfl⟩
  have HRS : Hid (RS.size = 32 ∧ RS.all (·.oneCell') = true) := Lib.hid (by rw [hRS]; exact row8_rs _ (crownD_length _ _))
  rw [← hRS] at hro ⊢
  have H1 := Lib.hid (And.intro hb1 hg1)
  clear hRS hb1 hg1
  go_enter Tryd.func12, Tryd.ntmps12
  go_wp2_with (first
    | (go_at_call 29; refine hro.mono ?_; clear hro; rintro _ w2 ⟨rfl, hb2⟩; have H2 := Lib.hid (And.intro (H1.out.1.trans (hb2.mono H1.out.1.size)) ((hb2.block _ (lt_of_cells H1.out.2)).trans H1.out.2)); clear hb2)
    | (refine wpList_store_row (by rfl) 36 (.tmp 2) (.tmp 4) (by rfl) w.heap.size RS (by rfl) (by rfl) 36 zerosId H2.out.2 (by rw [HRS.out.1]; exact id_info) (by rw [HRS.out.1]; rfl) HRS.out.2 ?_))
  exact bodyPost_ret (results_cell_row rfl _ _ w.heap.size 36 RS (0, 0) _ rfl (setRow_at H2.out.2) Tryd.underlying36 rfl (by rw [HRS.out.1]; exact id_info)) rfl ⟨rfl, below_setRow H2.out.1 (Nat.le_refl _) _⟩
end Go.Proofs.YtnbjhdlnibmgdaaDoor
