/-
  The reference's Seal.
-/
import Derived.Test.YtlkkocgjpljibaaDoorSealRef
namespace Go.Proofs.YtlkkocgjpljibaaDoor
open Go.RowKit

set_option maxHeartbeats 8000000 in
set_option maxRecDepth 100000 in
theorem rsseal_any (p : List UInt8) (hp : p.length ≤ 65536) (k : List UInt8) (hk : k.length = 32) (kind : UInt8) (N : Nat) (hN : N < 18446744073709551616) (w : World) :
    Calls Tryd.prog 10 #[.agg (row8 k), .int .u8 (kind.toNat : Int), .int .u64 (N : Int), .string (st p)] w fun e w' => e = .returned (.tuple #[.string (st (sealL k kind N p)), .int .i64 0]) ∧ Below w.heap.size w w' := by
  have hsz := st_size p
  obtain ⟨KS, hKS⟩ : ∃ KS, KS = row8 k := ⟨_, rfl⟩
  obtain ⟨D, hD⟩ : ∃ D, D = le8 N 8 := ⟨_, rfl⟩
  obtain ⟨NS, hNS⟩ : ∃ NS, NS = row8 (nonL D) := ⟨_, rfl⟩
  obtain ⟨HS, hHS⟩ : ∃ HS, HS = row8 (drvL k hideB kind.toNat) := ⟨_, rfl⟩
  obtain ⟨VS, hVS⟩ : ∃ VS, VS = row8 (drvL k vouchB kind.toNat) := ⟨_, rfl⟩
  obtain ⟨O, hO⟩ : ∃ O, O = overL (drvL k hideB kind.toNat) (nonL D) p := ⟨_, rfl⟩
  obtain ⟨M1, hM1⟩ : ∃ M1, M1 = [kind] ++ D := ⟨_, rfl⟩
  obtain ⟨H, hH⟩ : ∃ H, H = M1 ++ O := ⟨_, rfl⟩
  obtain ⟨M, hM⟩ : ∃ M, M = macL (drvL k vouchB kind.toNat) H := ⟨_, rfl⟩
  obtain ⟨R, hR⟩ : ∃ R, R = H ++ M := ⟨_, rfl⟩
  obtain ⟨MS, hMS⟩ : ∃ MS, MS = row8 M := ⟨_, rfl⟩
  have hdl : D.length = 8 := by rw [hD]; exact le8_length _ _
  have hol : O.length = p.length := by rw [hO, overL_length]
  have hml : M.length = 32 := by rw [hM]; exact macL_length _ _
  have h1l : M1.length = 9 := by rw [hM1, List.length_append, hdl]; rfl
  have hhl : H.length = 9 + p.length := by rw [hH, List.length_append, h1l, hol]
  have hres : sealL k kind N p = R := by rw [hR, hM, hH, hM1, hO, hD, sealL, headL]
  rw [hres, ← hKS]
  have HAP_a : Hid (St2 [kind] D M1) := Lib.hid (by rw [hM1]; exact st2 (by rw [hdl]; simp))
  have HAP_b : Hid (St2 M1 O H) := Lib.hid (by rw [hH]; exact st2 (by omega))
  have HAP_c : Hid (St2 H M R) := Lib.hid (by rw [hR]; exact st2 (by omega))
  have HNU : Hid (∀ W, Calls Tryd.prog 19 #[.int .u64 (N : Int)] W fun e w' => e = .returned (.string (st D)) ∧ Below W.heap.size W w') := Lib.hid fun W => by
    rw [hD]
    exact rnumber_any N hN W
  have HKH : Hid (∀ W, Calls Tryd.prog 21 #[.agg KS, .string { data := #[104, 105, 100, 101] }, .int .u64 (kind.toNat : Int)] W fun e w' => e = .returned (.agg HS) ∧ Below W.heap.size W w') := Lib.hid fun W => by
    rw [hKS, hHS]
    exact rderive_any k hk hideB (by decide) kind.toNat (by have := kind.toNat_lt; omega) W
  have HKV : Hid (∀ W, Calls Tryd.prog 21 #[.agg KS, .string { data := #[118, 111, 117, 99, 104] }, .int .u64 (kind.toNat : Int)] W fun e w' => e = .returned (.agg VS) ∧ Below W.heap.size W w') := Lib.hid fun W => by
    rw [hKS, hVS]
    exact rderive_any k hk vouchB (by decide) kind.toNat (by have := kind.toNat_lt; omega) W
  have HNO : Hid (∀ W, Calls Tryd.prog 22 #[.string (st D)] W fun e w' => e = .returned (.agg NS) ∧ Below W.heap.size W w') := Lib.hid fun W => by
    rw [hNS]
    exact rsnonce_any D hdl W
  have HOV : Hid (∀ W, Calls Tryd.prog 20 #[.agg HS, .agg NS, .string (st p)] W fun e w' => e = .returned (.string (st O)) ∧ Below W.heap.size W w') := Lib.hid fun W => by
    rw [hHS, hNS, hO]
    exact srover_any _ _ p (drvL_length _ _ _) (nonL_length hdl) (by omega) W
  have HMO : Hid (∀ W, Calls Tryd.prog 23 #[.agg VS, .string (st H)] W fun e w' => e = .returned (.agg MS) ∧ Below W.heap.size W w') := Lib.hid fun W => by
    rw [hVS, hMS, hM]
    exact rofm_any _ (drvL_length _ _ _) H (by omega) W
  have HW : Hid (IntKind.u64.wrap (kind.toNat : Int) = (kind.toNat : Int)) := Lib.hid (by
    have := kind.toNat_lt
    rw [IntKind.wrap_u64]
    omega)
  have HSZ : Hid (KS.size = 32) := Lib.hid (by rw [hKS, row8_size, hk])
  have HMS : Hid (MS = row8 M ∧ MS.size = 32 ∧ MS.all (·.oneCell') = true ∧ M.length = 32) := Lib.hid ⟨hMS, by rw [hMS, row8_size, hml], by rw [hMS]; exact row8_one _, hml⟩
  have HK0 : Hid ((w.alloc (.cells KS 23)).heap[w.heap.size]? = some (.cells KS 23 (0, 0)) ∧ Below w.heap.size w (w.alloc (.cells KS 23))) := Lib.hid ⟨heap_alloc_new w _, (Below.refl _ _).alloc (Nat.le_refl _) _⟩
  clear hKS hD hNS hHS hVS hO hM1 hH hM hR hMS hdl hol hml h1l hhl hres hk hN
  go_enter Tryd.func10, Tryd.ntmps10
  go_wp2_with fail
  refine (HNU.out _).mono ?_
  rintro _ w2 ⟨rfl, hb2⟩
  have HX2 : Hid (w2.heap[w.heap.size]? = some (.cells KS 23 (0, 0)) ∧ Below w.heap.size w w2) := Lib.hid ⟨(hb2.block _ (lt_of_cells HK0.out.1)).trans HK0.out.1, HK0.out.2.trans (hb2.mono HK0.out.2.size)⟩
  clear hb2 HK0 HNU hsz
  go_upto_region 4 with fail
  have HBKS : Hid (w.heap.size < w2.drew.heap.size ∧ w2.drew.heap[w.heap.size]? = some (.cells KS 23 (0, 0))) := Lib.hid ⟨lt_of_cells HX2.out.1, HX2.out.1⟩
  refine wp_region_grow (fun W W' => Below W.heap.size W W') (Grow.nth [fun v _ => v = .int .u8 (kind.toNat : Int), fun v W => ∃ r, v = .slice (some ⟨r, 0, none⟩) 1 1 ∧ Byt W (fun _ => True) (some ⟨r, 0, none⟩) 1 1 [kind], fun v _ => v = .string (st [kind]), fun v _ => v = .string (st D), fun v _ => v = .string (st M1), fun v _ => v = .agg KS, fun v _ => v = .int .u8 (kind.toNat : Int), fun v _ => v = .int .u64 (kind.toNat : Int), fun v _ => v = .agg HS, fun v _ => v = .string (st D), fun v _ => v = .agg NS, fun v _ => v = .string (st p), fun v _ => v = .string (st O), fun v _ => v = .string (st H), fun v _ => v = .string (st H)]) 42 (by kernel_rfl) (by kernel_rfl) (by rfl) (fun W => Below.refl _ W) (fun _ _ _ h1 h2 => h1.trans (h2.mono h1.size)) (Grow.mono_nth ?gmono) ?gsteps ?gfin
  case gmono => exact ⟨fun _ _ _ h _ => h, fun _ _ _ ⟨r, h1, h2⟩ hg => ⟨r, h1, h2.below hg⟩, fun _ _ _ h _ => h, fun _ _ _ h _ => h, fun _ _ _ h _ => h, fun _ _ _ h _ => h, fun _ _ _ h _ => h, fun _ _ _ h _ => h, fun _ _ _ h _ => h, fun _ _ _ h _ => h, fun _ _ _ h _ => h, fun _ _ _ h _ => h, fun _ _ _ h _ => h, fun _ _ _ h _ => h, fun _ _ _ h _ => h, trivial⟩
  case gsteps =>
    show Grow.allBelow _ 15
    refine And.intro ?_ ?s14
    refine And.intro ?_ ?s13
    refine And.intro ?_ ?s12
    refine And.intro ?_ ?s11
    refine And.intro ?_ ?s10
    refine And.intro ?_ ?s9
    refine And.intro ?_ ?s8
    refine And.intro ?_ ?s7
    refine And.intro ?_ ?s6
    refine And.intro ?_ ?s5
    refine And.intro ?_ ?s4
    refine And.intro ?_ ?s3
    refine And.intro ?_ ?s2
    refine And.intro ?_ ?s1
    refine And.intro ?_ ?s0
    exact trivial
    case s0 =>
      refine Grow.step_in (by rfl) (by rfl) ?_
      intro E W ec eg ef hG hd hu R HR
      have e1 : E (.tmp 1) = .int .u8 (kind.toNat : Int) := hu 1 (by kernel_rfl)
      clear hd hu
      go_simp
      exact HR.out _ _ (Below.refl _ _) rfl
    case s1 =>
      refine Grow.step_in (by rfl) (by rfl) ?_
      intro E W ec eg ef hG hd hu R HR
      have e18 : E (.tmp 18) = .int .u8 (kind.toNat : Int) := hd 0 18 (by kernel_rfl)
      clear hd hu
      go_simp
      exact HR.out _ _ ((Below.refl _ _).alloc (Nat.le_refl _) _) ⟨W.heap.size, rfl, byt_new (w := W) [kind] 5 (0, 0) (by simp)⟩
    case s2 =>
      refine Grow.step_in (by rfl) (by rfl) ?_
      intro E W ec eg ef hG hd hu R HR
      have h19 := hd 1 19 (by kernel_rfl)
      clear hd hu
      obtain ⟨r, eq, hY⟩ := h19
      have hcv := byt_string hY
      rw [show (⟨[kind].toArray⟩ : ByteArray) = st [kind] from rfl] at hcv
      go_simp
      exact HR.out _ _ (Below.refl _ _) rfl
    case s3 =>
      refine Grow.step_in (by rfl) (by rfl) ?_
      intro E W ec eg ef hG hd hu R HR
      have e10 : E (.tmp 10) = .string (st D) := hu 10 (by kernel_rfl)
      clear hd hu
      go_simp
      exact HR.out _ _ (Below.refl _ _) rfl
    case s4 =>
      refine Grow.step_in (by rfl) (by rfl) ?_
      intro E W ec eg ef hG hd hu R HR
      have e20 : E (.tmp 20) = .string (st [kind]) := hd 2 20 (by kernel_rfl)
      have e21 : E (.tmp 21) = .string (st D) := hd 3 21 (by kernel_rfl)
      clear hd hu
      have ha := HAP_a.out.1
      have hs1 : (st [kind]).size = 1 := HAP_a.out.2.1
      have hs2 := HAP_a.out.2.2.1
      have hs3 : ¬ (9223372036854775807 : Int) < 1 + (D.length : Int) := HAP_a.out.2.2.2
      go_simp
      first | exact HR.out _ _ (Below.refl _ _) rfl | (rw [if_neg (by omega)]; exact HR.out _ _ (Below.refl _ _) rfl)
    case s5 =>
      refine Grow.step_in (by rfl) (by rfl) ?_
      intro E W ec eg ef hG hd hu R HR
      have e4 : E (.tmp 4) = .pointer (some ⟨w.heap.size, 0, none⟩) := hu 4 (by kernel_rfl)
      clear hd hu
      exact runs_load 23 (.tmp 4) rfl (w.heap.size) e4 KS (0, 0) ((hG.block _ HBKS.out.1).trans HBKS.out.2) Tryd.underlying23 (by rw [HSZ.out]; exact key_info) (HR.out _ _ (Below.refl _ _) rfl)
    case s6 =>
      refine Grow.step_in (by rfl) (by rfl) ?_
      intro E W ec eg ef hG hd hu R HR
      have e1 : E (.tmp 1) = .int .u8 (kind.toNat : Int) := hu 1 (by kernel_rfl)
      clear hd hu
      go_simp
      exact HR.out _ _ (Below.refl _ _) rfl
    case s7 =>
      refine Grow.step_in (by rfl) (by rfl) ?_
      intro E W ec eg ef hG hd hu R HR
      have e24 : E (.tmp 24) = .int .u8 (kind.toNat : Int) := hd 6 24 (by kernel_rfl)
      clear hd hu
      have hw := HW.out
      go_simp
      exact HR.out _ _ (Below.refl _ _) rfl
    case s8 =>
      refine Grow.step_in (by rfl) (by rfl) ?_
      intro E W ec eg ef hG hd hu R HR
      have e23 : E (.tmp 23) = .agg KS := hd 5 23 (by kernel_rfl)
      have e25 : E (.tmp 25) = .int .u64 (kind.toNat : Int) := hd 7 25 (by kernel_rfl)
      clear hd hu
      go_simp
      refine (HKH.out W).mono ?_
      rintro _ w' ⟨rfl, hb⟩
      exact ⟨_, rfl, HR.out _ _ hb (rfl)⟩
    case s9 =>
      refine Grow.step_in (by rfl) (by rfl) ?_
      intro E W ec eg ef hG hd hu R HR
      have e10 : E (.tmp 10) = .string (st D) := hu 10 (by kernel_rfl)
      clear hd hu
      go_simp
      exact HR.out _ _ (Below.refl _ _) rfl
    case s10 =>
      refine Grow.step_in (by rfl) (by rfl) ?_
      intro E W ec eg ef hG hd hu R HR
      have e27 : E (.tmp 27) = .string (st D) := hd 9 27 (by kernel_rfl)
      clear hd hu
      go_simp
      refine (HNO.out W).mono ?_
      rintro _ w' ⟨rfl, hb⟩
      exact ⟨_, rfl, HR.out _ _ hb (rfl)⟩
    case s11 =>
      refine Grow.step_in (by rfl) (by rfl) ?_
      intro E W ec eg ef hG hd hu R HR
      have e3 : E (.tmp 3) = .string (st p) := hu 3 (by kernel_rfl)
      clear hd hu
      go_simp
      exact HR.out _ _ (Below.refl _ _) rfl
    case s12 =>
      refine Grow.step_in (by rfl) (by rfl) ?_
      intro E W ec eg ef hG hd hu R HR
      have e26 : E (.tmp 26) = .agg HS := hd 8 26 (by kernel_rfl)
      have e28 : E (.tmp 28) = .agg NS := hd 10 28 (by kernel_rfl)
      have e29 : E (.tmp 29) = .string (st p) := hd 11 29 (by kernel_rfl)
      clear hd hu
      go_simp
      refine (HOV.out W).mono ?_
      rintro _ w' ⟨rfl, hb⟩
      exact ⟨_, rfl, HR.out _ _ hb (rfl)⟩
    case s13 =>
      refine Grow.step_in (by rfl) (by rfl) ?_
      intro E W ec eg ef hG hd hu R HR
      have e22 : E (.tmp 22) = .string (st M1) := hd 4 22 (by kernel_rfl)
      have e30 : E (.tmp 30) = .string (st O) := hd 12 30 (by kernel_rfl)
      clear hd hu
      have ha := HAP_b.out.1
      have hs1 := HAP_b.out.2.1
      have hs2 := HAP_b.out.2.2.1
      have hs3 := HAP_b.out.2.2.2
      go_simp
      first | exact HR.out _ _ (Below.refl _ _) rfl | (rw [if_neg (by omega)]; exact HR.out _ _ (Below.refl _ _) rfl)
    case s14 =>
      refine Grow.step_in (by rfl) (by rfl) ?_
      intro E W ec eg ef hG hd hu R HR
      have e31 : E (.tmp 31) = .string (st H) := hd 13 31 (by kernel_rfl)
      clear hd hu
      go_simp
      exact HR.out _ _ (Below.refl _ _) rfl
  case gfin =>
    intro w3 hG
    refine Grow.fin_dst (by rfl) ?_
    rintro _ rfl
    refine Grow.fin_dst (by rfl) ?_
    rintro _ ⟨_, rfl, _⟩
    refine Grow.fin_dst (by rfl) ?_
    rintro _ rfl
    refine Grow.fin_dst (by rfl) ?_
    rintro _ rfl
    refine Grow.fin_dst (by rfl) ?_
    rintro _ rfl
    refine Grow.fin_dst (by rfl) ?_
    rintro _ rfl
    refine Grow.fin_dst (by rfl) ?_
    rintro _ rfl
    refine Grow.fin_dst (by rfl) ?_
    rintro _ rfl
    refine Grow.fin_dst (by rfl) ?_
    rintro _ rfl
    refine Grow.fin_dst (by rfl) ?_
    rintro _ rfl
    refine Grow.fin_dst (by rfl) ?_
    rintro _ rfl
    refine Grow.fin_dst (by rfl) ?_
    rintro _ rfl
    refine Grow.fin_dst (by rfl) ?_
    rintro _ rfl
    refine Grow.fin_dst (by rfl) ?_
    rintro _ rfl
    refine Grow.fin_dst (by rfl) ?_
    rintro _ rfl
    simp only [Act.put, List.setIfInBounds_toArray, List.set_cons_zero, List.set_cons_succ]
    refine Grow.fin_end ?_
    have hb3 := Grow.below_of_drew hG
    have HX3 : Hid (w3.heap[w.heap.size]? = some (.cells KS 23 (0, 0)) ∧ Below w.heap.size w w3) := Lib.hid ⟨(hb3.block _ (lt_of_cells HX2.out.1)).trans HX2.out.1, HX2.out.2.trans (hb3.mono HX2.out.2.size)⟩
    clear hG hb3 HBKS HX2 HAP_a HAP_b HKH HNO HOV
    have hw := HW.out
    go_wp2_with (refine wpList_load_row (by rfl) 23 (.tmp 4) (by rfl) w.heap.size (by rfl) 23 KS (0, 0) _ HX3.out.1 Tryd.underlying23 (by rfl) (by rw [HSZ.out]; exact key_info) ?_)
    refine (HKV.out _).mono ?_
    rintro _ w4 ⟨rfl, hb4⟩
    have HX4 : Hid (Below w.heap.size w w4) := Lib.hid (HX3.out.2.trans (hb4.mono HX3.out.2.size))
    clear hb4 HX3 hw
    go_wp2_with fail
    refine (HMO.out _).mono ?_
    rintro _ w5 ⟨rfl, hb5⟩
    have HX5 : Hid (Below w.heap.size w w5) := Lib.hid (HX4.out.trans (hb5.mono HX4.out.size))
    clear hb5 HX4
    have hzi := zero_id
    have HG5 := Lib.hid (heap_alloc_new w5 (.cells zerosId 34))
    go_upto_region 6 with (refine wpList_store_row (by rfl) 34 (.tmp 12) (.tmp 37) (by rfl) w5.heap.size MS (by rfl) (by rfl) 34 _ HG5.out (by rw [HMS.out.2.1]; exact id_info) (by rw [HMS.out.2.1]; rfl) HMS.out.2.2.1 ?_)
    have HX6 : Hid (Below w.heap.size w ((w5.alloc (.cells zerosId 34)).setRow w5.heap.size MS)) := Lib.hid (below_setRow (HX5.out.alloc HX5.out.size _) HX5.out.size _)
    have hms := setRow_at (new := MS) HG5.out
    rw [HMS.out.1] at hms
    have hcv := byt_string (byt_whole hms (by rw [HMS.out.2.2.2]; omega))
    rw [HMS.out.2.2.2, ← HMS.out.1, show (⟨M.toArray⟩ : ByteArray) = st M from rfl] at hcv
    clear hms HG5 HX5 hzi
    generalize (w5.alloc (.cells zerosId 34)).setRow w5.heap.size MS = w6 at *
    generalize w5.heap.size = mb at *
    have ha := HAP_c.out.1
    have hs1 := HAP_c.out.2.1
    have hs2 := HAP_c.out.2.2.1
    have hs3 := HAP_c.out.2.2.2
    go_wp2_with fail
    first | go_ret2 | skip
    exact ⟨rfl, HX6.out⟩
end Go.Proofs.YtlkkocgjpljibaaDoor
