/-
  seal.Open.
-/
import Derived.Test.YtlkkocgjpljibaaDoorSealSeal
namespace Go.Proofs.YtlkkocgjpljibaaDoor
open Go.RowKit

theorem results_tmp4 {fn : Func} {t u v x : Tmp} (h : fn.results = #[.tmp t, .tmp u, .tmp v, .tmp x]) (tmps : Array Value) (P : Program) (w : World) :
    (results fn tmps).run P w = .ok (.tuple #[tmps.getD t undef, tmps.getD u undef, tmps.getD v undef, tmps.getD x undef]) w := by
  simp [results, h]
/-- What Open answers, and what it leaves. -/
def Opened (w : World) (k b : List UInt8) (e : Ending) (w' : World) : Prop :=
  ∃ A c, e = .returned (.tuple #[.slice A (openP k b).length c, .int .u8 ((openK k b).toNat : Int), .int .u64 (openN k b : Int), .int .i64 (openE k b : Int)]) ∧ Byt w' (w.heap.size ≤ ·) A (openP k b).length c (openP k b) ∧ Below w.heap.size w w'
theorem opened_not {w w' : World} {k b : List UInt8} {E : Nat} (hE : openE k b = E) (h0 : E ≠ 0) (hb : Below w.heap.size w w') : Opened w k b (.returned (.tuple #[.slice none 0 0, .int .u8 0, .int .u64 0, .int .i64 (E : Int)])) w' := by
  subst hE
  refine ⟨none, 0, ?_, ?_, hb⟩
  · rw [openP_not h0, openK, if_neg h0, openN, if_neg h0]
    rfl
  · rw [openP_not h0]
    exact Byt.nil _ _ _ _ (Nat.zero_le _)
set_option maxHeartbeats 4000000 in
set_option maxRecDepth 100000 in
theorem sopen_short {w : World} {A : Option Addr} {n c : Nat} {b : List UInt8} (hl : b.length = n) (k : List UInt8) (hn : n < 41) :
    Calls Tryd.prog 11 #[.agg (row8 k), .slice A n c] w fun e w' => Opened w k b e w' := by
  have hE : openE k b = 10 := by rw [openE, if_pos (by omega)]
  obtain ⟨KS, hKS⟩ : ∃ KS, KS = row8 k := ⟨_, rfl⟩
  rw [← hKS]
  have HB : Hid (Below w.heap.size w (w.alloc (.cells KS 23))) := Lib.hid ((Below.refl _ _).alloc (Nat.le_refl _) _)
  have HE := Lib.hid hE
  clear hE hKS hl
  go_enter Tryd.func11, Tryd.ntmps11
  go_wp2_with fail
  refine bodyPost_ret (results_tmp4 rfl _ _ _) rfl ?_
  exact opened_not HE.out (by decide) HB.out
set_option maxHeartbeats 4000000 in
set_option maxRecDepth 100000 in
theorem sopen_long {w : World} {A : Option Addr} {n c : Nat} {b : List UInt8} (hl : b.length = n) (k : List UInt8) (hn : 65577 < n) (hm : n ≤ maxLen) :
    Calls Tryd.prog 11 #[.agg (row8 k), .slice A n c] w fun e w' => Opened w k b e w' := by
  have hE : openE k b = 13 := by rw [openE, if_neg (by omega), if_pos (by omega)]
  unfold maxLen at hm
  obtain ⟨KS, hKS⟩ : ∃ KS, KS = row8 k := ⟨_, rfl⟩
  rw [← hKS]
  have HB : Hid (Below w.heap.size w (w.alloc (.cells KS 23))) := Lib.hid ((Below.refl _ _).alloc (Nat.le_refl _) _)
  have HE := Lib.hid hE
  clear hE hKS hl
  go_enter Tryd.func11, Tryd.ntmps11
  go_wp2_with fail
  refine bodyPost_ret (results_tmp4 rfl _ _ _) rfl ?_
  exact opened_not HE.out (by decide) HB.out

set_option maxHeartbeats 8000000 in
set_option maxRecDepth 100000 in
theorem sopen_fit {w : World} {S : Nat → Prop} {A : Option Addr} {n c : Nat} {b : List UInt8} (h : Byt w S A n c b) (ht : Tab w) (hq : QTab w) (k : List UInt8) (hk : k.length = 32) (hn : 41 ≤ n) (hn2 : n ≤ 65577) :
    Calls Tryd.prog 11 #[.agg (row8 k), .slice A n c] w fun e w' => Opened w k b e w' := by
  have hzp := zero_parts
  have hkeys := skeys_any k (kindL b)
  have hcut := fun W (hb : Below w.heap.size w W) => scut_any (h.below hb) hn
  obtain ⟨m, rfl⟩ : ∃ m, n = m + 32 := ⟨n - 32, by omega⟩
  rw [Nat.add_sub_cancel, show m + 32 - 41 = m - 9 by omega] at hcut
  have hl := h.len
  obtain ⟨B, off, rfl, _, hlt, hc⟩ := h.row (by omega)
  have hdl : (b.drop m).length = 32 := by rw [List.length_drop, hl]; omega
  have htl : (b.take m).length = m := by rw [List.length_take, hl]; omega
  have hbody : (b.take m).drop 9 = bodyL b := by rw [bodyL, List.drop_take, hl, show m + 32 - 41 = m - 9 by omega]
  obtain ⟨DS, hDS⟩ : ∃ DS, DS = row8 (b.drop m) := ⟨_, rfl⟩
  obtain ⟨NS, hNS⟩ : ∃ NS, NS = row8 (nonL (eightL b)) := ⟨_, rfl⟩
  obtain ⟨PV, hPV⟩ : ∃ PV, PV = partsV (kindL b) (num8 (eightL b)) (.slice (cutA (some ⟨B, off, none⟩) m 9) (m - 9) (m - 9)) (.slice (some ⟨B, off, none⟩) m m) (row8 (b.drop m)) := ⟨_, rfl⟩
  rw [← hPV] at hcut
  obtain ⟨KS, hKS⟩ : ∃ KS, KS = row8 k := ⟨_, rfl⟩
  rw [← hKS] at hkeys ⊢
  obtain ⟨HS, hHS⟩ : ∃ HS, HS = row8 (drvL k hideB (kindL b).toNat) := ⟨_, rfl⟩
  obtain ⟨VS, hVS⟩ : ∃ VS, VS = row8 (drvL k vouchB (kindL b).toNat) := ⟨_, rfl⟩
  obtain ⟨MS, hMS⟩ : ∃ MS, MS = row8 (macL (drvL k vouchB (kindL b).toNat) (b.take m)) := ⟨_, rfl⟩
  obtain ⟨z, hz⟩ : ∃ z, z = decide (macL (drvL k vouchB (kindL b).toNat) (b.take m) = b.drop m) := ⟨_, rfl⟩
  have HKH : Hid (∀ W P, Tab W → KeyBox P k (kindL b) W → Calls Tryd.prog 27 #[.string { data := #[104, 105, 100, 101] }, .pointer (some ⟨P, 0, none⟩), .pointer (some ⟨P + 1, 0, none⟩)] W fun e w' => e = .returned (.agg HS) ∧ Below W.heap.size W w') := Lib.hid fun W P hT hB => by
    rw [hHS]
    exact skey_any hT hB hk hideB (by decide)
  have HKV : Hid (∀ W P, Tab W → KeyBox P k (kindL b) W → Calls Tryd.prog 27 #[.string { data := #[118, 111, 117, 99, 104] }, .pointer (some ⟨P, 0, none⟩), .pointer (some ⟨P + 1, 0, none⟩)] W fun e w' => e = .returned (.agg VS) ∧ Below W.heap.size W w') := Lib.hid fun W P hT hB => by
    rw [hVS]
    exact skey_any hT hB hk vouchB (by decide)
  have HOV : Hid (∀ W {S : Nat → Prop} {A : Option Addr} {n c : Nat}, Byt W S A n c (bodyL b) → QTab W → n ≤ 100000 → Calls Tryd.prog 17 #[.agg HS, .agg NS, .slice A n c] W fun e w' => ∃ A' c', e = .returned (.slice A' n c') ∧ Byt w' (W.heap.size ≤ ·) A' n c' (openL k b) ∧ Below W.heap.size W w') := Lib.hid fun W S A n c h1 h2 h3 => by
    rw [hHS, hNS]
    exact sover_any h1 _ _ (drvL_length _ _ _) (nonL_length (eightL_length (by omega))) h2 (by omega)
  have HMO : Hid (∀ W {S : Nat → Prop} {r : Nat}, Rws W S (some ⟨r, 0, none⟩) 1 1 [b.take m] → Tab W → Calls Tryd.prog 18 #[.agg VS, .slice (some ⟨r, 0, none⟩) 1 1] W fun e w' => e = .returned (.agg MS) ∧ Below W.heap.size W w') := Lib.hid fun W S r h1 h2 => by
    rw [hVS, hMS]
    have := mof_any h1 h2 (by omega) (by rw [List.flatten_cons, List.flatten_nil, List.append_nil, htl]; omega) (drvL k vouchB (kindL b).toNat) (drvL_length _ _ _)
    simpa using this
  have HNO : Hid (∀ W, Calls Tryd.prog 16 #[.int .u64 (num8 (eightL b) : Int)] W fun e w' => e = .returned (.agg NS) ∧ Below W.heap.size W w') := Lib.hid fun W => by
    have := snonce_any (num8 (eightL b)) W
    rw [le8_num8 (eightL_length (by omega))] at this
    rw [hNS]
    exact this
  have HSM : Hid (∀ W, Calls Tryd.prog 25 #[.agg MS, .agg DS] W fun e w' => e = .returned (.bool z) ∧ Below W.heap.size W w') := Lib.hid fun W => by
    rw [hMS, hDS, hz]
    exact same_any _ _ (macL_length _ _) hdl W
  have HZ : Hid (z = true ↔ Vouched k b) := Lib.hid (by
    rw [hz, decide_eq_true_iff, Vouched, hl, Nat.add_sub_cancel]
    exact eq_comm)
  have HSZ : Hid (KS.size = 32 ∧ DS.size = 32) := Lib.hid ⟨by rw [hKS, row8_size, hk], by rw [hDS, row8_size, hdl]⟩
  have HPV : Hid (PV.size = 36 ∧ PV.all (·.oneCell') = true) := Lib.hid (by
    rw [hPV]
    exact ⟨partsV_size _ _ _ _ _ hdl, partsV_one _ _ _ _ _ _ _ _ _⟩)
  have HP0 : Hid (PV[0]? = some (.int .u8 ((kindL b).toNat : Int)) ∧ PV[1]? = some (.int .u64 (num8 (eightL b) : Int)) ∧ PV[2]? = some (.slice (cutA (some ⟨B, off, none⟩) m 9) (m - 9) (m - 9)) ∧ PV[3]? = some (.slice (some ⟨B, off, none⟩) m m) ∧ ∀ (j : Nat) v, DS[j]? = some v → PV[4 + j]? = some v) := Lib.hid (by
    rw [hPV, hDS]
    refine ⟨by rw [partsV, Array.getElem?_append_left (by simp)]; rfl, by rw [partsV, Array.getElem?_append_left (by simp)]; rfl, by rw [partsV, Array.getElem?_append_left (by simp)]; rfl, by rw [partsV, Array.getElem?_append_left (by simp)]; rfl, fun j v hj => ?_⟩
    rw [partsV, Array.getElem?_append_right (by simp)]
    simpa using hj)
  have HCUT := Lib.hid hcut
  have HKEYS := Lib.hid hkeys
  have HH := Lib.hid (And.intro h (And.intro ht (And.intro hq (And.intro hl hbody))))
  have HK0 : Hid ((w.alloc (.cells KS 23)).heap[w.heap.size]? = some (.cells KS 23 (0, 0)) ∧ Below w.heap.size w (w.alloc (.cells KS 23))) := Lib.hid ⟨heap_alloc_new w _, (Below.refl _ _).alloc (Nat.le_refl _) _⟩
  clear hcut hkeys hDS hNS hPV hKS hHS hVS hMS hz h ht hq hl hc hdl htl hbody hk
  go_enter Tryd.func11, Tryd.ntmps11
  have hsub : wrap64 ((m : Int) + 32 - 41) = (m : Int) - 9 := by unfold wrap64; omega
  go_wp2_with fail
  refine (HCUT.out _ HK0.out.2).mono ?_
  rintro _ w2 ⟨rfl, hb2⟩
  have HX2 : Hid (w2.heap[w.heap.size]? = some (.cells KS 23 (0, 0)) ∧ Below w.heap.size w w2) := Lib.hid ⟨(hb2.block _ (lt_of_cells HK0.out.1)).trans HK0.out.1, HK0.out.2.trans (hb2.mono HK0.out.2.size)⟩
  clear hb2 HK0 HCUT
  have HG2 := Lib.hid (heap_alloc_new w2 (.cells zerosP 56))
  go_upto_region 6 with (refine wpList_store_row (by rfl) 56 (.tmp 8) (.tmp 20) (by rfl) w2.heap.size PV (by rfl) (by rfl) 56 _ HG2.out (by rw [HPV.out.1]; exact parts_info) (by rw [HPV.out.1]; rfl) HPV.out.2 ?_)
  have hsk : Below w2.heap.size w2 ((w2.alloc (.cells zerosP 56)).setRow w2.heap.size PV) := below_setRow ((Below.refl _ _).alloc (Nat.le_refl _) _) (Nat.le_refl _) _
  have hpv := setRow_at (new := PV) HG2.out
  have hk3 := (hsk.block _ (lt_of_cells HX2.out.1)).trans HX2.out.1
  have hb3 := HX2.out.2.trans (hsk.mono HX2.out.2.size)
  clear hsk HG2 HX2 hzp
  generalize (w2.alloc (.cells zerosP 56)).setRow w2.heap.size PV = w3 at *
  generalize w2.heap.size = q at *
  have HX3 : Hid (w3.heap[w.heap.size]? = some (.cells KS 23 (0, 0)) ∧ w3.heap[q]? = some (.cells PV 56 (0, 0)) ∧ Below w.heap.size w w3) := Lib.hid ⟨hk3, hpv, hb3⟩
  have hc0 : w3.cell? ⟨q, 0, none⟩ = some (.int .u8 ((kindL b).toNat : Int)) := by rw [cell_of_cells hpv]; exact HP0.out.1
  clear hk3 hpv hb3
  go_wp2_with (refine wpList_load_row (by rfl) 23 (.tmp 2) (by rfl) w.heap.size (by rfl) 23 KS (0, 0) _ HX3.out.1 Tryd.underlying23 (by rfl) (by rw [HSZ.out.1]; exact key_info) ?_)
  refine (HKEYS.out _).mono ?_
  rintro _ w4 ⟨rfl, hbox, hb4⟩
  have HX4 : Hid (w4.heap[q]? = some (.cells PV 56 (0, 0)) ∧ KeyBox w3.heap.size k (kindL b) w4 ∧ Below w.heap.size w w4) := Lib.hid ⟨(hb4.block _ (lt_of_cells HX3.out.2.1)).trans HX3.out.2.1, hbox, HX3.out.2.2.trans (hb4.mono HX3.out.2.2.size)⟩
  clear hbox hb4 hc0 HX3 HKEYS
  generalize w3.heap.size = P at *
  unfold keyFn
  go_upto_region 7 with fail
  have HB4 : Hid (∀ W, Below w4.drew.heap.size w4.drew W → Below w4.heap.size w4 W) := Lib.hid fun W hW => Grow.below_of_drew hW
  have HF : Hid (∀ W, Below w4.drew.heap.size w4.drew W → W.cell? ⟨q, 0, none⟩ = some (.int .u8 ((kindL b).toNat : Int)) ∧ W.cell? ⟨q, 1, none⟩ = some (.int .u64 (num8 (eightL b) : Int)) ∧ W.cell? ⟨q, 2, none⟩ = some (.slice (cutA (some ⟨B, off, none⟩) m 9) (m - 9) (m - 9)) ∧ W.cell? ⟨q, 3, none⟩ = some (.slice (some ⟨B, off, none⟩) m m) ∧ ∀ j v, DS[j]? = some v → W.cell? ((⟨q, 4, none⟩ : Addr).add j) = some v) := Lib.hid fun W hW => by
    have hh := ((HB4.out W hW).block _ (lt_of_cells HX4.out.1)).trans HX4.out.1
    refine ⟨?_, ?_, ?_, ?_, fun j v hj => ?_⟩
    · rw [cell_of_cells hh]; exact HP0.out.1
    · rw [cell_of_cells hh]; exact HP0.out.2.1
    · rw [cell_of_cells hh]; exact HP0.out.2.2.1
    · rw [cell_of_cells hh]; exact HP0.out.2.2.2.1
    · rw [add_plain, cell_of_cells hh]; exact HP0.out.2.2.2.2 j v hj
  have HKB : Hid (∀ W, Below w4.drew.heap.size w4.drew W → KeyBox P k (kindL b) W) := Lib.hid fun W hW => HX4.out.2.1.below (HB4.out W hW)
  have HT : Hid (∀ W, Below w4.drew.heap.size w4.drew W → Tab W) := Lib.hid fun W hW => (HH.out.2.1.below HX4.out.2.2).below (HB4.out W hW)
  have HYA : Hid (∀ W, Below w4.drew.heap.size w4.drew W → Byt W S (some ⟨B, off, none⟩) m m (b.take m)) := Lib.hid fun W hW => ((HH.out.1.below HX4.out.2.2).below (HB4.out W hW)).take (k := m) (by omega)
  refine wp_region_grow (fun W W' => Below W.heap.size W W') (Grow.nth [fun v _ => v = .func (.func 27) #[] #[.pointer (some ⟨P, 0, none⟩), .pointer (some ⟨P + 1, 0, none⟩)], fun v _ => v = .agg VS, fun v _ => v = .pointer (some ⟨q, 3, none⟩), fun v _ => v = .slice (some ⟨B, off, none⟩) m m, fun v V => ∃ r, v = .slice (some ⟨r, 0, none⟩) 1 1 ∧ Rws V (fun _ => True) (some ⟨r, 0, none⟩) 1 1 [b.take m], fun v _ => v = .agg MS, fun v _ => v = .pointer (some ⟨q, 4, none⟩), fun v _ => v = .agg DS, fun v _ => v = .bool z, fun v _ => v = .bool !z]) 47 (by kernel_rfl) (by kernel_rfl) (by rfl) (fun W => Below.refl _ W) (fun _ _ _ h1 h2 => h1.trans (h2.mono h1.size)) (Grow.mono_nth ?gmono) ?gsteps ?gfin
  case gmono => exact ⟨fun _ _ _ h _ => h, fun _ _ _ h _ => h, fun _ _ _ h _ => h, fun _ _ _ h _ => h, fun _ _ _ ⟨r, h1, h2⟩ hg => ⟨r, h1, h2.below hg⟩, fun _ _ _ h _ => h, fun _ _ _ h _ => h, fun _ _ _ h _ => h, fun _ _ _ h _ => h, fun _ _ _ h _ => h, trivial⟩
  case gsteps =>
    show Grow.allBelow _ 10
    refine And.intro ?_ ?s9
    refine And.intro ?_ ?s8
    refine And.intro ?_ ?s7
    refine And.intro ?_ ?s6
    refine And.intro ?_ ?s5
    refine And.intro ?_ ?s4
    refine And.intro ?_ ?s3
    refine And.intro ?_ ?s2
    refine And.intro ?_ ?s1
    refine And.intro ?_ ?s0
    exact trivial
    case s0 =>
      refine Grow.step_in (by rfl) (by rfl) ?_
      intro E W ec eg ef hG hd hu R HR
      have e9 : E (.tmp 9) = .func (.func 27) #[] #[.pointer (some ⟨P, 0, none⟩), .pointer (some ⟨P + 1, 0, none⟩)] := hu 9 (by kernel_rfl)
      clear hd hu
      go_simp
      exact HR.out _ _ (Below.refl _ _) rfl
    case s1 =>
      refine Grow.step_in (by rfl) (by rfl) ?_
      intro E W ec eg ef hG hd hu R HR
      have e25 : E (.tmp 25) = .func (.func 27) #[] #[.pointer (some ⟨P, 0, none⟩), .pointer (some ⟨P + 1, 0, none⟩)] := hd 0 25 (by kernel_rfl)
      clear hd hu
      go_simp
      refine (HKV.out W P (HT.out W hG) (HKB.out W hG)).mono ?_
      rintro _ w' ⟨rfl, hb⟩
      exact ⟨_, rfl, HR.out _ _ hb (rfl)⟩
    case s2 =>
      refine Grow.step_in (by rfl) (by rfl) ?_
      intro E W ec eg ef hG hd hu R HR
      have e8 : E (.tmp 8) = .pointer (some ⟨q, 0, none⟩) := hu 8 (by kernel_rfl)
      clear hd hu
      go_simp
      exact HR.out _ _ (Below.refl _ _) rfl
    case s3 =>
      refine Grow.step_in (by rfl) (by rfl) ?_
      intro E W ec eg ef hG hd hu R HR
      have e27 : E (.tmp 27) = .pointer (some ⟨q, 3, none⟩) := hd 2 27 (by kernel_rfl)
      clear hd hu
      have hcell := (HF.out W hG).2.2.2.1
      go_simp
      exact HR.out _ _ (Below.refl _ _) rfl
    case s4 =>
      refine Grow.step_in (by rfl) (by rfl) ?_
      intro E W ec eg ef hG hd hu R HR
      have e28 : E (.tmp 28) = .slice (some ⟨B, off, none⟩) m m := hd 3 28 (by kernel_rfl)
      clear hd hu
      go_simp
      exact HR.out _ _ ((Below.refl _ _).alloc (Nat.le_refl _) _) ⟨W.heap.size, rfl, rws_one (HYA.out W hG)⟩
    case s5 =>
      refine Grow.step_in (by rfl) (by rfl) ?_
      intro E W ec eg ef hG hd hu R HR
      have e26 : E (.tmp 26) = .agg VS := hd 1 26 (by kernel_rfl)
      have h29 := hd 4 29 (by kernel_rfl)
      clear hd hu
      obtain ⟨r, eq, hR⟩ := h29
      go_simp
      refine (HMO.out W hR (HT.out W hG)).mono ?_
      rintro _ w' ⟨rfl, hb⟩
      exact ⟨_, rfl, HR.out _ _ hb (rfl)⟩
    case s6 =>
      refine Grow.step_in (by rfl) (by rfl) ?_
      intro E W ec eg ef hG hd hu R HR
      have e8 : E (.tmp 8) = .pointer (some ⟨q, 0, none⟩) := hu 8 (by kernel_rfl)
      clear hd hu
      go_simp
      exact HR.out _ _ (Below.refl _ _) rfl
    case s7 =>
      refine Grow.step_in (by rfl) (by rfl) ?_
      intro E W ec eg ef hG hd hu R HR
      have e31 : E (.tmp 31) = .pointer (some ⟨q, 4, none⟩) := hd 6 31 (by kernel_rfl)
      clear hd hu
      exact runs_load_at 34 (.tmp 31) rfl ⟨q, 4, none⟩ e31 DS (HF.out W hG).2.2.2.2 Tryd.underlying34 (by rw [HSZ.out.2]; exact id_info) (HR.out _ _ (Below.refl _ _) rfl)
    case s8 =>
      refine Grow.step_in (by rfl) (by rfl) ?_
      intro E W ec eg ef hG hd hu R HR
      have e30 : E (.tmp 30) = .agg MS := hd 5 30 (by kernel_rfl)
      have e32 : E (.tmp 32) = .agg DS := hd 7 32 (by kernel_rfl)
      clear hd hu
      go_simp
      refine (HSM.out W).mono ?_
      rintro _ w' ⟨rfl, hb⟩
      exact ⟨_, rfl, HR.out _ _ hb (rfl)⟩
    case s9 =>
      refine Grow.step_in (by rfl) (by rfl) ?_
      intro E W ec eg ef hG hd hu R HR
      have e33 : E (.tmp 33) = .bool z := hd 8 33 (by kernel_rfl)
      clear hd hu
      go_simp
      exact HR.out _ _ (Below.refl _ _) rfl
  case gfin =>
    intro w5 hG
    refine Grow.fin_dst (by rfl) ?_
    rintro _ rfl
    refine Grow.fin_dst (by rfl) ?_
    rintro _ rfl
    refine Grow.fin_dst (by rfl) ?_
    rintro _ rfl
    refine Grow.fin_dst (by rfl) ?_
    rintro _ rfl
    refine Grow.fin_dst (by rfl) ?_
    rintro _ ⟨_, rfl, _⟩
    refine Grow.fin_dst (by rfl) ?_
    rintro _ rfl
    refine Grow.fin_dst (by rfl) ?_
    rintro _ rfl
    refine Grow.fin_dst (by rfl) ?_
    rintro _ rfl
    refine Grow.fin_dst (by rfl) ?_
    rintro _ rfl
    refine Grow.fin_dst (by rfl) ?_
    rintro _ rfl
    simp only [Act.put, List.setIfInBounds_toArray, List.set_cons_zero, List.set_cons_succ]
    refine Grow.fin_end ?_
    have hb5 := HB4.out w5 hG
    have HX5 : Hid (w5.heap[q]? = some (.cells PV 56 (0, 0)) ∧ KeyBox P k (kindL b) w5 ∧ Below w.heap.size w w5) := Lib.hid ⟨(hb5.block _ (lt_of_cells HX4.out.1)).trans HX4.out.1, HX4.out.2.1.below hb5, HX4.out.2.2.trans (hb5.mono HX4.out.2.2.size)⟩
    clear hb5 hG HYA HT HKB HF HB4 HX4 HMO HSM HKV
    by_cases hv : z = true
    · subst hv
      go_upto_region 9 with fail
      have HX4 := HX5
      clear HX5
      have HB4 : Hid (∀ W, Below w5.drew.heap.size w5.drew W → Below w5.heap.size w5 W) := Lib.hid fun W hW => Grow.below_of_drew hW
      have HF : Hid (∀ W, Below w5.drew.heap.size w5.drew W → W.cell? ⟨q, 0, none⟩ = some (.int .u8 ((kindL b).toNat : Int)) ∧ W.cell? ⟨q, 1, none⟩ = some (.int .u64 (num8 (eightL b) : Int)) ∧ W.cell? ⟨q, 2, none⟩ = some (.slice (cutA (some ⟨B, off, none⟩) m 9) (m - 9) (m - 9)) ∧ W.cell? ⟨q, 3, none⟩ = some (.slice (some ⟨B, off, none⟩) m m) ∧ ∀ j v, DS[j]? = some v → W.cell? ((⟨q, 4, none⟩ : Addr).add j) = some v) := Lib.hid fun W hW => by
        have hh := ((HB4.out W hW).block _ (lt_of_cells HX4.out.1)).trans HX4.out.1
        refine ⟨?_, ?_, ?_, ?_, fun j v hj => ?_⟩
        · rw [cell_of_cells hh]; exact HP0.out.1
        · rw [cell_of_cells hh]; exact HP0.out.2.1
        · rw [cell_of_cells hh]; exact HP0.out.2.2.1
        · rw [cell_of_cells hh]; exact HP0.out.2.2.2.1
        · rw [add_plain, cell_of_cells hh]; exact HP0.out.2.2.2.2 j v hj
      have HKB : Hid (∀ W, Below w5.drew.heap.size w5.drew W → KeyBox P k (kindL b) W) := Lib.hid fun W hW => HX4.out.2.1.below (HB4.out W hW)
      have HT : Hid (∀ W, Below w5.drew.heap.size w5.drew W → Tab W) := Lib.hid fun W hW => (HH.out.2.1.below HX4.out.2.2).below (HB4.out W hW)
      have HYB : Hid (∀ W, Below w5.drew.heap.size w5.drew W → Byt W S (cutA (some ⟨B, off, none⟩) m 9) (m - 9) (m - 9) (bodyL b)) := Lib.hid fun W hW => by
        have hy := (((HH.out.1.below HX4.out.2.2).below (HB4.out W hW)).take (k := m) (by omega)).cut (k := 9) (by omega)
        rwa [HH.out.2.2.2.2] at hy
      have HQT : Hid (∀ W, Below w5.drew.heap.size w5.drew W → QTab W) := Lib.hid fun W hW => (HH.out.2.2.1.below HX4.out.2.2).below (HB4.out W hW)
      have HWS : Hid (∀ W, Below w5.drew.heap.size w5.drew W → w.heap.size ≤ W.heap.size) := Lib.hid fun W hW => Nat.le_trans HX4.out.2.2.size (HB4.out W hW).size
      refine wp_region_grow (fun W W' => Below W.heap.size W W') (Grow.nth [fun v _ => v = .func (.func 27) #[] #[.pointer (some ⟨P, 0, none⟩), .pointer (some ⟨P + 1, 0, none⟩)], fun v _ => v = .agg HS, fun v _ => v = .pointer (some ⟨q, 1, none⟩), fun v _ => v = .int .u64 (num8 (eightL b) : Int), fun v _ => v = .agg NS, fun v _ => v = .pointer (some ⟨q, 2, none⟩), fun v _ => v = .slice (cutA (some ⟨B, off, none⟩) m 9) (m - 9) (m - 9), fun v V => ∃ A' c', v = .slice A' (m - 9) c' ∧ Byt V (w.heap.size ≤ ·) A' (m - 9) c' (openL k b), fun v _ => v = .pointer (some ⟨q, 0, none⟩), fun v _ => v = .int .u8 ((kindL b).toNat : Int), fun v _ => v = .pointer (some ⟨q, 1, none⟩), fun v _ => v = .int .u64 (num8 (eightL b) : Int), fun v V => ∃ A' c', v = .slice A' (m - 9) c' ∧ Byt V (w.heap.size ≤ ·) A' (m - 9) c' (openL k b), fun v _ => v = .int .u8 ((kindL b).toNat : Int), fun v _ => v = .int .u64 (num8 (eightL b) : Int), fun v _ => v = .int .i64 0]) 47 (by kernel_rfl) (by kernel_rfl) (by rfl) (fun W => Below.refl _ W) (fun _ _ _ h1 h2 => h1.trans (h2.mono h1.size)) (Grow.mono_nth ?gmono) ?gsteps ?gfin
      case gmono => exact ⟨fun _ _ _ h _ => h, fun _ _ _ h _ => h, fun _ _ _ h _ => h, fun _ _ _ h _ => h, fun _ _ _ h _ => h, fun _ _ _ h _ => h, fun _ _ _ h _ => h, fun _ _ _ ⟨a, d, h1, h2⟩ hg => ⟨a, d, h1, h2.below hg⟩, fun _ _ _ h _ => h, fun _ _ _ h _ => h, fun _ _ _ h _ => h, fun _ _ _ h _ => h, fun _ _ _ ⟨a, d, h1, h2⟩ hg => ⟨a, d, h1, h2.below hg⟩, fun _ _ _ h _ => h, fun _ _ _ h _ => h, fun _ _ _ h _ => h, trivial⟩
      case gsteps =>
        show Grow.allBelow _ 16
        refine And.intro ?_ ?s15
        refine And.intro ?_ ?s14
        refine And.intro ?_ ?s13
        refine And.intro ?_ ?s12
        refine And.intro ?_ ?s11
        refine And.intro ?_ ?s10
        refine And.intro ?_ ?s9
        refine And.intro ?_ ?s8
        refine And.intro ?_ ?s7
        refine And.intro ?_ ?s6
        refine And.intro ?_ ?s5
        refine And.intro ?_ ?s4
        refine And.intro ?_ ?s3
        refine And.intro ?_ ?s2
        refine And.intro ?_ ?s1
        refine And.intro ?_ ?s0
        exact trivial
        case s0 =>
          refine Grow.step_in (by rfl) (by rfl) ?_
          intro E W ec eg ef hG hd hu R HR
          have e9 : E (.tmp 9) = .func (.func 27) #[] #[.pointer (some ⟨P, 0, none⟩), .pointer (some ⟨P + 1, 0, none⟩)] := hu 9 (by kernel_rfl)
          clear hd hu
          go_simp
          exact HR.out _ _ (Below.refl _ _) rfl
        case s1 =>
          refine Grow.step_in (by rfl) (by rfl) ?_
          intro E W ec eg ef hG hd hu R HR
          have e35 : E (.tmp 35) = .func (.func 27) #[] #[.pointer (some ⟨P, 0, none⟩), .pointer (some ⟨P + 1, 0, none⟩)] := hd 0 35 (by kernel_rfl)
          clear hd hu
          go_simp
          refine (HKH.out W P (HT.out W hG) (HKB.out W hG)).mono ?_
          rintro _ w' ⟨rfl, hb⟩
          exact ⟨_, rfl, HR.out _ _ hb (rfl)⟩
        case s2 =>
          refine Grow.step_in (by rfl) (by rfl) ?_
          intro E W ec eg ef hG hd hu R HR
          have e8 : E (.tmp 8) = .pointer (some ⟨q, 0, none⟩) := hu 8 (by kernel_rfl)
          clear hd hu
          go_simp
          exact HR.out _ _ (Below.refl _ _) rfl
        case s3 =>
          refine Grow.step_in (by rfl) (by rfl) ?_
          intro E W ec eg ef hG hd hu R HR
          have e37 : E (.tmp 37) = .pointer (some ⟨q, 1, none⟩) := hd 2 37 (by kernel_rfl)
          clear hd hu
          have hcell := (HF.out W hG).2.1
          go_simp
          exact HR.out _ _ (Below.refl _ _) rfl
        case s4 =>
          refine Grow.step_in (by rfl) (by rfl) ?_
          intro E W ec eg ef hG hd hu R HR
          have e38 : E (.tmp 38) = .int .u64 (num8 (eightL b) : Int) := hd 3 38 (by kernel_rfl)
          clear hd hu
          go_simp
          refine (HNO.out W).mono ?_
          rintro _ w' ⟨rfl, hb⟩
          exact ⟨_, rfl, HR.out _ _ hb (rfl)⟩
        case s5 =>
          refine Grow.step_in (by rfl) (by rfl) ?_
          intro E W ec eg ef hG hd hu R HR
          have e8 : E (.tmp 8) = .pointer (some ⟨q, 0, none⟩) := hu 8 (by kernel_rfl)
          clear hd hu
          go_simp
          exact HR.out _ _ (Below.refl _ _) rfl
        case s6 =>
          refine Grow.step_in (by rfl) (by rfl) ?_
          intro E W ec eg ef hG hd hu R HR
          have e40 : E (.tmp 40) = .pointer (some ⟨q, 2, none⟩) := hd 5 40 (by kernel_rfl)
          clear hd hu
          have hcell := (HF.out W hG).2.2.1
          go_simp
          exact HR.out _ _ (Below.refl _ _) rfl
        case s7 =>
          refine Grow.step_in (by rfl) (by rfl) ?_
          intro E W ec eg ef hG hd hu R HR
          have e36 : E (.tmp 36) = .agg HS := hd 1 36 (by kernel_rfl)
          have e39 : E (.tmp 39) = .agg NS := hd 4 39 (by kernel_rfl)
          have e41 : E (.tmp 41) = .slice (cutA (some ⟨B, off, none⟩) m 9) (m - 9) (m - 9) := hd 6 41 (by kernel_rfl)
          clear hd hu
          go_simp
          refine (HOV.out W (HYB.out W hG) (HQT.out W hG) (by omega)).mono ?_
          rintro _ w' ⟨A', c', rfl, hY, hb⟩
          exact ⟨_, rfl, HR.out _ _ hb ⟨A', c', rfl, hY.mono fun b' _ hb' => Nat.le_trans (HWS.out W hG) hb'⟩⟩
        case s8 =>
          refine Grow.step_in (by rfl) (by rfl) ?_
          intro E W ec eg ef hG hd hu R HR
          have e8 : E (.tmp 8) = .pointer (some ⟨q, 0, none⟩) := hu 8 (by kernel_rfl)
          clear hd hu
          go_simp
          exact HR.out _ _ (Below.refl _ _) rfl
        case s9 =>
          refine Grow.step_in (by rfl) (by rfl) ?_
          intro E W ec eg ef hG hd hu R HR
          have e43 : E (.tmp 43) = .pointer (some ⟨q, 0, none⟩) := hd 8 43 (by kernel_rfl)
          clear hd hu
          have hcell := (HF.out W hG).1
          go_simp
          exact HR.out _ _ (Below.refl _ _) rfl
        case s10 =>
          refine Grow.step_in (by rfl) (by rfl) ?_
          intro E W ec eg ef hG hd hu R HR
          have e8 : E (.tmp 8) = .pointer (some ⟨q, 0, none⟩) := hu 8 (by kernel_rfl)
          clear hd hu
          go_simp
          exact HR.out _ _ (Below.refl _ _) rfl
        case s11 =>
          refine Grow.step_in (by rfl) (by rfl) ?_
          intro E W ec eg ef hG hd hu R HR
          have e45 : E (.tmp 45) = .pointer (some ⟨q, 1, none⟩) := hd 10 45 (by kernel_rfl)
          clear hd hu
          have hcell := (HF.out W hG).2.1
          go_simp
          exact HR.out _ _ (Below.refl _ _) rfl
        case s12 =>
          refine Grow.step_in (by rfl) (by rfl) ?_
          intro E W ec eg ef hG hd hu R HR
          have h42 := hd 7 42 (by kernel_rfl)
          clear hd hu
          obtain ⟨A', c', e42, hY⟩ := h42
          go_simp
          exact HR.out _ _ (Below.refl _ _) ⟨A', c', rfl, hY⟩
        case s13 =>
          refine Grow.step_in (by rfl) (by rfl) ?_
          intro E W ec eg ef hG hd hu R HR
          have e44 : E (.tmp 44) = .int .u8 ((kindL b).toNat : Int) := hd 9 44 (by kernel_rfl)
          clear hd hu
          go_simp
          exact HR.out _ _ (Below.refl _ _) rfl
        case s14 =>
          refine Grow.step_in (by rfl) (by rfl) ?_
          intro E W ec eg ef hG hd hu R HR
          have e46 : E (.tmp 46) = .int .u64 (num8 (eightL b) : Int) := hd 11 46 (by kernel_rfl)
          clear hd hu
          go_simp
          exact HR.out _ _ (Below.refl _ _) rfl
        case s15 =>
          refine Grow.step_in (by rfl) (by rfl) ?_
          intro E W ec eg ef hG hd hu R HR
          clear hd hu
          go_simp
          exact HR.out _ _ (Below.refl _ _) rfl
      case gfin =>
        intro V hG
        refine Grow.fin_dst (by rfl) ?_
        rintro _ rfl
        refine Grow.fin_dst (by rfl) ?_
        rintro _ rfl
        refine Grow.fin_dst (by rfl) ?_
        rintro _ rfl
        refine Grow.fin_dst (by rfl) ?_
        rintro _ rfl
        refine Grow.fin_dst (by rfl) ?_
        rintro _ rfl
        refine Grow.fin_dst (by rfl) ?_
        rintro _ rfl
        refine Grow.fin_dst (by rfl) ?_
        rintro _ rfl
        refine Grow.fin_dst (by rfl) ?_
        rintro _ ⟨A', c', rfl, hYY⟩
        refine Grow.fin_dst (by rfl) ?_
        rintro _ rfl
        refine Grow.fin_dst (by rfl) ?_
        rintro _ rfl
        refine Grow.fin_dst (by rfl) ?_
        rintro _ rfl
        refine Grow.fin_dst (by rfl) ?_
        rintro _ rfl
        refine Grow.fin_dst (by rfl) ?_
        rintro _ ⟨A1, c1, rfl, hY1⟩
        refine Grow.fin_dst (by rfl) ?_
        rintro _ rfl
        refine Grow.fin_dst (by rfl) ?_
        rintro _ rfl
        refine Grow.fin_dst (by rfl) ?_
        rintro _ rfl
        simp only [Act.put, List.setIfInBounds_toArray, List.set_cons_zero, List.set_cons_succ]
        refine Grow.fin_end ?_
        have HBV := Lib.hid (HX4.out.2.2.trans ((HB4.out V hG).mono HX4.out.2.2.size))
        have HY1 := Lib.hid hY1
        have HE : Hid (openE k b = 0) := Lib.hid (openE_zero.2 ⟨by rw [HH.out.2.2.2.1]; omega, by rw [HH.out.2.2.2.1]; omega, HZ.out.1 rfl⟩)
        clear hG hYY hY1
        go_wp2_with fail
        refine bodyPost_ret (results_tmp4 rfl _ _ _) rfl ⟨A1, c1, ?_, ?_, HBV.out⟩
        · rw [openK, if_pos HE.out, openN, if_pos HE.out, openP_length HE.out, HH.out.2.2.2.1, HE.out, show m + 32 - 41 = m - 9 by omega]
          rfl
        · rw [openP_length HE.out, HH.out.2.2.2.1, show m + 32 - 41 = m - 9 by omega, openP, if_pos HE.out]
          exact HY1.out
    · obtain rfl : z = false := by simpa using hv
      have HE : Hid (openE k b = 20) := Lib.hid (by
        rw [openE, if_neg (by rw [HH.out.2.2.2.1]; omega), if_neg (by rw [HH.out.2.2.2.1]; omega), if_neg]
        intro hvv
        have := HZ.out.2 hvv
        cases this)
      go_wp2_with fail
      refine bodyPost_ret (results_tmp4 rfl _ _ _) rfl ?_
      exact opened_not HE.out (by decide) HX5.out.2.2

theorem sopen_any {w : World} {S : Nat → Prop} {A : Option Addr} {n c : Nat} {b : List UInt8} (h : Byt w S A n c b) (ht : Tab w) (hq : QTab w) (k : List UInt8) (hk : k.length = 32) :
    Calls Tryd.prog 11 #[.agg (row8 k), .slice A n c] w fun e w' => Opened w k b e w' := by
  by_cases h1 : n < 41
  · exact sopen_short h.len k h1
  · by_cases h2 : 65577 < n
    · exact sopen_long h.len k h2 (Nat.le_trans h.cap h.max)
    · exact sopen_fit h ht hq k hk (by omega) (by omega)
end Go.Proofs.YtlkkocgjpljibaaDoor
