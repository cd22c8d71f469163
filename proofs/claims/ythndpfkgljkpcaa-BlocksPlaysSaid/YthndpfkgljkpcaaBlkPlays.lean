/-
  The statement BlocksPlays: its walk.
-/
import Derived.Test.YthndpfkgljkpcaaBlkActs
import Derived.Deep.CutBlock
namespace Go.Proofs.Ythndpfkgljkpcaa
open Go.RowKit

/-- What stands in the loop. -/
structure RPs (w0 : World) (m g pw : Nat) (A : Option Addr) (ns cs : Nat) (l : List BAct) (d : DM) (wr : World) : Prop where
  pl : Pl w0 m wr g pw d d
  few : d.l.length ≤ 50
  acts : BActs wr A ns cs l
def RPl (w0 : World) (m g pw : Nat) (A : Option Addr) (ns cs : Nat) (l : List BAct) (i : Value) (wr : World) : Prop := ∃ (i' : Nat) (d : DM), i' ≤ ns ∧ i' ≤ 30 ∧ i = .int .i64 (i' : Int) ∧ RPs w0 m g pw A ns cs l d wr
theorem writeM_len (d : DM) (i : Int) (b : List UInt8) : (writeM d i b).1.l.length = d.l.length := by
  unfold writeM
  split
  · rfl
  · split
    · rfl
    · split
      · rfl
      · split <;> simp

set_option maxHeartbeats 8000000 in
set_option maxRecDepth 100000 in
theorem plays_run {w : World} {A : Option Addr} {ns cs : Nat} {l : List BAct} (hacts : BActs w A ns cs l) (n : Nat) (h1 : 1 ≤ n) (h2 : n ≤ 50) :
    Calls Try.prog 3 #[.int .i64 (n : Int), .slice A ns cs] w fun e w' => e = .returned (.bool true) ∧ Below w.heap.size w w' := by
  have haw := bawake_true w
  have HN := Lib.hid (And.intro h1 (And.intro h2 hacts))
  have hn1 : ¬ (50 : Int) < (n : Int) := by omega
  have hmk := newM_at n h1 (by omega)
  have hm2 : (newM (n : Int)).2 = 0 := by rw [newM, if_neg (by omega)]
  have HMK := Lib.hid (And.intro hmk hm2)
  clear h1 h2 hacts hmk hm2
  go_enter Try.func3, Try.ntmps3
  go_upto_region 6 with (go_at_call 7; refine haw.mono ?_; clear haw; rintro _ w1 ⟨rfl, hb1⟩)
  have hnew := Dsk.new hb1 n HN.out.1 (by have := HN.out.2.1; omega)
  clear hb1
  go_upto_region 7 with (go_at_call 8; refine hnew.mono ?_; clear hnew; rintro _ w2 ⟨g, rfl, hd⟩)
  obtain ⟨m, hm⟩ : ∃ m, m = w2.heap.size := ⟨_, rfl⟩
  rw [← hm] at hd
  have HD2 := Lib.hid (And.intro hd hm)
  clear hm hd
  have hrn := rbnew_any (n : Int) w2
  rw [HMK.out.2] at hrn
  have hzd := zero_dm
  go_upto_region 8 with (first
    | (go_at_call 9; refine hrn.mono ?_; clear hrn; rintro _ w3 ⟨A', n', c', rfl, hst, hb3⟩; obtain ⟨VV, hVV⟩ : ∃ VV, VV = dmV (newM (n : Int)).1 A' n' c' := ⟨_, rfl⟩; rw [← hVV]; have H3 := Lib.hid (And.intro hst (And.intro hb3 hVV)); clear hst hb3 hVV)
    | (refine wpList_store_row (by rfl) 30 (.tmp 8) (.tmp 38) (by rfl) w3.heap.size VV (by rfl) (by rfl) 30 _ (heap_alloc_new w3 _) (by rw [H3.out.2.2]; exact dm_info) (by rw [H3.out.2.2]; rfl) (by rw [H3.out.2.2]; exact dm_one _ _ _ _ _ _) ?_))
  have hS : RPs w m g w3.heap.size A ns cs l (newM (n : Int)).1 ((w3.alloc (.cells #[.slice none 0 0, .int .i64 0, .int .i64 0, .bool false] 30)).setRow w3.heap.size VV) := by
    have hb := H3.out.2.1
    have hsz := hb.size
    have hal : Below w3.heap.size w3 (w3.alloc (.cells #[.slice none 0 0, .int .i64 0, .int .i64 0, .bool false] 30)) := (Below.refl _ _).alloc (Nat.le_refl _) _
    have hpl : Pl w m (w3.alloc (.cells #[.slice none 0 0, .int .i64 0, .int .i64 0, .bool false] 30)) g w3.heap.size (newM (n : Int)).1 ⟨[], 0, 0, false⟩ :=
      ⟨(HD2.out.1.below hb).below hal, ⟨none, 0, 0, heap_alloc_new w3 _, Strs.nil _ _ _ _ (Nat.zero_le _)⟩, by have := HD2.out.2; omega⟩
    have hp := hpl.store (dR' := (newM (n : Int)).1) ((H3.out.1.mono (T := fun x => m ≤ x ∧ x ≠ w3.heap.size) fun b hb1 hb2 => ⟨by have := HD2.out.2; omega, by omega⟩).below hal)
    rw [← H3.out.2.2] at hp
    exact ⟨hp, by rw [HMK.out.1]; simpa using HN.out.2.1, HN.out.2.2.below (hp.dsk.bel)⟩
  have HS := Lib.hid hS
  clear hS H3 HD2 HMK hzd
  generalize (w3.alloc (.cells #[.slice none 0 0, .int .i64 0, .int .i64 0, .bool false] 30)).setRow w3.heap.size VV = w4 at *
  generalize w3.heap.size = pw at *
  generalize (newM (n : Int)).1 = d0 at *
  go_wp2_with fail
  go_loopw [10] (fun i wr => RPl w m g pw A ns cs l i wr) (fun i _ => ns - (intOf i).toNat)
  case atStart => exact ⟨0, d0, Nat.zero_le _, by omega, rfl, HS.out⟩
  case round =>
    obtain ⟨i, d, hi, hi30, rfl, hS⟩ := hrel
    have HR := Lib.hid (And.intro hi (And.intro hi30 hS))
    clear hi hi30 hS
    by_cases hgo : i < ns ∧ i < 30
    · have hlt1 : (i : Int) < (ns : Int) := by omega
      have hlt2 : (i : Int) < 30 := by omega
      obtain ⟨b, off, rfl, _, hcl⟩ := HR.out.2.2.acts.row (by omega)
      obtain ⟨a, ha⟩ : ∃ a, l[i]? = some a := ⟨_, List.getElem?_eq_getElem (by have := HR.out.2.2.acts.len; omega)⟩
      have hbd := HR.out.2.2.acts.bnd a (List.mem_of_getElem? ha)
      obtain ⟨AV, hAV⟩ : ∃ AV, AV = actV a := ⟨_, rfl⟩
      have hcells : ∀ (j : Nat) (v : Value), AV[j]? = some v → wr.cell? ((⟨b, off + i * 6, none⟩ : Addr).add j) = some v := fun j v hv => by
        rw [add_plain]
        exact hcl i a ha j v (by rw [← hAV]; exact hv)
      have HAV := Lib.hid (And.intro hAV (And.intro hbd hcells))
      have hza := zero_act
      have hadd := IntWalk.i64_in ((i : Int) + 1) (by omega)
      have HGO := Lib.hid hgo
      clear hcl ha hbd hAV hcells hgo
      go_upto_region 14 with (first
        | (refine wpList_load_at (by rfl) 34 (.tmp 66) (by rfl) ⟨b, off + i * 6, none⟩ (by rfl) AV _ HAV.out.2.2 Try.underlying34 (by rfl) (by rw [HAV.out.1]; exact act_info) ?_)
        | (refine wpList_store_row (by rfl) 34 (.tmp 11) (.tmp 67) (by rfl) wr.heap.size AV (by rfl) (by rfl) 34 _ (heap_alloc_new wr _) (by rw [HAV.out.1]; exact act_info) (by rw [HAV.out.1]; rfl) (by rw [HAV.out.1]; exact act_one a) ?_))
      have hal : Below wr.heap.size wr ((wr.alloc (.cells #[.int .i64 0, .int .i64 0, .int .u8 0, .int .u8 0, .int .i64 0, .int .i64 0] 34)).setRow wr.heap.size AV) := below_setRow ((Below.refl _ _).alloc (Nat.le_refl _) _) (Nat.le_refl _) _
      have hpa : ((wr.alloc (.cells #[.int .i64 0, .int .i64 0, .int .u8 0, .int .u8 0, .int .i64 0, .int .i64 0] 34)).setRow wr.heap.size AV).heap[wr.heap.size]? = some (.cells AV 34 (0, 0)) := setRow_at (heap_alloc_new wr _)
      have H5 := Lib.hid (And.intro (HR.out.2.2.pl.below hal) (And.intro hpa (And.intro (HR.out.2.2.acts.below hal) (And.intro HR.out.2.2.pl.dsk.top HR.out.2.2.few))))
      clear hal hpa hza
      generalize (wr.alloc (.cells #[.int .i64 0, .int .i64 0, .int .u8 0, .int .u8 0, .int .i64 0, .int .i64 0] 34)).setRow wr.heap.size AV = w5 at *
      generalize wr.heap.size = pa at *
      have hc0 : w5.cell? ⟨pa, 0, none⟩ = some (.int .i64 a.kd) := by rw [cell_of_cells H5.out.2.1, HAV.out.1]; rfl
      obtain ⟨K, hK⟩ : ∃ K, K = bits .and .i64 a.kd 7 := ⟨_, rfl⟩
      have hK2 := hK.symm
      clear hK
      go_upto_block 2 with fail
      go_cut [12, 13, 14, 15, 16, 17, 18, 19, 20] from 71 to 147 (fun _ _ _ _ _ _ _ _ _ wx => ∃ d', RPs w m g pw (some ⟨b, off, none⟩) ns cs l d' wx)
      case first =>
        clear hc0 hK2
        by_cases hk0 : K = 0
        · subst hk0
          by_cases h30 : a.ln < 30
          · have hc3 : w5.cell? ⟨pa, 3, none⟩ = some (.int .u8 (a.ln : Int)) := by rw [cell_of_cells H5.out.2.1, HAV.out.1]; rfl
            have hc2 : w5.cell? ⟨pa, 2, none⟩ = some (.int .u8 (a.sd : Int)) := by rw [cell_of_cells H5.out.2.1, HAV.out.1]; rfl
            have h30' : (a.ln : Int) < 30 := by omega
            have hln := IntWalk.i64_in ((a.ln : Nat) : Int) (by have := HAV.out.2.1.2.1; omega)
            have HFL := Lib.hid (fun W : World => show Calls Try.prog 10 #[.int .u8 (a.sd : Int), .int .i64 (a.ln : Int)] W _ from filled_any a.sd a.ln (by exact HAV.out.2.1.1) (by have := HAV.out.2.1.2.1; omega) W)
            clear h30
            go_upto_region 25 with (go_at_call 10; refine (HFL.out _).mono ?_; rintro _ w6 ⟨rfl, hg6, hb6⟩)
            have hpl6 := H5.out.1.below hb6
            have hpa6 := (hb6.block _ (lt_of_cells H5.out.2.1)).trans H5.out.2.1
            have hc1 : w6.cell? ⟨pa, 1, none⟩ = some (.int .i64 a.i) := by rw [cell_of_cells hpa6, HAV.out.1]; rfl
            have hmq := H5.out.1.dsk.top
            obtain ⟨dW, eW, hWM⟩ : ∃ dW eW, writeM d a.i (filledL a.sd a.ln) = (dW, eW) := ⟨_, _, rfl⟩
            have hwr := hpl6.dsk.write (byt_filled' hg6 (filledL_length a.sd a.ln) (by have := HAV.out.2.1.2.1; omega) hmq) a.i
            rw [hWM] at hwr
            simp only at hwr
            have H6 := Lib.hid (And.intro hpl6 (And.intro hpa6 (And.intro hg6 (And.intro hmq (And.intro hWM (H5.out.2.2.1.below hb6))))))
            clear hpl6 hpa6 hg6 hmq hWM hb6 hc2 hc3
            generalize w5.heap.size = q6 at *
            go_upto_region 26 with (go_at_call 11; refine hwr.mono ?_; clear hwr; rintro _ w7 ⟨rfl, hd7, ht7⟩)
            have hpl7 := H6.out.1.code hd7 ht7
            have hpa7 := (ht7.block pa (lt_of_cells H6.out.2.1) (by have := H5.out.2.2.2.1; omega)).trans H6.out.2.1
            have hy7 := byt_filled' (m := m) ((ht7.block _ (lt_of_cells H6.out.2.2.1) (by have := H6.out.2.2.2.1; omega)).trans H6.out.2.2.1) (filledL_length a.sd a.ln) (by have := HAV.out.2.1.2.1; omega) H6.out.2.2.2.1
            obtain ⟨A7, n7, c7, hbx, hst⟩ := hpl7.box
            obtain ⟨VV, hVV⟩ : ∃ VV, VV = dmV d A7 n7 c7 := ⟨_, rfl⟩
            have hrw := rbwrite_any hst (by have := hst.len; have := H5.out.2.2.2.2; omega) H5.out.1.dsk.dk.ok a.i (filledL a.sd a.ln)
            rw [H6.out.2.2.2.2.1, ← hVV] at hrw
            simp only at hrw
            rw [← hVV] at hbx
            have hcv := byt_string hy7
            have hc1 : w7.cell? ⟨pa, 1, none⟩ = some (.int .i64 a.i) := by rw [cell_of_cells hpa7, HAV.out.1]; rfl
            have HVV := Lib.hid (And.intro hbx hVV)
            have H7 := Lib.hid (And.intro hpl7 hpa7)
            have hzd := zero_dm
            clear hpl7 hpa7 hbx hVV hst hy7 hd7 ht7
            generalize hF : (⟨(filledL a.sd a.ln).toArray⟩ : ByteArray) = FS at hcv
            rw [show st (filledL a.sd a.ln) = FS from hF] at hrw
            clear hF
            go_upto_region 27 with (first
              | (refine wpList_load_row (by rfl) 30 (.tmp 8) (by rfl) pw (by rfl) 30 VV (0, 0) _ HVV.out.1 Try.underlying30 (by rfl) (by rw [HVV.out.2]; exact dm_info) ?_)
              | (go_at_call 12; refine hrw.mono ?_; clear hrw; rintro _ w8 ⟨A8, c8, rfl, hst8, hb8⟩; obtain ⟨VW, hVW⟩ : ∃ VW, VW = dmV dW A8 n7 c8 := ⟨_, rfl⟩; rw [← hVW]; have H8 := Lib.hid (And.intro hst8 (And.intro hb8 hVW)); clear hst8 hb8 hVW hcv)
              | (refine wpList_store_row (by rfl) 30 (.tmp 15) (.tmp 102) (by rfl) w8.heap.size VW (by rfl) (by rfl) 30 _ (heap_alloc_new w8 _) (by rw [H8.out.2.2]; exact dm_info) (by rw [H8.out.2.2]; rfl) (by rw [H8.out.2.2]; exact dm_one _ _ _ _ _ _) ?_))
            have hal : Below w8.heap.size w8 ((w8.alloc (.cells #[.slice none 0 0, .int .i64 0, .int .i64 0, .bool false] 30)).setRow w8.heap.size VW) := below_setRow ((Below.refl _ _).alloc (Nat.le_refl _) _) (Nat.le_refl _) _
            have hv9 : ((w8.alloc (.cells #[.slice none 0 0, .int .i64 0, .int .i64 0, .bool false] 30)).setRow w8.heap.size VW).heap[w8.heap.size]? = some (.cells VW 30 (0, 0)) := setRow_at (heap_alloc_new w8 _)
            have hs9 := (H8.out.1.mono (T := fun x => m ≤ x ∧ x ≠ pw) fun b hb1 hb2 => by have h1 := lt_of_cells HVV.out.1; have h2 := H7.out.1.dsk.top; rcases hb2 with h | h <;> omega).below hal
            have hp9 := H7.out.1.below (H8.out.2.1.trans (hal.mono H8.out.2.1.size))
            have HBX := Lib.hid (((H8.out.2.1.trans (hal.mono H8.out.2.1.size)).block _ (lt_of_cells HVV.out.1)).trans HVV.out.1)
            have HV9 := Lib.hid (And.intro hv9 H8.out.2.2)
            have H9 := Lib.hid (And.intro hp9 hs9)
            clear hal hv9 hs9 hp9 hzd
            generalize (w8.alloc (.cells #[.slice none 0 0, .int .i64 0, .int .i64 0, .bool false] 30)).setRow w8.heap.size VW = w9 at *
            generalize w8.heap.size = pv at *
            go_upto_region 28 with (first
              | (refine wpList_load_row (by rfl) 30 (.tmp 15) (by rfl) pv (by rfl) 30 VW (0, 0) _ HV9.out.1 Try.underlying30 (by rfl) (by rw [HV9.out.2]; exact dm_info) ?_)
              | (refine wpList_store_row (by rfl) 30 (.tmp 8) (.tmp 104) (by rfl) pw VW (by rfl) (by rfl) 30 VV HBX.out (by rw [HV9.out.2]; exact dm_info) (by rw [HV9.out.2, HVV.out.2]; rfl) (by rw [HV9.out.2]; exact dm_one _ _ _ _ _ _) ?_))
            have hp10 := H9.out.1.store (dR' := dW) H9.out.2
            rw [← HV9.out.2] at hp10
            have HE := Lib.hid (show RPs w m g pw (some ⟨b, off, none⟩) ns cs l dW (w9.setRow pw VW) from ⟨hp10, by have h1 := writeM_len d a.i (filledL a.sd a.ln); rw [H6.out.2.2.2.2.1] at h1; simp only at h1; have := H5.out.2.2.2.2; omega, HN.out.2.2.below hp10.dsk.bel⟩)
            clear hp10
            go_wp2_with fail
            go_meet
            exact ⟨dW, HE.out⟩
          · have hc3 : w5.cell? ⟨pa, 3, none⟩ = some (.int .u8 (a.ln : Int)) := by rw [cell_of_cells H5.out.2.1, HAV.out.1]; rfl
            have hc2 : w5.cell? ⟨pa, 2, none⟩ = some (.int .u8 (a.sd : Int)) := by rw [cell_of_cells H5.out.2.1, HAV.out.1]; rfl
            have h30' : ¬ (a.ln : Int) < 30 := by omega
            have hln := IntWalk.i64_in ((a.ln : Nat) : Int) (by have := HAV.out.2.1.2.1; omega)
            have HFL := Lib.hid (fun W : World => show Calls Try.prog 10 #[.int .u8 (a.sd : Int), .int .i64 128] W _ from filled_any a.sd 128 (by exact HAV.out.2.1.1) (by have := HAV.out.2.1.2.1; omega) W)
            clear h30
            go_upto_region 25 with (go_at_call 10; refine (HFL.out _).mono ?_; rintro _ w6 ⟨rfl, hg6, hb6⟩)
            have hpl6 := H5.out.1.below hb6
            have hpa6 := (hb6.block _ (lt_of_cells H5.out.2.1)).trans H5.out.2.1
            have hc1 : w6.cell? ⟨pa, 1, none⟩ = some (.int .i64 a.i) := by rw [cell_of_cells hpa6, HAV.out.1]; rfl
            have hmq := H5.out.1.dsk.top
            obtain ⟨dW, eW, hWM⟩ : ∃ dW eW, writeM d a.i (filledL a.sd 128) = (dW, eW) := ⟨_, _, rfl⟩
            have hwr := hpl6.dsk.write (byt_filled' hg6 (filledL_length a.sd 128) (by have := HAV.out.2.1.2.1; omega) hmq) a.i
            rw [hWM] at hwr
            simp only at hwr
            have H6 := Lib.hid (And.intro hpl6 (And.intro hpa6 (And.intro hg6 (And.intro hmq (And.intro hWM (H5.out.2.2.1.below hb6))))))
            clear hpl6 hpa6 hg6 hmq hWM hb6 hc2 hc3
            generalize w5.heap.size = q6 at *
            go_upto_region 26 with (go_at_call 11; refine hwr.mono ?_; clear hwr; rintro _ w7 ⟨rfl, hd7, ht7⟩)
            have hpl7 := H6.out.1.code hd7 ht7
            have hpa7 := (ht7.block pa (lt_of_cells H6.out.2.1) (by have := H5.out.2.2.2.1; omega)).trans H6.out.2.1
            have hy7 := byt_filled' (m := m) ((ht7.block _ (lt_of_cells H6.out.2.2.1) (by have := H6.out.2.2.2.1; omega)).trans H6.out.2.2.1) (filledL_length a.sd 128) (by have := HAV.out.2.1.2.1; omega) H6.out.2.2.2.1
            obtain ⟨A7, n7, c7, hbx, hst⟩ := hpl7.box
            obtain ⟨VV, hVV⟩ : ∃ VV, VV = dmV d A7 n7 c7 := ⟨_, rfl⟩
            have hrw := rbwrite_any hst (by have := hst.len; have := H5.out.2.2.2.2; omega) H5.out.1.dsk.dk.ok a.i (filledL a.sd 128)
            rw [H6.out.2.2.2.2.1, ← hVV] at hrw
            simp only at hrw
            rw [← hVV] at hbx
            have hcv := byt_string hy7
            have hc1 : w7.cell? ⟨pa, 1, none⟩ = some (.int .i64 a.i) := by rw [cell_of_cells hpa7, HAV.out.1]; rfl
            have HVV := Lib.hid (And.intro hbx hVV)
            have H7 := Lib.hid (And.intro hpl7 hpa7)
            have hzd := zero_dm
            clear hpl7 hpa7 hbx hVV hst hy7 hd7 ht7
            generalize hF : (⟨(filledL a.sd 128).toArray⟩ : ByteArray) = FS at hcv
            rw [show st (filledL a.sd 128) = FS from hF] at hrw
            clear hF
            go_upto_region 27 with (first
              | (refine wpList_load_row (by rfl) 30 (.tmp 8) (by rfl) pw (by rfl) 30 VV (0, 0) _ HVV.out.1 Try.underlying30 (by rfl) (by rw [HVV.out.2]; exact dm_info) ?_)
              | (go_at_call 12; refine hrw.mono ?_; clear hrw; rintro _ w8 ⟨A8, c8, rfl, hst8, hb8⟩; obtain ⟨VW, hVW⟩ : ∃ VW, VW = dmV dW A8 n7 c8 := ⟨_, rfl⟩; rw [← hVW]; have H8 := Lib.hid (And.intro hst8 (And.intro hb8 hVW)); clear hst8 hb8 hVW hcv)
              | (refine wpList_store_row (by rfl) 30 (.tmp 15) (.tmp 102) (by rfl) w8.heap.size VW (by rfl) (by rfl) 30 _ (heap_alloc_new w8 _) (by rw [H8.out.2.2]; exact dm_info) (by rw [H8.out.2.2]; rfl) (by rw [H8.out.2.2]; exact dm_one _ _ _ _ _ _) ?_))
            have hal : Below w8.heap.size w8 ((w8.alloc (.cells #[.slice none 0 0, .int .i64 0, .int .i64 0, .bool false] 30)).setRow w8.heap.size VW) := below_setRow ((Below.refl _ _).alloc (Nat.le_refl _) _) (Nat.le_refl _) _
            have hv9 : ((w8.alloc (.cells #[.slice none 0 0, .int .i64 0, .int .i64 0, .bool false] 30)).setRow w8.heap.size VW).heap[w8.heap.size]? = some (.cells VW 30 (0, 0)) := setRow_at (heap_alloc_new w8 _)
            have hs9 := (H8.out.1.mono (T := fun x => m ≤ x ∧ x ≠ pw) fun b hb1 hb2 => by have h1 := lt_of_cells HVV.out.1; have h2 := H7.out.1.dsk.top; rcases hb2 with h | h <;> omega).below hal
            have hp9 := H7.out.1.below (H8.out.2.1.trans (hal.mono H8.out.2.1.size))
            have HBX := Lib.hid (((H8.out.2.1.trans (hal.mono H8.out.2.1.size)).block _ (lt_of_cells HVV.out.1)).trans HVV.out.1)
            have HV9 := Lib.hid (And.intro hv9 H8.out.2.2)
            have H9 := Lib.hid (And.intro hp9 hs9)
            clear hal hv9 hs9 hp9 hzd
            generalize (w8.alloc (.cells #[.slice none 0 0, .int .i64 0, .int .i64 0, .bool false] 30)).setRow w8.heap.size VW = w9 at *
            generalize w8.heap.size = pv at *
            go_upto_region 28 with (first
              | (refine wpList_load_row (by rfl) 30 (.tmp 15) (by rfl) pv (by rfl) 30 VW (0, 0) _ HV9.out.1 Try.underlying30 (by rfl) (by rw [HV9.out.2]; exact dm_info) ?_)
              | (refine wpList_store_row (by rfl) 30 (.tmp 8) (.tmp 104) (by rfl) pw VW (by rfl) (by rfl) 30 VV HBX.out (by rw [HV9.out.2]; exact dm_info) (by rw [HV9.out.2, HVV.out.2]; rfl) (by rw [HV9.out.2]; exact dm_one _ _ _ _ _ _) ?_))
            have hp10 := H9.out.1.store (dR' := dW) H9.out.2
            rw [← HV9.out.2] at hp10
            have HE := Lib.hid (show RPs w m g pw (some ⟨b, off, none⟩) ns cs l dW (w9.setRow pw VW) from ⟨hp10, by have h1 := writeM_len d a.i (filledL a.sd 128); rw [H6.out.2.2.2.2.1] at h1; simp only at h1; have := H5.out.2.2.2.2; omega, HN.out.2.2.below hp10.dsk.bel⟩)
            clear hp10
            go_wp2_with fail
            go_meet
            exact ⟨dW, HE.out⟩
        · by_cases hk1 : K = 1
          · subst hk1
            by_cases h30 : a.ln < 30
            · have hc3 : w5.cell? ⟨pa, 3, none⟩ = some (.int .u8 (a.ln : Int)) := by rw [cell_of_cells H5.out.2.1, HAV.out.1]; rfl
              have hc2 : w5.cell? ⟨pa, 2, none⟩ = some (.int .u8 (a.sd : Int)) := by rw [cell_of_cells H5.out.2.1, HAV.out.1]; rfl
              have h30' : (a.ln : Int) < 30 := by omega
              have hln := IntWalk.i64_in ((a.ln : Nat) : Int) (by have := HAV.out.2.1.2.1; omega)
              have HFL := Lib.hid (fun W : World => show Calls Try.prog 10 #[.int .u8 (a.sd : Int), .int .i64 (a.ln : Int)] W _ from filled_any a.sd a.ln (by exact HAV.out.2.1.1) (by have := HAV.out.2.1.2.1; omega) W)
              clear h30
              go_upto_region 25 with (go_at_call 10; refine (HFL.out _).mono ?_; rintro _ w6 ⟨rfl, hg6, hb6⟩)
              have hpl6 := H5.out.1.below hb6
              have hpa6 := (hb6.block _ (lt_of_cells H5.out.2.1)).trans H5.out.2.1
              have hc1 : w6.cell? ⟨pa, 1, none⟩ = some (.int .i64 a.i) := by rw [cell_of_cells hpa6, HAV.out.1]; rfl
              have hmq := H5.out.1.dsk.top
              obtain ⟨dW, eW, hWM⟩ : ∃ dW eW, writeM d a.i (filledL a.sd a.ln) = (dW, eW) := ⟨_, _, rfl⟩
              have hwr := hpl6.dsk.write (byt_filled' hg6 (filledL_length a.sd a.ln) (by have := HAV.out.2.1.2.1; omega) hmq) a.i
              rw [hWM] at hwr
              simp only at hwr
              have H6 := Lib.hid (And.intro hpl6 (And.intro hpa6 (And.intro hg6 (And.intro hmq (And.intro hWM (H5.out.2.2.1.below hb6))))))
              clear hpl6 hpa6 hg6 hmq hWM hb6 hc2 hc3
              generalize w5.heap.size = q6 at *
              go_upto_region 26 with (go_at_call 11; refine hwr.mono ?_; clear hwr; rintro _ w7 ⟨rfl, hd7, ht7⟩)
              have hpl7 := H6.out.1.code hd7 ht7
              have hpa7 := (ht7.block pa (lt_of_cells H6.out.2.1) (by have := H5.out.2.2.2.1; omega)).trans H6.out.2.1
              have hy7 := byt_filled' (m := m) ((ht7.block _ (lt_of_cells H6.out.2.2.1) (by have := H6.out.2.2.2.1; omega)).trans H6.out.2.2.1) (filledL_length a.sd a.ln) (by have := HAV.out.2.1.2.1; omega) H6.out.2.2.2.1
              obtain ⟨A7, n7, c7, hbx, hst⟩ := hpl7.box
              obtain ⟨VV, hVV⟩ : ∃ VV, VV = dmV d A7 n7 c7 := ⟨_, rfl⟩
              have hrw := rbwrite_any hst (by have := hst.len; have := H5.out.2.2.2.2; omega) H5.out.1.dsk.dk.ok a.i (filledL a.sd a.ln)
              rw [H6.out.2.2.2.2.1, ← hVV] at hrw
              simp only at hrw
              rw [← hVV] at hbx
              have hcv := byt_string hy7
              have hc1 : w7.cell? ⟨pa, 1, none⟩ = some (.int .i64 a.i) := by rw [cell_of_cells hpa7, HAV.out.1]; rfl
              have HVV := Lib.hid (And.intro hbx hVV)
              have H7 := Lib.hid (And.intro hpl7 hpa7)
              have hzd := zero_dm
              clear hpl7 hpa7 hbx hVV hst hy7 hd7 ht7
              generalize hF : (⟨(filledL a.sd a.ln).toArray⟩ : ByteArray) = FS at hcv
              rw [show st (filledL a.sd a.ln) = FS from hF] at hrw
              clear hF
              go_upto_region 27 with (first
                | (refine wpList_load_row (by rfl) 30 (.tmp 8) (by rfl) pw (by rfl) 30 VV (0, 0) _ HVV.out.1 Try.underlying30 (by rfl) (by rw [HVV.out.2]; exact dm_info) ?_)
                | (go_at_call 12; refine hrw.mono ?_; clear hrw; rintro _ w8 ⟨A8, c8, rfl, hst8, hb8⟩; obtain ⟨VW, hVW⟩ : ∃ VW, VW = dmV dW A8 n7 c8 := ⟨_, rfl⟩; rw [← hVW]; have H8 := Lib.hid (And.intro hst8 (And.intro hb8 hVW)); clear hst8 hb8 hVW hcv)
                | (refine wpList_store_row (by rfl) 30 (.tmp 15) (.tmp 102) (by rfl) w8.heap.size VW (by rfl) (by rfl) 30 _ (heap_alloc_new w8 _) (by rw [H8.out.2.2]; exact dm_info) (by rw [H8.out.2.2]; rfl) (by rw [H8.out.2.2]; exact dm_one _ _ _ _ _ _) ?_))
              have hal : Below w8.heap.size w8 ((w8.alloc (.cells #[.slice none 0 0, .int .i64 0, .int .i64 0, .bool false] 30)).setRow w8.heap.size VW) := below_setRow ((Below.refl _ _).alloc (Nat.le_refl _) _) (Nat.le_refl _) _
              have hv9 : ((w8.alloc (.cells #[.slice none 0 0, .int .i64 0, .int .i64 0, .bool false] 30)).setRow w8.heap.size VW).heap[w8.heap.size]? = some (.cells VW 30 (0, 0)) := setRow_at (heap_alloc_new w8 _)
              have hs9 := (H8.out.1.mono (T := fun x => m ≤ x ∧ x ≠ pw) fun b hb1 hb2 => by have h1 := lt_of_cells HVV.out.1; have h2 := H7.out.1.dsk.top; rcases hb2 with h | h <;> omega).below hal
              have hp9 := H7.out.1.below (H8.out.2.1.trans (hal.mono H8.out.2.1.size))
              have HBX := Lib.hid (((H8.out.2.1.trans (hal.mono H8.out.2.1.size)).block _ (lt_of_cells HVV.out.1)).trans HVV.out.1)
              have HV9 := Lib.hid (And.intro hv9 H8.out.2.2)
              have H9 := Lib.hid (And.intro hp9 hs9)
              clear hal hv9 hs9 hp9 hzd
              generalize (w8.alloc (.cells #[.slice none 0 0, .int .i64 0, .int .i64 0, .bool false] 30)).setRow w8.heap.size VW = w9 at *
              generalize w8.heap.size = pv at *
              go_upto_region 28 with (first
                | (refine wpList_load_row (by rfl) 30 (.tmp 15) (by rfl) pv (by rfl) 30 VW (0, 0) _ HV9.out.1 Try.underlying30 (by rfl) (by rw [HV9.out.2]; exact dm_info) ?_)
                | (refine wpList_store_row (by rfl) 30 (.tmp 8) (.tmp 104) (by rfl) pw VW (by rfl) (by rfl) 30 VV HBX.out (by rw [HV9.out.2]; exact dm_info) (by rw [HV9.out.2, HVV.out.2]; rfl) (by rw [HV9.out.2]; exact dm_one _ _ _ _ _ _) ?_))
              have hp10 := H9.out.1.store (dR' := dW) H9.out.2
              rw [← HV9.out.2] at hp10
              have HE := Lib.hid (show RPs w m g pw (some ⟨b, off, none⟩) ns cs l dW (w9.setRow pw VW) from ⟨hp10, by have h1 := writeM_len d a.i (filledL a.sd a.ln); rw [H6.out.2.2.2.2.1] at h1; simp only at h1; have := H5.out.2.2.2.2; omega, HN.out.2.2.below hp10.dsk.bel⟩)
              clear hp10
              go_wp2_with fail
              go_meet
              exact ⟨dW, HE.out⟩
            · have hc3 : w5.cell? ⟨pa, 3, none⟩ = some (.int .u8 (a.ln : Int)) := by rw [cell_of_cells H5.out.2.1, HAV.out.1]; rfl
              have hc2 : w5.cell? ⟨pa, 2, none⟩ = some (.int .u8 (a.sd : Int)) := by rw [cell_of_cells H5.out.2.1, HAV.out.1]; rfl
              have h30' : ¬ (a.ln : Int) < 30 := by omega
              have hln := IntWalk.i64_in ((a.ln : Nat) : Int) (by have := HAV.out.2.1.2.1; omega)
              have HFL := Lib.hid (fun W : World => show Calls Try.prog 10 #[.int .u8 (a.sd : Int), .int .i64 128] W _ from filled_any a.sd 128 (by exact HAV.out.2.1.1) (by have := HAV.out.2.1.2.1; omega) W)
              clear h30
              go_upto_region 25 with (go_at_call 10; refine (HFL.out _).mono ?_; rintro _ w6 ⟨rfl, hg6, hb6⟩)
              have hpl6 := H5.out.1.below hb6
              have hpa6 := (hb6.block _ (lt_of_cells H5.out.2.1)).trans H5.out.2.1
              have hc1 : w6.cell? ⟨pa, 1, none⟩ = some (.int .i64 a.i) := by rw [cell_of_cells hpa6, HAV.out.1]; rfl
              have hmq := H5.out.1.dsk.top
              obtain ⟨dW, eW, hWM⟩ : ∃ dW eW, writeM d a.i (filledL a.sd 128) = (dW, eW) := ⟨_, _, rfl⟩
              have hwr := hpl6.dsk.write (byt_filled' hg6 (filledL_length a.sd 128) (by have := HAV.out.2.1.2.1; omega) hmq) a.i
              rw [hWM] at hwr
              simp only at hwr
              have H6 := Lib.hid (And.intro hpl6 (And.intro hpa6 (And.intro hg6 (And.intro hmq (And.intro hWM (H5.out.2.2.1.below hb6))))))
              clear hpl6 hpa6 hg6 hmq hWM hb6 hc2 hc3
              generalize w5.heap.size = q6 at *
              go_upto_region 26 with (go_at_call 11; refine hwr.mono ?_; clear hwr; rintro _ w7 ⟨rfl, hd7, ht7⟩)
              have hpl7 := H6.out.1.code hd7 ht7
              have hpa7 := (ht7.block pa (lt_of_cells H6.out.2.1) (by have := H5.out.2.2.2.1; omega)).trans H6.out.2.1
              have hy7 := byt_filled' (m := m) ((ht7.block _ (lt_of_cells H6.out.2.2.1) (by have := H6.out.2.2.2.1; omega)).trans H6.out.2.2.1) (filledL_length a.sd 128) (by have := HAV.out.2.1.2.1; omega) H6.out.2.2.2.1
              obtain ⟨A7, n7, c7, hbx, hst⟩ := hpl7.box
              obtain ⟨VV, hVV⟩ : ∃ VV, VV = dmV d A7 n7 c7 := ⟨_, rfl⟩
              have hrw := rbwrite_any hst (by have := hst.len; have := H5.out.2.2.2.2; omega) H5.out.1.dsk.dk.ok a.i (filledL a.sd 128)
              rw [H6.out.2.2.2.2.1, ← hVV] at hrw
              simp only at hrw
              rw [← hVV] at hbx
              have hcv := byt_string hy7
              have hc1 : w7.cell? ⟨pa, 1, none⟩ = some (.int .i64 a.i) := by rw [cell_of_cells hpa7, HAV.out.1]; rfl
              have HVV := Lib.hid (And.intro hbx hVV)
              have H7 := Lib.hid (And.intro hpl7 hpa7)
              have hzd := zero_dm
              clear hpl7 hpa7 hbx hVV hst hy7 hd7 ht7
              generalize hF : (⟨(filledL a.sd 128).toArray⟩ : ByteArray) = FS at hcv
              rw [show st (filledL a.sd 128) = FS from hF] at hrw
              clear hF
              go_upto_region 27 with (first
                | (refine wpList_load_row (by rfl) 30 (.tmp 8) (by rfl) pw (by rfl) 30 VV (0, 0) _ HVV.out.1 Try.underlying30 (by rfl) (by rw [HVV.out.2]; exact dm_info) ?_)
                | (go_at_call 12; refine hrw.mono ?_; clear hrw; rintro _ w8 ⟨A8, c8, rfl, hst8, hb8⟩; obtain ⟨VW, hVW⟩ : ∃ VW, VW = dmV dW A8 n7 c8 := ⟨_, rfl⟩; rw [← hVW]; have H8 := Lib.hid (And.intro hst8 (And.intro hb8 hVW)); clear hst8 hb8 hVW hcv)
                | (refine wpList_store_row (by rfl) 30 (.tmp 15) (.tmp 102) (by rfl) w8.heap.size VW (by rfl) (by rfl) 30 _ (heap_alloc_new w8 _) (by rw [H8.out.2.2]; exact dm_info) (by rw [H8.out.2.2]; rfl) (by rw [H8.out.2.2]; exact dm_one _ _ _ _ _ _) ?_))
              have hal : Below w8.heap.size w8 ((w8.alloc (.cells #[.slice none 0 0, .int .i64 0, .int .i64 0, .bool false] 30)).setRow w8.heap.size VW) := below_setRow ((Below.refl _ _).alloc (Nat.le_refl _) _) (Nat.le_refl _) _
              have hv9 : ((w8.alloc (.cells #[.slice none 0 0, .int .i64 0, .int .i64 0, .bool false] 30)).setRow w8.heap.size VW).heap[w8.heap.size]? = some (.cells VW 30 (0, 0)) := setRow_at (heap_alloc_new w8 _)
              have hs9 := (H8.out.1.mono (T := fun x => m ≤ x ∧ x ≠ pw) fun b hb1 hb2 => by have h1 := lt_of_cells HVV.out.1; have h2 := H7.out.1.dsk.top; rcases hb2 with h | h <;> omega).below hal
              have hp9 := H7.out.1.below (H8.out.2.1.trans (hal.mono H8.out.2.1.size))
              have HBX := Lib.hid (((H8.out.2.1.trans (hal.mono H8.out.2.1.size)).block _ (lt_of_cells HVV.out.1)).trans HVV.out.1)
              have HV9 := Lib.hid (And.intro hv9 H8.out.2.2)
              have H9 := Lib.hid (And.intro hp9 hs9)
              clear hal hv9 hs9 hp9 hzd
              generalize (w8.alloc (.cells #[.slice none 0 0, .int .i64 0, .int .i64 0, .bool false] 30)).setRow w8.heap.size VW = w9 at *
              generalize w8.heap.size = pv at *
              go_upto_region 28 with (first
                | (refine wpList_load_row (by rfl) 30 (.tmp 15) (by rfl) pv (by rfl) 30 VW (0, 0) _ HV9.out.1 Try.underlying30 (by rfl) (by rw [HV9.out.2]; exact dm_info) ?_)
                | (refine wpList_store_row (by rfl) 30 (.tmp 8) (.tmp 104) (by rfl) pw VW (by rfl) (by rfl) 30 VV HBX.out (by rw [HV9.out.2]; exact dm_info) (by rw [HV9.out.2, HVV.out.2]; rfl) (by rw [HV9.out.2]; exact dm_one _ _ _ _ _ _) ?_))
              have hp10 := H9.out.1.store (dR' := dW) H9.out.2
              rw [← HV9.out.2] at hp10
              have HE := Lib.hid (show RPs w m g pw (some ⟨b, off, none⟩) ns cs l dW (w9.setRow pw VW) from ⟨hp10, by have h1 := writeM_len d a.i (filledL a.sd 128); rw [H6.out.2.2.2.2.1] at h1; simp only at h1; have := H5.out.2.2.2.2; omega, HN.out.2.2.below hp10.dsk.bel⟩)
              clear hp10
              go_wp2_with fail
              go_meet
              exact ⟨dW, HE.out⟩
          · by_cases hk2 : K = 2
            · subst hk2
              by_cases h30 : a.ln < 30
              · have hc3 : w5.cell? ⟨pa, 3, none⟩ = some (.int .u8 (a.ln : Int)) := by rw [cell_of_cells H5.out.2.1, HAV.out.1]; rfl
                have hc2 : w5.cell? ⟨pa, 2, none⟩ = some (.int .u8 (a.sd : Int)) := by rw [cell_of_cells H5.out.2.1, HAV.out.1]; rfl
                have h30' : (a.ln : Int) < 30 := by omega
                have hln := IntWalk.i64_in ((a.ln : Nat) : Int) (by have := HAV.out.2.1.2.1; omega)
                have HFL := Lib.hid (fun W : World => show Calls Try.prog 10 #[.int .u8 (a.sd : Int), .int .i64 (a.ln : Int)] W _ from filled_any a.sd a.ln (by exact HAV.out.2.1.1) (by have := HAV.out.2.1.2.1; omega) W)
                clear h30
                go_upto_region 25 with (go_at_call 10; refine (HFL.out _).mono ?_; rintro _ w6 ⟨rfl, hg6, hb6⟩)
                have hpl6 := H5.out.1.below hb6
                have hpa6 := (hb6.block _ (lt_of_cells H5.out.2.1)).trans H5.out.2.1
                have hc1 : w6.cell? ⟨pa, 1, none⟩ = some (.int .i64 a.i) := by rw [cell_of_cells hpa6, HAV.out.1]; rfl
                have hmq := H5.out.1.dsk.top
                obtain ⟨dW, eW, hWM⟩ : ∃ dW eW, writeM d a.i (filledL a.sd a.ln) = (dW, eW) := ⟨_, _, rfl⟩
                have hwr := hpl6.dsk.write (byt_filled' hg6 (filledL_length a.sd a.ln) (by have := HAV.out.2.1.2.1; omega) hmq) a.i
                rw [hWM] at hwr
                simp only at hwr
                have H6 := Lib.hid (And.intro hpl6 (And.intro hpa6 (And.intro hg6 (And.intro hmq (And.intro hWM (H5.out.2.2.1.below hb6))))))
                clear hpl6 hpa6 hg6 hmq hWM hb6 hc2 hc3
                generalize w5.heap.size = q6 at *
                go_upto_region 26 with (go_at_call 11; refine hwr.mono ?_; clear hwr; rintro _ w7 ⟨rfl, hd7, ht7⟩)
                have hpl7 := H6.out.1.code hd7 ht7
                have hpa7 := (ht7.block pa (lt_of_cells H6.out.2.1) (by have := H5.out.2.2.2.1; omega)).trans H6.out.2.1
                have hy7 := byt_filled' (m := m) ((ht7.block _ (lt_of_cells H6.out.2.2.1) (by have := H6.out.2.2.2.1; omega)).trans H6.out.2.2.1) (filledL_length a.sd a.ln) (by have := HAV.out.2.1.2.1; omega) H6.out.2.2.2.1
                obtain ⟨A7, n7, c7, hbx, hst⟩ := hpl7.box
                obtain ⟨VV, hVV⟩ : ∃ VV, VV = dmV d A7 n7 c7 := ⟨_, rfl⟩
                have hrw := rbwrite_any hst (by have := hst.len; have := H5.out.2.2.2.2; omega) H5.out.1.dsk.dk.ok a.i (filledL a.sd a.ln)
                rw [H6.out.2.2.2.2.1, ← hVV] at hrw
                simp only at hrw
                rw [← hVV] at hbx
                have hcv := byt_string hy7
                have hc1 : w7.cell? ⟨pa, 1, none⟩ = some (.int .i64 a.i) := by rw [cell_of_cells hpa7, HAV.out.1]; rfl
                have HVV := Lib.hid (And.intro hbx hVV)
                have H7 := Lib.hid (And.intro hpl7 hpa7)
                have hzd := zero_dm
                clear hpl7 hpa7 hbx hVV hst hy7 hd7 ht7
                generalize hF : (⟨(filledL a.sd a.ln).toArray⟩ : ByteArray) = FS at hcv
                rw [show st (filledL a.sd a.ln) = FS from hF] at hrw
                clear hF
                go_upto_region 27 with (first
                  | (refine wpList_load_row (by rfl) 30 (.tmp 8) (by rfl) pw (by rfl) 30 VV (0, 0) _ HVV.out.1 Try.underlying30 (by rfl) (by rw [HVV.out.2]; exact dm_info) ?_)
                  | (go_at_call 12; refine hrw.mono ?_; clear hrw; rintro _ w8 ⟨A8, c8, rfl, hst8, hb8⟩; obtain ⟨VW, hVW⟩ : ∃ VW, VW = dmV dW A8 n7 c8 := ⟨_, rfl⟩; rw [← hVW]; have H8 := Lib.hid (And.intro hst8 (And.intro hb8 hVW)); clear hst8 hb8 hVW hcv)
                  | (refine wpList_store_row (by rfl) 30 (.tmp 15) (.tmp 102) (by rfl) w8.heap.size VW (by rfl) (by rfl) 30 _ (heap_alloc_new w8 _) (by rw [H8.out.2.2]; exact dm_info) (by rw [H8.out.2.2]; rfl) (by rw [H8.out.2.2]; exact dm_one _ _ _ _ _ _) ?_))
                have hal : Below w8.heap.size w8 ((w8.alloc (.cells #[.slice none 0 0, .int .i64 0, .int .i64 0, .bool false] 30)).setRow w8.heap.size VW) := below_setRow ((Below.refl _ _).alloc (Nat.le_refl _) _) (Nat.le_refl _) _
                have hv9 : ((w8.alloc (.cells #[.slice none 0 0, .int .i64 0, .int .i64 0, .bool false] 30)).setRow w8.heap.size VW).heap[w8.heap.size]? = some (.cells VW 30 (0, 0)) := setRow_at (heap_alloc_new w8 _)
                have hs9 := (H8.out.1.mono (T := fun x => m ≤ x ∧ x ≠ pw) fun b hb1 hb2 => by have h1 := lt_of_cells HVV.out.1; have h2 := H7.out.1.dsk.top; rcases hb2 with h | h <;> omega).below hal
                have hp9 := H7.out.1.below (H8.out.2.1.trans (hal.mono H8.out.2.1.size))
                have HBX := Lib.hid (((H8.out.2.1.trans (hal.mono H8.out.2.1.size)).block _ (lt_of_cells HVV.out.1)).trans HVV.out.1)
                have HV9 := Lib.hid (And.intro hv9 H8.out.2.2)
                have H9 := Lib.hid (And.intro hp9 hs9)
                clear hal hv9 hs9 hp9 hzd
                generalize (w8.alloc (.cells #[.slice none 0 0, .int .i64 0, .int .i64 0, .bool false] 30)).setRow w8.heap.size VW = w9 at *
                generalize w8.heap.size = pv at *
                go_upto_region 28 with (first
                  | (refine wpList_load_row (by rfl) 30 (.tmp 15) (by rfl) pv (by rfl) 30 VW (0, 0) _ HV9.out.1 Try.underlying30 (by rfl) (by rw [HV9.out.2]; exact dm_info) ?_)
                  | (refine wpList_store_row (by rfl) 30 (.tmp 8) (.tmp 104) (by rfl) pw VW (by rfl) (by rfl) 30 VV HBX.out (by rw [HV9.out.2]; exact dm_info) (by rw [HV9.out.2, HVV.out.2]; rfl) (by rw [HV9.out.2]; exact dm_one _ _ _ _ _ _) ?_))
                have hp10 := H9.out.1.store (dR' := dW) H9.out.2
                rw [← HV9.out.2] at hp10
                have HE := Lib.hid (show RPs w m g pw (some ⟨b, off, none⟩) ns cs l dW (w9.setRow pw VW) from ⟨hp10, by have h1 := writeM_len d a.i (filledL a.sd a.ln); rw [H6.out.2.2.2.2.1] at h1; simp only at h1; have := H5.out.2.2.2.2; omega, HN.out.2.2.below hp10.dsk.bel⟩)
                clear hp10
                go_wp2_with fail
                go_meet
                exact ⟨dW, HE.out⟩
              · have hc3 : w5.cell? ⟨pa, 3, none⟩ = some (.int .u8 (a.ln : Int)) := by rw [cell_of_cells H5.out.2.1, HAV.out.1]; rfl
                have hc2 : w5.cell? ⟨pa, 2, none⟩ = some (.int .u8 (a.sd : Int)) := by rw [cell_of_cells H5.out.2.1, HAV.out.1]; rfl
                have h30' : ¬ (a.ln : Int) < 30 := by omega
                have hln := IntWalk.i64_in ((a.ln : Nat) : Int) (by have := HAV.out.2.1.2.1; omega)
                have HFL := Lib.hid (fun W : World => show Calls Try.prog 10 #[.int .u8 (a.sd : Int), .int .i64 128] W _ from filled_any a.sd 128 (by exact HAV.out.2.1.1) (by have := HAV.out.2.1.2.1; omega) W)
                clear h30
                go_upto_region 25 with (go_at_call 10; refine (HFL.out _).mono ?_; rintro _ w6 ⟨rfl, hg6, hb6⟩)
                have hpl6 := H5.out.1.below hb6
                have hpa6 := (hb6.block _ (lt_of_cells H5.out.2.1)).trans H5.out.2.1
                have hc1 : w6.cell? ⟨pa, 1, none⟩ = some (.int .i64 a.i) := by rw [cell_of_cells hpa6, HAV.out.1]; rfl
                have hmq := H5.out.1.dsk.top
                obtain ⟨dW, eW, hWM⟩ : ∃ dW eW, writeM d a.i (filledL a.sd 128) = (dW, eW) := ⟨_, _, rfl⟩
                have hwr := hpl6.dsk.write (byt_filled' hg6 (filledL_length a.sd 128) (by have := HAV.out.2.1.2.1; omega) hmq) a.i
                rw [hWM] at hwr
                simp only at hwr
                have H6 := Lib.hid (And.intro hpl6 (And.intro hpa6 (And.intro hg6 (And.intro hmq (And.intro hWM (H5.out.2.2.1.below hb6))))))
                clear hpl6 hpa6 hg6 hmq hWM hb6 hc2 hc3
                generalize w5.heap.size = q6 at *
                go_upto_region 26 with (go_at_call 11; refine hwr.mono ?_; clear hwr; rintro _ w7 ⟨rfl, hd7, ht7⟩)
                have hpl7 := H6.out.1.code hd7 ht7
                have hpa7 := (ht7.block pa (lt_of_cells H6.out.2.1) (by have := H5.out.2.2.2.1; omega)).trans H6.out.2.1
                have hy7 := byt_filled' (m := m) ((ht7.block _ (lt_of_cells H6.out.2.2.1) (by have := H6.out.2.2.2.1; omega)).trans H6.out.2.2.1) (filledL_length a.sd 128) (by have := HAV.out.2.1.2.1; omega) H6.out.2.2.2.1
                obtain ⟨A7, n7, c7, hbx, hst⟩ := hpl7.box
                obtain ⟨VV, hVV⟩ : ∃ VV, VV = dmV d A7 n7 c7 := ⟨_, rfl⟩
                have hrw := rbwrite_any hst (by have := hst.len; have := H5.out.2.2.2.2; omega) H5.out.1.dsk.dk.ok a.i (filledL a.sd 128)
                rw [H6.out.2.2.2.2.1, ← hVV] at hrw
                simp only at hrw
                rw [← hVV] at hbx
                have hcv := byt_string hy7
                have hc1 : w7.cell? ⟨pa, 1, none⟩ = some (.int .i64 a.i) := by rw [cell_of_cells hpa7, HAV.out.1]; rfl
                have HVV := Lib.hid (And.intro hbx hVV)
                have H7 := Lib.hid (And.intro hpl7 hpa7)
                have hzd := zero_dm
                clear hpl7 hpa7 hbx hVV hst hy7 hd7 ht7
                generalize hF : (⟨(filledL a.sd 128).toArray⟩ : ByteArray) = FS at hcv
                rw [show st (filledL a.sd 128) = FS from hF] at hrw
                clear hF
                go_upto_region 27 with (first
                  | (refine wpList_load_row (by rfl) 30 (.tmp 8) (by rfl) pw (by rfl) 30 VV (0, 0) _ HVV.out.1 Try.underlying30 (by rfl) (by rw [HVV.out.2]; exact dm_info) ?_)
                  | (go_at_call 12; refine hrw.mono ?_; clear hrw; rintro _ w8 ⟨A8, c8, rfl, hst8, hb8⟩; obtain ⟨VW, hVW⟩ : ∃ VW, VW = dmV dW A8 n7 c8 := ⟨_, rfl⟩; rw [← hVW]; have H8 := Lib.hid (And.intro hst8 (And.intro hb8 hVW)); clear hst8 hb8 hVW hcv)
                  | (refine wpList_store_row (by rfl) 30 (.tmp 15) (.tmp 102) (by rfl) w8.heap.size VW (by rfl) (by rfl) 30 _ (heap_alloc_new w8 _) (by rw [H8.out.2.2]; exact dm_info) (by rw [H8.out.2.2]; rfl) (by rw [H8.out.2.2]; exact dm_one _ _ _ _ _ _) ?_))
                have hal : Below w8.heap.size w8 ((w8.alloc (.cells #[.slice none 0 0, .int .i64 0, .int .i64 0, .bool false] 30)).setRow w8.heap.size VW) := below_setRow ((Below.refl _ _).alloc (Nat.le_refl _) _) (Nat.le_refl _) _
                have hv9 : ((w8.alloc (.cells #[.slice none 0 0, .int .i64 0, .int .i64 0, .bool false] 30)).setRow w8.heap.size VW).heap[w8.heap.size]? = some (.cells VW 30 (0, 0)) := setRow_at (heap_alloc_new w8 _)
                have hs9 := (H8.out.1.mono (T := fun x => m ≤ x ∧ x ≠ pw) fun b hb1 hb2 => by have h1 := lt_of_cells HVV.out.1; have h2 := H7.out.1.dsk.top; rcases hb2 with h | h <;> omega).below hal
                have hp9 := H7.out.1.below (H8.out.2.1.trans (hal.mono H8.out.2.1.size))
                have HBX := Lib.hid (((H8.out.2.1.trans (hal.mono H8.out.2.1.size)).block _ (lt_of_cells HVV.out.1)).trans HVV.out.1)
                have HV9 := Lib.hid (And.intro hv9 H8.out.2.2)
                have H9 := Lib.hid (And.intro hp9 hs9)
                clear hal hv9 hs9 hp9 hzd
                generalize (w8.alloc (.cells #[.slice none 0 0, .int .i64 0, .int .i64 0, .bool false] 30)).setRow w8.heap.size VW = w9 at *
                generalize w8.heap.size = pv at *
                go_upto_region 28 with (first
                  | (refine wpList_load_row (by rfl) 30 (.tmp 15) (by rfl) pv (by rfl) 30 VW (0, 0) _ HV9.out.1 Try.underlying30 (by rfl) (by rw [HV9.out.2]; exact dm_info) ?_)
                  | (refine wpList_store_row (by rfl) 30 (.tmp 8) (.tmp 104) (by rfl) pw VW (by rfl) (by rfl) 30 VV HBX.out (by rw [HV9.out.2]; exact dm_info) (by rw [HV9.out.2, HVV.out.2]; rfl) (by rw [HV9.out.2]; exact dm_one _ _ _ _ _ _) ?_))
                have hp10 := H9.out.1.store (dR' := dW) H9.out.2
                rw [← HV9.out.2] at hp10
                have HE := Lib.hid (show RPs w m g pw (some ⟨b, off, none⟩) ns cs l dW (w9.setRow pw VW) from ⟨hp10, by have h1 := writeM_len d a.i (filledL a.sd 128); rw [H6.out.2.2.2.2.1] at h1; simp only at h1; have := H5.out.2.2.2.2; omega, HN.out.2.2.below hp10.dsk.bel⟩)
                clear hp10
                go_wp2_with fail
                go_meet
                exact ⟨dW, HE.out⟩
            · by_cases hk3 : K = 3
              · subst hk3
                by_cases h30 : a.ln < 30
                · have hc3 : w5.cell? ⟨pa, 3, none⟩ = some (.int .u8 (a.ln : Int)) := by rw [cell_of_cells H5.out.2.1, HAV.out.1]; rfl
                  have hc2 : w5.cell? ⟨pa, 2, none⟩ = some (.int .u8 (a.sd : Int)) := by rw [cell_of_cells H5.out.2.1, HAV.out.1]; rfl
                  have h30' : (a.ln : Int) < 30 := by omega
                  have hln := IntWalk.i64_in ((a.ln : Nat) : Int) (by have := HAV.out.2.1.2.1; omega)
                  have HFL := Lib.hid (fun W : World => show Calls Try.prog 10 #[.int .u8 (a.sd : Int), .int .i64 (a.ln : Int)] W _ from filled_any a.sd a.ln (by exact HAV.out.2.1.1) (by have := HAV.out.2.1.2.1; omega) W)
                  clear h30
                  go_upto_region 25 with (go_at_call 10; refine (HFL.out _).mono ?_; rintro _ w6 ⟨rfl, hg6, hb6⟩)
                  have hpl6 := H5.out.1.below hb6
                  have hpa6 := (hb6.block _ (lt_of_cells H5.out.2.1)).trans H5.out.2.1
                  have hc1 : w6.cell? ⟨pa, 1, none⟩ = some (.int .i64 a.i) := by rw [cell_of_cells hpa6, HAV.out.1]; rfl
                  have hmq := H5.out.1.dsk.top
                  obtain ⟨dW, eW, hWM⟩ : ∃ dW eW, writeM d a.i (filledL a.sd a.ln) = (dW, eW) := ⟨_, _, rfl⟩
                  have hwr := hpl6.dsk.write (byt_filled' hg6 (filledL_length a.sd a.ln) (by have := HAV.out.2.1.2.1; omega) hmq) a.i
                  rw [hWM] at hwr
                  simp only at hwr
                  have H6 := Lib.hid (And.intro hpl6 (And.intro hpa6 (And.intro hg6 (And.intro hmq (And.intro hWM (H5.out.2.2.1.below hb6))))))
                  clear hpl6 hpa6 hg6 hmq hWM hb6 hc2 hc3
                  generalize w5.heap.size = q6 at *
                  go_upto_region 26 with (go_at_call 11; refine hwr.mono ?_; clear hwr; rintro _ w7 ⟨rfl, hd7, ht7⟩)
                  have hpl7 := H6.out.1.code hd7 ht7
                  have hpa7 := (ht7.block pa (lt_of_cells H6.out.2.1) (by have := H5.out.2.2.2.1; omega)).trans H6.out.2.1
                  have hy7 := byt_filled' (m := m) ((ht7.block _ (lt_of_cells H6.out.2.2.1) (by have := H6.out.2.2.2.1; omega)).trans H6.out.2.2.1) (filledL_length a.sd a.ln) (by have := HAV.out.2.1.2.1; omega) H6.out.2.2.2.1
                  obtain ⟨A7, n7, c7, hbx, hst⟩ := hpl7.box
                  obtain ⟨VV, hVV⟩ : ∃ VV, VV = dmV d A7 n7 c7 := ⟨_, rfl⟩
                  have hrw := rbwrite_any hst (by have := hst.len; have := H5.out.2.2.2.2; omega) H5.out.1.dsk.dk.ok a.i (filledL a.sd a.ln)
                  rw [H6.out.2.2.2.2.1, ← hVV] at hrw
                  simp only at hrw
                  rw [← hVV] at hbx
                  have hcv := byt_string hy7
                  have hc1 : w7.cell? ⟨pa, 1, none⟩ = some (.int .i64 a.i) := by rw [cell_of_cells hpa7, HAV.out.1]; rfl
                  have HVV := Lib.hid (And.intro hbx hVV)
                  have H7 := Lib.hid (And.intro hpl7 hpa7)
                  have hzd := zero_dm
                  clear hpl7 hpa7 hbx hVV hst hy7 hd7 ht7
                  generalize hF : (⟨(filledL a.sd a.ln).toArray⟩ : ByteArray) = FS at hcv
                  rw [show st (filledL a.sd a.ln) = FS from hF] at hrw
                  clear hF
                  go_upto_region 27 with (first
                    | (refine wpList_load_row (by rfl) 30 (.tmp 8) (by rfl) pw (by rfl) 30 VV (0, 0) _ HVV.out.1 Try.underlying30 (by rfl) (by rw [HVV.out.2]; exact dm_info) ?_)
                    | (go_at_call 12; refine hrw.mono ?_; clear hrw; rintro _ w8 ⟨A8, c8, rfl, hst8, hb8⟩; obtain ⟨VW, hVW⟩ : ∃ VW, VW = dmV dW A8 n7 c8 := ⟨_, rfl⟩; rw [← hVW]; have H8 := Lib.hid (And.intro hst8 (And.intro hb8 hVW)); clear hst8 hb8 hVW hcv)
                    | (refine wpList_store_row (by rfl) 30 (.tmp 15) (.tmp 102) (by rfl) w8.heap.size VW (by rfl) (by rfl) 30 _ (heap_alloc_new w8 _) (by rw [H8.out.2.2]; exact dm_info) (by rw [H8.out.2.2]; rfl) (by rw [H8.out.2.2]; exact dm_one _ _ _ _ _ _) ?_))
                  have hal : Below w8.heap.size w8 ((w8.alloc (.cells #[.slice none 0 0, .int .i64 0, .int .i64 0, .bool false] 30)).setRow w8.heap.size VW) := below_setRow ((Below.refl _ _).alloc (Nat.le_refl _) _) (Nat.le_refl _) _
                  have hv9 : ((w8.alloc (.cells #[.slice none 0 0, .int .i64 0, .int .i64 0, .bool false] 30)).setRow w8.heap.size VW).heap[w8.heap.size]? = some (.cells VW 30 (0, 0)) := setRow_at (heap_alloc_new w8 _)
                  have hs9 := (H8.out.1.mono (T := fun x => m ≤ x ∧ x ≠ pw) fun b hb1 hb2 => by have h1 := lt_of_cells HVV.out.1; have h2 := H7.out.1.dsk.top; rcases hb2 with h | h <;> omega).below hal
                  have hp9 := H7.out.1.below (H8.out.2.1.trans (hal.mono H8.out.2.1.size))
                  have HBX := Lib.hid (((H8.out.2.1.trans (hal.mono H8.out.2.1.size)).block _ (lt_of_cells HVV.out.1)).trans HVV.out.1)
                  have HV9 := Lib.hid (And.intro hv9 H8.out.2.2)
                  have H9 := Lib.hid (And.intro hp9 hs9)
                  clear hal hv9 hs9 hp9 hzd
                  generalize (w8.alloc (.cells #[.slice none 0 0, .int .i64 0, .int .i64 0, .bool false] 30)).setRow w8.heap.size VW = w9 at *
                  generalize w8.heap.size = pv at *
                  go_upto_region 28 with (first
                    | (refine wpList_load_row (by rfl) 30 (.tmp 15) (by rfl) pv (by rfl) 30 VW (0, 0) _ HV9.out.1 Try.underlying30 (by rfl) (by rw [HV9.out.2]; exact dm_info) ?_)
                    | (refine wpList_store_row (by rfl) 30 (.tmp 8) (.tmp 104) (by rfl) pw VW (by rfl) (by rfl) 30 VV HBX.out (by rw [HV9.out.2]; exact dm_info) (by rw [HV9.out.2, HVV.out.2]; rfl) (by rw [HV9.out.2]; exact dm_one _ _ _ _ _ _) ?_))
                  have hp10 := H9.out.1.store (dR' := dW) H9.out.2
                  rw [← HV9.out.2] at hp10
                  have HE := Lib.hid (show RPs w m g pw (some ⟨b, off, none⟩) ns cs l dW (w9.setRow pw VW) from ⟨hp10, by have h1 := writeM_len d a.i (filledL a.sd a.ln); rw [H6.out.2.2.2.2.1] at h1; simp only at h1; have := H5.out.2.2.2.2; omega, HN.out.2.2.below hp10.dsk.bel⟩)
                  clear hp10
                  go_wp2_with fail
                  go_meet
                  exact ⟨dW, HE.out⟩
                · have hc3 : w5.cell? ⟨pa, 3, none⟩ = some (.int .u8 (a.ln : Int)) := by rw [cell_of_cells H5.out.2.1, HAV.out.1]; rfl
                  have hc2 : w5.cell? ⟨pa, 2, none⟩ = some (.int .u8 (a.sd : Int)) := by rw [cell_of_cells H5.out.2.1, HAV.out.1]; rfl
                  have h30' : ¬ (a.ln : Int) < 30 := by omega
                  have hln := IntWalk.i64_in ((a.ln : Nat) : Int) (by have := HAV.out.2.1.2.1; omega)
                  have HFL := Lib.hid (fun W : World => show Calls Try.prog 10 #[.int .u8 (a.sd : Int), .int .i64 128] W _ from filled_any a.sd 128 (by exact HAV.out.2.1.1) (by have := HAV.out.2.1.2.1; omega) W)
                  clear h30
                  go_upto_region 25 with (go_at_call 10; refine (HFL.out _).mono ?_; rintro _ w6 ⟨rfl, hg6, hb6⟩)
                  have hpl6 := H5.out.1.below hb6
                  have hpa6 := (hb6.block _ (lt_of_cells H5.out.2.1)).trans H5.out.2.1
                  have hc1 : w6.cell? ⟨pa, 1, none⟩ = some (.int .i64 a.i) := by rw [cell_of_cells hpa6, HAV.out.1]; rfl
                  have hmq := H5.out.1.dsk.top
                  obtain ⟨dW, eW, hWM⟩ : ∃ dW eW, writeM d a.i (filledL a.sd 128) = (dW, eW) := ⟨_, _, rfl⟩
                  have hwr := hpl6.dsk.write (byt_filled' hg6 (filledL_length a.sd 128) (by have := HAV.out.2.1.2.1; omega) hmq) a.i
                  rw [hWM] at hwr
                  simp only at hwr
                  have H6 := Lib.hid (And.intro hpl6 (And.intro hpa6 (And.intro hg6 (And.intro hmq (And.intro hWM (H5.out.2.2.1.below hb6))))))
                  clear hpl6 hpa6 hg6 hmq hWM hb6 hc2 hc3
                  generalize w5.heap.size = q6 at *
                  go_upto_region 26 with (go_at_call 11; refine hwr.mono ?_; clear hwr; rintro _ w7 ⟨rfl, hd7, ht7⟩)
                  have hpl7 := H6.out.1.code hd7 ht7
                  have hpa7 := (ht7.block pa (lt_of_cells H6.out.2.1) (by have := H5.out.2.2.2.1; omega)).trans H6.out.2.1
                  have hy7 := byt_filled' (m := m) ((ht7.block _ (lt_of_cells H6.out.2.2.1) (by have := H6.out.2.2.2.1; omega)).trans H6.out.2.2.1) (filledL_length a.sd 128) (by have := HAV.out.2.1.2.1; omega) H6.out.2.2.2.1
                  obtain ⟨A7, n7, c7, hbx, hst⟩ := hpl7.box
                  obtain ⟨VV, hVV⟩ : ∃ VV, VV = dmV d A7 n7 c7 := ⟨_, rfl⟩
                  have hrw := rbwrite_any hst (by have := hst.len; have := H5.out.2.2.2.2; omega) H5.out.1.dsk.dk.ok a.i (filledL a.sd 128)
                  rw [H6.out.2.2.2.2.1, ← hVV] at hrw
                  simp only at hrw
                  rw [← hVV] at hbx
                  have hcv := byt_string hy7
                  have hc1 : w7.cell? ⟨pa, 1, none⟩ = some (.int .i64 a.i) := by rw [cell_of_cells hpa7, HAV.out.1]; rfl
                  have HVV := Lib.hid (And.intro hbx hVV)
                  have H7 := Lib.hid (And.intro hpl7 hpa7)
                  have hzd := zero_dm
                  clear hpl7 hpa7 hbx hVV hst hy7 hd7 ht7
                  generalize hF : (⟨(filledL a.sd 128).toArray⟩ : ByteArray) = FS at hcv
                  rw [show st (filledL a.sd 128) = FS from hF] at hrw
                  clear hF
                  go_upto_region 27 with (first
                    | (refine wpList_load_row (by rfl) 30 (.tmp 8) (by rfl) pw (by rfl) 30 VV (0, 0) _ HVV.out.1 Try.underlying30 (by rfl) (by rw [HVV.out.2]; exact dm_info) ?_)
                    | (go_at_call 12; refine hrw.mono ?_; clear hrw; rintro _ w8 ⟨A8, c8, rfl, hst8, hb8⟩; obtain ⟨VW, hVW⟩ : ∃ VW, VW = dmV dW A8 n7 c8 := ⟨_, rfl⟩; rw [← hVW]; have H8 := Lib.hid (And.intro hst8 (And.intro hb8 hVW)); clear hst8 hb8 hVW hcv)
                    | (refine wpList_store_row (by rfl) 30 (.tmp 15) (.tmp 102) (by rfl) w8.heap.size VW (by rfl) (by rfl) 30 _ (heap_alloc_new w8 _) (by rw [H8.out.2.2]; exact dm_info) (by rw [H8.out.2.2]; rfl) (by rw [H8.out.2.2]; exact dm_one _ _ _ _ _ _) ?_))
                  have hal : Below w8.heap.size w8 ((w8.alloc (.cells #[.slice none 0 0, .int .i64 0, .int .i64 0, .bool false] 30)).setRow w8.heap.size VW) := below_setRow ((Below.refl _ _).alloc (Nat.le_refl _) _) (Nat.le_refl _) _
                  have hv9 : ((w8.alloc (.cells #[.slice none 0 0, .int .i64 0, .int .i64 0, .bool false] 30)).setRow w8.heap.size VW).heap[w8.heap.size]? = some (.cells VW 30 (0, 0)) := setRow_at (heap_alloc_new w8 _)
                  have hs9 := (H8.out.1.mono (T := fun x => m ≤ x ∧ x ≠ pw) fun b hb1 hb2 => by have h1 := lt_of_cells HVV.out.1; have h2 := H7.out.1.dsk.top; rcases hb2 with h | h <;> omega).below hal
                  have hp9 := H7.out.1.below (H8.out.2.1.trans (hal.mono H8.out.2.1.size))
                  have HBX := Lib.hid (((H8.out.2.1.trans (hal.mono H8.out.2.1.size)).block _ (lt_of_cells HVV.out.1)).trans HVV.out.1)
                  have HV9 := Lib.hid (And.intro hv9 H8.out.2.2)
                  have H9 := Lib.hid (And.intro hp9 hs9)
                  clear hal hv9 hs9 hp9 hzd
                  generalize (w8.alloc (.cells #[.slice none 0 0, .int .i64 0, .int .i64 0, .bool false] 30)).setRow w8.heap.size VW = w9 at *
                  generalize w8.heap.size = pv at *
                  go_upto_region 28 with (first
                    | (refine wpList_load_row (by rfl) 30 (.tmp 15) (by rfl) pv (by rfl) 30 VW (0, 0) _ HV9.out.1 Try.underlying30 (by rfl) (by rw [HV9.out.2]; exact dm_info) ?_)
                    | (refine wpList_store_row (by rfl) 30 (.tmp 8) (.tmp 104) (by rfl) pw VW (by rfl) (by rfl) 30 VV HBX.out (by rw [HV9.out.2]; exact dm_info) (by rw [HV9.out.2, HVV.out.2]; rfl) (by rw [HV9.out.2]; exact dm_one _ _ _ _ _ _) ?_))
                  have hp10 := H9.out.1.store (dR' := dW) H9.out.2
                  rw [← HV9.out.2] at hp10
                  have HE := Lib.hid (show RPs w m g pw (some ⟨b, off, none⟩) ns cs l dW (w9.setRow pw VW) from ⟨hp10, by have h1 := writeM_len d a.i (filledL a.sd 128); rw [H6.out.2.2.2.2.1] at h1; simp only at h1; have := H5.out.2.2.2.2; omega, HN.out.2.2.below hp10.dsk.bel⟩)
                  clear hp10
                  go_wp2_with fail
                  go_meet
                  exact ⟨dW, HE.out⟩
              · by_cases hk4 : K = 4
                · subst hk4
                  have hc4 : w5.cell? ⟨pa, 4, none⟩ = some (.int .i64 a.nn) := by rw [cell_of_cells H5.out.2.1, HAV.out.1]; rfl
                  have hc5 : w5.cell? ⟨pa, 5, none⟩ = some (.int .i64 a.tn) := by rw [cell_of_cells H5.out.2.1, HAV.out.1]; rfl
                  have hsp := H5.out.1.dsk.stop a.nn a.tn HAV.out.2.1.2.2
                  go_upto_region 33 with (go_at_call 13; refine hsp.mono ?_; clear hsp; rintro _ w7 ⟨rfl, hd7, ht7⟩)
                  have hpl7 := H5.out.1.code hd7 ht7
                  have hpa7 := (ht7.block pa (lt_of_cells H5.out.2.1) (by have := H5.out.2.2.2.1; omega)).trans H5.out.2.1
                  obtain ⟨A7, n7, c7, hbx, hst⟩ := hpl7.box
                  obtain ⟨VV, hVV⟩ : ∃ VV, VV = dmV d A7 n7 c7 := ⟨_, rfl⟩
                  have hrw := rbstop_any d A7 n7 c7 a.nn a.tn w7
                  rw [← hVV] at hrw hbx
                  have hc4 : w7.cell? ⟨pa, 4, none⟩ = some (.int .i64 a.nn) := by rw [cell_of_cells hpa7, HAV.out.1]; rfl
                  have hc5 : w7.cell? ⟨pa, 5, none⟩ = some (.int .i64 a.tn) := by rw [cell_of_cells hpa7, HAV.out.1]; rfl
                  have HVV := Lib.hid (And.intro hbx hVV)
                  have H7 := Lib.hid (And.intro hpl7 hst)
                  clear hpl7 hpa7 hbx hVV hst hd7 ht7
                  go_wp2_with (first
                    | (refine wpList_load_row (by rfl) 30 (.tmp 8) (by rfl) pw (by rfl) 30 VV (0, 0) _ HVV.out.1 Try.underlying30 (by rfl) (by rw [HVV.out.2]; exact dm_info) ?_)
                    | (go_at_call 14; refine hrw.mono ?_; clear hrw; rintro _ w8 ⟨rfl, hb8⟩; obtain ⟨VW, hVW⟩ : ∃ VW, VW = dmV (stopM d a.nn a.tn) A7 n7 c7 := ⟨_, rfl⟩; rw [← hVW]; have H8 := Lib.hid (And.intro hb8 hVW); have HBX := Lib.hid ((hb8.block _ (lt_of_cells HVV.out.1)).trans HVV.out.1); clear hb8 hVW)
                    | (refine wpList_store_row (by rfl) 30 (.tmp 8) (.tmp 122) (by rfl) pw VW (by rfl) (by rfl) 30 VV HBX.out (by rw [H8.out.2]; exact dm_info) (by rw [H8.out.2, HVV.out.2]; rfl) (by rw [H8.out.2]; exact dm_one _ _ _ _ _ _) ?_))
                  have hp10 := (H7.out.1.below H8.out.1).store (dR' := stopM d a.nn a.tn) (H7.out.2.below H8.out.1)
                  rw [← H8.out.2] at hp10
                  go_meet
                  exact ⟨stopM d a.nn a.tn, hp10, H5.out.2.2.2.2, HN.out.2.2.below hp10.dsk.bel⟩
                · by_cases hk5 : K = 5
                  · subst hk5
                    have hc4 : w5.cell? ⟨pa, 4, none⟩ = some (.int .i64 a.nn) := by rw [cell_of_cells H5.out.2.1, HAV.out.1]; rfl
                    have hc5 : w5.cell? ⟨pa, 5, none⟩ = some (.int .i64 a.tn) := by rw [cell_of_cells H5.out.2.1, HAV.out.1]; rfl
                    have hsp := H5.out.1.dsk.stop a.nn a.tn HAV.out.2.1.2.2
                    go_upto_region 33 with (go_at_call 13; refine hsp.mono ?_; clear hsp; rintro _ w7 ⟨rfl, hd7, ht7⟩)
                    have hpl7 := H5.out.1.code hd7 ht7
                    have hpa7 := (ht7.block pa (lt_of_cells H5.out.2.1) (by have := H5.out.2.2.2.1; omega)).trans H5.out.2.1
                    obtain ⟨A7, n7, c7, hbx, hst⟩ := hpl7.box
                    obtain ⟨VV, hVV⟩ : ∃ VV, VV = dmV d A7 n7 c7 := ⟨_, rfl⟩
                    have hrw := rbstop_any d A7 n7 c7 a.nn a.tn w7
                    rw [← hVV] at hrw hbx
                    have hc4 : w7.cell? ⟨pa, 4, none⟩ = some (.int .i64 a.nn) := by rw [cell_of_cells hpa7, HAV.out.1]; rfl
                    have hc5 : w7.cell? ⟨pa, 5, none⟩ = some (.int .i64 a.tn) := by rw [cell_of_cells hpa7, HAV.out.1]; rfl
                    have HVV := Lib.hid (And.intro hbx hVV)
                    have H7 := Lib.hid (And.intro hpl7 hst)
                    clear hpl7 hpa7 hbx hVV hst hd7 ht7
                    go_wp2_with (first
                      | (refine wpList_load_row (by rfl) 30 (.tmp 8) (by rfl) pw (by rfl) 30 VV (0, 0) _ HVV.out.1 Try.underlying30 (by rfl) (by rw [HVV.out.2]; exact dm_info) ?_)
                      | (go_at_call 14; refine hrw.mono ?_; clear hrw; rintro _ w8 ⟨rfl, hb8⟩; obtain ⟨VW, hVW⟩ : ∃ VW, VW = dmV (stopM d a.nn a.tn) A7 n7 c7 := ⟨_, rfl⟩; rw [← hVW]; have H8 := Lib.hid (And.intro hb8 hVW); have HBX := Lib.hid ((hb8.block _ (lt_of_cells HVV.out.1)).trans HVV.out.1); clear hb8 hVW)
                      | (refine wpList_store_row (by rfl) 30 (.tmp 8) (.tmp 122) (by rfl) pw VW (by rfl) (by rfl) 30 VV HBX.out (by rw [H8.out.2]; exact dm_info) (by rw [H8.out.2, HVV.out.2]; rfl) (by rw [H8.out.2]; exact dm_one _ _ _ _ _ _) ?_))
                    have hp10 := (H7.out.1.below H8.out.1).store (dR' := stopM d a.nn a.tn) (H7.out.2.below H8.out.1)
                    rw [← H8.out.2] at hp10
                    go_meet
                    exact ⟨stopM d a.nn a.tn, hp10, H5.out.2.2.2.2, HN.out.2.2.below hp10.dsk.bel⟩
                  · by_cases hk6 : K = 6
                    · subst hk6
                      have hc1 : w5.cell? ⟨pa, 1, none⟩ = some (.int .i64 a.i) := by rw [cell_of_cells H5.out.2.1, HAV.out.1]; rfl
                      have hrd := H5.out.1.dsk.read a.i
                      obtain ⟨BR, eR, hRM⟩ : ∃ BR eR, readM d a.i = (BR, eR) := ⟨_, _, rfl⟩
                      rw [hRM] at hrd
                      simp only at hrd
                      go_upto_region 36 with (go_at_call 15; refine hrd.mono ?_; clear hrd; rintro _ w7 ⟨A6, n6, c6, rfl, hy6, hd7, hb7, _⟩)
                      have hpl7 := H5.out.1.below hb7
                      have hpa7 := (hb7.block pa (lt_of_cells H5.out.2.1)).trans H5.out.2.1
                      obtain ⟨A7, n7, c7, hbx, hst⟩ := hpl7.box
                      obtain ⟨VV, hVV⟩ : ∃ VV, VV = dmV d A7 n7 c7 := ⟨_, rfl⟩
                      have hrw := rbread_any hst a.i
                      rw [← hVV, hRM] at hrw
                      rw [← hVV] at hbx
                      simp only at hrw
                      have hc1 : w7.cell? ⟨pa, 1, none⟩ = some (.int .i64 a.i) := by rw [cell_of_cells hpa7, HAV.out.1]; rfl
                      have HVV := Lib.hid (And.intro hbx hVV)
                      have H7 := Lib.hid (And.intro hpl7 hy6)
                      clear hpl7 hpa7 hbx hVV hst hy6 hd7 hb7 hRM
                      generalize hRS : st BR = RS at hrw
                      have HRS := Lib.hid hRS
                      clear hRS
                      go_upto_region 37 with (first
                        | (refine wpList_load_row (by rfl) 30 (.tmp 8) (by rfl) pw (by rfl) 30 VV (0, 0) _ HVV.out.1 Try.underlying30 (by rfl) (by rw [HVV.out.2]; exact dm_info) ?_)
                        | (go_at_call 16; refine hrw.mono ?_; clear hrw; rintro _ w8 ⟨rfl, hb8⟩))
                      have hcv := byt_string (H7.out.2.below hb8)
                      rw [show (⟨BR.toArray⟩ : ByteArray) = RS from HRS.out] at hcv
                      have hp8 := Lib.hid (H7.out.1.below hb8)
                      clear hb8
                      go_wp2_with fail
                      go_meet
                      exact ⟨d, hp8.out, H5.out.2.2.2.2, HN.out.2.2.below hp8.out.dsk.bel⟩
                    · have hsp := H5.out.1.dsk.restart
                      go_upto_region 16 with (go_at_call 17; refine hsp.mono ?_; clear hsp; rintro _ w7 ⟨rfl, hd7, ht7⟩)
                      have hpl7 := H5.out.1.code hd7 ht7
                      obtain ⟨A7, n7, c7, hbx, hst⟩ := hpl7.box
                      obtain ⟨VV, hVV⟩ : ∃ VV, VV = dmV d A7 n7 c7 := ⟨_, rfl⟩
                      have hrw := rbrestart_any d A7 n7 c7 w7
                      rw [← hVV] at hrw hbx
                      have HVV := Lib.hid (And.intro hbx hVV)
                      have H7 := Lib.hid (And.intro hpl7 hst)
                      clear hpl7 hbx hVV hst hd7 ht7
                      go_wp2_with (first
                        | (refine wpList_load_row (by rfl) 30 (.tmp 8) (by rfl) pw (by rfl) 30 VV (0, 0) _ HVV.out.1 Try.underlying30 (by rfl) (by rw [HVV.out.2]; exact dm_info) ?_)
                        | (go_at_call 18; refine hrw.mono ?_; clear hrw; rintro _ w8 ⟨rfl, hb8⟩; obtain ⟨VW, hVW⟩ : ∃ VW, VW = dmV (restartM d) A7 n7 c7 := ⟨_, rfl⟩; rw [← hVW]; have H8 := Lib.hid (And.intro hb8 hVW); have HBX := Lib.hid ((hb8.block _ (lt_of_cells HVV.out.1)).trans HVV.out.1); clear hb8 hVW)
                        | (refine wpList_store_row (by rfl) 30 (.tmp 8) (.tmp 74) (by rfl) pw VW (by rfl) (by rfl) 30 VV HBX.out (by rw [H8.out.2]; exact dm_info) (by rw [H8.out.2, HVV.out.2]; rfl) (by rw [H8.out.2]; exact dm_one _ _ _ _ _ _) ?_))
                      have hp10 := (H7.out.1.below H8.out.1).store (dR' := restartM d) (H7.out.2.below H8.out.1)
                      rw [← H8.out.2] at hp10
                      go_meet
                      exact ⟨restartM d, hp10, H5.out.2.2.2.2, HN.out.2.2.below hp10.dsk.bel⟩
      case rest =>
        obtain ⟨d', hS'⟩ := hcut
        obtain ⟨A5, n5, c5, hbx, hst⟩ := hS'.pl.box
        obtain ⟨VV, hVV⟩ : ∃ VV, VV = dmV d' A5 n5 c5 := ⟨_, rfl⟩
        have hlk := like_any hS'.pl.dsk.dk hst
        rw [← hVV] at hlk hbx
        have HX := Lib.hid (And.intro hS' (And.intro hbx hVV))
        clear hS' hbx hst hVV
        go_wp2_with (first
          | (refine wpList_load_row (by rfl) 30 (.tmp 8) (by rfl) pw (by rfl) 30 VV (0, 0) _ HX.out.2.1 Try.underlying30 (by rfl) (by rw [HX.out.2.2]; exact dm_info) ?_)
          | (go_at_call 19; refine hlk.mono ?_; clear hlk; rintro _ w9 ⟨rfl, hb9⟩))
        have HB9 := Lib.hid hb9
        clear hb9
        go_roundw
        case rel => unfold RPl; exact ⟨i + 1, d', by have := HGO.out; omega, by have := HGO.out; omega, by simp, ⟨HX.out.1.pl.below HB9.out, HX.out.1.few, HX.out.1.acts.below HB9.out⟩⟩
        case measure => simp only [intOf]; have := HGO.out; omega
    · by_cases hlt : i < ns
      · have hlt1 : (i : Int) < (ns : Int) := by omega
        have hlt2 : ¬ (i : Int) < 30 := by omega
        clear hgo hlt
        go_wp2_with fail
        go_ret
        exact ⟨rfl, HR.out.2.2.pl.dsk.bel⟩
      · have hlt1 : ¬ (i : Int) < (ns : Int) := by omega
        clear hgo hlt
        go_wp2_with fail
        go_ret
        exact ⟨rfl, HR.out.2.2.pl.dsk.bel⟩
end Go.Proofs.Ythndpfkgljkpcaa
