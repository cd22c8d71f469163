/-
  The statement WalPlays: its walk.
-/
import Derived.Test.YtkhbmgmppoepjaaWalActs
import Derived.Test.YtkhbmgmppoepjaaWalRefAddAny
import Derived.Test.YtkhbmgmppoepjaaGrow
import Derived.Deep.CutBlock
namespace Go.Proofs.Ytkhbmgmppoepjaa
open Go.RowKit

/-- What stands in the loop. -/
structure RWs (w0 : World) (m g pw pm : Nat) (A : Option Addr) (ns cs : Nat) (l : List WAct) (d : DM) (po : Option Nat) (M : LM) (wr : World) : Prop where
  pl : ∃ R, PW w0 m wr g pw pm d po M R
  len : d.l.length = 10
def RWp (w0 : World) (m g pw pm : Nat) (A : Option Addr) (ns cs : Nat) (l : List WAct) (lg e f i : Value) (wr : World) : Prop := ∃ (i' : Nat) (d : DM) (po : Option Nat) (M : LM) (E : Int), i' ≤ 24 ∧ i' ≤ ns ∧ lg = lgV po ∧ e = .int .i64 E ∧ f = .int .i64 E ∧ i = .int .i64 (i' : Int) ∧ RWs w0 m g pw pm A ns cs l d po M wr
def RW4 (w0 : World) (m g pw pm q pa : Nat) (d : DM) (p : Nat) (M : LM) (R R2 : Nat → Prop) (AV : Array Value) (a : WAct) (w6 : World) (kv : Value) (wx : World) : Prop :=
  ∃ k : Nat, k ≤ 128 ∧ k ≤ a.n ∧ kv = .int .i64 (k : Int) ∧ wx.heap[q]? = some (.cells (u8s (fillL a.b k)).toArray 5 (0, 0)) ∧ PC w0 m wx g d (some p) M R2 ∧ PR m wx pw pm d M R ∧ wx.heap[pa]? = some (.cells AV 43 (0, 0)) ∧ w6.heap.size ≤ wx.heap.size
theorem MadeL.cases {W : World} {g : Nat} {M : LM} {E : Int} {e : Ending} {w' : World} (h : MadeL W g M E e w') : ∃ po, e = .returned (.tuple #[lgV po, .int .i64 E]) ∧ ((E = 0 → ∃ p, po = some p ∧ Lg w' (W.heap.size ≤ ·) p g M) ∧ (E ≠ 0 → po = none)) ∧ Below W.heap.size W w' := by
  obtain ⟨h5, hb⟩ := h
  by_cases hz : E = 0
  · rw [if_pos hz] at h5
    obtain ⟨p, h6, h7⟩ := h5
    exact ⟨some p, by rw [h6, hz]; rfl, ⟨fun _ => ⟨p, rfl, h7⟩, fun h => absurd hz h⟩, hb⟩
  · rw [if_neg hz] at h5
    exact ⟨none, by rw [h5]; rfl, ⟨fun h => absurd h hz, fun _ => rfl⟩, hb⟩
theorem wrap_in_i64 (x : Int) : -9223372036854775808 ≤ IntKind.i64.wrap x ∧ IntKind.i64.wrap x ≤ 9223372036854775807 := by
  rw [IntKind.wrap_i64]
  omega
def wp0 : DM := (newM ((10 : Nat) : Int)).1
theorem wp0_ok : wp0.l.length = 10 ∧ wp0.down = false := by decide +kernel
def dzV : Array Value := #[.slice none 0 0, .int .i64 0, .int .i64 0, .bool false]
def lzV : Array Value := lmV lm0 none 0 0
set_option maxHeartbeats 8000000 in
set_option maxRecDepth 100000 in
theorem wplays_run {w : World} {A : Option Addr} {ns cs : Nat} {l : List WAct} (hacts : WActs w A ns cs l) (from_ n : Int) (least : Nat) (hf : -9223372036854775808 ≤ from_ ∧ from_ ≤ 9223372036854775807) (hn : -9223372036854775808 ≤ n ∧ n ≤ 9223372036854775807) (hls : least < 18446744073709551616) :
    Calls Try.prog 3 #[.int .i64 from_, .int .i64 n, .int .u64 (least : Int), .slice A ns cs] w fun e w' => e = .returned (.bool true) ∧ Below w.heap.size w w' := by
  have haw := wawake_true w
  have HN := Lib.hid (And.intro hacts (And.intro hf (And.intro hn hls)))
  clear hacts hf hn hls
  go_enter Try.func3, Try.ntmps3
  go_upto_region 4 with (go_at_call 9; refine haw.mono ?_; clear haw; rintro _ w1 ⟨rfl, hb1⟩)
  have hnew := Dsk.new hb1 10 (by omega) (by omega)
  clear hb1
  go_upto_region 5 with (go_at_call 10; refine hnew.mono ?_; clear hnew; rintro _ w2 ⟨g, rfl, hd⟩)
  have hd : Dsk w w2.heap.size w2 g wp0 := hd
  obtain ⟨m, hm⟩ : ∃ m, m = w2.heap.size := ⟨_, rfl⟩
  rw [← hm] at hd
  have HD2 := Lib.hid (And.intro hd hm)
  clear hm hd
  have hrn := rbnew_any ((10 : Nat) : Int) w2
  have hr2 : (newM ((10 : Nat) : Int)).2 = 0 := by decide +kernel
  rw [hr2] at hrn
  have hzd : ∀ W, (zeroValue 31).run Try.prog W = .ok (.agg dzV) W := zero_dm
  clear hr2
  go_upto_region 6 with (first
    | (go_at_call 11; refine hrn.mono ?_; clear hrn; rintro _ w3 ⟨A3, n3, c3, rfl, hst, hb3⟩; obtain ⟨VV, hVV⟩ : ∃ VV, VV = dmV wp0 A3 n3 c3 := ⟨_, rfl⟩; rw [show (newM ((10 : Nat) : Int)).1 = wp0 from rfl] at hst; rw [show dmV (newM ((10 : Nat) : Int)).1 A3 n3 c3 = VV by rw [hVV]; rfl]; have H3 := Lib.hid (And.intro hst (And.intro hb3 hVV)); clear hst hb3 hVV)
    | (refine wpList_store_row (by rfl) 31 (.tmp 12) (.tmp 31) (by rfl) w3.heap.size VV (by rfl) (by rfl) 31 dzV (heap_alloc_new w3 _) (by rw [H3.out.2.2]; exact dm_info) (by rw [H3.out.2.2]; rfl) (by rw [H3.out.2.2]; exact dmV_one _ _ _ _) ?_))
  clear hzd
  have hal : Below w3.heap.size w3 ((w3.alloc (.cells dzV 31)).setRow w3.heap.size VV) := below_setRow ((Below.refl _ _).alloc (Nat.le_refl _) _) (Nat.le_refl _) _
  have hbx : ((w3.alloc (.cells dzV 31)).setRow w3.heap.size VV).heap[w3.heap.size]? = some (.cells VV 31 (0, 0)) := setRow_at (heap_alloc_new w3 _)
  have hs4 : ((w3.alloc (.cells dzV 31)).setRow w3.heap.size VV).heap.size = w3.heap.size + 1 := by simp [World.setRow]
  have hd4 := (HD2.out.1.below H3.out.2.1).below hal
  have hst4 := (H3.out.1.mono (T := fun k => (m ≤ k ∧ k < w3.heap.size)) fun k hk h => ⟨by have := HD2.out.2; omega, hk⟩).below hal
  have H4 := Lib.hid (And.intro hd4 (And.intro hbx (And.intro hs4 (And.intro hst4 (And.intro H3.out.2.2 (show m ≤ w3.heap.size by have h1 := HD2.out.2; have h2 := H3.out.2.1.size; omega))))))
  clear hal hbx hs4 hd4 hst4 H3 HD2
  generalize (w3.alloc (.cells dzV 31)).setRow w3.heap.size VV = w4 at *
  generalize w3.heap.size = pw at *
  have hop := wopen_any H4.out.1.dk from_ n HN.out.2.1 HN.out.2.2.1
  obtain ⟨E, hE⟩ : ∃ E, E = openErr wp0.l.length wp0.down from_ n := ⟨_, rfl⟩
  obtain ⟨MO, hMO⟩ : ∃ MO, MO = openM (blocksOf wp0.l from_ n) from_ n := ⟨_, rfl⟩
  rw [← hE, ← hMO] at hop
  have HE := Lib.hid (And.intro hE hMO)
  clear hE hMO
  go_upto_region 7 with (go_at_call 12; refine hop.mono ?_; clear hop; rintro _ w5 h5; obtain ⟨po, rfl, hl5, hb5⟩ := h5.cases)
  have H5 := Lib.hid (And.intro hl5 hb5)
  clear hl5 hb5 h5
  have hvv5 : w5.heap[pw]? = some (.cells VV 31 (0, 0)) := (H5.out.2.block _ (lt_of_cells H4.out.2.1)).trans H4.out.2.1
  have hro := rwopen_any (H4.out.2.2.2.1.below H5.out.2) H4.out.1.dk.ok (by have h1 := H4.out.2.2.2.1.len; have h2 := wp0_ok.1; omega) from_ n
  rw [← H4.out.2.2.2.2.1] at hro
  have hln : n3 = wp0.l.length := H4.out.2.2.2.1.len.symm
  rw [hln, ← HE.out.1] at hro
  unfold OpenPost at hro
  rw [← HE.out.2] at hro
  have hzl : ∀ W, (zeroValue 38).run Try.prog W = .ok (.agg lzV) W := zero_lm
  have HV := Lib.hid hvv5
  clear hvv5 hln
  go_upto_region 8 with (first
    | (refine wpList_load_row (by rfl) 31 (.tmp 12) (by rfl) pw (by rfl) 31 VV (0, 0) _ HV.out Try.underlying31 (by rfl) (by rw [H4.out.2.2.2.2.1]; exact dm_info) ?_)
    | (go_at_call 13; refine hro.mono ?_; clear hro; rintro _ w6 ⟨A6, n6, c6, rfl, hst6, hb6⟩; obtain ⟨M6, hM6⟩ : ∃ M6, M6 = (if E = 0 then MO else lm0) := ⟨_, rfl⟩; rw [← hM6] at hst6 ⊢; obtain ⟨MV, hMV⟩ : ∃ MV, MV = lmV M6 A6 n6 c6 := ⟨_, rfl⟩; rw [← hMV]; have H6 := Lib.hid (And.intro hst6 (And.intro hb6 (And.intro hMV hM6))); clear hst6 hb6 hMV hM6)
    | (refine wpList_store_row (by rfl) 38 (.tmp 16) (.tmp 45) (by rfl) w6.heap.size MV (by rfl) (by rfl) 38 lzV (heap_alloc_new w6 _) (by rw [H6.out.2.2.1]; exact lm_info) (by rw [H6.out.2.2.1]; rfl) (by rw [H6.out.2.2.1]; exact lm_one _ _ _ _) ?_))
  clear hzl
  have hS : RWs w m g pw w6.heap.size A ns cs l wp0 po M6 ((w6.alloc (.cells lzV 38)).setRow w6.heap.size MV) := by
    have hal : Below w6.heap.size w6 ((w6.alloc (.cells lzV 38)).setRow w6.heap.size MV) := below_setRow ((Below.refl _ _).alloc (Nat.le_refl _) _) (Nat.le_refl _) _
    have hbx : ((w6.alloc (.cells lzV 38)).setRow w6.heap.size MV).heap[w6.heap.size]? = some (.cells MV 38 (0, 0)) := setRow_at (heap_alloc_new w6 _)
    have hs7 : ((w6.alloc (.cells lzV 38)).setRow w6.heap.size MV).heap.size = w6.heap.size + 1 := by simp [World.setRow]
    have h6s := H6.out.2.1.size
    have h5s := H5.out.2.size
    have h4s := H4.out.2.2.1
    have hb57 := H6.out.2.1.trans (hal.mono H6.out.2.1.size)
    have hb47 := H5.out.2.trans (hb57.mono H5.out.2.size)
    refine ⟨⟨fun k => (m ≤ k ∧ k ≤ pw) ∨ (w5.heap.size ≤ k ∧ k ≤ w6.heap.size), ?_⟩, wp0_ok.1⟩
    have hM : M6 = if E = 0 then MO else lm0 := H6.out.2.2.2
    refine ⟨H4.out.1.below hb47, fun p hp => ?_, fun k hk => ?_, .inl ⟨H4.out.2.2.2.2.2, Nat.le_refl _⟩, .inr ⟨h6s, Nat.le_refl _⟩, by omega, ⟨A3, n3, c3, ?_, ?_⟩, ⟨A6, n6, c6, ?_, ?_⟩⟩
    · have hz : E = 0 := Classical.byContradiction fun h => by rw [H5.out.1.2 h] at hp; cases hp
      obtain ⟨p', hp', hlp⟩ := H5.out.1.1 hz
      rw [hp'] at hp
      injection hp with hp
      subst hp
      rw [hM, if_pos hz]
      refine ⟨(hlp.mono (T := fun k => m ≤ k ∧ ¬ ((m ≤ k ∧ k ≤ pw) ∨ (w5.heap.size ≤ k ∧ k ≤ w6.heap.size))) fun k hk h => ⟨by have := H4.out.2.2.2.2.2; omega, by omega⟩).below hb57, ?_⟩
      obtain ⟨e1, e2, e3, _⟩ := openErr_range _ _ _ _ (HE.out.1.symm.trans hz)
      rw [wp0_ok.1] at e3
      obtain ⟨f', rfl⟩ := Int.eq_ofNat_of_zero_le e1
      obtain ⟨n', rfl⟩ := Int.eq_ofNat_of_zero_le (show 0 ≤ n by omega)
      rw [HE.out.2]
      exact openM_ok (d := wp0) (by omega) (by omega) (by omega) (by rw [wp0_ok.1]; omega)
    · rw [hs7]
      have := H4.out.2.2.2.2.2
      omega
    · rw [← H4.out.2.2.2.2.1]
      exact (hb47.block _ (lt_of_cells H4.out.2.1)).trans H4.out.2.1
    · exact (H4.out.2.2.2.1.mono (T := fun k => ((m ≤ k ∧ k ≤ pw) ∨ (w5.heap.size ≤ k ∧ k ≤ w6.heap.size)) ∧ k ≠ pw ∧ k ≠ w6.heap.size) fun k hk h => ⟨.inl ⟨h.1, by omega⟩, by omega, by omega⟩).below hb47
    · rw [← H6.out.2.2.1]
      exact hbx
    · exact (H6.out.1.mono (T := fun k => ((m ≤ k ∧ k ≤ pw) ∨ (w5.heap.size ≤ k ∧ k ≤ w6.heap.size)) ∧ k ≠ pw ∧ k ≠ w6.heap.size) fun k hk h => ⟨.inr ⟨h, by omega⟩, by have := H4.out.2.2.2.2.2; omega, by omega⟩).below hal
  have HS := Lib.hid hS
  have hE5 : Hid ((E = 0 → ∃ p, po = some p) ∧ (E ≠ 0 → po = none)) := Lib.hid ⟨fun h => by obtain ⟨p, h1, _⟩ := H5.out.1.1 h; exact ⟨p, h1⟩, H5.out.1.2⟩
  clear hS H4 H5 H6 HV HE
  generalize (w6.alloc (.cells lzV 38)).setRow w6.heap.size MV = w7 at *
  generalize w6.heap.size = pm at *
  by_cases hz : E = 0
  · obtain ⟨p, hp⟩ := hE5.out.1 hz
    subst hp hz
    rw [show lgV (some p) = Value.pointer (some ⟨p, 0, none⟩) from rfl]
    clear hE5
    have H7 : Hid (RWp w m g pw pm A ns cs l (.pointer (some ⟨p, 0, none⟩)) (.int .i64 0) (.int .i64 0) (.int .i64 0) w7) := Lib.hid ⟨0, wp0, some p, M6, 0, by omega, Nat.zero_le _, rfl, rfl, rfl, rfl, HS.out⟩
    clear HS
    go_wp2_with fail
    go_loopw [14, 15, 17, 18] (fun lg e f i wr => RWp w m g pw pm A ns cs l lg e f i wr) (fun _ _ _ i _ => 24 - (intOf i).toNat)
    case atStart => exact H7.out
    case round =>
      obtain ⟨i, d, po, M, E, hi, hins, rfl, rfl, rfl, rfl, hS⟩ := hrel
      have HR := Lib.hid (And.intro hi (And.intro hins hS))
      clear hi hins hS H7
      cases po with
      | none =>
        rw [show lgV none = Value.pointer none from rfl]
        have HB : Hid (Below w.heap.size w wr) := Lib.hid (by obtain ⟨R, hR⟩ := HR.out.2.2.pl; exact hR.dsk.bel)
        by_cases h1 : i < ns
        · have h1' : (i : Int) < (ns : Int) := by omega
          by_cases h2 : i < 24
          · have h2' : (i : Int) < 24 := by omega
            clear h1 h2
            go_wp2_with fail
            go_ret
            exact ⟨rfl, HB.out⟩
          · have h2' : ¬ (i : Int) < 24 := by omega
            clear h1 h2
            go_wp2_with fail
            go_ret
            exact ⟨rfl, HB.out⟩
        · have h1' : ¬ (i : Int) < (ns : Int) := by omega
          clear h1
          go_wp2_with fail
          go_ret
          exact ⟨rfl, HB.out⟩
      | some p =>
        rw [show lgV (some p) = Value.pointer (some ⟨p, 0, none⟩) from rfl]
        by_cases h1 : i < ns
        · have h1' : (i : Int) < (ns : Int) := by omega
          by_cases h2 : i < 24
          · have h2' : (i : Int) < 24 := by omega
            obtain ⟨R, hR⟩ := HR.out.2.2.pl
            have hact := HN.out.1
            obtain ⟨b, off, rfl, hbl, hcl⟩ := hact.row (by omega)
            obtain ⟨a, ha⟩ : ∃ a, l[i]? = some a := ⟨_, List.getElem?_eq_getElem (by have := hact.len; omega)⟩
            have hbd := hact.bnd a (List.mem_of_getElem? ha)
            obtain ⟨AV, hAV⟩ : ∃ AV, AV = wactV a := ⟨_, rfl⟩
            have hcells : ∀ (j : Nat) (v : Value), AV[j]? = some v → wr.cell? ((⟨b, off + i * 5, none⟩ : Addr).add j) = some v := fun j v hv => by
              rw [add_plain]
              exact (hR.dsk.bel.cell (p := ⟨_, _, none⟩) hbl).trans (hcl i a ha j v (by rw [← hAV]; exact hv))
            have HAV := Lib.hid (And.intro hAV (And.intro hbd hcells))
            have hza := zero_wact
            have hadd := IntWalk.i64_in ((i : Int) + 1) (by omega)
            have HGO := Lib.hid (And.intro h1 h2)
            have HP := Lib.hid hR
            clear hact hbl hcl ha hbd hAV hcells hR h1 h2
            go_upto_region 14 with (first
              | (refine wpList_load_at (by rfl) 43 (.tmp 73) (by rfl) ⟨b, off + i * 5, none⟩ (by rfl) AV _ HAV.out.2.2 Try.underlying43 (by rfl) (by rw [HAV.out.1]; exact wact_info) ?_)
              | (refine wpList_store_row (by rfl) 43 (.tmp 19) (.tmp 74) (by rfl) wr.heap.size AV (by rfl) (by rfl) 43 _ (heap_alloc_new wr _) (by rw [HAV.out.1]; exact wact_info) (by rw [HAV.out.1]; rfl) (by rw [HAV.out.1]; exact wact_one _) ?_))
            have hal : Below wr.heap.size wr ((wr.alloc (.cells #[.int .i64 0, .int .i64 0, .slice none 0 0, .int .i64 0, .int .i64 0] 43)).setRow wr.heap.size AV) := below_setRow ((Below.refl _ _).alloc (Nat.le_refl _) _) (Nat.le_refl _) _
            have hpa : ((wr.alloc (.cells #[.int .i64 0, .int .i64 0, .slice none 0 0, .int .i64 0, .int .i64 0] 43)).setRow wr.heap.size AV).heap[wr.heap.size]? = some (.cells AV 43 (0, 0)) := setRow_at (heap_alloc_new wr _)
            have hPA := HP.out.more hal HP.out.dsk.top
            have hpr : moreR wr ((wr.alloc (.cells #[.int .i64 0, .int .i64 0, .slice none 0 0, .int .i64 0, .int .i64 0] 43)).setRow wr.heap.size AV) R wr.heap.size := .inr ⟨Nat.le_refl _, by simp [World.setRow]⟩
            have H5 := Lib.hid (And.intro hPA (And.intro hpa (And.intro hpr (And.intro HP.out.dsk.top (And.intro HR.out.2.2.len (fun h => by have := (HP.out.rb _ h).2; omega : ¬ R wr.heap.size))))))
            clear hal hpa hza hPA hpr
            generalize (wr.alloc (.cells #[.int .i64 0, .int .i64 0, .slice none 0 0, .int .i64 0, .int .i64 0] 43)).setRow wr.heap.size AV = w5 at *
            generalize wr.heap.size = pa at *
            have hc2 : w5.cell? ⟨pa, 2, none⟩ = some (.slice a.A a.n a.c) := by rw [cell_of_cells H5.out.2.1, HAV.out.1]; rfl
            by_cases hbig : 500 < a.n
            · have hbig' : (500 : Int) < (a.n : Int) := by omega
              have HB := Lib.hid H5.out.1.dsk.bel
              clear hbig
              go_wp2_with fail
              go_ret
              exact ⟨rfl, HB.out⟩
            · have hbig' : ¬ (500 : Int) < (a.n : Int) := by omega
              have HBG := Lib.hid (show a.n ≤ 500 by omega)
              clear hbig
              have hc0 : w5.cell? ⟨pa, 0, none⟩ = some (.int .i64 a.kd) := by rw [cell_of_cells H5.out.2.1, HAV.out.1]; rfl
              obtain ⟨K, hK⟩ : ∃ K, K = bits .and .i64 a.kd 7 := ⟨_, rfl⟩
              have hK2 := hK.symm
              clear hK
              go_upto_block 2 with fail
              go_cut [14, 15, 17, 20, 21] from 82 to 194 (fun lg e f _ _ wx => ∃ (d' : DM) (po' : Option Nat) (M' : LM) (E' : Int), lg = lgV po' ∧ e = .int .i64 E' ∧ f = .int .i64 E' ∧ RWs w m g pw pm (some ⟨b, off, none⟩) ns cs l d' po' M' wx)
              case first =>
                by_cases hk0 : K = 0
                · subst hk0
                  as_aux_lemma =>
                    have hadd := H5.out.1.pc.add H5.out.1.rb (HAV.out.2.1.1.below H5.out.1.dsk.bel) (by have := HBG.out; omega)
                    have hlM := (H5.out.1.lg p rfl).2
                    have hdlen := H5.out.2.2.2.2.1
                    obtain ⟨⟨d6, M6, e6⟩, hAM⟩ : ∃ r, addM d M a.b = r := ⟨_, rfl⟩
                    have hl6 : d6.l.length = 10 := by have := addM_len d M a.b; rw [hAM, hdlen] at this; exact this
                    rw [hAM] at hadd
                    simp only at hadd
                    have HAM := Lib.hid (And.intro hAM (And.intro hl6 (And.intro hlM hdlen)))
                    clear hAM hl6 hlM hdlen hc0 hK2
                    go_upto_region 30 with (go_at_call 14; refine hadd.mono ?_; clear hadd; rintro _ w6 ⟨rfl, hpc6, ht6⟩)
                    have hpr6 := H5.out.1.pr.turned ht6 fun k hk h => by
                      rcases hk with hk | hk
                      · have := (H5.out.1.rb k h).1; omega
                      · exact hk.2 h
                    have hpa6 := (ht6.block pa (lt_of_cells H5.out.2.1) (fun hk => by
                      rcases hk with hk | hk
                      · have := H5.out.2.2.2.1; omega
                      · exact hk.2 H5.out.2.2.1)).trans H5.out.2.1
                    obtain ⟨A7, n7, c7, hbx, hst⟩ := hpr6.box
                    obtain ⟨A8, n8, c8, hmx, hms⟩ := hpr6.mox
                    obtain ⟨VV, hVV⟩ : ∃ VV, VV = dmV d A7 n7 c7 := ⟨_, rfl⟩
                    obtain ⟨MV, hMV⟩ : ∃ MV, MV = lmV M A8 n8 c8 := ⟨_, rfl⟩
                    rw [← hVV] at hbx
                    rw [← hMV] at hmx
                    have hc2 : w6.cell? ⟨pa, 2, none⟩ = some (.slice a.A a.n a.c) := by rw [cell_of_cells hpa6, HAV.out.1]; rfl
                    have hcv : (convert 41 9 (.slice a.A a.n a.c)).run Try.prog w6 = .ok (.string (st a.b)) w6 := byt_string (HAV.out.2.1.1.below hpc6.dsk.bel)
                    have hra := rwadd_any hst hms a.b H5.out.1.dsk.dk.ok (by have h1 := hst.len; have h2 := HAM.out.2.2.2; omega) (by have h1 := HAV.out.2.1.1.len; have h2 := HBG.out; omega) HAM.out.2.2.1
                    rw [HAM.out.1, ← hVV, ← hMV] at hra
                    unfold AddPost at hra
                    simp only at hra
                    have H6 := Lib.hid (And.intro hpc6 (And.intro hpr6 (And.intro hbx (And.intro hmx (And.intro hVV hMV)))))
                    clear hpc6 hpr6 hpa6 hbx hmx hVV hMV hst hms ht6
                    go_wp2_with (first
                      | (refine wpList_load_row (by rfl) 31 (.tmp 12) (by rfl) pw (by rfl) 31 VV (0, 0) _ H6.out.2.2.1 Try.underlying31 (by rfl) (by rw [H6.out.2.2.2.2.1]; exact dm_info) ?_)
                      | (refine wpList_load_row (by rfl) 38 (.tmp 16) (by rfl) pm (by rfl) 38 MV (0, 0) _ H6.out.2.2.2.1 Try.underlying38 (by rfl) (by rw [H6.out.2.2.2.2.2]; exact lm_info) ?_)
                      | (go_at_call 15; refine hra.mono ?_; clear hra; rintro _ w7 ⟨AD, cD, AL, nL, cL, rfl, hsd, hsl, hb7⟩; obtain ⟨VW, hVW⟩ : ∃ VW, VW = dmV d6 AD n7 cD := ⟨_, rfl⟩; obtain ⟨MW, hMW⟩ : ∃ MW, MW = lmV M6 AL nL cL := ⟨_, rfl⟩; rw [← hVW, ← hMW]; have H7 := Lib.hid (And.intro hsd (And.intro hsl (And.intro hb7 (And.intro hVW hMW)))); clear hsd hsl hb7 hVW hMW; have HBX := Lib.hid ((H7.out.2.2.1.block _ (lt_of_cells H6.out.2.2.1)).trans H6.out.2.2.1); have HMX := Lib.hid ((setRow_ne w7 pw pm VW (Ne.symm H6.out.2.1.ne)).trans ((H7.out.2.2.1.block _ (lt_of_cells H6.out.2.2.2.1)).trans H6.out.2.2.2.1)))
                      | (refine wpList_store_row (by rfl) 31 (.tmp 12) (.tmp 140) (by rfl) pw VW (by rfl) (by rfl) 31 VV HBX.out (by rw [H7.out.2.2.2.1]; exact dm_info) (by rw [H7.out.2.2.2.1, H6.out.2.2.2.2.1]; rfl) (by rw [H7.out.2.2.2.1]; exact dmV_one _ _ _ _) ?_)
                      | (refine wpList_store_row (by rfl) 38 (.tmp 16) (.tmp 141) (by rfl) pm MW (by rfl) (by rfl) 38 MV HMX.out (by rw [H7.out.2.2.2.2]; exact lm_info) (by rw [H7.out.2.2.2.2, H6.out.2.2.2.2.2]; rfl) (by rw [H7.out.2.2.2.2]; exact lm_one _ _ _ _) ?_))
                    have hpr8 := (H6.out.2.1.more H7.out.2.2.1 H6.out.1.dsk.top).two (d' := d6) (M' := M6) (H7.out.1.mono fun k hk h => by
                      rcases h with h | h
                      · exact ⟨.inl h.1, h.2⟩
                      · exact ⟨.inr ⟨h, hk⟩, by have := lt_of_cells H6.out.2.2.1; omega, by have := lt_of_cells H6.out.2.2.2.1; omega⟩) (H7.out.2.1.mono fun k hk h => by
                      rcases h with h | h
                      · exact ⟨.inl h.1, h.2⟩
                      · exact ⟨.inr ⟨h, hk⟩, by have := lt_of_cells H6.out.2.2.1; omega, by have := lt_of_cells H6.out.2.2.2.1; omega⟩)
                    rw [← H7.out.2.2.2.1, ← H7.out.2.2.2.2] at hpr8
                    have hpc8 := ((H6.out.1.more H7.out.2.2.1).row hpr8.bw (hpr8.rb _ hpr8.bw).1 VW).row hpr8.bm (hpr8.rb _ hpr8.bm).1 MW
                    go_meet
                    exact ⟨d6, some p, M6, e6, rfl, rfl, rfl, ⟨_, hpc8.both hpr8⟩, HAM.out.2.1⟩
                · skip
                  by_cases hk1 : K = 1
                  · subst hk1
                    as_aux_lemma =>
                      have hadd := H5.out.1.pc.add H5.out.1.rb (HAV.out.2.1.1.below H5.out.1.dsk.bel) (by have := HBG.out; omega)
                      have hlM := (H5.out.1.lg p rfl).2
                      have hdlen := H5.out.2.2.2.2.1
                      obtain ⟨⟨d6, M6, e6⟩, hAM⟩ : ∃ r, addM d M a.b = r := ⟨_, rfl⟩
                      have hl6 : d6.l.length = 10 := by have := addM_len d M a.b; rw [hAM, hdlen] at this; exact this
                      rw [hAM] at hadd
                      simp only at hadd
                      have HAM := Lib.hid (And.intro hAM (And.intro hl6 (And.intro hlM hdlen)))
                      clear hAM hl6 hlM hdlen hc0 hK2
                      go_upto_region 30 with (go_at_call 14; refine hadd.mono ?_; clear hadd; rintro _ w6 ⟨rfl, hpc6, ht6⟩)
                      have hpr6 := H5.out.1.pr.turned ht6 fun k hk h => by
                        rcases hk with hk | hk
                        · have := (H5.out.1.rb k h).1; omega
                        · exact hk.2 h
                      have hpa6 := (ht6.block pa (lt_of_cells H5.out.2.1) (fun hk => by
                        rcases hk with hk | hk
                        · have := H5.out.2.2.2.1; omega
                        · exact hk.2 H5.out.2.2.1)).trans H5.out.2.1
                      obtain ⟨A7, n7, c7, hbx, hst⟩ := hpr6.box
                      obtain ⟨A8, n8, c8, hmx, hms⟩ := hpr6.mox
                      obtain ⟨VV, hVV⟩ : ∃ VV, VV = dmV d A7 n7 c7 := ⟨_, rfl⟩
                      obtain ⟨MV, hMV⟩ : ∃ MV, MV = lmV M A8 n8 c8 := ⟨_, rfl⟩
                      rw [← hVV] at hbx
                      rw [← hMV] at hmx
                      have hc2 : w6.cell? ⟨pa, 2, none⟩ = some (.slice a.A a.n a.c) := by rw [cell_of_cells hpa6, HAV.out.1]; rfl
                      have hcv : (convert 41 9 (.slice a.A a.n a.c)).run Try.prog w6 = .ok (.string (st a.b)) w6 := byt_string (HAV.out.2.1.1.below hpc6.dsk.bel)
                      have hra := rwadd_any hst hms a.b H5.out.1.dsk.dk.ok (by have h1 := hst.len; have h2 := HAM.out.2.2.2; omega) (by have h1 := HAV.out.2.1.1.len; have h2 := HBG.out; omega) HAM.out.2.2.1
                      rw [HAM.out.1, ← hVV, ← hMV] at hra
                      unfold AddPost at hra
                      simp only at hra
                      have H6 := Lib.hid (And.intro hpc6 (And.intro hpr6 (And.intro hbx (And.intro hmx (And.intro hVV hMV)))))
                      clear hpc6 hpr6 hpa6 hbx hmx hVV hMV hst hms ht6
                      go_wp2_with (first
                        | (refine wpList_load_row (by rfl) 31 (.tmp 12) (by rfl) pw (by rfl) 31 VV (0, 0) _ H6.out.2.2.1 Try.underlying31 (by rfl) (by rw [H6.out.2.2.2.2.1]; exact dm_info) ?_)
                        | (refine wpList_load_row (by rfl) 38 (.tmp 16) (by rfl) pm (by rfl) 38 MV (0, 0) _ H6.out.2.2.2.1 Try.underlying38 (by rfl) (by rw [H6.out.2.2.2.2.2]; exact lm_info) ?_)
                        | (go_at_call 15; refine hra.mono ?_; clear hra; rintro _ w7 ⟨AD, cD, AL, nL, cL, rfl, hsd, hsl, hb7⟩; obtain ⟨VW, hVW⟩ : ∃ VW, VW = dmV d6 AD n7 cD := ⟨_, rfl⟩; obtain ⟨MW, hMW⟩ : ∃ MW, MW = lmV M6 AL nL cL := ⟨_, rfl⟩; rw [← hVW, ← hMW]; have H7 := Lib.hid (And.intro hsd (And.intro hsl (And.intro hb7 (And.intro hVW hMW)))); clear hsd hsl hb7 hVW hMW; have HBX := Lib.hid ((H7.out.2.2.1.block _ (lt_of_cells H6.out.2.2.1)).trans H6.out.2.2.1); have HMX := Lib.hid ((setRow_ne w7 pw pm VW (Ne.symm H6.out.2.1.ne)).trans ((H7.out.2.2.1.block _ (lt_of_cells H6.out.2.2.2.1)).trans H6.out.2.2.2.1)))
                        | (refine wpList_store_row (by rfl) 31 (.tmp 12) (.tmp 140) (by rfl) pw VW (by rfl) (by rfl) 31 VV HBX.out (by rw [H7.out.2.2.2.1]; exact dm_info) (by rw [H7.out.2.2.2.1, H6.out.2.2.2.2.1]; rfl) (by rw [H7.out.2.2.2.1]; exact dmV_one _ _ _ _) ?_)
                        | (refine wpList_store_row (by rfl) 38 (.tmp 16) (.tmp 141) (by rfl) pm MW (by rfl) (by rfl) 38 MV HMX.out (by rw [H7.out.2.2.2.2]; exact lm_info) (by rw [H7.out.2.2.2.2, H6.out.2.2.2.2.2]; rfl) (by rw [H7.out.2.2.2.2]; exact lm_one _ _ _ _) ?_))
                      have hpr8 := (H6.out.2.1.more H7.out.2.2.1 H6.out.1.dsk.top).two (d' := d6) (M' := M6) (H7.out.1.mono fun k hk h => by
                        rcases h with h | h
                        · exact ⟨.inl h.1, h.2⟩
                        · exact ⟨.inr ⟨h, hk⟩, by have := lt_of_cells H6.out.2.2.1; omega, by have := lt_of_cells H6.out.2.2.2.1; omega⟩) (H7.out.2.1.mono fun k hk h => by
                        rcases h with h | h
                        · exact ⟨.inl h.1, h.2⟩
                        · exact ⟨.inr ⟨h, hk⟩, by have := lt_of_cells H6.out.2.2.1; omega, by have := lt_of_cells H6.out.2.2.2.1; omega⟩)
                      rw [← H7.out.2.2.2.1, ← H7.out.2.2.2.2] at hpr8
                      have hpc8 := ((H6.out.1.more H7.out.2.2.1).row hpr8.bw (hpr8.rb _ hpr8.bw).1 VW).row hpr8.bm (hpr8.rb _ hpr8.bm).1 MW
                      go_meet
                      exact ⟨d6, some p, M6, e6, rfl, rfl, rfl, ⟨_, hpc8.both hpr8⟩, HAM.out.2.1⟩
                  · skip
                    by_cases hk2 : K = 2
                    · subst hk2
                      as_aux_lemma =>
                        have hadd := H5.out.1.pc.add H5.out.1.rb (HAV.out.2.1.1.below H5.out.1.dsk.bel) (by have := HBG.out; omega)
                        have hlM := (H5.out.1.lg p rfl).2
                        have hdlen := H5.out.2.2.2.2.1
                        obtain ⟨⟨d6, M6, e6⟩, hAM⟩ : ∃ r, addM d M a.b = r := ⟨_, rfl⟩
                        have hl6 : d6.l.length = 10 := by have := addM_len d M a.b; rw [hAM, hdlen] at this; exact this
                        rw [hAM] at hadd
                        simp only at hadd
                        have HAM := Lib.hid (And.intro hAM (And.intro hl6 (And.intro hlM hdlen)))
                        clear hAM hl6 hlM hdlen hc0 hK2
                        go_upto_region 30 with (go_at_call 14; refine hadd.mono ?_; clear hadd; rintro _ w6 ⟨rfl, hpc6, ht6⟩)
                        have hpr6 := H5.out.1.pr.turned ht6 fun k hk h => by
                          rcases hk with hk | hk
                          · have := (H5.out.1.rb k h).1; omega
                          · exact hk.2 h
                        have hpa6 := (ht6.block pa (lt_of_cells H5.out.2.1) (fun hk => by
                          rcases hk with hk | hk
                          · have := H5.out.2.2.2.1; omega
                          · exact hk.2 H5.out.2.2.1)).trans H5.out.2.1
                        obtain ⟨A7, n7, c7, hbx, hst⟩ := hpr6.box
                        obtain ⟨A8, n8, c8, hmx, hms⟩ := hpr6.mox
                        obtain ⟨VV, hVV⟩ : ∃ VV, VV = dmV d A7 n7 c7 := ⟨_, rfl⟩
                        obtain ⟨MV, hMV⟩ : ∃ MV, MV = lmV M A8 n8 c8 := ⟨_, rfl⟩
                        rw [← hVV] at hbx
                        rw [← hMV] at hmx
                        have hc2 : w6.cell? ⟨pa, 2, none⟩ = some (.slice a.A a.n a.c) := by rw [cell_of_cells hpa6, HAV.out.1]; rfl
                        have hcv : (convert 41 9 (.slice a.A a.n a.c)).run Try.prog w6 = .ok (.string (st a.b)) w6 := byt_string (HAV.out.2.1.1.below hpc6.dsk.bel)
                        have hra := rwadd_any hst hms a.b H5.out.1.dsk.dk.ok (by have h1 := hst.len; have h2 := HAM.out.2.2.2; omega) (by have h1 := HAV.out.2.1.1.len; have h2 := HBG.out; omega) HAM.out.2.2.1
                        rw [HAM.out.1, ← hVV, ← hMV] at hra
                        unfold AddPost at hra
                        simp only at hra
                        have H6 := Lib.hid (And.intro hpc6 (And.intro hpr6 (And.intro hbx (And.intro hmx (And.intro hVV hMV)))))
                        clear hpc6 hpr6 hpa6 hbx hmx hVV hMV hst hms ht6
                        go_wp2_with (first
                          | (refine wpList_load_row (by rfl) 31 (.tmp 12) (by rfl) pw (by rfl) 31 VV (0, 0) _ H6.out.2.2.1 Try.underlying31 (by rfl) (by rw [H6.out.2.2.2.2.1]; exact dm_info) ?_)
                          | (refine wpList_load_row (by rfl) 38 (.tmp 16) (by rfl) pm (by rfl) 38 MV (0, 0) _ H6.out.2.2.2.1 Try.underlying38 (by rfl) (by rw [H6.out.2.2.2.2.2]; exact lm_info) ?_)
                          | (go_at_call 15; refine hra.mono ?_; clear hra; rintro _ w7 ⟨AD, cD, AL, nL, cL, rfl, hsd, hsl, hb7⟩; obtain ⟨VW, hVW⟩ : ∃ VW, VW = dmV d6 AD n7 cD := ⟨_, rfl⟩; obtain ⟨MW, hMW⟩ : ∃ MW, MW = lmV M6 AL nL cL := ⟨_, rfl⟩; rw [← hVW, ← hMW]; have H7 := Lib.hid (And.intro hsd (And.intro hsl (And.intro hb7 (And.intro hVW hMW)))); clear hsd hsl hb7 hVW hMW; have HBX := Lib.hid ((H7.out.2.2.1.block _ (lt_of_cells H6.out.2.2.1)).trans H6.out.2.2.1); have HMX := Lib.hid ((setRow_ne w7 pw pm VW (Ne.symm H6.out.2.1.ne)).trans ((H7.out.2.2.1.block _ (lt_of_cells H6.out.2.2.2.1)).trans H6.out.2.2.2.1)))
                          | (refine wpList_store_row (by rfl) 31 (.tmp 12) (.tmp 140) (by rfl) pw VW (by rfl) (by rfl) 31 VV HBX.out (by rw [H7.out.2.2.2.1]; exact dm_info) (by rw [H7.out.2.2.2.1, H6.out.2.2.2.2.1]; rfl) (by rw [H7.out.2.2.2.1]; exact dmV_one _ _ _ _) ?_)
                          | (refine wpList_store_row (by rfl) 38 (.tmp 16) (.tmp 141) (by rfl) pm MW (by rfl) (by rfl) 38 MV HMX.out (by rw [H7.out.2.2.2.2]; exact lm_info) (by rw [H7.out.2.2.2.2, H6.out.2.2.2.2.2]; rfl) (by rw [H7.out.2.2.2.2]; exact lm_one _ _ _ _) ?_))
                        have hpr8 := (H6.out.2.1.more H7.out.2.2.1 H6.out.1.dsk.top).two (d' := d6) (M' := M6) (H7.out.1.mono fun k hk h => by
                          rcases h with h | h
                          · exact ⟨.inl h.1, h.2⟩
                          · exact ⟨.inr ⟨h, hk⟩, by have := lt_of_cells H6.out.2.2.1; omega, by have := lt_of_cells H6.out.2.2.2.1; omega⟩) (H7.out.2.1.mono fun k hk h => by
                          rcases h with h | h
                          · exact ⟨.inl h.1, h.2⟩
                          · exact ⟨.inr ⟨h, hk⟩, by have := lt_of_cells H6.out.2.2.1; omega, by have := lt_of_cells H6.out.2.2.2.1; omega⟩)
                        rw [← H7.out.2.2.2.1, ← H7.out.2.2.2.2] at hpr8
                        have hpc8 := ((H6.out.1.more H7.out.2.2.1).row hpr8.bw (hpr8.rb _ hpr8.bw).1 VW).row hpr8.bm (hpr8.rb _ hpr8.bm).1 MW
                        go_meet
                        exact ⟨d6, some p, M6, e6, rfl, rfl, rfl, ⟨_, hpc8.both hpr8⟩, HAM.out.2.1⟩
                    · skip
                      by_cases hk3 : K = 3
                      · subst hk3
                        as_aux_lemma =>
                          have hc3 : w5.cell? ⟨pa, 3, none⟩ = some (.int .i64 a.nn) := by rw [cell_of_cells H5.out.2.1, HAV.out.1]; rfl
                          have hc4 : w5.cell? ⟨pa, 4, none⟩ = some (.int .i64 a.tn) := by rw [cell_of_cells H5.out.2.1, HAV.out.1]; rfl
                          obtain ⟨N3, hN3⟩ : ∃ N3, N3 = bits .and .i64 a.nn 3 := ⟨_, rfl⟩
                          have hN3b : -9223372036854775808 ≤ N3 ∧ N3 ≤ 9223372036854775807 := by rw [hN3]; exact wrap_in_i64 _
                          have hN3' := hN3.symm
                          have hsp := H5.out.1.dsk.stop N3 a.tn hN3b
                          clear hN3 hc0 hc2 hK2
                          go_upto_region 33 with (go_at_call 16; refine hsp.mono ?_; clear hsp; rintro _ w6 ⟨rfl, hd6, ht6⟩)
                          have hpc6 := H5.out.1.pc.disk hd6 ht6
                          have hpr6 := H5.out.1.pr.turned ht6 fun k hk h => by have := (H5.out.1.rb k h).1; omega
                          have hpa6 := (ht6.block pa (lt_of_cells H5.out.2.1) (fun hk => by have := H5.out.2.2.2.1; omega)).trans H5.out.2.1
                          obtain ⟨A7, n7, c7, hbx, hst⟩ := hpr6.box
                          obtain ⟨A8, n8, c8, hmx, hms⟩ := hpr6.mox
                          obtain ⟨VV, hVV⟩ : ∃ VV, VV = dmV d A7 n7 c7 := ⟨_, rfl⟩
                          obtain ⟨MV, hMV⟩ : ∃ MV, MV = lmV M A8 n8 c8 := ⟨_, rfl⟩
                          rw [← hVV] at hbx
                          rw [← hMV] at hmx
                          have hc3 : w6.cell? ⟨pa, 3, none⟩ = some (.int .i64 a.nn) := by rw [cell_of_cells hpa6, HAV.out.1]; rfl
                          have hc4 : w6.cell? ⟨pa, 4, none⟩ = some (.int .i64 a.tn) := by rw [cell_of_cells hpa6, HAV.out.1]; rfl
                          have hrw := rbstop_any d A7 n7 c7 N3 a.tn w6
                          rw [← hVV] at hrw
                          have H6 := Lib.hid (And.intro hpc6 (And.intro hpr6 (And.intro hbx (And.intro hVV hst))))
                          clear hpc6 hpr6 hpa6 hbx hmx hVV hMV hst hms hd6 ht6
                          go_wp2_with (first
                            | (refine wpList_load_row (by rfl) 31 (.tmp 12) (by rfl) pw (by rfl) 31 VV (0, 0) _ H6.out.2.2.1 Try.underlying31 (by rfl) (by rw [H6.out.2.2.2.1]; exact dm_info) ?_)
                            | (go_at_call 17; refine hrw.mono ?_; clear hrw; rintro _ w7 ⟨rfl, hb7⟩; obtain ⟨VW, hVW⟩ : ∃ VW, VW = dmV (stopM d N3 a.tn) A7 n7 c7 := ⟨_, rfl⟩; rw [← hVW]; have H7 := Lib.hid (And.intro hb7 hVW); clear hb7 hVW; have HBX := Lib.hid ((H7.out.1.block _ (lt_of_cells H6.out.2.2.1)).trans H6.out.2.2.1))
                            | (refine wpList_store_row (by rfl) 31 (.tmp 12) (.tmp 158) (by rfl) pw VW (by rfl) (by rfl) 31 VV HBX.out (by rw [H7.out.2]; exact dm_info) (by rw [H7.out.2, H6.out.2.2.2.1]; rfl) (by rw [H7.out.2]; exact dmV_one _ _ _ _) ?_))
                          have hpr8 := (H6.out.2.1.below H7.out.1).disk (d' := stopM d N3 a.tn) (H6.out.2.2.2.2.below H7.out.1)
                          rw [← H7.out.2] at hpr8
                          have hpc8 := (H6.out.1.below H7.out.1).row hpr8.bw (hpr8.rb _ hpr8.bw).1 VW
                          go_meet
                          exact ⟨stopM d N3 a.tn, some p, M, E, rfl, rfl, rfl, ⟨_, hpc8.both hpr8⟩, H5.out.2.2.2.2.1⟩
                      · skip
                        by_cases hk4 : K = 4
                        · subst hk4
                          as_aux_lemma =>
                            have hmk : ∀ w : World, (Instr.makeSlice 41 (.int .i64 128) (.int .i64 128)).run Try.prog w = .ok (.slice (some ⟨w.heap.size, 0, none⟩) 128 128) (w.alloc (.cells (u8s (fillL a.b 0)).toArray 5)) := fun w => by
                              have := make_bytes w 128 (by omega)
                              simpa [fillL] using this
                            clear hc0 hc2 hK2
                            go_upto_region 36 with fail
                            have hb6 : Below w5.heap.size w5 (w5.alloc (.cells (u8s (fillL a.b 0)).toArray 5)) := (Below.refl _ _).alloc (Nat.le_refl _) _
                            have hq6 := heap_alloc_new w5 (.cells (u8s (fillL a.b 0)).toArray 5)
                            have hs6 : (w5.alloc (.cells (u8s (fillL a.b 0)).toArray 5)).heap.size = w5.heap.size + 1 := World.size_alloc _ _
                            have hpc6 := H5.out.1.pc.more hb6
                            have hpr6 := H5.out.1.pr.below hb6
                            have hpa6 := (hb6.block _ (lt_of_cells H5.out.2.1)).trans H5.out.2.1
                            have hR2 : ∀ k, moreR wr w5 R k → moreR w5 (w5.alloc (.cells (u8s (fillL a.b 0)).toArray 5)) (moreR wr w5 R) k := fun k hk => .inl hk
                            have hRq : moreR w5 (w5.alloc (.cells (u8s (fillL a.b 0)).toArray 5)) (moreR wr w5 R) w5.heap.size := .inr ⟨Nat.le_refl _, by rw [hs6]; omega⟩
                            have hR2b : ∀ k, moreR w5 (w5.alloc (.cells (u8s (fillL a.b 0)).toArray 5)) (moreR wr w5 R) k → m ≤ k ∧ k < (w5.alloc (.cells (u8s (fillL a.b 0)).toArray 5)).heap.size := fun k hk => by
                              rcases hk with hk | hk
                              · have := H5.out.1.rb k hk; rw [hs6]; omega
                              · have := H5.out.1.dsk.top; omega
                            obtain ⟨R2, hRe⟩ : ∃ R2, R2 = moreR w5 (w5.alloc (.cells (u8s (fillL a.b 0)).toArray 5)) (moreR wr w5 R) := ⟨_, rfl⟩
                            rw [← hRe] at hpc6 hR2 hRq hR2b
                            have HQ4 := Lib.hid (And.intro H5.out.1.dsk.top (And.intro (fun h => by have := (H5.out.1.rb _ h).2; omega : ¬ moreR wr w5 R w5.heap.size) (And.intro hRq (And.intro hR2 hR2b))))
                            have hpq : pa ≠ w5.heap.size := by have := lt_of_cells H5.out.2.1; omega
                            have HPQ := Lib.hid hpq
                            have H6 := Lib.hid (And.intro hq6 (And.intro hpc6 (And.intro hpr6 hpa6)))
                            clear hmk hb6 hq6 hs6 hpc6 hpr6 hpa6 hR2 hRq hR2b hRe hpq
                            generalize w5.alloc (.cells (u8s (fillL a.b 0)).toArray 5) = w6 at *
                            generalize w5.heap.size = q at *
                            go_wp2_with fail
                            go_loopw [21] (fun kv wx => RW4 w m g pw pm q pa d p M (moreR wr w5 R) R2 AV a w6 kv wx) (fun kv _ => 128 - (intOf kv).toNat)
                            case atStart => exact ⟨0, by omega, Nat.zero_le _, rfl, H6.out.1, H6.out.2.1, H6.out.2.2.1, H6.out.2.2.2, Nat.le_refl _⟩
                            case round =>
                              obtain ⟨k, hk1, hk2, rfl, hqx, hpcx, hprx, hpax, hsx⟩ := hrel
                              have hbl := HAV.out.2.1.1.len
                              have HK4 := Lib.hid (And.intro hqx (And.intro hpcx (And.intro hprx (And.intro hpax (And.intro (show k ≤ a.b.length by omega) hk1)))))
                              have HK5 := Lib.hid hsx
                              have HK6 := Lib.hid hk2
                              clear hqx hpcx hprx hpax hsx hk1 hk2
                              rename World => wx
                              by_cases hlt : k < a.n
                              · have hlt' : (k : Int) < (a.n : Int) := by omega
                                by_cases hl2 : k < 128
                                · have hl2' : (k : Int) < 128 := by omega
                                  obtain ⟨qb, ob, hA, _, hqb, hcb⟩ := HAV.out.2.1.1.row (by omega)
                                  have hcb := hcb k hlt
                                  have hcy : wx.cell? ⟨qb, ob + k, none⟩ = some (.int .u8 ((a.b[k]?.getD 0).toNat : Int)) := (HK4.out.2.1.dsk.bel.cell (p := ⟨_, _, none⟩) hqb).trans hcb
                                  have hc2 : wx.cell? ⟨pa, 2, none⟩ = some (.slice (some ⟨qb, ob, none⟩) a.n a.c) := by rw [cell_of_cells HK4.out.2.2.2.1, HAV.out.1, ← hA]; rfl
                                  have hcq := u8s_cell HK4.out.1 k (by rw [fillL_length HK4.out.2.2.2.2.1 HK4.out.2.2.2.2.2]; exact hl2)
                                  have hfq := free_of_cells HK4.out.1 k
                                  have hset := u8s_cells_set HK4.out.1 k (a.b[k]?.getD 0)
                                  rw [fillL_step (by omega) hl2] at hset
                                  have hadd2 := IntWalk.i64_in ((k : Int) + 1) (by omega)
                                  have HSET := Lib.hid hset
                                  generalize a.b[k]?.getD 0 = y at *
                                  have HL := Lib.hid (And.intro hlt hl2)
                                  clear hA hqb hcb hset hlt hl2 hbl
                                  go_wp2_with fail
                                  go_roundw
                                  case rel => unfold RW4; exact ⟨k + 1, by have := HL.out; omega, by have := HL.out; omega, by simp, HSET.out, HK4.out.2.1.setAt HQ4.out.2.2.1 HQ4.out.1 _ _, HK4.out.2.2.1.setAt HQ4.out.2.1 _ _, (Below.heap_setCell _ _ _ _ HPQ.out).trans HK4.out.2.2.2.1, by have := HK5.out; simpa [World.setCell] using this⟩
                                  case measure => simp only [intOf]; have := HL.out; omega
                                · have hl2' : ¬ (k : Int) < 128 := by omega
                                  have hc2 : wx.cell? ⟨pa, 2, none⟩ = some (.slice a.A a.n a.c) := by rw [cell_of_cells HK4.out.2.2.2.1, HAV.out.1]; rfl
                                  clear hlt hl2 hbl
                                  have hyq := byt_filled' (m := m) HK4.out.1 (fillL_length (b := a.b) (k := k) HK4.out.2.2.2.2.1 HK4.out.2.2.2.2.2) (by omega) HQ4.out.1
                                  obtain ⟨BL, hBL⟩ : ∃ BL, BL = fillL a.b k := ⟨_, rfl⟩
                                  rw [← hBL] at hyq
                                  have hcl : BL.length = 128 := hyq.len
                                  have hwr := HK4.out.2.1.dsk.write hyq a.i
                                  obtain ⟨⟨dW, eW⟩, hWM⟩ : ∃ r, writeM d a.i BL = r := ⟨_, rfl⟩
                                  have hlW : dW.l.length = 10 := by have h1 := writeM_len d a.i BL; rw [hWM, H5.out.2.2.2.2.1] at h1; exact h1
                                  rw [hWM] at hwr
                                  simp only at hwr
                                  have hc1 : wx.cell? ⟨pa, 1, none⟩ = some (.int .i64 a.i) := by rw [cell_of_cells HK4.out.2.2.2.1, HAV.out.1]; rfl
                                  have HW4 := Lib.hid (And.intro hWM (And.intro hlW (And.intro hyq hBL)))
                                  clear hWM hlW hyq hBL hcl
                                  go_upto_region 41 with (go_at_call 18; refine hwr.mono ?_; clear hwr; rintro _ w7 ⟨rfl, hd7, ht7⟩)
                                  have hpc7 := HK4.out.2.1.disk hd7 ht7
                                  have hpr7 := (HK4.out.2.2.1.turned ht7 fun k hk h => by have := (HK4.out.2.2.1.rb k h).1; omega).wide (R' := R2) HQ4.out.2.2.2.1 (fun k hk => ⟨(HQ4.out.2.2.2.2 k hk).1, Nat.lt_of_lt_of_le (HQ4.out.2.2.2.2 k hk).2 (Nat.le_trans HK5.out ht7.size)⟩)
                                  have hpa7 := (ht7.block pa (lt_of_cells HK4.out.2.2.2.1) (fun hk => by have := H5.out.2.2.2.1; omega)).trans HK4.out.2.2.2.1
                                  have hy7 := HW4.out.2.2.1.turned ht7 fun k _ h1 h2 => by omega
                                  obtain ⟨A7, n7, c7, hbx, hst⟩ := hpr7.box
                                  obtain ⟨A8, n8, c8, hmx, hms⟩ := hpr7.mox
                                  obtain ⟨VV, hVV⟩ : ∃ VV, VV = dmV d A7 n7 c7 := ⟨_, rfl⟩
                                  obtain ⟨MV, hMV⟩ : ∃ MV, MV = lmV M A8 n8 c8 := ⟨_, rfl⟩
                                  rw [← hVV] at hbx
                                  rw [← hMV] at hmx
                                  have hc1 : w7.cell? ⟨pa, 1, none⟩ = some (.int .i64 a.i) := by rw [cell_of_cells hpa7, HAV.out.1]; rfl
                                  have hcv : (convert 41 9 (.slice (some ⟨q, 0, none⟩) 128 128)).run Try.prog w7 = .ok (.string (st BL)) w7 := byt_string hy7
                                  have hrw := rbwrite_any hst (by have h1 := hst.len; have h2 := H5.out.2.2.2.2.1; omega) H5.out.1.dsk.dk.ok a.i BL
                                  rw [HW4.out.1, ← hVV] at hrw
                                  simp only at hrw
                                  have H7 := Lib.hid (And.intro hpc7 (And.intro hpr7 (And.intro hbx (And.intro hVV hmx))))
                                  clear hpc7 hpr7 hpa7 hy7 hbx hmx hVV hMV hst hms hd7 ht7
                                  go_wp2_with (first
                                    | (refine wpList_load_row (by rfl) 31 (.tmp 12) (by rfl) pw (by rfl) 31 VV (0, 0) _ H7.out.2.2.1 Try.underlying31 (by rfl) (by rw [H7.out.2.2.2.1]; exact dm_info) ?_)
                                    | (go_at_call 19; refine hrw.mono ?_; clear hrw; rintro _ w8 ⟨AW, cW, rfl, hsW, hb8⟩; obtain ⟨VW, hVW⟩ : ∃ VW, VW = dmV dW AW n7 cW := ⟨_, rfl⟩; rw [← hVW]; have H8 := Lib.hid (And.intro hsW (And.intro hb8 hVW)); clear hsW hb8 hVW; have HBX := Lib.hid ((H8.out.2.1.block _ (lt_of_cells H7.out.2.2.1)).trans H7.out.2.2.1))
                                    | (refine wpList_store_row (by rfl) 31 (.tmp 12) (.tmp 193) (by rfl) pw VW (by rfl) (by rfl) 31 VV HBX.out (by rw [H8.out.2.2]; exact dm_info) (by rw [H8.out.2.2, H7.out.2.2.2.1]; rfl) (by rw [H8.out.2.2]; exact dmV_one _ _ _ _) ?_))
                                  have hpr9 := (H7.out.2.1.more H8.out.2.1 H7.out.1.dsk.top).disk (d' := dW) (H8.out.1.mono fun k hk h => by
                                    rcases h with h | h
                                    · exact ⟨.inl h.1, h.2⟩
                                    · exact ⟨.inr ⟨h, hk⟩, by have := lt_of_cells H7.out.2.2.1; omega, by have := lt_of_cells H7.out.2.2.2.2; omega⟩)
                                  rw [← H8.out.2.2] at hpr9
                                  have hpc9 := (H7.out.1.more H8.out.2.1).row hpr9.bw (hpr9.rb _ hpr9.bw).1 VW
                                  go_meet
                                  exact ⟨dW, some p, M, eW, rfl, rfl, rfl, ⟨_, hpc9.both hpr9⟩, HW4.out.2.1⟩
                              · have hlt' : ¬ (k : Int) < (a.n : Int) := by omega
                                have hc2 : wx.cell? ⟨pa, 2, none⟩ = some (.slice a.A a.n a.c) := by rw [cell_of_cells HK4.out.2.2.2.1, HAV.out.1]; rfl
                                clear hlt hbl
                                have hyq := byt_filled' (m := m) HK4.out.1 (fillL_length (b := a.b) (k := k) HK4.out.2.2.2.2.1 HK4.out.2.2.2.2.2) (by omega) HQ4.out.1
                                obtain ⟨BL, hBL⟩ : ∃ BL, BL = fillL a.b k := ⟨_, rfl⟩
                                rw [← hBL] at hyq
                                have hcl : BL.length = 128 := hyq.len
                                have hwr := HK4.out.2.1.dsk.write hyq a.i
                                obtain ⟨⟨dW, eW⟩, hWM⟩ : ∃ r, writeM d a.i BL = r := ⟨_, rfl⟩
                                have hlW : dW.l.length = 10 := by have h1 := writeM_len d a.i BL; rw [hWM, H5.out.2.2.2.2.1] at h1; exact h1
                                rw [hWM] at hwr
                                simp only at hwr
                                have hc1 : wx.cell? ⟨pa, 1, none⟩ = some (.int .i64 a.i) := by rw [cell_of_cells HK4.out.2.2.2.1, HAV.out.1]; rfl
                                have HW4 := Lib.hid (And.intro hWM (And.intro hlW (And.intro hyq hBL)))
                                clear hWM hlW hyq hBL hcl
                                go_upto_region 41 with (go_at_call 18; refine hwr.mono ?_; clear hwr; rintro _ w7 ⟨rfl, hd7, ht7⟩)
                                have hpc7 := HK4.out.2.1.disk hd7 ht7
                                have hpr7 := (HK4.out.2.2.1.turned ht7 fun k hk h => by have := (HK4.out.2.2.1.rb k h).1; omega).wide (R' := R2) HQ4.out.2.2.2.1 (fun k hk => ⟨(HQ4.out.2.2.2.2 k hk).1, Nat.lt_of_lt_of_le (HQ4.out.2.2.2.2 k hk).2 (Nat.le_trans HK5.out ht7.size)⟩)
                                have hpa7 := (ht7.block pa (lt_of_cells HK4.out.2.2.2.1) (fun hk => by have := H5.out.2.2.2.1; omega)).trans HK4.out.2.2.2.1
                                have hy7 := HW4.out.2.2.1.turned ht7 fun k _ h1 h2 => by omega
                                obtain ⟨A7, n7, c7, hbx, hst⟩ := hpr7.box
                                obtain ⟨A8, n8, c8, hmx, hms⟩ := hpr7.mox
                                obtain ⟨VV, hVV⟩ : ∃ VV, VV = dmV d A7 n7 c7 := ⟨_, rfl⟩
                                obtain ⟨MV, hMV⟩ : ∃ MV, MV = lmV M A8 n8 c8 := ⟨_, rfl⟩
                                rw [← hVV] at hbx
                                rw [← hMV] at hmx
                                have hc1 : w7.cell? ⟨pa, 1, none⟩ = some (.int .i64 a.i) := by rw [cell_of_cells hpa7, HAV.out.1]; rfl
                                have hcv : (convert 41 9 (.slice (some ⟨q, 0, none⟩) 128 128)).run Try.prog w7 = .ok (.string (st BL)) w7 := byt_string hy7
                                have hrw := rbwrite_any hst (by have h1 := hst.len; have h2 := H5.out.2.2.2.2.1; omega) H5.out.1.dsk.dk.ok a.i BL
                                rw [HW4.out.1, ← hVV] at hrw
                                simp only at hrw
                                have H7 := Lib.hid (And.intro hpc7 (And.intro hpr7 (And.intro hbx (And.intro hVV hmx))))
                                clear hpc7 hpr7 hpa7 hy7 hbx hmx hVV hMV hst hms hd7 ht7
                                go_wp2_with (first
                                  | (refine wpList_load_row (by rfl) 31 (.tmp 12) (by rfl) pw (by rfl) 31 VV (0, 0) _ H7.out.2.2.1 Try.underlying31 (by rfl) (by rw [H7.out.2.2.2.1]; exact dm_info) ?_)
                                  | (go_at_call 19; refine hrw.mono ?_; clear hrw; rintro _ w8 ⟨AW, cW, rfl, hsW, hb8⟩; obtain ⟨VW, hVW⟩ : ∃ VW, VW = dmV dW AW n7 cW := ⟨_, rfl⟩; rw [← hVW]; have H8 := Lib.hid (And.intro hsW (And.intro hb8 hVW)); clear hsW hb8 hVW; have HBX := Lib.hid ((H8.out.2.1.block _ (lt_of_cells H7.out.2.2.1)).trans H7.out.2.2.1))
                                  | (refine wpList_store_row (by rfl) 31 (.tmp 12) (.tmp 193) (by rfl) pw VW (by rfl) (by rfl) 31 VV HBX.out (by rw [H8.out.2.2]; exact dm_info) (by rw [H8.out.2.2, H7.out.2.2.2.1]; rfl) (by rw [H8.out.2.2]; exact dmV_one _ _ _ _) ?_))
                                have hpr9 := (H7.out.2.1.more H8.out.2.1 H7.out.1.dsk.top).disk (d' := dW) (H8.out.1.mono fun k hk h => by
                                  rcases h with h | h
                                  · exact ⟨.inl h.1, h.2⟩
                                  · exact ⟨.inr ⟨h, hk⟩, by have := lt_of_cells H7.out.2.2.1; omega, by have := lt_of_cells H7.out.2.2.2.2; omega⟩)
                                rw [← H8.out.2.2] at hpr9
                                have hpc9 := (H7.out.1.more H8.out.2.1).row hpr9.bw (hpr9.rb _ hpr9.bw).1 VW
                                go_meet
                                exact ⟨dW, some p, M, eW, rfl, rfl, rfl, ⟨_, hpc9.both hpr9⟩, HW4.out.2.1⟩
                        · skip
                          by_cases hk7 : K = 7
                          · subst hk7
                            as_aux_lemma =>
                              have hbg := wbegin_any H5.out.1.dsk.dk from_ n HN.out.2.1 HN.out.2.2.1 least HN.out.2.2.2
                              have hdlen := H5.out.2.2.2.2.1
                              obtain ⟨EB, hEB⟩ : ∃ EB, EB = openErr d.l.length d.down from_ n := ⟨_, rfl⟩
                              obtain ⟨MB, hMB⟩ : ∃ MB, MB = beginM (openM (blocksOf d.l from_ n) from_ n) from_ n least := ⟨_, rfl⟩
                              rw [← hEB, ← hMB] at hbg
                              have hokB : EB = 0 → MB.Ok := fun hz => by
                                obtain ⟨e1, e2, e3, _⟩ := openErr_range _ _ _ _ (hEB.symm.trans hz)
                                rw [hdlen] at e3
                                obtain ⟨f', hf'⟩ := Int.eq_ofNat_of_zero_le e1
                                obtain ⟨n', hn'⟩ := Int.eq_ofNat_of_zero_le (show 0 ≤ n by omega)
                                rw [hMB, hf', hn']
                                exact beginM_ok (openM_ok (d := d) (by omega) (by omega) (by omega) (by rw [hdlen]; omega)) rfl rfl HN.out.2.2.2
                              have HE := Lib.hid (And.intro hEB (And.intro hMB hokB))
                              clear hEB hMB hokB
                              go_upto_region 19 with (go_at_call 20; refine hbg.mono ?_; clear hbg; rintro _ w6 h6; obtain ⟨pq, rfl, hl6, hb6⟩ := h6.cases; clear h6)
                              have hpr6 := H5.out.1.pr.below hb6
                              have hd6 := H5.out.1.dsk.below hb6
                              obtain ⟨A7, n7, c7, hbx, hst⟩ := hpr6.box
                              obtain ⟨A8, n8, c8, hmx, hms⟩ := hpr6.mox
                              obtain ⟨VV, hVV⟩ : ∃ VV, VV = dmV d A7 n7 c7 := ⟨_, rfl⟩
                              obtain ⟨MV, hMV⟩ : ∃ MV, MV = lmV M A8 n8 c8 := ⟨_, rfl⟩
                              rw [← hVV] at hbx
                              rw [← hMV] at hmx
                              have hra := rwbegin_any hst H5.out.1.dsk.dk.ok (by have h1 := hst.len; omega) from_ n least
                              rw [show n7 = d.l.length from hst.len.symm, ← HE.out.1] at hra
                              unfold BeginPost at hra
                              rw [← HE.out.2.1] at hra
                              rw [show dmV d A7 d.l.length c7 = VV by rw [hVV, ← hst.len]] at hra
                              have H6 := Lib.hid (And.intro hd6 (And.intro hpr6 (And.intro hbx (And.intro hmx (And.intro hVV (And.intro hMV (And.intro hl6 hb6)))))))
                              clear hd6 hpr6 hbx hmx hVV hMV hst hms hl6 hb6 hdlen hc0 hc2 hK2
                              go_upto_region 24 with (first
                                | (refine wpList_load_row (by rfl) 31 (.tmp 12) (by rfl) pw (by rfl) 31 VV (0, 0) _ H6.out.2.2.1 Try.underlying31 (by rfl) (by rw [H6.out.2.2.2.2.1]; exact dm_info) ?_)
                                | (go_at_call 21; refine hra.mono ?_; clear hra; rintro _ w7 ⟨rfl, hb7⟩; obtain ⟨MW, hMW⟩ : ∃ MW, MW = lmV (if EB = 0 then MB else lm0) none 0 0 := ⟨_, rfl⟩; rw [← hMW]; have H7 := Lib.hid (And.intro hb7 hMW); clear hb7 hMW; have HMX := Lib.hid ((H7.out.1.block _ (lt_of_cells H6.out.2.2.2.1)).trans H6.out.2.2.2.1))
                                | (refine wpList_store_row (by rfl) 38 (.tmp 16) (.tmp 100) (by rfl) pm MW (by rfl) (by rfl) 38 MV HMX.out (by rw [H7.out.2]; exact lm_info) (by rw [H7.out.2, H6.out.2.2.2.2.2.1]; rfl) (by rw [H7.out.2]; exact lm_one _ _ _ _) ?_))
                              have hnl : (if EB = 0 then MB else lm0).l = [] := by split <;> simp [HE.out.2.1, beginM, lm0]
                              have hpr8 := (H6.out.2.1.below H7.out.1).log (M' := if EB = 0 then MB else lm0) (A := none) (n := 0) (c := 0) (by rw [hnl]; exact Strs.nil _ _ _ _ (Nat.zero_le _))
                              rw [← H7.out.2] at hpr8
                              have hpc8 : PC w m (w7.setRow pm MW) g d pq (if EB = 0 then MB else lm0) _ := (PC.below (show PC w m w6 g d pq (if EB = 0 then MB else lm0) _ from ⟨H6.out.1, fun q hq => by
                                have hz : EB = 0 := Classical.byContradiction fun h => by rw [H6.out.2.2.2.2.2.2.1.2 h] at hq; cases hq
                                obtain ⟨p', hp', hlp⟩ := H6.out.2.2.2.2.2.2.1.1 hz
                                rw [hp'] at hq
                                injection hq with hq
                                subst hq
                                rw [if_pos hz]
                                exact ⟨hlp.mono fun k _ hk => ⟨by have := H5.out.1.dsk.top; omega, fun h => by have := (H5.out.1.rb k h).2; omega⟩, HE.out.2.2 hz⟩⟩) H7.out.1).row hpr8.bm (hpr8.rb _ hpr8.bm).1 MW
                              have HF := Lib.hid (show RWs w m g pw pm (some ⟨b, off, none⟩) ns cs l d pq (if EB = 0 then MB else lm0) (w7.setRow pm MW) from ⟨⟨_, hpc8.both hpr8⟩, H5.out.2.2.2.2.1⟩)
                              have HQ := Lib.hid (show (EB = 0 → ∃ p', pq = some p') ∧ (EB ≠ 0 → pq = none) from ⟨fun h => by obtain ⟨p', h1, _⟩ := H6.out.2.2.2.2.2.2.1.1 h; exact ⟨p', h1⟩, H6.out.2.2.2.2.2.2.1.2⟩)
                              clear hpr8 hpc8 hnl H6 H7 HMX
                              by_cases hz : EB = 0
                              · obtain ⟨p', hp'⟩ := HQ.out.1 hz
                                subst hp'
                                have hzc : (EB != 0) = false := by simpa using hz
                                rw [show lgV (some p') = Value.pointer (some ⟨p', 0, none⟩) from rfl]
                                clear hz
                                go_wp2_with fail
                                go_meet
                                exact ⟨d, some p', if EB = 0 then MB else lm0, EB, rfl, rfl, rfl, HF.out⟩
                              · have hp' := HQ.out.2 hz
                                subst hp'
                                have hzc : (EB != 0) = true := by simpa using hz
                                rw [show lgV none = Value.pointer none from rfl]
                                clear hz
                                go_wp2_with fail
                                go_meet
                                exact ⟨d, none, if EB = 0 then MB else lm0, EB, rfl, rfl, rfl, HF.out⟩
                          · as_aux_lemma =>
                              have hk7' : (K == 7) = false := by simpa using hk7
                              have hsp := H5.out.1.dsk.restart
                              go_upto_region 21 with (go_at_call 22; refine hsp.mono ?_; clear hsp; rintro _ w6 ⟨rfl, hd6, ht6⟩)
                              have hpc6 := H5.out.1.pc.disk hd6 ht6
                              have hpr6 := H5.out.1.pr.turned ht6 fun k hk h => by have := (H5.out.1.rb k h).1; omega
                              obtain ⟨A7, n7, c7, hbx, hst⟩ := hpr6.box
                              obtain ⟨A8, n8, c8, hmx, hms⟩ := hpr6.mox
                              obtain ⟨VV, hVV⟩ : ∃ VV, VV = dmV d A7 n7 c7 := ⟨_, rfl⟩
                              obtain ⟨MV, hMV⟩ : ∃ MV, MV = lmV M A8 n8 c8 := ⟨_, rfl⟩
                              rw [← hVV] at hbx
                              rw [← hMV] at hmx
                              have hrw := rbrestart_any d A7 n7 c7 w6
                              rw [← hVV] at hrw
                              have H6 := Lib.hid (And.intro hpc6 (And.intro hpr6 (And.intro hbx (And.intro hVV hst))))
                              clear hpc6 hpr6 hbx hmx hVV hMV hst hms hd6 ht6 hc0 hc2 hK2 hk7'
                              go_upto_region 22 with (first
                                | (refine wpList_load_row (by rfl) 31 (.tmp 12) (by rfl) pw (by rfl) 31 VV (0, 0) _ H6.out.2.2.1 Try.underlying31 (by rfl) (by rw [H6.out.2.2.2.1]; exact dm_info) ?_)
                                | (go_at_call 23; refine hrw.mono ?_; clear hrw; rintro _ w7 ⟨rfl, hb7⟩; obtain ⟨VW, hVW⟩ : ∃ VW, VW = dmV (restartM d) A7 n7 c7 := ⟨_, rfl⟩; rw [← hVW]; have H7 := Lib.hid (And.intro hb7 hVW); clear hb7 hVW; have HBX := Lib.hid ((H7.out.1.block _ (lt_of_cells H6.out.2.2.1)).trans H6.out.2.2.1))
                                | (refine wpList_store_row (by rfl) 31 (.tmp 12) (.tmp 105) (by rfl) pw VW (by rfl) (by rfl) 31 VV HBX.out (by rw [H7.out.2]; exact dm_info) (by rw [H7.out.2, H6.out.2.2.2.1]; rfl) (by rw [H7.out.2]; exact dmV_one _ _ _ _) ?_))
                              have hpr8 := (H6.out.2.1.below H7.out.1).disk (d' := restartM d) (H6.out.2.2.2.2.below H7.out.1)
                              rw [← H7.out.2] at hpr8
                              have hpc8 := (H6.out.1.below H7.out.1).row hpr8.bw (hpr8.rb _ hpr8.bw).1 VW
                              have hdl : (restartM d).l.length = 10 := H5.out.2.2.2.2.1
                              generalize restartM d = dR at *
                              have H8 := Lib.hid (And.intro hpc8 (And.intro hpr8 hdl))
                              clear hpr8 hpc8 hdl H6 H7 HBX
                              generalize w7.setRow pw VW = w8 at *
                              have hop := wopen_any H8.out.1.dsk.dk from_ n HN.out.2.1 HN.out.2.2.1
                              obtain ⟨EB, hEB⟩ : ∃ EB, EB = openErr dR.l.length dR.down from_ n := ⟨_, rfl⟩
                              obtain ⟨MB, hMB⟩ : ∃ MB, MB = openM (blocksOf dR.l from_ n) from_ n := ⟨_, rfl⟩
                              rw [← hEB, ← hMB] at hop
                              have hokB : EB = 0 → MB.Ok := fun hz => by
                                obtain ⟨e1, e2, e3, _⟩ := openErr_range _ _ _ _ (hEB.symm.trans hz)
                                rw [H8.out.2.2] at e3
                                obtain ⟨f', hf'⟩ := Int.eq_ofNat_of_zero_le e1
                                obtain ⟨n', hn'⟩ := Int.eq_ofNat_of_zero_le (show 0 ≤ n by omega)
                                rw [hMB, hf', hn']
                                exact openM_ok (d := dR) (by omega) (by omega) (by omega) (by rw [H8.out.2.2]; omega)
                              have HE := Lib.hid (And.intro hEB (And.intro hMB hokB))
                              clear hEB hMB hokB
                              go_upto_region 23 with (go_at_call 12; refine hop.mono ?_; clear hop; rintro _ w9 h9; obtain ⟨pq, rfl, hl9, hb9⟩ := h9.cases; clear h9)
                              have hpr9 := H8.out.2.1.below hb9
                              have hd9 := H8.out.1.dsk.below hb9
                              obtain ⟨A7, n7, c7, hbx, hst⟩ := hpr9.box
                              obtain ⟨A8, n8, c8, hmx, hms⟩ := hpr9.mox
                              obtain ⟨V9, hV9⟩ : ∃ V9, V9 = dmV dR A7 n7 c7 := ⟨_, rfl⟩
                              obtain ⟨MV, hMV⟩ : ∃ MV, MV = lmV M A8 n8 c8 := ⟨_, rfl⟩
                              rw [← hV9] at hbx
                              rw [← hMV] at hmx
                              have hra := rwopen_any hst H8.out.1.dsk.dk.ok (by have h1 := hst.len; have h2 := H8.out.2.2; omega) from_ n
                              rw [show n7 = dR.l.length from hst.len.symm, ← HE.out.1] at hra
                              unfold OpenPost at hra
                              rw [← HE.out.2.1] at hra
                              rw [show dmV dR A7 dR.l.length c7 = V9 by rw [hV9, ← hst.len]] at hra
                              have H9 := Lib.hid (And.intro hd9 (And.intro hpr9 (And.intro hbx (And.intro hmx (And.intro hV9 (And.intro hMV (And.intro hl9 hb9)))))))
                              clear hd9 hpr9 hbx hmx hV9 hMV hst hms hl9 hb9
                              go_upto_region 24 with (first
                                | (refine wpList_load_row (by rfl) 31 (.tmp 12) (by rfl) pw (by rfl) 31 V9 (0, 0) _ H9.out.2.2.1 Try.underlying31 (by rfl) (by rw [H9.out.2.2.2.2.1]; exact dm_info) ?_)
                                | (go_at_call 13; refine hra.mono ?_; clear hra; rintro _ w10 ⟨AQ, nQ, cQ, rfl, hsQ, hb10⟩; obtain ⟨MW, hMW⟩ : ∃ MW, MW = lmV (if EB = 0 then MB else lm0) AQ nQ cQ := ⟨_, rfl⟩; rw [← hMW]; have H10 := Lib.hid (And.intro hsQ (And.intro hb10 hMW)); clear hsQ hb10 hMW; have HMX := Lib.hid ((H10.out.2.1.block _ (lt_of_cells H9.out.2.2.2.1)).trans H9.out.2.2.2.1))
                                | (refine wpList_store_row (by rfl) 38 (.tmp 16) (.tmp 118) (by rfl) pm MW (by rfl) (by rfl) 38 MV HMX.out (by rw [H10.out.2.2]; exact lm_info) (by rw [H10.out.2.2, H9.out.2.2.2.2.2.1]; rfl) (by rw [H10.out.2.2]; exact lm_one _ _ _ _) ?_))
                              have htop9 : m ≤ w9.heap.size := H9.out.1.top
                              have hpr11 := (H9.out.2.1.more H10.out.2.1 htop9).log (M' := if EB = 0 then MB else lm0) (H10.out.1.mono fun k hk h => ⟨.inr ⟨h, hk⟩, by have := lt_of_cells H9.out.2.2.1; omega, by have := lt_of_cells H9.out.2.2.2.1; omega⟩)
                              rw [← H10.out.2.2] at hpr11
                              have hpc9 : PC w m w9 g dR pq (if EB = 0 then MB else lm0) _ := ⟨H9.out.1, fun q hq => by
                                have hz : EB = 0 := Classical.byContradiction fun h => by rw [H9.out.2.2.2.2.2.2.1.2 h] at hq; cases hq
                                obtain ⟨p', hp', hlp⟩ := H9.out.2.2.2.2.2.2.1.1 hz
                                rw [hp'] at hq
                                injection hq with hq
                                subst hq
                                rw [if_pos hz]
                                exact ⟨hlp.mono fun k _ hk => ⟨by have := H8.out.1.dsk.top; omega, fun h => by have := (H8.out.2.1.rb k h).2; omega⟩, HE.out.2.2 hz⟩⟩
                              have hpc11 := (hpc9.more H10.out.2.1).row hpr11.bm (hpr11.rb _ hpr11.bm).1 MW
                              have HF := Lib.hid (show RWs w m g pw pm (some ⟨b, off, none⟩) ns cs l dR pq (if EB = 0 then MB else lm0) (w10.setRow pm MW) from ⟨⟨_, hpc11.both hpr11⟩, H8.out.2.2⟩)
                              have HQ := Lib.hid (show (EB = 0 → ∃ p', pq = some p') ∧ (EB ≠ 0 → pq = none) from ⟨fun h => by obtain ⟨p', h1, _⟩ := H9.out.2.2.2.2.2.2.1.1 h; exact ⟨p', h1⟩, H9.out.2.2.2.2.2.2.1.2⟩)
                              clear hpr11 hpc9 hpc11 htop9 H9 H10 HMX
                              by_cases hz : EB = 0
                              · obtain ⟨p', hp'⟩ := HQ.out.1 hz
                                subst hp'
                                have hzc : (EB != 0) = false := by simpa using hz
                                rw [show lgV (some p') = Value.pointer (some ⟨p', 0, none⟩) from rfl]
                                clear hz
                                go_wp2_with fail
                                go_meet
                                exact ⟨dR, some p', if EB = 0 then MB else lm0, EB, rfl, rfl, rfl, HF.out⟩
                              · have hp' := HQ.out.2 hz
                                subst hp'
                                have hzc : (EB != 0) = true := by simpa using hz
                                rw [show lgV none = Value.pointer none from rfl]
                                clear hz
                                go_wp2_with fail
                                go_meet
                                exact ⟨dR, none, if EB = 0 then MB else lm0, EB, rfl, rfl, rfl, HF.out⟩
              case rest =>
                obtain ⟨d', po', M', E', rfl, rfl, rfl, hS'⟩ := hcut
                obtain ⟨R', hX⟩ := hS'.pl
                obtain ⟨A5, n5, c5, hbx, hst⟩ := hX.box
                obtain ⟨VV, hVV⟩ : ∃ VV, VV = dmV d' A5 n5 c5 := ⟨_, rfl⟩
                rw [← hVV] at hbx
                have HX := Lib.hid (And.intro hX (And.intro hbx (And.intro hVV (And.intro hst hS'.len))))
                clear hX hbx hVV hst hS' H5 HP hc0 hc2 hK2 HAV HR
                go_upto_region 42 with fail
                cases po' with
                | none =>
                  rw [show lgV none = Value.pointer none from rfl]
                  as_aux_lemma =>
                    refine wp_region_grow (fun W W' => Below W.heap.size W W') (Grow.nth [fun v _ => v = .int .i64 E', fun v _ => v = .int .i64 E', fun v _ => v = .bool false, fun v _ => v = .bool false, fun v _ => v = .pointer (some ⟨g, 0, none⟩), fun v _ => v = .agg VV, fun v _ => v = .bool true, fun v _ => v = .bool false, fun v _ => v = .bool false, fun v _ => v = .bool false, fun v _ => v = .pointer none, fun v _ => v = .bool false, fun v _ => v = .bool false, fun v _ => v = undef, fun v _ => v = undef, fun v _ => v = undef, fun v _ => v = undef, fun v _ => v = undef, fun v _ => v = undef, fun v _ => v = undef, fun v _ => v = undef, fun v _ => v = undef, fun v _ => v = undef, fun v _ => v = undef, fun v _ => v = undef, fun v _ => v = undef, fun v _ => v = undef, fun v _ => v = undef, fun v _ => v = undef, fun v _ => v = undef, fun v _ => v = undef, fun v _ => v = undef, fun v _ => v = undef, fun v _ => v = undef, fun v _ => v = undef, fun v _ => v = undef, fun v _ => v = undef, fun v _ => v = undef, fun v _ => v = undef, fun v _ => v = undef, fun v _ => v = undef, fun v _ => v = undef, fun v _ => v = undef, fun v _ => v = .bool false, fun v _ => v = .bool false]) 240 (by kernel_rfl) (by kernel_rfl) (by rfl) (fun W => Below.refl _ W) (fun _ _ _ h1 h2 => h1.trans (h2.mono h1.size)) (Grow.mono_nth ?gmono) ?gsteps ?gfin
                    case gmono => exact ⟨fun _ _ _ h _ => h, fun _ _ _ h _ => h, fun _ _ _ h _ => h, fun _ _ _ h _ => h, fun _ _ _ h _ => h, fun _ _ _ h _ => h, fun _ _ _ h _ => h, fun _ _ _ h _ => h, fun _ _ _ h _ => h, fun _ _ _ h _ => h, fun _ _ _ h _ => h, fun _ _ _ h _ => h, fun _ _ _ h _ => h, fun _ _ _ h _ => h, fun _ _ _ h _ => h, fun _ _ _ h _ => h, fun _ _ _ h _ => h, fun _ _ _ h _ => h, fun _ _ _ h _ => h, fun _ _ _ h _ => h, fun _ _ _ h _ => h, fun _ _ _ h _ => h, fun _ _ _ h _ => h, fun _ _ _ h _ => h, fun _ _ _ h _ => h, fun _ _ _ h _ => h, fun _ _ _ h _ => h, fun _ _ _ h _ => h, fun _ _ _ h _ => h, fun _ _ _ h _ => h, fun _ _ _ h _ => h, fun _ _ _ h _ => h, fun _ _ _ h _ => h, fun _ _ _ h _ => h, fun _ _ _ h _ => h, fun _ _ _ h _ => h, fun _ _ _ h _ => h, fun _ _ _ h _ => h, fun _ _ _ h _ => h, fun _ _ _ h _ => h, fun _ _ _ h _ => h, fun _ _ _ h _ => h, fun _ _ _ h _ => h, fun _ _ _ h _ => h, fun _ _ _ h _ => h, trivial⟩
                    case gsteps =>
                      show Grow.allBelow _ 45
                      refine And.intro ?_ ?s44
                      refine And.intro ?_ ?s43
                      refine And.intro ?_ ?s42
                      refine And.intro ?_ ?s41
                      refine And.intro ?_ ?s40
                      refine And.intro ?_ ?s39
                      refine And.intro ?_ ?s38
                      refine And.intro ?_ ?s37
                      refine And.intro ?_ ?s36
                      refine And.intro ?_ ?s35
                      refine And.intro ?_ ?s34
                      refine And.intro ?_ ?s33
                      refine And.intro ?_ ?s32
                      refine And.intro ?_ ?s31
                      refine And.intro ?_ ?s30
                      refine And.intro ?_ ?s29
                      refine And.intro ?_ ?s28
                      refine And.intro ?_ ?s27
                      refine And.intro ?_ ?s26
                      refine And.intro ?_ ?s25
                      refine And.intro ?_ ?s24
                      refine And.intro ?_ ?s23
                      refine And.intro ?_ ?s22
                      refine And.intro ?_ ?s21
                      refine And.intro ?_ ?s20
                      refine And.intro ?_ ?s19
                      refine And.intro ?_ ?s18
                      refine And.intro ?_ ?s17
                      refine And.intro ?_ ?s16
                      refine And.intro ?_ ?s15
                      refine And.intro ?_ ?s14
                      refine And.intro ?_ ?s13
                      refine And.intro ?_ ?s12
                      refine And.intro ?_ ?s11
                      refine And.intro ?_ ?s10
                      refine And.intro ?_ ?s9
                      refine And.intro ?_ ?s8
                      refine And.intro ?_ ?s7
                      refine And.intro ?_ ?s6
                      refine And.intro ?_ ?s5
                      refine And.intro ?_ ?s4
                      refine And.intro ?_ ?s3
                      refine And.intro ?_ ?s2
                      refine And.intro ?_ ?s1
                      refine And.intro ?_ ?s0
                      exact trivial
                      case s0 =>
                        refine Grow.step_in (by rfl) (by rfl) ?_
                        intro E W ec eg ef hG hd hu R HR1
                        have e15 : E (.tmp 15) = .int .i64 E' := hu 15 (by kernel_rfl)
                        clear hd hu
                        go_simp
                        exact HR1.out _ _ (Below.refl _ _) rfl
                      case s1 =>
                        refine Grow.step_in (by rfl) (by rfl) ?_
                        intro E W ec eg ef hG hd hu R HR1
                        have e17 : E (.tmp 17) = .int .i64 E' := hu 17 (by kernel_rfl)
                        clear hd hu
                        go_simp
                        exact HR1.out _ _ (Below.refl _ _) rfl
                      case s2 =>
                        refine Grow.step_in (by rfl) (by rfl) ?_
                        intro E W ec eg ef hG hd hu R HR1
                        have e195 : E (.tmp 195) = .int .i64 E' := hd 0 195 (by kernel_rfl)
                        have e196 : E (.tmp 196) = .int .i64 E' := hd 1 196 (by kernel_rfl)
                        clear hd hu
                        go_simp
                        exact HR1.out _ _ (Below.refl _ _) rfl
                      case s3 =>
                        refine Grow.step_in (by rfl) (by rfl) ?_
                        intro E W ec eg ef hG hd hu R HR1
                        have e197 : E (.tmp 197) = .bool false := hd 2 197 (by kernel_rfl)
                        clear hd hu
                        go_simp
                        exact HR1.out _ _ (Below.refl _ _) rfl
                      case s4 =>
                        refine Grow.step_on (g := 3) (b := false) (d := 198) (by rfl) (by rfl) (by rfl) (by kernel_rfl) (fun v W h => h) ?_
                        intro E W ec eg ef hG hd hu R HR1
                        have e10 : E (.tmp 10) = .pointer (some ⟨g, 0, none⟩) := hu 10 (by kernel_rfl)
                        clear hd hu
                        go_simp
                        exact HR1.out _ _ (Below.refl _ _) rfl
                      case s5 =>
                        refine Grow.step_on (g := 3) (b := false) (d := 198) (by rfl) (by rfl) (by rfl) (by kernel_rfl) (fun v W h => h) ?_
                        intro E W ec eg ef hG hd hu R HR1
                        have e12 : E (.tmp 12) = .pointer (some ⟨pw, 0, none⟩) := hu 12 (by kernel_rfl)
                        clear hd hu
                        have hVW := ((Grow.below_of_drew hG).block _ (lt_of_cells HX.out.2.1)).trans HX.out.2.1
                        rw [exec_load_st 31 (.tmp 12) (by rfl) pw e12 VV (0, 0) hVW _ Try.underlying31 (by rfl) (by rw [HX.out.2.2.1]; exact dm_info)]
                        exact HR1.out _ _ (Below.refl _ _) rfl
                      case s6 =>
                        refine Grow.step_on (g := 3) (b := false) (d := 198) (by rfl) (by rfl) (by rfl) (by kernel_rfl) (fun v W h => h) ?_
                        intro E W ec eg ef hG hd hu R HR1
                        have e199 : E (.tmp 199) = .pointer (some ⟨g, 0, none⟩) := hd 4 199 (by kernel_rfl)
                        have e200 : E (.tmp 200) = .agg VV := hd 5 200 (by kernel_rfl)
                        clear hd hu
                        have hPX := HX.out.1.below (Grow.below_of_drew hG)
                        go_simp
                        have hlk := like_any hPX.dsk.dk (HX.out.2.2.2.1.below (Grow.below_of_drew hG))
                        rw [← HX.out.2.2.1] at hlk
                        refine hlk.mono ?_
                        rintro _ _ ⟨rfl, hb⟩
                        exact ⟨_, rfl, HR1.out _ _ hb rfl⟩
                      case s7 =>
                        refine Grow.step_on (g := 3) (b := false) (d := 198) (by rfl) (by rfl) (by rfl) (by kernel_rfl) (fun v W h => h) ?_
                        intro E W ec eg ef hG hd hu R HR1
                        have e201 : E (.tmp 201) = .bool true := hd 6 201 (by kernel_rfl)
                        clear hd hu
                        go_simp
                        exact HR1.out _ _ (Below.refl _ _) rfl
                      case s8 =>
                        refine Grow.step_in (by rfl) (by rfl) ?_
                        intro E W ec eg ef hG hd hu R HR1
                        have e198 : E (.tmp 198) = .bool false := hd 3 198 (by kernel_rfl)
                        have e202 : E (.tmp 202) = .bool false := hd 7 202 (by kernel_rfl)
                        clear hd hu
                        go_simp
                        exact HR1.out _ _ (Below.refl _ _) rfl
                      case s9 =>
                        refine Grow.step_in (by rfl) (by rfl) ?_
                        intro E W ec eg ef hG hd hu R HR1
                        have e203 : E (.tmp 203) = .bool false := hd 8 203 (by kernel_rfl)
                        clear hd hu
                        go_simp
                        exact HR1.out _ _ (Below.refl _ _) rfl
                      case s10 =>
                        refine Grow.step_on (g := 9) (b := false) (d := 204) (by rfl) (by rfl) (by rfl) (by kernel_rfl) (fun v W h => h) ?_
                        intro E W ec eg ef hG hd hu R HR1
                        have e14 : E (.tmp 14) = .pointer none := hu 14 (by kernel_rfl)
                        clear hd hu
                        go_simp
                        exact HR1.out _ _ (Below.refl _ _) rfl
                      case s11 =>
                        refine Grow.step_on (g := 9) (b := false) (d := 204) (by rfl) (by rfl) (by rfl) (by kernel_rfl) (fun v W h => h) ?_
                        intro E W ec eg ef hG hd hu R HR1
                        have e205 : E (.tmp 205) = .pointer none := hd 10 205 (by kernel_rfl)
                        clear hd hu
                        go_simp
                        exact HR1.out _ _ (Below.refl _ _) rfl
                      case s12 =>
                        refine Grow.step_on (g := 9) (b := false) (d := 204) (by rfl) (by rfl) (by rfl) (by kernel_rfl) (fun v W h => h) ?_
                        intro E W ec eg ef hG hd hu R HR1
                        have e206 : E (.tmp 206) = .bool false := hd 11 206 (by kernel_rfl)
                        clear hd hu
                        go_simp
                        exact HR1.out _ _ (Below.refl _ _) rfl
                      case s13 =>
                        exact Grow.step_off (g := 12) (b := true) (b' := false) (d := 207) (by rfl) (by rfl) (by rfl) (by kernel_rfl) (fun v W h => h) (by decide) (fun _ => rfl)
                      case s14 =>
                        exact Grow.step_off (g := 12) (b := true) (b' := false) (d := 207) (by rfl) (by rfl) (by rfl) (by kernel_rfl) (fun v W h => h) (by decide) (fun _ => rfl)
                      case s15 =>
                        exact Grow.step_off (g := 12) (b := true) (b' := false) (d := 207) (by rfl) (by rfl) (by rfl) (by kernel_rfl) (fun v W h => h) (by decide) (fun _ => rfl)
                      case s16 =>
                        exact Grow.step_off (g := 12) (b := true) (b' := false) (d := 207) (by rfl) (by rfl) (by rfl) (by kernel_rfl) (fun v W h => h) (by decide) (fun _ => rfl)
                      case s17 =>
                        exact Grow.step_off (g := 12) (b := true) (b' := false) (d := 207) (by rfl) (by rfl) (by rfl) (by kernel_rfl) (fun v W h => h) (by decide) (fun _ => rfl)
                      case s18 =>
                        exact Grow.step_off (g := 12) (b := true) (b' := false) (d := 207) (by rfl) (by rfl) (by rfl) (by kernel_rfl) (fun v W h => h) (by decide) (fun _ => rfl)
                      case s19 =>
                        exact Grow.step_off (g := 12) (b := true) (b' := false) (d := 207) (by rfl) (by rfl) (by rfl) (by kernel_rfl) (fun v W h => h) (by decide) (fun _ => rfl)
                      case s20 =>
                        exact Grow.step_far (g := 19) (b := false) (d := 214) (by rfl) (by rfl) (by rfl) (by kernel_rfl) (fun v W h => h) (fun _ => rfl)
                      case s21 =>
                        exact Grow.step_far (g := 19) (b := false) (d := 214) (by rfl) (by rfl) (by rfl) (by kernel_rfl) (fun v W h => h) (fun _ => rfl)
                      case s22 =>
                        exact Grow.step_far (g := 19) (b := false) (d := 214) (by rfl) (by rfl) (by rfl) (by kernel_rfl) (fun v W h => h) (fun _ => rfl)
                      case s23 =>
                        exact Grow.step_far (g := 19) (b := false) (d := 214) (by rfl) (by rfl) (by rfl) (by kernel_rfl) (fun v W h => h) (fun _ => rfl)
                      case s24 =>
                        exact Grow.step_far (g := 19) (b := false) (d := 214) (by rfl) (by rfl) (by rfl) (by kernel_rfl) (fun v W h => h) (fun _ => rfl)
                      case s25 =>
                        exact Grow.step_off (g := 12) (b := true) (b' := false) (d := 207) (by rfl) (by rfl) (by rfl) (by kernel_rfl) (fun v W h => h) (by decide) (fun _ => rfl)
                      case s26 =>
                        exact Grow.step_off (g := 12) (b := true) (b' := false) (d := 207) (by rfl) (by rfl) (by rfl) (by kernel_rfl) (fun v W h => h) (by decide) (fun _ => rfl)
                      case s27 =>
                        exact Grow.step_far (g := 26) (b := false) (d := 221) (by rfl) (by rfl) (by rfl) (by kernel_rfl) (fun v W h => h) (fun _ => rfl)
                      case s28 =>
                        exact Grow.step_far (g := 26) (b := false) (d := 221) (by rfl) (by rfl) (by rfl) (by kernel_rfl) (fun v W h => h) (fun _ => rfl)
                      case s29 =>
                        exact Grow.step_far (g := 26) (b := false) (d := 221) (by rfl) (by rfl) (by rfl) (by kernel_rfl) (fun v W h => h) (fun _ => rfl)
                      case s30 =>
                        exact Grow.step_far (g := 26) (b := false) (d := 221) (by rfl) (by rfl) (by rfl) (by kernel_rfl) (fun v W h => h) (fun _ => rfl)
                      case s31 =>
                        exact Grow.step_far (g := 26) (b := false) (d := 221) (by rfl) (by rfl) (by rfl) (by kernel_rfl) (fun v W h => h) (fun _ => rfl)
                      case s32 =>
                        exact Grow.step_off (g := 12) (b := true) (b' := false) (d := 207) (by rfl) (by rfl) (by rfl) (by kernel_rfl) (fun v W h => h) (by decide) (fun _ => rfl)
                      case s33 =>
                        exact Grow.step_off (g := 12) (b := true) (b' := false) (d := 207) (by rfl) (by rfl) (by rfl) (by kernel_rfl) (fun v W h => h) (by decide) (fun _ => rfl)
                      case s34 =>
                        exact Grow.step_far (g := 33) (b := false) (d := 228) (by rfl) (by rfl) (by rfl) (by kernel_rfl) (fun v W h => h) (fun _ => rfl)
                      case s35 =>
                        exact Grow.step_far (g := 33) (b := false) (d := 228) (by rfl) (by rfl) (by rfl) (by kernel_rfl) (fun v W h => h) (fun _ => rfl)
                      case s36 =>
                        exact Grow.step_far (g := 33) (b := false) (d := 228) (by rfl) (by rfl) (by rfl) (by kernel_rfl) (fun v W h => h) (fun _ => rfl)
                      case s37 =>
                        exact Grow.step_far (g := 33) (b := false) (d := 228) (by rfl) (by rfl) (by rfl) (by kernel_rfl) (fun v W h => h) (fun _ => rfl)
                      case s38 =>
                        exact Grow.step_far (g := 33) (b := false) (d := 228) (by rfl) (by rfl) (by rfl) (by kernel_rfl) (fun v W h => h) (fun _ => rfl)
                      case s39 =>
                        exact Grow.step_far (g := 33) (b := false) (d := 228) (by rfl) (by rfl) (by rfl) (by kernel_rfl) (fun v W h => h) (fun _ => rfl)
                      case s40 =>
                        exact Grow.step_far (g := 33) (b := false) (d := 228) (by rfl) (by rfl) (by rfl) (by kernel_rfl) (fun v W h => h) (fun _ => rfl)
                      case s41 =>
                        exact Grow.step_far (g := 33) (b := false) (d := 228) (by rfl) (by rfl) (by rfl) (by kernel_rfl) (fun v W h => h) (fun _ => rfl)
                      case s42 =>
                        exact Grow.step_off (g := 12) (b := true) (b' := false) (d := 207) (by rfl) (by rfl) (by rfl) (by kernel_rfl) (fun v W h => h) (by decide) (fun _ => rfl)
                      case s43 =>
                        refine Grow.step_on (g := 9) (b := false) (d := 204) (by rfl) (by rfl) (by rfl) (by kernel_rfl) (fun v W h => h) ?_
                        intro E W ec eg ef hG hd hu R HR1
                        have e207 : E (.tmp 207) = .bool false := hd 12 207 (by kernel_rfl)
                        have e237 : E (.tmp 237) = undef := hd 42 237 (by kernel_rfl)
                        clear hd hu
                        go_simp
                        exact HR1.out _ _ (Below.refl _ _) rfl
                      case s44 =>
                        refine Grow.step_in (by rfl) (by rfl) ?_
                        intro E W ec eg ef hG hd hu R HR1
                        have e204 : E (.tmp 204) = .bool false := hd 9 204 (by kernel_rfl)
                        have e238 : E (.tmp 238) = .bool false := hd 43 238 (by kernel_rfl)
                        clear hd hu
                        go_simp
                        exact HR1.out _ _ (Below.refl _ _) rfl
                    case gfin =>
                      intro W hG
                      refine Grow.fin_dst (by rfl) ?_
                      rintro _ rfl
                      refine Grow.fin_dst (by rfl) ?_
                      rintro _ rfl
                      refine Grow.fin_dst (by rfl) ?_
                      rintro _ rfl
                      refine Grow.fin_dst (by rfl) ?_
                      rintro _ rfl
                      refine Grow.fin_dst (by rfl) ?_
                      rintro _ rfl
                      refine Grow.fin_dst (by rfl) ?_
                      rintro _ rfl
                      refine Grow.fin_dst (by rfl) ?_
                      rintro _ rfl
                      refine Grow.fin_dst (by rfl) ?_
                      rintro _ rfl
                      refine Grow.fin_dst (by rfl) ?_
                      rintro _ rfl
                      refine Grow.fin_dst (by rfl) ?_
                      rintro _ rfl
                      refine Grow.fin_dst (by rfl) ?_
                      rintro _ rfl
                      refine Grow.fin_dst (by rfl) ?_
                      rintro _ rfl
                      refine Grow.fin_dst (by rfl) ?_
                      rintro _ rfl
                      refine Grow.fin_dst (by rfl) ?_
                      rintro _ rfl
                      refine Grow.fin_dst (by rfl) ?_
                      rintro _ rfl
                      refine Grow.fin_dst (by rfl) ?_
                      rintro _ rfl
                      refine Grow.fin_dst (by rfl) ?_
                      rintro _ rfl
                      refine Grow.fin_dst (by rfl) ?_
                      rintro _ rfl
                      refine Grow.fin_dst (by rfl) ?_
                      rintro _ rfl
                      refine Grow.fin_dst (by rfl) ?_
                      rintro _ rfl
                      refine Grow.fin_dst (by rfl) ?_
                      rintro _ rfl
                      refine Grow.fin_dst (by rfl) ?_
                      rintro _ rfl
                      refine Grow.fin_dst (by rfl) ?_
                      rintro _ rfl
                      refine Grow.fin_dst (by rfl) ?_
                      rintro _ rfl
                      refine Grow.fin_dst (by rfl) ?_
                      rintro _ rfl
                      refine Grow.fin_dst (by rfl) ?_
                      rintro _ rfl
                      refine Grow.fin_dst (by rfl) ?_
                      rintro _ rfl
                      refine Grow.fin_dst (by rfl) ?_
                      rintro _ rfl
                      refine Grow.fin_dst (by rfl) ?_
                      rintro _ rfl
                      refine Grow.fin_dst (by rfl) ?_
                      rintro _ rfl
                      refine Grow.fin_dst (by rfl) ?_
                      rintro _ rfl
                      refine Grow.fin_dst (by rfl) ?_
                      rintro _ rfl
                      refine Grow.fin_dst (by rfl) ?_
                      rintro _ rfl
                      refine Grow.fin_dst (by rfl) ?_
                      rintro _ rfl
                      refine Grow.fin_dst (by rfl) ?_
                      rintro _ rfl
                      refine Grow.fin_dst (by rfl) ?_
                      rintro _ rfl
                      refine Grow.fin_dst (by rfl) ?_
                      rintro _ rfl
                      refine Grow.fin_dst (by rfl) ?_
                      rintro _ rfl
                      refine Grow.fin_dst (by rfl) ?_
                      rintro _ rfl
                      refine Grow.fin_dst (by rfl) ?_
                      rintro _ rfl
                      refine Grow.fin_dst (by rfl) ?_
                      rintro _ rfl
                      refine Grow.fin_dst (by rfl) ?_
                      rintro _ rfl
                      refine Grow.fin_dst (by rfl) ?_
                      rintro _ rfl
                      refine Grow.fin_dst (by rfl) ?_
                      rintro _ rfl
                      refine Grow.fin_dst (by rfl) ?_
                      rintro _ rfl
                      simp only [Act.put, List.setIfInBounds_toArray, List.set_cons_zero, List.set_cons_succ]
                      refine Grow.fin_end ?_
                      have HB9 := Lib.hid (Grow.below_of_drew hG)
                      clear hG
                      go_wp2_with fail
                      go_roundw
                      case rel =>
                        unfold RWp
                        exact ⟨i + 1, d', none, M', E', by have := HGO.out; omega, by have := HGO.out; omega, rfl, rfl, rfl, by simp, ⟨⟨_, HX.out.1.below HB9.out⟩, HX.out.2.2.2.2⟩⟩
                      case measure => simp only [intOf]; have := HGO.out; omega
                | some p' =>
                  rw [show lgV (some p') = Value.pointer (some ⟨p', 0, none⟩) from rfl]
                  obtain ⟨A6, n6, c6, hmx, hms⟩ := HX.out.1.mox
                  have hMok := (HX.out.1.lg p' rfl).2
                  obtain ⟨MV, hMV⟩ : ∃ MV, MV = lmV M' A6 n6 c6 := ⟨_, rfl⟩
                  rw [← hMV] at hmx
                  have HY := Lib.hid (And.intro hmx (And.intro hMV (And.intro hms (And.intro (show M'.l.length ≤ 1000000 by have h1 := hMok.few; have h2 := hMok.have_; have h3 := hMok.n; omega) (show IntKind.i64.wrap (M'.n - (M'.have_ : Int)) = M'.n - (M'.have_ : Int) from IntWalk.i64_in _ (by have h2 := hMok.have_; have h3 := hMok.n; omega))))))
                  clear hmx hMV hms hMok
                  as_aux_lemma =>
                    refine wp_region_grow (fun W W' => Below W.heap.size W W') (Grow.nth [fun v _ => v = .int .i64 E', fun v _ => v = .int .i64 E', fun v _ => v = .bool false, fun v _ => v = .bool false, fun v _ => v = .pointer (some ⟨g, 0, none⟩), fun v _ => v = .agg VV, fun v _ => v = .bool true, fun v _ => v = .bool false, fun v _ => v = .bool false, fun v _ => v = .bool false, fun v _ => v = .pointer (some ⟨p', 0, none⟩), fun v _ => v = .bool true, fun v _ => v = .bool true, fun v _ => v = .pointer (some ⟨p', 0, none⟩), fun v W => ∃ A n c, v = .slice A n c ∧ Rws W (fun _ => True) A n c M'.l, fun v _ => v = .pointer (some ⟨pm, 5, none⟩), fun v _ => v = .slice A6 n6 c6, fun v _ => v = .bool true, fun v _ => v = .bool false, fun v _ => v = .bool false, fun v _ => v = .pointer (some ⟨p', 0, none⟩), fun v _ => v = .int .u64 (M'.next : Int), fun v _ => v = .pointer (some ⟨pm, 3, none⟩), fun v _ => v = .int .u64 (M'.next : Int), fun v _ => v = .bool false, fun v _ => v = .bool false, fun v _ => v = .bool false, fun v _ => v = .pointer (some ⟨p', 0, none⟩), fun v _ => v = .int .u64 (M'.first : Int), fun v _ => v = .pointer (some ⟨pm, 2, none⟩), fun v _ => v = .int .u64 (M'.first : Int), fun v _ => v = .bool false, fun v _ => v = .bool false, fun v _ => v = .bool false, fun v _ => v = .pointer (some ⟨p', 0, none⟩), fun v _ => v = .int .i64 (M'.n - (M'.have_ : Int)), fun v _ => v = .pointer (some ⟨pm, 1, none⟩), fun v _ => v = .int .i64 M'.n, fun v _ => v = .pointer (some ⟨pm, 4, none⟩), fun v _ => v = .int .i64 (M'.have_ : Int), fun v _ => v = .int .i64 (M'.n - (M'.have_ : Int)), fun v _ => v = .bool false, fun v _ => v = .bool false, fun v _ => v = .bool false, fun v _ => v = .bool false]) 240 (by kernel_rfl) (by kernel_rfl) (by rfl) (fun W => Below.refl _ W) (fun _ _ _ h1 h2 => h1.trans (h2.mono h1.size)) (Grow.mono_nth ?gmono) ?gsteps ?gfin
                    case gmono => exact ⟨fun _ _ _ h _ => h, fun _ _ _ h _ => h, fun _ _ _ h _ => h, fun _ _ _ h _ => h, fun _ _ _ h _ => h, fun _ _ _ h _ => h, fun _ _ _ h _ => h, fun _ _ _ h _ => h, fun _ _ _ h _ => h, fun _ _ _ h _ => h, fun _ _ _ h _ => h, fun _ _ _ h _ => h, fun _ _ _ h _ => h, fun _ _ _ h _ => h, fun _ _ _ h hg => by obtain ⟨A, n, c, h1, h2⟩ := h; exact ⟨A, n, c, h1, h2.below hg⟩, fun _ _ _ h _ => h, fun _ _ _ h _ => h, fun _ _ _ h _ => h, fun _ _ _ h _ => h, fun _ _ _ h _ => h, fun _ _ _ h _ => h, fun _ _ _ h _ => h, fun _ _ _ h _ => h, fun _ _ _ h _ => h, fun _ _ _ h _ => h, fun _ _ _ h _ => h, fun _ _ _ h _ => h, fun _ _ _ h _ => h, fun _ _ _ h _ => h, fun _ _ _ h _ => h, fun _ _ _ h _ => h, fun _ _ _ h _ => h, fun _ _ _ h _ => h, fun _ _ _ h _ => h, fun _ _ _ h _ => h, fun _ _ _ h _ => h, fun _ _ _ h _ => h, fun _ _ _ h _ => h, fun _ _ _ h _ => h, fun _ _ _ h _ => h, fun _ _ _ h _ => h, fun _ _ _ h _ => h, fun _ _ _ h _ => h, fun _ _ _ h _ => h, fun _ _ _ h _ => h, trivial⟩
                    case gsteps =>
                      show Grow.allBelow _ 45
                      refine And.intro ?_ ?s44
                      refine And.intro ?_ ?s43
                      refine And.intro ?_ ?s42
                      refine And.intro ?_ ?s41
                      refine And.intro ?_ ?s40
                      refine And.intro ?_ ?s39
                      refine And.intro ?_ ?s38
                      refine And.intro ?_ ?s37
                      refine And.intro ?_ ?s36
                      refine And.intro ?_ ?s35
                      refine And.intro ?_ ?s34
                      refine And.intro ?_ ?s33
                      refine And.intro ?_ ?s32
                      refine And.intro ?_ ?s31
                      refine And.intro ?_ ?s30
                      refine And.intro ?_ ?s29
                      refine And.intro ?_ ?s28
                      refine And.intro ?_ ?s27
                      refine And.intro ?_ ?s26
                      refine And.intro ?_ ?s25
                      refine And.intro ?_ ?s24
                      refine And.intro ?_ ?s23
                      refine And.intro ?_ ?s22
                      refine And.intro ?_ ?s21
                      refine And.intro ?_ ?s20
                      refine And.intro ?_ ?s19
                      refine And.intro ?_ ?s18
                      refine And.intro ?_ ?s17
                      refine And.intro ?_ ?s16
                      refine And.intro ?_ ?s15
                      refine And.intro ?_ ?s14
                      refine And.intro ?_ ?s13
                      refine And.intro ?_ ?s12
                      refine And.intro ?_ ?s11
                      refine And.intro ?_ ?s10
                      refine And.intro ?_ ?s9
                      refine And.intro ?_ ?s8
                      refine And.intro ?_ ?s7
                      refine And.intro ?_ ?s6
                      refine And.intro ?_ ?s5
                      refine And.intro ?_ ?s4
                      refine And.intro ?_ ?s3
                      refine And.intro ?_ ?s2
                      refine And.intro ?_ ?s1
                      refine And.intro ?_ ?s0
                      exact trivial
                      case s0 =>
                        refine Grow.step_in (by rfl) (by rfl) ?_
                        intro E W ec eg ef hG hd hu R HR1
                        have e15 : E (.tmp 15) = .int .i64 E' := hu 15 (by kernel_rfl)
                        clear hd hu
                        go_simp
                        exact HR1.out _ _ (Below.refl _ _) rfl
                      case s1 =>
                        refine Grow.step_in (by rfl) (by rfl) ?_
                        intro E W ec eg ef hG hd hu R HR1
                        have e17 : E (.tmp 17) = .int .i64 E' := hu 17 (by kernel_rfl)
                        clear hd hu
                        go_simp
                        exact HR1.out _ _ (Below.refl _ _) rfl
                      case s2 =>
                        refine Grow.step_in (by rfl) (by rfl) ?_
                        intro E W ec eg ef hG hd hu R HR1
                        have e195 : E (.tmp 195) = .int .i64 E' := hd 0 195 (by kernel_rfl)
                        have e196 : E (.tmp 196) = .int .i64 E' := hd 1 196 (by kernel_rfl)
                        clear hd hu
                        go_simp
                        exact HR1.out _ _ (Below.refl _ _) rfl
                      case s3 =>
                        refine Grow.step_in (by rfl) (by rfl) ?_
                        intro E W ec eg ef hG hd hu R HR1
                        have e197 : E (.tmp 197) = .bool false := hd 2 197 (by kernel_rfl)
                        clear hd hu
                        go_simp
                        exact HR1.out _ _ (Below.refl _ _) rfl
                      case s4 =>
                        refine Grow.step_on (g := 3) (b := false) (d := 198) (by rfl) (by rfl) (by rfl) (by kernel_rfl) (fun v W h => h) ?_
                        intro E W ec eg ef hG hd hu R HR1
                        have e10 : E (.tmp 10) = .pointer (some ⟨g, 0, none⟩) := hu 10 (by kernel_rfl)
                        clear hd hu
                        go_simp
                        exact HR1.out _ _ (Below.refl _ _) rfl
                      case s5 =>
                        refine Grow.step_on (g := 3) (b := false) (d := 198) (by rfl) (by rfl) (by rfl) (by kernel_rfl) (fun v W h => h) ?_
                        intro E W ec eg ef hG hd hu R HR1
                        have e12 : E (.tmp 12) = .pointer (some ⟨pw, 0, none⟩) := hu 12 (by kernel_rfl)
                        clear hd hu
                        have hVW := ((Grow.below_of_drew hG).block _ (lt_of_cells HX.out.2.1)).trans HX.out.2.1
                        rw [exec_load_st 31 (.tmp 12) (by rfl) pw e12 VV (0, 0) hVW _ Try.underlying31 (by rfl) (by rw [HX.out.2.2.1]; exact dm_info)]
                        exact HR1.out _ _ (Below.refl _ _) rfl
                      case s6 =>
                        refine Grow.step_on (g := 3) (b := false) (d := 198) (by rfl) (by rfl) (by rfl) (by kernel_rfl) (fun v W h => h) ?_
                        intro E W ec eg ef hG hd hu R HR1
                        have e199 : E (.tmp 199) = .pointer (some ⟨g, 0, none⟩) := hd 4 199 (by kernel_rfl)
                        have e200 : E (.tmp 200) = .agg VV := hd 5 200 (by kernel_rfl)
                        clear hd hu
                        have hPX := HX.out.1.below (Grow.below_of_drew hG)
                        go_simp
                        have hlk := like_any hPX.dsk.dk (HX.out.2.2.2.1.below (Grow.below_of_drew hG))
                        rw [← HX.out.2.2.1] at hlk
                        refine hlk.mono ?_
                        rintro _ _ ⟨rfl, hb⟩
                        exact ⟨_, rfl, HR1.out _ _ hb rfl⟩
                      case s7 =>
                        refine Grow.step_on (g := 3) (b := false) (d := 198) (by rfl) (by rfl) (by rfl) (by kernel_rfl) (fun v W h => h) ?_
                        intro E W ec eg ef hG hd hu R HR1
                        have e201 : E (.tmp 201) = .bool true := hd 6 201 (by kernel_rfl)
                        clear hd hu
                        go_simp
                        exact HR1.out _ _ (Below.refl _ _) rfl
                      case s8 =>
                        refine Grow.step_in (by rfl) (by rfl) ?_
                        intro E W ec eg ef hG hd hu R HR1
                        have e198 : E (.tmp 198) = .bool false := hd 3 198 (by kernel_rfl)
                        have e202 : E (.tmp 202) = .bool false := hd 7 202 (by kernel_rfl)
                        clear hd hu
                        go_simp
                        exact HR1.out _ _ (Below.refl _ _) rfl
                      case s9 =>
                        refine Grow.step_in (by rfl) (by rfl) ?_
                        intro E W ec eg ef hG hd hu R HR1
                        have e203 : E (.tmp 203) = .bool false := hd 8 203 (by kernel_rfl)
                        clear hd hu
                        go_simp
                        exact HR1.out _ _ (Below.refl _ _) rfl
                      case s10 =>
                        refine Grow.step_on (g := 9) (b := false) (d := 204) (by rfl) (by rfl) (by rfl) (by kernel_rfl) (fun v W h => h) ?_
                        intro E W ec eg ef hG hd hu R HR1
                        have e14 : E (.tmp 14) = .pointer (some ⟨p', 0, none⟩) := hu 14 (by kernel_rfl)
                        clear hd hu
                        go_simp
                        exact HR1.out _ _ (Below.refl _ _) rfl
                      case s11 =>
                        refine Grow.step_on (g := 9) (b := false) (d := 204) (by rfl) (by rfl) (by rfl) (by kernel_rfl) (fun v W h => h) ?_
                        intro E W ec eg ef hG hd hu R HR1
                        have e205 : E (.tmp 205) = .pointer (some ⟨p', 0, none⟩) := hd 10 205 (by kernel_rfl)
                        clear hd hu
                        go_simp
                        exact HR1.out _ _ (Below.refl _ _) rfl
                      case s12 =>
                        refine Grow.step_on (g := 9) (b := false) (d := 204) (by rfl) (by rfl) (by rfl) (by kernel_rfl) (fun v W h => h) ?_
                        intro E W ec eg ef hG hd hu R HR1
                        have e206 : E (.tmp 206) = .bool true := hd 11 206 (by kernel_rfl)
                        clear hd hu
                        go_simp
                        exact HR1.out _ _ (Below.refl _ _) rfl
                      case s13 =>
                        refine Grow.step_on (g := 12) (b := true) (d := 207) (by rfl) (by rfl) (by rfl) (by kernel_rfl) (fun v W h => h) ?_
                        intro E W ec eg ef hG hd hu R HR1
                        have e14 : E (.tmp 14) = .pointer (some ⟨p', 0, none⟩) := hu 14 (by kernel_rfl)
                        clear hd hu
                        go_simp
                        exact HR1.out _ _ (Below.refl _ _) rfl
                      case s14 =>
                        refine Grow.step_on (g := 12) (b := true) (d := 207) (by rfl) (by rfl) (by rfl) (by kernel_rfl) (fun v W h => h) ?_
                        intro E W ec eg ef hG hd hu R HR1
                        have e208 : E (.tmp 208) = .pointer (some ⟨p', 0, none⟩) := hd 13 208 (by kernel_rfl)
                        clear hd hu
                        have hPX := HX.out.1.below (Grow.below_of_drew hG)
                        have hLG := hPX.lg p' rfl
                        go_simp
                        refine (wrecords_any hLG.1 hLG.2).mono ?_
                        rintro _ w' ⟨A7, n7, c7, rfl, hr7, hb7⟩
                        exact ⟨_, rfl, HR1.out _ _ hb7 ⟨A7, n7, c7, rfl, hr7.mono fun _ _ _ => trivial⟩⟩
                      case s15 =>
                        refine Grow.step_on (g := 12) (b := true) (d := 207) (by rfl) (by rfl) (by rfl) (by kernel_rfl) (fun v W h => h) ?_
                        intro E W ec eg ef hG hd hu R HR1
                        have e16 : E (.tmp 16) = .pointer (some ⟨pm, 0, none⟩) := hu 16 (by kernel_rfl)
                        clear hd hu
                        go_simp
                        exact HR1.out _ _ (Below.refl _ _) rfl
                      case s16 =>
                        refine Grow.step_on (g := 12) (b := true) (d := 207) (by rfl) (by rfl) (by rfl) (by kernel_rfl) (fun v W h => h) ?_
                        intro E W ec eg ef hG hd hu R HR1
                        have e210 : E (.tmp 210) = .pointer (some ⟨pm, 5, none⟩) := hd 15 210 (by kernel_rfl)
                        clear hd hu
                        have hcl : W.cell? ⟨pm, 5, none⟩ = some (.slice A6 n6 c6) := by { rw [cell_of_cells (((Grow.below_of_drew hG).block _ (lt_of_cells HY.out.1)).trans HY.out.1) 5, HY.out.2.1]; rfl }
                        go_simp
                        exact HR1.out _ _ (Below.refl _ _) rfl
                      case s17 =>
                        refine Grow.step_on (g := 12) (b := true) (d := 207) (by rfl) (by rfl) (by rfl) (by kernel_rfl) (fun v W h => h) ?_
                        intro E W ec eg ef hG hd hu R HR1
                        have h209 := hd 14 209 (by kernel_rfl)
                        have e211 : E (.tmp 211) = .slice A6 n6 c6 := hd 16 211 (by kernel_rfl)
                        clear hd hu
                        have hPX := HX.out.1.below (Grow.below_of_drew hG)
                        obtain ⟨A7, n7, c7, e209, hr7⟩ := h209
                        go_simp
                        have hsm := same_any hr7 (HY.out.2.2.1.below (Grow.below_of_drew hG)) (by rw [← hr7.len]; exact HY.out.2.2.2.1)
                        rw [decide_eq_true rfl] at hsm
                        refine hsm.mono ?_
                        rintro _ _ ⟨rfl, hb⟩
                        exact ⟨_, rfl, HR1.out _ _ hb rfl⟩
                      case s18 =>
                        refine Grow.step_on (g := 12) (b := true) (d := 207) (by rfl) (by rfl) (by rfl) (by kernel_rfl) (fun v W h => h) ?_
                        intro E W ec eg ef hG hd hu R HR1
                        have e212 : E (.tmp 212) = .bool true := hd 17 212 (by kernel_rfl)
                        clear hd hu
                        go_simp
                        exact HR1.out _ _ (Below.refl _ _) rfl
                      case s19 =>
                        refine Grow.step_on (g := 12) (b := true) (d := 207) (by rfl) (by rfl) (by rfl) (by kernel_rfl) (fun v W h => h) ?_
                        intro E W ec eg ef hG hd hu R HR1
                        have e213 : E (.tmp 213) = .bool false := hd 18 213 (by kernel_rfl)
                        clear hd hu
                        go_simp
                        exact HR1.out _ _ (Below.refl _ _) rfl
                      case s20 =>
                        refine Grow.step_on (g := 19) (b := false) (d := 214) (by rfl) (by rfl) (by rfl) (by kernel_rfl) (fun v W h => h) ?_
                        intro E W ec eg ef hG hd hu R HR1
                        have e14 : E (.tmp 14) = .pointer (some ⟨p', 0, none⟩) := hu 14 (by kernel_rfl)
                        clear hd hu
                        go_simp
                        exact HR1.out _ _ (Below.refl _ _) rfl
                      case s21 =>
                        refine Grow.step_on (g := 19) (b := false) (d := 214) (by rfl) (by rfl) (by rfl) (by kernel_rfl) (fun v W h => h) ?_
                        intro E W ec eg ef hG hd hu R HR1
                        have e215 : E (.tmp 215) = .pointer (some ⟨p', 0, none⟩) := hd 20 215 (by kernel_rfl)
                        clear hd hu
                        have hPX := HX.out.1.below (Grow.below_of_drew hG)
                        have hLG := hPX.lg p' rfl
                        go_simp
                        refine (wnext_any hLG.1).mono ?_
                        rintro _ _ ⟨rfl, rfl⟩
                        exact ⟨_, rfl, HR1.out _ _ (Below.refl _ _) rfl⟩
                      case s22 =>
                        refine Grow.step_on (g := 19) (b := false) (d := 214) (by rfl) (by rfl) (by rfl) (by kernel_rfl) (fun v W h => h) ?_
                        intro E W ec eg ef hG hd hu R HR1
                        have e16 : E (.tmp 16) = .pointer (some ⟨pm, 0, none⟩) := hu 16 (by kernel_rfl)
                        clear hd hu
                        go_simp
                        exact HR1.out _ _ (Below.refl _ _) rfl
                      case s23 =>
                        refine Grow.step_on (g := 19) (b := false) (d := 214) (by rfl) (by rfl) (by rfl) (by kernel_rfl) (fun v W h => h) ?_
                        intro E W ec eg ef hG hd hu R HR1
                        have e217 : E (.tmp 217) = .pointer (some ⟨pm, 3, none⟩) := hd 22 217 (by kernel_rfl)
                        clear hd hu
                        have hcl : W.cell? ⟨pm, 3, none⟩ = some (.int .u64 (M'.next : Int)) := by { rw [cell_of_cells (((Grow.below_of_drew hG).block _ (lt_of_cells HY.out.1)).trans HY.out.1) 3, HY.out.2.1]; rfl }
                        go_simp
                        exact HR1.out _ _ (Below.refl _ _) rfl
                      case s24 =>
                        refine Grow.step_on (g := 19) (b := false) (d := 214) (by rfl) (by rfl) (by rfl) (by kernel_rfl) (fun v W h => h) ?_
                        intro E W ec eg ef hG hd hu R HR1
                        have e216 : E (.tmp 216) = .int .u64 (M'.next : Int) := hd 21 216 (by kernel_rfl)
                        have e218 : E (.tmp 218) = .int .u64 (M'.next : Int) := hd 23 218 (by kernel_rfl)
                        clear hd hu
                        go_simp
                        exact HR1.out _ _ (Below.refl _ _) rfl
                      case s25 =>
                        refine Grow.step_on (g := 12) (b := true) (d := 207) (by rfl) (by rfl) (by rfl) (by kernel_rfl) (fun v W h => h) ?_
                        intro E W ec eg ef hG hd hu R HR1
                        have e214 : E (.tmp 214) = .bool false := hd 19 214 (by kernel_rfl)
                        have e219 : E (.tmp 219) = .bool false := hd 24 219 (by kernel_rfl)
                        clear hd hu
                        go_simp
                        exact HR1.out _ _ (Below.refl _ _) rfl
                      case s26 =>
                        refine Grow.step_on (g := 12) (b := true) (d := 207) (by rfl) (by rfl) (by rfl) (by kernel_rfl) (fun v W h => h) ?_
                        intro E W ec eg ef hG hd hu R HR1
                        have e220 : E (.tmp 220) = .bool false := hd 25 220 (by kernel_rfl)
                        clear hd hu
                        go_simp
                        exact HR1.out _ _ (Below.refl _ _) rfl
                      case s27 =>
                        refine Grow.step_on (g := 26) (b := false) (d := 221) (by rfl) (by rfl) (by rfl) (by kernel_rfl) (fun v W h => h) ?_
                        intro E W ec eg ef hG hd hu R HR1
                        have e14 : E (.tmp 14) = .pointer (some ⟨p', 0, none⟩) := hu 14 (by kernel_rfl)
                        clear hd hu
                        go_simp
                        exact HR1.out _ _ (Below.refl _ _) rfl
                      case s28 =>
                        refine Grow.step_on (g := 26) (b := false) (d := 221) (by rfl) (by rfl) (by rfl) (by kernel_rfl) (fun v W h => h) ?_
                        intro E W ec eg ef hG hd hu R HR1
                        have e222 : E (.tmp 222) = .pointer (some ⟨p', 0, none⟩) := hd 27 222 (by kernel_rfl)
                        clear hd hu
                        have hPX := HX.out.1.below (Grow.below_of_drew hG)
                        have hLG := hPX.lg p' rfl
                        go_simp
                        refine (wfirst_any hLG.1).mono ?_
                        rintro _ _ ⟨rfl, rfl⟩
                        exact ⟨_, rfl, HR1.out _ _ (Below.refl _ _) rfl⟩
                      case s29 =>
                        refine Grow.step_on (g := 26) (b := false) (d := 221) (by rfl) (by rfl) (by rfl) (by kernel_rfl) (fun v W h => h) ?_
                        intro E W ec eg ef hG hd hu R HR1
                        have e16 : E (.tmp 16) = .pointer (some ⟨pm, 0, none⟩) := hu 16 (by kernel_rfl)
                        clear hd hu
                        go_simp
                        exact HR1.out _ _ (Below.refl _ _) rfl
                      case s30 =>
                        refine Grow.step_on (g := 26) (b := false) (d := 221) (by rfl) (by rfl) (by rfl) (by kernel_rfl) (fun v W h => h) ?_
                        intro E W ec eg ef hG hd hu R HR1
                        have e224 : E (.tmp 224) = .pointer (some ⟨pm, 2, none⟩) := hd 29 224 (by kernel_rfl)
                        clear hd hu
                        have hcl : W.cell? ⟨pm, 2, none⟩ = some (.int .u64 (M'.first : Int)) := by { rw [cell_of_cells (((Grow.below_of_drew hG).block _ (lt_of_cells HY.out.1)).trans HY.out.1) 2, HY.out.2.1]; rfl }
                        go_simp
                        exact HR1.out _ _ (Below.refl _ _) rfl
                      case s31 =>
                        refine Grow.step_on (g := 26) (b := false) (d := 221) (by rfl) (by rfl) (by rfl) (by kernel_rfl) (fun v W h => h) ?_
                        intro E W ec eg ef hG hd hu R HR1
                        have e223 : E (.tmp 223) = .int .u64 (M'.first : Int) := hd 28 223 (by kernel_rfl)
                        have e225 : E (.tmp 225) = .int .u64 (M'.first : Int) := hd 30 225 (by kernel_rfl)
                        clear hd hu
                        go_simp
                        exact HR1.out _ _ (Below.refl _ _) rfl
                      case s32 =>
                        refine Grow.step_on (g := 12) (b := true) (d := 207) (by rfl) (by rfl) (by rfl) (by kernel_rfl) (fun v W h => h) ?_
                        intro E W ec eg ef hG hd hu R HR1
                        have e221 : E (.tmp 221) = .bool false := hd 26 221 (by kernel_rfl)
                        have e226 : E (.tmp 226) = .bool false := hd 31 226 (by kernel_rfl)
                        clear hd hu
                        go_simp
                        exact HR1.out _ _ (Below.refl _ _) rfl
                      case s33 =>
                        refine Grow.step_on (g := 12) (b := true) (d := 207) (by rfl) (by rfl) (by rfl) (by kernel_rfl) (fun v W h => h) ?_
                        intro E W ec eg ef hG hd hu R HR1
                        have e227 : E (.tmp 227) = .bool false := hd 32 227 (by kernel_rfl)
                        clear hd hu
                        go_simp
                        exact HR1.out _ _ (Below.refl _ _) rfl
                      case s34 =>
                        refine Grow.step_on (g := 33) (b := false) (d := 228) (by rfl) (by rfl) (by rfl) (by kernel_rfl) (fun v W h => h) ?_
                        intro E W ec eg ef hG hd hu R HR1
                        have e14 : E (.tmp 14) = .pointer (some ⟨p', 0, none⟩) := hu 14 (by kernel_rfl)
                        clear hd hu
                        go_simp
                        exact HR1.out _ _ (Below.refl _ _) rfl
                      case s35 =>
                        refine Grow.step_on (g := 33) (b := false) (d := 228) (by rfl) (by rfl) (by rfl) (by kernel_rfl) (fun v W h => h) ?_
                        intro E W ec eg ef hG hd hu R HR1
                        have e229 : E (.tmp 229) = .pointer (some ⟨p', 0, none⟩) := hd 34 229 (by kernel_rfl)
                        clear hd hu
                        have hPX := HX.out.1.below (Grow.below_of_drew hG)
                        have hLG := hPX.lg p' rfl
                        go_simp
                        refine (wfree_any hLG.1 hLG.2).mono ?_
                        rintro _ _ ⟨rfl, rfl⟩
                        exact ⟨_, rfl, HR1.out _ _ (below_drew (Below.refl _ _)) rfl⟩
                      case s36 =>
                        refine Grow.step_on (g := 33) (b := false) (d := 228) (by rfl) (by rfl) (by rfl) (by kernel_rfl) (fun v W h => h) ?_
                        intro E W ec eg ef hG hd hu R HR1
                        have e16 : E (.tmp 16) = .pointer (some ⟨pm, 0, none⟩) := hu 16 (by kernel_rfl)
                        clear hd hu
                        go_simp
                        exact HR1.out _ _ (Below.refl _ _) rfl
                      case s37 =>
                        refine Grow.step_on (g := 33) (b := false) (d := 228) (by rfl) (by rfl) (by rfl) (by kernel_rfl) (fun v W h => h) ?_
                        intro E W ec eg ef hG hd hu R HR1
                        have e231 : E (.tmp 231) = .pointer (some ⟨pm, 1, none⟩) := hd 36 231 (by kernel_rfl)
                        clear hd hu
                        have hcl : W.cell? ⟨pm, 1, none⟩ = some (.int .i64 M'.n) := by { rw [cell_of_cells (((Grow.below_of_drew hG).block _ (lt_of_cells HY.out.1)).trans HY.out.1) 1, HY.out.2.1]; rfl }
                        go_simp
                        exact HR1.out _ _ (Below.refl _ _) rfl
                      case s38 =>
                        refine Grow.step_on (g := 33) (b := false) (d := 228) (by rfl) (by rfl) (by rfl) (by kernel_rfl) (fun v W h => h) ?_
                        intro E W ec eg ef hG hd hu R HR1
                        have e16 : E (.tmp 16) = .pointer (some ⟨pm, 0, none⟩) := hu 16 (by kernel_rfl)
                        clear hd hu
                        go_simp
                        exact HR1.out _ _ (Below.refl _ _) rfl
                      case s39 =>
                        refine Grow.step_on (g := 33) (b := false) (d := 228) (by rfl) (by rfl) (by rfl) (by kernel_rfl) (fun v W h => h) ?_
                        intro E W ec eg ef hG hd hu R HR1
                        have e233 : E (.tmp 233) = .pointer (some ⟨pm, 4, none⟩) := hd 38 233 (by kernel_rfl)
                        clear hd hu
                        have hcl : W.cell? ⟨pm, 4, none⟩ = some (.int .i64 (M'.have_ : Int)) := by { rw [cell_of_cells (((Grow.below_of_drew hG).block _ (lt_of_cells HY.out.1)).trans HY.out.1) 4, HY.out.2.1]; rfl }
                        go_simp
                        exact HR1.out _ _ (Below.refl _ _) rfl
                      case s40 =>
                        refine Grow.step_on (g := 33) (b := false) (d := 228) (by rfl) (by rfl) (by rfl) (by kernel_rfl) (fun v W h => h) ?_
                        intro E W ec eg ef hG hd hu R HR1
                        have e232 : E (.tmp 232) = .int .i64 M'.n := hd 37 232 (by kernel_rfl)
                        have e234 : E (.tmp 234) = .int .i64 (M'.have_ : Int) := hd 39 234 (by kernel_rfl)
                        clear hd hu
                        have hwp := HY.out.2.2.2.2
                        go_simp
                        exact HR1.out _ _ (Below.refl _ _) rfl
                      case s41 =>
                        refine Grow.step_on (g := 33) (b := false) (d := 228) (by rfl) (by rfl) (by rfl) (by kernel_rfl) (fun v W h => h) ?_
                        intro E W ec eg ef hG hd hu R HR1
                        have e230 : E (.tmp 230) = .int .i64 (M'.n - (M'.have_ : Int)) := hd 35 230 (by kernel_rfl)
                        have e235 : E (.tmp 235) = .int .i64 (M'.n - (M'.have_ : Int)) := hd 40 235 (by kernel_rfl)
                        clear hd hu
                        go_simp
                        exact HR1.out _ _ (Below.refl _ _) rfl
                      case s42 =>
                        refine Grow.step_on (g := 12) (b := true) (d := 207) (by rfl) (by rfl) (by rfl) (by kernel_rfl) (fun v W h => h) ?_
                        intro E W ec eg ef hG hd hu R HR1
                        have e228 : E (.tmp 228) = .bool false := hd 33 228 (by kernel_rfl)
                        have e236 : E (.tmp 236) = .bool false := hd 41 236 (by kernel_rfl)
                        clear hd hu
                        go_simp
                        exact HR1.out _ _ (Below.refl _ _) rfl
                      case s43 =>
                        refine Grow.step_on (g := 9) (b := false) (d := 204) (by rfl) (by rfl) (by rfl) (by kernel_rfl) (fun v W h => h) ?_
                        intro E W ec eg ef hG hd hu R HR1
                        have e207 : E (.tmp 207) = .bool true := hd 12 207 (by kernel_rfl)
                        have e237 : E (.tmp 237) = .bool false := hd 42 237 (by kernel_rfl)
                        clear hd hu
                        go_simp
                        exact HR1.out _ _ (Below.refl _ _) rfl
                      case s44 =>
                        refine Grow.step_in (by rfl) (by rfl) ?_
                        intro E W ec eg ef hG hd hu R HR1
                        have e204 : E (.tmp 204) = .bool false := hd 9 204 (by kernel_rfl)
                        have e238 : E (.tmp 238) = .bool false := hd 43 238 (by kernel_rfl)
                        clear hd hu
                        go_simp
                        exact HR1.out _ _ (Below.refl _ _) rfl
                    case gfin =>
                      intro W hG
                      refine Grow.fin_dst (by rfl) ?_
                      rintro _ rfl
                      refine Grow.fin_dst (by rfl) ?_
                      rintro _ rfl
                      refine Grow.fin_dst (by rfl) ?_
                      rintro _ rfl
                      refine Grow.fin_dst (by rfl) ?_
                      rintro _ rfl
                      refine Grow.fin_dst (by rfl) ?_
                      rintro _ rfl
                      refine Grow.fin_dst (by rfl) ?_
                      rintro _ rfl
                      refine Grow.fin_dst (by rfl) ?_
                      rintro _ rfl
                      refine Grow.fin_dst (by rfl) ?_
                      rintro _ rfl
                      refine Grow.fin_dst (by rfl) ?_
                      rintro _ rfl
                      refine Grow.fin_dst (by rfl) ?_
                      rintro _ rfl
                      refine Grow.fin_dst (by rfl) ?_
                      rintro _ rfl
                      refine Grow.fin_dst (by rfl) ?_
                      rintro _ rfl
                      refine Grow.fin_dst (by rfl) ?_
                      rintro _ rfl
                      refine Grow.fin_dst (by rfl) ?_
                      rintro _ rfl
                      refine Grow.fin_dst (by rfl) ?_
                      rintro _ ⟨AR, nR, cR, rfl, _⟩
                      refine Grow.fin_dst (by rfl) ?_
                      rintro _ rfl
                      refine Grow.fin_dst (by rfl) ?_
                      rintro _ rfl
                      refine Grow.fin_dst (by rfl) ?_
                      rintro _ rfl
                      refine Grow.fin_dst (by rfl) ?_
                      rintro _ rfl
                      refine Grow.fin_dst (by rfl) ?_
                      rintro _ rfl
                      refine Grow.fin_dst (by rfl) ?_
                      rintro _ rfl
                      refine Grow.fin_dst (by rfl) ?_
                      rintro _ rfl
                      refine Grow.fin_dst (by rfl) ?_
                      rintro _ rfl
                      refine Grow.fin_dst (by rfl) ?_
                      rintro _ rfl
                      refine Grow.fin_dst (by rfl) ?_
                      rintro _ rfl
                      refine Grow.fin_dst (by rfl) ?_
                      rintro _ rfl
                      refine Grow.fin_dst (by rfl) ?_
                      rintro _ rfl
                      refine Grow.fin_dst (by rfl) ?_
                      rintro _ rfl
                      refine Grow.fin_dst (by rfl) ?_
                      rintro _ rfl
                      refine Grow.fin_dst (by rfl) ?_
                      rintro _ rfl
                      refine Grow.fin_dst (by rfl) ?_
                      rintro _ rfl
                      refine Grow.fin_dst (by rfl) ?_
                      rintro _ rfl
                      refine Grow.fin_dst (by rfl) ?_
                      rintro _ rfl
                      refine Grow.fin_dst (by rfl) ?_
                      rintro _ rfl
                      refine Grow.fin_dst (by rfl) ?_
                      rintro _ rfl
                      refine Grow.fin_dst (by rfl) ?_
                      rintro _ rfl
                      refine Grow.fin_dst (by rfl) ?_
                      rintro _ rfl
                      refine Grow.fin_dst (by rfl) ?_
                      rintro _ rfl
                      refine Grow.fin_dst (by rfl) ?_
                      rintro _ rfl
                      refine Grow.fin_dst (by rfl) ?_
                      rintro _ rfl
                      refine Grow.fin_dst (by rfl) ?_
                      rintro _ rfl
                      refine Grow.fin_dst (by rfl) ?_
                      rintro _ rfl
                      refine Grow.fin_dst (by rfl) ?_
                      rintro _ rfl
                      refine Grow.fin_dst (by rfl) ?_
                      rintro _ rfl
                      refine Grow.fin_dst (by rfl) ?_
                      rintro _ rfl
                      simp only [Act.put, List.setIfInBounds_toArray, List.set_cons_zero, List.set_cons_succ]
                      refine Grow.fin_end ?_
                      have HB9 := Lib.hid (Grow.below_of_drew hG)
                      clear hG
                      go_wp2_with fail
                      go_roundw
                      case rel =>
                        unfold RWp
                        exact ⟨i + 1, d', some p', M', E', by have := HGO.out; omega, by have := HGO.out; omega, rfl, rfl, rfl, by simp, ⟨⟨_, HX.out.1.below HB9.out⟩, HX.out.2.2.2.2⟩⟩
                      case measure => simp only [intOf]; have := HGO.out; omega
          · have h2' : ¬ (i : Int) < 24 := by omega
            have HB : Hid (Below w.heap.size w wr) := Lib.hid (by obtain ⟨R, hR⟩ := HR.out.2.2.pl; exact hR.dsk.bel)
            clear h1 h2
            go_wp2_with fail
            go_ret
            exact ⟨rfl, HB.out⟩
        · have h1' : ¬ (i : Int) < (ns : Int) := by omega
          have HB : Hid (Below w.heap.size w wr) := Lib.hid (by obtain ⟨R, hR⟩ := HR.out.2.2.pl; exact hR.dsk.bel)
          clear h1
          go_wp2_with fail
          go_ret
          exact ⟨rfl, HB.out⟩
  · have hp := hE5.out.2 hz
    subst hp
    rw [show lgV none = Value.pointer none from rfl]
    have hne : (E != 0) = true := by simpa using hz
    have HB7 : Hid (Below w.heap.size w w7) := Lib.hid (by obtain ⟨R, hR⟩ := HS.out.pl; exact hR.dsk.bel)
    clear hE5 HS hz
    go_wp2_with fail
    go_loopw [14, 18] (fun lg i wr => lg = .pointer none ∧ i = .int .i64 0 ∧ wr = w7) (fun _ _ _ => 0)
    case atStart => exact ⟨rfl, rfl, rfl⟩
    case round =>
      obtain ⟨rfl, rfl, rfl⟩ := hrel
      by_cases hns : 0 < ns
      · have hns' : (0 : Int) < (ns : Int) := by omega
        clear hns
        go_wp2_with fail
        go_ret
        exact ⟨rfl, HB7.out⟩
      · have hns' : ¬ (0 : Int) < (ns : Int) := by omega
        clear hns
        go_wp2_with fail
        go_ret
        exact ⟨rfl, HB7.out⟩
end Go.Proofs.Ytkhbmgmppoepjaa
