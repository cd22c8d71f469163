/-
  The statement WalAgain: its walk.
-/
import Derived.Test.YtkhbmgmppoepjaaWalRow
namespace Go.Proofs.Ytkhbmgmppoepjaa
open Go.RowKit

/-- A log that is begun where others stood. -/
structure AgP (d : DM) (M : LM) (n : Nat) (tl : List (List UInt8)) (used top NA : Nat) : Prop where
  on : OnD d M 0 n
  left : d.left < 0
  recs : M.l = tl
  have_ : M.have_ = used
  next : M.next ≤ top + used
  some : 0 < tl.length → openM (blocksOf d.l ((0 : Nat) : Int) (n : Int)) ((0 : Nat) : Int) (n : Int) = M
  none_ : tl.length = 0 → (openM (blocksOf d.l ((0 : Nat) : Int) (n : Int)) ((0 : Nat) : Int) (n : Int)).l.length = NA
theorem AgP.start {d : DM} {M : LM} {n used least : Nat} {tl : List (List UInt8)} (h : RowP d M 0 n tl used) (hn : n ≤ 65536) (hl : least < 4294967296) :
    AgP d (beginM M ((0 : Nat) : Int) (n : Int) least) n [] 0 4294967296 tl.length ∧ M.next ≤ (beginM M ((0 : Nat) : Int) (n : Int) least).next ∧ least ≤ (beginM M ((0 : Nat) : Int) (n : Int) least).next ∧ (beginM M ((0 : Nat) : Int) (n : Int) least).next < 18446744073709551616 := by
  have h1 := h.next
  have h2 := h.used
  have hmost : mostL (blocksOf d.l ((0 : Nat) : Int) (n : Int)) + 1 < 18446744073709551616 := by
    have : mostL (blocksOf d.l ((0 : Nat) : Int) (n : Int)) ≤ M.next := mostL_le.2 fun c hc => by have := h.on.fit.ends c hc; omega
    omega
  have hb := begin_on (f := 0) (n := n) (least := least) h.on.ok h.on.up h.on.len hmost
  rw [h.op] at hb
  have hnx : (beginM M ((0 : Nat) : Int) (n : Int) least).next = if 0 < M.next ∧ M.next < least then least else M.next := rfl
  refine ⟨⟨hb, h.left, rfl, rfl, ?_, fun h => by simp at h, fun _ => by rw [h.op, h.recs]⟩, ?_, ?_, ?_⟩ <;> (rw [hnx]; split <;> omega)
theorem AgP.step {d : DM} {M : LM} {n used top NA : Nat} {tl : List (List UInt8)} (h : AgP d M n tl used top NA) (ht : top ≤ 4294967296) (hn : n ≤ 65536) (b : List UInt8) (hK : used + blocksN b.length ≤ n) :
    (addM d M b).2.2 = 0 ∧ AgP (addM d M b).1 (addM d M b).2.1 n (tl ++ [b]) (used + blocksN b.length) top NA := by
  have h1 := h.have_
  have h2 := h.next
  obtain ⟨e1, e2, e3, e4⟩ := addM_go h.on h.left b (by rw [h1]; exact hK) (by omega)
  have e5 : (addM d M b).2.1 = addOk M b := by rw [e1]
  refine ⟨by rw [e1], ?_⟩
  rw [e5]
  refine ⟨e3, e2, by rw [addOk, h.recs], by rw [addOk, h1], ?_, fun _ => e4, fun h => by simp at h⟩
  rw [addOk]
  simp only
  omega
theorem AgP.used {d : DM} {M : LM} {n used top NA : Nat} {tl : List (List UInt8)} (h : AgP d M n tl used top NA) : used ≤ n := by have := h.on.have_; rw [h.have_] at this; exact this
theorem AgP.ok {d : DM} {M : LM} {n used top NA : Nat} {tl : List (List UInt8)} (h : AgP d M n tl used top NA) (ht : top ≤ 4294967296) (h1 : 1 ≤ n) (hn : n ≤ 65536) : M.Ok := h.on.okL (by omega) h1 hn (by have := h.next; have := h.used; omega)
theorem AgP.opened {d : DM} {M : LM} {n used top NA : Nat} {tl : List (List UInt8)} (h : AgP d M n tl used top NA) (ht : top ≤ 4294967296) (h1 : 1 ≤ n) (hn : n ≤ 65536) : (openM (blocksOf d.l ((0 : Nat) : Int) (n : Int)) ((0 : Nat) : Int) (n : Int)).Ok := by
  have h2 := h.next
  have h3 := h.used
  have hmost : mostL (blocksOf d.l ((0 : Nat) : Int) (n : Int)) + 1 < 18446744073709551616 := by
    have : mostL (blocksOf d.l ((0 : Nat) : Int) (n : Int)) ≤ M.next := mostL_le.2 fun c hc => by have := h.on.fit.ends c hc; omega
    omega
  exact (open_on (f := 0) (n := n) h.on.ok h.on.up h.on.len hmost).okL (by omega) h1 hn (by show (mostL _ + 1) % 18446744073709551616 < _; omega)
theorem blocks3 {n : Nat} (h : n ≤ 300) : blocksN n ≤ 3 := by
  unfold blocksN
  split <;> omega
def RA1 (w : World) (m g p : Nat) (la : List (List UInt8)) (i : Value) (wr : World) : Prop :=
  ∃ (j u : Nat) (d : DM) (M : LM) (tl : List (List UInt8)), j ≤ la.length ∧ i = .int .i64 (j : Int) ∧ u ≤ 3 * j ∧ tl.length = j ∧ RowP d M 0 40 tl u ∧ d.l.length = 40 ∧ TL w m wr g p d M (.slice none 0 0) []
def RA2 (w : World) (m g p NA : Nat) (lb : List (List UInt8)) (told i : Value) (wr : World) : Prop :=
  ∃ (j u : Nat) (d : DM) (M : LM) (tl : List (List UInt8)), j ≤ lb.length ∧ i = .int .i64 (j : Int) ∧ u ≤ 3 * j ∧ tl.length = j ∧ AgP d M 40 tl u 4294967296 NA ∧ d.l.length = 40 ∧ TL w m wr g p d M told tl
set_option maxHeartbeats 8000000 in
set_option maxRecDepth 100000 in
theorem wagain_long {w : World} (A A2 : Option Addr) (n c n2 c2 : Nat) (least : Int) (hn : 6 < n ∨ 6 < n2) :
    Calls Try.prog 8 #[.slice A n c, .slice A2 n2 c2, .int .u32 least] w fun e w' => e = .returned (.bool true) ∧ Below w.heap.size w w' := by
  have haw := wawake_true w
  by_cases h1 : 6 < n
  · have hn' : (6 : Int) < (n : Int) := by omega
    clear hn h1
    go_enter Try.func8, Try.ntmps8
    go_wp2_with (go_at_call 9; refine haw.mono ?_; clear haw; rintro _ w1 ⟨rfl, hb1⟩)
    go_ret
    exact ⟨rfl, hb1⟩
  · have hn1 : ¬ (6 : Int) < (n : Int) := by omega
    have hn2 : (6 : Int) < (n2 : Int) := by omega
    clear hn h1
    go_enter Try.func8, Try.ntmps8
    go_wp2_with (go_at_call 9; refine haw.mono ?_; clear haw; rintro _ w1 ⟨rfl, hb1⟩)
    go_ret
    exact ⟨rfl, hb1⟩
set_option maxHeartbeats 8000000 in
set_option maxRecDepth 100000 in
theorem wagain_short {w : World} {S S2 : Nat → Prop} {A A2 : Option Addr} {n c n2 c2 : Nat} {la lb : List (List UInt8)} (h : Rws w S A n c la) (h2 : Rws w S2 A2 n2 c2 lb) (least : Nat) (hl : least < 4294967296) (hn : n ≤ 6) (hn2 : n2 ≤ 6) :
    Calls Try.prog 8 #[.slice A n c, .slice A2 n2 c2, .int .u32 (least : Int)] w fun e w' => e = .returned (.bool true) ∧ Below w.heap.size w w' := by
  have haw := wawake_true w
  have hn' : ¬ (6 : Int) < (n : Int) := by omega
  have hn2' : ¬ (6 : Int) < (n2 : Int) := by omega
  have HS := Lib.hid (And.intro h (And.intro h.len hn))
  have HS2 := Lib.hid (And.intro h2 (And.intro h2.len hn2))
  have HL := Lib.hid hl
  have hl64 : IntKind.u64.wrap (least : Int) = (least : Int) := IntWalk.u64_in _ (by omega)
  clear h h2 hn hn2 hl
  go_enter Try.func8, Try.ntmps8
  go_upto_region 6 with (go_at_call 9; refine haw.mono ?_; clear haw; rintro _ w1 ⟨rfl, hb1⟩)
  have hnew := Dsk.new hb1 40 (by omega) (by omega)
  clear hb1
  go_upto_region 7 with (go_at_call 10; refine hnew.mono ?_; clear hnew; rintro _ w2 ⟨g, rfl, hd2⟩)
  obtain ⟨m, hm⟩ : ∃ m, m = w2.heap.size := ⟨_, rfl⟩
  have HM := Lib.hid hm
  rw [← hm] at hd2
  have hst := RowP.start (k := 40) (f := 0) (n := 40) (by omega) (by omega) (by omega)
  have hlen : (newM ((40 : Nat) : Int)).1.l.length = 40 := by decide +kernel
  have hbg := hd2.begin 0 40 1 (by rw [hlen]; omega) (by omega) hst.on.up (by rw [hlen]; omega) (by omega)
  clear hm hd2
  go_upto_region 8 with (go_at_call 20; refine hbg.mono ?_; clear hbg; rintro _ w3 ⟨p, rfl, hl3, hd3, hb3⟩)
  have H3 : Hid (RA1 w m g p la (.int .i64 0) w3) := Lib.hid ⟨0, 0, _, _, [], Nat.zero_le _, rfl, Nat.le_refl _, rfl, hst, hlen, hd3, hl3.mono fun k _ hk => ⟨by have := HM.out; omega, by simp [Value.ownBlock]⟩, World.ownsRow_nil _ _ _ _⟩
  clear hl3 hd3 hb3 hst hlen HM hn' hn2'
  go_wp2_with fail
  go_loopw [12] (fun i wr => RA1 w m g p la i wr) (fun i _ => n - (intOf i).toNat)
  case atStart => exact H3.out
  case round =>
    obtain ⟨j, u, d, M, tl, hj, rfl, huj, htl, hP, hlen, hT⟩ := hrel
    by_cases hlt : j < n
    · have hlt' : (j : Int) < (n : Int) := by omega
      have hadd1 := IntWalk.i64_in ((j : Int) + 1) (by have := HS.out.2.2; omega)
      obtain ⟨q, o, rfl, _, hq, hc⟩ := HS.out.1.row (by omega)
      obtain ⟨Ai, ni, ci, hci, hyi⟩ := hc j hlt
      have hyw : Byt w (· < w.heap.size) Ai ni ci (la[j]?.getD []) := hyi.mono fun b hb _ => hb
      obtain ⟨b, hb⟩ : ∃ b, b = la[j]?.getD [] := ⟨_, rfl⟩
      rw [← hb] at hyw
      have hbl := hyw.len
      have hcr : wr.cell? ⟨q, o + j, none⟩ = some (.slice Ai ni ci) := (hT.dsk.bel.cell (p := ⟨_, _, none⟩) hq).trans hci
      have HY := Lib.hid (And.intro hyw (And.intro hbl (And.intro hq hci)))
      have HR := Lib.hid (And.intro hP (And.intro hT (And.intro hlen (And.intro htl (And.intro hlt huj)))))
      clear hc hci hyi hyw hb hj hT hP hlen htl hq hbl huj
      by_cases hbig : 300 < ni
      · have hbig' : (300 : Int) < (ni : Int) := by omega
        clear hbig
        go_wp2_with fail
        go_ret
        exact ⟨rfl, HR.out.2.1.dsk.bel⟩
      · have hbig' : ¬ (300 : Int) < (ni : Int) := by omega
        have hadd := HR.out.2.1.add (HR.out.1.ok (by omega) (by omega) (by omega)) (HY.out.1.below HR.out.2.1.dsk.bel) (fun k hk => hk) (by omega)
        have hK := blocks3 (n := b.length) (by rw [HY.out.2.1]; omega)
        obtain ⟨hz, hP2⟩ := HR.out.1.step (by omega) b (by have h1 := HR.out.2.2.2.2.2; have h2 := HS.out.2.2; omega)
        rw [hz] at hadd
        have hlen2 : (addM d M b).1.l.length = 40 := by rw [addM_len]; exact HR.out.2.2.1
        generalize (addM d M b).1 = d2 at *
        generalize (addM d M b).2.1 = M2 at *
        have HP2 := Lib.hid (And.intro hP2 (And.intro hlen2 hK))
        clear hz hP2 hlen2 hK hbig
        go_wp2_with (go_at_call 14; refine hadd.mono ?_; clear hadd; rintro _ w5 ⟨rfl, hT5⟩; have H5 := Lib.hid hT5; clear hT5)
        go_roundw
        case rel => unfold RA1; exact ⟨j + 1, u + blocksN b.length, d2, M2, tl ++ [b], by have h1 := HR.out.2.2.2.2.1; have h2 := HS.out.2.1; omega, by simp, by have h1 := HR.out.2.2.2.2.2; have h2 := HP2.out.2.2; omega, by have h1 := HR.out.2.2.2.1; simp; exact h1, HP2.out.1, HP2.out.2.1, H5.out⟩
        case measure => simp only [intOf]; have h1 := HR.out.2.2.2.2.1; omega
    · have hlt' : ¬ (j : Int) < (n : Int) := by omega
      obtain rfl : n = j := by have := HS.out.2.1; omega
      have hPo := hP.op
      obtain ⟨hA, hA1, hA2, hA3⟩ := AgP.start hP (by omega) HL.out
      have hbg := hT.dsk.begin 0 40 least (by rw [hlen]; omega) (by omega) hP.on.up (by rw [hlen]; omega) (by have := HL.out; omega)
      rw [hPo] at hbg
      obtain ⟨MY, hMY⟩ : ∃ MY, MY = beginM M ((0 : Nat) : Int) ((40 : Nat) : Int) least := ⟨_, rfl⟩
      rw [← hMY] at hA hA1 hA2 hA3 hbg
      have hy0 : MY.first = 0 := by rw [hMY]; rfl
      have hokY := hA.ok (by omega) (by omega) (by omega)
      have hfree : MY.n - (MY.have_ : Int) = 40 := by rw [hMY]; rfl
      have HP := Lib.hid (And.intro hP (And.intro hT (And.intro hlen (And.intro htl (And.intro hA (And.intro hA1 (And.intro hA2 (And.intro hy0 (And.intro hokY hfree)))))))))
      clear hP hT hlen htl hPo hA hA1 hA2 hA3 hMY hy0 hokY hfree hj huj hlt
      go_upto_region 16 with (go_at_call 20; refine hbg.mono ?_; clear hbg; rintro _ w4 ⟨py, rfl, hl4, hd4, hb4⟩)
      have hTx := HP.out.2.1.below hb4
      have hTy := HP.out.2.1.again hd4 hl4 hb4
      have hrc := wrecords_any hl4 HP.out.2.2.2.2.2.2.2.2.1
      have HB4 := Lib.hid hb4
      have H4 := Lib.hid (And.intro hTx hTy)
      clear hl4 hd4 hb4 hTx hTy
      have hnA : MY.l = [] := HP.out.2.2.2.2.1.recs
      rw [hnA] at hrc
      have HX := Lib.hid (show decide (MY.next < M.next) = false ∧ decide (MY.next < least) = false from ⟨decide_eq_false (by have := HP.out.2.2.2.2.2.1; omega), decide_eq_false (by have := HP.out.2.2.2.2.2.2.1; omega)⟩)
      clear hnA
      go_wp2_with (first
        | (go_at_call 26; refine hrc.mono ?_; clear hrc; rintro _ w5 ⟨A5, n5, c5, rfl, hr5, hb5⟩
           obtain rfl : n5 = 0 := hr5.len.symm
           have hTx := H4.out.1.below hb5
           have hTy := H4.out.2.below hb5
           have hf1 := wfree_any hTy.lg HP.out.2.2.2.2.2.2.2.2.1
           have hg1 := wfirst_any hTy.lg.drew
           have hn1 := wnext_any hTy.lg.drew
           have hn2 := wnext_any hTx.lg.drew
           rw [HP.out.2.2.2.2.2.2.2.2.2] at hf1
           rw [HP.out.2.2.2.2.2.2.2.1] at hg1
           have H5 := Lib.hid (hTy.below (below_drew (Below.refl _ _)))
           have hx1 := HX.out.1
           have hx2 := HX.out.2
           clear hr5 hb5 hTx hTy)
        | (go_at_call 29; refine hf1.mono ?_; clear hf1; rintro _ _ ⟨rfl, rfl⟩)
        | (go_at_call 28; refine hg1.mono ?_; clear hg1; rintro _ _ ⟨rfl, rfl⟩)
        | (go_at_call 27; refine hn2.mono ?_; clear hn2; rintro _ _ ⟨rfl, rfl⟩)
        | (go_at_call 27; refine hn1.mono ?_; rintro _ _ ⟨rfl, rfl⟩))
      clear hn1 hx1 hx2
      have HA : Hid (RA2 w m g py tl.length lb (.slice none 0 0) (.int .i64 0) w5.drew) := Lib.hid ⟨0, 0, d, MY, [], Nat.zero_le _, rfl, Nat.le_refl _, rfl, HP.out.2.2.2.2.1, HP.out.2.2.1, H5.out⟩
      have HNA := Lib.hid HP.out.2.2.2.1
      clear HX HB4 H4 H5 HP
      go_loopw [15, 16] (fun t i wr => RA2 w m g py tl.length lb t i wr) (fun _ i _ => n2 - (intOf i).toNat)
      case atStart => exact HA.out
      case round =>
        obtain ⟨j, u, d, M, t2, hj, rfl, huj, htl, hP, hlen, hT⟩ := hrel
        obtain ⟨At, ct, rfl, _⟩ := own_strs hT.own
        clear HA
        by_cases hlt : j < n2
        · have hlt' : (j : Int) < (n2 : Int) := by omega
          have hadd1 := IntWalk.i64_in ((j : Int) + 1) (by have := HS2.out.2.2; omega)
          obtain ⟨q, o, rfl, _, hq, hc⟩ := HS2.out.1.row (by omega)
          obtain ⟨Ai, ni, ci, hci, hyi⟩ := hc j hlt
          have hyw : Byt w (· < w.heap.size) Ai ni ci (lb[j]?.getD []) := hyi.mono fun b hb _ => hb
          obtain ⟨b, hb⟩ : ∃ b, b = lb[j]?.getD [] := ⟨_, rfl⟩
          rw [← hb] at hyw
          have hbl := hyw.len
          have hcr : wr.cell? ⟨q, o + j, none⟩ = some (.slice Ai ni ci) := (hT.dsk.bel.cell (p := ⟨_, _, none⟩) hq).trans hci
          have HY := Lib.hid (And.intro hyw (And.intro hbl (And.intro hq hci)))
          have HR := Lib.hid (And.intro hP (And.intro hT (And.intro hlen (And.intro htl (And.intro hlt huj)))))
          clear hc hci hyi hyw hb hj hT hP hlen htl hq hbl huj
          by_cases hbig : 300 < ni
          · have hbig' : (300 : Int) < (ni : Int) := by omega
            clear hbig
            go_wp2_with fail
            go_ret
            exact ⟨rfl, HR.out.2.1.dsk.bel⟩
          · have hbig' : ¬ (300 : Int) < (ni : Int) := by omega
            have hadd := HR.out.2.1.add (HR.out.1.ok (by omega) (by omega) (by omega)) (HY.out.1.below HR.out.2.1.dsk.bel) (fun k hk => hk) (by omega)
            have hK := blocks3 (n := b.length) (by rw [HY.out.2.1]; omega)
            obtain ⟨hz, hP2⟩ := HR.out.1.step (by omega) (by omega) b (by have h1 := HR.out.2.2.2.2.2; have h2 := HS2.out.2.2; omega)
            rw [hz] at hadd
            have hlen2 : (addM d M b).1.l.length = 40 := by rw [addM_len]; exact HR.out.2.2.1
            generalize (addM d M b).1 = d2 at *
            generalize (addM d M b).2.1 = M2 at *
            have HP2 := Lib.hid (And.intro hP2 (And.intro hlen2 hK))
            clear hz hP2 hlen2 hK hbig
            go_upto_region 24 with (go_at_call 14; refine hadd.mono ?_; clear hadd; rintro _ w5 ⟨rfl, hT5⟩)
            have hcr5 : w5.cell? ⟨q, o + j, none⟩ = some (.slice Ai ni ci) := (hT5.dsk.bel.cell (p := ⟨_, _, none⟩) HY.out.2.2.1).trans HY.out.2.2.2
            have hcv : (convert 41 9 (.slice Ai ni ci)).run Try.prog w5 = .ok (.string (st b)) w5 := byt_string (HY.out.1.below hT5.dsk.bel)
            obtain ⟨i0, hi, hz0, hz1, hz2⟩ := info_parts str_info2
            have HI := Lib.hid (And.intro hi (And.intro hz0 (And.intro hz1 hz2)))
            have H5 := Lib.hid hT5
            have HL2 := Lib.hid (show t2.length ≤ 10 by have h1 := HR.out.2.2.2.1; have h2 := HR.out.2.2.2.2.1; have h3 := HS2.out.2.2; omega)
            clear hi hz0 hz1 hz2 hT5 hcr
            go_wp2_with (at_builtin; refine wpList_append_own_at _ rfl _ _ 29 rfl m 9 i0 (.string ByteArray.empty) 1 16 Try.underlying29 HI.out.1 HI.out.2.1 HI.out.2.2.1 HI.out.2.2.2 rfl (by decide) _ t2.length (strs t2) rfl (H5.out.own.alloc _) ⟨w5.heap.size, 0, none⟩ 1 1 [.string (st b)] rfl rfl (cell_one_new _ _ _) (one_of rfl) (by have h1 := HL2.out; unfold maxLen; omega) (by have h1 := HL2.out; omega) (by have := H5.out.dsk.top; simp; omega) ?_)
            intro V6 w6 hown6 hgrow _ hob
            have hT6 := H5.out.told hown6 hgrow (by rw [World.size_alloc]; exact hob)
            obtain ⟨g6, cap6, hv6, _, _⟩ := hown6.form (by omega)
            subst hv6
            have H6 := Lib.hid hT6
            clear hT6 hown6 hgrow hob hcr5 hcv
            go_wp2_with fail
            go_roundw
            case rel =>
              first | refine ⟨_, _, _, ?_, rfl, rfl, rfl⟩ | skip
              unfold RA2; exact ⟨j + 1, u + blocksN b.length, d2, M2, t2 ++ [b], by have h1 := HR.out.2.2.2.2.1; have h2 := HS2.out.2.1; omega, by simp, by have h1 := HR.out.2.2.2.2.2; have h2 := HP2.out.2.2; omega, by have h1 := HR.out.2.2.2.1; simp; exact h1, HP2.out.1, HP2.out.2.1, H6.out⟩
            case measure =>
              have h1 := HR.out.2.2.2.2.1
              show n2 - ((j : Int) + 1).toNat < n2 - (j : Int).toNat
              omega
        · have hlt' : ¬ (j : Int) < (n2 : Int) := by omega
          have hop := hT.dsk.open 0 40 (by rw [hlen]; omega) (by omega) hP.on.up (by rw [hlen]; omega)
          have hokM := hP.ok (by omega) (by omega) (by omega)
          have hokZ := hP.opened (by omega) (by omega) (by omega)
          obtain ⟨MZ, hMZ⟩ : ∃ MZ, MZ = openM (blocksOf d.l ((0 : Nat) : Int) ((40 : Nat) : Int)) ((0 : Nat) : Int) ((40 : Nat) : Int) := ⟨_, rfl⟩
          rw [← hMZ] at hop hokZ
          have hj2 : j = n2 := by have := HS2.out.2.1; omega
          have hsm : 0 < n2 → MZ = M := fun h => by rw [hMZ]; exact hP.some (by omega)
          have hnn : n2 = 0 → MZ.l.length = n := fun h => by rw [hMZ, hP.none_ (by omega)]; exact HNA.out
          have hfew : t2.length ≤ 1000000 := by have h1 := HS2.out.2.2; omega
          have HN := Lib.hid (And.intro hokM (And.intro hokZ (And.intro hsm (And.intro hnn (And.intro hP.recs hfew)))))
          have HT := Lib.hid hT
          clear hj htl hP hlen hT hokM hokZ hsm hnn hfew hMZ hj2 huj HNA
          go_upto_region 26 with (go_at_call 12; refine hop.mono ?_; clear hop; rintro _ w6 ⟨pz, rfl, hl6, hd6, hb6⟩)
          have H6 := Lib.hid (And.intro (HT.out.below hb6) hl6)
          clear hl6 hd6 hb6
          by_cases hz : n2 = 0
          · have hzc : ((n2 : Int) == 0) = true := by rw [hz]; rfl
            have hrz := wrecords_any H6.out.2 HN.out.2.1
            have HZ := Lib.hid (HN.out.2.2.2.1 hz)
            clear hz hlt
            go_wp2_with (go_at_call 26; refine hrz.mono ?_; clear hrz; rintro _ w7 ⟨A7, n7, c7, rfl, hr7, hb7⟩
                         have hn7 : ((n7 : Int) == (n : Int)) = true := by rw [← hr7.len, HZ.out]; simp
                         have H7 := Lib.hid (H6.out.1.below hb7).dsk.bel
                         clear hr7 hb7)
            go_ret
            exact ⟨rfl, H7.out⟩
          · have hzc : ((n2 : Int) == 0) = false := by simpa using hz
            have hMZ := HN.out.2.2.1 (by omega)
            subst hMZ
            have hr1 := wrecords_any H6.out.1.lg HN.out.1
            clear hz hlt
            go_wp2_with (first
              | (go_at_call 26; refine hr1.mono ?_; clear hr1; rintro _ w7 ⟨A5, n5, c5, rfl, hr5, hb5⟩
                 obtain ⟨A9, c9, hv9, hst5⟩ := own_strs (H6.out.1.below hb5).own
                 injection hv9 with e1 e2 e3
                 subst e1 e3
                 have hs1 := same_any hr5 hst5 (by rw [← hr5.len, HN.out.2.2.2.2.1]; exact HN.out.2.2.2.2.2)
                 rw [decide_eq_true HN.out.2.2.2.2.1] at hs1
                 have H7 := Lib.hid hb5
                 clear hr5 hst5 hb5)
              | (go_at_call 25; refine hs1.mono ?_; clear hs1; rintro _ w8 ⟨rfl, hb6⟩
                 have H8 := Lib.hid (H7.out.trans (hb6.mono H7.out.size))
                 have hr2 := wrecords_any (H6.out.2.below H8.out) HN.out.1
                 clear hb6)
              | (go_at_call 26; refine hr2.mono ?_; clear hr2; rintro _ w9 ⟨A7, n7, c7, rfl, hr7, hb7⟩
                 have H9 := Lib.hid (H8.out.trans (hb7.mono H8.out.size))
                 obtain ⟨A9, c9, hv9, hst7⟩ := own_strs (H6.out.1.below H9.out).own
                 injection hv9 with e1 e2 e3
                 subst e1 e3
                 have hs2 := same_any hr7 hst7 (by rw [← hr7.len, HN.out.2.2.2.2.1]; exact HN.out.2.2.2.2.2)
                 rw [decide_eq_true HN.out.2.2.2.2.1] at hs2
                 clear hr7 hst7 hb7)
              | (go_at_call 25; refine hs2.mono ?_; clear hs2; rintro _ w10 ⟨rfl, hb8⟩
                 have H10 := Lib.hid (H9.out.trans (hb8.mono H9.out.size))
                 have hf1 := wfirst_any (H6.out.1.lg.below H10.out)
                 have hf2 := wfirst_any (H6.out.2.below H10.out)
                 clear hb8)
              | (go_at_call 28; refine hf1.mono ?_; clear hf1; rintro _ _ ⟨rfl, rfl⟩)
              | (go_at_call 28; refine hf2.mono ?_; clear hf2; rintro _ _ ⟨rfl, rfl⟩))
            go_ret
            exact ⟨rfl, (H6.out.1.below H10.out).dsk.bel⟩
theorem walk_wagain {w : World} {S S2 : Nat → Prop} {A A2 : Option Addr} {n c n2 c2 : Nat} {la lb : List (List UInt8)} (h : Rws w S A n c la) (h2 : Rws w S2 A2 n2 c2 lb) (least : Nat) (hl : least < 4294967296) :
    Calls Try.prog 8 #[.slice A n c, .slice A2 n2 c2, .int .u32 (least : Int)] w fun e w' => e = .returned (.bool true) ∧ Below w.heap.size w w' := by
  by_cases hn : 6 < n ∨ 6 < n2
  · exact wagain_long A A2 n c n2 c2 least hn
  · exact wagain_short h h2 least hl (by omega) (by omega)
theorem law_wagain {w : World} {S S2 : Nat → Prop} {A A2 : Option Addr} {n c n2 c2 : Nat} {la lb : List (List UInt8)} (h : Rws w S A n c la) (h2 : Rws w S2 A2 n2 c2 lb) {x : Int} (hx : (Lit.int .u32 x).wf = true) :
    Calls Try.prog 8 #[.slice A n c, .slice A2 n2 c2, .int .u32 x] w fun e w' => e = .returned (.bool true) ∧ Below w.heap.size w w' := by
  have bx := bounds_u32 hx
  obtain ⟨x, rfl⟩ := Int.eq_ofNat_of_zero_le bx.1
  exact walk_wagain h h2 x (by omega)
end Go.Proofs.Ytkhbmgmppoepjaa
