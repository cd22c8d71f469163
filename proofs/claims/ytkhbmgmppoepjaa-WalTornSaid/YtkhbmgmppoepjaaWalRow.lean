/-
  The statement WalRow: its walk.
-/
import Derived.Test.YtkhbmgmppoepjaaWalTl
import Derived.Test.YtkhbmgmppoepjaaWalSame
namespace Go.Proofs.Ytkhbmgmppoepjaa
open Go.RowKit

theorem zero_scan (k f n : Nat) : scanW (blocksOf (List.replicate k zero128) (f : Int) (n : Int)) 0 ws0 = ws0 := by
  cases hb : blocksOf (List.replicate k zero128) (f : Int) (n : Int) with
  | nil => rfl
  | cons b bs =>
    have hm : b ∈ blocksOf (List.replicate k zero128) (f : Int) (n : Int) := by rw [hb]; simp
    unfold blocksOf at hm
    have h1 := List.eq_of_mem_replicate (List.mem_of_mem_drop (List.mem_of_mem_take hm))
    have h2 : (readL zero128).1 = 0 := by decide +kernel
    rw [h1]
    exact scan_bad (by rw [h2]; simp [badW])
theorem zero_open (k f n : Nat) : openM (blocksOf (List.replicate k zero128) (f : Int) (n : Int)) (f : Int) (n : Int) = ⟨(f : Int), (n : Int), 0, 1, 0, [], 0⟩ := by
  unfold openM
  rw [zero_scan, zero_most]
  rfl
/-- A log of n blocks from f on, on a disk that doesn't stop. -/
structure RowP (d : DM) (M : LM) (f n : Nat) (tl : List (List UInt8)) (used : Nat) : Prop where
  on : OnD d M f n
  left : d.left < 0
  recs : M.l = tl
  have_ : M.have_ = used
  next : M.next = used + 1
  op : openM (blocksOf d.l (f : Int) (n : Int)) (f : Int) (n : Int) = M
theorem RowP.start {k f n : Nat} (hk : 1 ≤ k) (hk2 : k ≤ 65536) (hf : f + n ≤ k) : RowP (newM (k : Int)).1 (beginM (openM (blocksOf (newM (k : Int)).1.l (f : Int) (n : Int)) (f : Int) (n : Int)) (f : Int) (n : Int) 1) f n [] 0 := by
  rw [newM_at k hk hk2]
  simp only
  have hok : DM.Ok ⟨List.replicate k zero128, -1, 0, false⟩ := by have := newM_ok (k : Int); rwa [newM_at k hk hk2] at this
  have hz := zero_open k f n
  have hb := begin_on (d := ⟨List.replicate k zero128, -1, 0, false⟩) (f := f) (n := n) (least := 1) hok rfl (by simpa using hf) (by simp only; rw [zero_most]; omega)
  simp only at hb
  rw [hz] at hb ⊢
  exact ⟨hb, by simp, rfl, rfl, rfl, hz⟩
theorem RowP.step {d : DM} {M : LM} {f n used : Nat} {tl : List (List UInt8)} (h : RowP d M f n tl used) (hn : n ≤ 65536) (b : List UInt8) (hK : used + blocksN b.length ≤ n) :
    (addM d M b).2.2 = 0 ∧ RowP (addM d M b).1 (addM d M b).2.1 f n (tl ++ [b]) (used + blocksN b.length) := by
  have h1 := h.have_
  have h2 := h.next
  obtain ⟨e1, e2, e3, e4⟩ := addM_go h.on h.left b (by rw [h1]; exact hK) (by omega)
  have e5 : (addM d M b).2.1 = addOk M b := by rw [e1]
  refine ⟨by rw [e1], ?_⟩
  rw [e5]
  refine ⟨e3, e2, by rw [addOk, h.recs], by rw [addOk, h1], ?_, e4⟩
  rw [addOk]
  simp only
  omega
theorem RowP.full {d : DM} {M : LM} {f n used : Nat} {tl : List (List UInt8)} (h : RowP d M f n tl used) (b : List UInt8) (hK : n < used + blocksN b.length) : addM d M b = (d, M, 31) := addM_full h.on b (by rw [h.have_]; exact hK)
theorem RowP.used {d : DM} {M : LM} {f n used : Nat} {tl : List (List UInt8)} (h : RowP d M f n tl used) : used ≤ n := by have := h.on.have_; rw [h.have_] at this; exact this
theorem RowP.ok {d : DM} {M : LM} {f n used : Nat} {tl : List (List UInt8)} (h : RowP d M f n tl used) (hf : f ≤ 65536) (h1 : 1 ≤ n) (hn : n ≤ 65536) : M.Ok := h.on.okL hf h1 hn (by have := h.next; have := h.used; omega)
/-- The law's loop. -/
def RRw (w : World) (m g p : Nat) (ls : List (List UInt8)) (f : Nat) (told used i : Value) (wr : World) : Prop :=
  ∃ (j u : Nat) (d : DM) (M : LM) (tl : List (List UInt8)), j ≤ ls.length ∧ i = .int .i64 (j : Int) ∧ used = .int .i64 (u : Int) ∧ tl.length ≤ j ∧ RowP d M f 40 tl u ∧ d.l.length = 60 ∧ TL w m wr g p d M told tl
set_option maxHeartbeats 8000000 in
set_option maxRecDepth 100000 in
theorem walk_wrow {w : World} {S : Nat → Prop} {A : Option Addr} {n c : Nat} {ls : List (List UInt8)} (h : Rws w S A n c ls) (x : Nat) :
    Calls Try.prog 7 #[.slice A n c, .int .u8 (x : Int)] w fun e w' => e = .returned (.bool true) ∧ Below w.heap.size w w' := by
  have haw := wawake_true w
  by_cases hn : 10 < n
  · have hn' : (10 : Int) < (n : Int) := by omega
    clear h hn
    go_enter Try.func7, Try.ntmps7
    go_wp2_with (go_at_call 9; refine haw.mono ?_; clear haw; rintro _ w1 ⟨rfl, hb1⟩)
    go_ret
    exact ⟨rfl, hb1⟩
  · have hn' : ¬ (10 : Int) < (n : Int) := by omega
    obtain ⟨f, hf⟩ : ∃ f, f = x % 20 := ⟨_, rfl⟩
    have hxm : (x : Int) % 20 = (f : Int) := by omega
    have HF := Lib.hid (show f < 20 by omega)
    have HS := Lib.hid (And.intro h (And.intro h.len hn))
    clear h hn hf
    go_enter Try.func7, Try.ntmps7
    go_upto_region 6 with (go_at_call 9; refine haw.mono ?_; clear haw; rintro _ w1 ⟨rfl, hb1⟩)
    have hnew := Dsk.new hb1 60 (by omega) (by omega)
    clear hb1
    go_upto_region 8 with (go_at_call 10; refine hnew.mono ?_; clear hnew; rintro _ w2 ⟨g, rfl, hd2⟩)
    obtain ⟨m, hm⟩ : ∃ m, m = w2.heap.size := ⟨_, rfl⟩
    have HM := Lib.hid hm
    rw [← hm] at hd2
    have hst := RowP.start (k := 60) (f := f) (n := 40) (by omega) (by omega) (by have := HF.out; omega)
    have hlen : (newM ((60 : Nat) : Int)).1.l.length = 60 := by decide +kernel
    have hbg := hd2.begin f 40 1 (by rw [hlen]; have := HF.out; omega) (by omega) hst.on.up (by rw [hlen]; omega) (by omega)
    clear hm hd2
    go_upto_region 9 with (go_at_call 20; refine hbg.mono ?_; clear hbg; rintro _ w3 ⟨p, rfl, hl3, hd3, hb3⟩)
    have H3 : Hid (RRw w m g p ls f (.slice none 0 0) (.int .i64 0) (.int .i64 0) w3) := Lib.hid ⟨0, 0, _, _, [], Nat.zero_le _, rfl, rfl, Nat.le_refl _, hst, hlen, hd3, hl3.mono fun k _ hk => ⟨by have := HM.out; omega, by simp [Value.ownBlock]⟩, World.ownsRow_nil _ _ _ _⟩
    clear hl3 hd3 hb3 hst hlen hxm HM
    go_wp2_with fail
    go_loopw [11, 12, 13] (fun t u i wr => RRw w m g p ls f t u i wr) (fun _ _ i _ => n - (intOf i).toNat)
    case atStart => exact H3.out
    case round =>
      obtain ⟨j, u, d, M, tl, hj, rfl, rfl, htl, hP, hlen, hT⟩ := hrel
      obtain ⟨At, ct, rfl, _⟩ := own_strs hT.own
      by_cases hlt : j < n
      · have hlt' : (j : Int) < (n : Int) := by omega
        have hadd1 := IntWalk.i64_in ((j : Int) + 1) (by have := HS.out.2.2; omega)
        obtain ⟨q, o, rfl, _, hq, hc⟩ := HS.out.1.row (by omega)
        obtain ⟨Ai, ni, ci, hci, hyi⟩ := hc j hlt
        have hyw : Byt w (· < w.heap.size) Ai ni ci (ls[j]?.getD []) := hyi.mono fun b hb _ => hb
        obtain ⟨b, hb⟩ : ∃ b, b = ls[j]?.getD [] := ⟨_, rfl⟩
        rw [← hb] at hyw
        have hbl := hyw.len
        have hcr : wr.cell? ⟨q, o + j, none⟩ = some (.slice Ai ni ci) := (hT.dsk.bel.cell (p := ⟨_, _, none⟩) hq).trans hci
        have HY := Lib.hid (And.intro hyw (And.intro hbl (And.intro hq hci)))
        have HR := Lib.hid (And.intro hP (And.intro hT (And.intro hlen (And.intro htl hlt))))
        clear hc hci hyi hyw hb hj hT hP hlen htl hq hbl
        by_cases hbig : 400 < ni
        · have hbig' : (400 : Int) < (ni : Int) := by omega
          clear hbig
          go_wp2_with fail
          go_ret
          exact ⟨rfl, HR.out.2.1.dsk.bel⟩
        · have hbig' : ¬ (400 : Int) < (ni : Int) := by omega
          have hbk := wblocks_any ni (by omega) wr
          have hadd := HR.out.2.1.add (HR.out.1.ok (by have := HF.out; omega) (by omega) (by omega)) (HY.out.1.below HR.out.2.1.dsk.bel) (fun k hk => hk) (by omega)
          obtain ⟨K, hK⟩ : ∃ K, K = blocksN ni := ⟨_, rfl⟩
          rw [← hK] at hbk
          have hu := HR.out.1.used
          have hKl : K ≤ 401 := by have := blocksN_le ni; omega
          have hsum : IntKind.i64.wrap ((u : Int) + (K : Int)) = (u : Int) + (K : Int) := IntWalk.i64_in _ (by omega)
          by_cases hfit : u + K ≤ 40
          · have hfit' : ¬ (40 : Int) < (u : Int) + (K : Int) := by omega
            obtain ⟨hz, hP2⟩ := HR.out.1.step (by omega) b (by rw [HY.out.2.1, ← hK]; exact hfit)
            rw [HY.out.2.1, ← hK] at hP2
            rw [hz] at hadd
            have hlen2 : (addM d M b).1.l.length = 60 := by rw [addM_len]; exact HR.out.2.2.1
            generalize (addM d M b).1 = d2 at *
            generalize (addM d M b).2.1 = M2 at *
            have HP2 := Lib.hid (And.intro hP2 hlen2)
            clear hz hP2 hlen2 hK hu hKl hfit hbig
            go_upto_region 26 with (first
              | (go_at_call 33; refine hbk.mono ?_; clear hbk; rintro _ _ ⟨rfl, rfl⟩)
              | (go_at_call 14; refine hadd.mono ?_; clear hadd; rintro _ w5 ⟨rfl, hT5⟩))
            have hcr5 : w5.cell? ⟨q, o + j, none⟩ = some (.slice Ai ni ci) := (hT5.dsk.bel.cell (p := ⟨_, _, none⟩) HY.out.2.2.1).trans HY.out.2.2.2
            have hcv : (convert 41 9 (.slice Ai ni ci)).run Try.prog w5 = .ok (.string (st b)) w5 := byt_string (HY.out.1.below hT5.dsk.bel)
            obtain ⟨i0, hi, hz0, hz1, hz2⟩ := info_parts str_info2
            have HI := Lib.hid (And.intro hi (And.intro hz0 (And.intro hz1 hz2)))
            have H5 := Lib.hid hT5
            have HL := Lib.hid (show tl.length ≤ 10 by have h1 := HR.out.2.2.2.1; have h2 := HR.out.2.2.2.2; have h3 := HS.out.2.2; omega)
            clear hi hz0 hz1 hz2 hT5 hcr
            go_wp2_with (at_builtin; refine wpList_append_own_at _ rfl _ _ 29 rfl m 9 i0 (.string ByteArray.empty) 1 16 Try.underlying29 HI.out.1 HI.out.2.1 HI.out.2.2.1 HI.out.2.2.2 rfl (by decide) _ tl.length (strs tl) rfl (H5.out.own.alloc _) ⟨w5.heap.size, 0, none⟩ 1 1 [.string (st b)] rfl rfl (cell_one_new _ _ _) (one_of rfl) (by have h1 := HL.out; unfold maxLen; omega) (by have h1 := HL.out; omega) (by have := H5.out.dsk.top; simp; omega) ?_)
            intro V6 w6 hown6 hgrow _ hob
            have hT6 := H5.out.told hown6 hgrow (by rw [World.size_alloc]; exact hob)
            obtain ⟨g6, cap6, hv6, _, _⟩ := hown6.form (by omega)
            subst hv6
            have H6 := Lib.hid hT6
            clear hT6 hown6 hgrow hob hcr5 hcv
            go_wp2_with fail
            go_roundw
            case rel => unfold RRw; exact ⟨j + 1, u + K, d2, M2, tl ++ [b], by have h1 := HR.out.2.2.2.2; have h2 := HS.out.2.1; omega, by simp, by simp, by have h1 := HR.out.2.2.2.1; simp; exact h1, HP2.out.1, HP2.out.2, H6.out⟩
            case measure => simp only [intOf]; have h1 := HR.out.2.2.2.2; omega
          · have hfit' : (40 : Int) < (u : Int) + (K : Int) := by omega
            rw [HR.out.1.full b (by rw [HY.out.2.1, ← hK]; omega)] at hadd
            simp only at hadd
            clear hK hu hKl hfit hbig
            go_wp2_with (first
              | (go_at_call 33; refine hbk.mono ?_; clear hbk; rintro _ _ ⟨rfl, rfl⟩)
              | (go_at_call 14; refine hadd.mono ?_; clear hadd; rintro _ w5 ⟨rfl, hT5⟩; have H5 := Lib.hid hT5; clear hT5))
            go_roundw
            case rel => unfold RRw; exact ⟨j + 1, u, d, M, tl, by have h1 := HR.out.2.2.2.2; have h2 := HS.out.2.1; omega, by simp, rfl, by have h1 := HR.out.2.2.2.1; omega, HR.out.1, HR.out.2.2.1, H5.out⟩
            case measure => simp only [intOf]; have h1 := HR.out.2.2.2.2; omega
      · have hlt' : ¬ (j : Int) < (n : Int) := by omega
        have hop := hT.dsk.open f 40 (by rw [hlen]; have := HF.out; omega) (by omega) hP.on.up (by rw [hlen]; omega)
        have hPo := hP.op
        rw [hPo] at hop
        have hok := hP.ok (by have := HF.out; omega) (by omega) (by omega)
        have hu := hP.used
        have hn40 := hP.on.n_
        have hnv : M.n - (M.have_ : Int) = 40 - (u : Int) := by rw [hn40, hP.have_]; omega
        have hnx : (M.next : Int) = (u : Int) + 1 := by rw [hP.next]; omega
        have hsub : IntKind.i64.wrap (40 - (u : Int)) = 40 - (u : Int) := IntWalk.i64_in _ (by omega)
        have hu64 : IntKind.u64.wrap (u : Int) = (u : Int) := IntWalk.u64_in _ (by omega)
        have hu65 : IntKind.u64.wrap ((u : Int) + 1) = (u : Int) + 1 := IntWalk.u64_in _ (by omega)
        have hrec := hP.recs
        have hfew : tl.length ≤ 1000000 := by have h1 := HS.out.2.2; have h2 := HS.out.2.1; omega
        have HN := Lib.hid (And.intro hok (And.intro hnv (And.intro hnx (And.intro hrec hfew))))
        have HT := Lib.hid hT
        clear hj htl hP hlen hT hPo hok hu hn40 hnv hnx hrec hfew hlt
        go_upto_region 28 with (go_at_call 12; refine hop.mono ?_; clear hop; rintro _ w4 ⟨p4, rfl, hl4, hd4, hb4⟩)
        have hT4 := HT.out.below hb4
        have hr1 := wrecords_any hT4.lg HN.out.1
        have H4 := Lib.hid (And.intro hT4 hl4)
        clear hl4 hd4 hb4 hT4
        go_wp2_with (first
          | (go_at_call 26; refine hr1.mono ?_; clear hr1; rintro _ w5 ⟨A5, n5, c5, rfl, hr5, hb5⟩
             obtain ⟨A9, c9, hv9, hst5⟩ := own_strs (H4.out.1.below hb5).own
             injection hv9 with e1 e2 e3
             subst e1 e3
             have hs1 := same_any hr5 hst5 (by rw [← hr5.len, HN.out.2.2.2.1]; exact HN.out.2.2.2.2)
             rw [decide_eq_true HN.out.2.2.2.1] at hs1
             have H5 := Lib.hid hb5
             clear hr5 hst5 hb5)
          | (go_at_call 25; refine hs1.mono ?_; clear hs1; rintro _ w6 ⟨rfl, hb6⟩
             have H6 := Lib.hid (H5.out.trans (hb6.mono H5.out.size))
             have hr2 := wrecords_any (H4.out.2.below H6.out) HN.out.1
             clear hb6)
          | (go_at_call 26; refine hr2.mono ?_; clear hr2; rintro _ w7 ⟨A7, n7, c7, rfl, hr7, hb7⟩
             have H7 := Lib.hid (H6.out.trans (hb7.mono H6.out.size))
             obtain ⟨A9, c9, hv9, hst7⟩ := own_strs (H4.out.1.below H7.out).own
             injection hv9 with e1 e2 e3
             subst e1 e3
             have hs2 := same_any hr7 hst7 (by rw [← hr7.len, HN.out.2.2.2.1]; exact HN.out.2.2.2.2)
             rw [decide_eq_true HN.out.2.2.2.1] at hs2
             clear hr7 hst7 hb7)
          | (go_at_call 25; refine hs2.mono ?_; clear hs2; rintro _ w8 ⟨rfl, hb8⟩
             have H8 := Lib.hid (H7.out.trans (hb8.mono H7.out.size))
             have hf1 := wfree_any (H4.out.1.lg.below H8.out) HN.out.1
             have hf2 := wfree_any (H4.out.2.below H8.out).drew HN.out.1
             have hx1 := wnext_any (H4.out.1.lg.below H8.out).drew.drew
             have hx2 := wnext_any (H4.out.2.below H8.out).drew.drew
             rw [HN.out.2.1] at hf1 hf2
             rw [HN.out.2.2.1] at hx1 hx2
             clear hb8)
          | (go_at_call 29; refine hf1.mono ?_; clear hf1; rintro _ _ ⟨rfl, rfl⟩)
          | (go_at_call 29; refine hf2.mono ?_; clear hf2; rintro _ _ ⟨rfl, rfl⟩)
          | (go_at_call 27; refine hx1.mono ?_; clear hx1; rintro _ _ ⟨rfl, rfl⟩)
          | (go_at_call 27; refine hx2.mono ?_; clear hx2; rintro _ _ ⟨rfl, rfl⟩))
        go_ret
        exact ⟨rfl, (H4.out.1.below H8.out).dsk.bel.drew.drew⟩
theorem law_wrow {w : World} {S : Nat → Prop} {A : Option Addr} {n c : Nat} {ls : List (List UInt8)} (h : Rws w S A n c ls) {x : Int} (hx : (Lit.int .u8 x).wf = true) :
    Calls Try.prog 7 #[.slice A n c, .int .u8 x] w fun e w' => e = .returned (.bool true) ∧ Below w.heap.size w w' := by
  have bx := bounds_u8 hx
  obtain ⟨x, rfl⟩ := Int.eq_ofNat_of_zero_le bx.1
  exact walk_wrow h x
end Go.Proofs.Ytkhbmgmppoepjaa
