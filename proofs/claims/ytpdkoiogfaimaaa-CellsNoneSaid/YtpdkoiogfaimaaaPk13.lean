/-
  Cells: a record of changes, read.
  Cells: a record of all, read.
-/
import Derived.Test.YtpdkoiogfaimaaaPk12
/-! Cells: a record of changes, read. -/
namespace Go.Proofs.Ytpdkoiogfaimaaa
open Go.RowKit Codec

/-- Within a round: a reader, a change that is being read, the changes ahead of it. -/
structure RcS (w1 W : World) (S1 S2 : Nat → Prop) (p x0 : Nat) (l : List UInt8) (e : Int) (v : Value) (acc : List Ch) (CS : Array Value) : Prop where
  rd : Rd W S1 p l e
  gc : Gch W S2 v acc
  tn : Turned (fun k => k = p) w1 W
  row : W.heap[x0]? = some (.cells CS 25 (0, 0))
section
variable {w1 W W' : World} {S1 S2 : Nat → Prop} {p x0 : Nat} {l l' : List UInt8} {e e' : Int} {v : Value} {acc : List Ch} {CS : Array Value}
theorem turned_of_gr {p : Nat} (h : W.grownBy W' (some p)) : Turned (fun k => k = p) W W' := Turned.of_gr h fun _ e => (Option.some.inj e).symm
theorem RcS.call (h : RcS w1 W S1 S2 p x0 l e v acc CS) (h2 : ∀ k, S2 k → k ≠ p) (h0 : x0 ≠ p) (hg : W.grownBy W' (some p)) (hr : Rd W' S1 p l' e') : RcS w1 W' S1 S2 p x0 l' e' v acc CS :=
  ⟨hr, h.gc.turned (turned_of_gr hg) fun k _ hk e => h2 k hk e, h.tn.trans (turned_of_gr hg) fun _ _ h => h, ((turned_of_gr hg).block x0 (lt_of_cells h.row) h0).trans h.row⟩
theorem RcS.store (h : RcS w1 W S1 S2 p x0 l e v acc CS) (h1 : ¬ S1 x0) (h2 : ¬ S2 x0) (h0 : w1.heap.size ≤ x0) (i : Nat) (u : Value) : RcS w1 (W.setCell ⟨x0, i, none⟩ u) S1 S2 p x0 l e v acc (CS.setIfInBounds i u) := by
  have ht : Turned (fun k => k = x0) W (W.setCell ⟨x0, i, none⟩ u) := (Turned.refl (fun k => k = x0) W).set rfl i u
  refine ⟨?_, h.gc.turned ht fun k _ hk e => h2 (by rw [← show k = x0 from e]; exact hk), h.tn.trans ht fun k hk e => by omega, set_of_cells h.row i u⟩
  exact h.rd.turned ht fun k _ hk e => h1 (by rw [← show k = x0 from e]; exact hk)
end

/-- The loop's state. -/
def RcR (w w1 : World) (p M : Nat) (l0 : List UInt8) (e0 : Int) (N : Nat) (v left : Value) (wr : World) : Prop :=
  ∃ (m : Nat) (acc : List Ch) (l : List UInt8) (e : Int), left = .int .u64 (m : Int) ∧ m ≤ M ∧ rcGo M [] l0 e0 = rcGo m acc l e ∧ Rd wr (fun k => w.heap.size ≤ k ∧ k < w1.heap.size) p l e ∧ Gch wr (w1.heap.size ≤ ·) v acc ∧ Turned (fun k => k = p) w1 wr ∧ acc.length + l.length ≤ N
/-- What readChanges tells. -/
def RcPost (w : World) (r : Option (List Ch)) (e : Ending) (w' : World) : Prop :=
  (match r with
   | none => e = .returned (.tuple #[.slice none 0 0, .bool false])
   | some a => ∃ A c, e = .returned (.tuple #[.slice A a.length c, .bool true]) ∧ Chs w' (w.heap.size ≤ ·) A a.length c a) ∧ Below w.heap.size w w'
theorem rcM_no {b : List UInt8} (h : uiX b 0 ≠ 2) : rcM b = none := by
  unfold rcM
  rw [if_pos h]
set_option maxHeartbeats 4000000 in
set_option maxRecDepth 100000 in
theorem readchs_any {w : World} {S : Nat → Prop} {A : Option Addr} {n c : Nat} {b : List UInt8} (hb : Byt w S A n c b) (hn : n ≤ 10000000) :
    Calls Try.prog 36 #[.slice A n c] w fun e w' => RcPost w (rcM b) e w' := by
  have hnr := newReader hb (by omega)
  have HN := Lib.hid (And.intro hb.len hn)
  clear hb hn
  go_enter Try.func36, Try.ntmps36
  go_upto_region 2 with (go_at_call 50; refine hnr.mono ?_; clear hnr; rintro _ w1 ⟨p, rfl, hr1, hb1⟩)
  have hr1 := hr1.mono (T := fun k => w.heap.size ≤ k ∧ k < w1.heap.size) fun k hk h => ⟨h, hk⟩
  have hu1 := uint_any hr1
  have HB1 := Lib.hid (And.intro hb1 hr1.1)
  clear hr1 hb1
  by_cases hk : uiX b 0 = 2
  · have hk' : ((uiX b 0 : Int) != 2) = false := by rw [hk]; rfl
    go_upto_region 5 with (go_at_call 51; refine hu1.mono ?_; clear hu1; rintro _ w2 ⟨rfl, hr2, hg2⟩)
    have hu2 := uint_any hr2
    have HG2 := Lib.hid (turned_of_gr hg2)
    clear hr2 hg2 hk'
    go_upto_region 6 with (go_at_call 51; refine hu2.mono ?_; clear hu2; rintro _ w3 ⟨rfl, hr3, hg3⟩)
    obtain ⟨M, hM⟩ : ∃ M, M = uiX (uiL b 0) (uiE b 0) := ⟨_, rfl⟩
    obtain ⟨l0, hl0⟩ : ∃ l0, l0 = uiL (uiL b 0) (uiE b 0) := ⟨_, rfl⟩
    obtain ⟨e0, he0⟩ : ∃ e0, e0 = uiE (uiL b 0) (uiE b 0) := ⟨_, rfl⟩
    rw [← hl0, ← he0] at hr3
    rw [← hM]
    have hl0n : l0.length ≤ n := by
      have h1 := uiL_length b 0
      have h2 := uiL_length (uiL b 0) (uiE b 0)
      have h3 := HN.out.1
      rw [hl0]
      omega
    have HR : Hid (rcM b = rcEnd (rcGo M [] l0 e0)) := Lib.hid (by
      unfold rcM
      rw [if_neg (by simpa using hk), hM, hl0, he0])
    have HM := Lib.hid (show M < 18446744073709551616 by rw [hM]; exact uiX_lt _ _)
    have H0 : Hid (RcR w w1 p M l0 e0 n (.slice none 0 0) (.int .u64 (M : Int)) w3) := Lib.hid ⟨M, [], l0, e0, rfl, Nat.le_refl _, rfl, hr3, Gch.nil _ _, HG2.out.trans (turned_of_gr hg3) fun _ _ h => h, by simpa using hl0n⟩
    clear hr3 hg3 HG2 hM hl0 he0 hl0n hk
    go_loopw [5, 6] (fun v left wr => RcR w w1 p M l0 e0 n v left wr) (fun _ left _ => (intOf left).toNat)
    case atStart => exact H0.out
    case round =>
      obtain ⟨m, acc, l, e, rfl, hm, hgo, hr, hg, ht, hl⟩ := hrel
      clear H0
      rcases Nat.eq_zero_or_pos m with rfl | hpos
      · have hend := end_rd hr
        have hlt : ¬ (0 : Int) < ((0 : Nat) : Int) := by omega
        rw [rcGo] at hgo
        have HRE := Lib.hid (HR.out.trans (by rw [hgo]))
        have HK := Lib.hid (And.intro hg ht)
        clear hgo hg ht hr hm hl
        by_cases he : endE l e = 0
        · have he' : (endE l e != 0) = false := by simpa using he
          go_wp2_with (go_at_call 53; refine hend.mono ?_; clear hend; rintro _ _ ⟨rfl, rfl⟩)
          go_ret2
          have hr : rcM b = some acc := by rw [HRE.out, rcEnd, if_pos he]
          rw [hr]
          obtain ⟨A2, c2, hv, hcs⟩ := HK.out.1.slice
          exact ⟨⟨A2, c2, by rw [← hv]; rfl, hcs.mono fun k _ h => Nat.le_trans HB1.out.1.size h⟩, HB1.out.1.trans ((HK.out.2.mono (T := (w.heap.size ≤ ·)) fun k _ e => by rw [show k = p from e]; exact HB1.out.2.1).below HB1.out.1.size)⟩
        · have he' : (endE l e != 0) = true := by simpa using he
          go_wp2_with (go_at_call 53; refine hend.mono ?_; clear hend; rintro _ _ ⟨rfl, rfl⟩)
          go_ret2
          have hr : rcM b = none := by rw [HRE.out, rcEnd, if_neg he]
          rw [hr]
          exact ⟨rfl, HB1.out.1.trans ((HK.out.2.mono (T := (w.heap.size ≤ ·)) fun k _ e => by rw [show k = p from e]; exact HB1.out.2.1).below HB1.out.1.size)⟩
      · have hlt : (0 : Int) < (m : Int) := by omega
        have hs1 : IntKind.u64.wrap ((m : Int) - 1) = ((m - 1 : Nat) : Int) := by rw [IntWalk.u64_in _ (by have := HM.out; omega)]; omega
        have HL := Lib.hid (And.intro hgo (And.intro hm hl))
        have hp1 : p < w1.heap.size := HB1.out.2.2
        obtain ⟨A5, c5, rfl, _⟩ := hg.slice
        have H5 : Hid (RcS w1 (wr.alloc (.cells #[.string ⟨#[]⟩, .slice none 0 0, .bool false] 25)) (fun k => w.heap.size ≤ k ∧ k < w1.heap.size) (fun k => w1.heap.size ≤ k ∧ k < wr.heap.size) p wr.heap.size l e (.slice A5 acc.length c5) acc #[.string ⟨#[]⟩, .slice none 0 0, .bool false]) :=
          Lib.hid ⟨hr.turned (T := fun _ => False) (Turned.of_below ((Below.refl _ _).alloc (Nat.le_refl _) _)) fun _ _ _ h => h, (hg.mono fun k hk h => ⟨h, hk⟩).below ((Below.refl _ _).alloc (Nat.le_refl _) _), ht.alloc _, heap_alloc_new wr _⟩
        have HX : Hid (p ≠ wr.heap.size ∧ w1.heap.size ≤ wr.heap.size ∧ p < w1.heap.size) := Lib.hid ⟨by have := ht.size; omega, ht.size, hp1⟩
        have HS2 : Hid (∀ k, w1.heap.size ≤ k ∧ k < wr.heap.size → k ≠ p) := Lib.hid fun k hk e => by omega
        have hln : l.length ≤ 140737488355328 := by have := HN.out.2; omega
        have HLN := Lib.hid hln
        clear hr hg ht hgo hm hl hp1 hln
        go_upto_region 9 with fail
        generalize (wr.alloc (.cells #[.string ⟨#[]⟩, .slice none 0 0, .bool false] 25)) = w5 at *
        generalize wr.heap.size = x0 at *
        have hby := bytes_any (most := 64) H5.out.rd HLN.out (by omega)
        obtain ⟨K, hK⟩ : ∃ K, K = byB l e 64 := ⟨_, rfl⟩
        obtain ⟨l1, hl1⟩ : ∃ l1, l1 = byL l e 64 := ⟨_, rfl⟩
        obtain ⟨e1, he1⟩ : ∃ e1, e1 = byE l e 64 := ⟨_, rfl⟩
        rw [← hK, ← hl1, ← he1] at hby
        have HEQ := Lib.hid (And.intro hK (And.intro hl1 he1))
        have HL1 : Hid (l1.length ≤ 140737488355328) := Lib.hid (by have := byL_len l e 64; have := HLN.out; rw [hl1]; omega)
        clear hK hl1 he1
        go_upto_region 10 with (go_at_call 52; refine hby.mono ?_; clear hby; rintro _ w6 ⟨A6, n6, c6, rfl, hy6, hr6, hg6, _⟩; have hcs : (convert 23 9 (.slice A6 n6 c6)).run Try.prog w6 = .ok (.string (st K)) w6 := byt_string hy6; have H6 := Lib.hid (H5.out.call HS2.out HX.out.1.symm hg6 hr6); have hc0 := cell_of_cells H6.out.row 0; have hf0 := free_of_cells H6.out.row 0; clear hy6 hr6 hg6)
        have H7 := Lib.hid (H6.out.store (fun h => by have := HX.out.2.1; omega) (fun h => by omega) HX.out.2.1 0 (.string (st K)))
        clear hcs hc0 hf0 H5 H6
        generalize w6.setCell ⟨x0, 0, none⟩ (.string (st K)) = w7 at *
        have hbo := bool_any H7.out.rd
        obtain ⟨G, hG⟩ : ∃ G, G = boX l1 e1 := ⟨_, rfl⟩
        obtain ⟨l2, hl2⟩ : ∃ l2, l2 = fxL l1 e1 1 := ⟨_, rfl⟩
        obtain ⟨e2, he2⟩ : ∃ e2, e2 = boE l1 e1 := ⟨_, rfl⟩
        rw [← hG, ← hl2, ← he2] at hbo
        have HEQ2 := Lib.hid (And.intro hG (And.intro hl2 he2))
        have HL2 : Hid (l2.length ≤ 140737488355328) := Lib.hid (by have := fxL_len l1 e1 1; have := HL1.out; rw [hl2]; omega)
        clear hG hl2 he2
        go_upto_region 11 with (go_at_call 54; refine hbo.mono ?_; clear hbo; rintro _ w8 ⟨rfl, hr8, hg8⟩; have H8 := Lib.hid (H7.out.call HS2.out HX.out.1.symm hg8 hr8); have hc2 := cell_of_cells H8.out.row 2; have hf2 := free_of_cells H8.out.row 2; clear hr8 hg8)
        have H9 := Lib.hid (H8.out.store (fun h => by have := HX.out.2.1; omega) (fun h => by omega) HX.out.2.1 2 (.bool G))
        clear hc2 hf2 H7 H8
        generalize w8.setCell ⟨x0, 2, none⟩ (.bool G) = w9 at *
        have hc2 : w9.cell? ⟨x0, 2, none⟩ = some (.bool G) := cell_of_cells H9.out.row 2
        have HRC : Hid (rc1 l e = if G = true then (⟨K, [], true⟩, l2, e2) else (⟨K, byB l2 e2 4096, false⟩, byL l2 e2 4096, byE l2 e2 4096)) := Lib.hid (by
          unfold rc1
          rw [← HEQ.out.1, ← HEQ.out.2.1, ← HEQ.out.2.2, ← HEQ2.out.1, ← HEQ2.out.2.1, ← HEQ2.out.2.2])
        cases G
        · have hby2 := bytes_any (most := 4096) H9.out.rd HL2.out (by omega)
          obtain ⟨V, hV⟩ : ∃ V, V = byB l2 e2 4096 := ⟨_, rfl⟩
          obtain ⟨l3, hl3⟩ : ∃ l3, l3 = byL l2 e2 4096 := ⟨_, rfl⟩
          obtain ⟨e3, he3⟩ : ∃ e3, e3 = byE l2 e2 4096 := ⟨_, rfl⟩
          rw [← hV, ← hl3, ← he3] at hby2
          have hrc := HRC.out
          rw [← hV, ← hl3, ← he3, if_neg (by decide)] at hrc
          obtain ⟨X, hX⟩ : ∃ X, X = (⟨K, V, false⟩ : Ch) := ⟨_, rfl⟩
          rw [← hX] at hrc
          have HXE : Hid (X = (rc1 l e).1 ∧ l3 = (rc1 l e).2.1 ∧ e3 = (rc1 l e).2.2) := Lib.hid (by rw [hrc]; exact ⟨rfl, rfl, rfl⟩)
          have HX0 := Lib.hid hX
          clear hV hl3 he3 hrc hX HRC
          go_upto_region 13 with (go_at_call 52; refine hby2.mono ?_; clear hby2; rintro _ wa ⟨Ax, nx, cx, rfl, hya, hra, hga, _⟩; obtain rfl : nx = V.length := hya.len.symm; have Ha := Lib.hid (And.intro (H9.out.call HS2.out HX.out.1.symm hga hra) hya); have hc1 := cell_of_cells Ha.out.1.row 1; have hf1 := free_of_cells Ha.out.1.row 1; clear hya hra hga)
          have HT := Lib.hid (Ha.out.1.store (fun h => by have := HX.out.2.1; omega) (fun h => by omega) HX.out.2.1 1 (.slice Ax V.length cx))
          have hs9 := lt_of_cells H9.out.row
          have HYV := Lib.hid (((Ha.out.2.mono (T := fun k => x0 < k) fun k _ h => by have h' : w9.heap.size ≤ k := h; omega)).turned (T := fun k => k = x0) ((Turned.refl (fun k => k = x0) wa).set rfl 1 (.slice Ax V.length cx)) fun k _ h e => by omega)
          clear hc1 hf1 Ha hc2
          generalize wa.setCell ⟨x0, 1, none⟩ (.slice Ax V.length cx) = wx at *
          have HCS : Hid (((#[Value.string ⟨#[]⟩, .slice none 0 0, .bool false].setIfInBounds 0 (.string (st K))).setIfInBounds 2 (.bool false)).setIfInBounds 1 (.slice Ax V.length cx) = chV Ax X.v.length cx X) := Lib.hid (by rw [HX0.out]; rfl)
          have HYV : Hid (Byt wx (fun k => x0 < k) Ax X.v.length cx X.v) := Lib.hid (by rw [HX0.out]; exact HYV.out)
          have HT := Lib.hid (show RcS w1 wx _ _ p x0 l3 e3 (.slice A5 acc.length c5) acc (((#[Value.string ⟨#[]⟩, .slice none 0 0, .bool false].setIfInBounds 0 (.string (st K))).setIfInBounds 2 (.bool false)).setIfInBounds 1 (.slice Ax V.length cx)) from HT.out)
          clear H9
          have hmb := maybe_any X Ax cx wx
          obtain ⟨CV, hCV⟩ : ∃ CV, CV = chV Ax X.v.length cx X := ⟨_, rfl⟩
          rw [← hCV] at hmb
          have HCV := Lib.hid hCV
          have HROW := Lib.hid (HT.out.row.trans (by rw [HCS.out, ← hCV]))
          clear hCV
          by_cases hmay : mayC X = true
          · rw [hmay] at hmb
            go_upto_region 15 with (first
              | (refine wpList_load_row (by rfl) 25 (.tmp 7) (by rfl) x0 (by rfl) 25 CV (0, 0) _ HROW.out Try.underlying25 (by rfl) (by rw [HCV.out]; exact chg_info) ?_)
              | (go_at_call 37; refine hmb.mono ?_; clear hmb; rintro _ w10 ⟨rfl, hb10⟩; have H10 := Lib.hid hb10; clear hb10))
            have hrow10 := Lib.hid ((H10.out.block _ (lt_of_cells HROW.out)).trans HROW.out)
            have hrw := hrow10.out
            rw [HCV.out] at hrw
            have HRW := Lib.hid (show w10.heap[x0]? = some (.cells #[.string (st X.k), .slice Ax X.v.length cx, .bool X.g] 25 (0, 0)) from hrw)
            have hb11 : Below w10.heap.size w10 (w10.alloc (.cells #[.string (st X.k), .slice Ax X.v.length cx, .bool X.g] 25)) := (Below.refl _ _).alloc (Nat.le_refl _) _
            have hx10 := lt_of_cells HRW.out
            have HB11 := Lib.hid (H10.out.trans (hb11.mono H10.out.size))
            obtain ⟨A12, c12, w12, hap, hg12, ht12⟩ := (HT.out.gc.below HB11.out).push (q := w10.heap.size) (k := 1) (A := Ax) (n := X.v.length) (c := cx) (x := X) (fun j u hu => by rw [cell_of_cells (heap_alloc_new w10 _)]; exact hu) (HYV.out.below HB11.out) (fun k _ h1 h2 => by omega) (by have := HL.out.2.2; have := HN.out.2; omega) 22
            have H12 := Lib.hid (And.intro hg12 ht12)
            have HX10 := Lib.hid hx10
            clear hrw hb11 hg12 ht12 hrow10 hx10
            go_wp2_with (first
              | (refine wpList_load_row (by rfl) 25 (.tmp 7) (by rfl) x0 (by rfl) 25 #[.string (st X.k), .slice Ax X.v.length cx, .bool X.g] (0, 0) _ HRW.out Try.underlying25 (by rfl) chg_info ?_)
              | (at_builtin; refine wpList_app (by rfl) (.tmp 35) (.tmp 37) 22 (by rfl) (by rfl) (by rfl) hap ?_))
            go_roundw
            case rel =>
              unfold RcR
              have htk := rc1_take (l := l) (e := e) (by rw [← HXE.out.1]; exact hmay)
              have hpl := HX.out.2.1
              refine ⟨m - 1, acc ++ [X], l3, e3, rfl, by have := HL.out.2.1; omega, ?_, ?_, ?_, ?_, ?_⟩
              · have h1 := HL.out.1
                rw [show m = (m - 1) + 1 by omega, rcGo, if_neg (by rw [← HXE.out.1]; simp [hmay]), ← HXE.out.1, ← HXE.out.2.1, ← HXE.out.2.2] at h1
                exact h1
              · exact (HT.out.rd.turned (T := fun _ => False) (Turned.of_below HB11.out) fun _ _ _ h => h).turned H12.out.2 fun k _ h1 h2 => by omega
              · refine H12.out.1.mono fun k hk h => ?_
                have h1 := HT.out.tn.size
                have h2 := HB11.out.size
                rcases h with h | h | h
                · exact h.1
                · omega
                · omega
              · exact (HT.out.tn.trans (Turned.of_below (S := fun k => k = p) HB11.out) fun _ _ h => h).trans H12.out.2 fun k hk h => by omega
              · rw [List.length_append, List.length_singleton, HXE.out.2.1]
                have := HL.out.2.2
                omega
            case measure => simp only [intOf]; omega
          · have hmay' : mayC X = false := by simpa using hmay
            rw [hmay'] at hmb
            clear hmay
            go_wp2_with (first
              | (refine wpList_load_row (by rfl) 25 (.tmp 7) (by rfl) x0 (by rfl) 25 CV (0, 0) _ HROW.out Try.underlying25 (by rfl) (by rw [HCV.out]; exact chg_info) ?_)
              | (go_at_call 37; refine hmb.mono ?_; clear hmb; rintro _ w10 ⟨rfl, hb10⟩; have H10 := Lib.hid hb10; clear hb10))
            go_ret2
            have hr : rcM b = none := by
              rw [HR.out, HL.out.1, show m = (m - 1) + 1 by omega, rcGo, if_pos (by rw [← HXE.out.1]; exact hmay')]
              rfl
            rw [hr]
            exact ⟨rfl, (HB1.out.1.trans ((HT.out.tn.mono (T := (w.heap.size ≤ ·)) fun k _ e => by rw [show k = p from e]; exact HB1.out.2.1).below HB1.out.1.size)).trans (H10.out.mono (Nat.le_trans HB1.out.1.size HT.out.tn.size))⟩
        · have hrc := HRC.out
          rw [if_pos rfl] at hrc
          obtain ⟨X, hX⟩ : ∃ X, X = (⟨K, [], true⟩ : Ch) := ⟨_, rfl⟩
          rw [← hX] at hrc
          obtain ⟨l3, hl3⟩ : ∃ l3, l3 = l2 := ⟨_, rfl⟩
          obtain ⟨e3, he3⟩ : ∃ e3, e3 = e2 := ⟨_, rfl⟩
          rw [← hl3, ← he3] at hrc
          have HXE : Hid (X = (rc1 l e).1 ∧ l3 = (rc1 l e).2.1 ∧ e3 = (rc1 l e).2.2) := Lib.hid (by rw [hrc]; exact ⟨rfl, rfl, rfl⟩)
          have HX0 := Lib.hid hX
          have HT := Lib.hid (show RcS w1 w9 _ _ p x0 l3 e3 (.slice A5 acc.length c5) acc _ by rw [hl3, he3]; exact H9.out)
          clear hrc hX HRC hl3 he3
          go_upto_region 13 with fail
          obtain ⟨Ax, hAx⟩ : ∃ Ax : Option Addr, Ax = none := ⟨_, rfl⟩
          obtain ⟨cx, hcx⟩ : ∃ cx : Nat, cx = 0 := ⟨_, rfl⟩
          have HYV : Hid (Byt w9 (fun k => x0 < k) Ax X.v.length cx X.v) := Lib.hid (by rw [HX0.out, hAx, hcx]; exact Byt.nil _ _ _ _ (Nat.zero_le _))
          have HCS : Hid ((#[Value.string ⟨#[]⟩, .slice none 0 0, .bool false].setIfInBounds 0 (.string (st K))).setIfInBounds 2 (.bool true) = chV Ax X.v.length cx X) := Lib.hid (by rw [HX0.out, hAx, hcx]; rfl)
          clear hAx hcx H9 hc2
          have hmb := maybe_any X Ax cx w9
          obtain ⟨CV, hCV⟩ : ∃ CV, CV = chV Ax X.v.length cx X := ⟨_, rfl⟩
          rw [← hCV] at hmb
          have HCV := Lib.hid hCV
          have HROW := Lib.hid (HT.out.row.trans (by rw [HCS.out, ← hCV]))
          clear hCV
          by_cases hmay : mayC X = true
          · rw [hmay] at hmb
            go_upto_region 15 with (first
              | (refine wpList_load_row (by rfl) 25 (.tmp 7) (by rfl) x0 (by rfl) 25 CV (0, 0) _ HROW.out Try.underlying25 (by rfl) (by rw [HCV.out]; exact chg_info) ?_)
              | (go_at_call 37; refine hmb.mono ?_; clear hmb; rintro _ w10 ⟨rfl, hb10⟩; have H10 := Lib.hid hb10; clear hb10))
            have hrow10 := Lib.hid ((H10.out.block _ (lt_of_cells HROW.out)).trans HROW.out)
            have hrw := hrow10.out
            rw [HCV.out] at hrw
            have HRW := Lib.hid (show w10.heap[x0]? = some (.cells #[.string (st X.k), .slice Ax X.v.length cx, .bool X.g] 25 (0, 0)) from hrw)
            have hb11 : Below w10.heap.size w10 (w10.alloc (.cells #[.string (st X.k), .slice Ax X.v.length cx, .bool X.g] 25)) := (Below.refl _ _).alloc (Nat.le_refl _) _
            have hx10 := lt_of_cells HRW.out
            have HB11 := Lib.hid (H10.out.trans (hb11.mono H10.out.size))
            obtain ⟨A12, c12, w12, hap, hg12, ht12⟩ := (HT.out.gc.below HB11.out).push (q := w10.heap.size) (k := 1) (A := Ax) (n := X.v.length) (c := cx) (x := X) (fun j u hu => by rw [cell_of_cells (heap_alloc_new w10 _)]; exact hu) (HYV.out.below HB11.out) (fun k _ h1 h2 => by omega) (by have := HL.out.2.2; have := HN.out.2; omega) 22
            have H12 := Lib.hid (And.intro hg12 ht12)
            have HX10 := Lib.hid hx10
            clear hrw hb11 hg12 ht12 hrow10 hx10
            go_wp2_with (first
              | (refine wpList_load_row (by rfl) 25 (.tmp 7) (by rfl) x0 (by rfl) 25 #[.string (st X.k), .slice Ax X.v.length cx, .bool X.g] (0, 0) _ HRW.out Try.underlying25 (by rfl) chg_info ?_)
              | (at_builtin; refine wpList_app (by rfl) (.tmp 35) (.tmp 37) 22 (by rfl) (by rfl) (by rfl) hap ?_))
            go_roundw
            case rel =>
              unfold RcR
              have htk := rc1_take (l := l) (e := e) (by rw [← HXE.out.1]; exact hmay)
              have hpl := HX.out.2.1
              refine ⟨m - 1, acc ++ [X], l3, e3, rfl, by have := HL.out.2.1; omega, ?_, ?_, ?_, ?_, ?_⟩
              · have h1 := HL.out.1
                rw [show m = (m - 1) + 1 by omega, rcGo, if_neg (by rw [← HXE.out.1]; simp [hmay]), ← HXE.out.1, ← HXE.out.2.1, ← HXE.out.2.2] at h1
                exact h1
              · exact (HT.out.rd.turned (T := fun _ => False) (Turned.of_below HB11.out) fun _ _ _ h => h).turned H12.out.2 fun k _ h1 h2 => by omega
              · refine H12.out.1.mono fun k hk h => ?_
                have h1 := HT.out.tn.size
                have h2 := HB11.out.size
                rcases h with h | h | h
                · exact h.1
                · omega
                · omega
              · exact (HT.out.tn.trans (Turned.of_below (S := fun k => k = p) HB11.out) fun _ _ h => h).trans H12.out.2 fun k hk h => by omega
              · rw [List.length_append, List.length_singleton, HXE.out.2.1]
                have := HL.out.2.2
                omega
            case measure => simp only [intOf]; omega
          · have hmay' : mayC X = false := by simpa using hmay
            rw [hmay'] at hmb
            clear hmay
            go_wp2_with (first
              | (refine wpList_load_row (by rfl) 25 (.tmp 7) (by rfl) x0 (by rfl) 25 CV (0, 0) _ HROW.out Try.underlying25 (by rfl) (by rw [HCV.out]; exact chg_info) ?_)
              | (go_at_call 37; refine hmb.mono ?_; clear hmb; rintro _ w10 ⟨rfl, hb10⟩; have H10 := Lib.hid hb10; clear hb10))
            go_ret2
            have hr : rcM b = none := by
              rw [HR.out, HL.out.1, show m = (m - 1) + 1 by omega, rcGo, if_pos (by rw [← HXE.out.1]; exact hmay')]
              rfl
            rw [hr]
            exact ⟨rfl, (HB1.out.1.trans ((HT.out.tn.mono (T := (w.heap.size ≤ ·)) fun k _ e => by rw [show k = p from e]; exact HB1.out.2.1).below HB1.out.1.size)).trans (H10.out.mono (Nat.le_trans HB1.out.1.size HT.out.tn.size))⟩
  · have hk' : ((uiX b 0 : Int) != 2) = true := by simp; omega
    go_wp2_with (go_at_call 51; refine hu1.mono ?_; clear hu1; rintro _ w2 ⟨rfl, hr2, hg2⟩)
    go_ret2
    rw [rcM_no hk]
    exact ⟨rfl, HB1.out.1.trans (((turned_of_gr hg2).mono (T := (w.heap.size ≤ ·)) fun k _ e => by rw [show k = p from e]; exact HB1.out.2.1).below HB1.out.1.size)⟩
end Go.Proofs.Ytpdkoiogfaimaaa

/-! Cells: a record of all, read. -/
namespace Go.Proofs.Ytpdkoiogfaimaaa
open Go.RowKit Codec

theorem st_toList (l : List UInt8) : (st l).toList = l := by simp [st]
theorem run_leq_st (t : TypeId) (a b : List UInt8) (W : World) : (binOp .leq t (.string (st a)) (.string (st b))).run Try.prog W = .ok (.bool (decide (a ≤ b))) W := by
  have e : (Op.bytesLess a b || a == b) = decide (a ≤ b) := by
    rw [bytes_less]
    by_cases h : a < b
    · simp [h, List.le_of_lt h]
    · by_cases h2 : a = b
      · subst h2
        simp
      · have h3 : ¬ a ≤ b := fun h4 => h2 (List.le_antisymm h4 (kle_of_not h))
        simp [h, h2, h3]
  rw [← e]
  simp [binOp, Op.stringOp, st_toList]
/-- The loop's state. -/
def RaR (w w1 : World) (p mb M : Nat) (l0 : List UInt8) (e0 : Int) (N : Nat) (lastv left : Value) (wr : World) : Prop :=
  ∃ (m : Nat) (t : Tb) (last l : List UInt8) (e : Int), lastv = .string (st last) ∧ left = .int .u64 (m : Int) ∧ m ≤ M ∧ raGo M [] [] l0 e0 = raGo m t last l e ∧ Rd wr (fun k => w.heap.size ≤ k ∧ k < w1.heap.size) p l e ∧ Nms wr (w1.heap.size ≤ ·) mb t ∧ Turned (fun k => k = p) w1 wr ∧ t.length + l.length ≤ N ∧ ∀ q ∈ t, q.1 ≤ last
/-- What readAll tells. -/
def RaPost (w : World) (r : Option Tb) (e : Ending) (w' : World) : Prop :=
  (match r with
   | none => e = .returned (.tuple #[.map none, .bool false])
   | some t => ∃ mb, e = .returned (.tuple #[.map (some mb), .bool true]) ∧ Nms w' (w.heap.size ≤ ·) mb t) ∧ Below w.heap.size w w'
theorem raM_no {b : List UInt8} (h : uiX b 0 ≠ 1) : raM b = none := by
  unfold raM
  rw [if_pos h]
theorem doC_end {t : Tb} {k v : List UInt8} (h : ∀ q ∈ t, q.1 < k) : doC t ⟨k, v, false⟩ = t ++ [(k, v)] := by
  unfold doC
  rw [List.filter_eq_self.2 (fun q hq => by simpa using h q hq), List.filter_eq_nil_iff.2 (fun q hq => by simpa using klt_as (h q hq))]
  simp
set_option maxHeartbeats 4000000 in
set_option maxRecDepth 100000 in
theorem readall_any {w : World} {S : Nat → Prop} {A : Option Addr} {n c : Nat} {b : List UInt8} (hb : Byt w S A n c b) (hn : n ≤ 10000000) :
    Calls Try.prog 33 #[.slice A n c] w fun e w' => RaPost w (raM b) e w' := by
  have hnr := newReader hb (by omega)
  have HN := Lib.hid (And.intro hb.len hn)
  have hmm := @run_makeMap Try.prog
  clear hb hn
  go_enter Try.func33, Try.ntmps33
  go_upto_region 2 with (go_at_call 50; refine hnr.mono ?_; clear hnr; rintro _ w1 ⟨p, rfl, hr1, hb1⟩)
  have hr1 := hr1.mono (T := fun k => w.heap.size ≤ k ∧ k < w1.heap.size) fun k hk h => ⟨h, hk⟩
  have hu1 := uint_any hr1
  have HB1 := Lib.hid (And.intro hb1 hr1.1)
  clear hr1 hb1
  by_cases hk : uiX b 0 = 1
  · have hk' : ((uiX b 0 : Int) != 1) = false := by rw [hk]; rfl
    go_upto_region 4 with (go_at_call 51; refine hu1.mono ?_; clear hu1; rintro _ w2 ⟨rfl, hr2, hg2⟩)
    have HG2 := Lib.hid (And.intro (turned_of_gr hg2) hr2)
    clear hr2 hg2 hk'
    go_upto_region 6 with fail
    have hr2' := HG2.out.2.turned (T := fun _ => False) (Turned.of_below ((Below.refl _ w2).alloc (Nat.le_refl _) (.map #[] 0))) fun _ _ _ h => h
    have hu2 := uint_any hr2'
    have HMM := Lib.hid (made_map w2)
    have HA2 := Lib.hid (show Below w2.heap.size w2 (w2.alloc (.map #[] 0)) from (Below.refl _ w2).alloc (Nat.le_refl _) (.map #[] 0))
    clear hr2' hmm
    generalize w2.alloc (.map #[] 0) = w2b at *
    go_upto_region 7 with (go_at_call 51; refine hu2.mono ?_; clear hu2; rintro _ w3 ⟨rfl, hr3, hg3⟩)
    obtain ⟨M, hM⟩ : ∃ M, M = uiX (uiL b 0) (uiE b 0) := ⟨_, rfl⟩
    obtain ⟨l0, hl0⟩ : ∃ l0, l0 = uiL (uiL b 0) (uiE b 0) := ⟨_, rfl⟩
    obtain ⟨e0, he0⟩ : ∃ e0, e0 = uiE (uiL b 0) (uiE b 0) := ⟨_, rfl⟩
    rw [← hl0, ← he0] at hr3
    rw [← hM]
    have hl0n : l0.length ≤ n := by
      have h1 := uiL_length b 0
      have h2 := uiL_length (uiL b 0) (uiE b 0)
      have h3 := HN.out.1
      rw [hl0]
      omega
    have HR : Hid (raM b = raEnd (raGo M [] [] l0 e0)) := Lib.hid (by
      unfold raM
      rw [if_neg (by simpa using hk), hM, hl0, he0])
    have HM := Lib.hid (show M < 18446744073709551616 by rw [hM]; exact uiX_lt _ _)
    have hp1 : p < w1.heap.size := HB1.out.2.2
    have h12 := HG2.out.1.size
    have HMB := Lib.hid (show w1.heap.size ≤ w2.heap.size from h12)
    have H0 : Hid (RaR w w1 p w2.heap.size M l0 e0 n (.string (st [])) (.int .u64 (M : Int)) w3) := Lib.hid ⟨M, [], [], l0, e0, rfl, rfl, Nat.le_refl _, rfl, hr3,
      (HMM.out.mono (T := fun k => w1.heap.size ≤ k) fun k _ e => by rw [show k = w2.heap.size from e]; exact h12).turned (turned_of_gr hg3) fun k _ h1 h2 => by omega,
      (HG2.out.1.trans (Turned.of_below (S := fun k => k = p) HA2.out) fun _ _ h => h).trans (turned_of_gr hg3) fun _ _ h => h, by simpa using hl0n, by simp⟩
    clear hr3 hg3 HG2 hM hl0 he0 hl0n hk HMM HA2 hp1 h12
    generalize w2.heap.size = mb at *
    have e0' : (Value.string ⟨#[]⟩) = .string (st []) := rfl
    go_loopw [6, 7] (fun last left wr => RaR w w1 p mb M l0 e0 n last left wr) (fun _ left _ => (intOf left).toNat)
    case atStart => exact H0.out
    case round =>
      clear e0'
      obtain ⟨m, t, last, l, e, rfl, rfl, hm, hgo, hr, hg, ht, hl, hlast⟩ := hrel
      clear H0
      rcases Nat.eq_zero_or_pos m with rfl | hpos
      · have hend := end_rd hr
        have hlt : ¬ (0 : Int) < ((0 : Nat) : Int) := by omega
        rw [raGo] at hgo
        have HRE := Lib.hid (HR.out.trans (by rw [hgo]))
        have HK := Lib.hid (And.intro hg ht)
        clear hgo hg ht hr hm hl hlast
        by_cases he : endE l e = 0
        · have he' : (endE l e != 0) = false := by simpa using he
          go_wp2_with (go_at_call 53; refine hend.mono ?_; clear hend; rintro _ _ ⟨rfl, rfl⟩)
          go_ret2
          have hr : raM b = some t := by rw [HRE.out, raEnd, if_pos he]
          rw [hr]
          exact ⟨⟨mb, rfl, HK.out.1.mono fun k _ h => Nat.le_trans HB1.out.1.size h⟩, HB1.out.1.trans ((HK.out.2.mono (T := (w.heap.size ≤ ·)) fun k _ e => by rw [show k = p from e]; exact HB1.out.2.1).below HB1.out.1.size)⟩
        · have he' : (endE l e != 0) = true := by simpa using he
          go_wp2_with (go_at_call 53; refine hend.mono ?_; clear hend; rintro _ _ ⟨rfl, rfl⟩)
          go_ret2
          have hr : raM b = none := by rw [HRE.out, raEnd, if_neg he]
          rw [hr]
          exact ⟨rfl, HB1.out.1.trans ((HK.out.2.mono (T := (w.heap.size ≤ ·)) fun k _ e => by rw [show k = p from e]; exact HB1.out.2.1).below HB1.out.1.size)⟩
      · have hlt : (0 : Int) < (m : Int) := by omega
        have hs1 : IntKind.u64.wrap ((m : Int) - 1) = ((m - 1 : Nat) : Int) := by rw [IntWalk.u64_in _ (by have := HM.out; omega)]; omega
        have HL := Lib.hid (And.intro hgo (And.intro hm (And.intro hl hlast)))
        have hp1 : p < w1.heap.size := HB1.out.2.2
        have hmb := hg.1
        have HX : Hid (p < w1.heap.size ∧ w1.heap.size ≤ mb) := Lib.hid ⟨hp1, hmb⟩
        have hln : l.length ≤ 140737488355328 := by have := HN.out.2; omega
        have hby := bytes_any (most := 64) hr hln (by omega)
        obtain ⟨K, hK⟩ : ∃ K, K = byB l e 64 := ⟨_, rfl⟩
        obtain ⟨l1, hl1⟩ : ∃ l1, l1 = byL l e 64 := ⟨_, rfl⟩
        obtain ⟨e1, he1⟩ : ∃ e1, e1 = byE l e 64 := ⟨_, rfl⟩
        rw [← hK, ← hl1, ← he1] at hby
        have HEQ := Lib.hid (And.intro hK (And.intro hl1 he1))
        have HL1 : Hid (l1.length ≤ 140737488355328) := Lib.hid (by have := byL_len l e 64; rw [hl1]; omega)
        have HK := Lib.hid (And.intro hg ht)
        clear hr hg ht hgo hm hl hp1 hln hK hl1 he1 hlast hmb
        go_upto_region 10 with (go_at_call 52; refine hby.mono ?_; clear hby; rintro _ w6 ⟨A6, n6, c6, rfl, hy6, hr6, hg6, _⟩; have hcs : (convert 23 9 (.slice A6 n6 c6)).run Try.prog w6 = .ok (.string (st K)) w6 := byt_string hy6; have H6 := Lib.hid (And.intro hr6 (And.intro (HK.out.1.turned (turned_of_gr hg6) fun k _ h1 h2 => by have := HX.out.1; omega) (HK.out.2.trans (turned_of_gr hg6) fun _ _ h => h))); clear hy6 hr6 hg6)
        clear hcs
        have hby2 := bytes_any (most := 4096) H6.out.1 HL1.out (by omega)
        obtain ⟨V, hV⟩ : ∃ V, V = byB l1 e1 4096 := ⟨_, rfl⟩
        obtain ⟨l2, hl2⟩ : ∃ l2, l2 = byL l1 e1 4096 := ⟨_, rfl⟩
        obtain ⟨e2, he2⟩ : ∃ e2, e2 = byE l1 e1 4096 := ⟨_, rfl⟩
        rw [← hV, ← hl2, ← he2] at hby2
        have HEQ2 := Lib.hid (And.intro hV (And.intro hl2 he2))
        clear hV hl2 he2
        have HRG : Hid (raGo m t last l e = if K ≤ last then none else raGo (m - 1) (t ++ [(K, V)]) K l2 e2) := Lib.hid (by
          rw [show m = (m - 1) + 1 by omega, raGo, ← HEQ.out.1, ← HEQ.out.2.1, ← HEQ.out.2.2, ← HEQ2.out.1, ← HEQ2.out.2.1, ← HEQ2.out.2.2]
          rfl)
        go_upto_region 11 with (go_at_call 52; refine hby2.mono ?_; clear hby2; rintro _ w7 ⟨A7, n7, c7, rfl, hy7, hr7, hg7, _⟩)
        have H7 := Lib.hid (And.intro hr7 (And.intro (H6.out.2.1.turned (turned_of_gr hg7) fun k _ h1 h2 => by have := HX.out.1; omega) (And.intro (H6.out.2.2.trans (turned_of_gr hg7) fun _ _ h => h) hy7)))
        have hm6 := H6.out.2.1.lt
        have HM6 := Lib.hid hm6
        clear hr7 hg7 hy7 H6 hm6
        have hle := run_leq_st 9 K last
        by_cases hkl : K ≤ last
        · have hd : decide (K ≤ last) = true := by simpa using hkl
          rw [hd] at hle
          go_wp2_with fail
          go_ret2
          have hr : raM b = none := by
            rw [HR.out, HL.out.1, HRG.out, if_pos hkl]
            rfl
          rw [hr]
          exact ⟨rfl, HB1.out.1.trans ((H7.out.2.2.1.mono (T := (w.heap.size ≤ ·)) fun k _ e => by rw [show k = p from e]; exact HB1.out.2.1).below HB1.out.1.size)⟩
        · have hd : decide (K ≤ last) = false := by simpa using hkl
          rw [hd] at hle
          have hKl : last < K := List.not_le.1 hkl
          have hkt : ∀ q ∈ t, q.1 < K := fun q hq => by
            have h1 := HL.out.2.2.2 q hq
            exact Std.lt_of_le_of_lt h1 hKl
          have hKn : K.length ≤ 64 := by rw [HEQ.out.1]; exact by_few l e 64
          obtain ⟨w8, hrun, hn8, hm8⟩ := H7.out.2.1.put (k := K) (v := V) (by omega) (by have := HL.out.2.2.1; have := HN.out.2; omega) H7.out.2.2.2 (fun q _ h => by have := HM6.out; have h' : w6.heap.size ≤ q := h; omega)
          rw [doC_end hkt] at hn8
          have H8 := Lib.hid (And.intro hn8 (mapTurned_turned' hm8))
          have HKN := Lib.hid (And.intro hkl (And.intro hkt hKn))
          clear hkl hKl hkt hKn hn8 hm8
          go_wp2_with fail
          go_roundw
          case rel =>
            unfold RaR
            have hne : K ≠ [] := fun e => HKN.out.1 (by rw [e]; exact List.nil_le _)
            have htk := (by_take l e 64 (.inl (by rw [← HEQ.out.1]; exact hne))).2
            have h67 := HM6.out
            rw [← HEQ.out.1, ← HEQ.out.2.1] at htk
            refine ⟨m - 1, t ++ [(K, V)], K, l2, e2, rfl, rfl, by have := HL.out.2.1; omega, ?_, ?_, ?_, ?_, ?_, ?_⟩
            · rw [HL.out.1, HRG.out, if_neg HKN.out.1]
            · exact H7.out.1.turned H8.out.2 fun k _ h1 h2 => by have := HX.out.2; omega
            · refine H8.out.1.mono fun k _ h => ?_
              rcases h with h | h
              · exact h
              · have h' : w6.heap.size ≤ k := h
                have := HX.out.2
                show w1.heap.size ≤ k
                omega
            · exact H7.out.2.2.1.trans H8.out.2 fun k hk h => by have := HX.out.2; omega
            · have h1 := byL_len l1 e1 4096
              have h2 := HL.out.2.2.1
              rw [List.length_append, List.length_singleton, HEQ2.out.2.1]
              omega
            · intro q hq
              rcases List.mem_append.1 hq with hq | hq
              · exact List.le_of_lt (HKN.out.2.1 q hq)
              · simp only [List.mem_singleton] at hq
                rw [hq]
                exact List.le_refl _
          case measure => simp only [intOf]; omega
  · have hk' : ((uiX b 0 : Int) != 1) = true := by simp; omega
    go_wp2_with (go_at_call 51; refine hu1.mono ?_; clear hu1; rintro _ w2 ⟨rfl, hr2, hg2⟩)
    go_ret2
    rw [raM_no hk]
    exact ⟨rfl, HB1.out.1.trans (((turned_of_gr hg2).mono (T := (w.heap.size ≤ ·)) fun k _ e => by rw [show k = p from e]; exact HB1.out.2.1).below HB1.out.1.size)⟩
end Go.Proofs.Ytpdkoiogfaimaaa
