/-
  The statement BagFull: its walk.
-/
import Derived.Test.YtogfblfekedefaaBagAwake
import Derived.Test.YtogfblfekedefaaConv
namespace Go.Proofs.Ytogfblfekedefaa
open Go.RowKit

def bfM (c : List UInt8) (i : Nat) : Bm := ⟨((i % 3 : Nat) : Int), 1, c, 0⟩
def bfL (c : List UInt8) (j : Nat) : List Bm := (List.range (min j 256)).map (bfM c)
theorem bf_len (c : List UInt8) (j : Nat) : (bfL c j).length = min j 256 := by simp [bfL]
theorem bf_at (c : List UInt8) {j k : Nat} (h : k < min j 256) : (bfL c j)[k]? = some (bfM c k) := by
  unfold bfL
  rw [List.getElem?_map, List.getElem?_range h]
  rfl
theorem bf_put (c : List UInt8) (hc : c.length ≤ 50) (j : Nat) : putB 3 (bfL c j) (bfM c j) = (bfL c (j + 1), if j < 256 then 0 else 31) := by
  have hm : bmay 3 (bfM c j) := by
    refine ⟨?_, ?_, by show (0 : Int) ≤ 1; decide, by show (1 : Int) < 3; decide⟩
    · show (0 : Int) ≤ ((j % 3 : Nat) : Int); omega
    · show ((j % 3 : Nat) : Int) < 3; omega
  unfold putB
  rw [if_neg (fun h => h hm), if_neg (by show ¬ 2097152 < c.length; omega), bf_len]
  by_cases h : j < 256
  · rw [if_neg (by omega), if_pos h]
    unfold bfL
    rw [show min (j + 1) 256 = min j 256 + 1 by omega, List.range_succ, List.map_append, show min j 256 = j by omega]
    rfl
  · rw [if_pos (by omega), if_neg h]
    unfold bfL
    rw [show min (j + 1) 256 = min j 256 by omega]
theorem bf_drop (l : List Bm) (j : Nat) : takeB (l.drop j) 0 = l.drop (j + 1) := by
  unfold takeB
  rw [List.take_zero, List.nil_append, List.drop_drop]
theorem mg_built3 (f t : Int) (A : Option Addr) (n c : Nat) : Try.prog.built 31 [(0, .int .i64 f), (1, .int .i64 t), (2, .slice A n c)] = some (mgV f t A n c) := by kernel_rfl
theorem mg_built0 : Try.prog.built 31 [] = some (mgV 0 0 none 0 0) := by kernel_rfl
/-- A string's bytes, in a block of their own that may be written. -/
theorem bf_conv (l : List UInt8) (hl : l.length ≤ 1000000) (W : World) : ∃ c' W', (convert 9 29 (.string (st l))).run Try.prog W = .ok (.slice (some ⟨W.heap.size, 0, none⟩) l.length c') W' ∧ Below W.heap.size W W' ∧ Byt W' (fun b => b = W.heap.size) (some ⟨W.heap.size, 0, none⟩) l.length c' l ∧ W.heap.size < W'.heap.size ∧ ∀ i, i < l.length → W'.frozen? ⟨W.heap.size, i, none⟩ = false := by
  have h := run_bytes_of_string (P := Try.prog) W 9 29 5 (st l) Try.underlying9 Try.underlying29 Try.underlying5
  rw [st_size] at h
  have hge := grownCap_ge W l.length 0 5
  have hle := grownCap_le_maxLen W l.length 0 5 (by unfold maxLen; omega)
  generalize grownCap W l.length 0 5 = C at *
  have hnew : (W.drew.alloc (.cells (bytesRow (st l) C) 5 ((bytesRow (st l) C).size, (bytesRow (st l) C).size + 1))).heap[W.heap.size]? = some _ := heap_alloc_new W.drew _
  refine ⟨C, _, h, (below_drew (Below.refl _ _)).alloc (Nat.le_refl _) _, ⟨rfl, hge, hle, fun h0 => ⟨_, 0, rfl, rfl, by simp, fun i hi => ?_⟩⟩, by simp, fun i hi => ?_⟩
  · rw [cell_of_cells hnew]
    simp [bytesRow, st, Array.getElem?_append, hi]
  · have hs : i < (bytesRow (st l) C).size := by simp [bytesRow, st]; omega
    unfold World.frozen?
    dsimp only
    rw [hnew]
    simp
    omega
theorem bf_set {w : World} {q : Nat} {u : Value} : Turned (fun b => b = q) w (w.setCell ⟨q, 0, none⟩ u) :=
  ⟨rfl, rfl, rfl, by simp [World.setCell], fun k _ hs => Below.heap_setCell w ⟨q, 0, none⟩ u k hs⟩
def RF1 (p N : Nat) (TB : Nat → Prop) (cl : List UInt8) (w3 : World) (i : Value) (wr : World) : Prop := ∃ j : Nat, j ≤ N ∧ i = .int .i64 (j : Int) ∧ Bgs wr TB p 3 (bfL cl j) ∧ Turned TB w3 wr
def RF2 (w : World) (p N : Nat) (cl : List UInt8) (i : Value) (wr : World) : Prop := ∃ j : Nat, j ≤ min N 256 ∧ i = .int .i64 (j : Int) ∧ Bgs wr (w.heap.size ≤ ·) p 3 ((bfL cl N).drop j) ∧ Below w.heap.size w wr
set_option maxHeartbeats 16000000 in
set_option maxRecDepth 100000 in
theorem walk_bfull {w : World} {S : Nat → Prop} {A : Option Addr} {n c : Nat} {cl : List UInt8} (h : Byt w S A n c cl) (y x : Nat) : Calls Try.prog 4 #[.int .u16 (y : Int), .slice A n c, .int .u8 (x : Int)] w fun e w' => e = .returned (.bool true) ∧ Below w.heap.size w w' := by
  have haw := bagawake_true w
  by_cases hn0 : n = 0
  · subst hn0
    clear h
    go_enter Try.func4, Try.ntmps4
    go_wp2_with (go_at_call 7; refine haw.mono ?_; clear haw; rintro _ w1 ⟨rfl, hb1⟩)
    go_ret
    exact ⟨rfl, hb1⟩
  have hn0' : ((n : Int) == 0) = false := beq_eq_false_iff_ne.2 (by omega)
  by_cases hn : 50 < n
  · have hn' : (50 : Int) < (n : Int) := by omega
    clear h hn
    go_enter Try.func4, Try.ntmps4
    go_wp2_with (go_at_call 7; refine haw.mono ?_; clear haw; rintro _ w1 ⟨rfl, hb1⟩)
    go_ret
    exact ⟨rfl, hb1⟩
  have hn' : ¬ (50 : Int) < (n : Int) := by omega
  obtain ⟨N, hN⟩ : ∃ N, N = y % 400 := ⟨_, rfl⟩
  have hy : (y : Int) % 400 = (N : Int) := by omega
  have hwN : IntKind.i64.wrap (N : Int) = (N : Int) := IntWalk.i64_in _ (by omega)
  have HS := Lib.hid (And.intro h (And.intro (show n ≤ 50 by omega) (And.intro (show 0 < n by omega) (And.intro h.len (show N < 400 by omega)))))
  clear h hn hN hn0
  go_enter Try.func4, Try.ntmps4
  go_upto_region 6 with (go_at_call 7; refine haw.mono ?_; clear haw; rintro _ w1 ⟨rfl, hb1⟩)
  have hnew := bgnew_ok w1 3 (by omega) (by omega)
  have HB1 := Lib.hid hb1
  clear hb1
  go_upto_region 7 with (go_at_call 8; refine hnew.mono ?_; clear hnew; rintro _ w2 ⟨p, rfl, hg2, hb2⟩)
  have hb02 := HB1.out.trans (hb2.mono HB1.out.size)
  have hcs : (convert 29 9 (.slice A n c)).run Try.prog w2 = .ok (.string (st cl)) w2 := byt_string (HS.out.1.below hb02)
  obtain ⟨c3, w3, hcv, hb3, hy3, hs3, hf3⟩ := bf_conv cl (by have := HS.out.2.2.2.1; have := HS.out.2.1; omega) w2
  rw [HS.out.2.2.2.1] at hcv hy3
  obtain ⟨TB, hTB⟩ : ∃ TB : Nat → Prop, TB = fun k => (w.heap.size ≤ k ∧ k < w2.heap.size) ∨ w3.heap.size ≤ k := ⟨_, rfl⟩
  have hTq : ¬ TB w2.heap.size := by rw [hTB]; intro h; rcases h with h | h <;> omega
  have hTw : ∀ k, TB k → w.heap.size ≤ k := fun k hk => by rw [hTB] at hk; have h1 := hb02.size; have h2 := hb3.size; rcases hk with h | h <;> omega
  have hTn : ∀ W : World, w3.heap.size ≤ W.heap.size → ∀ k, W.heap.size ≤ k → TB k := fun W hW k hk => by rw [hTB]; exact .inr (Nat.le_trans hW hk)
  have HT := Lib.hid (And.intro hTq (And.intro hTw (And.intro hTn (And.intro hs3 (And.intro (hb02.trans (hb3.mono hb02.size)) (And.intro hy3 (hf3 0 (by have := HS.out.2.2.1; have := HS.out.2.2.2.1; omega))))))))
  have HQ := Lib.hid hb02.size
  have H3 : Hid (RF1 p N TB cl w3 (.int .i64 0) w3) := Lib.hid ⟨0, Nat.zero_le _, rfl, (hg2.mono (T := fun k => TB k) fun k hk h => by rw [hTB]; exact .inl ⟨Nat.le_trans HB1.out.size h, hk⟩).below hb3, Turned.refl _ _⟩
  clear hg2 hb2 hb02 hy3 hf3 hTB hTq hTw hTn hs3 hb3 HB1
  obtain ⟨q, hq⟩ : ∃ q, q = w2.heap.size := ⟨_, rfl⟩
  rw [← hq] at hcv HT HQ
  clear hq
  go_upto_region 11 with fail
  clear hcs hcv
  go_wp2_with fail
  go_loopw [12] (fun i wr => RF1 p N TB cl w3 i wr) (fun i _ => N - (intOf i).toNat)
  case atStart => exact H3.out
  case round =>
    obtain ⟨j, hj, rfl, hg, htt⟩ := hrel
    clear H3
    by_cases hlt : j < N
    · have hlt' : (j : Int) < (N : Int) := by omega
      have hadd := IntWalk.i64_in ((j : Int) + 1) (by have := HS.out.2.2.2.2; omega)
      have htm : (j : Int).tmod 3 = ((j % 3 : Nat) : Int) := by rw [Int.tmod_eq_emod_of_nonneg (by omega)]; omega
      have hby := HT.out.2.2.2.2.2.1.turned htt fun k _ h1 h2 => by rw [h1] at h2; exact HT.out.1 h2
      have hput := bgput_any hg hby (fun k _ h h2 => by rw [h] at h2; exact HT.out.1 h2) ((j % 3 : Nat) : Int) 1 (by have := HS.out.2.1; omega)
      rw [show putB 3 (bfL cl j) ⟨((j % 3 : Nat) : Int), 1, cl, 0⟩ = _ from bf_put cl (by have := HS.out.2.1; have := HS.out.2.2.2.1; omega) j] at hput
      have HJ := Lib.hid (And.intro htt hlt)
      have hts := htt.size
      clear hg hby hlt hj
      by_cases h256 : j < 256
      · have h256' : (j : Int) < 256 := by omega
        rw [if_pos h256] at hput
        clear h256 htt
        go_wp2_with (first
          | (refine wpList_built (by rfl) 31 #[(0, .tmp 50), (1, .const (.int .i64 1)), (2, .tmp 51)] (by rfl) [(0, .int .i64 ((j % 3 : Nat) : Int)), (1, .int .i64 1), (2, .slice (some ⟨q, 0, none⟩) n c3)] (by rfl) _ (mg_built3 _ _ _ _ _) ?_)
          | (go_at_call 9; refine hput.mono ?_; clear hput; rintro _ w4 ⟨rfl, hg4, ht4⟩; have H4 := Lib.hid (And.intro hg4 ht4); clear hg4 ht4))
        go_roundw
        case rel => exact ⟨j + 1, by have := HJ.out.2; omega, by simp, H4.out.1.mono fun k _ h => h.elim id fun h => HT.out.2.2.1 _ hts k h, HJ.out.1.trans H4.out.2 fun _ _ h => h⟩
        case measure => simp only [intOf]; have := HJ.out.2; omega
      · have h256' : ¬ (j : Int) < 256 := by omega
        rw [if_neg h256] at hput
        clear h256 htt
        go_wp2_with (first
          | (refine wpList_built (by rfl) 31 #[(0, .tmp 50), (1, .const (.int .i64 1)), (2, .tmp 51)] (by rfl) [(0, .int .i64 ((j % 3 : Nat) : Int)), (1, .int .i64 1), (2, .slice (some ⟨q, 0, none⟩) n c3)] (by rfl) _ (mg_built3 _ _ _ _ _) ?_)
          | (go_at_call 9; refine hput.mono ?_; clear hput; rintro _ w4 ⟨rfl, hg4, ht4⟩; have H4 := Lib.hid (And.intro hg4 ht4); clear hg4 ht4))
        go_roundw
        case rel => exact ⟨j + 1, by have := HJ.out.2; omega, by simp, H4.out.1.mono fun k _ h => h.elim id fun h => HT.out.2.2.1 _ hts k h, HJ.out.1.trans H4.out.2 fun _ _ h => h⟩
        case measure => simp only [intOf]; have := HJ.out.2; omega
    · have hlt' : ¬ (j : Int) < (N : Int) := by omega
      obtain rfl : N = j := by omega
      have hyq := HT.out.2.2.2.2.2.1.turned htt fun k _ h1 h2 => by rw [h1] at h2; exact HT.out.1 h2
      have hfq : wr.frozen? ⟨q, 0, none⟩ = false := by
        have h1 := htt.block q HT.out.2.2.2.1 HT.out.1
        have h2 := HT.out.2.2.2.2.2.2
        unfold World.frozen? at h2 ⊢
        dsimp only at h2 ⊢
        rw [h1]
        exact h2
      obtain ⟨q', o', hqe, _, hbq, hcq⟩ := hyq.row (by have := HS.out.2.2.1; omega)
      injection hqe with hqe
      injection hqe with e1 e2
      subst e1 e2
      have hc0 := hcq 0 (by have := HS.out.2.2.1; omega)
      rw [Nat.zero_add] at hc0
      generalize (cl[0]?.getD 0).toNat = y0 at hc0
      have hn1 : (0 : Int) < (n : Int) := by have := HS.out.2.2.1; omega
      have HG := Lib.hid (And.intro hg htt)
      clear hg htt hcq hyq hlt hj
      go_upto_region 18 with fail
      generalize hu : (Value.int IntKind.u8 (bits BinOp.xor IntKind.u8 (y0 : Int) (x : Int))) = u
      have hg4 := HG.out.1.turned (bf_set (q := q) (u := u)) (fun k _ h h2 => by rw [h2] at h; exact HT.out.1 h)
      have hb4 : Below w.heap.size w (wr.setCell ⟨q, 0, none⟩ u) := (HT.out.2.2.2.2.1.trans ((HG.out.2.mono (T := fun k => w.heap.size ≤ k) fun k _ h => HT.out.2.1 k h).below HT.out.2.2.2.2.1.size)).setCell (p := ⟨q, 0, none⟩) HQ.out u
      generalize wr.setCell ⟨q, 0, none⟩ u = w4 at *
      have H5 : Hid (RF2 w p N cl (.int .i64 0) w4) := Lib.hid ⟨0, Nat.zero_le _, rfl, hg4.mono fun k _ h => HT.out.2.1 k h, hb4⟩
      clear hg4 hb4 hu hc0 hfq hbq HG
      go_wp2_with fail
      go_loopw [14] (fun i wr => RF2 w p N cl i wr) (fun i _ => 256 - (intOf i).toNat)
      case atStart => exact H5.out
      case round =>
        obtain ⟨t, ht, rfl, hg, hbel⟩ := hrel
        clear H5
        by_cases hlt : t < min N 256
        · have hltN : (t : Int) < (N : Int) := by omega
          have hlt6 : (t : Int) < 256 := by omega
          have hadd := IntWalk.i64_in ((t : Int) + 1) (by omega)
          have htm : (t : Int).tmod 3 = ((t % 3 : Nat) : Int) := by rw [Int.tmod_eq_emod_of_nonneg (by omega)]; omega
          have hx0 : ((bfL cl N).drop t)[0]? = some (bfM cl t) := by rw [List.getElem?_drop, Nat.add_zero]; exact bf_at cl hlt
          have htk := bgtake_ok hg (i := 0) hx0
          rw [bf_drop] at htk
          obtain ⟨T3, hT3⟩ : ∃ T3, T3 = t % 3 := ⟨_, rfl⟩
          rw [← hT3] at htm
          have hz := zero_mg
          obtain ⟨Z0, hZ0⟩ : ∃ Z0, Z0 = mgV 0 0 none 0 0 := ⟨_, rfl⟩
          rw [← hZ0] at hz
          have HZ0 := Lib.hid hZ0
          have HJ := Lib.hid (And.intro hlt (And.intro hbel hT3))
          clear hZ0 hx0 hg hbel hT3 hlt ht
          go_upto_region 22 with (first
            | (go_at_call 11; refine htk.mono ?_; clear htk; rintro _ w6 ⟨A6, n6, c6, Q, rfl, hy6, hg6, ht6⟩
               obtain ⟨GV, hGV⟩ : ∃ GV, GV = mgV (bfM cl t).f (bfM cl t).t A6 n6 c6 := ⟨_, rfl⟩
               rw [show (#[.int .i64 (bfM cl t).f, .int .i64 (bfM cl t).t, .slice A6 n6 c6] : Array Value) = GV from hGV.symm]
               have H6 := Lib.hid (And.intro hy6 (And.intro hg6 ht6))
               have HGV : Hid (GV = mgV (bfM cl t).f (bfM cl t).t A6 n6 c6 ∧ (Try.prog.info? 31).map (·.size) = some GV.size ∧ Z0.size = GV.size ∧ GV.all (·.oneCell') = true) := Lib.hid ⟨hGV, by rw [hGV]; exact mg_info _ _ _ _ _, by rw [hGV, HZ0.out]; rfl, by rw [hGV]; exact mg_one _ _ _ _ _⟩
               clear hy6 hg6 ht6 hGV)
            | (refine wpList_store_row (by rfl) 31 (.tmp 15) (.tmp 87) (by rfl) w6.heap.size GV (by rfl) (by rfl) 31 Z0 (heap_alloc_new w6 _) HGV.out.2.1 HGV.out.2.2.1 HGV.out.2.2.2 ?_))
          clear hz
          have hal : Below w6.heap.size w6 ((w6.alloc (.cells Z0 31)).setRow w6.heap.size GV) := below_setRow ((Below.refl _ _).alloc (Nat.le_refl _) _) (Nat.le_refl _) _
          have hq7 : ((w6.alloc (.cells Z0 31)).setRow w6.heap.size GV).heap[w6.heap.size]? = some (.cells GV 31 (0, 0)) := setRow_at (heap_alloc_new w6 _)
          have H7 := Lib.hid (And.intro hal hq7)
          clear hal hq7 HZ0
          generalize (w6.alloc (.cells Z0 31)).setRow w6.heap.size GV = w7 at *
          obtain ⟨q7, hq7⟩ : ∃ q7, q7 = w6.heap.size := ⟨_, rfl⟩
          rw [← hq7]
          have hg7 : w7.heap[q7]? = some (.cells GV 31 (0, 0)) := by rw [hq7]; exact H7.out.2
          have hlq7 : q7 < w7.heap.size := lt_of_cells hg7
          have hcf : w7.cell? ⟨q7, 0, none⟩ = some (.int .i64 (T3 : Int)) := by rw [cell_of_cells hg7, HGV.out.1, HJ.out.2.2]; rfl
          have hcb : w7.cell? ⟨q7, 2, none⟩ = some (.slice A6 n6 c6) := by rw [cell_of_cells hg7, HGV.out.1]; rfl
          have hst : (convert 29 9 (.slice A6 n6 c6)).run Try.prog w7 = .ok (.string (st cl)) w7 := byt_string (H6.out.1.below H7.out.1)
          have hbw : Below w.heap.size w w7 := (HJ.out.2.1.trans (((H6.out.2.2.mono (T := fun k => w.heap.size ≤ k) fun k _ h => h).below HJ.out.2.1.size).trans (H7.out.1.mono (Nat.le_trans HJ.out.2.1.size H6.out.2.2.size))))
          have HR : Hid (Bgs w7 (w.heap.size ≤ ·) p 3 ((bfL cl N).drop (t + 1)) ∧ Below w.heap.size w w7) := Lib.hid ⟨(H6.out.2.1.mono (T := (w.heap.size ≤ ·)) fun k _ h => by have h1 := HJ.out.2.1.size; rcases h.1 with h | h <;> omega).below H7.out.1, hbw⟩
          clear hg7 hbw hq7 H6 H7 HGV
          go_wp2_with fail
          go_roundw
          case rel => exact ⟨t + 1, by have := HJ.out.1; omega, by simp, HR.out.1, HR.out.2⟩
          case measure => simp only [intOf]; have := HJ.out.1; omega
        · have hcs : ¬ (t : Int) < (N : Int) ∨ ((t : Int) < (N : Int) ∧ ¬ (t : Int) < 256) := by omega
          have hl0 : ((bfL cl N).drop t).length = 0 := by rw [List.length_drop, bf_len]; omega
          have hlen : ∀ w6, Below wr.heap.size wr w6 → ∀ w7, Below w6.heap.size w6 w7 → Calls Try.prog 16 #[.pointer (some ⟨p, 0, none⟩)] w7 fun e w' => e = .returned (.int .i64 0) ∧ Below w7.heap.size w7 w' := fun w6 h6 w7 h7 => by
            have h := bglen_any ((hg.below h6).below h7)
            rw [hl0] at h
            exact h
          have hz := zero_mg
          obtain ⟨Z0, hZ0⟩ : ∃ Z0, Z0 = mgV 0 0 none 0 0 := ⟨_, rfl⟩
          rw [← hZ0] at hz
          have HB := Lib.hid hbel
          have HZ0 := Lib.hid hZ0
          clear hg hbel hlt ht hZ0
          rcases hcs with hc1 | ⟨hc1, hc2⟩
          · go_upto_region 26 with (first
              | (go_at_call 11; refine (bgtake_nil _).mono ?_; rintro _ w6 ⟨rfl, hb6⟩
                 rw [show (#[.int .i64 0, .int .i64 0, .slice none 0 0] : Array Value) = Z0 from HZ0.out.symm]
                 have H6 := Lib.hid hb6
                 have HGV : Hid ((Try.prog.info? 31).map (·.size) = some Z0.size ∧ Z0.all (·.oneCell') = true) := Lib.hid ⟨by rw [HZ0.out]; exact mg_info _ _ _ _ _, by rw [HZ0.out]; exact mg_one _ _ _ _ _⟩
                 clear hb6)
              | (refine wpList_store_row (by rfl) 31 (.tmp 18) (.tmp 108) (by rfl) w6.heap.size Z0 (by rfl) (by rfl) 31 Z0 (heap_alloc_new w6 _) HGV.out.1 rfl HGV.out.2 ?_))
            clear hz
            have hal : Below w6.heap.size w6 ((w6.alloc (.cells Z0 31)).setRow w6.heap.size Z0) := below_setRow ((Below.refl _ _).alloc (Nat.le_refl _) _) (Nat.le_refl _) _
            have H7 := Lib.hid ((HB.out.trans (H6.out.mono HB.out.size)).trans (hal.mono (Nat.le_trans HB.out.size H6.out.size)))
            have hlen7 := hlen w6 H6.out _ hal
            clear hal hlen H6 HGV
            generalize (w6.alloc (.cells Z0 31)).setRow w6.heap.size Z0 = w7 at *
            generalize w6.heap.size = q8
            go_wp2_with (first
              | (go_at_call 16; refine hlen7.mono ?_; clear hlen7; rintro _ w8 ⟨rfl, hb8⟩; have H8 := Lib.hid (H7.out.trans (hb8.mono H7.out.size)); clear hb8)
              | (go_at_call 16; refine (bglen_nil _).mono ?_; rintro _ w11 ⟨rfl, hb11⟩; have H11 := Lib.hid (H10.out.trans (hb11.mono H10.out.size)); clear hb11)
              | (refine wpList_built (by rfl) 31 #[] (by rfl) [] (by rfl) _ mg_built0 ?_)
              | (go_at_call 9; refine (bgput_nil _ (.bool true)).mono ?_; rintro _ w9 ⟨rfl, hb9⟩; have H9 := Lib.hid (H8.out.trans (hb9.mono H8.out.size)); clear hb9)
              | (go_at_call 13; refine (bgcopy_nil _).mono ?_; rintro _ w10 ⟨rfl, hb10⟩; have H10 := Lib.hid (H9.out.trans (hb10.mono H9.out.size)); clear hb10)
              | (go_at_call 14; refine (bgtick_nil _ 1).mono ?_; rintro _ w12 ⟨rfl, hb12⟩; have H12 := Lib.hid (H11.out.trans (hb12.mono H11.out.size)); clear hb12)
              | (go_at_call 17; refine (bgfor_nil _ 0).mono ?_; rintro _ w13 ⟨A13, c13, rfl, hb13⟩; have H13 := Lib.hid (H12.out.trans (hb13.mono H12.out.size)); clear hb13))
            go_ret
            exact ⟨rfl, H13.out⟩
          · go_upto_region 26 with (first
              | (go_at_call 11; refine (bgtake_nil _).mono ?_; rintro _ w6 ⟨rfl, hb6⟩
                 rw [show (#[.int .i64 0, .int .i64 0, .slice none 0 0] : Array Value) = Z0 from HZ0.out.symm]
                 have H6 := Lib.hid hb6
                 have HGV : Hid ((Try.prog.info? 31).map (·.size) = some Z0.size ∧ Z0.all (·.oneCell') = true) := Lib.hid ⟨by rw [HZ0.out]; exact mg_info _ _ _ _ _, by rw [HZ0.out]; exact mg_one _ _ _ _ _⟩
                 clear hb6)
              | (refine wpList_store_row (by rfl) 31 (.tmp 18) (.tmp 108) (by rfl) w6.heap.size Z0 (by rfl) (by rfl) 31 Z0 (heap_alloc_new w6 _) HGV.out.1 rfl HGV.out.2 ?_))
            clear hz
            have hal : Below w6.heap.size w6 ((w6.alloc (.cells Z0 31)).setRow w6.heap.size Z0) := below_setRow ((Below.refl _ _).alloc (Nat.le_refl _) _) (Nat.le_refl _) _
            have H7 := Lib.hid ((HB.out.trans (H6.out.mono HB.out.size)).trans (hal.mono (Nat.le_trans HB.out.size H6.out.size)))
            have hlen7 := hlen w6 H6.out _ hal
            clear hal hlen H6 HGV
            generalize (w6.alloc (.cells Z0 31)).setRow w6.heap.size Z0 = w7 at *
            generalize w6.heap.size = q8
            go_wp2_with (first
              | (go_at_call 16; refine hlen7.mono ?_; clear hlen7; rintro _ w8 ⟨rfl, hb8⟩; have H8 := Lib.hid (H7.out.trans (hb8.mono H7.out.size)); clear hb8)
              | (go_at_call 16; refine (bglen_nil _).mono ?_; rintro _ w11 ⟨rfl, hb11⟩; have H11 := Lib.hid (H10.out.trans (hb11.mono H10.out.size)); clear hb11)
              | (refine wpList_built (by rfl) 31 #[] (by rfl) [] (by rfl) _ mg_built0 ?_)
              | (go_at_call 9; refine (bgput_nil _ (.bool true)).mono ?_; rintro _ w9 ⟨rfl, hb9⟩; have H9 := Lib.hid (H8.out.trans (hb9.mono H8.out.size)); clear hb9)
              | (go_at_call 13; refine (bgcopy_nil _).mono ?_; rintro _ w10 ⟨rfl, hb10⟩; have H10 := Lib.hid (H9.out.trans (hb10.mono H9.out.size)); clear hb10)
              | (go_at_call 14; refine (bgtick_nil _ 1).mono ?_; rintro _ w12 ⟨rfl, hb12⟩; have H12 := Lib.hid (H11.out.trans (hb12.mono H11.out.size)); clear hb12)
              | (go_at_call 17; refine (bgfor_nil _ 0).mono ?_; rintro _ w13 ⟨A13, c13, rfl, hb13⟩; have H13 := Lib.hid (H12.out.trans (hb13.mono H12.out.size)); clear hb13))
            go_ret
            exact ⟨rfl, H13.out⟩
theorem law_bfull {y : Int} (hy : (Lit.int .u16 y).wf = true) {w : World} {S : Nat → Prop} {A : Option Addr} {n c : Nat} {cl : List UInt8} (h : Byt w S A n c cl) {x : Int} (hx : (Lit.int .u8 x).wf = true) :
    Calls Try.prog 4 #[.int .u16 y, .slice A n c, .int .u8 x] w fun e w' => e = .returned (.bool true) ∧ Below w.heap.size w w' := by
  have bY := bounds_u16 hy
  have bx := bounds_u8 hx
  obtain ⟨y, rfl⟩ := Int.eq_ofNat_of_zero_le bY.1
  obtain ⟨x, rfl⟩ := Int.eq_ofNat_of_zero_le bx.1
  exact walk_bfull h y x
end Go.Proofs.Ytogfblfekedefaa
