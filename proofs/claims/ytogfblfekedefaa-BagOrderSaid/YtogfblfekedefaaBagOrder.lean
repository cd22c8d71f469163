/-
  The statement BagOrder: its walk.
-/
import Derived.Test.YtogfblfekedefaaBagAwake
import Derived.Test.YtogfblfekedefaaGrow
namespace Go.Proofs.Ytogfblfekedefaa
open Go.RowKit

theorem bo_and3 (b : UInt8) : bits BinOp.and IntKind.u8 (b.toNat : Int) 3 = ((b.toNat % 4 : Nat) : Int) := by
  have h : ∀ z : Fin 256, bits BinOp.and IntKind.u8 ((z.val : Nat) : Int) 3 = ((z.val % 4 : Nat) : Int) := by decide +kernel
  exact h ⟨b.toNat, b.toNat_lt⟩
def boM (tb : List UInt8) (i : Nat) : Bm := ⟨0, (((tb[i]?.getD 0).toNat % 4 : Nat) : Int), [UInt8.ofNat i], 0⟩
def boL (tb : List UInt8) (j : Nat) : List Bm := (List.range j).map (boM tb)
theorem bo_len (tb : List UInt8) (j : Nat) : (boL tb j).length = j := by simp [boL]
theorem bo_at (tb : List UInt8) {j k : Nat} (h : k < j) : (boL tb j)[k]? = some (boM tb k) := by
  unfold boL
  rw [List.getElem?_map, List.getElem?_range h]
  rfl
theorem bo_put (tb : List UInt8) {j : Nat} (h : j < 200) : putB 4 (boL tb j) (boM tb j) = (boL tb (j + 1), 0) := by
  have hm : bmay 4 (boM tb j) := by
    refine ⟨Int.le_refl 0, by show (0 : Int) < 4; decide, ?_, ?_⟩
    · show (0 : Int) ≤ (((tb[j]?.getD 0).toNat % 4 : Nat) : Int); omega
    · show (((tb[j]?.getD 0).toNat % 4 : Nat) : Int) < 4; omega
  unfold putB
  rw [if_neg (fun h => h hm), if_neg (by simp [boM]), if_neg (by rw [bo_len]; omega)]
  unfold boL
  rw [List.range_succ, List.map_append]
  rfl
theorem bo_drop (tb : List UInt8) (n j : Nat) : takeB ((boL tb n).drop j) 0 = (boL tb n).drop (j + 1) := by
  unfold takeB
  rw [List.take_zero, List.nil_append, List.drop_drop]
theorem mg_built12 (t : Int) (A : Option Addr) (n c : Nat) : Try.prog.built 31 [(1, .int .i64 t), (2, .slice A n c)] = some (mgV 0 t A n c) := by kernel_rfl
def RO1 (w : World) (p n : Nat) (tb : List UInt8) (i : Value) (wr : World) : Prop := ∃ j : Nat, j ≤ n ∧ i = .int .i64 (j : Int) ∧ Bgs wr (w.heap.size ≤ ·) p 4 (boL tb j) ∧ Below w.heap.size w wr
def RO2 (w : World) (p n : Nat) (tb : List UInt8) (i : Value) (wr : World) : Prop := ∃ t : Nat, t ≤ 4 ∧ i = .int .i64 (t : Int) ∧ Bgs wr (w.heap.size ≤ ·) p 4 (boL tb n) ∧ Below w.heap.size w wr
def RO3 (wf : World) (l : List Bm) (t : Int) (n : Nat) (kv jv : Value) (wx : World) : Prop := ∃ j : Nat, j ≤ n ∧ kv = .int .i64 (cntB l t j : Int) ∧ jv = .int .i64 (j : Int) ∧ wx = wf
def RO4 (w : World) (p n : Nat) (tb : List UInt8) (i : Value) (wr : World) : Prop := ∃ j : Nat, j ≤ n ∧ i = .int .i64 (j : Int) ∧ Bgs wr (w.heap.size ≤ ·) p 4 ((boL tb n).drop j) ∧ Below w.heap.size w wr
set_option maxHeartbeats 16000000 in
set_option maxRecDepth 100000 in
theorem walk_border {w : World} {S : Nat → Prop} {A : Option Addr} {n c : Nat} {tb : List UInt8} (h : Byt w S A n c tb) : Calls Try.prog 6 #[.slice A n c] w fun e w' => e = .returned (.bool true) ∧ Below w.heap.size w w' := by
  have haw := bagawake_true w
  by_cases hn : 200 < n
  · have hn' : (200 : Int) < (n : Int) := by omega
    clear h hn
    go_enter Try.func6, Try.ntmps6
    go_wp2_with (go_at_call 7; refine haw.mono ?_; clear haw; rintro _ w1 ⟨rfl, hb1⟩)
    go_ret
    exact ⟨rfl, hb1⟩
  have hn' : ¬ (200 : Int) < (n : Int) := by omega
  have HS := Lib.hid (And.intro h (And.intro (show n ≤ 200 by omega) h.len))
  clear h hn
  go_enter Try.func6, Try.ntmps6
  go_upto_region 6 with (go_at_call 7; refine haw.mono ?_; clear haw; rintro _ w1 ⟨rfl, hb1⟩)
  have hnew := bgnew_ok w1 4 (by omega) (by omega)
  have HB1 := Lib.hid hb1
  clear hb1
  go_upto_region 7 with (go_at_call 8; refine hnew.mono ?_; clear hnew; rintro _ w2 ⟨p, rfl, hg2, hb2⟩)
  have H2 : Hid (RO1 w p n tb (.int .i64 0) w2) := Lib.hid ⟨0, Nat.zero_le _, rfl, hg2.mono fun k _ h => Nat.le_trans HB1.out.size h, HB1.out.trans (hb2.mono HB1.out.size)⟩
  clear hg2 hb2 HB1
  go_wp2_with fail
  go_loopw [6] (fun i wr => RO1 w p n tb i wr) (fun i _ => n - (intOf i).toNat)
  case atStart => exact H2.out
  case round =>
    obtain ⟨j, hj, rfl, hg, hbel⟩ := hrel
    clear H2
    by_cases hlt : j < n
    · have hlt' : (j : Int) < (n : Int) := by omega
      obtain ⟨b, o, rfl, _, hbl, hcb⟩ := HS.out.1.row (by omega)
      have hcx := (hbel.cell (p := ⟨b, o + j, none⟩) hbl).trans (hcb j hlt)
      obtain ⟨x, hx⟩ : ∃ x, x = tb[j]?.getD 0 := ⟨_, rfl⟩
      rw [← hx] at hcx
      obtain ⟨X4, hX4⟩ : ∃ X4, X4 = x.toNat % 4 := ⟨_, rfl⟩
      have hand : bits BinOp.and IntKind.u8 (x.toNat : Int) 3 = (X4 : Int) := by rw [hX4]; exact bo_and3 x
      have hw4 : IntKind.i64.wrap (X4 : Int) = (X4 : Int) := IntWalk.i64_in _ (by omega)
      have hw8 : IntKind.u8.wrap (j : Int) = (j : Int) := by have h1 := HS.out.2.1; rw [show IntKind.u8.wrap (j : Int) = (j : Int) % 256 by simp [IntKind.wrap, IntKind.bits, IntKind.signed]]; omega
      have hadd := IntWalk.i64_in ((j : Int) + 1) (by have := HS.out.2.1; omega)
      have hbo : (UInt8.ofNat j).toNat = j := by have h1 := HS.out.2.1; rw [UInt8.toNat_ofNat']; omega
      obtain ⟨w3, hw3⟩ : ∃ w3, w3 = wr.alloc (.cells #[.int .u8 (j : Int)] 5) := ⟨_, rfl⟩
      have hq3 : w3.heap[wr.heap.size]? = some (.cells (u8s [UInt8.ofNat j]).toArray 5 (0, 0)) := by
        rw [hw3, heap_alloc_new]
        simp [u8s, hbo]
      have hb3 : Below wr.heap.size wr w3 := by rw [hw3]; exact (Below.refl _ _).alloc (Nat.le_refl _) _
      have hy3 := byt_filled' (m := wr.heap.size) hq3 rfl (by simp) (Nat.le_refl _)
      have hput := bgput_any ((hg.mono (T := fun k => w.heap.size ≤ k ∧ k < wr.heap.size) fun k hk h => ⟨h, hk⟩).below hb3) hy3 (fun k _ h h2 => by have := h2.2; omega) 0 (X4 : Int) (by simp)
      rw [show putB 4 (boL tb j) ⟨0, (X4 : Int), [UInt8.ofNat j], 0⟩ = (boL tb (j + 1), 0) from by
        have h1 := bo_put tb (j := j) (by have := HS.out.2.1; omega)
        unfold boM at h1
        rw [← hx, ← hX4] at h1
        exact h1] at hput
      have HJ := Lib.hid (And.intro hbel (And.intro hlt hb3))
      clear hg hbel hlt hj hbl hcb hx hX4 hbo hq3 hy3 hb3
      rw [show [UInt8.ofNat j].length = 1 from rfl] at hput
      rw [hw3] at hput
      go_wp2_with (first
        | (refine wpList_built (by rfl) 31 #[(1, .tmp 38), (2, .tmp 41)] (by rfl) [(1, .int .i64 (X4 : Int)), (2, .slice (some ⟨wr.heap.size, 0, none⟩) 1 1)] (by rfl) _ (mg_built12 _ _ _ _) ?_)
        | (go_at_call 9; refine hput.mono ?_; clear hput; rintro _ w4 ⟨rfl, hg4, ht4⟩; rw [← hw3] at hg4 ht4; have H4 := Lib.hid (And.intro hg4 ht4); clear hg4 ht4))
      go_roundw
      case rel => exact ⟨j + 1, by have := HJ.out.2.1; omega, by simp, H4.out.1.mono fun k _ h => by have h1 := HJ.out.1.size; have h2 := HJ.out.2.2.size; rcases h with h | h <;> omega, (HJ.out.1.trans (HJ.out.2.2.mono HJ.out.1.size)).trans ((H4.out.2.mono (T := fun k => w.heap.size ≤ k) fun k _ h => h.1).below (Nat.le_trans HJ.out.1.size HJ.out.2.2.size))⟩
      case measure => simp only [intOf]; have := HJ.out.2.1; omega
    · have hlt' : ¬ (j : Int) < (n : Int) := by omega
      obtain rfl : j = n := by omega
      have H5 : Hid (RO2 w p j tb (.int .i64 0) wr) := Lib.hid ⟨0, by omega, rfl, hg, hbel⟩
      clear hg hbel hlt hj
      go_wp2_with fail
      go_loopw [7] (fun i wr => RO2 w p j tb i wr) (fun i _ => 4 - (intOf i).toNat)
      case atStart => exact H5.out
      case round =>
        obtain ⟨t, ht, rfl, hg, hbel⟩ := hrel
        clear H5
        by_cases hlt : t < 4
        · have hlt' : (t : Int) < 4 := by omega
          have haddt := IntWalk.i64_in ((t : Int) + 1) (by omega)
          have hfo := bgfor_any hg (t : Int)
          obtain ⟨NF, hNF⟩ : ∃ NF, NF = (forB (boL tb j) (t : Int)).length := ⟨_, rfl⟩
          rw [← hNF] at hfo
          have HNF := Lib.hid hNF
          have HT := Lib.hid (And.intro hg (And.intro hbel hlt))
          clear hNF hg hbel hlt ht
          go_upto_region 18 with (go_at_call 17; refine hfo.mono ?_; clear hfo; rintro _ wf ⟨A9, c9, rfl, hr9, hb9⟩)
          have HF := Lib.hid (And.intro hr9 hb9)
          clear hr9 hb9
          go_wp2_with fail
          go_loopw [9, 10] (fun kv jv wx => RO3 wf (boL tb j) (t : Int) j kv jv wx) (fun _ jv _ => j - (intOf jv).toNat)
          case atStart => exact ⟨0, Nat.zero_le _, rfl, rfl, rfl⟩
          case round =>
            obtain ⟨q, hq, rfl, rfl, rfl⟩ := hrel
            by_cases hlq : q < j
            · have hlq' : (q : Int) < (j : Int) := by omega
              have hadd1 := IntWalk.i64_in ((q : Int) + 1) (by have := HS.out.2.1; omega)
              have hcj : cntB (boL tb j) (t : Int) q ≤ q := by unfold cntB; exact Nat.le_trans (List.length_filter_le _ _) (by simp)
              obtain ⟨b, o, rfl, _, hbl, hcb⟩ := HS.out.1.row (by omega)
              have hcx := ((HT.out.2.1.trans (HF.out.2.mono HT.out.2.1.size)).cell (p := ⟨b, o + q, none⟩) hbl).trans (hcb q hlq)
              have hisb := isB_eq (t := (t : Int)) (bo_at tb hlq)
              obtain ⟨x, hx⟩ : ∃ x, x = tb[q]?.getD 0 := ⟨_, rfl⟩
              rw [← hx] at hcx
              obtain ⟨X4, hX4⟩ : ∃ X4, X4 = x.toNat % 4 := ⟨_, rfl⟩
              have hand : bits BinOp.and IntKind.u8 (x.toNat : Int) 3 = (X4 : Int) := by rw [hX4]; exact bo_and3 x
              have hw4 : IntKind.i64.wrap (X4 : Int) = (X4 : Int) := IntWalk.i64_in _ (by omega)
              rw [show (boM tb q).t = (X4 : Int) by unfold boM; rw [← hx, ← hX4]] at hisb
              by_cases hxt : X4 = t
              · have hxt' : ((X4 : Int) == (t : Int)) = true := by rw [beq_iff_eq]; omega
                rw [decide_eq_true (by omega)] at hisb
                have hfa := forB_at (l := boL tb j) (by rw [bo_len]; exact hlq) hisb
                have hkn : cntB (boL tb j) (t : Int) q < NF := by rw [HNF.out]; exact (List.getElem?_eq_some_iff.1 hfa).1
                obtain ⟨b9, o9, y, hA9, _, hb9, hy, hcq⟩ := HF.out.1.at_ hkn
                subst hA9
                obtain rfl : y = q := by rw [hfa] at hy; injection hy with hy; exact hy.symm
                have hcy := hcq 0 (.int .i64 (y : Int)) rfl
                rw [Nat.mul_one, Nat.add_zero] at hcy
                obtain ⟨CN, hCN⟩ : ∃ CN, CN = cntB (boL tb j) (t : Int) y := ⟨_, rfl⟩
                rw [← hCN] at hkn hcy hcj ⊢
                have hkn' : ¬ (NF : Int) ≤ (CN : Int) := by omega
                have hadd2 := IntWalk.i64_in ((CN : Int) + 1) (by have := HS.out.2.1; omega)
                have HCN := Lib.hid (And.intro hCN (And.intro hisb hlq))
                clear hfa hb9 hy hcq hCN hisb hlq hbl hcb hx hX4 hxt hcj hq
                go_wp2_with fail
                go_roundw
                case rel => exact ⟨y + 1, by have := HCN.out.2.2; omega, by rw [cntB_succ, if_pos HCN.out.2.1, ← HCN.out.1]; simp, by simp, rfl⟩
                case measure => simp only [intOf]; have := HCN.out.2.2; omega
              · have hxt' : ((X4 : Int) == (t : Int)) = false := beq_eq_false_iff_ne.2 (by omega)
                rw [decide_eq_false (by omega)] at hisb
                have HCN := Lib.hid (And.intro hisb hlq)
                clear hisb hlq hbl hcb hx hX4 hxt hcj hq
                go_wp2_with fail
                go_roundw
                case rel => exact ⟨q + 1, by have := HCN.out.2; omega, by rw [cntB_succ, if_neg (by rw [HCN.out.1]; decide), Nat.add_zero], by simp, rfl⟩
                case measure => simp only [intOf]; have := HCN.out.2; omega
            · have hlq' : ¬ (q : Int) < (j : Int) := by omega
              obtain rfl : q = j := by omega
              have hcn : cntB (boL tb q) (t : Int) q = NF := by
                have h1 := cntB_all (boL tb q) (t : Int)
                rw [bo_len] at h1
                rw [HNF.out, ← h1]
              rw [hcn]
              clear hcn hlq hq
              go_wp2_with fail
              go_roundw
              case rel => exact ⟨t + 1, by have := HT.out.2.2; omega, by simp, HT.out.1.below HF.out.2, HT.out.2.1.trans (HF.out.2.mono HT.out.2.1.size)⟩
              case measure => simp only [intOf]; have := HT.out.2.2; omega
        · have hlt' : ¬ (t : Int) < 4 := by omega
          have H6 : Hid (RO4 w p j tb (.int .i64 0) wr) := Lib.hid ⟨0, Nat.zero_le _, rfl, hg, hbel⟩
          clear hg hbel hlt ht
          go_wp2_with fail
          go_loopw [11] (fun i wr => RO4 w p j tb i wr) (fun i _ => j - (intOf i).toNat)
          case atStart => exact H6.out
          case round =>
            obtain ⟨q, hq, rfl, hg, hbel⟩ := hrel
            clear H6
            by_cases hlq : q < j
            · have hlq' : (q : Int) < (j : Int) := by omega
              have hadd3 := IntWalk.i64_in ((q : Int) + 1) (by have := HS.out.2.1; omega)
              have hx0 : ((boL tb j).drop q)[0]? = some (boM tb q) := by rw [List.getElem?_drop, Nat.add_zero]; exact bo_at tb hlq
              have htk := bgtake_ok hg (i := 0) hx0
              rw [bo_drop] at htk
              obtain ⟨b, o, rfl, _, hbl, hcb⟩ := HS.out.1.row (by omega)
              have hcx0 := hcb q hlq
              obtain ⟨xb, hxb⟩ : ∃ x, x = tb[q]?.getD 0 := ⟨_, rfl⟩
              rw [← hxb] at hcx0
              obtain ⟨X, hX⟩ : ∃ X, X = xb.toNat := ⟨_, rfl⟩
              obtain ⟨X4, hX4⟩ : ∃ X4, X4 = xb.toNat % 4 := ⟨_, rfl⟩
              have hand : bits BinOp.and IntKind.u8 (xb.toNat : Int) 3 = (X4 : Int) := by rw [hX4]; exact bo_and3 xb
              rw [← hX] at hand hcx0
              have HX4 := Lib.hid (And.intro hand (show IntKind.i64.wrap (X4 : Int) = (X4 : Int) from IntWalk.i64_in _ (by omega)))
              have HW8 : Hid (IntKind.u8.wrap (q : Int) = (q : Int)) := Lib.hid (by have h1 := HS.out.2.1; rw [show IntKind.u8.wrap (q : Int) = (q : Int) % 256 by simp [IntKind.wrap, IntKind.bits, IntKind.signed]]; omega)
              have hbo : (UInt8.ofNat q).toNat = q := by have h1 := HS.out.2.1; rw [UInt8.toNat_ofNat']; omega
              have hbt : (boM tb q).t = (X4 : Int) := by unfold boM; rw [← hxb, ← hX4]
              have hz := zero_mg
              obtain ⟨Z0, hZ0⟩ : ∃ Z0, Z0 = mgV 0 0 none 0 0 := ⟨_, rfl⟩
              rw [← hZ0] at hz
              have HZ0 := Lib.hid hZ0
              have HJ := Lib.hid (And.intro (show q < j from hlq) (And.intro hbel (And.intro hbl (And.intro hcx0 (And.intro hbo hbt)))))
              clear hZ0 hand hx0 hbl hcb hcx0 hxb hX hX4 hbo hbt hg hbel hlq hq
              go_upto_region 32 with (first
                | (go_at_call 11; refine htk.mono ?_; clear htk; rintro _ w6 ⟨A6, n6, c6, Q, rfl, hy6, hg6, ht6⟩
                   obtain ⟨GV, hGV⟩ : ∃ GV, GV = mgV (boM tb q).f (boM tb q).t A6 n6 c6 := ⟨_, rfl⟩
                   rw [show (#[.int .i64 (boM tb q).f, .int .i64 (boM tb q).t, .slice A6 n6 c6] : Array Value) = GV from hGV.symm]
                   have H6 := Lib.hid (And.intro hy6 (And.intro hg6 ht6))
                   have HGV : Hid (GV = mgV (boM tb q).f (boM tb q).t A6 n6 c6 ∧ (Try.prog.info? 31).map (·.size) = some GV.size ∧ Z0.size = GV.size ∧ GV.all (·.oneCell') = true) := Lib.hid ⟨hGV, by rw [hGV]; exact mg_info _ _ _ _ _, by rw [hGV, HZ0.out]; rfl, by rw [hGV]; exact mg_one _ _ _ _ _⟩
                   clear hy6 hg6 ht6 hGV)
                | (refine wpList_store_row (by rfl) 31 (.tmp 12) (.tmp 93) (by rfl) w6.heap.size GV (by rfl) (by rfl) 31 Z0 (heap_alloc_new w6 _) HGV.out.2.1 HGV.out.2.2.1 HGV.out.2.2.2 ?_))
              clear hz
              have hal : Below w6.heap.size w6 ((w6.alloc (.cells Z0 31)).setRow w6.heap.size GV) := below_setRow ((Below.refl _ _).alloc (Nat.le_refl _) _) (Nat.le_refl _) _
              have hq7 : ((w6.alloc (.cells Z0 31)).setRow w6.heap.size GV).heap[w6.heap.size]? = some (.cells GV 31 (0, 0)) := setRow_at (heap_alloc_new w6 _)
              have H7 := Lib.hid (And.intro hal hq7)
              clear hal hq7 HZ0
              generalize (w6.alloc (.cells Z0 31)).setRow w6.heap.size GV = w7 at *
              obtain ⟨q7, hq7⟩ : ∃ q7, q7 = w6.heap.size := ⟨_, rfl⟩
              rw [← hq7]
              have hy7 := (H6.out.1.below H7.out.1).below (below_drew (Below.refl w7.heap.size w7))
              obtain rfl : n6 = 1 := hy7.len.symm
              obtain ⟨b6, o6, hA6, _, hb6, hc6⟩ := hy7.row (by omega)
              subst hA6
              have hc60 := hc6 0 (by omega)
              rw [show (boM tb q).b[0]?.getD 0 = UInt8.ofNat q from rfl, HJ.out.2.2.2.2.1, Nat.add_zero] at hc60
              have hg7 : w7.drew.heap[q7]? = some (.cells GV 31 (0, 0)) := by rw [hq7]; exact H7.out.2
              have hbw : Below w.heap.size w w7.drew := ((HJ.out.2.1.trans (((H6.out.2.2.mono (T := fun k => w.heap.size ≤ k) fun k _ h => h).below HJ.out.2.1.size).trans (H7.out.1.mono (Nat.le_trans HJ.out.2.1.size H6.out.2.2.size))))).trans (below_drew (Below.refl _ _))
              have HM : Hid (q7 < w7.drew.heap.size ∧ w7.drew.cell? ⟨q7, 1, none⟩ = some (.int .i64 (X4 : Int)) ∧ w7.drew.cell? ⟨q7, 2, none⟩ = some (.slice (some ⟨b6, o6, none⟩) 1 c6) ∧ b6 < w7.drew.heap.size ∧ w7.drew.cell? ⟨b6, o6, none⟩ = some (.int .u8 (q : Int)) ∧ b < w7.drew.heap.size ∧ w7.drew.cell? ⟨b, o + q, none⟩ = some (.int .u8 (X : Int))) :=
                Lib.hid ⟨lt_of_cells hg7, by rw [cell_of_cells hg7, HGV.out.1, ← HJ.out.2.2.2.2.2]; rfl, by rw [cell_of_cells hg7, HGV.out.1]; rfl, hb6, hc60, Nat.lt_of_lt_of_le HJ.out.2.2.1 hbw.size, (hbw.cell (p := ⟨b, o + q, none⟩) HJ.out.2.2.1).trans HJ.out.2.2.2.1⟩
              have HR : Hid (Bgs w7.drew (w.heap.size ≤ ·) p 4 ((boL tb j).drop (q + 1)) ∧ Below w.heap.size w w7.drew) := Lib.hid ⟨((H6.out.2.1.mono (T := (w.heap.size ≤ ·)) fun k _ h => by have h1 := HJ.out.2.1.size; rcases h.1 with h | h <;> omega).below H7.out.1).below (below_drew (Below.refl _ _)), hbw⟩
              clear hy7 hb6 hc6 hc60 hg7 hbw hq7 H6 H7 HGV
              refine wp_region_grow (fun W W' => Below W.heap.size W W') (Grow.nth [fun v _ => v = .bool true, fun v _ => v = .bool false, fun v _ => v = .bool false, fun v _ => v = .pointer (some ⟨q7, 2, none⟩), fun v _ => v = .slice (some ⟨b6, o6, none⟩) 1 c6, fun v _ => v = .int .i64 1, fun v _ => v = .bool false, fun v _ => v = .bool false, fun v _ => v = .bool false, fun v _ => v = .pointer (some ⟨q7, 2, none⟩), fun v _ => v = .slice (some ⟨b6, o6, none⟩) 1 c6, fun v _ => v = .pointer (some ⟨b6, o6, none⟩), fun v _ => v = .int .u8 (q : Int), fun v _ => v = .int .i64 (q : Int), fun v _ => v = .int .u8 (q : Int), fun v _ => v = .bool false, fun v _ => v = .bool false, fun v _ => v = .bool false, fun v _ => v = .pointer (some ⟨q7, 1, none⟩), fun v _ => v = .int .i64 (X4 : Int), fun v _ => v = .slice (some ⟨b, o, none⟩) j c, fun v _ => v = .int .i64 (q : Int), fun v _ => v = .pointer (some ⟨b, o + q, none⟩), fun v _ => v = .int .u8 (X : Int), fun v _ => v = .int .u8 (X4 : Int), fun v _ => v = .int .i64 (X4 : Int), fun v _ => v = .bool false, fun v _ => v = .bool false]) 126 (by kernel_rfl) (by kernel_rfl) (by rfl) (fun W => Below.refl _ W) (fun _ _ _ h1 h2 => h1.trans (h2.mono h1.size)) (Grow.mono_nth ?gmono) ?gsteps ?gfin
              case gmono => exact ⟨fun _ _ _ h _ => h, fun _ _ _ h _ => h, fun _ _ _ h _ => h, fun _ _ _ h _ => h, fun _ _ _ h _ => h, fun _ _ _ h _ => h, fun _ _ _ h _ => h, fun _ _ _ h _ => h, fun _ _ _ h _ => h, fun _ _ _ h _ => h, fun _ _ _ h _ => h, fun _ _ _ h _ => h, fun _ _ _ h _ => h, fun _ _ _ h _ => h, fun _ _ _ h _ => h, fun _ _ _ h _ => h, fun _ _ _ h _ => h, fun _ _ _ h _ => h, fun _ _ _ h _ => h, fun _ _ _ h _ => h, fun _ _ _ h _ => h, fun _ _ _ h _ => h, fun _ _ _ h _ => h, fun _ _ _ h _ => h, fun _ _ _ h _ => h, fun _ _ _ h _ => h, fun _ _ _ h _ => h, fun _ _ _ h _ => h, trivial⟩
              case gsteps =>
                show Grow.allBelow _ 28
                refine And.intro ?_ ?s27
                refine And.intro ?_ ?s26
                refine And.intro ?_ ?s25
                refine And.intro ?_ ?s24
                refine And.intro ?_ ?s23
                refine And.intro ?_ ?s22
                refine And.intro ?_ ?s21
                refine And.intro ?_ ?s20
                refine And.intro ?_ ?s19
                refine And.intro ?_ ?s18
                refine And.intro ?_ ?s17
                refine And.intro ?_ ?s16
                refine And.intro ?_ ?s15
                refine And.intro ?_ ?s14
                refine And.intro ?_ ?s13
                refine And.intro ?_ ?s12
                refine And.intro ?_ ?s11
                refine And.intro ?_ ?s10
                refine And.intro ?_ ?s9
                refine And.intro ?_ ?s8
                refine And.intro ?_ ?s7
                refine And.intro ?_ ?s6
                refine And.intro ?_ ?s5
                refine And.intro ?_ ?s4
                refine And.intro ?_ ?s3
                refine And.intro ?_ ?s2
                refine And.intro ?_ ?s1
                refine And.intro ?_ ?s0
                exact trivial
                case s0 =>
                  refine Grow.step_in (by rfl) (by rfl) ?_
                  intro E W ec eg ef hG hd hu R HR1
                  have e13 : E (.tmp 13) = .bool true := hu 13 (by kernel_rfl)
                  clear hd hu
                  go_simp
                  exact HR1.out _ _ (Below.refl _ _) rfl
                case s1 =>
                  refine Grow.step_in (by rfl) (by rfl) ?_
                  intro E W ec eg ef hG hd hu R HR1
                  have e95 : E (.tmp 95) = .bool true := hd 0 95 (by kernel_rfl)
                  clear hd hu
                  go_simp
                  exact HR1.out _ _ (Below.refl _ _) rfl
                case s2 =>
                  refine Grow.step_in (by rfl) (by rfl) ?_
                  intro E W ec eg ef hG hd hu R HR1
                  have e96 : E (.tmp 96) = .bool false := hd 1 96 (by kernel_rfl)
                  clear hd hu
                  go_simp
                  exact HR1.out _ _ (Below.refl _ _) rfl
                case s3 =>
                  refine Grow.step_on (g := 2) (b := false) (d := 97) (by rfl) (by rfl) (by rfl) (by kernel_rfl) (fun v W h => h) ?_
                  intro E W ec eg ef hG hd hu R HR1
                  have e12 : E (.tmp 12) = .pointer (some ⟨q7, 0, none⟩) := hu 12 (by kernel_rfl)
                  clear hd hu
                  go_simp
                  exact HR1.out _ _ (Below.refl _ _) rfl
                case s4 =>
                  refine Grow.step_on (g := 2) (b := false) (d := 97) (by rfl) (by rfl) (by rfl) (by kernel_rfl) (fun v W h => h) ?_
                  intro E W ec eg ef hG hd hu R HR1
                  have e98 : E (.tmp 98) = .pointer (some ⟨q7, 2, none⟩) := hd 3 98 (by kernel_rfl)
                  clear hd hu
                  have hcl := (hG.cell (p := ⟨q7, 2, none⟩) HM.out.1).trans HM.out.2.2.1
                  go_simp
                  exact HR1.out _ _ (Below.refl _ _) rfl
                case s5 =>
                  refine Grow.step_on (g := 2) (b := false) (d := 97) (by rfl) (by rfl) (by rfl) (by kernel_rfl) (fun v W h => h) ?_
                  intro E W ec eg ef hG hd hu R HR1
                  have e99 : E (.tmp 99) = .slice (some ⟨b6, o6, none⟩) 1 c6 := hd 4 99 (by kernel_rfl)
                  clear hd hu
                  go_simp
                  exact HR1.out _ _ (Below.refl _ _) rfl
                case s6 =>
                  refine Grow.step_on (g := 2) (b := false) (d := 97) (by rfl) (by rfl) (by rfl) (by kernel_rfl) (fun v W h => h) ?_
                  intro E W ec eg ef hG hd hu R HR1
                  have e100 : E (.tmp 100) = .int .i64 1 := hd 5 100 (by kernel_rfl)
                  clear hd hu
                  go_simp
                  exact HR1.out _ _ (Below.refl _ _) rfl
                case s7 =>
                  refine Grow.step_in (by rfl) (by rfl) ?_
                  intro E W ec eg ef hG hd hu R HR1
                  have e97 : E (.tmp 97) = .bool false := hd 2 97 (by kernel_rfl)
                  have e101 : E (.tmp 101) = .bool false := hd 6 101 (by kernel_rfl)
                  clear hd hu
                  go_simp
                  exact HR1.out _ _ (Below.refl _ _) rfl
                case s8 =>
                  refine Grow.step_in (by rfl) (by rfl) ?_
                  intro E W ec eg ef hG hd hu R HR1
                  have e102 : E (.tmp 102) = .bool false := hd 7 102 (by kernel_rfl)
                  clear hd hu
                  go_simp
                  exact HR1.out _ _ (Below.refl _ _) rfl
                case s9 =>
                  refine Grow.step_on (g := 8) (b := false) (d := 103) (by rfl) (by rfl) (by rfl) (by kernel_rfl) (fun v W h => h) ?_
                  intro E W ec eg ef hG hd hu R HR1
                  have e12 : E (.tmp 12) = .pointer (some ⟨q7, 0, none⟩) := hu 12 (by kernel_rfl)
                  clear hd hu
                  go_simp
                  exact HR1.out _ _ (Below.refl _ _) rfl
                case s10 =>
                  refine Grow.step_on (g := 8) (b := false) (d := 103) (by rfl) (by rfl) (by rfl) (by kernel_rfl) (fun v W h => h) ?_
                  intro E W ec eg ef hG hd hu R HR1
                  have e104 : E (.tmp 104) = .pointer (some ⟨q7, 2, none⟩) := hd 9 104 (by kernel_rfl)
                  clear hd hu
                  have hcl := (hG.cell (p := ⟨q7, 2, none⟩) HM.out.1).trans HM.out.2.2.1
                  go_simp
                  exact HR1.out _ _ (Below.refl _ _) rfl
                case s11 =>
                  refine Grow.step_on (g := 8) (b := false) (d := 103) (by rfl) (by rfl) (by rfl) (by kernel_rfl) (fun v W h => h) ?_
                  intro E W ec eg ef hG hd hu R HR1
                  have e105 : E (.tmp 105) = .slice (some ⟨b6, o6, none⟩) 1 c6 := hd 10 105 (by kernel_rfl)
                  clear hd hu
                  go_simp
                  first | exact HR1.out _ _ (Below.refl _ _) rfl | (rw [if_pos ⟨by omega, by omega⟩]; exact HR1.out _ _ (Below.refl _ _) rfl)
                case s12 =>
                  refine Grow.step_on (g := 8) (b := false) (d := 103) (by rfl) (by rfl) (by rfl) (by kernel_rfl) (fun v W h => h) ?_
                  intro E W ec eg ef hG hd hu R HR1
                  have e106 : E (.tmp 106) = .pointer (some ⟨b6, o6, none⟩) := hd 11 106 (by kernel_rfl)
                  clear hd hu
                  have hcl := (hG.cell (p := ⟨b6, o6, none⟩) HM.out.2.2.2.1).trans HM.out.2.2.2.2.1
                  go_simp
                  exact HR1.out _ _ (Below.refl _ _) rfl
                case s13 =>
                  refine Grow.step_on (g := 8) (b := false) (d := 103) (by rfl) (by rfl) (by rfl) (by kernel_rfl) (fun v W h => h) ?_
                  intro E W ec eg ef hG hd hu R HR1
                  have e11 : E (.tmp 11) = .int .i64 (q : Int) := hu 11 (by kernel_rfl)
                  clear hd hu
                  go_simp
                  exact HR1.out _ _ (Below.refl _ _) rfl
                case s14 =>
                  refine Grow.step_on (g := 8) (b := false) (d := 103) (by rfl) (by rfl) (by rfl) (by kernel_rfl) (fun v W h => h) ?_
                  intro E W ec eg ef hG hd hu R HR1
                  have e108 : E (.tmp 108) = .int .i64 (q : Int) := hd 13 108 (by kernel_rfl)
                  clear hd hu
                  have hw8 := HW8.out
                  go_simp
                  exact HR1.out _ _ (Below.refl _ _) rfl
                case s15 =>
                  refine Grow.step_on (g := 8) (b := false) (d := 103) (by rfl) (by rfl) (by rfl) (by kernel_rfl) (fun v W h => h) ?_
                  intro E W ec eg ef hG hd hu R HR1
                  have e107 : E (.tmp 107) = .int .u8 (q : Int) := hd 12 107 (by kernel_rfl)
                  have e109 : E (.tmp 109) = .int .u8 (q : Int) := hd 14 109 (by kernel_rfl)
                  clear hd hu
                  go_simp
                  exact HR1.out _ _ (Below.refl _ _) rfl
                case s16 =>
                  refine Grow.step_in (by rfl) (by rfl) ?_
                  intro E W ec eg ef hG hd hu R HR1
                  have e103 : E (.tmp 103) = .bool false := hd 8 103 (by kernel_rfl)
                  have e110 : E (.tmp 110) = .bool false := hd 15 110 (by kernel_rfl)
                  clear hd hu
                  go_simp
                  exact HR1.out _ _ (Below.refl _ _) rfl
                case s17 =>
                  refine Grow.step_in (by rfl) (by rfl) ?_
                  intro E W ec eg ef hG hd hu R HR1
                  have e111 : E (.tmp 111) = .bool false := hd 16 111 (by kernel_rfl)
                  clear hd hu
                  go_simp
                  exact HR1.out _ _ (Below.refl _ _) rfl
                case s18 =>
                  refine Grow.step_on (g := 17) (b := false) (d := 112) (by rfl) (by rfl) (by rfl) (by kernel_rfl) (fun v W h => h) ?_
                  intro E W ec eg ef hG hd hu R HR1
                  have e12 : E (.tmp 12) = .pointer (some ⟨q7, 0, none⟩) := hu 12 (by kernel_rfl)
                  clear hd hu
                  go_simp
                  exact HR1.out _ _ (Below.refl _ _) rfl
                case s19 =>
                  refine Grow.step_on (g := 17) (b := false) (d := 112) (by rfl) (by rfl) (by rfl) (by kernel_rfl) (fun v W h => h) ?_
                  intro E W ec eg ef hG hd hu R HR1
                  have e113 : E (.tmp 113) = .pointer (some ⟨q7, 1, none⟩) := hd 18 113 (by kernel_rfl)
                  clear hd hu
                  have hcl := (hG.cell (p := ⟨q7, 1, none⟩) HM.out.1).trans HM.out.2.1
                  go_simp
                  exact HR1.out _ _ (Below.refl _ _) rfl
                case s20 =>
                  refine Grow.step_on (g := 17) (b := false) (d := 112) (by rfl) (by rfl) (by rfl) (by kernel_rfl) (fun v W h => h) ?_
                  intro E W ec eg ef hG hd hu R HR1
                  have e0 : E (.tmp 0) = .slice (some ⟨b, o, none⟩) j c := hu 0 (by kernel_rfl)
                  clear hd hu
                  go_simp
                  exact HR1.out _ _ (Below.refl _ _) rfl
                case s21 =>
                  refine Grow.step_on (g := 17) (b := false) (d := 112) (by rfl) (by rfl) (by rfl) (by kernel_rfl) (fun v W h => h) ?_
                  intro E W ec eg ef hG hd hu R HR1
                  have e11 : E (.tmp 11) = .int .i64 (q : Int) := hu 11 (by kernel_rfl)
                  clear hd hu
                  go_simp
                  exact HR1.out _ _ (Below.refl _ _) rfl
                case s22 =>
                  refine Grow.step_on (g := 17) (b := false) (d := 112) (by rfl) (by rfl) (by rfl) (by kernel_rfl) (fun v W h => h) ?_
                  intro E W ec eg ef hG hd hu R HR1
                  have e115 : E (.tmp 115) = .slice (some ⟨b, o, none⟩) j c := hd 20 115 (by kernel_rfl)
                  have e116 : E (.tmp 116) = .int .i64 (q : Int) := hd 21 116 (by kernel_rfl)
                  clear hd hu
                  have hjl := HJ.out.1
                  go_simp
                  first | exact HR1.out _ _ (Below.refl _ _) rfl | (rw [if_pos ⟨by omega, by omega⟩]; exact HR1.out _ _ (Below.refl _ _) rfl)
                case s23 =>
                  refine Grow.step_on (g := 17) (b := false) (d := 112) (by rfl) (by rfl) (by rfl) (by kernel_rfl) (fun v W h => h) ?_
                  intro E W ec eg ef hG hd hu R HR1
                  have e117 : E (.tmp 117) = .pointer (some ⟨b, o + q, none⟩) := hd 22 117 (by kernel_rfl)
                  clear hd hu
                  have hcl := (hG.cell (p := ⟨b, o + q, none⟩) HM.out.2.2.2.2.2.1).trans HM.out.2.2.2.2.2.2
                  go_simp
                  exact HR1.out _ _ (Below.refl _ _) rfl
                case s24 =>
                  refine Grow.step_on (g := 17) (b := false) (d := 112) (by rfl) (by rfl) (by rfl) (by kernel_rfl) (fun v W h => h) ?_
                  intro E W ec eg ef hG hd hu R HR1
                  have e118 : E (.tmp 118) = .int .u8 (X : Int) := hd 23 118 (by kernel_rfl)
                  clear hd hu
                  have hx4 := HX4.out.1
                  go_simp
                  exact HR1.out _ _ (Below.refl _ _) rfl
                case s25 =>
                  refine Grow.step_on (g := 17) (b := false) (d := 112) (by rfl) (by rfl) (by rfl) (by kernel_rfl) (fun v W h => h) ?_
                  intro E W ec eg ef hG hd hu R HR1
                  have e119 : E (.tmp 119) = .int .u8 (X4 : Int) := hd 24 119 (by kernel_rfl)
                  clear hd hu
                  have hx4 := HX4.out.2
                  go_simp
                  exact HR1.out _ _ (Below.refl _ _) rfl
                case s26 =>
                  refine Grow.step_on (g := 17) (b := false) (d := 112) (by rfl) (by rfl) (by rfl) (by kernel_rfl) (fun v W h => h) ?_
                  intro E W ec eg ef hG hd hu R HR1
                  have e114 : E (.tmp 114) = .int .i64 (X4 : Int) := hd 19 114 (by kernel_rfl)
                  have e120 : E (.tmp 120) = .int .i64 (X4 : Int) := hd 25 120 (by kernel_rfl)
                  clear hd hu
                  go_simp
                  exact HR1.out _ _ (Below.refl _ _) rfl
                case s27 =>
                  refine Grow.step_in (by rfl) (by rfl) ?_
                  intro E W ec eg ef hG hd hu R HR1
                  have e112 : E (.tmp 112) = .bool false := hd 17 112 (by kernel_rfl)
                  have e121 : E (.tmp 121) = .bool false := hd 26 121 (by kernel_rfl)
                  clear hd hu
                  go_simp
                  exact HR1.out _ _ (Below.refl _ _) rfl
              case gfin =>
                intro W hG
                refine Grow.fin_dst (by rfl) ?_
                rintro _ rfl
                refine Grow.fin_dst (by rfl) ?_
                rintro _ rfl
                refine Grow.fin_dst (by rfl) ?_
                rintro _ rfl
                refine Grow.fin_dst (by rfl) ?_
                rintro _ rfl
                refine Grow.fin_dst (by rfl) ?_
                rintro _ rfl
                refine Grow.fin_dst (by rfl) ?_
                rintro _ rfl
                refine Grow.fin_dst (by rfl) ?_
                rintro _ rfl
                refine Grow.fin_dst (by rfl) ?_
                rintro _ rfl
                refine Grow.fin_dst (by rfl) ?_
                rintro _ rfl
                refine Grow.fin_dst (by rfl) ?_
                rintro _ rfl
                refine Grow.fin_dst (by rfl) ?_
                rintro _ rfl
                refine Grow.fin_dst (by rfl) ?_
                rintro _ rfl
                refine Grow.fin_dst (by rfl) ?_
                rintro _ rfl
                refine Grow.fin_dst (by rfl) ?_
                rintro _ rfl
                refine Grow.fin_dst (by rfl) ?_
                rintro _ rfl
                refine Grow.fin_dst (by rfl) ?_
                rintro _ rfl
                refine Grow.fin_dst (by rfl) ?_
                rintro _ rfl
                refine Grow.fin_dst (by rfl) ?_
                rintro _ rfl
                refine Grow.fin_dst (by rfl) ?_
                rintro _ rfl
                refine Grow.fin_dst (by rfl) ?_
                rintro _ rfl
                refine Grow.fin_dst (by rfl) ?_
                rintro _ rfl
                refine Grow.fin_dst (by rfl) ?_
                rintro _ rfl
                refine Grow.fin_dst (by rfl) ?_
                rintro _ rfl
                refine Grow.fin_dst (by rfl) ?_
                rintro _ rfl
                refine Grow.fin_dst (by rfl) ?_
                rintro _ rfl
                refine Grow.fin_dst (by rfl) ?_
                rintro _ rfl
                refine Grow.fin_dst (by rfl) ?_
                rintro _ rfl
                refine Grow.fin_dst (by rfl) ?_
                rintro _ rfl
                simp only [Act.put, List.setIfInBounds_toArray, List.set_cons_zero, List.set_cons_succ]
                refine Grow.fin_end ?_

                have HBG := Lib.hid hG
                clear hG
                go_wp2_with fail
                go_roundw
                case rel => exact ⟨q + 1, by have := HJ.out.1; omega, by simp, HR.out.1.below HBG.out, HR.out.2.trans (HBG.out.mono HR.out.2.size)⟩
                case measure => simp only [intOf]; have := HJ.out.1; omega
            · have hlq' : ¬ (q : Int) < (j : Int) := by omega
              obtain rfl : q = j := by omega
              have hln := bglen_any hg
              rw [show ((boL tb q).drop q).length = 0 by rw [List.length_drop, bo_len]; omega] at hln
              have HB := Lib.hid hbel
              clear hg hbel hlq
              go_wp2_with (go_at_call 16; refine hln.mono ?_; clear hln; rintro _ wl ⟨rfl, hbl⟩; have HBL := Lib.hid (HB.out.trans (hbl.mono HB.out.size)); clear hbl)
              go_ret
              exact ⟨rfl, HBL.out⟩
end Go.Proofs.Ytogfblfekedefaa
