/-
  The statement SealOpens: its walk, where the other key is another.
-/
import Derived.Test.YtlkkocgjpljibaaDoorSealOpensA
import Derived.Laws.BitsAllLaws
namespace Go.Proofs.YtlkkocgjpljibaaDoor
open Go.RowKit

set_option maxHeartbeats 8000000 in
set_option maxRecDepth 100000 in
theorem opens_ody {w : World} (k : List UInt8) (hk : k.length = 32) (j : List UInt8) (hj : j.length = 32) {S : Nat → Prop} {A : Option Addr} {n c : Nat} {l : List UInt8} (h : Byt w S A n c l) (hn : n ≤ 300) (kd : UInt8) (N : Nat) (a : Nat) (ha : a < 65536) (x : UInt8) (ct : Nat) (hct : ct < 65536) (hpar : ct % 2 = 1)
    (hE : openE j (cutB ct (spoilt k kd N l a x)) = 0) (ht : Tab w ∧ QTab w) :
    Calls Tryd.prog 4 #[.agg (row8 k), .agg (row8 j), .slice A n c, .int .u8 (kd.toNat : Int), .int .u64 (N : Int), .int .u16 (a : Int), .int .u8 (x.toNat : Int), .int .u16 (ct : Int), .bool false] w fun e w' => e = .returned (.bool true) ∧ Below w.heap.size w w' := by
  obtain ⟨KS, hKS⟩ : ∃ KS, KS = row8 k := ⟨_, rfl⟩
  rw [← hKS]
  have HZKS : Hid (KS.size = 32) := Lib.hid (by rw [hKS, row8_size, hk])
  obtain ⟨JS, hJS⟩ : ∃ JS, JS = row8 j := ⟨_, rfl⟩
  rw [← hJS]
  have HZJS : Hid (JS.size = 32) := Lib.hid (by rw [hJS, row8_size, hj])
  have HKA : Hid (KS.all (·.oneCell') = true) := Lib.hid (by rw [hKS]; exact row8_one _)
  have HBX : Hid (Below w.heap.size w ((w.alloc (.cells KS 23)).alloc (.cells JS 23)) ∧ ((w.alloc (.cells KS 23)).alloc (.cells JS 23)).heap[w.heap.size]? = some (.cells KS 23 (0, 0)) ∧ ((w.alloc (.cells KS 23)).alloc (.cells JS 23)).heap[w.heap.size + 1]? = some (.cells JS 23 (0, 0))) := Lib.hid (by
    refine ⟨((Below.refl _ _).alloc (Nat.le_refl _) _).alloc (by simp) _, (Below.heap_alloc _ _ _ (by simp)).trans (heap_alloc_new w _), ?_⟩
    have := heap_alloc_new (w.alloc (.cells KS 23)) (.cells JS 23)
    simpa using this)
  have hl := h.len
  obtain ⟨BL, hBL⟩ : ∃ BL, BL = sealL k kd N l := ⟨_, rfl⟩
  have hbl : BL.length = n + 41 := by rw [hBL, sealL_length, hl]; omega
  obtain ⟨i, hi⟩ : ∃ i, i = a % (n + 41) := ⟨_, rfl⟩
  have hin : i < n + 41 := by rw [hi]; exact Nat.mod_lt _ (by omega)
  obtain ⟨bi, hbi⟩ : ∃ bi, bi = BL[i]?.getD 0 := ⟨_, rfl⟩
  obtain ⟨B1, hB1⟩ : ∃ B1, B1 = BL.set i (bi ^^^ x) := ⟨_, rfl⟩
  have hb1l : B1.length = n + 41 := by rw [hB1, List.length_set, hbl]
  have hsp : spoilt k kd N l a x = B1 := by rw [hB1, hbi, hi, hBL, spoilt, sealL_length, hl, Nat.add_comm 41 n]
  obtain ⟨r, hr⟩ : ∃ r, r = ct / 2 % (n + 41) := ⟨_, rfl⟩
  have hrn : r < n + 41 := by rw [hr]; exact Nat.mod_lt _ (by omega)
  obtain ⟨B2, hB2⟩ : ∃ B2, B2 = B1.take r := ⟨_, rfl⟩
  have hb2l : B2.length = r := by rw [hB2]; rw [List.length_take, hb1l]; omega
  have hcb : cutB ct (spoilt k kd N l a x) = B2 := by rw [hsp, hB2, cutB, if_pos hpar, hb1l, ← hr]
  rw [hcb] at hE
  obtain ⟨SB, hSB⟩ : ∃ SB, SB = st B2 := ⟨_, rfl⟩
  obtain ⟨P, hP⟩ : ∃ P, P = openP j B2 := ⟨_, rfl⟩
  obtain ⟨SQ, hSQ⟩ : ∃ SQ, SQ = st P := ⟨_, rfl⟩
  obtain ⟨K2, hK2⟩ : ∃ K2, K2 = openK j B2 := ⟨_, rfl⟩
  obtain ⟨N2, hN2⟩ : ∃ N2, N2 = openN j B2 := ⟨_, rfl⟩
  obtain ⟨PL, hPL⟩ : ∃ PL, PL = P.length := ⟨_, rfl⟩
  have hpl : PL + 41 = B2.length := by
    have h0 := openE_zero.1 hE
    rw [hPL, hP, openP_length hE]
    omega
  have HPE : Hid (B2.length = PL + 41) := Lib.hid hpl.symm
  have hOV : ∀ W (e : Ending) w', Opened W j B2 e w' → ∃ A' c', e = .returned (.tuple #[.slice A' PL c', .int .u8 (K2.toNat : Int), .int .u64 (N2 : Int), .int .i64 0]) ∧ Byt w' (W.heap.size ≤ ·) A' PL c' P ∧ Below W.heap.size W w' := by
    rintro W _ w' ⟨A', c', rfl, hY, hb⟩
    rw [← hP, ← hPL] at hY
    exact ⟨A', c', by rw [hPL, hP, hK2, hN2, hE]; rfl, hY, hb⟩
  have hRV : ∀ W (e : Ending) w', ROpened W j B2 e w' → e = .returned (.tuple #[.string SQ, .int .u8 (K2.toNat : Int), .int .u64 (N2 : Int), .int .i64 0]) ∧ Below W.heap.size W w' := by
    rintro W _ w' ⟨rfl, hb⟩
    exact ⟨by rw [hSQ, hP, hK2, hN2, hE]; rfl, hb⟩
  have HSA : Hid (∀ W {S : Nat → Prop} {A : Option Addr} {c : Nat}, Byt W S A PL c P → Tab W → QTab W → Calls Tryd.prog 9 #[.agg JS, .int .u8 (K2.toNat : Int), .int .u64 (N2 : Int), .slice A PL c] W fun e w' => ∃ g, e = .returned (.tuple #[.slice (some ⟨g, 0, none⟩) (PL + 41) (PL + 41), .int .i64 0]) ∧ Byt w' (W.heap.size ≤ ·) (some ⟨g, 0, none⟩) (PL + 41) (PL + 41) B2 ∧ Below W.heap.size W w') := Lib.hid fun W S A c h1 h2 h3 => by
    rw [hJS]
    refine (sseal_any h1 h2 h3 j hj K2 N2 (by omega)).mono ?_
    rintro _ w' ⟨g, rfl, hown, hb⟩
    rw [hK2, hN2, hP, sealed_again hE] at hown
    exact ⟨g, rfl, own_byt_at hown, hb⟩
  have HSE : Hid (∀ W {S : Nat → Prop} {A : Option Addr} {c : Nat}, Byt W S A n c l → Tab W → QTab W → Calls Tryd.prog 9 #[.agg KS, .int .u8 (kd.toNat : Int), .int .u64 (N : Int), .slice A n c] W fun e w' => ∃ g, e = .returned (.tuple #[.slice (some ⟨g, 0, none⟩) (n + 41) (n + 41), .int .i64 0]) ∧ w'.ownsRow W.heap.size 5 1 (.slice (some ⟨g, 0, none⟩) (n + 41) (n + 41)) (n + 41) (u8s BL) ∧ Below W.heap.size W w') := Lib.hid fun W S A c h1 h2 h3 => by
    rw [hKS, hBL]
    exact sseal_any h1 h2 h3 k hk kd N (by omega)
  have HOP : Hid (∀ W {S : Nat → Prop} {A : Option Addr} {c : Nat}, Byt W S A r c B2 → Tab W → QTab W → Calls Tryd.prog 11 #[.agg JS, .slice A r c] W fun e w' => ∃ A' c', e = .returned (.tuple #[.slice A' PL c', .int .u8 (K2.toNat : Int), .int .u64 (N2 : Int), .int .i64 0]) ∧ Byt w' (W.heap.size ≤ ·) A' PL c' P ∧ Below W.heap.size W w') := Lib.hid fun W S A c h1 h2 h3 => by
    rw [hJS]
    exact (sopen_any h1 h2 h3 j hj).mono fun e w' he => hOV W e w' he
  have HRO : Hid (∀ W, Calls Tryd.prog 14 #[.agg JS, .string SB] W fun e w' => e = .returned (.tuple #[.string SQ, .int .u8 (K2.toNat : Int), .int .u64 (N2 : Int), .int .i64 0]) ∧ Below W.heap.size W w') := Lib.hid fun W => by
    rw [hJS, hSB]
    exact (rsopen_any (by omega) j hj).mono fun e w' he => hRV W e w' he
  have HSS := Lib.hid (And.intro hSB hSQ)
  have HH := Lib.hid h
  have htm : (a : Int).tmod ((n : Int) + 41) = (i : Int) := by
    rw [Int.tmod_eq_emod_of_nonneg (by omega), hi]
    simp
  have hz41 : (((n : Int) + 41) == 0) = false := by simp; omega
  have hz42 : ¬ ((n : Int) + 41 = 0) := by omega
  have hii : (i : Int) < (n : Int) + 41 := by omega
  have hand : bits .and .u16 (ct : Int) 1 = 1 := by
    have := u16_and_nat ct 1 (by omega) (by omega)
    rw [Nat.and_one_is_mod, hpar] at this
    simpa using this
  have hxr := xor8 bi x
  have hrr : (ct : Int) / 2 % ((n : Int) + 41) = (r : Int) := by rw [hr]; simp
  have HBI := Lib.hid (And.intro hbi (And.intro hB1 (And.intro hB2 hbl)))
  have HRR := Lib.hid (And.intro hr hrn)
  clear hBL hbl hi hbi hB1 hb1l hsp hr hB2 hb2l hcb hSB hP hSQ hOV hRV hKS hJS hk hj h hl hpar hE hK2 hN2 hPL hpl
  go_enter Tryd.func4, Tryd.ntmps4
  go_wp2_with fail
  refine (lawake_true (ht.1.below HBX.out.1) (ht.2.below HBX.out.1)).mono ?_
  rintro _ w1 ⟨rfl, hb1⟩
  have HB1 : Hid (Below w.heap.size w w1 ∧ w1.heap[w.heap.size]? = some (.cells KS 23 (0, 0)) ∧ w1.heap[w.heap.size + 1]? = some (.cells JS 23 (0, 0))) := Lib.hid ⟨HBX.out.1.trans (hb1.mono HBX.out.1.size), (hb1.block _ (lt_of_cells HBX.out.2.1)).trans HBX.out.2.1, (hb1.block _ (lt_of_cells HBX.out.2.2)).trans HBX.out.2.2⟩
  have HT := Lib.hid ht
  clear hb1 ht HBX
  go_wp2_with (refine wpList_load_row (by rfl) 23 (.tmp 9) (by rfl) w.heap.size (by rfl) 23 KS (0, 0) _ HB1.out.2.1 Tryd.underlying23 (by rfl) (by rw [HZKS.out]; exact key_info) ?_)
  refine (HSE.out _ (HH.out.below HB1.out.1) (HT.out.1.below HB1.out.1) (HT.out.2.below HB1.out.1)).mono ?_
  rintro _ w2 ⟨g, rfl, hown2, hb2⟩
  have HB2 : Hid (Below w.heap.size w w2 ∧ w2.heap[w.heap.size]? = some (.cells KS 23 (0, 0)) ∧ w2.heap[w.heap.size + 1]? = some (.cells JS 23 (0, 0))) := Lib.hid ⟨HB1.out.1.trans (hb2.mono HB1.out.1.size), (hb2.block _ (lt_of_cells HB1.out.2.1)).trans HB1.out.2.1, (hb2.block _ (lt_of_cells HB1.out.2.2)).trans HB1.out.2.2⟩
  have HO2 : Hid (w2.ownsRow w1.heap.size 5 1 (.slice (some ⟨g, 0, none⟩) (n + 41) (n + 41)) (n + 41) (u8s BL)) := Lib.hid hown2
  have hcell : w2.cell? ⟨g, i, none⟩ = some (.int .u8 (bi.toNat : Int)) := by
    rw [hown2.cellAt i (by omega), HBI.out.1]
    have : i < BL.length := by rw [HBI.out.2.2.2]; exact hin
    simp [u8s, this]
  have hfree := hown2.frozenAt i
  have hgw : w1.heap.size ≤ g := (hown2.lt g rfl).1
  clear hb2 HSE hown2
  go_upto_region 10 with fail
  have hst := HO2.out.stored i (.int .u8 (((bi ^^^ x).toNat : Nat) : Int))
  rw [u8s_set, ← HBI.out.2.1] at hst
  have hg0 : w.heap.size + 1 < g := Nat.lt_of_lt_of_le (lt_of_cells HB1.out.2.2) hgw
  have hg1 : w.heap.size + 1 < w1.heap.size := lt_of_cells HB1.out.2.2
  rw [show (((bi.toNat ^^^ x.toNat : Nat)) : Int) = (((bi ^^^ x).toNat : Nat) : Int) by rw [UInt8.toNat_xor]]
  have HX3 : Hid (Below w.heap.size w (w2.setCell ⟨g, i, none⟩ (.int .u8 (((bi ^^^ x).toNat : Nat) : Int))) ∧ (w2.setCell ⟨g, i, none⟩ (.int .u8 (((bi ^^^ x).toNat : Nat) : Int))).heap[w.heap.size]? = some (.cells KS 23 (0, 0)) ∧ (w2.setCell ⟨g, i, none⟩ (.int .u8 (((bi ^^^ x).toNat : Nat) : Int))).heap[w.heap.size + 1]? = some (.cells JS 23 (0, 0))) := Lib.hid ⟨HB2.out.1.setCell (by show w.heap.size ≤ g; omega) _, (Below.heap_setCell _ _ _ _ (by show w.heap.size ≠ g; omega)).trans HB2.out.2.1, (Below.heap_setCell _ _ _ _ (by show w.heap.size + 1 ≠ g; omega)).trans HB2.out.2.2⟩
  have HY3 := Lib.hid (own_byt_at hst.1)
  clear hst hcell hfree HB1 HB2 HO2 hxr hii hz41 htm hz42
  generalize w2.setCell ⟨g, i, none⟩ (.int .u8 (((bi ^^^ x).toNat : Nat) : Int)) = w3 at *
  go_upto_region 12 with fail
  clear hand hrr
  have HY3b := Lib.hid (HY3.out.to (k := r) (by omega))
  rw [← HBI.out.2.2.1] at HY3b
  clear HY3
  go_upto_region 14 with fail
  have HX4 : Hid (Below w.heap.size w w3 ∧ w3.heap[w.heap.size + 1]? = some (.cells JS 23 (0, 0))) := Lib.hid ⟨HX3.out.1, HX3.out.2.2⟩
  have HY4 := HY3b
  clear HX3 HY3b
  generalize w3 = w4 at *
  go_wp2_with (refine wpList_load_row (by rfl) 23 (.tmp 10) (by rfl) (w.heap.size + 1) (by rfl) 23 JS (0, 0) _ HX4.out.2 Tryd.underlying23 (by rfl) (by rw [HZJS.out]; exact key_info) ?_)
  refine (HOP.out _ HY4.out (HT.out.1.below HX4.out.1) (HT.out.2.below HX4.out.1)).mono ?_
  rintro _ w5 ⟨A5, c5, rfl, hY5, hb5⟩
  have HX5 : Hid (Below w.heap.size w w5 ∧ w5.heap[w.heap.size + 1]? = some (.cells JS 23 (0, 0))) := Lib.hid ⟨HX4.out.1.trans (hb5.mono HX4.out.1.size), (hb5.block _ (lt_of_cells HX4.out.2)).trans HX4.out.2⟩
  have HY5 := Lib.hid (And.intro (HY4.out.below hb5) hY5)
  have hcv5 := byt_string HY5.out.1
  rw [show (⟨B2.toArray⟩ : ByteArray) = st B2 from rfl, ← HSS.out.1] at hcv5
  clear hY5 hb5 HX4 HY4 HOP
  go_wp2_with (refine wpList_load_row (by rfl) 23 (.tmp 10) (by rfl) (w.heap.size + 1) (by rfl) 23 JS (0, 0) _ HX5.out.2 Tryd.underlying23 (by rfl) (by rw [HZJS.out]; exact key_info) ?_)
  refine (HRO.out _).mono ?_
  rintro _ w6 ⟨rfl, hb6⟩
  have HX6 : Hid (Below w.heap.size w w6 ∧ w6.heap[w.heap.size + 1]? = some (.cells JS 23 (0, 0))) := Lib.hid ⟨HX5.out.1.trans (hb6.mono HX5.out.1.size), (hb6.block _ (lt_of_cells HX5.out.2)).trans HX5.out.2⟩
  have HY6 := Lib.hid (And.intro (HY5.out.1.below hb6) (HY5.out.2.below hb6))
  have hcv6 := byt_string HY6.out.2
  rw [show (⟨P.toArray⟩ : ByteArray) = st P from rfl, ← HSS.out.2] at hcv6
  clear hb6 HX5 HY5 HRO hcv5
  go_wp2_with (refine wpList_load_row (by rfl) 23 (.tmp 10) (by rfl) (w.heap.size + 1) (by rfl) 23 JS (0, 0) _ HX6.out.2 Tryd.underlying23 (by rfl) (by rw [HZJS.out]; exact key_info) ?_)
  refine (HSA.out _ HY6.out.2 (HT.out.1.below HX6.out.1) (HT.out.2.below HX6.out.1)).mono ?_
  rintro _ w7 ⟨g7, rfl, hY7, hb7⟩
  have HX7 : Hid (Below w.heap.size w w7) := Lib.hid (HX6.out.1.trans (hb7.mono HX6.out.1.size))
  have hcv7 := byt_string hY7
  have hcv8 := byt_string (HY6.out.1.below hb7)
  rw [show (⟨B2.toArray⟩ : ByteArray) = st B2 from rfl, ← HSS.out.1] at hcv7 hcv8
  clear hY7 hb7 HX6 HY6 hcv6 HSA
  go_wp2_with fail
  go_ret
  exact ⟨rfl, HX7.out⟩

set_option maxHeartbeats 8000000 in
set_option maxRecDepth 100000 in
theorem opens_odn {w : World} (k : List UInt8) (hk : k.length = 32) (j : List UInt8) (hj : j.length = 32) {S : Nat → Prop} {A : Option Addr} {n c : Nat} {l : List UInt8} (h : Byt w S A n c l) (hn : n ≤ 300) (kd : UInt8) (N : Nat) (a : Nat) (ha : a < 65536) (x : UInt8) (ct : Nat) (hct : ct < 65536) (hpar : ct % 2 = 1)
    (hE : openE j (cutB ct (spoilt k kd N l a x)) ≠ 0) (ht : Tab w ∧ QTab w) :
    Calls Tryd.prog 4 #[.agg (row8 k), .agg (row8 j), .slice A n c, .int .u8 (kd.toNat : Int), .int .u64 (N : Int), .int .u16 (a : Int), .int .u8 (x.toNat : Int), .int .u16 (ct : Int), .bool false] w fun e w' => e = .returned (.bool true) ∧ Below w.heap.size w w' := by
  obtain ⟨KS, hKS⟩ : ∃ KS, KS = row8 k := ⟨_, rfl⟩
  rw [← hKS]
  have HZKS : Hid (KS.size = 32) := Lib.hid (by rw [hKS, row8_size, hk])
  obtain ⟨JS, hJS⟩ : ∃ JS, JS = row8 j := ⟨_, rfl⟩
  rw [← hJS]
  have HZJS : Hid (JS.size = 32) := Lib.hid (by rw [hJS, row8_size, hj])
  have HKA : Hid (KS.all (·.oneCell') = true) := Lib.hid (by rw [hKS]; exact row8_one _)
  have HBX : Hid (Below w.heap.size w ((w.alloc (.cells KS 23)).alloc (.cells JS 23)) ∧ ((w.alloc (.cells KS 23)).alloc (.cells JS 23)).heap[w.heap.size]? = some (.cells KS 23 (0, 0)) ∧ ((w.alloc (.cells KS 23)).alloc (.cells JS 23)).heap[w.heap.size + 1]? = some (.cells JS 23 (0, 0))) := Lib.hid (by
    refine ⟨((Below.refl _ _).alloc (Nat.le_refl _) _).alloc (by simp) _, (Below.heap_alloc _ _ _ (by simp)).trans (heap_alloc_new w _), ?_⟩
    have := heap_alloc_new (w.alloc (.cells KS 23)) (.cells JS 23)
    simpa using this)
  have hl := h.len
  obtain ⟨BL, hBL⟩ : ∃ BL, BL = sealL k kd N l := ⟨_, rfl⟩
  have hbl : BL.length = n + 41 := by rw [hBL, sealL_length, hl]; omega
  obtain ⟨i, hi⟩ : ∃ i, i = a % (n + 41) := ⟨_, rfl⟩
  have hin : i < n + 41 := by rw [hi]; exact Nat.mod_lt _ (by omega)
  obtain ⟨bi, hbi⟩ : ∃ bi, bi = BL[i]?.getD 0 := ⟨_, rfl⟩
  obtain ⟨B1, hB1⟩ : ∃ B1, B1 = BL.set i (bi ^^^ x) := ⟨_, rfl⟩
  have hb1l : B1.length = n + 41 := by rw [hB1, List.length_set, hbl]
  have hsp : spoilt k kd N l a x = B1 := by rw [hB1, hbi, hi, hBL, spoilt, sealL_length, hl, Nat.add_comm 41 n]
  obtain ⟨r, hr⟩ : ∃ r, r = ct / 2 % (n + 41) := ⟨_, rfl⟩
  have hrn : r < n + 41 := by rw [hr]; exact Nat.mod_lt _ (by omega)
  obtain ⟨B2, hB2⟩ : ∃ B2, B2 = B1.take r := ⟨_, rfl⟩
  have hb2l : B2.length = r := by rw [hB2]; rw [List.length_take, hb1l]; omega
  have hcb : cutB ct (spoilt k kd N l a x) = B2 := by rw [hsp, hB2, cutB, if_pos hpar, hb1l, ← hr]
  rw [hcb] at hE
  obtain ⟨SB, hSB⟩ : ∃ SB, SB = st B2 := ⟨_, rfl⟩
  obtain ⟨P, hP⟩ : ∃ P, P = openP j B2 := ⟨_, rfl⟩
  obtain ⟨SQ, hSQ⟩ : ∃ SQ, SQ = st P := ⟨_, rfl⟩
  obtain ⟨EE, hEE⟩ : ∃ EE, EE = (openE j B2 : Int) := ⟨_, rfl⟩
  have hp0 : P = [] := by rw [hP, openP_not hE]
  have HEN : Hid (¬ EE = 0) := Lib.hid (by rw [hEE]; omega)
  have hOV : ∀ W (e : Ending) w', Opened W j B2 e w' → ∃ A' c', e = .returned (.tuple #[.slice A' 0 c', .int .u8 0, .int .u64 0, .int .i64 EE]) ∧ Byt w' (W.heap.size ≤ ·) A' 0 c' P ∧ Below W.heap.size W w' := by
    rintro W _ w' ⟨A', c', rfl, hY, hb⟩
    rw [← hP, hp0, List.length_nil, ← hp0] at hY
    exact ⟨A', c', by rw [openP_not hE, openK, if_neg hE, openN, if_neg hE, hEE]; rfl, hY, hb⟩
  have hRV : ∀ W (e : Ending) w', ROpened W j B2 e w' → e = .returned (.tuple #[.string SQ, .int .u8 0, .int .u64 0, .int .i64 EE]) ∧ Below W.heap.size W w' := by
    rintro W _ w' ⟨rfl, hb⟩
    exact ⟨by rw [hSQ, hP, openK, if_neg hE, openN, if_neg hE, hEE]; rfl, hb⟩
  have HSE : Hid (∀ W {S : Nat → Prop} {A : Option Addr} {c : Nat}, Byt W S A n c l → Tab W → QTab W → Calls Tryd.prog 9 #[.agg KS, .int .u8 (kd.toNat : Int), .int .u64 (N : Int), .slice A n c] W fun e w' => ∃ g, e = .returned (.tuple #[.slice (some ⟨g, 0, none⟩) (n + 41) (n + 41), .int .i64 0]) ∧ w'.ownsRow W.heap.size 5 1 (.slice (some ⟨g, 0, none⟩) (n + 41) (n + 41)) (n + 41) (u8s BL) ∧ Below W.heap.size W w') := Lib.hid fun W S A c h1 h2 h3 => by
    rw [hKS, hBL]
    exact sseal_any h1 h2 h3 k hk kd N (by omega)
  have HOP : Hid (∀ W {S : Nat → Prop} {A : Option Addr} {c : Nat}, Byt W S A r c B2 → Tab W → QTab W → Calls Tryd.prog 11 #[.agg JS, .slice A r c] W fun e w' => ∃ A' c', e = .returned (.tuple #[.slice A' 0 c', .int .u8 0, .int .u64 0, .int .i64 EE]) ∧ Byt w' (W.heap.size ≤ ·) A' 0 c' P ∧ Below W.heap.size W w') := Lib.hid fun W S A c h1 h2 h3 => by
    rw [hJS]
    exact (sopen_any h1 h2 h3 j hj).mono fun e w' he => hOV W e w' he
  have HRO : Hid (∀ W, Calls Tryd.prog 14 #[.agg JS, .string SB] W fun e w' => e = .returned (.tuple #[.string SQ, .int .u8 0, .int .u64 0, .int .i64 EE]) ∧ Below W.heap.size W w') := Lib.hid fun W => by
    rw [hJS, hSB]
    exact (rsopen_any (by omega) j hj).mono fun e w' he => hRV W e w' he
  have HSS := Lib.hid (And.intro hSB hSQ)
  have HH := Lib.hid h
  have htm : (a : Int).tmod ((n : Int) + 41) = (i : Int) := by
    rw [Int.tmod_eq_emod_of_nonneg (by omega), hi]
    simp
  have hz41 : (((n : Int) + 41) == 0) = false := by simp; omega
  have hz42 : ¬ ((n : Int) + 41 = 0) := by omega
  have hii : (i : Int) < (n : Int) + 41 := by omega
  have hand : bits .and .u16 (ct : Int) 1 = 1 := by
    have := u16_and_nat ct 1 (by omega) (by omega)
    rw [Nat.and_one_is_mod, hpar] at this
    simpa using this
  have hxr := xor8 bi x
  have hrr : (ct : Int) / 2 % ((n : Int) + 41) = (r : Int) := by rw [hr]; simp
  have HBI := Lib.hid (And.intro hbi (And.intro hB1 (And.intro hB2 hbl)))
  have HRR := Lib.hid (And.intro hr hrn)
  clear hBL hbl hi hbi hB1 hb1l hsp hr hB2 hb2l hcb hSB hP hSQ hOV hRV hKS hJS hk hj h hl hpar hE hEE hp0
  go_enter Tryd.func4, Tryd.ntmps4
  go_wp2_with fail
  refine (lawake_true (ht.1.below HBX.out.1) (ht.2.below HBX.out.1)).mono ?_
  rintro _ w1 ⟨rfl, hb1⟩
  have HB1 : Hid (Below w.heap.size w w1 ∧ w1.heap[w.heap.size]? = some (.cells KS 23 (0, 0)) ∧ w1.heap[w.heap.size + 1]? = some (.cells JS 23 (0, 0))) := Lib.hid ⟨HBX.out.1.trans (hb1.mono HBX.out.1.size), (hb1.block _ (lt_of_cells HBX.out.2.1)).trans HBX.out.2.1, (hb1.block _ (lt_of_cells HBX.out.2.2)).trans HBX.out.2.2⟩
  have HT := Lib.hid ht
  clear hb1 ht HBX
  go_wp2_with (refine wpList_load_row (by rfl) 23 (.tmp 9) (by rfl) w.heap.size (by rfl) 23 KS (0, 0) _ HB1.out.2.1 Tryd.underlying23 (by rfl) (by rw [HZKS.out]; exact key_info) ?_)
  refine (HSE.out _ (HH.out.below HB1.out.1) (HT.out.1.below HB1.out.1) (HT.out.2.below HB1.out.1)).mono ?_
  rintro _ w2 ⟨g, rfl, hown2, hb2⟩
  have HB2 : Hid (Below w.heap.size w w2 ∧ w2.heap[w.heap.size]? = some (.cells KS 23 (0, 0)) ∧ w2.heap[w.heap.size + 1]? = some (.cells JS 23 (0, 0))) := Lib.hid ⟨HB1.out.1.trans (hb2.mono HB1.out.1.size), (hb2.block _ (lt_of_cells HB1.out.2.1)).trans HB1.out.2.1, (hb2.block _ (lt_of_cells HB1.out.2.2)).trans HB1.out.2.2⟩
  have HO2 : Hid (w2.ownsRow w1.heap.size 5 1 (.slice (some ⟨g, 0, none⟩) (n + 41) (n + 41)) (n + 41) (u8s BL)) := Lib.hid hown2
  have hcell : w2.cell? ⟨g, i, none⟩ = some (.int .u8 (bi.toNat : Int)) := by
    rw [hown2.cellAt i (by omega), HBI.out.1]
    have : i < BL.length := by rw [HBI.out.2.2.2]; exact hin
    simp [u8s, this]
  have hfree := hown2.frozenAt i
  have hgw : w1.heap.size ≤ g := (hown2.lt g rfl).1
  clear hb2 HSE hown2
  go_upto_region 10 with fail
  have hst := HO2.out.stored i (.int .u8 (((bi ^^^ x).toNat : Nat) : Int))
  rw [u8s_set, ← HBI.out.2.1] at hst
  have hg0 : w.heap.size + 1 < g := Nat.lt_of_lt_of_le (lt_of_cells HB1.out.2.2) hgw
  have hg1 : w.heap.size + 1 < w1.heap.size := lt_of_cells HB1.out.2.2
  rw [show (((bi.toNat ^^^ x.toNat : Nat)) : Int) = (((bi ^^^ x).toNat : Nat) : Int) by rw [UInt8.toNat_xor]]
  have HX3 : Hid (Below w.heap.size w (w2.setCell ⟨g, i, none⟩ (.int .u8 (((bi ^^^ x).toNat : Nat) : Int))) ∧ (w2.setCell ⟨g, i, none⟩ (.int .u8 (((bi ^^^ x).toNat : Nat) : Int))).heap[w.heap.size]? = some (.cells KS 23 (0, 0)) ∧ (w2.setCell ⟨g, i, none⟩ (.int .u8 (((bi ^^^ x).toNat : Nat) : Int))).heap[w.heap.size + 1]? = some (.cells JS 23 (0, 0))) := Lib.hid ⟨HB2.out.1.setCell (by show w.heap.size ≤ g; omega) _, (Below.heap_setCell _ _ _ _ (by show w.heap.size ≠ g; omega)).trans HB2.out.2.1, (Below.heap_setCell _ _ _ _ (by show w.heap.size + 1 ≠ g; omega)).trans HB2.out.2.2⟩
  have HY3 := Lib.hid (own_byt_at hst.1)
  clear hst hcell hfree HB1 HB2 HO2 hxr hii hz41 htm hz42
  generalize w2.setCell ⟨g, i, none⟩ (.int .u8 (((bi ^^^ x).toNat : Nat) : Int)) = w3 at *
  go_upto_region 12 with fail
  clear hand hrr
  have HY3b := Lib.hid (HY3.out.to (k := r) (by omega))
  rw [← HBI.out.2.2.1] at HY3b
  clear HY3
  go_upto_region 14 with fail
  have HX4 : Hid (Below w.heap.size w w3 ∧ w3.heap[w.heap.size + 1]? = some (.cells JS 23 (0, 0))) := Lib.hid ⟨HX3.out.1, HX3.out.2.2⟩
  have HY4 := HY3b
  clear HX3 HY3b
  generalize w3 = w4 at *
  go_wp2_with (refine wpList_load_row (by rfl) 23 (.tmp 10) (by rfl) (w.heap.size + 1) (by rfl) 23 JS (0, 0) _ HX4.out.2 Tryd.underlying23 (by rfl) (by rw [HZJS.out]; exact key_info) ?_)
  refine (HOP.out _ HY4.out (HT.out.1.below HX4.out.1) (HT.out.2.below HX4.out.1)).mono ?_
  rintro _ w5 ⟨A5, c5, rfl, hY5, hb5⟩
  have HX5 : Hid (Below w.heap.size w w5 ∧ w5.heap[w.heap.size + 1]? = some (.cells JS 23 (0, 0))) := Lib.hid ⟨HX4.out.1.trans (hb5.mono HX4.out.1.size), (hb5.block _ (lt_of_cells HX4.out.2)).trans HX4.out.2⟩
  have HY5 := Lib.hid (And.intro (HY4.out.below hb5) hY5)
  have hcv5 := byt_string HY5.out.1
  rw [show (⟨B2.toArray⟩ : ByteArray) = st B2 from rfl, ← HSS.out.1] at hcv5
  clear hY5 hb5 HX4 HY4 HOP
  go_wp2_with (refine wpList_load_row (by rfl) 23 (.tmp 10) (by rfl) (w.heap.size + 1) (by rfl) 23 JS (0, 0) _ HX5.out.2 Tryd.underlying23 (by rfl) (by rw [HZJS.out]; exact key_info) ?_)
  refine (HRO.out _).mono ?_
  rintro _ w6 ⟨rfl, hb6⟩
  have HX6 : Hid (Below w.heap.size w w6 ∧ w6.heap[w.heap.size + 1]? = some (.cells JS 23 (0, 0))) := Lib.hid ⟨HX5.out.1.trans (hb6.mono HX5.out.1.size), (hb6.block _ (lt_of_cells HX5.out.2)).trans HX5.out.2⟩
  have HY6 := Lib.hid (And.intro (HY5.out.1.below hb6) (HY5.out.2.below hb6))
  have hcv6 := byt_string HY6.out.2
  rw [show (⟨P.toArray⟩ : ByteArray) = st P from rfl, ← HSS.out.2] at hcv6
  clear hb6 HX5 HY5 HRO hcv5
  have hen := HEN.out
  go_wp2_with fail
  go_ret
  exact ⟨rfl, HX6.out.1⟩

set_option maxHeartbeats 8000000 in
set_option maxRecDepth 100000 in
theorem opens_edy {w : World} (k : List UInt8) (hk : k.length = 32) (j : List UInt8) (hj : j.length = 32) {S : Nat → Prop} {A : Option Addr} {n c : Nat} {l : List UInt8} (h : Byt w S A n c l) (hn : n ≤ 300) (kd : UInt8) (N : Nat) (a : Nat) (ha : a < 65536) (x : UInt8) (ct : Nat) (hct : ct < 65536) (hpar : ct % 2 = 0)
    (hE : openE j (cutB ct (spoilt k kd N l a x)) = 0) (ht : Tab w ∧ QTab w) :
    Calls Tryd.prog 4 #[.agg (row8 k), .agg (row8 j), .slice A n c, .int .u8 (kd.toNat : Int), .int .u64 (N : Int), .int .u16 (a : Int), .int .u8 (x.toNat : Int), .int .u16 (ct : Int), .bool false] w fun e w' => e = .returned (.bool true) ∧ Below w.heap.size w w' := by
  obtain ⟨KS, hKS⟩ : ∃ KS, KS = row8 k := ⟨_, rfl⟩
  rw [← hKS]
  have HZKS : Hid (KS.size = 32) := Lib.hid (by rw [hKS, row8_size, hk])
  obtain ⟨JS, hJS⟩ : ∃ JS, JS = row8 j := ⟨_, rfl⟩
  rw [← hJS]
  have HZJS : Hid (JS.size = 32) := Lib.hid (by rw [hJS, row8_size, hj])
  have HKA : Hid (KS.all (·.oneCell') = true) := Lib.hid (by rw [hKS]; exact row8_one _)
  have HBX : Hid (Below w.heap.size w ((w.alloc (.cells KS 23)).alloc (.cells JS 23)) ∧ ((w.alloc (.cells KS 23)).alloc (.cells JS 23)).heap[w.heap.size]? = some (.cells KS 23 (0, 0)) ∧ ((w.alloc (.cells KS 23)).alloc (.cells JS 23)).heap[w.heap.size + 1]? = some (.cells JS 23 (0, 0))) := Lib.hid (by
    refine ⟨((Below.refl _ _).alloc (Nat.le_refl _) _).alloc (by simp) _, (Below.heap_alloc _ _ _ (by simp)).trans (heap_alloc_new w _), ?_⟩
    have := heap_alloc_new (w.alloc (.cells KS 23)) (.cells JS 23)
    simpa using this)
  have hl := h.len
  obtain ⟨BL, hBL⟩ : ∃ BL, BL = sealL k kd N l := ⟨_, rfl⟩
  have hbl : BL.length = n + 41 := by rw [hBL, sealL_length, hl]; omega
  obtain ⟨i, hi⟩ : ∃ i, i = a % (n + 41) := ⟨_, rfl⟩
  have hin : i < n + 41 := by rw [hi]; exact Nat.mod_lt _ (by omega)
  obtain ⟨bi, hbi⟩ : ∃ bi, bi = BL[i]?.getD 0 := ⟨_, rfl⟩
  obtain ⟨B1, hB1⟩ : ∃ B1, B1 = BL.set i (bi ^^^ x) := ⟨_, rfl⟩
  have hb1l : B1.length = n + 41 := by rw [hB1, List.length_set, hbl]
  have hsp : spoilt k kd N l a x = B1 := by rw [hB1, hbi, hi, hBL, spoilt, sealL_length, hl, Nat.add_comm 41 n]
  obtain ⟨r, hr⟩ : ∃ r, r = ct / 2 % (n + 41) := ⟨_, rfl⟩
  have hrn : r < n + 41 := by rw [hr]; exact Nat.mod_lt _ (by omega)
  obtain ⟨B2, hB2⟩ : ∃ B2, B2 = B1 := ⟨_, rfl⟩
  have hb2l : B2.length = (n + 41) := by rw [hB2]; exact hb1l
  have hcb : cutB ct (spoilt k kd N l a x) = B2 := by rw [hsp, hB2, cutB, if_neg (by omega)]
  rw [hcb] at hE
  obtain ⟨SB, hSB⟩ : ∃ SB, SB = st B2 := ⟨_, rfl⟩
  obtain ⟨P, hP⟩ : ∃ P, P = openP j B2 := ⟨_, rfl⟩
  obtain ⟨SQ, hSQ⟩ : ∃ SQ, SQ = st P := ⟨_, rfl⟩
  obtain ⟨K2, hK2⟩ : ∃ K2, K2 = openK j B2 := ⟨_, rfl⟩
  obtain ⟨N2, hN2⟩ : ∃ N2, N2 = openN j B2 := ⟨_, rfl⟩
  obtain ⟨PL, hPL⟩ : ∃ PL, PL = P.length := ⟨_, rfl⟩
  have hpl : PL + 41 = B2.length := by
    have h0 := openE_zero.1 hE
    rw [hPL, hP, openP_length hE]
    omega
  have HPE : Hid (B2.length = PL + 41) := Lib.hid hpl.symm
  have hOV : ∀ W (e : Ending) w', Opened W j B2 e w' → ∃ A' c', e = .returned (.tuple #[.slice A' PL c', .int .u8 (K2.toNat : Int), .int .u64 (N2 : Int), .int .i64 0]) ∧ Byt w' (W.heap.size ≤ ·) A' PL c' P ∧ Below W.heap.size W w' := by
    rintro W _ w' ⟨A', c', rfl, hY, hb⟩
    rw [← hP, ← hPL] at hY
    exact ⟨A', c', by rw [hPL, hP, hK2, hN2, hE]; rfl, hY, hb⟩
  have hRV : ∀ W (e : Ending) w', ROpened W j B2 e w' → e = .returned (.tuple #[.string SQ, .int .u8 (K2.toNat : Int), .int .u64 (N2 : Int), .int .i64 0]) ∧ Below W.heap.size W w' := by
    rintro W _ w' ⟨rfl, hb⟩
    exact ⟨by rw [hSQ, hP, hK2, hN2, hE]; rfl, hb⟩
  have HSA : Hid (∀ W {S : Nat → Prop} {A : Option Addr} {c : Nat}, Byt W S A PL c P → Tab W → QTab W → Calls Tryd.prog 9 #[.agg JS, .int .u8 (K2.toNat : Int), .int .u64 (N2 : Int), .slice A PL c] W fun e w' => ∃ g, e = .returned (.tuple #[.slice (some ⟨g, 0, none⟩) (PL + 41) (PL + 41), .int .i64 0]) ∧ Byt w' (W.heap.size ≤ ·) (some ⟨g, 0, none⟩) (PL + 41) (PL + 41) B2 ∧ Below W.heap.size W w') := Lib.hid fun W S A c h1 h2 h3 => by
    rw [hJS]
    refine (sseal_any h1 h2 h3 j hj K2 N2 (by omega)).mono ?_
    rintro _ w' ⟨g, rfl, hown, hb⟩
    rw [hK2, hN2, hP, sealed_again hE] at hown
    exact ⟨g, rfl, own_byt_at hown, hb⟩
  have HSE : Hid (∀ W {S : Nat → Prop} {A : Option Addr} {c : Nat}, Byt W S A n c l → Tab W → QTab W → Calls Tryd.prog 9 #[.agg KS, .int .u8 (kd.toNat : Int), .int .u64 (N : Int), .slice A n c] W fun e w' => ∃ g, e = .returned (.tuple #[.slice (some ⟨g, 0, none⟩) (n + 41) (n + 41), .int .i64 0]) ∧ w'.ownsRow W.heap.size 5 1 (.slice (some ⟨g, 0, none⟩) (n + 41) (n + 41)) (n + 41) (u8s BL) ∧ Below W.heap.size W w') := Lib.hid fun W S A c h1 h2 h3 => by
    rw [hKS, hBL]
    exact sseal_any h1 h2 h3 k hk kd N (by omega)
  have HOP : Hid (∀ W {S : Nat → Prop} {A : Option Addr} {c : Nat}, Byt W S A (n + 41) c B2 → Tab W → QTab W → Calls Tryd.prog 11 #[.agg JS, .slice A (n + 41) c] W fun e w' => ∃ A' c', e = .returned (.tuple #[.slice A' PL c', .int .u8 (K2.toNat : Int), .int .u64 (N2 : Int), .int .i64 0]) ∧ Byt w' (W.heap.size ≤ ·) A' PL c' P ∧ Below W.heap.size W w') := Lib.hid fun W S A c h1 h2 h3 => by
    rw [hJS]
    exact (sopen_any h1 h2 h3 j hj).mono fun e w' he => hOV W e w' he
  have HRO : Hid (∀ W, Calls Tryd.prog 14 #[.agg JS, .string SB] W fun e w' => e = .returned (.tuple #[.string SQ, .int .u8 (K2.toNat : Int), .int .u64 (N2 : Int), .int .i64 0]) ∧ Below W.heap.size W w') := Lib.hid fun W => by
    rw [hJS, hSB]
    exact (rsopen_any (by omega) j hj).mono fun e w' he => hRV W e w' he
  have HSS := Lib.hid (And.intro hSB hSQ)
  have HH := Lib.hid h
  have htm : (a : Int).tmod ((n : Int) + 41) = (i : Int) := by
    rw [Int.tmod_eq_emod_of_nonneg (by omega), hi]
    simp
  have hz41 : (((n : Int) + 41) == 0) = false := by simp; omega
  have hz42 : ¬ ((n : Int) + 41 = 0) := by omega
  have hii : (i : Int) < (n : Int) + 41 := by omega
  have hand : bits .and .u16 (ct : Int) 1 = 0 := by
    have := u16_and_nat ct 1 (by omega) (by omega)
    rw [Nat.and_one_is_mod, hpar] at this
    simpa using this
  have hxr := xor8 bi x
  have hrr : (ct : Int) / 2 % ((n : Int) + 41) = (r : Int) := by rw [hr]; simp
  have HBI := Lib.hid (And.intro hbi (And.intro hB1 (And.intro hB2 hbl)))
  have HRR := Lib.hid (And.intro hr hrn)
  clear hBL hbl hi hbi hB1 hb1l hsp hr hB2 hb2l hcb hSB hP hSQ hOV hRV hKS hJS hk hj h hl hpar hE hK2 hN2 hPL hpl
  go_enter Tryd.func4, Tryd.ntmps4
  go_wp2_with fail
  refine (lawake_true (ht.1.below HBX.out.1) (ht.2.below HBX.out.1)).mono ?_
  rintro _ w1 ⟨rfl, hb1⟩
  have HB1 : Hid (Below w.heap.size w w1 ∧ w1.heap[w.heap.size]? = some (.cells KS 23 (0, 0)) ∧ w1.heap[w.heap.size + 1]? = some (.cells JS 23 (0, 0))) := Lib.hid ⟨HBX.out.1.trans (hb1.mono HBX.out.1.size), (hb1.block _ (lt_of_cells HBX.out.2.1)).trans HBX.out.2.1, (hb1.block _ (lt_of_cells HBX.out.2.2)).trans HBX.out.2.2⟩
  have HT := Lib.hid ht
  clear hb1 ht HBX
  go_wp2_with (refine wpList_load_row (by rfl) 23 (.tmp 9) (by rfl) w.heap.size (by rfl) 23 KS (0, 0) _ HB1.out.2.1 Tryd.underlying23 (by rfl) (by rw [HZKS.out]; exact key_info) ?_)
  refine (HSE.out _ (HH.out.below HB1.out.1) (HT.out.1.below HB1.out.1) (HT.out.2.below HB1.out.1)).mono ?_
  rintro _ w2 ⟨g, rfl, hown2, hb2⟩
  have HB2 : Hid (Below w.heap.size w w2 ∧ w2.heap[w.heap.size]? = some (.cells KS 23 (0, 0)) ∧ w2.heap[w.heap.size + 1]? = some (.cells JS 23 (0, 0))) := Lib.hid ⟨HB1.out.1.trans (hb2.mono HB1.out.1.size), (hb2.block _ (lt_of_cells HB1.out.2.1)).trans HB1.out.2.1, (hb2.block _ (lt_of_cells HB1.out.2.2)).trans HB1.out.2.2⟩
  have HO2 : Hid (w2.ownsRow w1.heap.size 5 1 (.slice (some ⟨g, 0, none⟩) (n + 41) (n + 41)) (n + 41) (u8s BL)) := Lib.hid hown2
  have hcell : w2.cell? ⟨g, i, none⟩ = some (.int .u8 (bi.toNat : Int)) := by
    rw [hown2.cellAt i (by omega), HBI.out.1]
    have : i < BL.length := by rw [HBI.out.2.2.2]; exact hin
    simp [u8s, this]
  have hfree := hown2.frozenAt i
  have hgw : w1.heap.size ≤ g := (hown2.lt g rfl).1
  clear hb2 HSE hown2
  go_upto_region 10 with fail
  have hst := HO2.out.stored i (.int .u8 (((bi ^^^ x).toNat : Nat) : Int))
  rw [u8s_set, ← HBI.out.2.1] at hst
  have hg0 : w.heap.size + 1 < g := Nat.lt_of_lt_of_le (lt_of_cells HB1.out.2.2) hgw
  have hg1 : w.heap.size + 1 < w1.heap.size := lt_of_cells HB1.out.2.2
  rw [show (((bi.toNat ^^^ x.toNat : Nat)) : Int) = (((bi ^^^ x).toNat : Nat) : Int) by rw [UInt8.toNat_xor]]
  have HX3 : Hid (Below w.heap.size w (w2.setCell ⟨g, i, none⟩ (.int .u8 (((bi ^^^ x).toNat : Nat) : Int))) ∧ (w2.setCell ⟨g, i, none⟩ (.int .u8 (((bi ^^^ x).toNat : Nat) : Int))).heap[w.heap.size]? = some (.cells KS 23 (0, 0)) ∧ (w2.setCell ⟨g, i, none⟩ (.int .u8 (((bi ^^^ x).toNat : Nat) : Int))).heap[w.heap.size + 1]? = some (.cells JS 23 (0, 0))) := Lib.hid ⟨HB2.out.1.setCell (by show w.heap.size ≤ g; omega) _, (Below.heap_setCell _ _ _ _ (by show w.heap.size ≠ g; omega)).trans HB2.out.2.1, (Below.heap_setCell _ _ _ _ (by show w.heap.size + 1 ≠ g; omega)).trans HB2.out.2.2⟩
  have HY3 := Lib.hid (own_byt_at hst.1)
  clear hst hcell hfree HB1 HB2 HO2 hxr hii hz41 htm hz42
  generalize w2.setCell ⟨g, i, none⟩ (.int .u8 (((bi ^^^ x).toNat : Nat) : Int)) = w3 at *
  go_upto_region 12 with fail
  clear hand hrr
  have HY3b := HY3
  rw [← HBI.out.2.2.1] at HY3b
  clear HY3
  go_upto_region 14 with fail
  have HX4 : Hid (Below w.heap.size w w3 ∧ w3.heap[w.heap.size + 1]? = some (.cells JS 23 (0, 0))) := Lib.hid ⟨HX3.out.1, HX3.out.2.2⟩
  have HY4 := HY3b
  clear HX3 HY3b
  generalize w3 = w4 at *
  go_wp2_with (refine wpList_load_row (by rfl) 23 (.tmp 10) (by rfl) (w.heap.size + 1) (by rfl) 23 JS (0, 0) _ HX4.out.2 Tryd.underlying23 (by rfl) (by rw [HZJS.out]; exact key_info) ?_)
  refine (HOP.out _ HY4.out (HT.out.1.below HX4.out.1) (HT.out.2.below HX4.out.1)).mono ?_
  rintro _ w5 ⟨A5, c5, rfl, hY5, hb5⟩
  have HX5 : Hid (Below w.heap.size w w5 ∧ w5.heap[w.heap.size + 1]? = some (.cells JS 23 (0, 0))) := Lib.hid ⟨HX4.out.1.trans (hb5.mono HX4.out.1.size), (hb5.block _ (lt_of_cells HX4.out.2)).trans HX4.out.2⟩
  have HY5 := Lib.hid (And.intro (HY4.out.below hb5) hY5)
  have hcv5 := byt_string HY5.out.1
  rw [show (⟨B2.toArray⟩ : ByteArray) = st B2 from rfl, ← HSS.out.1] at hcv5
  clear hY5 hb5 HX4 HY4 HOP
  go_wp2_with (refine wpList_load_row (by rfl) 23 (.tmp 10) (by rfl) (w.heap.size + 1) (by rfl) 23 JS (0, 0) _ HX5.out.2 Tryd.underlying23 (by rfl) (by rw [HZJS.out]; exact key_info) ?_)
  refine (HRO.out _).mono ?_
  rintro _ w6 ⟨rfl, hb6⟩
  have HX6 : Hid (Below w.heap.size w w6 ∧ w6.heap[w.heap.size + 1]? = some (.cells JS 23 (0, 0))) := Lib.hid ⟨HX5.out.1.trans (hb6.mono HX5.out.1.size), (hb6.block _ (lt_of_cells HX5.out.2)).trans HX5.out.2⟩
  have HY6 := Lib.hid (And.intro (HY5.out.1.below hb6) (HY5.out.2.below hb6))
  have hcv6 := byt_string HY6.out.2
  rw [show (⟨P.toArray⟩ : ByteArray) = st P from rfl, ← HSS.out.2] at hcv6
  clear hb6 HX5 HY5 HRO hcv5
  go_wp2_with (refine wpList_load_row (by rfl) 23 (.tmp 10) (by rfl) (w.heap.size + 1) (by rfl) 23 JS (0, 0) _ HX6.out.2 Tryd.underlying23 (by rfl) (by rw [HZJS.out]; exact key_info) ?_)
  refine (HSA.out _ HY6.out.2 (HT.out.1.below HX6.out.1) (HT.out.2.below HX6.out.1)).mono ?_
  rintro _ w7 ⟨g7, rfl, hY7, hb7⟩
  have HX7 : Hid (Below w.heap.size w w7) := Lib.hid (HX6.out.1.trans (hb7.mono HX6.out.1.size))
  have hcv7 := byt_string hY7
  have hcv8 := byt_string (HY6.out.1.below hb7)
  rw [show (⟨B2.toArray⟩ : ByteArray) = st B2 from rfl, ← HSS.out.1] at hcv7 hcv8
  clear hY7 hb7 HX6 HY6 hcv6 HSA
  go_wp2_with fail
  go_ret
  exact ⟨rfl, HX7.out⟩

set_option maxHeartbeats 8000000 in
set_option maxRecDepth 100000 in
theorem opens_edn {w : World} (k : List UInt8) (hk : k.length = 32) (j : List UInt8) (hj : j.length = 32) {S : Nat → Prop} {A : Option Addr} {n c : Nat} {l : List UInt8} (h : Byt w S A n c l) (hn : n ≤ 300) (kd : UInt8) (N : Nat) (a : Nat) (ha : a < 65536) (x : UInt8) (ct : Nat) (hct : ct < 65536) (hpar : ct % 2 = 0)
    (hE : openE j (cutB ct (spoilt k kd N l a x)) ≠ 0) (ht : Tab w ∧ QTab w) :
    Calls Tryd.prog 4 #[.agg (row8 k), .agg (row8 j), .slice A n c, .int .u8 (kd.toNat : Int), .int .u64 (N : Int), .int .u16 (a : Int), .int .u8 (x.toNat : Int), .int .u16 (ct : Int), .bool false] w fun e w' => e = .returned (.bool true) ∧ Below w.heap.size w w' := by
  obtain ⟨KS, hKS⟩ : ∃ KS, KS = row8 k := ⟨_, rfl⟩
  rw [← hKS]
  have HZKS : Hid (KS.size = 32) := Lib.hid (by rw [hKS, row8_size, hk])
  obtain ⟨JS, hJS⟩ : ∃ JS, JS = row8 j := ⟨_, rfl⟩
  rw [← hJS]
  have HZJS : Hid (JS.size = 32) := Lib.hid (by rw [hJS, row8_size, hj])
  have HKA : Hid (KS.all (·.oneCell') = true) := Lib.hid (by rw [hKS]; exact row8_one _)
  have HBX : Hid (Below w.heap.size w ((w.alloc (.cells KS 23)).alloc (.cells JS 23)) ∧ ((w.alloc (.cells KS 23)).alloc (.cells JS 23)).heap[w.heap.size]? = some (.cells KS 23 (0, 0)) ∧ ((w.alloc (.cells KS 23)).alloc (.cells JS 23)).heap[w.heap.size + 1]? = some (.cells JS 23 (0, 0))) := Lib.hid (by
    refine ⟨((Below.refl _ _).alloc (Nat.le_refl _) _).alloc (by simp) _, (Below.heap_alloc _ _ _ (by simp)).trans (heap_alloc_new w _), ?_⟩
    have := heap_alloc_new (w.alloc (.cells KS 23)) (.cells JS 23)
    simpa using this)
  have hl := h.len
  obtain ⟨BL, hBL⟩ : ∃ BL, BL = sealL k kd N l := ⟨_, rfl⟩
  have hbl : BL.length = n + 41 := by rw [hBL, sealL_length, hl]; omega
  obtain ⟨i, hi⟩ : ∃ i, i = a % (n + 41) := ⟨_, rfl⟩
  have hin : i < n + 41 := by rw [hi]; exact Nat.mod_lt _ (by omega)
  obtain ⟨bi, hbi⟩ : ∃ bi, bi = BL[i]?.getD 0 := ⟨_, rfl⟩
  obtain ⟨B1, hB1⟩ : ∃ B1, B1 = BL.set i (bi ^^^ x) := ⟨_, rfl⟩
  have hb1l : B1.length = n + 41 := by rw [hB1, List.length_set, hbl]
  have hsp : spoilt k kd N l a x = B1 := by rw [hB1, hbi, hi, hBL, spoilt, sealL_length, hl, Nat.add_comm 41 n]
  obtain ⟨r, hr⟩ : ∃ r, r = ct / 2 % (n + 41) := ⟨_, rfl⟩
  have hrn : r < n + 41 := by rw [hr]; exact Nat.mod_lt _ (by omega)
  obtain ⟨B2, hB2⟩ : ∃ B2, B2 = B1 := ⟨_, rfl⟩
  have hb2l : B2.length = (n + 41) := by rw [hB2]; exact hb1l
  have hcb : cutB ct (spoilt k kd N l a x) = B2 := by rw [hsp, hB2, cutB, if_neg (by omega)]
  rw [hcb] at hE
  obtain ⟨SB, hSB⟩ : ∃ SB, SB = st B2 := ⟨_, rfl⟩
  obtain ⟨P, hP⟩ : ∃ P, P = openP j B2 := ⟨_, rfl⟩
  obtain ⟨SQ, hSQ⟩ : ∃ SQ, SQ = st P := ⟨_, rfl⟩
  obtain ⟨EE, hEE⟩ : ∃ EE, EE = (openE j B2 : Int) := ⟨_, rfl⟩
  have hp0 : P = [] := by rw [hP, openP_not hE]
  have HEN : Hid (¬ EE = 0) := Lib.hid (by rw [hEE]; omega)
  have hOV : ∀ W (e : Ending) w', Opened W j B2 e w' → ∃ A' c', e = .returned (.tuple #[.slice A' 0 c', .int .u8 0, .int .u64 0, .int .i64 EE]) ∧ Byt w' (W.heap.size ≤ ·) A' 0 c' P ∧ Below W.heap.size W w' := by
    rintro W _ w' ⟨A', c', rfl, hY, hb⟩
    rw [← hP, hp0, List.length_nil, ← hp0] at hY
    exact ⟨A', c', by rw [openP_not hE, openK, if_neg hE, openN, if_neg hE, hEE]; rfl, hY, hb⟩
  have hRV : ∀ W (e : Ending) w', ROpened W j B2 e w' → e = .returned (.tuple #[.string SQ, .int .u8 0, .int .u64 0, .int .i64 EE]) ∧ Below W.heap.size W w' := by
    rintro W _ w' ⟨rfl, hb⟩
    exact ⟨by rw [hSQ, hP, openK, if_neg hE, openN, if_neg hE, hEE]; rfl, hb⟩
  have HSE : Hid (∀ W {S : Nat → Prop} {A : Option Addr} {c : Nat}, Byt W S A n c l → Tab W → QTab W → Calls Tryd.prog 9 #[.agg KS, .int .u8 (kd.toNat : Int), .int .u64 (N : Int), .slice A n c] W fun e w' => ∃ g, e = .returned (.tuple #[.slice (some ⟨g, 0, none⟩) (n + 41) (n + 41), .int .i64 0]) ∧ w'.ownsRow W.heap.size 5 1 (.slice (some ⟨g, 0, none⟩) (n + 41) (n + 41)) (n + 41) (u8s BL) ∧ Below W.heap.size W w') := Lib.hid fun W S A c h1 h2 h3 => by
    rw [hKS, hBL]
    exact sseal_any h1 h2 h3 k hk kd N (by omega)
  have HOP : Hid (∀ W {S : Nat → Prop} {A : Option Addr} {c : Nat}, Byt W S A (n + 41) c B2 → Tab W → QTab W → Calls Tryd.prog 11 #[.agg JS, .slice A (n + 41) c] W fun e w' => ∃ A' c', e = .returned (.tuple #[.slice A' 0 c', .int .u8 0, .int .u64 0, .int .i64 EE]) ∧ Byt w' (W.heap.size ≤ ·) A' 0 c' P ∧ Below W.heap.size W w') := Lib.hid fun W S A c h1 h2 h3 => by
    rw [hJS]
    exact (sopen_any h1 h2 h3 j hj).mono fun e w' he => hOV W e w' he
  have HRO : Hid (∀ W, Calls Tryd.prog 14 #[.agg JS, .string SB] W fun e w' => e = .returned (.tuple #[.string SQ, .int .u8 0, .int .u64 0, .int .i64 EE]) ∧ Below W.heap.size W w') := Lib.hid fun W => by
    rw [hJS, hSB]
    exact (rsopen_any (by omega) j hj).mono fun e w' he => hRV W e w' he
  have HSS := Lib.hid (And.intro hSB hSQ)
  have HH := Lib.hid h
  have htm : (a : Int).tmod ((n : Int) + 41) = (i : Int) := by
    rw [Int.tmod_eq_emod_of_nonneg (by omega), hi]
    simp
  have hz41 : (((n : Int) + 41) == 0) = false := by simp; omega
  have hz42 : ¬ ((n : Int) + 41 = 0) := by omega
  have hii : (i : Int) < (n : Int) + 41 := by omega
  have hand : bits .and .u16 (ct : Int) 1 = 0 := by
    have := u16_and_nat ct 1 (by omega) (by omega)
    rw [Nat.and_one_is_mod, hpar] at this
    simpa using this
  have hxr := xor8 bi x
  have hrr : (ct : Int) / 2 % ((n : Int) + 41) = (r : Int) := by rw [hr]; simp
  have HBI := Lib.hid (And.intro hbi (And.intro hB1 (And.intro hB2 hbl)))
  have HRR := Lib.hid (And.intro hr hrn)
  clear hBL hbl hi hbi hB1 hb1l hsp hr hB2 hb2l hcb hSB hP hSQ hOV hRV hKS hJS hk hj h hl hpar hE hEE hp0
  go_enter Tryd.func4, Tryd.ntmps4
  go_wp2_with fail
  refine (lawake_true (ht.1.below HBX.out.1) (ht.2.below HBX.out.1)).mono ?_
  rintro _ w1 ⟨rfl, hb1⟩
  have HB1 : Hid (Below w.heap.size w w1 ∧ w1.heap[w.heap.size]? = some (.cells KS 23 (0, 0)) ∧ w1.heap[w.heap.size + 1]? = some (.cells JS 23 (0, 0))) := Lib.hid ⟨HBX.out.1.trans (hb1.mono HBX.out.1.size), (hb1.block _ (lt_of_cells HBX.out.2.1)).trans HBX.out.2.1, (hb1.block _ (lt_of_cells HBX.out.2.2)).trans HBX.out.2.2⟩
  have HT := Lib.hid ht
  clear hb1 ht HBX
  go_wp2_with (refine wpList_load_row (by rfl) 23 (.tmp 9) (by rfl) w.heap.size (by rfl) 23 KS (0, 0) _ HB1.out.2.1 Tryd.underlying23 (by rfl) (by rw [HZKS.out]; exact key_info) ?_)
  refine (HSE.out _ (HH.out.below HB1.out.1) (HT.out.1.below HB1.out.1) (HT.out.2.below HB1.out.1)).mono ?_
  rintro _ w2 ⟨g, rfl, hown2, hb2⟩
  have HB2 : Hid (Below w.heap.size w w2 ∧ w2.heap[w.heap.size]? = some (.cells KS 23 (0, 0)) ∧ w2.heap[w.heap.size + 1]? = some (.cells JS 23 (0, 0))) := Lib.hid ⟨HB1.out.1.trans (hb2.mono HB1.out.1.size), (hb2.block _ (lt_of_cells HB1.out.2.1)).trans HB1.out.2.1, (hb2.block _ (lt_of_cells HB1.out.2.2)).trans HB1.out.2.2⟩
  have HO2 : Hid (w2.ownsRow w1.heap.size 5 1 (.slice (some ⟨g, 0, none⟩) (n + 41) (n + 41)) (n + 41) (u8s BL)) := Lib.hid hown2
  have hcell : w2.cell? ⟨g, i, none⟩ = some (.int .u8 (bi.toNat : Int)) := by
    rw [hown2.cellAt i (by omega), HBI.out.1]
    have : i < BL.length := by rw [HBI.out.2.2.2]; exact hin
    simp [u8s, this]
  have hfree := hown2.frozenAt i
  have hgw : w1.heap.size ≤ g := (hown2.lt g rfl).1
  clear hb2 HSE hown2
  go_upto_region 10 with fail
  have hst := HO2.out.stored i (.int .u8 (((bi ^^^ x).toNat : Nat) : Int))
  rw [u8s_set, ← HBI.out.2.1] at hst
  have hg0 : w.heap.size + 1 < g := Nat.lt_of_lt_of_le (lt_of_cells HB1.out.2.2) hgw
  have hg1 : w.heap.size + 1 < w1.heap.size := lt_of_cells HB1.out.2.2
  rw [show (((bi.toNat ^^^ x.toNat : Nat)) : Int) = (((bi ^^^ x).toNat : Nat) : Int) by rw [UInt8.toNat_xor]]
  have HX3 : Hid (Below w.heap.size w (w2.setCell ⟨g, i, none⟩ (.int .u8 (((bi ^^^ x).toNat : Nat) : Int))) ∧ (w2.setCell ⟨g, i, none⟩ (.int .u8 (((bi ^^^ x).toNat : Nat) : Int))).heap[w.heap.size]? = some (.cells KS 23 (0, 0)) ∧ (w2.setCell ⟨g, i, none⟩ (.int .u8 (((bi ^^^ x).toNat : Nat) : Int))).heap[w.heap.size + 1]? = some (.cells JS 23 (0, 0))) := Lib.hid ⟨HB2.out.1.setCell (by show w.heap.size ≤ g; omega) _, (Below.heap_setCell _ _ _ _ (by show w.heap.size ≠ g; omega)).trans HB2.out.2.1, (Below.heap_setCell _ _ _ _ (by show w.heap.size + 1 ≠ g; omega)).trans HB2.out.2.2⟩
  have HY3 := Lib.hid (own_byt_at hst.1)
  clear hst hcell hfree HB1 HB2 HO2 hxr hii hz41 htm hz42
  generalize w2.setCell ⟨g, i, none⟩ (.int .u8 (((bi ^^^ x).toNat : Nat) : Int)) = w3 at *
  go_upto_region 12 with fail
  clear hand hrr
  have HY3b := HY3
  rw [← HBI.out.2.2.1] at HY3b
  clear HY3
  go_upto_region 14 with fail
  have HX4 : Hid (Below w.heap.size w w3 ∧ w3.heap[w.heap.size + 1]? = some (.cells JS 23 (0, 0))) := Lib.hid ⟨HX3.out.1, HX3.out.2.2⟩
  have HY4 := HY3b
  clear HX3 HY3b
  generalize w3 = w4 at *
  go_wp2_with (refine wpList_load_row (by rfl) 23 (.tmp 10) (by rfl) (w.heap.size + 1) (by rfl) 23 JS (0, 0) _ HX4.out.2 Tryd.underlying23 (by rfl) (by rw [HZJS.out]; exact key_info) ?_)
  refine (HOP.out _ HY4.out (HT.out.1.below HX4.out.1) (HT.out.2.below HX4.out.1)).mono ?_
  rintro _ w5 ⟨A5, c5, rfl, hY5, hb5⟩
  have HX5 : Hid (Below w.heap.size w w5 ∧ w5.heap[w.heap.size + 1]? = some (.cells JS 23 (0, 0))) := Lib.hid ⟨HX4.out.1.trans (hb5.mono HX4.out.1.size), (hb5.block _ (lt_of_cells HX4.out.2)).trans HX4.out.2⟩
  have HY5 := Lib.hid (And.intro (HY4.out.below hb5) hY5)
  have hcv5 := byt_string HY5.out.1
  rw [show (⟨B2.toArray⟩ : ByteArray) = st B2 from rfl, ← HSS.out.1] at hcv5
  clear hY5 hb5 HX4 HY4 HOP
  go_wp2_with (refine wpList_load_row (by rfl) 23 (.tmp 10) (by rfl) (w.heap.size + 1) (by rfl) 23 JS (0, 0) _ HX5.out.2 Tryd.underlying23 (by rfl) (by rw [HZJS.out]; exact key_info) ?_)
  refine (HRO.out _).mono ?_
  rintro _ w6 ⟨rfl, hb6⟩
  have HX6 : Hid (Below w.heap.size w w6 ∧ w6.heap[w.heap.size + 1]? = some (.cells JS 23 (0, 0))) := Lib.hid ⟨HX5.out.1.trans (hb6.mono HX5.out.1.size), (hb6.block _ (lt_of_cells HX5.out.2)).trans HX5.out.2⟩
  have HY6 := Lib.hid (And.intro (HY5.out.1.below hb6) (HY5.out.2.below hb6))
  have hcv6 := byt_string HY6.out.2
  rw [show (⟨P.toArray⟩ : ByteArray) = st P from rfl, ← HSS.out.2] at hcv6
  clear hb6 HX5 HY5 HRO hcv5
  have hen := HEN.out
  go_wp2_with fail
  go_ret
  exact ⟨rfl, HX6.out.1⟩

end Go.Proofs.YtlkkocgjpljibaaDoor
