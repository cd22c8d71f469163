/-
  The statement WalBlocks: its walk.
-/
import Derived.Test.YtkhbmgmppoepjaaWalAwake
import Derived.Test.YtkhbmgmppoepjaaWalRefBlk
namespace Go.Proofs.Ytkhbmgmppoepjaa
open Go.RowKit

/-- '[]byte(s)': a row of the call's own, that may be written. -/
theorem conv_own (l : List UInt8) (hl : l.length ≤ 1000000) (W : World) : ∃ c' W', (convert 9 41 (.string (st l))).run Try.prog W = .ok (.slice (some ⟨W.heap.size, 0, none⟩) l.length c') W' ∧ Below W.heap.size W W' ∧ Byt W' (fun b => b = W.heap.size) (some ⟨W.heap.size, 0, none⟩) l.length c' l ∧ ∀ i, i < l.length → W'.frozen? ⟨W.heap.size, i, none⟩ = false := by
  have h := run_bytes_of_string (P := Try.prog) W 9 41 5 (st l) Try.underlying9 Try.underlying41 Try.underlying5
  rw [st_size] at h
  have hge := grownCap_ge W l.length 0 5
  have hle := grownCap_le_maxLen W l.length 0 5 (by unfold maxLen; omega)
  generalize grownCap W l.length 0 5 = C at *
  have hnew : (W.drew.alloc (.cells (bytesRow (st l) C) 5 ((bytesRow (st l) C).size, (bytesRow (st l) C).size + 1))).heap[W.heap.size]? = some _ := heap_alloc_new W.drew _
  refine ⟨C, _, h, (below_drew (Below.refl _ _)).alloc (Nat.le_refl _) _, ⟨rfl, hge, hle, fun h0 => ⟨_, 0, rfl, rfl, by simp, fun i hi => ?_⟩⟩, fun i hi => ?_⟩
  · rw [cell_of_cells hnew]
    simp [bytesRow, st, Array.getElem?_append, hi]
  · have hsz : i < (bytesRow (st l) C).size := by simp [bytesRow, st]; omega
    generalize bytesRow (st l) C = cs at *
    simp only [World.frozen?, hnew]
    simp
    omega
theorem byt_set {W : World} {S : Nat → Prop} {g n c : Nat} {l : List UInt8} (h : Byt W S (some ⟨g, 0, none⟩) n c l) {i : Nat} (hi : i < n) (y : UInt8) : Byt (W.setCell ⟨g, i, none⟩ (.int .u8 (y.toNat : Int))) S (some ⟨g, 0, none⟩) n c (l.set i y) := by
  refine ⟨by rw [List.length_set]; exact h.len, h.cap, h.max, fun h0 => ?_⟩
  obtain ⟨b, off, e, hS, hb, hc⟩ := h.row h0
  injection e with e
  injection e with e1 e2
  subst e1 e2
  refine ⟨g, 0, rfl, hS, by simpa [World.setCell] using hb, fun j hj => ?_⟩
  have hlen := h.len
  rw [Nat.zero_add]
  by_cases hij : i = j
  · subst hij
    have h1 := hc i hj
    rw [Nat.zero_add] at h1
    rw [World.cell?_setCell_same' _ _ _ (by rw [h1]; rfl), List.getElem?_set_self (by omega)]
    rfl
  · have h1 := hc j hj
    rw [Nat.zero_add] at h1
    rw [World.cell?_setCell_other (w := W) (a := ⟨g, i, none⟩) (b := ⟨g, j, none⟩) (h := by intro e; injection e with _ e2 _; exact hij e2), h1, List.getElem?_set_ne hij]
set_option maxHeartbeats 8000000 in
set_option maxRecDepth 100000 in
theorem wwb_long {w : World} (A A2 : Option Addr) (n c n2 c2 : Nat) (N : Int) (e own : Bool) (a x : Int) (hno : 200 < n ∨ 110 < n2) :
    Calls Try.prog 4 #[.slice A n c, .int .u64 N, .slice A2 n2 c2, .bool e, .int .u8 a, .int .u8 x, .bool own] w fun e w' => e = .returned (.bool true) ∧ Below w.heap.size w w' := by
  have haw := wawake_true w
  by_cases h1 : 200 < n
  · have hn' : (200 : Int) < (n : Int) := by omega
    clear hno h1
    go_enter Try.func4, Try.ntmps4
    go_wp2_with (go_at_call 9; refine haw.mono ?_; clear haw; rintro _ w1 ⟨rfl, hb1⟩)
    go_ret
    exact ⟨rfl, hb1⟩
  · have hn' : ¬ (200 : Int) < (n : Int) := by omega
    have hs' : (110 : Int) < (n2 : Int) := by omega
    clear hno h1
    go_enter Try.func4, Try.ntmps4
    go_wp2_with (go_at_call 9; refine haw.mono ?_; clear haw; rintro _ w1 ⟨rfl, hb1⟩)
    go_ret
    exact ⟨rfl, hb1⟩
set_option maxHeartbeats 8000000 in
set_option maxRecDepth 100000 in
theorem wwb_raw {w : World} {S : Nat → Prop} {A A2 : Option Addr} {n c n2 c2 : Nat} {b : List UInt8} (h : Byt w S A n c b) (N : Int) (e : Bool) (a x : Int) (hn : n ≤ 200) (hn2 : n2 ≤ 110) :
    Calls Try.prog 4 #[.slice A n c, .int .u64 N, .slice A2 n2 c2, .bool e, .int .u8 a, .int .u8 x, .bool false] w fun e w' => e = .returned (.bool true) ∧ Below w.heap.size w w' := by
  have haw := wawake_true w
  have hn' : ¬ (200 : Int) < (n : Int) := by omega
  have hs' : ¬ (110 : Int) < (n2 : Int) := by omega
  have HH := Lib.hid (And.intro h (And.intro h.len hn))
  clear h hn2
  go_enter Try.func4, Try.ntmps4
  go_upto_region 6 with (go_at_call 9; refine haw.mono ?_; clear haw; rintro _ w1 ⟨rfl, hb1⟩)
  have hcv0 : (convert 41 9 (.slice A n c)).run Try.prog w1 = .ok (.string (st b)) w1 := byt_string (HH.out.1.below hb1)
  obtain ⟨CC, w2, hcw, hb2, hy2, _⟩ := conv_own b (by have := HH.out.2.1; omega) w1
  rw [HH.out.2.1] at hcw hy2
  obtain ⟨CA, hCA⟩ : ∃ CA, CA = some (⟨w1.heap.size, 0, none⟩ : Addr) := ⟨_, rfl⟩
  rw [← hCA] at hcw hy2
  have HB := Lib.hid (hb1.trans (hb2.mono hb1.size))
  have HY := Lib.hid hy2
  clear hb1 hb2 hy2 hCA
  go_upto_region 10 with fail
  clear hcv0 hcw
  obtain ⟨R, hR⟩ : ∃ R, R = (readL b).1 := ⟨_, rfl⟩
  have hwh := wwhole_any HY.out (by omega)
  rw [← hR] at hwh
  have hrd := fun W' => rwread_any b W'
  rw [← hR] at hrd
  have hmul : IntKind.i64.wrap ((n : Int) * 3) = ((n * 3 : Nat) : Int) := by rw [IntWalk.i64_in _ (by omega)]; omega
  have hb1 := fun W' => wblocks_any (n * 3) (by omega) W'
  have hb2 := fun W' => rwblocks_any ((n * 3 : Nat) : Int) (by omega) W'
  rw [Int.toNat_natCast] at hb2
  generalize blocksN (n * 3) = BN at hb1 hb2
  generalize (readL b).2.1 = RP at hrd
  generalize (readL b).2.2 = RE at hrd
  clear hR
  by_cases hR0 : 0 < R
  · have hR1 : (0 : Int) < (R : Int) := by omega
    rw [decide_eq_true hR0] at hwh
    clear hR0
    go_wp2_with (first
      | (go_at_call 31; refine hwh.mono ?_; clear hwh; rintro _ wa ⟨rfl, hba⟩
         have hcv : (convert 41 9 (.slice CA n CC)).run Try.prog wa = .ok (.string (st b)) wa := byt_string (HY.out.below hba)
         have HBA := Lib.hid (HB.out.trans (hba.mono HB.out.size))
         clear hba)
      | (go_at_call 32; refine (hrd _).mono ?_; clear hrd; rintro _ wb ⟨rfl, hbb⟩
         have HBB := Lib.hid (HBA.out.trans (hbb.mono HBA.out.size))
         clear hbb)
      | (go_at_call 33; refine (hb1 _).mono ?_; clear hb1; rintro _ _ ⟨rfl, rfl⟩)
      | (go_at_call 34; refine (hb2 _).mono ?_; clear hb2; rintro _ _ ⟨rfl, rfl⟩))
    go_ret
    exact ⟨rfl, HBB.out⟩
  · have hR1 : ¬ (0 : Int) < (R : Int) := by omega
    rw [decide_eq_false hR0] at hwh
    clear hR0
    go_wp2_with (first
      | (go_at_call 31; refine hwh.mono ?_; clear hwh; rintro _ wa ⟨rfl, hba⟩
         have hcv : (convert 41 9 (.slice CA n CC)).run Try.prog wa = .ok (.string (st b)) wa := byt_string (HY.out.below hba)
         have HBA := Lib.hid (HB.out.trans (hba.mono HB.out.size))
         clear hba)
      | (go_at_call 32; refine (hrd _).mono ?_; clear hrd; rintro _ wb ⟨rfl, hbb⟩
         have HBB := Lib.hid (HBA.out.trans (hbb.mono HBA.out.size))
         clear hbb)
      | (go_at_call 33; refine (hb1 _).mono ?_; clear hb1; rintro _ _ ⟨rfl, rfl⟩)
      | (go_at_call 34; refine (hb2 _).mono ?_; clear hb2; rintro _ _ ⟨rfl, rfl⟩))
    go_ret
    exact ⟨rfl, HBB.out⟩
set_option maxHeartbeats 8000000 in
set_option maxRecDepth 100000 in
theorem wwb_own {w : World} {S2 : Nat → Prop} {A A2 : Option Addr} {n c n2 c2 : Nat} {pt : List UInt8} (h2 : Byt w S2 A2 n2 c2 pt) (hb : ∃ S b, Byt w S A n c b) (N : Nat) (hN : N < 18446744073709551616) (e : Bool) (a : Nat) (ha : a < 256) (x : UInt8) (hn : n ≤ 200) (hn2 : n2 ≤ 110) :
    Calls Try.prog 4 #[.slice A n c, .int .u64 (N : Int), .slice A2 n2 c2, .bool e, .int .u8 (a : Int), .int .u8 (x.toNat : Int), .bool true] w fun e w' => e = .returned (.bool true) ∧ Below w.heap.size w w' := by
  have haw := wawake_true w
  have hn' : ¬ (200 : Int) < (n : Int) := by omega
  have hs' : ¬ (110 : Int) < (n2 : Int) := by omega
  obtain ⟨S, b, h⟩ := hb
  obtain ⟨i, hi⟩ : ∃ i, i = a % 128 := ⟨_, rfl⟩
  have ha64 : IntKind.i64.wrap (a : Int) = (a : Int) := IntWalk.i64_in _ (by omega)
  have hrem : (a : Int).tmod 128 = (i : Int) := by rw [hi]; exact (Int.ofNat_tmod a 128).symm
  have hrem2 : (a : Int) % 128 = (i : Int) := by omega
  have HH := Lib.hid (And.intro h (And.intro h.len (And.intro h2 (And.intro h2.len (And.intro hn2 (And.intro hN (show i < 128 by omega)))))))
  clear h h2 hn hn2 hN hi ha
  go_enter Try.func4, Try.ntmps4
  go_upto_region 6 with (go_at_call 9; refine haw.mono ?_; clear haw; rintro _ w1 ⟨rfl, hb1⟩)
  have hcv0 : (convert 41 9 (.slice A n c)).run Try.prog w1 = .ok (.string (st b)) w1 := byt_string (HH.out.1.below hb1)
  obtain ⟨C0, w2, hcw, hb2, _, _⟩ := conv_own b (by have := HH.out.2.1; omega) w1
  rw [HH.out.2.1] at hcw
  have HB2 := Lib.hid (hb1.trans (hb2.mono hb1.size))
  clear hb1 hb2
  go_upto_region 8 with fail
  clear hcv0 hcw
  have hcv2 : (convert 41 9 (.slice A2 n2 c2)).run Try.prog w2 = .ok (.string (st pt)) w2 := byt_string (HH.out.2.2.1.below HB2.out)
  have hblk := rwblock_any N HH.out.2.2.2.2.2.1 pt (by have h1 := HH.out.2.2.2.1; have h2 := HH.out.2.2.2.2.1; omega) e w2
  have hbl : (blockL N pt e).length = 128 := blockL_length _ _ (by have h1 := HH.out.2.2.2.1; have h2 := HH.out.2.2.2.2.1; omega)
  generalize blockL N pt e = BL at *
  have HBL := Lib.hid hbl
  clear hbl
  go_upto_region 9 with (go_at_call 30; refine hblk.mono ?_; clear hblk; rintro _ w3 ⟨rfl, hb3⟩; obtain ⟨CC, w4, hcw, hb4, hy4, hf4⟩ := conv_own BL (by rw [HBL.out]; omega) w3; rw [HBL.out] at hcw hy4 hf4; have HB4 := Lib.hid (HB2.out.trans ((hb3.trans (hb4.mono hb3.size)).mono HB2.out.size)); have HS3 := Lib.hid (show w.heap.size ≤ w3.heap.size by have h1 := HB2.out.size; have h2 := hb3.size; omega); clear hb3 hb4)
  have hcell := (hy4.row (by omega))
  obtain ⟨q, o, hqo, _, _, hcl⟩ := hcell
  injection hqo with hqo
  injection hqo with e1 e2
  subst e1 e2
  have hc4 := hcl i HH.out.2.2.2.2.2.2
  rw [Nat.zero_add] at hc4
  have hfr := hf4 i HH.out.2.2.2.2.2.2
  generalize BL[i]?.getD 0 = y at hc4
  have hxr := xor8 y x
  have hi' : (i : Int) < 128 := by have := HH.out.2.2.2.2.2.2; omega
  have HY4 := Lib.hid hy4
  clear hcl hy4 hf4 hcw hcv2
  go_upto_region 10 with fail
  have hy5 := byt_set HY4.out HH.out.2.2.2.2.2.2 (y ^^^ x)
  have hb5 : Below w.heap.size w (w4.setCell ⟨w3.heap.size, i, none⟩ (.int .u8 ((y ^^^ x).toNat : Int))) := HB4.out.setCell (p := ⟨w3.heap.size, i, none⟩) HS3.out _
  rw [UInt8.toNat_xor] at hy5 hb5
  generalize BL.set i (y ^^^ x) = CL at *
  generalize hWN : w4.setCell ⟨w3.heap.size, i, none⟩ _ = WN at *
  clear hWN
  have HB := Lib.hid hb5
  have HY := Lib.hid hy5
  clear hb5 hy5 hc4 hfr hxr hi' HY4 HBL HB4 HS3
  obtain ⟨R, hR⟩ : ∃ R, R = (readL CL).1 := ⟨_, rfl⟩
  have hwh := wwhole_any HY.out (by omega)
  rw [← hR] at hwh
  have hrd := fun W' => rwread_any CL W'
  rw [← hR] at hrd
  have hb1 : ∀ W', Calls Try.prog 33 #[.int .i64 384] W' fun e w' => e = .returned (.int .i64 (blocksN 384 : Int)) ∧ W' = w' := fun W' => wblocks_any 384 (by omega) W'
  have hb2 : ∀ W', Calls Try.prog 34 #[.int .i64 384] W' fun e w' => e = .returned (.int .i64 (blocksN 384 : Int)) ∧ W' = w' := fun W' => rwblocks_any 384 (by omega) W'
  generalize blocksN 384 = BN at hb1 hb2
  generalize (readL CL).2.1 = RP at hrd
  generalize (readL CL).2.2 = RE at hrd
  clear hR
  by_cases hR0 : 0 < R
  · have hR1 : (0 : Int) < (R : Int) := by omega
    rw [decide_eq_true hR0] at hwh
    clear hR0
    go_wp2_with (first
      | (go_at_call 31; refine hwh.mono ?_; clear hwh; rintro _ wa ⟨rfl, hba⟩
         have hcv : (convert 41 9 (.slice (some ⟨w3.heap.size, 0, none⟩) 128 CC)).run Try.prog wa = .ok (.string (st CL)) wa := byt_string (HY.out.below hba)
         have HBA := Lib.hid (HB.out.trans (hba.mono HB.out.size))
         clear hba)
      | (go_at_call 32; refine (hrd _).mono ?_; clear hrd; rintro _ wb ⟨rfl, hbb⟩
         have HBB := Lib.hid (HBA.out.trans (hbb.mono HBA.out.size))
         clear hbb)
      | (go_at_call 33; refine (hb1 _).mono ?_; clear hb1; rintro _ _ ⟨rfl, rfl⟩)
      | (go_at_call 34; refine (hb2 _).mono ?_; clear hb2; rintro _ _ ⟨rfl, rfl⟩))
    go_ret
    exact ⟨rfl, HBB.out⟩
  · have hR1 : ¬ (0 : Int) < (R : Int) := by omega
    rw [decide_eq_false hR0] at hwh
    clear hR0
    go_wp2_with (first
      | (go_at_call 31; refine hwh.mono ?_; clear hwh; rintro _ wa ⟨rfl, hba⟩
         have hcv : (convert 41 9 (.slice (some ⟨w3.heap.size, 0, none⟩) 128 CC)).run Try.prog wa = .ok (.string (st CL)) wa := byt_string (HY.out.below hba)
         have HBA := Lib.hid (HB.out.trans (hba.mono HB.out.size))
         clear hba)
      | (go_at_call 32; refine (hrd _).mono ?_; clear hrd; rintro _ wb ⟨rfl, hbb⟩
         have HBB := Lib.hid (HBA.out.trans (hbb.mono HBA.out.size))
         clear hbb)
      | (go_at_call 33; refine (hb1 _).mono ?_; clear hb1; rintro _ _ ⟨rfl, rfl⟩)
      | (go_at_call 34; refine (hb2 _).mono ?_; clear hb2; rintro _ _ ⟨rfl, rfl⟩))
    go_ret
    exact ⟨rfl, HBB.out⟩
theorem walk_wblocks {w : World} {S S2 : Nat → Prop} {A A2 : Option Addr} {n c n2 c2 : Nat} {b pt : List UInt8} (h : Byt w S A n c b) (h2 : Byt w S2 A2 n2 c2 pt) (N : Nat) (hN : N < 18446744073709551616) (e own : Bool) (a : Nat) (ha : a < 256) (x : Nat) (hx : x < 256) :
    Calls Try.prog 4 #[.slice A n c, .int .u64 (N : Int), .slice A2 n2 c2, .bool e, .int .u8 (a : Int), .int .u8 (x : Int), .bool own] w fun e w' => e = .returned (.bool true) ∧ Below w.heap.size w w' := by
  by_cases hno : 200 < n ∨ 110 < n2
  · exact wwb_long A A2 n c n2 c2 (N : Int) e own (a : Int) (x : Int) hno
  · cases own with
    | false => exact wwb_raw h (N : Int) e (a : Int) (x : Int) (by omega) (by omega)
    | true =>
      have hxe : (x : Int) = ((UInt8.ofNat x).toNat : Int) := by rw [UInt8.toNat_ofNat']; omega
      rw [hxe]
      exact wwb_own h2 ⟨S, b, h⟩ N hN e a ha (UInt8.ofNat x) (by omega) (by omega)
theorem law_wblocks {w : World} {S S2 : Nat → Prop} {A A2 : Option Addr} {n c n2 c2 : Nat} {b pt : List UInt8} (h : Byt w S A n c b) {N : Int} (hN : (Lit.int .u64 N).wf = true) (h2 : Byt w S2 A2 n2 c2 pt) (e : Bool) {a x : Int} (ha : (Lit.int .u8 a).wf = true) (hx : (Lit.int .u8 x).wf = true) (own : Bool) :
    Calls Try.prog 4 #[.slice A n c, .int .u64 N, .slice A2 n2 c2, .bool e, .int .u8 a, .int .u8 x, .bool own] w fun e w' => e = .returned (.bool true) ∧ Below w.heap.size w w' := by
  have bN := bounds_u64 hN
  have ba := bounds_u8 ha
  have bx := bounds_u8 hx
  obtain ⟨N, rfl⟩ := Int.eq_ofNat_of_zero_le bN.1
  obtain ⟨a, rfl⟩ := Int.eq_ofNat_of_zero_le ba.1
  obtain ⟨x, rfl⟩ := Int.eq_ofNat_of_zero_le bx.1
  exact walk_wblocks h h2 N (by omega) e own a (by omega) x (by omega)
end Go.Proofs.Ytkhbmgmppoepjaa
