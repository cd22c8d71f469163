/-
  The statement BlocksDown: its walk.
-/
import Derived.Test.YthndpfkgljkpcaaBlkDsk
namespace Go.Proofs.Ythndpfkgljkpcaa
open Go.RowKit

/-- Behind so many writes, of s that are done. -/
structure DnM (k s i : Nat) (d : DM) : Prop where
  len : d.l.length = k
  up : i ≤ s → d.down = false ∧ d.left = (s : Int) - (i : Int)
  dn : s < i → d.down = true
theorem DnM.start {k s : Nat} {torn : Int} (h1 : 1 ≤ k) (h2 : k ≤ 65536) : DnM k s 0 (stopM (newM k).1 (s : Int) torn) := by
  rw [newM_at k h1 h2]
  exact ⟨by simp [stopM], fun _ => by simp [stopM], fun h => by omega⟩
theorem DnM.step {k s i : Nat} {d : DM} (h : DnM k s i d) (hk : 1 ≤ k) {b : List UInt8} (hb : b.length = 128) : DnM k s (i + 1) (writeM d ((i % k : Nat) : Int) b).1 ∧ (writeM d ((i % k : Nat) : Int) b).2 = (if i < s then 0 else 30) ∧ (readM (writeM d ((i % k : Nat) : Int) b).1 0).2 = (if i < s then 0 else 30) ∧ (writeM d ((i % k : Nat) : Int) b).1.down = decide (s ≤ i) := by
  have hm : i % k < d.l.length := by rw [h.len]; exact Nat.mod_lt _ hk
  by_cases h1 : i < s
  · have hu := h.up (by omega)
    have hw := writeM_go hu.1 hm hb (by rw [hu.2]; omega)
    rw [hw, if_pos h1]
    refine ⟨⟨by simp [h.len], fun _ => ⟨hu.1, ?_⟩, fun h2 => by omega⟩, rfl, ?_, ?_⟩
    · simp only
      rw [hu.2, if_pos (by omega)]
      omega
    · have := readM_at (d := { d with l := d.l.set (i % k) b, left := if 0 < d.left then d.left - 1 else d.left }) hu.1 (i := 0) (by simp [h.len]; omega)
      rw [show ((0 : Nat) : Int) = 0 from rfl] at this
      rw [this]
    · rw [decide_eq_false (by omega)]
      exact hu.1
  · rw [if_neg h1, decide_eq_true (by omega)]
    by_cases h2 : i = s
    · have hu := h.up (by omega)
      have hw := writeM_stop hu.1 hm hb (by rw [hu.2]; omega)
      rw [hw]
      exact ⟨⟨by simp [h.len], fun h3 => by omega, fun _ => rfl⟩, rfl, by rw [readM_down rfl], rfl⟩
    · have hd := h.dn (by omega)
      rw [writeM_down hd]
      exact ⟨⟨h.len, fun h3 => by omega, fun _ => hd⟩, rfl, by rw [readM_down hd], hd⟩
theorem DnM.last {k s i : Nat} {d : DM} (h : DnM k s i d) (hk : 1 ≤ k) {b : List UInt8} (hb : b.length = 128) : (restartM d).down = false ∧ (writeM (restartM d) 0 b).2 = 0 := by
  refine ⟨rfl, ?_⟩
  have := writeM_go (d := restartM d) rfl (i := 0) (by show 0 < d.l.length; rw [h.len]; omega) hb (by show (-1 : Int) ≠ 0; decide)
  rw [show ((0 : Nat) : Int) = 0 from rfl] at this
  rw [this]
def RDn (w0 : World) (m g k s : Nat) (N : Nat) (i : Value) (wr : World) : Prop := ∃ (i' : Nat) (d : DM), i' ≤ N ∧ i = .int .i64 (i' : Int) ∧ DnM k s i' d ∧ Dsk w0 m wr g d

set_option maxHeartbeats 4000000 in
theorem walk_bdown {x y z : Nat} (hx : x < 256) (hy : y < 256) (hz : z < 256) (torn : Int) (w : World) :
    Calls Try.prog 6 #[.int .u8 (x : Int), .int .u8 (y : Int), .int .u8 (z : Int), .int .i64 torn] w fun e w' => e = .returned (.bool true) ∧ Below w.heap.size w w' := by
  have haw := bawake_true w
  obtain ⟨k, hk⟩ : ∃ k, k = x % 10 + 1 := ⟨_, rfl⟩
  obtain ⟨s, hs⟩ : ∃ s, s = y % 20 := ⟨_, rfl⟩
  obtain ⟨N, hN⟩ : ∃ N, N = z % 40 := ⟨_, rfl⟩
  have hk1 : (x : Int) % 10 + 1 = (k : Int) := by omega
  have HK := Lib.hid (And.intro (show 1 ≤ k by omega) (And.intro (show k ≤ 10 by omega) (And.intro (show s ≤ 19 by omega) (show N ≤ 39 by omega))))
  clear hk
  go_enter Try.func6, Try.ntmps6
  go_upto_region 5 with (go_at_call 7; refine haw.mono ?_; clear haw; rintro _ w1 ⟨rfl, hb1⟩)
  have hnew := Dsk.new hb1 k HK.out.1 (by have := HK.out.2.1; omega)
  have hy20 : (y : Int) % 20 = (s : Int) := by omega
  have hz40 : (z : Int) % 40 = (N : Int) := by omega
  clear hb1 hs hN
  go_upto_region 9 with (go_at_call 8; refine hnew.mono ?_; clear hnew; rintro _ w2 ⟨g, rfl, hd⟩)
  obtain ⟨m, hm⟩ : ∃ m, m = w2.heap.size := ⟨_, rfl⟩
  rw [← hm] at hd
  clear hm
  have hst := hd.stop (s : Int) torn (by have := HK.out.2.2.1; omega)
  clear hd
  go_wp2_with (go_at_call 13; refine hst.mono ?_; clear hst; rintro _ w3 ⟨rfl, hd3, _⟩)
  have H3 := Lib.hid hd3
  clear hd3
  go_loopw [14] (fun i wr => RDn w m g k s N i wr) (fun i _ => N - (intOf i).toNat)
  case atStart => exact ⟨0, _, Nat.zero_le _, rfl, DnM.start HK.out.1 (by have := HK.out.2.1; omega), H3.out⟩
  case round =>
    obtain ⟨i, d, hi, rfl, hM, hd⟩ := hrel
    by_cases hlt : i < N
    · have hlt' : (i : Int) < (N : Int) := by omega
      obtain ⟨j, hj⟩ : ∃ j, j = i % k := ⟨_, rfl⟩
      have hrem : (i : Int).tmod (k : Int) = (j : Int) := by rw [hj, Int.ofNat_tmod]
      have hi64 := IntWalk.i64_in ((j : Nat) : Int) (by have := Nat.mod_lt i HK.out.1; have := HK.out.2.1; omega)
      have hmod : (i : Int) % 256 = (i : Int) := by have := HK.out.2.2.2; omega
      have hw8 : IntKind.u8.wrap (i : Int) = (i : Int) := by rw [IntKind.wrap_u8]; exact hmod
      have hadd := IntWalk.i64_in ((i : Int) + 1) (by have := HK.out.2.2.2; omega)
      have hkz : ¬ k = 0 := by have := HK.out.1; omega
      have HR := Lib.hid (And.intro hi (And.intro hM (And.intro hd (And.intro hlt hj))))
      clear hi hM hd hlt hj
      go_upto_region 13 with fail
      have hfl : ∀ W : World, Calls Try.prog 10 #[.int .u8 (i : Int), .int .i64 128] W fun e w' => e = .returned (.slice (some ⟨W.heap.size, 0, none⟩) 128 128) ∧ w'.heap[W.heap.size]? = some (.cells (u8s (filledL i 128)).toArray 5 (0, 0)) ∧ Below W.heap.size W w' := fun W => filled_any i 128 (by have h1 := HR.out.2.2.2.1; have h2 := HK.out.2.2.2; omega) (by omega) W
      refine wp_region_plan (fun _ => True) [([0, 1, 2, 3, 4, 5], 6), ([], 7)] [8] (by kernel_rfl) (by kernel_rfl) (fun _ _ d _ _ h => by cases d <;> exact h) trivial ?_
      refine plan_eff ?_
      refine seg_read ?v1 (by rfl) (by rfl) ?h1 ?_
      case h1 => intro W hW; go_simp; with_reducible rfl
      try simp only [Act.put, List.setIfInBounds_toArray, List.set_cons_zero, List.set_cons_succ]
      refine seg_read ?v2 (by rfl) (by rfl) ?h2 ?_
      case h2 => intro W hW; go_simp; with_reducible rfl
      try simp only [Act.put, List.setIfInBounds_toArray, List.set_cons_zero, List.set_cons_succ]
      refine seg_read ?v3 (by rfl) (by rfl) ?h3 ?_
      case h3 => intro W hW; go_simp; with_reducible rfl
      try simp only [Act.put, List.setIfInBounds_toArray, List.set_cons_zero, List.set_cons_succ]
      refine seg_read ?v4 (by rfl) (by rfl) ?h4 ?_
      case h4 => intro W hW; go_simp; with_reducible rfl
      try simp only [Act.put, List.setIfInBounds_toArray, List.set_cons_zero, List.set_cons_succ]
      refine seg_read ?v5 (by rfl) (by rfl) ?h5 ?_
      case h5 => intro W hW; go_simp; with_reducible rfl
      try simp only [Act.put, List.setIfInBounds_toArray, List.set_cons_zero, List.set_cons_succ]
      refine seg_read ?v6 (by rfl) (by rfl) ?h6 ?_
      case h6 => intro W hW; go_simp; with_reducible rfl
      try simp only [Act.put, List.setIfInBounds_toArray, List.set_cons_zero, List.set_cons_succ]
      refine seg_nil ?_
      refine eff_step (by rfl) (fun K hK => ?_)
      go_simp
      refine (hfl _).mono ?_
      rintro _ w4 ⟨rfl, hg4, hb4⟩
      have hb4 : Below wr.heap.size wr w4 := (Below.refl _ _).drew.trans hb4
      have HWR := Lib.hid ((HR.out.2.2.1.below hb4).write (byt_filled hg4 (by omega) HR.out.2.2.1.top) (j : Int))
      clear hfl hg4 hb4
      refine hK _ _ ⟨fun _ => True, trivial, fun _ h => h, ?_⟩
      clear hK K
      refine plan_eff ?_
      refine seg_nil ?_
      refine eff_step (by rfl) (fun K hK => ?_)
      go_simp
      refine HWR.out.mono ?_
      clear HWR
      rintro _ w5 ⟨rfl, hd5, _⟩
      have H5 := Lib.hid hd5
      clear hd5
      refine hK _ _ ⟨fun W => W = w5, rfl, fun _ _ => trivial, ?_⟩
      clear hK K
      refine plan_last ?_
      repeat (refine seg_step (by rfl) (fun K hK => ?_); go_simp; refine hK _ ?_; clear hK K)
      refine seg_nil ?_
      go_upto_region 14 with fail
      obtain ⟨hM2, hf2, hr2, hdn2⟩ := HR.out.2.1.step HK.out.1 (filledL_length i 128)
      rw [← HR.out.2.2.2.2] at hM2 hf2 hr2 hdn2
      have hd5 := H5.out
      generalize writeM d (j : Int) (filledL i 128) = WM at hM2 hf2 hr2 hdn2 hd5
      obtain ⟨d2, e2⟩ := WM
      simp only at hM2 hf2 hr2 hdn2 hd5
      have hrd := hd5.read 0
      rw [hr2] at hrd
      rw [hf2]
      have HM := Lib.hid (And.intro hM2 hdn2)
      clear hM2 hf2 hr2 hdn2 hd5 H5
      go_upto_region 15 with (go_at_call 15; refine hrd.mono ?_; clear hrd; rintro _ w6 ⟨A6, n6, c6, rfl, _, hd6, _, _⟩)
      have hdw := bdown_any hd6.dk
      rw [HM.out.2] at hdw
      have HD6 := Lib.hid hd6
      clear hd6
      by_cases hsi : i < s
      · have hsi' : ¬ (s : Int) ≤ (i : Int) := by omega
        rw [decide_eq_false (by omega)] at hdw
        simp only [if_pos hsi]
        clear hsi
        go_wp2_with (go_at_call 21; refine hdw.mono ?_; clear hdw; rintro _ _ ⟨rfl, rfl⟩)
        go_roundw
        case rel => unfold RDn; exact ⟨i + 1, d2, by have := HR.out.2.2.2.1; omega, by simp, HM.out.1, HD6.out⟩
        case measure => simp only [intOf]; omega
      · have hsi' : (s : Int) ≤ (i : Int) := by omega
        rw [decide_eq_true (by omega)] at hdw
        simp only [if_neg hsi]
        clear hsi
        go_wp2_with (go_at_call 21; refine hdw.mono ?_; clear hdw; rintro _ _ ⟨rfl, rfl⟩)
        go_roundw
        case rel => unfold RDn; exact ⟨i + 1, d2, by have := HR.out.2.2.2.1; omega, by simp, HM.out.1, HD6.out⟩
        case measure => simp only [intOf]; omega
    · have hlt' : ¬ (i : Int) < (N : Int) := by omega
      have hre := hd.restart
      have HR := Lib.hid (And.intro hM hd)
      clear hi hM hd hlt
      go_upto_region 19 with (go_at_call 17; refine hre.mono ?_; clear hre; rintro _ w4 ⟨rfl, hd4, _⟩)
      have hdw := bdown_any hd4.dk
      have hlast := HR.out.1.last HK.out.1 (filledL_length 1 128)
      rw [hlast.1] at hdw
      have hfl : ∀ W : World, Calls Try.prog 10 #[.int .u8 1, .int .i64 128] W fun e w' => e = .returned (.slice (some ⟨W.heap.size, 0, none⟩) 128 128) ∧ w'.heap[W.heap.size]? = some (.cells (u8s (filledL 1 128)).toArray 5 (0, 0)) ∧ Below W.heap.size W w' := fun W => filled_any 1 128 (by omega) (by omega) W
      have HL := Lib.hid (And.intro hlast.2 hd4)
      clear hlast hd4
      go_wp2_with (first
        | (go_at_call 21; refine hdw.mono ?_; clear hdw; rintro _ _ ⟨rfl, rfl⟩)
        | (go_at_call 10; refine (hfl _).mono ?_; clear hfl; rintro _ w5 ⟨rfl, hg5, hb5⟩; have hwr := (HL.out.2.below hb5).write (byt_filled hg5 (by omega) HL.out.2.top) 0; rw [HL.out.1] at hwr; clear hg5 hb5)
        | (go_at_call 11; refine hwr.mono ?_; clear hwr; rintro _ w6 ⟨rfl, hd6, _⟩; have HD6 := Lib.hid hd6.bel; clear hd6))
      go_ret
      exact ⟨rfl, HD6.out⟩
end Go.Proofs.Ythndpfkgljkpcaa
