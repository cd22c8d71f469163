/-
  The statement BlocksOwn: its walk.
-/
import Derived.Test.YthndpfkgljkpcaaBlkDsk
namespace Go.Proofs.Ythndpfkgljkpcaa
open Go.RowKit

theorem own_model {k i : Nat} (h1 : 1 ≤ k) (h2 : k ≤ 65536) (hi : i < k) {B : List UInt8} (hB : B.length = 128) :
    ∃ d1, writeM (newM k).1 (i : Int) B = (d1, 0) ∧ readM d1 (i : Int) = (B, 0) ∧ (∀ b, b.length = 127 → writeM d1 (i : Int) b = (d1, 1)) ∧ ∀ b, writeM d1 (k : Int) b = (d1, 14) := by
  rw [newM_at k h1 h2]
  have hw := writeM_go (d := ⟨List.replicate k zero128, -1, 0, false⟩) rfl (i := i) (by simpa using hi) hB (by show (-1 : Int) ≠ 0; decide)
  refine ⟨_, hw, ?_, fun b hb => ?_, fun b => ?_⟩
  · rw [readM_at rfl (by simpa using hi)]
    simp [hi]
  · unfold writeM
    rw [if_neg (by simp), if_neg (by simp; omega), if_pos (by omega)]
  · unfold writeM
    rw [if_neg (by simp), if_pos (by simp)]
def SlB (m : Nat) (l : List UInt8) (v : Value) (W : World) : Prop := ∃ A n c, v = .slice A n c ∧ Byt W (m ≤ ·) A n c l
theorem SlB.turn {w0 : World} {m g : Nat} {d : DM} {l : List UInt8} {v : Value} {W W' : World} (h : SlB m l v W) (k : GDk w0 m g d W W') : SlB m l v W' := by
  obtain ⟨A, n, c, h1, h2⟩ := h
  exact ⟨A, n, c, h1, k.byt h2⟩

set_option maxHeartbeats 4000000 in
theorem walk_bown {x0 y0 s0 z0 : Int} (hx : (Lit.int .u8 x0).wf = true) (hy : (Lit.int .u8 y0).wf = true) (hs : (Lit.int .u8 s0).wf = true) (hz : (Lit.int .u8 z0).wf = true) (w : World) :
    Calls Try.prog 5 #[.int .u8 x0, .int .u8 y0, .int .u8 s0, .int .u8 z0] w fun e w' => e = .returned (.bool true) ∧ Below w.heap.size w w' := by
  have bx := bounds_u8 hx
  have by_ := bounds_u8 hy
  have bs := bounds_u8 hs
  have bz := bounds_u8 hz
  have haw := bawake_true w
  obtain ⟨s, rfl⟩ : ∃ s : Nat, s0 = (s : Int) := ⟨s0.toNat, by omega⟩
  obtain ⟨y, rfl⟩ : ∃ y : Nat, y0 = (y : Int) := ⟨y0.toNat, by omega⟩
  obtain ⟨z, rfl⟩ : ∃ z : UInt8, z0 = (z.toNat : Int) := ⟨UInt8.ofNat z0.toNat, by simp; omega⟩
  obtain ⟨x, rfl⟩ : ∃ x : Nat, x0 = (x : Int) := ⟨x0.toNat, by omega⟩
  obtain ⟨k, hk⟩ : ∃ k : Nat, (x : Int) % 20 + 1 = (k : Int) := ⟨x % 20 + 1, by omega⟩
  have hk1 : 1 ≤ k := by omega
  have hk20 : k ≤ 20 := by omega
  obtain ⟨i, hi⟩ : ∃ i, i = y % k := ⟨_, rfl⟩
  have hik : i < k := by rw [hi]; exact Nat.mod_lt _ hk1
  have hrem : (y : Int).tmod (k : Int) = (i : Int) := by rw [hi, Int.ofNat_tmod]
  have hi64 := IntWalk.i64_in ((y : Nat) : Int) (by omega)
  have hkz : ¬ k = 0 := by omega
  obtain ⟨B, hB⟩ : ∃ B, B = filledL s 128 := ⟨_, rfl⟩
  have hBl : B.length = 128 := by rw [hB, filledL_length]
  obtain ⟨d1, hw1, hr1, hw2, hw3⟩ := own_model hk1 (by omega) hik hBl
  have HM := Lib.hid (And.intro hw1 (And.intro hr1 (And.intro hw2 (And.intro hw3 hBl))))
  have hfl : ∀ W : World, Calls Try.prog 10 #[.int .u8 (s : Int), .int .i64 128] W fun e w' => e = .returned (.slice (some ⟨W.heap.size, 0, none⟩) 128 128) ∧ w'.heap[W.heap.size]? = some (.cells (u8s B).toArray 5 (0, 0)) ∧ Below W.heap.size W w' := fun W => by rw [hB]; exact filled_any s 128 (by omega) (by omega) W
  have HFL := Lib.hid hfl
  have HK := Lib.hid (And.intro hk1 hk20)
  have HBL := Lib.hid hB
  clear hx hy hs hz bx by_ bs bz hw1 hr1 hw2 hw3 hfl hB hBl hi
  go_enter Try.func5, Try.ntmps5
  go_upto_region 5 with (go_at_call 7; refine haw.mono ?_; clear haw; rintro _ w1 ⟨rfl, hb1⟩)
  have hnew := Dsk.new hb1 k HK.out.1 (by have := HK.out.2; omega)
  clear hb1
  go_upto_region 7 with (go_at_call 8; refine hnew.mono ?_; clear hnew; rintro _ w2 ⟨g, rfl, hd⟩)
  obtain ⟨m, hm⟩ : ∃ m, m = w2.heap.size := ⟨_, rfl⟩
  rw [← hm] at hd
  clear hm
  have HD2 := Lib.hid hd
  clear hd
  go_upto_region 8 with (go_at_call 10; refine (HFL.out _).mono ?_; rintro _ w3 ⟨rfl, hg3, hb3⟩)
  have hd3 := HD2.out.below hb3
  have hmq := HD2.out.top
  generalize w2.heap.size = q at *
  have hwr := hd3.write (byt_filled (s := s) (n := 128) (by rw [← HBL.out]; exact hg3) (by omega) hmq) (i : Int)
  rw [← HBL.out, HM.out.1] at hwr
  simp only at hwr
  have H3 := Lib.hid (And.intro hg3 hmq)
  have HQ := Lib.hid hmq
  clear hd3 hg3 hmq hb3
  go_upto_region 9 with (go_at_call 11; refine hwr.mono ?_; clear hwr; rintro _ w4 ⟨rfl, hd4, ht4⟩)
  have hg4 : w4.heap[q]? = some (.cells (u8s B).toArray 5 (0, 0)) := (ht4.block _ (lt_of_cells H3.out.1) (by have := H3.out.2; omega)).trans H3.out.1
  have hc := u8s_cell hg4 3 (by rw [HM.out.2.2.2.2]; omega)
  have hf := free_of_cells hg4 3
  have hxo := xor8 (B[3]?.getD 0) z
  obtain ⟨v, hv⟩ : ∃ v, v = (B[3]?.getD 0) ^^^ z := ⟨_, rfl⟩
  rw [← hv] at hxo
  generalize B[3]?.getD 0 = b3 at *
  have H4 := Lib.hid (And.intro hg4 hd4)
  clear ht4 hg4 hd4 hv H3
  go_upto_region 10 with fail
  have hd5 := H4.out.2.setAt HQ.out 3 (.int .u8 (v.toNat : Int))
  have hg5 := u8s_cells_set H4.out.1 3 v
  clear hc hf hxo H4
  generalize w4.setCell ⟨q, 3, none⟩ (.int .u8 (v.toNat : Int)) = w5 at *
  have hrd := hd5.read (i : Int)
  rw [HM.out.2.1] at hrd
  simp only at hrd
  have H5 := Lib.hid hg5
  clear hd5 hg5
  go_upto_region 11 with (go_at_call 15; refine hrd.mono ?_; clear hrd; rintro _ w6 ⟨A6, n6, c6, rfl, hy6, hd6, hb6, hf6⟩)
  obtain rfl : n6 = 128 := by rw [← hy6.len]; exact HM.out.2.2.2.2
  have hm5 : m ≤ w5.heap.size := Nat.le_trans HQ.out (Nat.le_of_lt (lt_of_cells H5.out))
  have HNE : Hid (∀ a, A6 = some a → a.block ≠ q) := Lib.hid fun a ha => by
    obtain ⟨b, off, e, h1, _, _⟩ := hy6.row (by omega)
    rw [ha] at e
    injection e with e
    subst e
    have := lt_of_cells H5.out
    show b ≠ q
    omega
  have H6 := Lib.hid (And.intro (hy6.mono (T := (m ≤ ·)) fun b _ hb => Nat.le_trans hm5 hb) (And.intro hd6 (And.intro hf6 ((hb6.block _ (lt_of_cells H5.out)).trans H5.out))))
  clear hy6 hd6 hb6 hf6 hm5 H5
  have HC : Hid (∀ W, GDk w m g d1 w6.drew W → (convert 35 9 (.slice A6 128 c6)).run Try.prog W = .ok (.string (st B)) W) := Lib.hid fun W hW => byt_string (hW.byt (H6.out.1.drew))
  generalize hPC : st B = PC at HC
  have HPC : Hid (st B = PC) := Lib.hid hPC
  clear hPC
  refine wp_region_grow (GDk w m g d1) (Grow.nth [fun v _ => v = .int .i64 0, fun v _ => v = .bool false, fun v _ => v = .bool false, fun v _ => v = .int .i64 0, fun v _ => v = .bool false, fun v _ => v = .bool false, fun v _ => v = .bool false, fun v _ => v = .int .i64 0, fun v _ => v = .bool false, fun v _ => v = .bool false, fun v _ => v = .bool false, fun v _ => v = .slice A6 128 c6, fun v _ => v = .string PC, fun v _ => v = .int .u8 (s : Int), SlB m B, fun v _ => v = .string PC, fun v _ => v = .bool false, fun v _ => v = .bool false]) 109 (by kernel_rfl) (by kernel_rfl) (by rfl) (GDk.refl _ _ _ _) (fun _ _ _ h1 h2 => h1.trans h2) (Grow.mono_nth ?gmono) ?gsteps ?gfin
  case gmono => exact ⟨fun _ _ _ h _ => h, fun _ _ _ h _ => h, fun _ _ _ h _ => h, fun _ _ _ h _ => h, fun _ _ _ h _ => h, fun _ _ _ h _ => h, fun _ _ _ h _ => h, fun _ _ _ h _ => h, fun _ _ _ h _ => h, fun _ _ _ h _ => h, fun _ _ _ h _ => h, fun _ _ _ h _ => h, fun _ _ _ h _ => h, fun _ _ _ h _ => h, fun _ _ _ h hg => h.turn hg, fun _ _ _ h _ => h, fun _ _ _ h _ => h, fun _ _ _ h _ => h, trivial⟩
  case gsteps =>
    show Grow.allBelow _ 18
    refine And.intro ?_ ?s17
    refine And.intro ?_ ?s16
    refine And.intro ?_ ?s15
    refine And.intro ?_ ?s14
    refine And.intro ?_ ?s13
    refine And.intro ?_ ?s12
    refine And.intro ?_ ?s11
    refine And.intro ?_ ?s10
    refine And.intro ?_ ?s9
    refine And.intro ?_ ?s8
    refine And.intro ?_ ?s7
    refine And.intro ?_ ?s6
    refine And.intro ?_ ?s5
    refine And.intro ?_ ?s4
    refine And.intro ?_ ?s3
    refine And.intro ?_ ?s2
    refine And.intro ?_ ?s1
    refine And.intro ?_ ?s0
    exact trivial
    case s0 =>
      refine Grow.step_in (by rfl) (by rfl) ?_
      intro E W ec eg ef hG hd hu R HR1
      have e12 : E (.tmp 12) = .int .i64 0 := hu 12 (by kernel_rfl)
      clear hd hu
      go_simp
      exact HR1.out _ _ (GDk.refl _ _ _ _ _) rfl
    case s1 =>
      refine Grow.step_in (by rfl) (by rfl) ?_
      intro E W ec eg ef hG hd hu R HR1
      have e54 : E (.tmp 54) = .int .i64 0 := hd 0 54 (by kernel_rfl)
      clear hd hu
      go_simp
      exact HR1.out _ _ (GDk.refl _ _ _ _ _) rfl
    case s2 =>
      refine Grow.step_in (by rfl) (by rfl) ?_
      intro E W ec eg ef hG hd hu R HR1
      have e55 : E (.tmp 55) = .bool false := hd 1 55 (by kernel_rfl)
      clear hd hu
      go_simp
      exact HR1.out _ _ (GDk.refl _ _ _ _ _) rfl
    case s3 =>
      refine Grow.step_on (g := 2) (b := false) (d := 56) (by rfl) (by rfl) (by rfl) (by kernel_rfl) (fun v W h => h) ?_
      intro E W ec eg ef hG hd hu R HR1
      have e15 : E (.tmp 15) = .int .i64 0 := hu 15 (by kernel_rfl)
      clear hd hu
      go_simp
      exact HR1.out _ _ (GDk.refl _ _ _ _ _) rfl
    case s4 =>
      refine Grow.step_on (g := 2) (b := false) (d := 56) (by rfl) (by rfl) (by rfl) (by kernel_rfl) (fun v W h => h) ?_
      intro E W ec eg ef hG hd hu R HR1
      have e57 : E (.tmp 57) = .int .i64 0 := hd 3 57 (by kernel_rfl)
      clear hd hu
      go_simp
      exact HR1.out _ _ (GDk.refl _ _ _ _ _) rfl
    case s5 =>
      refine Grow.step_in (by rfl) (by rfl) ?_
      intro E W ec eg ef hG hd hu R HR1
      have e56 : E (.tmp 56) = .bool false := hd 2 56 (by kernel_rfl)
      have e58 : E (.tmp 58) = .bool false := hd 4 58 (by kernel_rfl)
      clear hd hu
      go_simp
      exact HR1.out _ _ (GDk.refl _ _ _ _ _) rfl
    case s6 =>
      refine Grow.step_in (by rfl) (by rfl) ?_
      intro E W ec eg ef hG hd hu R HR1
      have e59 : E (.tmp 59) = .bool false := hd 5 59 (by kernel_rfl)
      clear hd hu
      go_simp
      exact HR1.out _ _ (GDk.refl _ _ _ _ _) rfl
    case s7 =>
      refine Grow.step_on (g := 6) (b := false) (d := 60) (by rfl) (by rfl) (by rfl) (by kernel_rfl) (fun v W h => h) ?_
      intro E W ec eg ef hG hd hu R HR1
      have e17 : E (.tmp 17) = .int .i64 0 := hu 17 (by kernel_rfl)
      clear hd hu
      go_simp
      exact HR1.out _ _ (GDk.refl _ _ _ _ _) rfl
    case s8 =>
      refine Grow.step_on (g := 6) (b := false) (d := 60) (by rfl) (by rfl) (by rfl) (by kernel_rfl) (fun v W h => h) ?_
      intro E W ec eg ef hG hd hu R HR1
      have e61 : E (.tmp 61) = .int .i64 0 := hd 7 61 (by kernel_rfl)
      clear hd hu
      go_simp
      exact HR1.out _ _ (GDk.refl _ _ _ _ _) rfl
    case s9 =>
      refine Grow.step_in (by rfl) (by rfl) ?_
      intro E W ec eg ef hG hd hu R HR1
      have e60 : E (.tmp 60) = .bool false := hd 6 60 (by kernel_rfl)
      have e62 : E (.tmp 62) = .bool false := hd 8 62 (by kernel_rfl)
      clear hd hu
      go_simp
      exact HR1.out _ _ (GDk.refl _ _ _ _ _) rfl
    case s10 =>
      refine Grow.step_in (by rfl) (by rfl) ?_
      intro E W ec eg ef hG hd hu R HR1
      have e63 : E (.tmp 63) = .bool false := hd 9 63 (by kernel_rfl)
      clear hd hu
      go_simp
      exact HR1.out _ _ (GDk.refl _ _ _ _ _) rfl
    case s11 =>
      refine Grow.step_on (g := 10) (b := false) (d := 64) (by rfl) (by rfl) (by rfl) (by kernel_rfl) (fun v W h => h) ?_
      intro E W ec eg ef hG hd hu R HR1
      have e16 : E (.tmp 16) = .slice A6 128 c6 := hu 16 (by kernel_rfl)
      clear hd hu
      go_simp
      exact HR1.out _ _ (GDk.refl _ _ _ _ _) rfl
    case s12 =>
      refine Grow.step_on (g := 10) (b := false) (d := 64) (by rfl) (by rfl) (by rfl) (by kernel_rfl) (fun v W h => h) ?_
      intro E W ec eg ef hG hd hu R HR1
      have e65 : E (.tmp 65) = .slice A6 128 c6 := hd 11 65 (by kernel_rfl)
      clear hd hu
      have hcv := HC.out W hG
      go_simp
      exact HR1.out _ _ (GDk.refl _ _ _ _ _) rfl
    case s13 =>
      refine Grow.step_on (g := 10) (b := false) (d := 64) (by rfl) (by rfl) (by rfl) (by kernel_rfl) (fun v W h => h) ?_
      intro E W ec eg ef hG hd hu R HR1
      have e2 : E (.tmp 2) = .int .u8 (s : Int) := hu 2 (by kernel_rfl)
      clear hd hu
      go_simp
      exact HR1.out _ _ (GDk.refl _ _ _ _ _) rfl
    case s14 =>
      refine Grow.step_on (g := 10) (b := false) (d := 64) (by rfl) (by rfl) (by rfl) (by kernel_rfl) (fun v W h => h) ?_
      intro E W ec eg ef hG hd hu R HR1
      have e67 : E (.tmp 67) = .int .u8 (s : Int) := hd 13 67 (by kernel_rfl)
      clear hd hu
      go_simp
      refine (HFL.out W).mono ?_
      rintro _ w' ⟨rfl, hg4, hb4⟩
      exact ⟨_, rfl, HR1.out _ _ (GDk.of_below hb4) ⟨_, _, _, rfl, byt_filled' hg4 HM.out.2.2.2.2 (by omega) (hG.dsk H6.out.2.1.drew).top⟩⟩
    case s15 =>
      refine Grow.step_on (g := 10) (b := false) (d := 64) (by rfl) (by rfl) (by rfl) (by kernel_rfl) (fun v W h => h) ?_
      intro E W ec eg ef hG hd hu R HR1
      have h68 := hd 14 68 (by kernel_rfl)
      clear hd hu
      obtain ⟨A4, n4, c4, e68, hy4⟩ := h68
      have hcv := byt_string hy4
      rw [show (⟨(B).toArray⟩ : ByteArray) = PC from HPC.out] at hcv
      go_simp
      exact HR1.out _ _ (GDk.refl _ _ _ _ _) rfl
    case s16 =>
      refine Grow.step_on (g := 10) (b := false) (d := 64) (by rfl) (by rfl) (by rfl) (by kernel_rfl) (fun v W h => h) ?_
      intro E W ec eg ef hG hd hu R HR1
      have e66 : E (.tmp 66) = .string PC := hd 12 66 (by kernel_rfl)
      have e69 : E (.tmp 69) = .string PC := hd 15 69 (by kernel_rfl)
      clear hd hu
      go_simp
      exact HR1.out _ _ (GDk.refl _ _ _ _ _) rfl
    case s17 =>
      refine Grow.step_in (by rfl) (by rfl) ?_
      intro E W ec eg ef hG hd hu R HR1
      have e64 : E (.tmp 64) = .bool false := hd 10 64 (by kernel_rfl)
      have e70 : E (.tmp 70) = .bool false := hd 16 70 (by kernel_rfl)
      clear hd hu
      go_simp
      exact HR1.out _ _ (GDk.refl _ _ _ _ _) rfl
  case gfin =>
    intro W hG
    refine Grow.fin_dst (by rfl) ?_
    rintro _ rfl
    refine Grow.fin_dst (by rfl) ?_
    rintro _ rfl
    refine Grow.fin_dst (by rfl) ?_
    rintro _ rfl
    refine Grow.fin_dst (by rfl) ?_
    rintro _ rfl
    refine Grow.fin_dst (by rfl) ?_
    rintro _ rfl
    refine Grow.fin_dst (by rfl) ?_
    rintro _ rfl
    refine Grow.fin_dst (by rfl) ?_
    rintro _ rfl
    refine Grow.fin_dst (by rfl) ?_
    rintro _ rfl
    refine Grow.fin_dst (by rfl) ?_
    rintro _ rfl
    refine Grow.fin_dst (by rfl) ?_
    rintro _ rfl
    refine Grow.fin_dst (by rfl) ?_
    rintro _ rfl
    refine Grow.fin_dst (by rfl) ?_
    rintro _ rfl
    refine Grow.fin_dst (by rfl) ?_
    rintro _ rfl
    refine Grow.fin_dst (by rfl) ?_
    rintro _ rfl
    refine Grow.fin_dst (by rfl) ?_
    rintro _ ⟨Af, nf, cf, rfl, hyf⟩
    refine Grow.fin_dst (by rfl) ?_
    rintro _ rfl
    refine Grow.fin_dst (by rfl) ?_
    rintro _ rfl
    refine Grow.fin_dst (by rfl) ?_
    rintro _ rfl
    simp only [Act.put, List.setIfInBounds_toArray, List.set_cons_zero, List.set_cons_succ]
    refine Grow.fin_end ?_
    have hd7 := hG.dsk H6.out.2.1.drew
    have hy7 := hG.byt H6.out.1.drew
    obtain ⟨p, o, rfl, hp1, hp2, hcl⟩ := hy7.row (by omega)
    have hc := hcl 5 (by omega)
    have hf : W.frozen? ⟨p, o + 5, none⟩ = false := (((show FreeRow w6.drew _ from H6.out.2.2.1).turned (w' := W) (T := (· < m)) (hG.trn) fun a ha => by injection ha with ha; subst ha; simp; omega) _ rfl).2 _
    have hxo := xor8 (B[5]?.getD 0) z
    obtain ⟨u, hu⟩ : ∃ u, u = (B[5]?.getD 0) ^^^ z := ⟨_, rfl⟩
    rw [← hu] at hxo
    generalize B[5]?.getD 0 = b5 at *
    have hg7 : W.heap[q]? = some (.cells (u8s (B.set 3 v)).toArray 5 (0, 0)) := (hG.trn.block _ (lt_of_cells H6.out.2.2.2) (by have := HQ.out; omega)).trans H6.out.2.2.2
    have hne := HNE.out _ rfl
    have H7 := Lib.hid (And.intro hd7 (And.intro hg7 (And.intro hp1 (And.intro hne hp2))))
    clear hd7 hg7 hp1 hp2 hcl hG hyf hu hy7 hne
    go_upto_region 14 with fail
    have hd8 := H7.out.1.setAt H7.out.2.2.1 (o + 5) (.int .u8 (u.toNat : Int))
    have hg8 := (Below.heap_setCell W ⟨p, o + 5, none⟩ (.int .u8 (u.toNat : Int)) q (Ne.symm H7.out.2.2.2.1)).trans H7.out.2.1
    clear hc hf hxo H7
    generalize W.setCell ⟨p, o + 5, none⟩ (.int .u8 (u.toNat : Int)) = w8 at *
    have hrd := hd8.read (i : Int)
    rw [HM.out.2.1] at hrd
    simp only at hrd
    have H8 := Lib.hid (And.intro hg8 hd8)
    clear hd8 hg8
    go_upto_region 15 with (go_at_call 15; refine hrd.mono ?_; clear hrd; rintro _ w9 ⟨A9, n9, c9, rfl, hy9, hd9, hb9, _⟩)
    obtain rfl : n9 = 128 := by rw [← hy9.len]; exact HM.out.2.2.2.2
    have hg9 := (hb9.block _ (lt_of_cells H8.out.1)).trans H8.out.1
    have hb := byt_filled' (n := 128) hg9 (by rw [List.length_set]; exact HM.out.2.2.2.2) (by omega) HQ.out
    have H9 := Lib.hid (And.intro (hy9.mono (T := (m ≤ ·)) fun b _ hb => Nat.le_trans H8.out.2.top hb) (And.intro hd9 (And.intro hb (hb.to (k := 127) (by omega)))))
    clear hy9 hd9 hb9 hg9 hb H8
    have HC9 : Hid (∀ W, GDk w m g d1 w9.drew W → (convert 35 9 (.slice A9 128 c9)).run Try.prog W = .ok (.string PC) W) := Lib.hid fun W hW => by
      rw [← HPC.out]
      exact byt_string (hW.byt (H9.out.1.drew))
    have HSL : Hid (∀ W, (Instr.slice 35 (.slice (some ⟨q, 0, none⟩) 128 128) none (some (.int .i64 127)) none).run Try.prog W = .ok (.slice (some ⟨q, 0, none⟩) 127 128) W) := Lib.hid fun W => run_to (P := Try.prog) 35 5 Try.underlying35 u8_size (some ⟨q, 0, none⟩) 128 128 127 (by omega) W
    refine wp_region_grow (GDk w m g d1) (Grow.nth [fun v _ => v = .int .i64 0, fun v _ => v = .bool true, fun v _ => v = .bool true, fun v _ => v = .slice A9 128 c9, fun v _ => v = .string PC, fun v _ => v = .int .u8 (s : Int), SlB m B, fun v _ => v = .string PC, fun v _ => v = .bool true, fun v _ => v = .bool true, fun v _ => v = .bool true, fun v _ => v = .pointer (some ⟨g, 0, none⟩), fun v _ => v = .int .i64 (i : Int), fun v _ => v = .slice (some ⟨q, 0, none⟩) 128 128, fun v _ => v = .slice (some ⟨q, 0, none⟩) 127 128, fun v _ => v = .int .i64 1, fun v _ => v = .bool true, fun v _ => v = .bool true, fun v _ => v = .bool true, fun v _ => v = .pointer (some ⟨g, 0, none⟩), fun v _ => v = .int .i64 (k : Int), fun v _ => v = .slice (some ⟨q, 0, none⟩) 128 128, fun v _ => v = .int .i64 14, fun v _ => v = .bool true, fun v _ => v = .bool true, fun v _ => v = .bool true]) 109 (by kernel_rfl) (by kernel_rfl) (by rfl) (GDk.refl _ _ _ _) (fun _ _ _ h1 h2 => h1.trans h2) (Grow.mono_nth ?gmono) ?gsteps ?gfin
    case gmono => exact ⟨fun _ _ _ h _ => h, fun _ _ _ h _ => h, fun _ _ _ h _ => h, fun _ _ _ h _ => h, fun _ _ _ h _ => h, fun _ _ _ h _ => h, fun _ _ _ h hg => h.turn hg, fun _ _ _ h _ => h, fun _ _ _ h _ => h, fun _ _ _ h _ => h, fun _ _ _ h _ => h, fun _ _ _ h _ => h, fun _ _ _ h _ => h, fun _ _ _ h _ => h, fun _ _ _ h _ => h, fun _ _ _ h _ => h, fun _ _ _ h _ => h, fun _ _ _ h _ => h, fun _ _ _ h _ => h, fun _ _ _ h _ => h, fun _ _ _ h _ => h, fun _ _ _ h _ => h, fun _ _ _ h _ => h, fun _ _ _ h _ => h, fun _ _ _ h _ => h, fun _ _ _ h _ => h, trivial⟩
    case gsteps =>
      show Grow.allBelow _ 26
      refine And.intro ?_ ?s25
      refine And.intro ?_ ?s24
      refine And.intro ?_ ?s23
      refine And.intro ?_ ?s22
      refine And.intro ?_ ?s21
      refine And.intro ?_ ?s20
      refine And.intro ?_ ?s19
      refine And.intro ?_ ?s18
      refine And.intro ?_ ?s17
      refine And.intro ?_ ?s16
      refine And.intro ?_ ?s15
      refine And.intro ?_ ?s14
      refine And.intro ?_ ?s13
      refine And.intro ?_ ?s12
      refine And.intro ?_ ?s11
      refine And.intro ?_ ?s10
      refine And.intro ?_ ?s9
      refine And.intro ?_ ?s8
      refine And.intro ?_ ?s7
      refine And.intro ?_ ?s6
      refine And.intro ?_ ?s5
      refine And.intro ?_ ?s4
      refine And.intro ?_ ?s3
      refine And.intro ?_ ?s2
      refine And.intro ?_ ?s1
      refine And.intro ?_ ?s0
      exact trivial
      case s0 =>
        refine Grow.step_in (by rfl) (by rfl) ?_
        intro E W ec eg ef hG hd hu R HR1
        have e19 : E (.tmp 19) = .int .i64 0 := hu 19 (by kernel_rfl)
        clear hd hu
        go_simp
        exact HR1.out _ _ (GDk.refl _ _ _ _ _) rfl
      case s1 =>
        refine Grow.step_in (by rfl) (by rfl) ?_
        intro E W ec eg ef hG hd hu R HR1
        have e84 : E (.tmp 84) = .int .i64 0 := hd 0 84 (by kernel_rfl)
        clear hd hu
        go_simp
        exact HR1.out _ _ (GDk.refl _ _ _ _ _) rfl
      case s2 =>
        refine Grow.step_in (by rfl) (by rfl) ?_
        intro E W ec eg ef hG hd hu R HR1
        have e85 : E (.tmp 85) = .bool true := hd 1 85 (by kernel_rfl)
        clear hd hu
        go_simp
        exact HR1.out _ _ (GDk.refl _ _ _ _ _) rfl
      case s3 =>
        refine Grow.step_on (g := 2) (b := true) (d := 86) (by rfl) (by rfl) (by rfl) (by kernel_rfl) (fun v W h => h) ?_
        intro E W ec eg ef hG hd hu R HR1
        have e18 : E (.tmp 18) = .slice A9 128 c9 := hu 18 (by kernel_rfl)
        clear hd hu
        go_simp
        exact HR1.out _ _ (GDk.refl _ _ _ _ _) rfl
      case s4 =>
        refine Grow.step_on (g := 2) (b := true) (d := 86) (by rfl) (by rfl) (by rfl) (by kernel_rfl) (fun v W h => h) ?_
        intro E W ec eg ef hG hd hu R HR1
        have e87 : E (.tmp 87) = .slice A9 128 c9 := hd 3 87 (by kernel_rfl)
        clear hd hu
        have hcv := HC9.out W hG
        go_simp
        exact HR1.out _ _ (GDk.refl _ _ _ _ _) rfl
      case s5 =>
        refine Grow.step_on (g := 2) (b := true) (d := 86) (by rfl) (by rfl) (by rfl) (by kernel_rfl) (fun v W h => h) ?_
        intro E W ec eg ef hG hd hu R HR1
        have e2 : E (.tmp 2) = .int .u8 (s : Int) := hu 2 (by kernel_rfl)
        clear hd hu
        go_simp
        exact HR1.out _ _ (GDk.refl _ _ _ _ _) rfl
      case s6 =>
        refine Grow.step_on (g := 2) (b := true) (d := 86) (by rfl) (by rfl) (by rfl) (by kernel_rfl) (fun v W h => h) ?_
        intro E W ec eg ef hG hd hu R HR1
        have e89 : E (.tmp 89) = .int .u8 (s : Int) := hd 5 89 (by kernel_rfl)
        clear hd hu
        go_simp
        refine (HFL.out W).mono ?_
        rintro _ w' ⟨rfl, hg4, hb4⟩
        exact ⟨_, rfl, HR1.out _ _ (GDk.of_below hb4) ⟨_, _, _, rfl, byt_filled' hg4 HM.out.2.2.2.2 (by omega) (hG.dsk H9.out.2.1.drew).top⟩⟩
      case s7 =>
        refine Grow.step_on (g := 2) (b := true) (d := 86) (by rfl) (by rfl) (by rfl) (by kernel_rfl) (fun v W h => h) ?_
        intro E W ec eg ef hG hd hu R HR1
        have h90 := hd 6 90 (by kernel_rfl)
        clear hd hu
        obtain ⟨A4, n4, c4, e90, hy4⟩ := h90
        have hcv := byt_string hy4
        rw [show (⟨(B).toArray⟩ : ByteArray) = PC from HPC.out] at hcv
        go_simp
        exact HR1.out _ _ (GDk.refl _ _ _ _ _) rfl
      case s8 =>
        refine Grow.step_on (g := 2) (b := true) (d := 86) (by rfl) (by rfl) (by rfl) (by kernel_rfl) (fun v W h => h) ?_
        intro E W ec eg ef hG hd hu R HR1
        have e88 : E (.tmp 88) = .string PC := hd 4 88 (by kernel_rfl)
        have e91 : E (.tmp 91) = .string PC := hd 7 91 (by kernel_rfl)
        clear hd hu
        go_simp
        exact HR1.out _ _ (GDk.refl _ _ _ _ _) rfl
      case s9 =>
        refine Grow.step_in (by rfl) (by rfl) ?_
        intro E W ec eg ef hG hd hu R HR1
        have e86 : E (.tmp 86) = .bool true := hd 2 86 (by kernel_rfl)
        have e92 : E (.tmp 92) = .bool true := hd 8 92 (by kernel_rfl)
        clear hd hu
        go_simp
        exact HR1.out _ _ (GDk.refl _ _ _ _ _) rfl
      case s10 =>
        refine Grow.step_in (by rfl) (by rfl) ?_
        intro E W ec eg ef hG hd hu R HR1
        have e93 : E (.tmp 93) = .bool true := hd 9 93 (by kernel_rfl)
        clear hd hu
        go_simp
        exact HR1.out _ _ (GDk.refl _ _ _ _ _) rfl
      case s11 =>
        refine Grow.step_on (g := 10) (b := true) (d := 94) (by rfl) (by rfl) (by rfl) (by kernel_rfl) (fun v W h => h) ?_
        intro E W ec eg ef hG hd hu R HR1
        have e11 : E (.tmp 11) = .pointer (some ⟨g, 0, none⟩) := hu 11 (by kernel_rfl)
        clear hd hu
        go_simp
        exact HR1.out _ _ (GDk.refl _ _ _ _ _) rfl
      case s12 =>
        refine Grow.step_on (g := 10) (b := true) (d := 94) (by rfl) (by rfl) (by rfl) (by kernel_rfl) (fun v W h => h) ?_
        intro E W ec eg ef hG hd hu R HR1
        have e13 : E (.tmp 13) = .int .i64 (i : Int) := hu 13 (by kernel_rfl)
        clear hd hu
        go_simp
        exact HR1.out _ _ (GDk.refl _ _ _ _ _) rfl
      case s13 =>
        refine Grow.step_on (g := 10) (b := true) (d := 94) (by rfl) (by rfl) (by rfl) (by kernel_rfl) (fun v W h => h) ?_
        intro E W ec eg ef hG hd hu R HR1
        have e14 : E (.tmp 14) = .slice (some ⟨q, 0, none⟩) 128 128 := hu 14 (by kernel_rfl)
        clear hd hu
        go_simp
        exact HR1.out _ _ (GDk.refl _ _ _ _ _) rfl
      case s14 =>
        refine Grow.step_on (g := 10) (b := true) (d := 94) (by rfl) (by rfl) (by rfl) (by kernel_rfl) (fun v W h => h) ?_
        intro E W ec eg ef hG hd hu R HR1
        have e97 : E (.tmp 97) = .slice (some ⟨q, 0, none⟩) 128 128 := hd 13 97 (by kernel_rfl)
        clear hd hu
        have hsl := HSL.out W
        go_simp
        exact HR1.out _ _ (GDk.refl _ _ _ _ _) rfl
      case s15 =>
        refine Grow.step_on (g := 10) (b := true) (d := 94) (by rfl) (by rfl) (by rfl) (by kernel_rfl) (fun v W h => h) ?_
        intro E W ec eg ef hG hd hu R HR1
        have e95 : E (.tmp 95) = .pointer (some ⟨g, 0, none⟩) := hd 11 95 (by kernel_rfl)
        have e96 : E (.tmp 96) = .int .i64 (i : Int) := hd 12 96 (by kernel_rfl)
        have e98 : E (.tmp 98) = .slice (some ⟨q, 0, none⟩) 127 128 := hd 14 98 (by kernel_rfl)
        clear hd hu
        go_simp
        refine (((hG.dsk H9.out.2.1.drew).write (hG.byt H9.out.2.2.2.drew) (i : Int))).mono ?_
        rw [HM.out.2.2.1 _ (by rw [List.length_take, List.length_set, HM.out.2.2.2.2]; rfl)]
        rintro _ w' ⟨rfl, hd4, ht4⟩
        exact ⟨_, rfl, HR1.out _ _ ⟨ht4, fun _ => hd4⟩ rfl⟩
      case s16 =>
        refine Grow.step_on (g := 10) (b := true) (d := 94) (by rfl) (by rfl) (by rfl) (by kernel_rfl) (fun v W h => h) ?_
        intro E W ec eg ef hG hd hu R HR1
        have e99 : E (.tmp 99) = .int .i64 1 := hd 15 99 (by kernel_rfl)
        clear hd hu
        go_simp
        exact HR1.out _ _ (GDk.refl _ _ _ _ _) rfl
      case s17 =>
        refine Grow.step_in (by rfl) (by rfl) ?_
        intro E W ec eg ef hG hd hu R HR1
        have e94 : E (.tmp 94) = .bool true := hd 10 94 (by kernel_rfl)
        have e100 : E (.tmp 100) = .bool true := hd 16 100 (by kernel_rfl)
        clear hd hu
        go_simp
        exact HR1.out _ _ (GDk.refl _ _ _ _ _) rfl
      case s18 =>
        refine Grow.step_in (by rfl) (by rfl) ?_
        intro E W ec eg ef hG hd hu R HR1
        have e101 : E (.tmp 101) = .bool true := hd 17 101 (by kernel_rfl)
        clear hd hu
        go_simp
        exact HR1.out _ _ (GDk.refl _ _ _ _ _) rfl
      case s19 =>
        refine Grow.step_on (g := 18) (b := true) (d := 102) (by rfl) (by rfl) (by rfl) (by kernel_rfl) (fun v W h => h) ?_
        intro E W ec eg ef hG hd hu R HR1
        have e11 : E (.tmp 11) = .pointer (some ⟨g, 0, none⟩) := hu 11 (by kernel_rfl)
        clear hd hu
        go_simp
        exact HR1.out _ _ (GDk.refl _ _ _ _ _) rfl
      case s20 =>
        refine Grow.step_on (g := 18) (b := true) (d := 102) (by rfl) (by rfl) (by rfl) (by kernel_rfl) (fun v W h => h) ?_
        intro E W ec eg ef hG hd hu R HR1
        have e10 : E (.tmp 10) = .int .i64 (k : Int) := hu 10 (by kernel_rfl)
        clear hd hu
        go_simp
        exact HR1.out _ _ (GDk.refl _ _ _ _ _) rfl
      case s21 =>
        refine Grow.step_on (g := 18) (b := true) (d := 102) (by rfl) (by rfl) (by rfl) (by kernel_rfl) (fun v W h => h) ?_
        intro E W ec eg ef hG hd hu R HR1
        have e14 : E (.tmp 14) = .slice (some ⟨q, 0, none⟩) 128 128 := hu 14 (by kernel_rfl)
        clear hd hu
        go_simp
        exact HR1.out _ _ (GDk.refl _ _ _ _ _) rfl
      case s22 =>
        refine Grow.step_on (g := 18) (b := true) (d := 102) (by rfl) (by rfl) (by rfl) (by kernel_rfl) (fun v W h => h) ?_
        intro E W ec eg ef hG hd hu R HR1
        have e103 : E (.tmp 103) = .pointer (some ⟨g, 0, none⟩) := hd 19 103 (by kernel_rfl)
        have e104 : E (.tmp 104) = .int .i64 (k : Int) := hd 20 104 (by kernel_rfl)
        have e105 : E (.tmp 105) = .slice (some ⟨q, 0, none⟩) 128 128 := hd 21 105 (by kernel_rfl)
        clear hd hu
        go_simp
        refine (((hG.dsk H9.out.2.1.drew).write (hG.byt H9.out.2.2.1.drew) (k : Int))).mono ?_
        rw [HM.out.2.2.2.1 _]
        rintro _ w' ⟨rfl, hd4, ht4⟩
        exact ⟨_, rfl, HR1.out _ _ ⟨ht4, fun _ => hd4⟩ rfl⟩
      case s23 =>
        refine Grow.step_on (g := 18) (b := true) (d := 102) (by rfl) (by rfl) (by rfl) (by kernel_rfl) (fun v W h => h) ?_
        intro E W ec eg ef hG hd hu R HR1
        have e106 : E (.tmp 106) = .int .i64 14 := hd 22 106 (by kernel_rfl)
        clear hd hu
        go_simp
        exact HR1.out _ _ (GDk.refl _ _ _ _ _) rfl
      case s24 =>
        refine Grow.step_in (by rfl) (by rfl) ?_
        intro E W ec eg ef hG hd hu R HR1
        have e102 : E (.tmp 102) = .bool true := hd 18 102 (by kernel_rfl)
        have e107 : E (.tmp 107) = .bool true := hd 23 107 (by kernel_rfl)
        clear hd hu
        go_simp
        exact HR1.out _ _ (GDk.refl _ _ _ _ _) rfl
      case s25 =>
        refine Grow.step_in (by rfl) (by rfl) ?_
        intro E W ec eg ef hG hd hu R HR1
        have e108 : E (.tmp 108) = .bool true := hd 24 108 (by kernel_rfl)
        clear hd hu
        go_simp
        exact HR1.out _ _ (GDk.refl _ _ _ _ _) rfl
    case gfin =>
      intro W hG
      refine Grow.fin_dst (by rfl) ?_
      rintro _ rfl
      refine Grow.fin_dst (by rfl) ?_
      rintro _ rfl
      refine Grow.fin_dst (by rfl) ?_
      rintro _ rfl
      refine Grow.fin_dst (by rfl) ?_
      rintro _ rfl
      refine Grow.fin_dst (by rfl) ?_
      rintro _ rfl
      refine Grow.fin_dst (by rfl) ?_
      rintro _ rfl
      refine Grow.fin_dst (by rfl) ?_
      rintro _ ⟨Af, nf, cf, rfl, hyf⟩
      refine Grow.fin_dst (by rfl) ?_
      rintro _ rfl
      refine Grow.fin_dst (by rfl) ?_
      rintro _ rfl
      refine Grow.fin_dst (by rfl) ?_
      rintro _ rfl
      refine Grow.fin_dst (by rfl) ?_
      rintro _ rfl
      refine Grow.fin_dst (by rfl) ?_
      rintro _ rfl
      refine Grow.fin_dst (by rfl) ?_
      rintro _ rfl
      refine Grow.fin_dst (by rfl) ?_
      rintro _ rfl
      refine Grow.fin_dst (by rfl) ?_
      rintro _ rfl
      refine Grow.fin_dst (by rfl) ?_
      rintro _ rfl
      refine Grow.fin_dst (by rfl) ?_
      rintro _ rfl
      refine Grow.fin_dst (by rfl) ?_
      rintro _ rfl
      refine Grow.fin_dst (by rfl) ?_
      rintro _ rfl
      refine Grow.fin_dst (by rfl) ?_
      rintro _ rfl
      refine Grow.fin_dst (by rfl) ?_
      rintro _ rfl
      refine Grow.fin_dst (by rfl) ?_
      rintro _ rfl
      refine Grow.fin_dst (by rfl) ?_
      rintro _ rfl
      refine Grow.fin_dst (by rfl) ?_
      rintro _ rfl
      refine Grow.fin_dst (by rfl) ?_
      rintro _ rfl
      refine Grow.fin_dst (by rfl) ?_
      rintro _ rfl
      simp only [Act.put, List.setIfInBounds_toArray, List.set_cons_zero, List.set_cons_succ]
      refine Grow.fin_end ?_
      have HF := Lib.hid (hG.dsk H9.out.2.1.drew).bel
      clear hG hyf
      go_wp2_with fail
      go_ret
      exact ⟨rfl, HF.out⟩
end Go.Proofs.Ythndpfkgljkpcaa
