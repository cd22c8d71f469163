/-
  The statement ProofHolds: its walk.
-/
import Derived.Test.YtebhlfmianohlaaDoorProofAwake
import Derived.Test.YtebhlfmianohlaaDoorProofRefCheck
namespace Go.Proofs.YtebhlfmianohlaaDoor
open Go.RowKit

/-- append of bytes to no slice. -/
theorem append_none {W : World} {S : Nat → Prop} {A : Option Addr} {n c : Nat} {l : List UInt8} (h : Byt W S A n c l) (hn : n ≤ 1000000) (ty : TypeId) :
    ∃ A' c' W', (Builtin.append_ #[22, 22] ty #[.slice none 0 0, .slice A n c]).run Tryd.prog W = .ok (.slice A' n c') W' ∧ W'.ownsRow W.heap.size 5 1 (.slice A' n c') n (u8s l) ∧ Below W.heap.size W W' := by
  obtain ⟨i0, hi, hz0, hz1, hz2⟩ := info_parts u8_info
  rcases A with _ | ad
  · obtain rfl : n = 0 := by
      rcases Nat.eq_zero_or_pos n with h0 | h0
      · exact h0
      · obtain ⟨_, _, hA, _⟩ := h.row h0
        cases hA
    obtain rfl : l = [] := List.eq_nil_of_length_eq_zero h.len
    exact ⟨none, 0, W, run_append_zero W 22 ty 5 i0 Tryd.underlying22 hi _ 0 0 c (Nat.le_refl _), World.ownsRow_nil _ _ _ _, Below.refl _ _⟩
  · obtain ⟨v', W', hrun, r1, r2, _⟩ := run_append_own (P := Tryd.prog) W W.heap.size 22 ty 5 i0 (.int .u8 0) 1 1 Tryd.underlying22 hi hz0 hz1 hz2 rfl (by decide) (.slice none 0 0) 0 [] (World.ownsRow_nil _ _ _ _) ad n c (u8s l) (by rw [u8s_length, h.len, Nat.mul_one]) (byt_news h) (u8s_one l) (by unfold maxLen; omega) (by omega) (Nat.le_refl _)
    rw [List.nil_append, Nat.zero_add] at r1
    obtain ⟨A', c', rfl, hb⟩ := own_byt r1
    exact ⟨A', c', W', hrun, r1, (Below.refl _ W).grown r2 (Nat.le_refl _) (by intro k hk; simp [Value.ownBlock] at hk)⟩

set_option maxHeartbeats 8000000 in
set_option maxRecDepth 100000 in
theorem walk_holds {w : World} {S : Nat → Prop} {A : Option Addr} {n c : Nat} {b : List UInt8} (h : Byt w S A n c b) {i0 a0 x0 o : Int} (hi0 : (Lit.int .u16 i0).wf = true) (ha0 : (Lit.int .u8 a0).wf = true) (hx0 : (Lit.int .u8 x0).wf = true) (_ho0 : (Lit.int .i64 o).wf = true) (ht : Tab w) :
    Calls Tryd.prog 5 #[.slice A n c, .int .u16 i0, .int .u8 a0, .int .u8 x0, .int .i64 o] w fun e w' => e = .returned (.bool true) ∧ Below w.heap.size w w' := by
  have hib := bounds_u16 hi0
  have hab := bounds_u8 ha0
  have hxb := bounds_u8 hx0
  obtain ⟨i, rfl⟩ := Int.eq_ofNat_of_zero_le hib.1
  obtain ⟨a, rfl⟩ := Int.eq_ofNat_of_zero_le hab.1
  obtain ⟨x, rfl⟩ : ∃ x : UInt8, x0 = (x.toNat : Int) := ⟨UInt8.ofNat x0.toNat, by simp; omega⟩
  have hi : i < 65536 := by omega
  have ha : a < 256 := by omega
  clear hib hab hxb hi0 ha0 hx0 _ho0
  have haw := pawake_true ht
  have HH0 := Lib.hid (And.intro h ht)
  by_cases hn : n ≤ 1000
  · have hz := zero_id
    have hn' : ¬ (1000 : Int) < (n : Int) := by omega
    obtain ⟨RS, hRS⟩ : ∃ RS, RS = row8 (rootL b) := ⟨_, rfl⟩
    have HRS : Hid (RS = row8 (rootL b) ∧ RS.size = 32 ∧ RS.all (·.oneCell') = true) := Lib.hid ⟨hRS, by rw [hRS, row8_size]; exact crownD_length _ _, by rw [hRS]; exact row8_one _⟩
    obtain ⟨N, hN⟩ : ∃ N, N = (splitL b).length := ⟨_, rfl⟩
    have hlb := leaves_at b
    rw [h.len] at hlb
    have hN6 : N ≤ 1000 := by rw [hN]; split at hlb <;> omega
    have hNp : 0 < N := by rw [hN]; exact splitL_pos b
    have HN := Lib.hid (And.intro hN (And.intro hN6 hNp))
    have hne : ¬ (N : Int) = 0 := by omega
    have hi64 := IntWalk.wrap64_in (i : Int) (by omega)
    clear hRS h ht hlb hN hN6 hNp
    go_enter Tryd.func5, Tryd.ntmps5
    go_wp2_with (first
      | (go_at_call 9; refine haw.mono ?_; clear haw; rintro _ w1 ⟨rfl, hb1⟩
         have hlv := leaves_any (HH0.out.1.below hb1)
         rw [← HN.out.1] at hlv
         have HB1 := Lib.hid hb1
         clear hb1)
      | (go_at_call 14; refine hlv.mono ?_; clear hlv; rintro _ _ ⟨rfl, rfl⟩))
    obtain ⟨p, hp, hpN⟩ : ∃ p : Nat, (i : Int) % (N : Int) = (p : Int) ∧ p < N := ⟨i % N, by omega, Nat.mod_lt _ HN.out.2.2⟩
    simp only [hp]
    have HP := Lib.hid hpN
    clear hp hpN hi64 hne hi
    obtain ⟨l1, hl1⟩ : ∃ l1, l1 = (splitL b)[p]?.getD [] := ⟨_, rfl⟩
    obtain ⟨y1, hy1⟩ : ∃ y1, y1 = wayL (digs b) p := ⟨_, rfl⟩
    have hps : p < (splitL b).length := by have h1 := HP.out; have h2 := HN.out.1; omega
    have hck0 := check_proved b p hps
    rw [← HN.out.1, ← hl1, ← hy1] at hck0
    have HCK := Lib.hid hck0
    have HLE : Hid (l1.length ≤ 64) := Lib.hid (by
      rw [hl1, List.getElem?_eq_getElem hps]
      exact splitL_le b _ (List.getElem_mem hps))
    have hrg : (0 : Int) ≤ (p : Int) ∧ (p : Int) < ((splitL b).length : Int) := by omega
    have hpv := prove_any (HH0.out.1.below HB1.out) (by omega) (HH0.out.2.below HB1.out) (p : Int)
    rw [proveErr, if_pos hrg, proveLeaf, if_pos hrg, proveWay, if_pos hrg, Int.toNat_natCast, ← hl1, ← hy1] at hpv
    refine hpv.mono ?_
    clear hpv hck0 hl1 hy1 hps hrg
    rintro _ w4 ⟨A1, n1, c1, A2, n2, c2, rfl, hy1, hi1, hb4⟩
    have hb04 := HB1.out.trans (hb4.mono HB1.out.size)
    have hro := root_any (HH0.out.1.below hb04) (by omega) (HH0.out.2.below hb04)
    rw [← HRS.out.1] at hro
    have hn1 := hy1.len
    have H4 := Lib.hid (And.intro hy1 (And.intro hi1 hb04))
    clear hy1 hi1 hb4 hb04
    have h64 : n1 ≤ 64 := by rw [← hn1]; exact HLE.out
    clear hn1
    by_cases hn1 : 0 < n1
    · have hn1' : (0 : Int) < (n1 : Int) := by omega
      have hn1z : ¬ (n1 : Int) = 0 := by omega
      have ha64 := IntWalk.wrap64_in (a : Int) (by omega)
      obtain ⟨r, hr, hrn⟩ : ∃ r : Nat, (a : Int) % (n1 : Int) = (r : Int) ∧ r < n1 := ⟨a % n1, by omega, Nat.mod_lt _ hn1⟩
      have hrn' : (r : Int) < (n1 : Int) := by omega
      obtain ⟨bi, hbi⟩ : ∃ bi, bi = l1[r]?.getD 0 := ⟨_, rfl⟩
      have hxr := xor8 bi x
      have HBI := Lib.hid (And.intro hbi hrn)
      clear hbi ha
      go_wp2_with (first
        | (go_at_call 12; refine hro.mono ?_; clear hro; rintro _ w2 ⟨rfl, hb2⟩
           have HG := Lib.hid (heap_alloc_new w2 (.cells zerosId 31))
           have hb23 : Below w2.heap.size w2 ((w2.alloc (.cells zerosId 31)).setRow w2.heap.size RS) := below_setRow ((Below.refl _ _).alloc (Nat.le_refl _) _) (Nat.le_refl _) _
           have hb43 := hb2.trans (hb23.mono hb2.size)
           have hset := setRow_at (new := RS) HG.out
           have H3 : Hid (((w2.alloc (.cells zerosId 31)).setRow w2.heap.size RS).heap[w2.heap.size]? = some (.cells RS 31 (0, 0)) ∧ Below w4.heap.size w4 ((w2.alloc (.cells zerosId 31)).setRow w2.heap.size RS) ∧ w4.heap.size ≤ w2.heap.size) := Lib.hid ⟨hset, hb43, hb2.size⟩
           clear hb2 hb23 hb43 hset)
        | (refine wpList_store_row (by rfl) 31 (.tmp 17) (.tmp 39) (by rfl) w2.heap.size RS (by rfl) (by rfl) 31 zerosId HG.out (by rw [HRS.out.2.1]; exact id_info) (by rw [HRS.out.2.1]; rfl) HRS.out.2.2 ?_
           clear HG
           generalize (w2.alloc (.cells zerosId 31)).setRow w2.heap.size RS = w3 at H3 ⊢
           have hck := check_any (rootL b) (crownD_length _ _) (N : Int) (p : Int) (by have := HN.out.2.1; omega) (H4.out.1.below H3.out.2.1) (H4.out.2.1.below H3.out.2.1) (HH0.out.2.below (H4.out.2.2.trans (H3.out.2.1.mono H4.out.2.2.size)))
           rw [← HRS.out.1, HCK.out] at hck)
        | (refine wpList_load_row_on (by rfl) 31 (.tmp 17) (by rfl) w2.heap.size (by rfl) 31 RS (0, 0) _ H3.out.1 Tryd.underlying31 (by rfl) (by rw [HRS.out.2.1]; exact id_info) ?_)
        | (go_at_call 17; refine hck.mono ?_; clear hck; rintro _ w6 ⟨rfl, hb6⟩
           have hb46 := H3.out.2.1.trans (hb6.mono H3.out.2.1.size)
           have hb06 := H4.out.2.2.trans (hb46.mono H4.out.2.2.size)
           have hx6 := (hb6.block _ (lt_of_cells H3.out.1)).trans H3.out.1
           obtain ⟨A3, c3, w7, hrun, hown, hb7⟩ := append_none (H4.out.1.below hb46) (by omega) 22
           obtain ⟨g, c4, hA3, _⟩ := hown.form hn1; injection hA3 with hA3 hA4 hA5; subst hA3; subst hA5; clear hA4
           have hb07 := hb06.trans (hb7.mono hb06.size)
           have HO7 : Hid (w7.ownsRow w6.heap.size 5 1 (.slice (some ⟨g, 0, none⟩) n1 c3) n1 (u8s l1) ∧ Below w.heap.size w w7 ∧ w7.heap[w2.heap.size]? = some (.cells RS 31 (0, 0)) ∧ Ids w7 (w1.heap.size ≤ ·) A2 n2 c2 y1 ∧ w2.heap.size < w6.heap.size ∧ w.heap.size ≤ w6.heap.size ∧ Ids w6 (w1.heap.size ≤ ·) A2 n2 c2 y1 ∧ Below w6.heap.size w6 w7) := Lib.hid ⟨hown, hb07, (hb7.block _ (lt_of_cells hx6)).trans hx6, (H4.out.2.1.below hb46).below hb7, lt_of_cells hx6, hb06.size, H4.out.2.1.below hb46, hb7⟩
           have hcell : w7.cell? ⟨g, r, none⟩ = some (.int .u8 (bi.toNat : Int)) := by
             rw [hown.cellAt r (by omega), HBI.out.1]
             have : r < l1.length := by have := H4.out.1.len; have := HBI.out.2; omega
             simp [u8s, this]
           have hfree := hown.frozenAt r
           clear hb6 hb46 hb06 hx6 hown hb7 hb07)
        | (at_builtin; refine wpList_app (by rfl) _ _ 22 (by rfl) (by rfl) (by rfl) hrun ?_; clear hrun))
      obtain ⟨L3, hL3⟩ : ∃ L3, L3 = l1.set r (bi ^^^ x) := ⟨_, rfl⟩
      have HL3 : Hid (L3.length ≤ 64) := Lib.hid (by rw [hL3, List.length_set]; exact HLE.out)
      have hst := HO7.out.1.stored r (.int .u8 (((bi ^^^ x).toNat : Nat) : Int))
      rw [u8s_set, ← hL3] at hst
      have hgl := (HO7.out.1.lt g rfl).1
      have H8 : Hid (Below w.heap.size w (w7.setCell ⟨g, r, none⟩ (.int .u8 (((bi ^^^ x).toNat : Nat) : Int))) ∧ (w7.setCell ⟨g, r, none⟩ (.int .u8 (((bi ^^^ x).toNat : Nat) : Int))).heap[w2.heap.size]? = some (.cells RS 31 (0, 0)) ∧ Byt (w7.setCell ⟨g, r, none⟩ (.int .u8 (((bi ^^^ x).toNat : Nat) : Int))) (w6.heap.size ≤ ·) (some ⟨g, 0, none⟩) n1 c3 L3 ∧ Ids (w7.setCell ⟨g, r, none⟩ (.int .u8 (((bi ^^^ x).toNat : Nat) : Int))) (w1.heap.size ≤ ·) A2 n2 c2 y1) := Lib.hid ⟨HO7.out.2.1.setCell (by have := HO7.out.2.2.2.2.2.1; show w.heap.size ≤ g; omega) _, (Below.heap_setCell _ _ _ _ (by have := HO7.out.2.2.2.2.1; show w2.heap.size ≠ g; omega)).trans HO7.out.2.2.1, own_byt_at hst.1, HO7.out.2.2.2.2.2.2.1.below (HO7.out.2.2.2.2.2.2.2.setCell (by show w6.heap.size ≤ g; omega) _)⟩
      clear hst hL3 hcell hfree hxr hr hrn hrn' ha64 hgl
      try rw [show (((bi.toNat ^^^ x.toNat : Nat)) : Int) = (((bi ^^^ x).toNat : Nat) : Int) by rw [UInt8.toNat_xor]]
      generalize w7.setCell ⟨g, r, none⟩ (.int .u8 (((bi ^^^ x).toNat : Nat) : Int)) = w8 at H8 ⊢
      obtain ⟨V1, hV1⟩ : ∃ V, V = checkL (rootL b) (N : Int) o L3 y1 := ⟨_, rfl⟩
      obtain ⟨V2, hV2⟩ : ∃ V, V = checkL (rootL b) ((N : Int) + 1) (p : Int) L3 y1 := ⟨_, rfl⟩
      have HV1 := Lib.hid hV1
      have HV2 := Lib.hid hV2
      have HN1 := Lib.hid (IntWalk.i64_in ((N : Int) + 1) (by have := HN.out.2.1; omega))
      have HD : Hid (w8.drew.heap[w2.heap.size]? = some (.cells RS 31 (0, 0)) ∧ Byt w8.drew (w6.heap.size ≤ ·) (some ⟨g, 0, none⟩) n1 c3 L3 ∧ Ids w8.drew (w1.heap.size ≤ ·) A2 n2 c2 y1 ∧ Tab w8.drew) := Lib.hid ⟨H8.out.2.1, H8.out.2.2.1.drew, H8.out.2.2.2.drew, (HH0.out.2.below H8.out.1).drew⟩
      clear hV1 hV2
      refine wp_region_grow (fun W W' => Below W.heap.size W W') (Grow.nth [fun v _ => v = .agg RS, fun v _ => v = .int .i64 (N : Int), fun v _ => v = .int .i64 o, fun v _ => v = .slice (some ⟨g, 0, none⟩) n1 c3, fun v _ => v = .slice A2 n2 c2, fun v _ => v = .int .i64 V1, fun v _ => v = .agg RS, fun v _ => v = .int .i64 (N : Int), fun v _ => v = .int .i64 o, fun v _ => v = .slice (some ⟨g, 0, none⟩) n1 c3, fun v _ => v = .string (st L3), fun v _ => v = .slice A2 n2 c2, fun v _ => v = .int .i64 V1, fun v _ => v = .bool true, fun v _ => v = .bool true, fun v _ => v = .agg RS, fun v _ => v = .int .i64 (N : Int), fun v _ => v = .int .i64 ((N : Int) + 1), fun v _ => v = .int .i64 (p : Int), fun v _ => v = .slice (some ⟨g, 0, none⟩) n1 c3, fun v _ => v = .slice A2 n2 c2, fun v _ => v = .int .i64 V2, fun v _ => v = .agg RS, fun v _ => v = .int .i64 (N : Int), fun v _ => v = .int .i64 ((N : Int) + 1), fun v _ => v = .int .i64 (p : Int), fun v _ => v = .slice (some ⟨g, 0, none⟩) n1 c3, fun v _ => v = .string (st L3), fun v _ => v = .slice A2 n2 c2, fun v _ => v = .int .i64 V2, fun v _ => v = .bool true, fun v _ => v = .bool true, fun v _ => v = .bool true]) 100 (by kernel_rfl) (by kernel_rfl) (by rfl) (fun W => Below.refl _ W) (fun _ _ _ h1 h2 => h1.trans (h2.mono h1.size)) (Grow.mono_nth ?gmono) ?gsteps ?gfin
      case gmono => exact ⟨fun _ _ _ h _ => h, fun _ _ _ h _ => h, fun _ _ _ h _ => h, fun _ _ _ h _ => h, fun _ _ _ h _ => h, fun _ _ _ h _ => h, fun _ _ _ h _ => h, fun _ _ _ h _ => h, fun _ _ _ h _ => h, fun _ _ _ h _ => h, fun _ _ _ h _ => h, fun _ _ _ h _ => h, fun _ _ _ h _ => h, fun _ _ _ h _ => h, fun _ _ _ h _ => h, fun _ _ _ h _ => h, fun _ _ _ h _ => h, fun _ _ _ h _ => h, fun _ _ _ h _ => h, fun _ _ _ h _ => h, fun _ _ _ h _ => h, fun _ _ _ h _ => h, fun _ _ _ h _ => h, fun _ _ _ h _ => h, fun _ _ _ h _ => h, fun _ _ _ h _ => h, fun _ _ _ h _ => h, fun _ _ _ h _ => h, fun _ _ _ h _ => h, fun _ _ _ h _ => h, fun _ _ _ h _ => h, fun _ _ _ h _ => h, fun _ _ _ h _ => h, trivial⟩
      case gsteps =>
        show Grow.allBelow _ 33
        refine And.intro ?_ ?s32
        refine And.intro ?_ ?s31
        refine And.intro ?_ ?s30
        refine And.intro ?_ ?s29
        refine And.intro ?_ ?s28
        refine And.intro ?_ ?s27
        refine And.intro ?_ ?s26
        refine And.intro ?_ ?s25
        refine And.intro ?_ ?s24
        refine And.intro ?_ ?s23
        refine And.intro ?_ ?s22
        refine And.intro ?_ ?s21
        refine And.intro ?_ ?s20
        refine And.intro ?_ ?s19
        refine And.intro ?_ ?s18
        refine And.intro ?_ ?s17
        refine And.intro ?_ ?s16
        refine And.intro ?_ ?s15
        refine And.intro ?_ ?s14
        refine And.intro ?_ ?s13
        refine And.intro ?_ ?s12
        refine And.intro ?_ ?s11
        refine And.intro ?_ ?s10
        refine And.intro ?_ ?s9
        refine And.intro ?_ ?s8
        refine And.intro ?_ ?s7
        refine And.intro ?_ ?s6
        refine And.intro ?_ ?s5
        refine And.intro ?_ ?s4
        refine And.intro ?_ ?s3
        refine And.intro ?_ ?s2
        refine And.intro ?_ ?s1
        refine And.intro ?_ ?s0
        exact trivial
        case s0 =>
          refine Grow.step_in (by rfl) (by rfl) ?_
          intro E W ec eg ef hG hd hu R HR
          have e17 : E (.tmp 17) = .pointer (some ⟨w2.heap.size, 0, none⟩) := hu 17 (by kernel_rfl)
          clear hd hu
          exact runs_load 31 (.tmp 17) rfl (w2.heap.size) e17 RS (0, 0) ((hG.block _ (lt_of_cells HD.out.1)).trans HD.out.1) Tryd.underlying31 (by rw [HRS.out.2.1]; exact id_info) (HR.out _ _ (Below.refl _ _) rfl)
        case s1 =>
          refine Grow.step_in (by rfl) (by rfl) ?_
          intro E W ec eg ef hG hd hu R HR
          have e12 : E (.tmp 12) = .int .i64 (N : Int) := hu 12 (by kernel_rfl)
          clear hd hu
          go_simp
          exact HR.out _ _ (Below.refl _ _) rfl
        case s2 =>
          refine Grow.step_in (by rfl) (by rfl) ?_
          intro E W ec eg ef hG hd hu R HR
          have e4 : E (.tmp 4) = .int .i64 o := hu 4 (by kernel_rfl)
          clear hd hu
          go_simp
          exact HR.out _ _ (Below.refl _ _) rfl
        case s3 =>
          refine Grow.step_in (by rfl) (by rfl) ?_
          intro E W ec eg ef hG hd hu R HR
          have e18 : E (.tmp 18) = .slice (some ⟨g, 0, none⟩) n1 c3 := hu 18 (by kernel_rfl)
          clear hd hu
          go_simp
          exact HR.out _ _ (Below.refl _ _) rfl
        case s4 =>
          refine Grow.step_in (by rfl) (by rfl) ?_
          intro E W ec eg ef hG hd hu R HR
          have e15 : E (.tmp 15) = .slice A2 n2 c2 := hu 15 (by kernel_rfl)
          clear hd hu
          go_simp
          exact HR.out _ _ (Below.refl _ _) rfl
        case s5 =>
          refine Grow.step_in (by rfl) (by rfl) ?_
          intro E W ec eg ef hG hd hu R HR
          have e68 : E (.tmp 68) = .agg RS := hd 0 68 (by kernel_rfl)
          have e69 : E (.tmp 69) = .int .i64 (N : Int) := hd 1 69 (by kernel_rfl)
          have e70 : E (.tmp 70) = .int .i64 o := hd 2 70 (by kernel_rfl)
          have e71 : E (.tmp 71) = .slice (some ⟨g, 0, none⟩) n1 c3 := hd 3 71 (by kernel_rfl)
          have e72 : E (.tmp 72) = .slice A2 n2 c2 := hd 4 72 (by kernel_rfl)
          clear hd hu
          go_simp
          rw [HRS.out.1]
          refine (check_any (rootL b) (crownD_length _ _) (N : Int) o (by have := HN.out.2.1; omega) (HD.out.2.1.below hG) (HD.out.2.2.1.below hG) (HD.out.2.2.2.below hG)).mono ?_
          rintro _ w' ⟨rfl, hb⟩
          exact ⟨_, rfl, HR.out _ _ hb (show Value.int _ _ = Value.int _ V1 by rw [HV1.out])⟩
        case s6 =>
          refine Grow.step_in (by rfl) (by rfl) ?_
          intro E W ec eg ef hG hd hu R HR
          have e17 : E (.tmp 17) = .pointer (some ⟨w2.heap.size, 0, none⟩) := hu 17 (by kernel_rfl)
          clear hd hu
          exact runs_load 31 (.tmp 17) rfl (w2.heap.size) e17 RS (0, 0) ((hG.block _ (lt_of_cells HD.out.1)).trans HD.out.1) Tryd.underlying31 (by rw [HRS.out.2.1]; exact id_info) (HR.out _ _ (Below.refl _ _) rfl)
        case s7 =>
          refine Grow.step_in (by rfl) (by rfl) ?_
          intro E W ec eg ef hG hd hu R HR
          have e12 : E (.tmp 12) = .int .i64 (N : Int) := hu 12 (by kernel_rfl)
          clear hd hu
          go_simp
          exact HR.out _ _ (Below.refl _ _) rfl
        case s8 =>
          refine Grow.step_in (by rfl) (by rfl) ?_
          intro E W ec eg ef hG hd hu R HR
          have e4 : E (.tmp 4) = .int .i64 o := hu 4 (by kernel_rfl)
          clear hd hu
          go_simp
          exact HR.out _ _ (Below.refl _ _) rfl
        case s9 =>
          refine Grow.step_in (by rfl) (by rfl) ?_
          intro E W ec eg ef hG hd hu R HR
          have e18 : E (.tmp 18) = .slice (some ⟨g, 0, none⟩) n1 c3 := hu 18 (by kernel_rfl)
          clear hd hu
          go_simp
          exact HR.out _ _ (Below.refl _ _) rfl
        case s10 =>
          refine Grow.step_in (by rfl) (by rfl) ?_
          intro E W ec eg ef hG hd hu R HR
          have e77 : E (.tmp 77) = .slice (some ⟨g, 0, none⟩) n1 c3 := hd 9 77 (by kernel_rfl)
          clear hd hu
          have hs := byt_string (HD.out.2.1.below hG)
          go_simp
          exact HR.out _ _ (Below.refl _ _) rfl
        case s11 =>
          refine Grow.step_in (by rfl) (by rfl) ?_
          intro E W ec eg ef hG hd hu R HR
          have e15 : E (.tmp 15) = .slice A2 n2 c2 := hu 15 (by kernel_rfl)
          clear hd hu
          go_simp
          exact HR.out _ _ (Below.refl _ _) rfl
        case s12 =>
          refine Grow.step_in (by rfl) (by rfl) ?_
          intro E W ec eg ef hG hd hu R HR
          have e74 : E (.tmp 74) = .agg RS := hd 6 74 (by kernel_rfl)
          have e75 : E (.tmp 75) = .int .i64 (N : Int) := hd 7 75 (by kernel_rfl)
          have e76 : E (.tmp 76) = .int .i64 o := hd 8 76 (by kernel_rfl)
          have e78 : E (.tmp 78) = .string (st L3) := hd 10 78 (by kernel_rfl)
          have e79 : E (.tmp 79) = .slice A2 n2 c2 := hd 11 79 (by kernel_rfl)
          clear hd hu
          go_simp
          rw [HRS.out.1]
          refine (rcheck_any (rootL b) (crownD_length _ _) (N : Int) o (by have := HN.out.2.1; omega) (by have := HL3.out; omega) (HD.out.2.2.1.below hG)).mono ?_
          rintro _ w' ⟨rfl, hb⟩
          exact ⟨_, rfl, HR.out _ _ hb (show Value.int _ _ = Value.int _ V1 by rw [HV1.out])⟩
        case s13 =>
          refine Grow.step_in (by rfl) (by rfl) ?_
          intro E W ec eg ef hG hd hu R HR
          have e73 : E (.tmp 73) = .int .i64 V1 := hd 5 73 (by kernel_rfl)
          have e80 : E (.tmp 80) = .int .i64 V1 := hd 12 80 (by kernel_rfl)
          clear hd hu
          go_simp
          exact HR.out _ _ (Below.refl _ _) rfl
        case s14 =>
          refine Grow.step_in (by rfl) (by rfl) ?_
          intro E W ec eg ef hG hd hu R HR
          have e81 : E (.tmp 81) = .bool true := hd 13 81 (by kernel_rfl)
          clear hd hu
          go_simp
          exact HR.out _ _ (Below.refl _ _) rfl
        case s15 =>
          refine Grow.step_on (g := 14) (b := true) (d := 82) (by rfl) (by rfl) (by rfl) (by kernel_rfl) (fun v W h => h) ?_
          intro E W ec eg ef hG hd hu R HR
          have e17 : E (.tmp 17) = .pointer (some ⟨w2.heap.size, 0, none⟩) := hu 17 (by kernel_rfl)
          clear hd hu
          exact runs_load 31 (.tmp 17) rfl (w2.heap.size) e17 RS (0, 0) ((hG.block _ (lt_of_cells HD.out.1)).trans HD.out.1) Tryd.underlying31 (by rw [HRS.out.2.1]; exact id_info) (HR.out _ _ (Below.refl _ _) rfl)
        case s16 =>
          refine Grow.step_on (g := 14) (b := true) (d := 82) (by rfl) (by rfl) (by rfl) (by kernel_rfl) (fun v W h => h) ?_
          intro E W ec eg ef hG hd hu R HR
          have e12 : E (.tmp 12) = .int .i64 (N : Int) := hu 12 (by kernel_rfl)
          clear hd hu
          go_simp
          exact HR.out _ _ (Below.refl _ _) rfl
        case s17 =>
          refine Grow.step_on (g := 14) (b := true) (d := 82) (by rfl) (by rfl) (by rfl) (by kernel_rfl) (fun v W h => h) ?_
          intro E W ec eg ef hG hd hu R HR
          have e84 : E (.tmp 84) = .int .i64 (N : Int) := hd 16 84 (by kernel_rfl)
          clear hd hu
          go_simp
          rw [IntWalk.i64_in ((N : Int) + 1) (by have := HN.out.2.1; omega)]
          exact HR.out _ _ (Below.refl _ _) rfl
        case s18 =>
          refine Grow.step_on (g := 14) (b := true) (d := 82) (by rfl) (by rfl) (by rfl) (by kernel_rfl) (fun v W h => h) ?_
          intro E W ec eg ef hG hd hu R HR
          have e13 : E (.tmp 13) = .int .i64 (p : Int) := hu 13 (by kernel_rfl)
          clear hd hu
          go_simp
          exact HR.out _ _ (Below.refl _ _) rfl
        case s19 =>
          refine Grow.step_on (g := 14) (b := true) (d := 82) (by rfl) (by rfl) (by rfl) (by kernel_rfl) (fun v W h => h) ?_
          intro E W ec eg ef hG hd hu R HR
          have e18 : E (.tmp 18) = .slice (some ⟨g, 0, none⟩) n1 c3 := hu 18 (by kernel_rfl)
          clear hd hu
          go_simp
          exact HR.out _ _ (Below.refl _ _) rfl
        case s20 =>
          refine Grow.step_on (g := 14) (b := true) (d := 82) (by rfl) (by rfl) (by rfl) (by kernel_rfl) (fun v W h => h) ?_
          intro E W ec eg ef hG hd hu R HR
          have e15 : E (.tmp 15) = .slice A2 n2 c2 := hu 15 (by kernel_rfl)
          clear hd hu
          go_simp
          exact HR.out _ _ (Below.refl _ _) rfl
        case s21 =>
          refine Grow.step_on (g := 14) (b := true) (d := 82) (by rfl) (by rfl) (by rfl) (by kernel_rfl) (fun v W h => h) ?_
          intro E W ec eg ef hG hd hu R HR
          have e83 : E (.tmp 83) = .agg RS := hd 15 83 (by kernel_rfl)
          have e85 : E (.tmp 85) = .int .i64 ((N : Int) + 1) := hd 17 85 (by kernel_rfl)
          have e86 : E (.tmp 86) = .int .i64 (p : Int) := hd 18 86 (by kernel_rfl)
          have e87 : E (.tmp 87) = .slice (some ⟨g, 0, none⟩) n1 c3 := hd 19 87 (by kernel_rfl)
          have e88 : E (.tmp 88) = .slice A2 n2 c2 := hd 20 88 (by kernel_rfl)
          clear hd hu
          go_simp
          rw [HRS.out.1]
          refine (check_any (rootL b) (crownD_length _ _) ((N : Int) + 1) (p : Int) (by have := HN.out.2.1; omega) (HD.out.2.1.below hG) (HD.out.2.2.1.below hG) (HD.out.2.2.2.below hG)).mono ?_
          rintro _ w' ⟨rfl, hb⟩
          exact ⟨_, rfl, HR.out _ _ hb (show Value.int _ _ = Value.int _ V2 by rw [HV2.out])⟩
        case s22 =>
          refine Grow.step_on (g := 14) (b := true) (d := 82) (by rfl) (by rfl) (by rfl) (by kernel_rfl) (fun v W h => h) ?_
          intro E W ec eg ef hG hd hu R HR
          have e17 : E (.tmp 17) = .pointer (some ⟨w2.heap.size, 0, none⟩) := hu 17 (by kernel_rfl)
          clear hd hu
          exact runs_load 31 (.tmp 17) rfl (w2.heap.size) e17 RS (0, 0) ((hG.block _ (lt_of_cells HD.out.1)).trans HD.out.1) Tryd.underlying31 (by rw [HRS.out.2.1]; exact id_info) (HR.out _ _ (Below.refl _ _) rfl)
        case s23 =>
          refine Grow.step_on (g := 14) (b := true) (d := 82) (by rfl) (by rfl) (by rfl) (by kernel_rfl) (fun v W h => h) ?_
          intro E W ec eg ef hG hd hu R HR
          have e12 : E (.tmp 12) = .int .i64 (N : Int) := hu 12 (by kernel_rfl)
          clear hd hu
          go_simp
          exact HR.out _ _ (Below.refl _ _) rfl
        case s24 =>
          refine Grow.step_on (g := 14) (b := true) (d := 82) (by rfl) (by rfl) (by rfl) (by kernel_rfl) (fun v W h => h) ?_
          intro E W ec eg ef hG hd hu R HR
          have e91 : E (.tmp 91) = .int .i64 (N : Int) := hd 23 91 (by kernel_rfl)
          clear hd hu
          go_simp
          rw [IntWalk.i64_in ((N : Int) + 1) (by have := HN.out.2.1; omega)]
          exact HR.out _ _ (Below.refl _ _) rfl
        case s25 =>
          refine Grow.step_on (g := 14) (b := true) (d := 82) (by rfl) (by rfl) (by rfl) (by kernel_rfl) (fun v W h => h) ?_
          intro E W ec eg ef hG hd hu R HR
          have e13 : E (.tmp 13) = .int .i64 (p : Int) := hu 13 (by kernel_rfl)
          clear hd hu
          go_simp
          exact HR.out _ _ (Below.refl _ _) rfl
        case s26 =>
          refine Grow.step_on (g := 14) (b := true) (d := 82) (by rfl) (by rfl) (by rfl) (by kernel_rfl) (fun v W h => h) ?_
          intro E W ec eg ef hG hd hu R HR
          have e18 : E (.tmp 18) = .slice (some ⟨g, 0, none⟩) n1 c3 := hu 18 (by kernel_rfl)
          clear hd hu
          go_simp
          exact HR.out _ _ (Below.refl _ _) rfl
        case s27 =>
          refine Grow.step_on (g := 14) (b := true) (d := 82) (by rfl) (by rfl) (by rfl) (by kernel_rfl) (fun v W h => h) ?_
          intro E W ec eg ef hG hd hu R HR
          have e94 : E (.tmp 94) = .slice (some ⟨g, 0, none⟩) n1 c3 := hd 26 94 (by kernel_rfl)
          clear hd hu
          have hs := byt_string (HD.out.2.1.below hG)
          go_simp
          exact HR.out _ _ (Below.refl _ _) rfl
        case s28 =>
          refine Grow.step_on (g := 14) (b := true) (d := 82) (by rfl) (by rfl) (by rfl) (by kernel_rfl) (fun v W h => h) ?_
          intro E W ec eg ef hG hd hu R HR
          have e15 : E (.tmp 15) = .slice A2 n2 c2 := hu 15 (by kernel_rfl)
          clear hd hu
          go_simp
          exact HR.out _ _ (Below.refl _ _) rfl
        case s29 =>
          refine Grow.step_on (g := 14) (b := true) (d := 82) (by rfl) (by rfl) (by rfl) (by kernel_rfl) (fun v W h => h) ?_
          intro E W ec eg ef hG hd hu R HR
          have e90 : E (.tmp 90) = .agg RS := hd 22 90 (by kernel_rfl)
          have e92 : E (.tmp 92) = .int .i64 ((N : Int) + 1) := hd 24 92 (by kernel_rfl)
          have e93 : E (.tmp 93) = .int .i64 (p : Int) := hd 25 93 (by kernel_rfl)
          have e95 : E (.tmp 95) = .string (st L3) := hd 27 95 (by kernel_rfl)
          have e96 : E (.tmp 96) = .slice A2 n2 c2 := hd 28 96 (by kernel_rfl)
          clear hd hu
          go_simp
          rw [HRS.out.1]
          refine (rcheck_any (rootL b) (crownD_length _ _) ((N : Int) + 1) (p : Int) (by have := HN.out.2.1; omega) (by have := HL3.out; omega) (HD.out.2.2.1.below hG)).mono ?_
          rintro _ w' ⟨rfl, hb⟩
          exact ⟨_, rfl, HR.out _ _ hb (show Value.int _ _ = Value.int _ V2 by rw [HV2.out])⟩
        case s30 =>
          refine Grow.step_on (g := 14) (b := true) (d := 82) (by rfl) (by rfl) (by rfl) (by kernel_rfl) (fun v W h => h) ?_
          intro E W ec eg ef hG hd hu R HR
          have e89 : E (.tmp 89) = .int .i64 V2 := hd 21 89 (by kernel_rfl)
          have e97 : E (.tmp 97) = .int .i64 V2 := hd 29 97 (by kernel_rfl)
          clear hd hu
          go_simp
          exact HR.out _ _ (Below.refl _ _) rfl
        case s31 =>
          refine Grow.step_in (by rfl) (by rfl) ?_
          intro E W ec eg ef hG hd hu R HR
          have e82 : E (.tmp 82) = .bool true := hd 14 82 (by kernel_rfl)
          have e98 : E (.tmp 98) = .bool true := hd 30 98 (by kernel_rfl)
          clear hd hu
          go_simp
          exact HR.out _ _ (Below.refl _ _) rfl
        case s32 =>
          refine Grow.step_in (by rfl) (by rfl) ?_
          intro E W ec eg ef hG hd hu R HR
          have e99 : E (.tmp 99) = .bool true := hd 31 99 (by kernel_rfl)
          clear hd hu
          go_simp
          exact HR.out _ _ (Below.refl _ _) rfl
      case gfin =>
        intro W hG
        refine Grow.fin_dst (by rfl) ?_
        rintro _ rfl
        refine Grow.fin_dst (by rfl) ?_
        rintro _ rfl
        refine Grow.fin_dst (by rfl) ?_
        rintro _ rfl
        refine Grow.fin_dst (by rfl) ?_
        rintro _ rfl
        refine Grow.fin_dst (by rfl) ?_
        rintro _ rfl
        refine Grow.fin_dst (by rfl) ?_
        rintro _ rfl
        refine Grow.fin_dst (by rfl) ?_
        rintro _ rfl
        refine Grow.fin_dst (by rfl) ?_
        rintro _ rfl
        refine Grow.fin_dst (by rfl) ?_
        rintro _ rfl
        refine Grow.fin_dst (by rfl) ?_
        rintro _ rfl
        refine Grow.fin_dst (by rfl) ?_
        rintro _ rfl
        refine Grow.fin_dst (by rfl) ?_
        rintro _ rfl
        refine Grow.fin_dst (by rfl) ?_
        rintro _ rfl
        refine Grow.fin_dst (by rfl) ?_
        rintro _ rfl
        refine Grow.fin_dst (by rfl) ?_
        rintro _ rfl
        refine Grow.fin_dst (by rfl) ?_
        rintro _ rfl
        refine Grow.fin_dst (by rfl) ?_
        rintro _ rfl
        refine Grow.fin_dst (by rfl) ?_
        rintro _ rfl
        refine Grow.fin_dst (by rfl) ?_
        rintro _ rfl
        refine Grow.fin_dst (by rfl) ?_
        rintro _ rfl
        refine Grow.fin_dst (by rfl) ?_
        rintro _ rfl
        refine Grow.fin_dst (by rfl) ?_
        rintro _ rfl
        refine Grow.fin_dst (by rfl) ?_
        rintro _ rfl
        refine Grow.fin_dst (by rfl) ?_
        rintro _ rfl
        refine Grow.fin_dst (by rfl) ?_
        rintro _ rfl
        refine Grow.fin_dst (by rfl) ?_
        rintro _ rfl
        refine Grow.fin_dst (by rfl) ?_
        rintro _ rfl
        refine Grow.fin_dst (by rfl) ?_
        rintro _ rfl
        refine Grow.fin_dst (by rfl) ?_
        rintro _ rfl
        refine Grow.fin_dst (by rfl) ?_
        rintro _ rfl
        refine Grow.fin_dst (by rfl) ?_
        rintro _ rfl
        refine Grow.fin_dst (by rfl) ?_
        rintro _ rfl
        refine Grow.fin_dst (by rfl) ?_
        rintro _ rfl
        simp only [Act.put, List.setIfInBounds_toArray, List.set_cons_zero, List.set_cons_succ]
        refine Grow.fin_end ?_
        have HBW := Lib.hid (H8.out.1.trans ((Grow.below_of_drew hG).mono H8.out.1.size))
        clear hG
        go_wp2_with fail
        go_ret
        exact ⟨rfl, HBW.out⟩
    · obtain rfl : n1 = 0 := by omega
      have HL3 : Hid (l1.length ≤ 64) := HLE
      clear ha
      go_wp2_with (first
        | (go_at_call 12; refine hro.mono ?_; clear hro; rintro _ w2 ⟨rfl, hb2⟩
           have HG := Lib.hid (heap_alloc_new w2 (.cells zerosId 31))
           have hb23 : Below w2.heap.size w2 ((w2.alloc (.cells zerosId 31)).setRow w2.heap.size RS) := below_setRow ((Below.refl _ _).alloc (Nat.le_refl _) _) (Nat.le_refl _) _
           have hb43 := hb2.trans (hb23.mono hb2.size)
           have hset := setRow_at (new := RS) HG.out
           have H3 : Hid (((w2.alloc (.cells zerosId 31)).setRow w2.heap.size RS).heap[w2.heap.size]? = some (.cells RS 31 (0, 0)) ∧ Below w4.heap.size w4 ((w2.alloc (.cells zerosId 31)).setRow w2.heap.size RS) ∧ w4.heap.size ≤ w2.heap.size) := Lib.hid ⟨hset, hb43, hb2.size⟩
           clear hb2 hb23 hb43 hset)
        | (refine wpList_store_row (by rfl) 31 (.tmp 17) (.tmp 39) (by rfl) w2.heap.size RS (by rfl) (by rfl) 31 zerosId HG.out (by rw [HRS.out.2.1]; exact id_info) (by rw [HRS.out.2.1]; rfl) HRS.out.2.2 ?_
           clear HG
           generalize (w2.alloc (.cells zerosId 31)).setRow w2.heap.size RS = w3 at H3 ⊢
           have hck := check_any (rootL b) (crownD_length _ _) (N : Int) (p : Int) (by have := HN.out.2.1; omega) (H4.out.1.below H3.out.2.1) (H4.out.2.1.below H3.out.2.1) (HH0.out.2.below (H4.out.2.2.trans (H3.out.2.1.mono H4.out.2.2.size)))
           rw [← HRS.out.1, HCK.out] at hck)
        | (refine wpList_load_row_on (by rfl) 31 (.tmp 17) (by rfl) w2.heap.size (by rfl) 31 RS (0, 0) _ H3.out.1 Tryd.underlying31 (by rfl) (by rw [HRS.out.2.1]; exact id_info) ?_)
        | (go_at_call 17; refine hck.mono ?_; clear hck; rintro _ w6 ⟨rfl, hb6⟩
           have hb46 := H3.out.2.1.trans (hb6.mono H3.out.2.1.size)
           have hb06 := H4.out.2.2.trans (hb46.mono H4.out.2.2.size)
           have hx6 := (hb6.block _ (lt_of_cells H3.out.1)).trans H3.out.1
           obtain ⟨A3, c3, w7, hrun, hown, hb7⟩ := append_none (H4.out.1.below hb46) (by omega) 22
           skip
           have hb07 := hb06.trans (hb7.mono hb06.size)
           have HO7 : Hid (w7.ownsRow w6.heap.size 5 1 (.slice A3 0 c3) 0 (u8s l1) ∧ Below w.heap.size w w7 ∧ w7.heap[w2.heap.size]? = some (.cells RS 31 (0, 0)) ∧ Ids w7 (w1.heap.size ≤ ·) A2 n2 c2 y1 ∧ w2.heap.size < w6.heap.size ∧ w.heap.size ≤ w6.heap.size ∧ Ids w6 (w1.heap.size ≤ ·) A2 n2 c2 y1 ∧ Below w6.heap.size w6 w7) := Lib.hid ⟨hown, hb07, (hb7.block _ (lt_of_cells hx6)).trans hx6, (H4.out.2.1.below hb46).below hb7, lt_of_cells hx6, hb06.size, H4.out.2.1.below hb46, hb7⟩
           skip
           clear hb6 hb46 hb06 hx6 hown hb7 hb07)
        | (at_builtin; refine wpList_app (by rfl) _ _ 22 (by rfl) (by rfl) (by rfl) hrun ?_; clear hrun))
      have H8 : Hid (Below w.heap.size w w7 ∧ w7.heap[w2.heap.size]? = some (.cells RS 31 (0, 0)) ∧ Byt w7 (w6.heap.size ≤ ·) A3 0 c3 l1 ∧ Ids w7 (w1.heap.size ≤ ·) A2 n2 c2 y1) := Lib.hid ⟨HO7.out.2.1, HO7.out.2.2.1, own_byt_at HO7.out.1, HO7.out.2.2.2.1⟩
      obtain ⟨V1, hV1⟩ : ∃ V, V = checkL (rootL b) (N : Int) o l1 y1 := ⟨_, rfl⟩
      obtain ⟨V2, hV2⟩ : ∃ V, V = checkL (rootL b) ((N : Int) + 1) (p : Int) l1 y1 := ⟨_, rfl⟩
      have HV1 := Lib.hid hV1
      have HV2 := Lib.hid hV2
      have HN1 := Lib.hid (IntWalk.i64_in ((N : Int) + 1) (by have := HN.out.2.1; omega))
      have HD : Hid (w7.drew.heap[w2.heap.size]? = some (.cells RS 31 (0, 0)) ∧ Byt w7.drew (w6.heap.size ≤ ·) A3 0 c3 l1 ∧ Ids w7.drew (w1.heap.size ≤ ·) A2 n2 c2 y1 ∧ Tab w7.drew) := Lib.hid ⟨H8.out.2.1, H8.out.2.2.1.drew, H8.out.2.2.2.drew, (HH0.out.2.below H8.out.1).drew⟩
      clear hV1 hV2
      refine wp_region_grow (fun W W' => Below W.heap.size W W') (Grow.nth [fun v _ => v = .agg RS, fun v _ => v = .int .i64 (N : Int), fun v _ => v = .int .i64 o, fun v _ => v = .slice A3 0 c3, fun v _ => v = .slice A2 n2 c2, fun v _ => v = .int .i64 V1, fun v _ => v = .agg RS, fun v _ => v = .int .i64 (N : Int), fun v _ => v = .int .i64 o, fun v _ => v = .slice A3 0 c3, fun v _ => v = .string (st l1), fun v _ => v = .slice A2 n2 c2, fun v _ => v = .int .i64 V1, fun v _ => v = .bool true, fun v _ => v = .bool true, fun v _ => v = .agg RS, fun v _ => v = .int .i64 (N : Int), fun v _ => v = .int .i64 ((N : Int) + 1), fun v _ => v = .int .i64 (p : Int), fun v _ => v = .slice A3 0 c3, fun v _ => v = .slice A2 n2 c2, fun v _ => v = .int .i64 V2, fun v _ => v = .agg RS, fun v _ => v = .int .i64 (N : Int), fun v _ => v = .int .i64 ((N : Int) + 1), fun v _ => v = .int .i64 (p : Int), fun v _ => v = .slice A3 0 c3, fun v _ => v = .string (st l1), fun v _ => v = .slice A2 n2 c2, fun v _ => v = .int .i64 V2, fun v _ => v = .bool true, fun v _ => v = .bool true, fun v _ => v = .bool true]) 100 (by kernel_rfl) (by kernel_rfl) (by rfl) (fun W => Below.refl _ W) (fun _ _ _ h1 h2 => h1.trans (h2.mono h1.size)) (Grow.mono_nth ?gmono) ?gsteps ?gfin
      case gmono => exact ⟨fun _ _ _ h _ => h, fun _ _ _ h _ => h, fun _ _ _ h _ => h, fun _ _ _ h _ => h, fun _ _ _ h _ => h, fun _ _ _ h _ => h, fun _ _ _ h _ => h, fun _ _ _ h _ => h, fun _ _ _ h _ => h, fun _ _ _ h _ => h, fun _ _ _ h _ => h, fun _ _ _ h _ => h, fun _ _ _ h _ => h, fun _ _ _ h _ => h, fun _ _ _ h _ => h, fun _ _ _ h _ => h, fun _ _ _ h _ => h, fun _ _ _ h _ => h, fun _ _ _ h _ => h, fun _ _ _ h _ => h, fun _ _ _ h _ => h, fun _ _ _ h _ => h, fun _ _ _ h _ => h, fun _ _ _ h _ => h, fun _ _ _ h _ => h, fun _ _ _ h _ => h, fun _ _ _ h _ => h, fun _ _ _ h _ => h, fun _ _ _ h _ => h, fun _ _ _ h _ => h, fun _ _ _ h _ => h, fun _ _ _ h _ => h, fun _ _ _ h _ => h, trivial⟩
      case gsteps =>
        show Grow.allBelow _ 33
        refine And.intro ?_ ?s32
        refine And.intro ?_ ?s31
        refine And.intro ?_ ?s30
        refine And.intro ?_ ?s29
        refine And.intro ?_ ?s28
        refine And.intro ?_ ?s27
        refine And.intro ?_ ?s26
        refine And.intro ?_ ?s25
        refine And.intro ?_ ?s24
        refine And.intro ?_ ?s23
        refine And.intro ?_ ?s22
        refine And.intro ?_ ?s21
        refine And.intro ?_ ?s20
        refine And.intro ?_ ?s19
        refine And.intro ?_ ?s18
        refine And.intro ?_ ?s17
        refine And.intro ?_ ?s16
        refine And.intro ?_ ?s15
        refine And.intro ?_ ?s14
        refine And.intro ?_ ?s13
        refine And.intro ?_ ?s12
        refine And.intro ?_ ?s11
        refine And.intro ?_ ?s10
        refine And.intro ?_ ?s9
        refine And.intro ?_ ?s8
        refine And.intro ?_ ?s7
        refine And.intro ?_ ?s6
        refine And.intro ?_ ?s5
        refine And.intro ?_ ?s4
        refine And.intro ?_ ?s3
        refine And.intro ?_ ?s2
        refine And.intro ?_ ?s1
        refine And.intro ?_ ?s0
        exact trivial
        case s0 =>
          refine Grow.step_in (by rfl) (by rfl) ?_
          intro E W ec eg ef hG hd hu R HR
          have e17 : E (.tmp 17) = .pointer (some ⟨w2.heap.size, 0, none⟩) := hu 17 (by kernel_rfl)
          clear hd hu
          exact runs_load 31 (.tmp 17) rfl (w2.heap.size) e17 RS (0, 0) ((hG.block _ (lt_of_cells HD.out.1)).trans HD.out.1) Tryd.underlying31 (by rw [HRS.out.2.1]; exact id_info) (HR.out _ _ (Below.refl _ _) rfl)
        case s1 =>
          refine Grow.step_in (by rfl) (by rfl) ?_
          intro E W ec eg ef hG hd hu R HR
          have e12 : E (.tmp 12) = .int .i64 (N : Int) := hu 12 (by kernel_rfl)
          clear hd hu
          go_simp
          exact HR.out _ _ (Below.refl _ _) rfl
        case s2 =>
          refine Grow.step_in (by rfl) (by rfl) ?_
          intro E W ec eg ef hG hd hu R HR
          have e4 : E (.tmp 4) = .int .i64 o := hu 4 (by kernel_rfl)
          clear hd hu
          go_simp
          exact HR.out _ _ (Below.refl _ _) rfl
        case s3 =>
          refine Grow.step_in (by rfl) (by rfl) ?_
          intro E W ec eg ef hG hd hu R HR
          have e18 : E (.tmp 18) = .slice A3 0 c3 := hu 18 (by kernel_rfl)
          clear hd hu
          go_simp
          exact HR.out _ _ (Below.refl _ _) rfl
        case s4 =>
          refine Grow.step_in (by rfl) (by rfl) ?_
          intro E W ec eg ef hG hd hu R HR
          have e15 : E (.tmp 15) = .slice A2 n2 c2 := hu 15 (by kernel_rfl)
          clear hd hu
          go_simp
          exact HR.out _ _ (Below.refl _ _) rfl
        case s5 =>
          refine Grow.step_in (by rfl) (by rfl) ?_
          intro E W ec eg ef hG hd hu R HR
          have e68 : E (.tmp 68) = .agg RS := hd 0 68 (by kernel_rfl)
          have e69 : E (.tmp 69) = .int .i64 (N : Int) := hd 1 69 (by kernel_rfl)
          have e70 : E (.tmp 70) = .int .i64 o := hd 2 70 (by kernel_rfl)
          have e71 : E (.tmp 71) = .slice A3 0 c3 := hd 3 71 (by kernel_rfl)
          have e72 : E (.tmp 72) = .slice A2 n2 c2 := hd 4 72 (by kernel_rfl)
          clear hd hu
          go_simp
          rw [HRS.out.1]
          refine (check_any (rootL b) (crownD_length _ _) (N : Int) o (by have := HN.out.2.1; omega) (HD.out.2.1.below hG) (HD.out.2.2.1.below hG) (HD.out.2.2.2.below hG)).mono ?_
          rintro _ w' ⟨rfl, hb⟩
          exact ⟨_, rfl, HR.out _ _ hb (show Value.int _ _ = Value.int _ V1 by rw [HV1.out])⟩
        case s6 =>
          refine Grow.step_in (by rfl) (by rfl) ?_
          intro E W ec eg ef hG hd hu R HR
          have e17 : E (.tmp 17) = .pointer (some ⟨w2.heap.size, 0, none⟩) := hu 17 (by kernel_rfl)
          clear hd hu
          exact runs_load 31 (.tmp 17) rfl (w2.heap.size) e17 RS (0, 0) ((hG.block _ (lt_of_cells HD.out.1)).trans HD.out.1) Tryd.underlying31 (by rw [HRS.out.2.1]; exact id_info) (HR.out _ _ (Below.refl _ _) rfl)
        case s7 =>
          refine Grow.step_in (by rfl) (by rfl) ?_
          intro E W ec eg ef hG hd hu R HR
          have e12 : E (.tmp 12) = .int .i64 (N : Int) := hu 12 (by kernel_rfl)
          clear hd hu
          go_simp
          exact HR.out _ _ (Below.refl _ _) rfl
        case s8 =>
          refine Grow.step_in (by rfl) (by rfl) ?_
          intro E W ec eg ef hG hd hu R HR
          have e4 : E (.tmp 4) = .int .i64 o := hu 4 (by kernel_rfl)
          clear hd hu
          go_simp
          exact HR.out _ _ (Below.refl _ _) rfl
        case s9 =>
          refine Grow.step_in (by rfl) (by rfl) ?_
          intro E W ec eg ef hG hd hu R HR
          have e18 : E (.tmp 18) = .slice A3 0 c3 := hu 18 (by kernel_rfl)
          clear hd hu
          go_simp
          exact HR.out _ _ (Below.refl _ _) rfl
        case s10 =>
          refine Grow.step_in (by rfl) (by rfl) ?_
          intro E W ec eg ef hG hd hu R HR
          have e77 : E (.tmp 77) = .slice A3 0 c3 := hd 9 77 (by kernel_rfl)
          clear hd hu
          have hs := byt_string (HD.out.2.1.below hG)
          go_simp
          exact HR.out _ _ (Below.refl _ _) rfl
        case s11 =>
          refine Grow.step_in (by rfl) (by rfl) ?_
          intro E W ec eg ef hG hd hu R HR
          have e15 : E (.tmp 15) = .slice A2 n2 c2 := hu 15 (by kernel_rfl)
          clear hd hu
          go_simp
          exact HR.out _ _ (Below.refl _ _) rfl
        case s12 =>
          refine Grow.step_in (by rfl) (by rfl) ?_
          intro E W ec eg ef hG hd hu R HR
          have e74 : E (.tmp 74) = .agg RS := hd 6 74 (by kernel_rfl)
          have e75 : E (.tmp 75) = .int .i64 (N : Int) := hd 7 75 (by kernel_rfl)
          have e76 : E (.tmp 76) = .int .i64 o := hd 8 76 (by kernel_rfl)
          have e78 : E (.tmp 78) = .string (st l1) := hd 10 78 (by kernel_rfl)
          have e79 : E (.tmp 79) = .slice A2 n2 c2 := hd 11 79 (by kernel_rfl)
          clear hd hu
          go_simp
          rw [HRS.out.1]
          refine (rcheck_any (rootL b) (crownD_length _ _) (N : Int) o (by have := HN.out.2.1; omega) (by have := HL3.out; omega) (HD.out.2.2.1.below hG)).mono ?_
          rintro _ w' ⟨rfl, hb⟩
          exact ⟨_, rfl, HR.out _ _ hb (show Value.int _ _ = Value.int _ V1 by rw [HV1.out])⟩
        case s13 =>
          refine Grow.step_in (by rfl) (by rfl) ?_
          intro E W ec eg ef hG hd hu R HR
          have e73 : E (.tmp 73) = .int .i64 V1 := hd 5 73 (by kernel_rfl)
          have e80 : E (.tmp 80) = .int .i64 V1 := hd 12 80 (by kernel_rfl)
          clear hd hu
          go_simp
          exact HR.out _ _ (Below.refl _ _) rfl
        case s14 =>
          refine Grow.step_in (by rfl) (by rfl) ?_
          intro E W ec eg ef hG hd hu R HR
          have e81 : E (.tmp 81) = .bool true := hd 13 81 (by kernel_rfl)
          clear hd hu
          go_simp
          exact HR.out _ _ (Below.refl _ _) rfl
        case s15 =>
          refine Grow.step_on (g := 14) (b := true) (d := 82) (by rfl) (by rfl) (by rfl) (by kernel_rfl) (fun v W h => h) ?_
          intro E W ec eg ef hG hd hu R HR
          have e17 : E (.tmp 17) = .pointer (some ⟨w2.heap.size, 0, none⟩) := hu 17 (by kernel_rfl)
          clear hd hu
          exact runs_load 31 (.tmp 17) rfl (w2.heap.size) e17 RS (0, 0) ((hG.block _ (lt_of_cells HD.out.1)).trans HD.out.1) Tryd.underlying31 (by rw [HRS.out.2.1]; exact id_info) (HR.out _ _ (Below.refl _ _) rfl)
        case s16 =>
          refine Grow.step_on (g := 14) (b := true) (d := 82) (by rfl) (by rfl) (by rfl) (by kernel_rfl) (fun v W h => h) ?_
          intro E W ec eg ef hG hd hu R HR
          have e12 : E (.tmp 12) = .int .i64 (N : Int) := hu 12 (by kernel_rfl)
          clear hd hu
          go_simp
          exact HR.out _ _ (Below.refl _ _) rfl
        case s17 =>
          refine Grow.step_on (g := 14) (b := true) (d := 82) (by rfl) (by rfl) (by rfl) (by kernel_rfl) (fun v W h => h) ?_
          intro E W ec eg ef hG hd hu R HR
          have e84 : E (.tmp 84) = .int .i64 (N : Int) := hd 16 84 (by kernel_rfl)
          clear hd hu
          go_simp
          rw [IntWalk.i64_in ((N : Int) + 1) (by have := HN.out.2.1; omega)]
          exact HR.out _ _ (Below.refl _ _) rfl
        case s18 =>
          refine Grow.step_on (g := 14) (b := true) (d := 82) (by rfl) (by rfl) (by rfl) (by kernel_rfl) (fun v W h => h) ?_
          intro E W ec eg ef hG hd hu R HR
          have e13 : E (.tmp 13) = .int .i64 (p : Int) := hu 13 (by kernel_rfl)
          clear hd hu
          go_simp
          exact HR.out _ _ (Below.refl _ _) rfl
        case s19 =>
          refine Grow.step_on (g := 14) (b := true) (d := 82) (by rfl) (by rfl) (by rfl) (by kernel_rfl) (fun v W h => h) ?_
          intro E W ec eg ef hG hd hu R HR
          have e18 : E (.tmp 18) = .slice A3 0 c3 := hu 18 (by kernel_rfl)
          clear hd hu
          go_simp
          exact HR.out _ _ (Below.refl _ _) rfl
        case s20 =>
          refine Grow.step_on (g := 14) (b := true) (d := 82) (by rfl) (by rfl) (by rfl) (by kernel_rfl) (fun v W h => h) ?_
          intro E W ec eg ef hG hd hu R HR
          have e15 : E (.tmp 15) = .slice A2 n2 c2 := hu 15 (by kernel_rfl)
          clear hd hu
          go_simp
          exact HR.out _ _ (Below.refl _ _) rfl
        case s21 =>
          refine Grow.step_on (g := 14) (b := true) (d := 82) (by rfl) (by rfl) (by rfl) (by kernel_rfl) (fun v W h => h) ?_
          intro E W ec eg ef hG hd hu R HR
          have e83 : E (.tmp 83) = .agg RS := hd 15 83 (by kernel_rfl)
          have e85 : E (.tmp 85) = .int .i64 ((N : Int) + 1) := hd 17 85 (by kernel_rfl)
          have e86 : E (.tmp 86) = .int .i64 (p : Int) := hd 18 86 (by kernel_rfl)
          have e87 : E (.tmp 87) = .slice A3 0 c3 := hd 19 87 (by kernel_rfl)
          have e88 : E (.tmp 88) = .slice A2 n2 c2 := hd 20 88 (by kernel_rfl)
          clear hd hu
          go_simp
          rw [HRS.out.1]
          refine (check_any (rootL b) (crownD_length _ _) ((N : Int) + 1) (p : Int) (by have := HN.out.2.1; omega) (HD.out.2.1.below hG) (HD.out.2.2.1.below hG) (HD.out.2.2.2.below hG)).mono ?_
          rintro _ w' ⟨rfl, hb⟩
          exact ⟨_, rfl, HR.out _ _ hb (show Value.int _ _ = Value.int _ V2 by rw [HV2.out])⟩
        case s22 =>
          refine Grow.step_on (g := 14) (b := true) (d := 82) (by rfl) (by rfl) (by rfl) (by kernel_rfl) (fun v W h => h) ?_
          intro E W ec eg ef hG hd hu R HR
          have e17 : E (.tmp 17) = .pointer (some ⟨w2.heap.size, 0, none⟩) := hu 17 (by kernel_rfl)
          clear hd hu
          exact runs_load 31 (.tmp 17) rfl (w2.heap.size) e17 RS (0, 0) ((hG.block _ (lt_of_cells HD.out.1)).trans HD.out.1) Tryd.underlying31 (by rw [HRS.out.2.1]; exact id_info) (HR.out _ _ (Below.refl _ _) rfl)
        case s23 =>
          refine Grow.step_on (g := 14) (b := true) (d := 82) (by rfl) (by rfl) (by rfl) (by kernel_rfl) (fun v W h => h) ?_
          intro E W ec eg ef hG hd hu R HR
          have e12 : E (.tmp 12) = .int .i64 (N : Int) := hu 12 (by kernel_rfl)
          clear hd hu
          go_simp
          exact HR.out _ _ (Below.refl _ _) rfl
        case s24 =>
          refine Grow.step_on (g := 14) (b := true) (d := 82) (by rfl) (by rfl) (by rfl) (by kernel_rfl) (fun v W h => h) ?_
          intro E W ec eg ef hG hd hu R HR
          have e91 : E (.tmp 91) = .int .i64 (N : Int) := hd 23 91 (by kernel_rfl)
          clear hd hu
          go_simp
          rw [IntWalk.i64_in ((N : Int) + 1) (by have := HN.out.2.1; omega)]
          exact HR.out _ _ (Below.refl _ _) rfl
        case s25 =>
          refine Grow.step_on (g := 14) (b := true) (d := 82) (by rfl) (by rfl) (by rfl) (by kernel_rfl) (fun v W h => h) ?_
          intro E W ec eg ef hG hd hu R HR
          have e13 : E (.tmp 13) = .int .i64 (p : Int) := hu 13 (by kernel_rfl)
          clear hd hu
          go_simp
          exact HR.out _ _ (Below.refl _ _) rfl
        case s26 =>
          refine Grow.step_on (g := 14) (b := true) (d := 82) (by rfl) (by rfl) (by rfl) (by kernel_rfl) (fun v W h => h) ?_
          intro E W ec eg ef hG hd hu R HR
          have e18 : E (.tmp 18) = .slice A3 0 c3 := hu 18 (by kernel_rfl)
          clear hd hu
          go_simp
          exact HR.out _ _ (Below.refl _ _) rfl
        case s27 =>
          refine Grow.step_on (g := 14) (b := true) (d := 82) (by rfl) (by rfl) (by rfl) (by kernel_rfl) (fun v W h => h) ?_
          intro E W ec eg ef hG hd hu R HR
          have e94 : E (.tmp 94) = .slice A3 0 c3 := hd 26 94 (by kernel_rfl)
          clear hd hu
          have hs := byt_string (HD.out.2.1.below hG)
          go_simp
          exact HR.out _ _ (Below.refl _ _) rfl
        case s28 =>
          refine Grow.step_on (g := 14) (b := true) (d := 82) (by rfl) (by rfl) (by rfl) (by kernel_rfl) (fun v W h => h) ?_
          intro E W ec eg ef hG hd hu R HR
          have e15 : E (.tmp 15) = .slice A2 n2 c2 := hu 15 (by kernel_rfl)
          clear hd hu
          go_simp
          exact HR.out _ _ (Below.refl _ _) rfl
        case s29 =>
          refine Grow.step_on (g := 14) (b := true) (d := 82) (by rfl) (by rfl) (by rfl) (by kernel_rfl) (fun v W h => h) ?_
          intro E W ec eg ef hG hd hu R HR
          have e90 : E (.tmp 90) = .agg RS := hd 22 90 (by kernel_rfl)
          have e92 : E (.tmp 92) = .int .i64 ((N : Int) + 1) := hd 24 92 (by kernel_rfl)
          have e93 : E (.tmp 93) = .int .i64 (p : Int) := hd 25 93 (by kernel_rfl)
          have e95 : E (.tmp 95) = .string (st l1) := hd 27 95 (by kernel_rfl)
          have e96 : E (.tmp 96) = .slice A2 n2 c2 := hd 28 96 (by kernel_rfl)
          clear hd hu
          go_simp
          rw [HRS.out.1]
          refine (rcheck_any (rootL b) (crownD_length _ _) ((N : Int) + 1) (p : Int) (by have := HN.out.2.1; omega) (by have := HL3.out; omega) (HD.out.2.2.1.below hG)).mono ?_
          rintro _ w' ⟨rfl, hb⟩
          exact ⟨_, rfl, HR.out _ _ hb (show Value.int _ _ = Value.int _ V2 by rw [HV2.out])⟩
        case s30 =>
          refine Grow.step_on (g := 14) (b := true) (d := 82) (by rfl) (by rfl) (by rfl) (by kernel_rfl) (fun v W h => h) ?_
          intro E W ec eg ef hG hd hu R HR
          have e89 : E (.tmp 89) = .int .i64 V2 := hd 21 89 (by kernel_rfl)
          have e97 : E (.tmp 97) = .int .i64 V2 := hd 29 97 (by kernel_rfl)
          clear hd hu
          go_simp
          exact HR.out _ _ (Below.refl _ _) rfl
        case s31 =>
          refine Grow.step_in (by rfl) (by rfl) ?_
          intro E W ec eg ef hG hd hu R HR
          have e82 : E (.tmp 82) = .bool true := hd 14 82 (by kernel_rfl)
          have e98 : E (.tmp 98) = .bool true := hd 30 98 (by kernel_rfl)
          clear hd hu
          go_simp
          exact HR.out _ _ (Below.refl _ _) rfl
        case s32 =>
          refine Grow.step_in (by rfl) (by rfl) ?_
          intro E W ec eg ef hG hd hu R HR
          have e99 : E (.tmp 99) = .bool true := hd 31 99 (by kernel_rfl)
          clear hd hu
          go_simp
          exact HR.out _ _ (Below.refl _ _) rfl
      case gfin =>
        intro W hG
        refine Grow.fin_dst (by rfl) ?_
        rintro _ rfl
        refine Grow.fin_dst (by rfl) ?_
        rintro _ rfl
        refine Grow.fin_dst (by rfl) ?_
        rintro _ rfl
        refine Grow.fin_dst (by rfl) ?_
        rintro _ rfl
        refine Grow.fin_dst (by rfl) ?_
        rintro _ rfl
        refine Grow.fin_dst (by rfl) ?_
        rintro _ rfl
        refine Grow.fin_dst (by rfl) ?_
        rintro _ rfl
        refine Grow.fin_dst (by rfl) ?_
        rintro _ rfl
        refine Grow.fin_dst (by rfl) ?_
        rintro _ rfl
        refine Grow.fin_dst (by rfl) ?_
        rintro _ rfl
        refine Grow.fin_dst (by rfl) ?_
        rintro _ rfl
        refine Grow.fin_dst (by rfl) ?_
        rintro _ rfl
        refine Grow.fin_dst (by rfl) ?_
        rintro _ rfl
        refine Grow.fin_dst (by rfl) ?_
        rintro _ rfl
        refine Grow.fin_dst (by rfl) ?_
        rintro _ rfl
        refine Grow.fin_dst (by rfl) ?_
        rintro _ rfl
        refine Grow.fin_dst (by rfl) ?_
        rintro _ rfl
        refine Grow.fin_dst (by rfl) ?_
        rintro _ rfl
        refine Grow.fin_dst (by rfl) ?_
        rintro _ rfl
        refine Grow.fin_dst (by rfl) ?_
        rintro _ rfl
        refine Grow.fin_dst (by rfl) ?_
        rintro _ rfl
        refine Grow.fin_dst (by rfl) ?_
        rintro _ rfl
        refine Grow.fin_dst (by rfl) ?_
        rintro _ rfl
        refine Grow.fin_dst (by rfl) ?_
        rintro _ rfl
        refine Grow.fin_dst (by rfl) ?_
        rintro _ rfl
        refine Grow.fin_dst (by rfl) ?_
        rintro _ rfl
        refine Grow.fin_dst (by rfl) ?_
        rintro _ rfl
        refine Grow.fin_dst (by rfl) ?_
        rintro _ rfl
        refine Grow.fin_dst (by rfl) ?_
        rintro _ rfl
        refine Grow.fin_dst (by rfl) ?_
        rintro _ rfl
        refine Grow.fin_dst (by rfl) ?_
        rintro _ rfl
        refine Grow.fin_dst (by rfl) ?_
        rintro _ rfl
        refine Grow.fin_dst (by rfl) ?_
        rintro _ rfl
        simp only [Act.put, List.setIfInBounds_toArray, List.set_cons_zero, List.set_cons_succ]
        refine Grow.fin_end ?_
        have HBW := Lib.hid (H8.out.1.trans ((Grow.below_of_drew hG).mono H8.out.1.size))
        clear hG
        go_wp2_with fail
        go_ret
        exact ⟨rfl, HBW.out⟩
  · have hn' : (1000 : Int) < (n : Int) := by omega
    clear h ht
    go_enter Tryd.func5, Tryd.ntmps5
    go_wp2_with (go_at_call 9; refine haw.mono ?_; clear haw; rintro _ w1 ⟨rfl, hb1⟩)
    go_ret
    exact ⟨rfl, hb1⟩
end Go.Proofs.YtebhlfmianohlaaDoor
