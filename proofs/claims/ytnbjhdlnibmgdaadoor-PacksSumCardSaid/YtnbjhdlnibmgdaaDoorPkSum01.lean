/-
  append of bytes to a slice of bytes of the call's own, or to none.
  The law PacksSum.
  The statement PacksSum, proved: for every row of bytes and every byte the law returns true. No condition but that the digest's two tables hold what the program's text lays (the card ties them).
-/
import Derived.Test.YtnbjhdlnibmgdaaDoorPk03
import Derived.Test.YtnbjhdlnibmgdaaDoorPkPuts01
import Derived.Test.YtnbjhdlnibmgdaaDoorPk09
import Derived.Test.YtnbjhdlnibmgdaaDoorPk16
import Derived.Test.YtnbjhdlnibmgdaaDoorCards
import Derived.Test.YtnbjhdlnibmgdaaDoorTie
import Derived.SevenTiedAt
/-! append of bytes to a slice of bytes of the call's own, or to none. -/
namespace Go.Proofs.YtnbjhdlnibmgdaaDoor
open Go.RowKit

theorem append_any {W : World} {B k : Nat} {v : Value} {xs : List Value} (hown : W.ownsRow B 5 1 v k xs) {S : Nat → Prop} {A : Option Addr} {n c : Nat} {l : List UInt8} (h : Byt W S A n c l) (hb : k + n ≤ 1000000) (hB : B ≤ W.heap.size) (ty : TypeId) :
    ∃ v' W', (Builtin.append_ #[24, 24] ty #[v, .slice A n c]).run Tryd.prog W = .ok v' W' ∧ W'.ownsRow B 5 1 v' (k + n) (xs ++ u8s l) ∧ W.grownBy W' v.ownBlock := by
  obtain ⟨i0, hi, hz0, hz1, hz2⟩ := info_parts u8_info
  rcases A with _ | ad
  · obtain rfl : n = 0 := by
      rcases Nat.eq_zero_or_pos n with h0 | h0
      · exact h0
      · obtain ⟨_, _, hA, _⟩ := h.row h0
        cases hA
    obtain rfl : l = [] := List.eq_nil_of_length_eq_zero h.len
    have hv : ∃ A' c', v = .slice A' k c' ∧ k ≤ c' := by
      rcases hown.2 with ⟨rfl, h2⟩ | ⟨g, cap, cur, rfl, _, _, hn, _⟩
      · subst h2
        exact ⟨none, 0, rfl, Nat.le_refl _⟩
      · exact ⟨_, cap, rfl, hn⟩
    obtain ⟨A', c', rfl, hc⟩ := hv
    exact ⟨_, W, run_append_zero W 24 ty 5 i0 Tryd.underlying24 hi _ k c' c hc, by simpa [u8s] using hown, World.grownBy.refl _ _⟩
  · obtain ⟨v', W', hrun, r1, r2, _⟩ := run_append_own (P := Tryd.prog) W B 24 ty 5 i0 (.int .u8 0) 1 1 Tryd.underlying24 hi hz0 hz1 hz2 rfl (by decide) v k xs hown ad n c (u8s l) (by rw [u8s_length, h.len, Nat.mul_one]) (byt_news h) (u8s_one l) (by unfold maxLen; omega) (by omega) hB
    exact ⟨v', W', hrun, r1, r2⟩
theorem own_below_gr {W W' : World} {B : Nat} {e : TypeId} {size : Nat} {v : Value} {n : Nat} {xs : List Value} (h : W.ownsRow B e size v n xs) (hg : W.grownBy W' v.ownBlock) {w0 : World} (h0 : Below B w0 W) (hB : B ≤ W.heap.size) : Below B w0 W' :=
  h0.grown hg hB fun k hk => (h.lt k hk).1
theorem own_byt_any {w : World} {B : Nat} {e : TypeId} {v : Value} {n : Nat} {l : List UInt8} (h : w.ownsRow B e 1 v n (u8s l)) : ∃ A c, v = .slice A n c ∧ Byt w (B ≤ ·) A n c l := by
  have hl : l.length = n := by have := h.1; rw [u8s_length] at this; omega
  rcases h.2 with ⟨rfl, h2⟩ | ⟨g, cap, cur, rfl, _⟩
  · subst h2
    obtain rfl : l = [] := List.eq_nil_of_length_eq_zero hl
    exact ⟨none, 0, rfl, Byt.nil _ _ _ _ (Nat.zero_le _)⟩
  · exact ⟨_, cap, rfl, own_byt_at h⟩
end Go.Proofs.YtnbjhdlnibmgdaaDoor

/-! The law PacksSum. -/
namespace Go.Proofs.YtnbjhdlnibmgdaaDoor
open Go.RowKit Codec

theorem pks_one (b : List UInt8) : pkB [b] = put 1 ++ (put b.length ++ b) := by simp [pkB]
theorem pks_uint (R : List UInt8) : uiX (put 1 ++ R) 0 = 1 ∧ uiL (put 1 ++ R) 0 = R ∧ uiE (put 1 ++ R) 0 = 0 := pui_back 1 R (by omega)
theorem pgEnd_bad {r : List (List UInt8) × List UInt8 × Int} {E : Int} (h : endE r.2.1 r.2.2 = E) (h0 : E ≠ 0) : pgEnd r = ([], E) := by
  unfold pgEnd
  rw [if_pos (by rw [h]; exact h0), h]
/-- A byte less. -/
theorem pks_less {b : List UInt8} (h : putPE [b] = 0) (hb : b.length ≤ 300) : getPk ((pkB [b]).take ((pkB [b]).length - 1)) = ([], 10) := by
  obtain ⟨_, _, h3, _⟩ := putPE_ok h
  have h41 : 41 ≤ b.length := by
    have := List.all_eq_true.1 h3 b (by simp)
    unfold pkMay at this
    simp at this
    omega
  have hl := pkB_len [b]
  have he : (pkB [b]).take ((pkB [b]).length - 1) = put 1 ++ (put b.length ++ b.take (b.length - 1)) := by
    rw [pks_one, List.length_append, List.length_append, List.take_append, List.take_append, List.take_of_length_le (by omega), List.take_of_length_le (by omega)]
    congr 3
    omega
  rw [he]
  obtain ⟨e1, e2, e3⟩ := pks_uint (put b.length ++ b.take (b.length - 1))
  have hlen : (put 1 ++ (put b.length ++ b.take (b.length - 1))).length ≤ 1000 := by
    have p1 := put_length_64 (x := 1) (by omega)
    have p2 := put_length_64 (x := b.length) (by omega)
    rw [List.length_append, List.length_append, List.length_take]
    omega
  unfold getPk
  rw [if_neg (by omega), e1, e2, e3, if_neg (by simp), if_neg (by omega)]
  obtain ⟨f1, f2, f3⟩ := pui_back b.length (b.take (b.length - 1)) (by omega)
  have hby : byE (put b.length ++ b.take (b.length - 1)) 0 65577 = 10 := by
    unfold byE
    rw [f1, f2, f3, if_neg (by simp), if_neg (by omega)]
    unfold tkE
    rw [if_neg (by simp), if_neg (by omega), if_pos (by rw [List.length_take]; omega)]
  refine pgEnd_bad ?_ (by decide)
  show endE (byL (put b.length ++ b.take (b.length - 1)) 0 65577) (byE (put b.length ++ b.take (b.length - 1)) 0 65577) = 10
  rw [hby]
  unfold endE
  rw [if_pos (by decide)]
/-- A byte more. -/
theorem pks_more {b : List UInt8} (hb : b.length ≤ 300) (x : UInt8) : getPk (pkB [b] ++ [x]) = ([], 12) := by
  have p1 := put_length_64 (x := 1) (by omega)
  have p2 := put_length_64 (x := b.length) (by omega)
  have he : pkB [b] ++ [x] = put 1 ++ (put b.length ++ (b ++ [x])) := by rw [pks_one]; simp
  rw [he]
  obtain ⟨e1, e2, e3⟩ := pks_uint (put b.length ++ (b ++ [x]))
  obtain ⟨a1, a2, a3⟩ := prow_back b [x] (by omega)
  unfold getPk
  rw [if_neg (by simp; omega), e1, e2, e3, if_neg (by simp), if_neg (by omega)]
  refine pgEnd_bad ?_ (by decide)
  show endE (byL (put b.length ++ (b ++ [x])) 0 65577) (byE (put b.length ++ (b ++ [x])) 0 65577) = 12
  rw [a1, a2]
  unfold endE
  simp
theorem pks_E {b : List UInt8} (hb : b.length ≤ 300) (h : putPE [b] ≠ 0) : b.length < 41 := by
  rcases Nat.lt_or_ge b.length 41 with h1 | h1
  · exact h1
  · exfalso
    have h2 := lnN_3 (x := b.length) (by omega)
    have h3 := lnN_3 (x := 1) (by omega)
    refine h (putPE_zero (by simp) (by simp) ?_ ?_)
    · unfold pkMay
      simp
      omega
    · simp [pkSum, pkE]
      omega
theorem pks_len {b : List UInt8} (hb : b.length ≤ 300) : (pkB [b]).length ≤ 400 := by
  have h2 := lnN_3 (x := b.length) (by omega)
  have h3 := lnN_3 (x := 1) (by omega)
  rw [pkB_len]
  simp [pkSum, pkE]
  omega
set_option maxHeartbeats 16000000 in
set_option maxRecDepth 100000 in
theorem law_psum {w : World} {S : Nat → Prop} {A : Option Addr} {n c : Nat} {b : List UInt8} (hb : Byt w S A n c b) {x0 : Int} (hx : (Lit.int .u8 x0).wf = true) (ht : Tab w) :
    Calls Tryd.prog 4 #[.slice A n c, .int .u8 x0] w fun e w' => e = .returned (.bool true) ∧ Below w.heap.size w w' := by
  have haw := pkawake_true w
  obtain ⟨x, rfl⟩ : ∃ x : UInt8, x0 = (x.toNat : Int) := by
    have hm' : (decide (IntKind.u8.min ≤ x0) && decide (x0 ≤ IntKind.u8.max)) = true := hx
    rw [show IntKind.u8.min = 0 by decide, show IntKind.u8.max = 255 by decide] at hm'
    simp at hm'
    refine ⟨UInt8.ofNat x0.toNat, ?_⟩
    rw [UInt8.toNat_ofNat']
    omega
  have HB := Lib.hid (And.intro hb (And.intro hb.len ht))
  clear hb hx ht
  by_cases hbig : n > 300
  · have hb' : (n : Int) > 300 := by omega
    clear hbig
    generalize x.toNat = X at *
    go_enter Tryd.func4, Tryd.ntmps4
    go_wp2_with (go_at_call 5; refine haw.mono ?_; clear haw; rintro _ w1 ⟨rfl, hb1⟩)
    go_ret
    exact ⟨rfl, hb1⟩
  have hb' : ¬ (n : Int) > 300 := by omega
  have HN : Hid (n ≤ 300) := Lib.hid (by omega)
  have HN2 : Hid (b.length ≤ 300) := Lib.hid (by have := HB.out.2.1; have := HN.out; omega)
  obtain ⟨X, hX⟩ : ∃ X, X = x.toNat := ⟨_, rfl⟩
  rw [← hX]
  have HX := Lib.hid hX
  clear hbig hX
  obtain ⟨E, hE⟩ : ∃ E, E = putPE [b] := ⟨_, rfl⟩
  obtain ⟨PB, hPB⟩ : ∃ PB, PB = putPB [b] := ⟨_, rfl⟩
  have HE := Lib.hid (And.intro hE hPB)
  go_enter Tryd.func4, Tryd.ntmps4
  go_upto_region 6 with (go_at_call 5; refine haw.mono ?_; clear haw; rintro _ w1 ⟨rfl, hb1⟩; have H1 := Lib.hid hb1; clear hb1)
  have hb2 : Below w.heap.size w (w1.alloc (.cells #[.slice A n c] 24)) := H1.out.alloc H1.out.size _
  have hpu := pput_any (pkRowLit (T := fun _ => True) (HB.out.1.below H1.out) trivial fun _ _ => trivial)
  rw [← hE, ← hPB] at hpu
  have H2 := Lib.hid hb2
  clear hb2 hE hPB
  go_upto_region 7 with (go_at_call 6; refine hpu.mono ?_; clear hpu; rintro _ w3 ⟨A3, m3, c3, rfl, hy3, hb3⟩; have H3 := Lib.hid (And.intro hy3 (H2.out.trans (hb3.mono H2.out.size))); clear hy3 hb3)
  have hcb := byt_string (HB.out.1.below H3.out.2)
  have hst4 : Strs (w3.alloc (.cells #[.string (st b)] 9)) (fun _ => True) (some ⟨w3.heap.size, 0, none⟩) 1 1 [b] := ⟨rfl, Nat.le_refl _, by unfold maxLen; omega, fun _ => ⟨w3.heap.size, 0, rfl, trivial, by simp, fun i hi => by
    obtain rfl : i = 0 := by omega
    rw [Nat.zero_add, cell_of_cells (heap_alloc_new w3 _)]
    rfl⟩⟩
  have hrp := prput_any hst4
  rw [← HE.out.1, ← HE.out.2] at hrp
  obtain ⟨SP, hSP⟩ : ∃ SP, SP = st PB := ⟨_, rfl⟩
  rw [← hSP] at hrp
  have HSP := Lib.hid hSP
  clear hSP
  have hb4 : Below w3.heap.size w3 (w3.alloc (.cells #[.string (st b)] 9)) := (Below.refl _ _).alloc (Nat.le_refl _) _
  have H4 := Lib.hid hb4
  obtain ⟨SB, hSB⟩ : ∃ SB, SB = st b := ⟨_, rfl⟩
  have hcb2 : (convert 24 9 (.slice A n c)).run Tryd.prog w3 = .ok (.string SB) w3 := by rw [hSB]; exact hcb
  rw [← hSB] at hrp H4
  clear hcb hst4 hb4 hSB
  go_upto_region 8 with (go_at_call 7; refine hrp.mono ?_; clear hrp; rintro _ w5 ⟨rfl, hb5⟩; have H5 := Lib.hid (And.intro (H3.out.2.trans ((H4.out.trans (hb5.mono H4.out.size)).mono H3.out.2.size)) (H3.out.1.below (H4.out.trans (hb5.mono H4.out.size)))); clear hb5)
  clear hcb2
  have hcv : (convert 24 9 (.slice A3 m3 c3)).run Tryd.prog w5 = .ok (.string SP) w5 := by rw [HSP.out]; exact byt_string H5.out.2
  by_cases h0 : E = 0
  case neg =>
    have hne : (E != 0) = true := by simpa using h0
    have hee : (E != E) = false := by simp
    have hlt : (n : Int) < 41 := by
      have h1 := HB.out.2.1
      have h2 := pks_E HN2.out (by rw [← HE.out.1]; exact h0)
      omega
    clear h0
    go_wp2
    go_ret
    exact ⟨rfl, H5.out.1⟩
  subst h0
  have hpe : putPE [b] = 0 := HE.out.1.symm
  have hpb : PB = pkB [b] := by rw [HE.out.2]; unfold putPB; rw [if_pos hpe]
  have hm3 : m3 = PB.length := H5.out.2.len.symm
  have hm4 : PB.length ≤ 400 := by rw [hpb]; exact pks_len HN2.out
  have hpos : 0 < PB.length := by rw [hpb, pkB_len]; have := lnN_pos ([b] : List (List UInt8)).length; omega
  obtain ⟨K, hK⟩ : ∃ K, K = m3 - 1 := ⟨_, rfl⟩
  have hsub : IntKind.i64.wrap ((m3 : Int) - 1) = (K : Int) := by rw [IntWalk.i64_in _ (by omega)]; omega
  have hsl := fun W => run_to (P := Tryd.prog) 24 5 Tryd.underlying24 u8_size A3 m3 c3 K (by have := H5.out.2.cap; omega) W
  have hyk := H5.out.2.to (k := K) (by omega)
  have hge := pget_any hyk
  rw [show PB.take K = (pkB [b]).take ((pkB [b]).length - 1) by rw [hpb, hK, hm3, hpb], pks_less hpe HN2.out] at hge
  have hge2 : Calls Tryd.prog 9 #[.slice A3 K c3] w5 fun e w' => ∃ Ag cg, e = .returned (.tuple #[.slice Ag 0 cg, .int .i64 10]) ∧ Below w5.heap.size w5 w' := hge.mono (by rintro _ w' ⟨Ag, cg, rfl, _, hb⟩; exact ⟨Ag, cg, rfl, hb⟩)
  have HP := Lib.hid (And.intro hpe (And.intro hpb (And.intro hm3 hm4)))
  clear hge hyk hpe hpb hm3 hm4 hpos hK
  go_upto_region 14 with (go_at_call 9; refine hge2.mono ?_; clear hge2; rintro _ w6 ⟨A6, c6, rfl, hb6⟩; have H6 := Lib.hid (And.intro (H5.out.1.trans (hb6.mono H5.out.1.size)) (H5.out.2.below hb6)); clear hb6)
  clear hsub hsl hcv
  obtain ⟨v7, w7, hap7, hown7, hg7⟩ := append_any (B := w6.heap.size) (W := w6) (v := .slice none 0 0) (xs := []) (k := 0) (World.ownsRow_nil _ _ _ _) H6.out.2 (by have := HP.out.2.2; omega) (Nat.le_refl _) 24
  rw [List.nil_append, Nat.zero_add] at hown7
  obtain ⟨A7, c7, rfl⟩ := pk_slice hown7
  have hb7 : Below w6.heap.size w6 w7 := (Below.refl _ _).grown hg7 (Nat.le_refl _) fun g hg => by simp [Value.ownBlock] at hg
  have hone : Byt (w7.alloc (.cells #[.int .u8 (x.toNat : Int)] 5)) (w7.heap.size ≤ ·) (some ⟨w7.heap.size, 0, none⟩) 1 1 [x] := ⟨rfl, Nat.le_refl _, by unfold maxLen; omega, fun _ => ⟨w7.heap.size, 0, rfl, Nat.le_refl _, by simp, fun i hi => by
    obtain rfl : i = 0 := by omega
    rw [Nat.zero_add, cell_of_cells (heap_alloc_new w7 _)]
    rfl⟩⟩
  have hba : Below w7.heap.size w7 (w7.alloc (.cells #[.int .u8 (x.toNat : Int)] 5)) := (Below.refl _ _).alloc (Nat.le_refl _) _
  obtain ⟨v8, w8, hap8, hown8, hg8⟩ := append_any (B := w6.heap.size) (pk_keep hown7 fun g hg => Below.heap_alloc _ _ _ (hown7.lt g hg).2) hone (by have := HP.out.2.2; omega) (by have := hb7.size; have := hba.size; omega) 24
  rw [← u8s_append] at hown8
  obtain ⟨A8, c8, rfl, hy8⟩ := own_byt_any hown8
  have hb8 : Below w6.heap.size w6 w8 := (hb7.trans (hba.mono hb7.size)).trans (((Below.refl w6.heap.size _).grown hg8 (by have := hb7.size; have := hba.size; omega) fun g hg => (hown7.lt g hg).1))
  rw [← HX.out] at hap8
  obtain ⟨MO, hMO⟩ : ∃ MO, MO = PB ++ [x] := ⟨_, rfl⟩
  rw [← hMO] at hy8
  have hge := pget_any hy8
  rw [show MO = pkB [b] ++ [x] by rw [hMO, HP.out.2.1], pks_more HN2.out] at hge
  have hge2 : Calls Tryd.prog 9 #[.slice A8 (m3 + 1) c8] w8 fun e w' => ∃ Ag cg, e = .returned (.tuple #[.slice Ag 0 cg, .int .i64 12]) ∧ Below w8.heap.size w8 w' := hge.mono (by rintro _ w' ⟨Ag, cg, rfl, _, hb⟩; exact ⟨Ag, cg, rfl, hb⟩)
  have H8 := Lib.hid (And.intro (H6.out.1.trans (hb8.mono H6.out.1.size)) (And.intro hy8 (show MO.length ≤ 1000 by rw [hMO, List.length_append]; have := HP.out.2.2.2; simp; omega)))
  clear hown7 hg7 hb7 hone hba hown8 hg8 hy8 hb8 hge hMO
  obtain ⟨V0, hV0⟩ : ∃ V0, V0 = Value.slice none 0 0 := ⟨_, rfl⟩
  rw [← hV0] at hap7 ⊢
  clear hV0
  go_upto_region 17 with (first
    | (at_builtin; refine wpList_app (by rfl) _ _ 24 (by rfl) (by rfl) (by rfl) hap7 ?_)
    | (at_builtin; refine wpList_app (by rfl) _ _ 24 (by rfl) (by rfl) (by rfl) hap8 ?_)
    | (go_at_call 9; refine hge2.mono ?_; clear hge2; rintro _ w9 ⟨A9, c9, rfl, hb9⟩; have H9 := Lib.hid (And.intro (H8.out.1.trans (hb9.mono H8.out.1.size)) (H8.out.2.1.below hb9)); clear hb9))
  clear hap7 hap8
  obtain ⟨RS, hRS⟩ : ∃ RS, RS = row8 (rootL MO) := ⟨_, rfl⟩
  have HQ : Hid (∀ w, (Op.equalIn 10000 36 (.agg RS) (.agg RS)).run Tryd.prog w = .ok true w) := Lib.hid fun w => by
    rw [hRS]
    exact (id_eql _ _ (crownD_length _ _) (crownD_length _ _) w).trans (by simp)
  have HD : Hid (∀ W, Below w9.drew.heap.size w9.drew W → Below w.heap.size w W ∧ Byt W (w6.heap.size ≤ ·) A8 (m3 + 1) c8 MO) := Lib.hid fun W hW => ⟨(below_drew H9.out.1).trans (hW.mono (below_drew H9.out.1).size), H9.out.2.drew.below hW⟩
  have HID1 : Hid (∀ W, Below w9.drew.heap.size w9.drew W → Calls Tryd.prog 11 #[.slice A8 (m3 + 1) c8] W fun e w' => e = .returned (.agg RS) ∧ Below W.heap.size W w') := Lib.hid fun W hW => by
    rw [hRS]
    exact pid_any (HD.out W hW).2 (by have h1 := H8.out.2.2; have h2 := (HD.out W hW).2.len; omega) (HB.out.2.2.below (HD.out W hW).1)
  have HID2 : Hid (∀ W, Calls Tryd.prog 12 #[.string (st MO)] W fun e w' => e = .returned (.agg RS) ∧ Below W.heap.size W w') := Lib.hid fun W => by
    rw [hRS]
    exact prid_any MO (by have := H8.out.2.2; omega) W
  clear hRS
  refine wp_region_grow (fun W W' => Below W.heap.size W W') (Grow.nth [fun v _ => v = .int .i64 10, fun v _ => v = .bool true, fun v _ => v = .bool true, fun v _ => v = .int .i64 12, fun v _ => v = .bool true, fun v _ => v = .bool true, fun v _ => v = .bool true, fun v _ => v = .slice A8 (m3 + 1) c8, fun v _ => v = .agg RS, fun v _ => v = .slice A8 (m3 + 1) c8, fun v _ => v = .string (st MO), fun v _ => v = .agg RS, fun v _ => v = .bool true, fun v _ => v = .bool true, fun v _ => v = .bool true]) 83 (by kernel_rfl) (by kernel_rfl) (by rfl) (fun W => Below.refl _ W) (fun _ _ _ h1 h2 => h1.trans (h2.mono h1.size)) (Grow.mono_nth ?gmono) ?gsteps ?gfin
  case gmono => exact ⟨fun _ _ _ h _ => h, fun _ _ _ h _ => h, fun _ _ _ h _ => h, fun _ _ _ h _ => h, fun _ _ _ h _ => h, fun _ _ _ h _ => h, fun _ _ _ h _ => h, fun _ _ _ h _ => h, fun _ _ _ h _ => h, fun _ _ _ h _ => h, fun _ _ _ h _ => h, fun _ _ _ h _ => h, fun _ _ _ h _ => h, fun _ _ _ h _ => h, fun _ _ _ h _ => h, trivial⟩
  case gsteps =>
    show Grow.allBelow _ 15
    refine And.intro ?_ ?s14
    refine And.intro ?_ ?s13
    refine And.intro ?_ ?s12
    refine And.intro ?_ ?s11
    refine And.intro ?_ ?s10
    refine And.intro ?_ ?s9
    refine And.intro ?_ ?s8
    refine And.intro ?_ ?s7
    refine And.intro ?_ ?s6
    refine And.intro ?_ ?s5
    refine And.intro ?_ ?s4
    refine And.intro ?_ ?s3
    refine And.intro ?_ ?s2
    refine And.intro ?_ ?s1
    refine And.intro ?_ ?s0
    exact trivial
    case s0 =>
      refine Grow.step_in (by rfl) (by rfl) ?_
      intro E W ec eg ef hG hd hu R HR
      have e11 : E (.tmp 11) = .int .i64 10 := hu 11 (by kernel_rfl)
      clear hd hu
      go_simp
      exact HR.out _ _ (Below.refl _ _) rfl
    case s1 =>
      refine Grow.step_in (by rfl) (by rfl) ?_
      intro E W ec eg ef hG hd hu R HR
      have e69 : E (.tmp 69) = .int .i64 10 := hd 0 69 (by kernel_rfl)
      clear hd hu
      go_simp
      exact HR.out _ _ (Below.refl _ _) rfl
    case s2 =>
      refine Grow.step_in (by rfl) (by rfl) ?_
      intro E W ec eg ef hG hd hu R HR
      have e70 : E (.tmp 70) = .bool true := hd 1 70 (by kernel_rfl)
      clear hd hu
      go_simp
      exact HR.out _ _ (Below.refl _ _) rfl
    case s3 =>
      refine Grow.step_on (g := 2) (b := true) (d := 71) (by rfl) (by rfl) (by rfl) (by kernel_rfl) (fun v W h => h) ?_
      intro E W ec eg ef hG hd hu R HR
      have e14 : E (.tmp 14) = .int .i64 12 := hu 14 (by kernel_rfl)
      clear hd hu
      go_simp
      exact HR.out _ _ (Below.refl _ _) rfl
    case s4 =>
      refine Grow.step_on (g := 2) (b := true) (d := 71) (by rfl) (by rfl) (by rfl) (by kernel_rfl) (fun v W h => h) ?_
      intro E W ec eg ef hG hd hu R HR
      have e72 : E (.tmp 72) = .int .i64 12 := hd 3 72 (by kernel_rfl)
      clear hd hu
      go_simp
      exact HR.out _ _ (Below.refl _ _) rfl
    case s5 =>
      refine Grow.step_in (by rfl) (by rfl) ?_
      intro E W ec eg ef hG hd hu R HR
      have e71 : E (.tmp 71) = .bool true := hd 2 71 (by kernel_rfl)
      have e73 : E (.tmp 73) = .bool true := hd 4 73 (by kernel_rfl)
      clear hd hu
      go_simp
      exact HR.out _ _ (Below.refl _ _) rfl
    case s6 =>
      refine Grow.step_in (by rfl) (by rfl) ?_
      intro E W ec eg ef hG hd hu R HR
      have e74 : E (.tmp 74) = .bool true := hd 5 74 (by kernel_rfl)
      clear hd hu
      go_simp
      exact HR.out _ _ (Below.refl _ _) rfl
    case s7 =>
      refine Grow.step_on (g := 6) (b := true) (d := 75) (by rfl) (by rfl) (by rfl) (by kernel_rfl) (fun v W h => h) ?_
      intro E W ec eg ef hG hd hu R HR
      have e12 : E (.tmp 12) = .slice A8 (m3 + 1) c8 := hu 12 (by kernel_rfl)
      clear hd hu
      go_simp
      exact HR.out _ _ (Below.refl _ _) rfl
    case s8 =>
      refine Grow.step_on (g := 6) (b := true) (d := 75) (by rfl) (by rfl) (by rfl) (by kernel_rfl) (fun v W h => h) ?_
      intro E W ec eg ef hG hd hu R HR
      have e76 : E (.tmp 76) = .slice A8 (m3 + 1) c8 := hd 7 76 (by kernel_rfl)
      clear hd hu
      have hid := HID1.out W hG
      go_simp
      refine hid.mono ?_
      rintro _ w' ⟨rfl, hb⟩
      exact ⟨_, rfl, HR.out _ _ hb rfl⟩
    case s9 =>
      refine Grow.step_on (g := 6) (b := true) (d := 75) (by rfl) (by rfl) (by rfl) (by kernel_rfl) (fun v W h => h) ?_
      intro E W ec eg ef hG hd hu R HR
      have e12 : E (.tmp 12) = .slice A8 (m3 + 1) c8 := hu 12 (by kernel_rfl)
      clear hd hu
      go_simp
      exact HR.out _ _ (Below.refl _ _) rfl
    case s10 =>
      refine Grow.step_on (g := 6) (b := true) (d := 75) (by rfl) (by rfl) (by rfl) (by kernel_rfl) (fun v W h => h) ?_
      intro E W ec eg ef hG hd hu R HR
      have e78 : E (.tmp 78) = .slice A8 (m3 + 1) c8 := hd 9 78 (by kernel_rfl)
      clear hd hu
      have hcv := byt_string (HD.out W hG).2
      go_simp
      exact HR.out _ _ (Below.refl _ _) rfl
    case s11 =>
      refine Grow.step_on (g := 6) (b := true) (d := 75) (by rfl) (by rfl) (by rfl) (by kernel_rfl) (fun v W h => h) ?_
      intro E W ec eg ef hG hd hu R HR
      have e79 : E (.tmp 79) = .string (st MO) := hd 10 79 (by kernel_rfl)
      clear hd hu
      have hid := HID2.out W
      go_simp
      refine hid.mono ?_
      rintro _ w' ⟨rfl, hb⟩
      exact ⟨_, rfl, HR.out _ _ hb rfl⟩
    case s12 =>
      refine Grow.step_on (g := 6) (b := true) (d := 75) (by rfl) (by rfl) (by rfl) (by kernel_rfl) (fun v W h => h) ?_
      intro E W ec eg ef hG hd hu R HR
      have e77 : E (.tmp 77) = .agg RS := hd 8 77 (by kernel_rfl)
      have e80 : E (.tmp 80) = .agg RS := hd 11 80 (by kernel_rfl)
      clear hd hu
      have hq := HQ.out W
      go_simp
      exact HR.out _ _ (Below.refl _ _) rfl
    case s13 =>
      refine Grow.step_in (by rfl) (by rfl) ?_
      intro E W ec eg ef hG hd hu R HR
      have e75 : E (.tmp 75) = .bool true := hd 6 75 (by kernel_rfl)
      have e81 : E (.tmp 81) = .bool true := hd 12 81 (by kernel_rfl)
      clear hd hu
      go_simp
      exact HR.out _ _ (Below.refl _ _) rfl
    case s14 =>
      refine Grow.step_in (by rfl) (by rfl) ?_
      intro E W ec eg ef hG hd hu R HR
      have e82 : E (.tmp 82) = .bool true := hd 13 82 (by kernel_rfl)
      clear hd hu
      go_simp
      exact HR.out _ _ (Below.refl _ _) rfl
  case gfin =>
    intro W hG
    refine Grow.fin_dst (by rfl) ?_
    rintro _ rfl
    refine Grow.fin_dst (by rfl) ?_
    rintro _ rfl
    refine Grow.fin_dst (by rfl) ?_
    rintro _ rfl
    refine Grow.fin_dst (by rfl) ?_
    rintro _ rfl
    refine Grow.fin_dst (by rfl) ?_
    rintro _ rfl
    refine Grow.fin_dst (by rfl) ?_
    rintro _ rfl
    refine Grow.fin_dst (by rfl) ?_
    rintro _ rfl
    refine Grow.fin_dst (by rfl) ?_
    rintro _ rfl
    refine Grow.fin_dst (by rfl) ?_
    rintro _ rfl
    refine Grow.fin_dst (by rfl) ?_
    rintro _ rfl
    refine Grow.fin_dst (by rfl) ?_
    rintro _ rfl
    refine Grow.fin_dst (by rfl) ?_
    rintro _ rfl
    refine Grow.fin_dst (by rfl) ?_
    rintro _ rfl
    refine Grow.fin_dst (by rfl) ?_
    rintro _ rfl
    refine Grow.fin_dst (by rfl) ?_
    rintro _ rfl
    simp only [Act.put, List.setIfInBounds_toArray, List.set_cons_zero, List.set_cons_succ]
    refine Grow.fin_end ?_
    have HF := Lib.hid (HD.out W hG).1
    clear hG
    go_wp2_with fail
    go_ret
    exact ⟨rfl, HF.out⟩
end Go.Proofs.YtnbjhdlnibmgdaaDoor

/-! The statement PacksSum, proved: for every row of bytes and every byte the law returns true. No condition but that the digest's two tables hold what the program's text lays (the card ties them). -/
namespace Go.Proofs.YtnbjhdlnibmgdaaDoor.packsSum
open Go.ChangeShapes Go.WideShapes Go.ChangeAt Go.RowKit
set_option linter.unusedVariables false

set_option maxRecDepth 100000 in
theorem lifted (os : Os) (started : os.Started) (H : Type) (enc : TypeId × Value → H) :
    ReturnsInHanded {} Tryd.checked os 4 .any (fun w args => (Rows.packsSumSpec.pre enc Tryd.prog Tryd.f4 [] false w args ∧ laidMetH Tryd.prog laids w) ∧ sizedMet enc Tryd.prog Tryd.f4 (OpenSpec.ofChange Rows.packsSumSpec) false w args) (Rows.packsSumSpec.post enc Tryd.prog Tryd.f4 false true false false) := by
  refine returnsInHanded_of_change_and (C := Tryd.checked) (X := fun w _ => laidMetH Tryd.prog laids w) (fun _ _ _ hh h => h.of_heap hh) own_knob started (by kernel_rfl) Tryd.func4
    (ChangeSpec.witness_shaped (enc := enc) (C := Tryd.checked) (os := os) (X := fun w _ => laidMetH Tryd.prog laids w) false (World.doorLaid Tryd.prog 400 os) #[.slice none 0 0, .int .u8 0] 8 rfl (World.shaped_of_RefB (by kernel_rfl) (by kernel_rfl)) (by kernel_rfl) (by kernel_rfl) (by kernel_rfl) (door_met os _)) ?_
  intro W base args ds gs before hval0 hW _ _ hL _
  have hval : ∀ (j : Nat) t v, Tryd.f4.params[j]? = some t → args[j]? = some v → Value.okWide Tryd.prog W .any base t v := hval0
  have hW' := hW
  obtain ⟨p, q, hA0, hV, rfl, hfz, hnd⟩ := hW
  have hA : DataW.TrodAll enc Tryd.prog W 0 (fun _ => true) true Tryd.f4.params.toList args.toList ds p := hA0
  rw [Tryd.params4] at hA hval
  obtain ⟨v0, vs0, d0, ds0, p0, q0, hargs, rfl, rfl, h0, r0⟩ := trodAll_cons hA
  obtain ⟨v1, vs1, d1, ds1, p1, q1, rfl, rfl, rfl, h1, r1⟩ := trodAll_cons r0
  obtain ⟨rfl, rfl, rfl⟩ := trodAll_nil r1
  obtain rfl : args = #[v0, v1] := by cases args; simp_all
  obtain ⟨rfl, rfl⟩ := trodVars_none hV
  obtain ⟨a0, len0, cap0, rfl⟩ := okWide_slice Tryd.underlying24 (hval 0 24 v0 rfl rfl)
  obtain ⟨l0, w0⟩ := bytes_in rfl h0
  obtain ⟨a1, rfl, rfl, rfl, w1⟩ := open_int Tryd.underlying5 (hval 1 5 v1 rfl rfl) h1
  clear hA0 hval0
  refine (law_psum w0 w1 (tab_of_laid hL)).mono fun e W' ⟨he, bel⟩ => ?_
  subst he
  exact ⟨_, rfl, _, _, _, [], _, [], hW', trodAll_mk1 (shut_bool Tryd.underlying4 _), (trodAll_cons_mk (Below.trod laid_out (by kernel_rfl) (of_decide_eq_true (by kernel_rfl)) h0 bel (trod_lt h0)) (trodAll_cons_mk (shut_int Tryd.underlying5 w1) trodAll_mk0)), rfl, bel.frame _, fun h => by cases h⟩

theorem proved : Rows.PacksSumSaid :=
  OpenClaim.holds_of_wide 4 Tryd.f4 rfl rfl rfl rfl rfl rfl rfl ⟨rfl, rfl, rfl, rfl, rfl⟩ rfl rfl rfl rfl rfl (by kernel_rfl) Tryd.func4 (by kernel_rfl)
    (of_decide_eq_true (by kernel_rfl)) (by unfold Func.isWrapper; first | (rw [if_pos (by decide +kernel)]; kernel_rfl) | (rw [if_neg (by decide +kernel)]; exact ⟨rfl, rfl⟩))
    (fun os started H enc _ => lifted os started H enc)

theorem proved_card : Rows.PacksSumCardSaid :=
  Claim7.holds_tied_plain_at .later [] [.data, .data] true (true, Rows.packsSumCard.stood.harness.2) false proved (fun _ h => by cases h) (by kernel_rfl) (fun _ h => by cases h) packsSum_row_tie rfl ⟨rfl, rfl⟩ (by kernel_rfl) rfl
    (fun f fn hf hfn => by
      obtain rfl : f = 4 := Option.some.inj ((show Tryd.prog.funcNamed Rows.packsSumRow.func = some 4 by kernel_rfl).symm.trans hf) |>.symm
      obtain rfl : fn = Tryd.f4 := (Option.some.inj (Tryd.func4.symm.trans hfn)).symm
      exact ⟨by kernel_rfl, fun j t ht => by
        have hall : (Tryd.f4.params.toList.all fun u => !Tryd.prog.wantsStandIn u) = true := by kernel_rfl
        exact (show Tryd.prog.wantsStandIn t = false by simpa using List.all_eq_true.1 hall t (by rw [Array.mem_toList_iff]; exact Array.mem_of_getElem? ht))⟩)
    (by kernel_rfl)
#print axioms proved_card
end Go.Proofs.YtnbjhdlnibmgdaaDoor.packsSum
