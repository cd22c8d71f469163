/-
  Objects: several of a kind that are read.
-/
import Derived.Test.YtmakpjcgiiljfaaDoorPk11
/-! Objects: several of a kind that are read. -/
namespace Go.Proofs.YtmakpjcgiiljfaaDoor
open Go.RowKit Codec

theorem enL3_len (l : List UInt8) (e : Int) : (enL3 l e).length ≤ l.length := by
  have f : ∀ (l : List UInt8) (e k : Int), (fxL l e k).length ≤ l.length := fun l e k => by unfold fxL; split <;> simp
  have b : (byL l e 255).length ≤ l.length := by
    have := uiL_length l e
    unfold byL
    split
    · exact this
    · split
      · exact this
      · exact Nat.le_trans (f _ _ _) this
  unfold enL3 enL2 enL1
  exact Nat.le_trans (f _ _ _) (Nat.le_trans (f _ _ _) b)
theorem idL3_len (l : List UInt8) (e : Int) : (fxL l e 32).length ≤ l.length := by unfold fxL; split <;> simp
/-- While they are read. -/
def SvI (w : World) (S : Nat → Prop) (p M : Nat) (l0 : List UInt8) (e0 : Int) (v i : Value) (wr : World) : Prop :=
  ∃ (j : Nat) (acc : List (List UInt8)) (l : List UInt8) (e : Int), j ≤ M ∧ i = .int .u64 (j : Int) ∧ igo M [] l0 e0 = igo (M - j) acc l e ∧ acc.length = j ∧ (∀ y ∈ acc, y.length = 32) ∧ l.length ≤ l0.length ∧ Rd wr (fun k => S k ∧ k < w.heap.size) p l e ∧ wr.ownsRow w.heap.size 49 32 v acc.length (idsC acc) ∧ w.grownBy wr (some p)
/-- What is told of them. -/
def SvIP (w : World) (S : Nat → Prop) (p most : Nat) (l : List UInt8) (e : Int) (r : Ending) (w' : World) : Prop :=
  if most < uiX l e then r = .returned (.tuple #[.slice none 0 0, .int .i64 11]) ∧ Rd w' S p (uiL l e) (uiE l e) ∧ w.grownBy w' (some p)
  else ∃ A c, r = .returned (.tuple #[.slice A (igo (uiX l e) [] (uiL l e) (uiE l e)).1.length c, .int .i64 0]) ∧ Ids w' (w.heap.size ≤ ·) A (igo (uiX l e) [] (uiL l e) (uiE l e)).1.length c (igo (uiX l e) [] (uiL l e) (uiE l e)).1 ∧ Rd w' S p (igo (uiX l e) [] (uiL l e) (uiE l e)).2.1 (igo (uiX l e) [] (uiL l e) (uiE l e)).2.2 ∧ w.grownBy w' (some p)
set_option maxHeartbeats 16000000 in
set_option maxRecDepth 100000 in
theorem several_ids {w : World} {S : Nat → Prop} {p : Nat} {l : List UInt8} {e : Int} (h : Rd w S p l e) (hl : l.length ≤ 140737488355328) (most : Nat) (hmo : most ≤ 1000) :
    Calls Tryd.prog 47 #[.pointer (some ⟨p, 0, none⟩), .int .u64 (most : Int), .func (.func 48) #[] #[]] w (SvIP w S p most l e) := by
  have hu := uint_any (h.mono (T := fun k => S k ∧ k < w.heap.size) fun k hk hs => ⟨hs, hk⟩)
  have hlt := h.lt
  have hul := uiL_length l e
  obtain ⟨M, hM⟩ : ∃ M, M = uiX l e := ⟨_, rfl⟩
  obtain ⟨l1, hl1⟩ : ∃ l1, l1 = uiL l e := ⟨_, rfl⟩
  obtain ⟨e1, he1⟩ : ∃ e1, e1 = uiE l e := ⟨_, rfl⟩
  rw [← hM, ← hl1, ← he1] at hu
  have HEQ := Lib.hid (And.intro hM (And.intro hl1 he1))
  have HL : Hid (l1.length ≤ 140737488355328 ∧ p < w.heap.size ∧ most ≤ 1000) := Lib.hid ⟨by rw [hl1]; omega, hlt, hmo⟩
  clear h hl hM hl1 he1 hlt hmo hul
  by_cases hb : most < M
  · have hb' : (M : Int) > (most : Int) := by omega
    have HB := Lib.hid hb
    clear hb
    go_enter Tryd.func47, Tryd.ntmps47
    go_wp2_with (go_at_call 44; refine hu.mono ?_; clear hu; rintro _ w2 ⟨rfl, hr2, hg2⟩)
    go_ret2
    unfold SvIP
    rw [if_pos (by rw [← HEQ.out.1]; exact HB.out), ← HEQ.out.2.1, ← HEQ.out.2.2]
    exact ⟨rfl, hr2.mono fun _ _ h => h.1, hg2⟩
  · have hb' : decide (most < M) = false := decide_eq_false hb
    have HB : Hid (¬ most < M ∧ M ≤ 1000) := Lib.hid ⟨hb, by have := HL.out.2.2; omega⟩
    clear hb
    go_enter Tryd.func47, Tryd.ntmps47
    go_upto_region 2 with (go_at_call 44; refine hu.mono ?_; clear hu; rintro _ w2 ⟨rfl, hr2, hg2⟩)
    have H0 : Hid (SvI w S p M l1 e1 (.slice none 0 0) (.int .u64 0) w2) := Lib.hid ⟨0, [], l1, e1, Nat.zero_le _, rfl, rfl, rfl, (fun _ h => absurd h (by simp)), Nat.le_refl _, hr2, World.ownsRow_nil _ _ _ _, hg2⟩
    clear hr2 hg2
    go_wp2_with fail
    go_loopw [9, 16] (fun v i wr => SvI w S p M l1 e1 v i wr) (fun _ i _ => M - (intOf i).toNat)
    case atStart => exact H0.out
    case round =>
      obtain ⟨j, acc, l2, e2, hj, rfl, hgo, hac, ha32, hll, hr, hown, hgr⟩ := hrel
      clear H0
      by_cases hlt : j < M
      · have hlt' : (j : Int) < (M : Int) := by omega
        have hadd := IntWalk.u64_in ((j : Int) + 1) (by have := HB.out.2; omega)
        obtain ⟨A5, c5, rfl, _⟩ := own_ids hown ha32
        have hnx := id_any hr
        obtain ⟨Y, hY⟩ : ∃ Y, Y = idL l2 e2 := ⟨_, rfl⟩
        obtain ⟨XS, hXS⟩ : ∃ XS, XS = idC l2 e2 := ⟨_, rfl⟩
        obtain ⟨l3, hl3⟩ : ∃ l3, l3 = fxL l2 e2 32 := ⟨_, rfl⟩
        obtain ⟨e3, he3⟩ : ∃ e3, e3 = tkE l2 e2 32 := ⟨_, rfl⟩
        rw [← hXS, ← hl3, ← he3] at hnx
        have HY : Hid (XS = row8 Y ∧ Y.length = 32 ∧ Y = idL l2 e2 ∧ l3 = fxL l2 e2 32 ∧ e3 = tkE l2 e2 32) := Lib.hid ⟨by rw [hXS, hY]; rfl, by rw [hY]; exact idL_length _ _, hY, hl3, he3⟩
        have HL3 : Hid (l3.length ≤ l2.length) := Lib.hid (by rw [hl3]; exact idL3_len _ _)
        clear hY hXS hl3 he3
        have HA := Lib.hid (And.intro hgo (And.intro hac (And.intro ha32 (And.intro hll (And.intro hgr hown)))))
        have HJ := Lib.hid hlt
        clear hgo hac ha32 hll hgr hown hr hlt hj
        go_wp2_with (first
          | (go_at_call 48; refine hnx.mono ?_; clear hnx; rintro _ w4 ⟨rfl, hr4, hg4⟩; have hbs := run_ids_lit w4 XS HY.out.1 HY.out.2.1; have h5 := HA.out.2.2.2.2.1; have hg5 : w.grownBy (w4.alloc (.cells XS 49)) (some p) := gr_alloc (gr_trans h5 hg4) _; have hown5 := own_below (own_grown HA.out.2.2.2.2.2 hg4 HL.out.2.1) ((Below.refl w4.heap.size w4).alloc (Nat.le_refl _) (.cells XS 49)); obtain ⟨A9, c9, w9, hap, hown9, hb9, hgg9⟩ := own_ids_app hown5 (by have := hg5.size; omega) (n2 := 1) (c2 := 1) (a := ⟨w4.heap.size, 0, none⟩) (m := [Y]) (fun y hy => (List.mem_append.1 hy).elim (HA.out.2.2.1 y) fun hy => by rw [List.mem_singleton.1 hy]; exact HY.out.2.1) rfl (fun o u hu => by rw [add_plain, Nat.zero_add, cell_of_cells (heap_alloc_new w4 _), HY.out.1]; simpa [idsC, row8] using hu) (by have h1 := HA.out.2.1; have h2 := HJ.out; have h3 := HB.out.2; omega) 24; have H9 := Lib.hid (And.intro hr4 (And.intro hg4 (And.intro hown9 hb9))); have HG5 := Lib.hid hg5; clear hr4 hg4 hown9 hb9 h5 hg5 hown5 hgg9)
          | (refine wpList_lit1 (by rfl) 24 (.tmp 21) (by rfl) (by rfl) hbs ?_)
          | (at_builtin; refine wpList_app (by rfl) (.tmp 18) (.tmp 22) 24 (by rfl) (by rfl) (by rfl) hap ?_))
        go_roundw
        case rel =>
          unfold SvI
          have hj1 := HJ.out
          have hb9' : Below (w4.alloc (.cells XS 49)).heap.size (w4.alloc (.cells XS 49)) w9 ∨ True := .inr trivial
          have hpb : p < w.heap.size := HL.out.2.1
          have h4 := H9.out.1
          have hg4 := H9.out.2.1
          have hb9 := H9.out.2.2.2
          have h5 := HG5.out
          have hbw : Below w.heap.size (w4.alloc (.cells XS 49)) w9 := hb9
          refine ⟨j + 1, acc ++ [Y], l3, e3, by omega, by simp, ?_, by simp [HA.out.2.1], ?_, by have h1 := HL3.out; have h2 := HA.out.2.2.2.1; omega, ?_, by have h9 := H9.out.2.2.1; rw [List.length_append, List.length_singleton] at h9 ⊢; exact h9, ?_⟩
          · have h1 := HA.out.1
            rw [show M - j = (M - (j + 1)) + 1 by omega, igo, ← HY.out.2.2.1, ← HY.out.2.2.2.1, ← HY.out.2.2.2.2] at h1
            exact h1
          · intro y hy
            rcases List.mem_append.1 hy with hy | hy
            · exact HA.out.2.2.1 y hy
            · rw [List.mem_singleton.1 hy]; exact HY.out.2.1
          · have h6 : Rd (w4.alloc (.cells XS 49)) (fun k => S k ∧ k < w.heap.size) p l3 e3 := h4.turned (T := fun _ => False) ((Turned.refl _ _).alloc _) fun _ _ _ h => h
            exact h6.turned (T := fun k => w.heap.size ≤ k) ⟨hbw.os, hbw.tape, hbw.output, hbw.size, fun k hk hs => hbw.block k (by omega)⟩ fun k _ h1 h2 => by have := h1.2; omega
          · exact ⟨hbw.os.trans h5.os, hbw.tape.trans h5.tape, hbw.output.trans h5.output, Nat.le_trans h5.size hbw.size, fun i hi hne => (hbw.block i hi).trans (h5.block i hi hne)⟩
        case measure => have := HJ.out; simp only [intOf]; omega
      · have hlt' : ¬ (j : Int) < (M : Int) := by omega
        have hjM : M - j = 0 := by omega
        rw [hjM, igo] at hgo
        obtain ⟨A', c', rfl, hmm⟩ := own_ids hown ha32
        have HF := Lib.hid (And.intro hgo (And.intro hmm (And.intro hr hgr)))
        clear hgo hmm hr hgr hown hac ha32 hll hj hlt hjM
        go_wp2_with fail
        go_ret2
        unfold SvIP
        rw [if_neg (by rw [← HEQ.out.1]; exact HB.out.1), ← HEQ.out.1, ← HEQ.out.2.1, ← HEQ.out.2.2, HF.out.1]
        exact ⟨A', c', rfl, HF.out.2.1, HF.out.2.2.1.mono fun _ _ h => h.1, HF.out.2.2.2⟩
/-- While they are read. -/
def SvE (w : World) (S : Nat → Prop) (p M : Nat) (l0 : List UInt8) (e0 : Int) (v i : Value) (wr : World) : Prop :=
  ∃ (j : Nat) (acc : List En) (l : List UInt8) (e : Int), j ≤ M ∧ i = .int .u64 (j : Int) ∧ ego M [] l0 e0 = ego (M - j) acc l e ∧ acc.length = j ∧ (∀ y ∈ acc, y.2.2.length = 32) ∧ l.length ≤ l0.length ∧ Rd wr (fun k => S k ∧ k < w.heap.size) p l e ∧ wr.ownsRow w.heap.size 51 34 v acc.length (enCells acc) ∧ w.grownBy wr (some p)
/-- What is told of them. -/
def SvEP (w : World) (S : Nat → Prop) (p most : Nat) (l : List UInt8) (e : Int) (r : Ending) (w' : World) : Prop :=
  if most < uiX l e then r = .returned (.tuple #[.slice none 0 0, .int .i64 11]) ∧ Rd w' S p (uiL l e) (uiE l e) ∧ w.grownBy w' (some p)
  else ∃ A c, r = .returned (.tuple #[.slice A (ego (uiX l e) [] (uiL l e) (uiE l e)).1.length c, .int .i64 0]) ∧ Ens w' (w.heap.size ≤ ·) A (ego (uiX l e) [] (uiL l e) (uiE l e)).1.length c (ego (uiX l e) [] (uiL l e) (uiE l e)).1 ∧ Rd w' S p (ego (uiX l e) [] (uiL l e) (uiE l e)).2.1 (ego (uiX l e) [] (uiL l e) (uiE l e)).2.2 ∧ w.grownBy w' (some p)
set_option maxHeartbeats 16000000 in
set_option maxRecDepth 100000 in
theorem several_ens {w : World} {S : Nat → Prop} {p : Nat} {l : List UInt8} {e : Int} (h : Rd w S p l e) (hl : l.length ≤ 140737488355328) (most : Nat) (hmo : most ≤ 1000) :
    Calls Tryd.prog 49 #[.pointer (some ⟨p, 0, none⟩), .int .u64 (most : Int), .func (.func 50) #[] #[]] w (SvEP w S p most l e) := by
  have hu := uint_any (h.mono (T := fun k => S k ∧ k < w.heap.size) fun k hk hs => ⟨hs, hk⟩)
  have hlt := h.lt
  have hul := uiL_length l e
  obtain ⟨M, hM⟩ : ∃ M, M = uiX l e := ⟨_, rfl⟩
  obtain ⟨l1, hl1⟩ : ∃ l1, l1 = uiL l e := ⟨_, rfl⟩
  obtain ⟨e1, he1⟩ : ∃ e1, e1 = uiE l e := ⟨_, rfl⟩
  rw [← hM, ← hl1, ← he1] at hu
  have HEQ := Lib.hid (And.intro hM (And.intro hl1 he1))
  have HL : Hid (l1.length ≤ 140737488355328 ∧ p < w.heap.size ∧ most ≤ 1000) := Lib.hid ⟨by rw [hl1]; omega, hlt, hmo⟩
  clear h hl hM hl1 he1 hlt hmo hul
  by_cases hb : most < M
  · have hb' : (M : Int) > (most : Int) := by omega
    have HB := Lib.hid hb
    clear hb
    go_enter Tryd.func49, Tryd.ntmps49
    go_wp2_with (go_at_call 44; refine hu.mono ?_; clear hu; rintro _ w2 ⟨rfl, hr2, hg2⟩)
    go_ret2
    unfold SvEP
    rw [if_pos (by rw [← HEQ.out.1]; exact HB.out), ← HEQ.out.2.1, ← HEQ.out.2.2]
    exact ⟨rfl, hr2.mono fun _ _ h => h.1, hg2⟩
  · have hb' : decide (most < M) = false := decide_eq_false hb
    have HB : Hid (¬ most < M ∧ M ≤ 1000) := Lib.hid ⟨hb, by have := HL.out.2.2; omega⟩
    clear hb
    go_enter Tryd.func49, Tryd.ntmps49
    go_upto_region 2 with (go_at_call 44; refine hu.mono ?_; clear hu; rintro _ w2 ⟨rfl, hr2, hg2⟩)
    have H0 : Hid (SvE w S p M l1 e1 (.slice none 0 0) (.int .u64 0) w2) := Lib.hid ⟨0, [], l1, e1, Nat.zero_le _, rfl, rfl, rfl, (fun _ h => absurd h (by simp)), Nat.le_refl _, hr2, World.ownsRow_nil _ _ _ _, hg2⟩
    clear hr2 hg2
    go_wp2_with fail
    go_loopw [9, 16] (fun v i wr => SvE w S p M l1 e1 v i wr) (fun _ i _ => M - (intOf i).toNat)
    case atStart => exact H0.out
    case round =>
      obtain ⟨j, acc, l2, e2, hj, rfl, hgo, hac, ha32, hll, hr, hown, hgr⟩ := hrel
      clear H0
      by_cases hlt : j < M
      · have hlt' : (j : Int) < (M : Int) := by omega
        have hadd := IntWalk.u64_in ((j : Int) + 1) (by have := HB.out.2; omega)
        obtain ⟨A5, c5, rfl, _⟩ := own_ens ha32 hown
        have hnx := entry_any hr (by have := HL.out.1; omega)
        obtain ⟨Y, hY⟩ : ∃ Y : En, Y = (enN l2 e2, enD l2 e2, enI l2 e2) := ⟨_, rfl⟩
        obtain ⟨XS, hXS⟩ : ∃ XS, XS = enV (enN l2 e2, enD l2 e2, enI l2 e2) := ⟨_, rfl⟩
        obtain ⟨l3, hl3⟩ : ∃ l3, l3 = enL3 l2 e2 := ⟨_, rfl⟩
        obtain ⟨e3, he3⟩ : ∃ e3, e3 = enE3 l2 e2 := ⟨_, rfl⟩
        rw [← hXS, ← hl3, ← he3] at hnx
        have HY : Hid (XS = enV Y ∧ Y.2.2.length = 32 ∧ Y = (enN l2 e2, enD l2 e2, enI l2 e2) ∧ l3 = enL3 l2 e2 ∧ e3 = enE3 l2 e2) := Lib.hid ⟨by rw [hXS, hY], by rw [hY]; exact idL_length _ _, hY, hl3, he3⟩
        have HL3 : Hid (l3.length ≤ l2.length) := Lib.hid (by rw [hl3]; exact enL3_len _ _)
        clear hY hXS hl3 he3
        have HA := Lib.hid (And.intro hgo (And.intro hac (And.intro ha32 (And.intro hll (And.intro hgr hown)))))
        have HJ := Lib.hid hlt
        clear hgo hac ha32 hll hgr hown hr hlt hj
        go_wp2_with (first
          | (go_at_call 50; refine hnx.mono ?_; clear hnx; rintro _ w4 ⟨rfl, hr4, hg4⟩; have hbs := run_ens_lit en_info3 Tryd.underlying25 w4 XS HY.out.1 HY.out.2.1; have h5 := HA.out.2.2.2.2.1; have hg5 : w.grownBy (w4.alloc (.cells XS 51)) (some p) := gr_alloc (gr_trans h5 hg4) _; have hown5 := own_below (own_grown HA.out.2.2.2.2.2 hg4 HL.out.2.1) ((Below.refl w4.heap.size w4).alloc (Nat.le_refl _) (.cells XS 51)); obtain ⟨A9, c9, w9, hap, hown9, hb9, hgg9⟩ := own_ens_app en_info3 Tryd.underlying25 hown5 (by have := hg5.size; omega) (n2 := 1) (c2 := 1) (a := ⟨w4.heap.size, 0, none⟩) (m := [Y]) (fun y hy => (List.mem_append.1 hy).elim (HA.out.2.2.1 y) fun hy => by rw [List.mem_singleton.1 hy]; exact HY.out.2.1) rfl (fun o u hu => by rw [add_plain, Nat.zero_add, cell_of_cells (heap_alloc_new w4 _), HY.out.1]; simpa [enCells] using hu) (by have h1 := HA.out.2.1; have h2 := HJ.out; have h3 := HB.out.2; omega) 25; have H9 := Lib.hid (And.intro hr4 (And.intro hg4 (And.intro hown9 hb9))); have HG5 := Lib.hid hg5; clear hr4 hg4 hown9 hb9 h5 hg5 hown5 hgg9)
          | (refine wpList_lit1 (by rfl) 25 (.tmp 21) (by rfl) (by rfl) hbs ?_)
          | (at_builtin; refine wpList_app (by rfl) (.tmp 18) (.tmp 22) 25 (by rfl) (by rfl) (by rfl) hap ?_))
        go_roundw
        case rel =>
          unfold SvE
          have hj1 := HJ.out
          have hb9' : Below (w4.alloc (.cells XS 51)).heap.size (w4.alloc (.cells XS 51)) w9 ∨ True := .inr trivial
          have hpb : p < w.heap.size := HL.out.2.1
          have h4 := H9.out.1
          have hg4 := H9.out.2.1
          have hb9 := H9.out.2.2.2
          have h5 := HG5.out
          have hbw : Below w.heap.size (w4.alloc (.cells XS 51)) w9 := hb9
          refine ⟨j + 1, acc ++ [Y], l3, e3, by omega, by simp, ?_, by simp [HA.out.2.1], ?_, by have h1 := HL3.out; have h2 := HA.out.2.2.2.1; omega, ?_, by have h9 := H9.out.2.2.1; rw [List.length_append, List.length_singleton] at h9 ⊢; exact h9, ?_⟩
          · have h1 := HA.out.1
            rw [show M - j = (M - (j + 1)) + 1 by omega, ego, ← HY.out.2.2.1, ← HY.out.2.2.2.1, ← HY.out.2.2.2.2] at h1
            exact h1
          · intro y hy
            rcases List.mem_append.1 hy with hy | hy
            · exact HA.out.2.2.1 y hy
            · rw [List.mem_singleton.1 hy]; exact HY.out.2.1
          · have h6 : Rd (w4.alloc (.cells XS 51)) (fun k => S k ∧ k < w.heap.size) p l3 e3 := h4.turned (T := fun _ => False) ((Turned.refl _ _).alloc _) fun _ _ _ h => h
            exact h6.turned (T := fun k => w.heap.size ≤ k) ⟨hbw.os, hbw.tape, hbw.output, hbw.size, fun k hk hs => hbw.block k (by omega)⟩ fun k _ h1 h2 => by have := h1.2; omega
          · exact ⟨hbw.os.trans h5.os, hbw.tape.trans h5.tape, hbw.output.trans h5.output, Nat.le_trans h5.size hbw.size, fun i hi hne => (hbw.block i hi).trans (h5.block i hi hne)⟩
        case measure => have := HJ.out; simp only [intOf]; omega
      · have hlt' : ¬ (j : Int) < (M : Int) := by omega
        have hjM : M - j = 0 := by omega
        rw [hjM, ego] at hgo
        obtain ⟨A', c', rfl, hmm⟩ := own_ens ha32 hown
        have HF := Lib.hid (And.intro hgo (And.intro hmm (And.intro hr hgr)))
        clear hgo hmm hr hgr hown hac ha32 hll hj hlt hjM
        go_wp2_with fail
        go_ret2
        unfold SvEP
        rw [if_neg (by rw [← HEQ.out.1]; exact HB.out.1), ← HEQ.out.1, ← HEQ.out.2.1, ← HEQ.out.2.2, HF.out.1]
        exact ⟨A', c', rfl, HF.out.2.1, HF.out.2.2.1.mono fun _ _ h => h.1, HF.out.2.2.2⟩
end Go.Proofs.YtmakpjcgiiljfaaDoor
