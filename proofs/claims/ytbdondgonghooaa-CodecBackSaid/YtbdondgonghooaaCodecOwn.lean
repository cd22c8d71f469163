/-
  The statement CodecOwn: its walk.
-/
import Derived.Test.YtbdondgonghooaaCodecAwake
import Derived.Test.YtbdondgonghooaaRegion
import Derived.Lib.ConvBytes
namespace Go.Proofs.Ytbdondgonghooaa
open Go.RowKit Codec

/-- '[]byte(s)' of a string: a row of its own, that may be written. -/
theorem str_bytes (w : World) (l : List UInt8) (hl : l.length ≤ 140737488355328) : ∃ w' c, (convert 9 22 (.string ⟨l.toArray⟩)).run Try.prog w = .ok (.slice (some ⟨w.heap.size, 0, none⟩) l.length c) w' ∧
    Byt w' (w.heap.size ≤ ·) (some ⟨w.heap.size, 0, none⟩) l.length c l ∧ Below w.heap.size w w' ∧ w.heap.size < w'.heap.size ∧ ∀ i, i < l.length → w'.frozen? ⟨w.heap.size, i, none⟩ = false := by
  have hs : (⟨l.toArray⟩ : ByteArray).size = l.length := by simp [ByteArray.size]
  have hmax : l.length ≤ maxLen := by unfold maxLen; omega
  refine ⟨Lib.bytesWorld w 5 ⟨l.toArray⟩, grownCap w l.length 0 5, ?_, ⟨rfl, grownCap_ge _ _ _ _, grownCap_le_maxLen _ _ _ _ hmax, fun _ => ⟨w.heap.size, 0, rfl, Nat.le_refl _, ?_, fun i hi => ?_⟩⟩, ?_, ?_, fun i hi => ?_⟩
  · have := Lib.run_convert_string_bytes (P := Try.prog) w 9 22 5 ⟨l.toArray⟩ Try.underlying9 Try.underlying22 Try.underlying5
    rw [hs] at this
    exact this
  · rw [Lib.bytesWorld_size]; omega
  · rw [Nat.zero_add, Lib.bytesWorld_cell _ _ _ _ (by rw [hs]; exact hi)]
    simp [List.getD]
  · refine ⟨?_, ?_, ?_, by rw [Lib.bytesWorld_size]; omega, fun k hk => Lib.bytesWorld_at_old _ _ _ _ hk⟩ <;> simp [Lib.bytesWorld, World.freeze, World.alloc, World.drew, -World.alloc_eq, -World.drew_eq]
  · rw [Lib.bytesWorld_size]; omega
  · have : (Lib.bytesCells w 5 ⟨l.toArray⟩).size ≥ l.length := by simp [Lib.bytesCells]
    simp [World.frozen?, Lib.bytesWorld_at_new]
    omega

theorem Below.cell_set {w : World} {p : Addr} {u : Value} : Turned (fun b => b = p.block) w (w.setCell p u) :=
  ⟨rfl, rfl, rfl, by simp [World.setCell], fun k _ hs => Below.heap_setCell w p u k hs⟩

set_option maxHeartbeats 4000000 in
set_option maxRecDepth 100000 in
theorem walk_own {w : World} {S : Nat → Prop} {A : Option Addr} {n c : Nat} {l : List UInt8} (h : Byt w S A n c l) {x : Int} (_hx : (Lit.int .u8 x).wf = true) :
    Calls Try.prog 8 #[.slice A n c, .int .u8 x] w fun e w' => e = .returned (.bool true) ∧ Below w.heap.size w w' := by
  by_cases h3 : n < 3
  · go_enter Try.func8, Try.ntmps8
    go_wp2_with (go_at_call 9; refine (awake_true _).mono ?_; rintro _ w1 ⟨rfl, hb1⟩)
    go_ret
    exact ⟨rfl, hb1⟩
  · by_cases h200 : 200 < n
    · go_enter Try.func8, Try.ntmps8
      go_wp2_with (go_at_call 9; refine (awake_true _).mono ?_; rintro _ w1 ⟨rfl, hb1⟩)
      go_ret
      exact ⟨rfl, hb1⟩
    · by_cases hx0 : x = 0
      · subst hx0
        go_enter Try.func8, Try.ntmps8
        go_wp2_with (go_at_call 9; refine (awake_true _).mono ?_; rintro _ w1 ⟨rfl, hb1⟩)
        go_ret
        exact ⟨rfl, hb1⟩
      · have hx1 : (x == 0) = false := by simpa using hx0
        have hl := h.len
        obtain ⟨s, hs⟩ : ∃ s : ByteArray, s = ⟨l.toArray⟩ := ⟨_, rfl⟩
        have hsz : s.size = n := by rw [hs, ← hl]; simp [ByteArray.size]
        have hs2 : 2 ≤ s.size := by omega
        have e1 : (⟨(l.take 2).toArray⟩ : ByteArray) = s.extract 0 2 := by
          apply ByteArray.ext; apply Array.toList_inj.1
          rw [Lib.extract_data, hs]; simp
        have e2 : (⟨(l.drop 2).toArray⟩ : ByteArray) = s.extract 2 s.size := by
          apply ByteArray.ext; apply Array.toList_inj.1
          rw [Lib.extract_data, hsz, hs]
          rw [List.take_of_length_le (by simp; omega)]
        have HS := Lib.hid hs
        have HZ := Lib.hid hsz
        have H1 := Lib.hid e1
        have H2 := Lib.hid e2
        have HL := Lib.hid hl
        clear hs hsz e1 e2 hl
        go_enter Try.func8, Try.ntmps8
        go_wp2_with fail
        refine (awake_true _).mono ?_
        rintro _ w1 ⟨rfl, hb1⟩
        have hcv := byt_string (h.below hb1)
        rw [← HS.out] at hcv
        obtain ⟨w2, c2, hcv2, hY2, hb2, hlt2, hf2⟩ := str_bytes w1 l (by rw [HL.out]; omega)
        rw [← HS.out, HL.out] at hcv2
        rw [HL.out] at hY2 hf2
        have hb2 := hb1.trans (hb2.mono hb1.size)
        go_wp2_with fail
        refine (newReader hY2 (by omega)).mono ?_
        rintro _ w3 ⟨q, rfl, hR3, hb3⟩
        have c1 := (hY2.below hb3).row (by omega)
        obtain ⟨bb, off, hA, _, _, hc⟩ := c1
        injection hA with hA
        injection hA with hA1 hA2
        subst hA1 hA2
        have c1 := hc 1 (by omega)
        rw [Nat.zero_add] at c1
        have f1 := (hb3.frozen (p := ⟨w1.heap.size, 1, none⟩) hlt2).trans (hf2 1 (by omega))
        have hR3s := hR3.mono (T := fun b => w2.heap.size ≤ b ∧ b < w3.heap.size) fun b hb hs => ⟨hs, hb⟩
        have hb3 := hb2.trans (hb3.mono hb2.size)
        have hq := hR3.1
        clear hc hY2 hf2 hcv hcv2 hR3
        go_wp2_with fail
        have hset := fun u => Below.cell_set (w := w3) (p := ⟨w1.heap.size, 1, none⟩) (u := u)
        have hR4 := fun u => hR3s.turned (hset u) (fun b _ hs e => by have := hs.1; simp only at e; omega)
        have hb4 := fun u => hb3.setCell (p := ⟨w1.heap.size, 1, none⟩) hb1.size u
        have e1 : tkE l 0 2 = 0 := by unfold tkE; have := HL.out; simp; omega
        have e2 : fxB l 0 2 = l.take 2 := by unfold fxB; rw [e1]; rfl
        have e3 : fxL l 0 2 = l.drop 2 := by unfold fxL; rw [e1]; rfl
        have hx := fun u => fixed_any (k := 2) (hR4 u) (by rw [HL.out]; omega)
        rw [e1, e2, e3] at hx
        clear e1 e2 e3
        refine (hx _).mono ?_
        rintro _ w5 ⟨A5, n5, c5, rfl, hY5, hR5, hg5, hF5⟩
        have hn5 : n5 = 2 := by have := hY5.len; rw [List.length_take, HL.out] at this; omega
        subst hn5
        have hb5 := (hb4 _).trans (below_gr hg5 (Nat.le_trans hb2.size hq) (by simpa [World.setCell] using hb3.size))
        obtain ⟨b5, o5, rfl, hB5, hlt5, hc5⟩ := hY5.row (by omega)
        have hB5 : w3.heap.size ≤ b5 := by simpa [World.setCell] using hB5
        have c0 := hc5 0 (by omega)
        rw [Nat.add_zero] at c0
        have f0 : w5.frozen? ⟨b5, o5, none⟩ = false := (hF5 _ rfl).2 o5
        have hcd : ∀ k, (convert 22 9 (.slice (some ⟨b5, o5, none⟩) 2 c5)).run Try.prog (w5.drewN k) = .ok (.string (s.extract 0 2)) (w5.drewN k) := fun k => by
          rw [byt_string (hY5.drewN k), H1.out]
        clear hset hR4 hb4 hx hc5 hY5 hF5
        go_wp2_with fail
        go_quiet (fail)
        have hset := fun u => Below.cell_set (w := w5.drewN nq) (p := ⟨b5, o5, none⟩) (u := u)
        have hR6 := fun u => (hR5.drewN nq).turned (hset u) (fun b _ hs e => by have := hs.2; simp only at e; omega)
        have hb6 := fun u => (below_drewN hb5 nq).setCell (p := ⟨b5, o5, none⟩) (Nat.le_trans hb3.size hB5) u
        have hlt6 : b5 < w5.heap.size := hlt5
        have e1 : tkE (l.drop 2) 0 ((n : Int) - 2) = 0 := by unfold tkE; have := HL.out; simp; omega
        have e2 : fxB (l.drop 2) 0 ((n : Int) - 2) = l.drop 2 := by
          unfold fxB; rw [e1, if_pos rfl]
          exact List.take_of_length_le (by have := HL.out; simp; omega)
        have hx := fun u => fixed_any (k := (n : Int) - 2) (hR6 u) (by have := HL.out; simp; omega)
        rw [e1, e2] at hx
        clear e1 e2 hcd
        go_wp2_with fail
        refine (hx _).mono ?_
        rintro _ w7 ⟨A7, n7, c7, rfl, hY7, hR7, hg7, _⟩
        have hs7 := (hb6 (.int .u8 (bits .xor .u8 ((l.take 2)[0]?.getD 0).toNat x))).size
        have hb7 := (hb6 _).trans (below_gr hg7 (Nat.le_trans hb2.size hq) (hb6 _).size)
        have hn7 := hY7.len
        have HN7 := Lib.hid hn7
        clear hx hn7 hset hR6 c0 f0
        go_wp2_with fail
        refine (newWriter _).mono ?_
        rintro _ w8 ⟨p, rfl, hW8, hb8⟩
        have hY8 := (hY7.mono (T := fun b => b < w7.heap.size) fun b hb _ => hb).below hb8
        have hbw8 := hb7.trans (hb8.mono hb7.size)
        go_wp2_with fail
        refine (wfixed hW8 (h.below hbw8) (by simp; omega)).mono ?_
        rintro _ w9 h9
        obtain ⟨rfl, _⟩ := h9.1
        obtain ⟨hW9, hb9⟩ := h9.from hb8.size
        have hY9 := hY8.turned (h9.2.2) (fun b hb hs hs2 => by omega)
        have hbw9 := hbw8.trans (hb9.mono hb7.size)
        have hW9' := hW9.mono (T := fun b => w7.heap.size ≤ b ∧ b < w9.heap.size) fun b hb hs => ⟨hs, hb⟩
        rw [List.nil_append] at hW9'
        have ho := wout hW9' (by rw [HL.out]; omega)
        rw [HL.out] at ho
        go_wp2_with fail
        refine ho.mono ?_
        rintro _ w10 ⟨A10, c10, rfl, hY10, hb10, hF10⟩
        obtain ⟨b10, o10, rfl, hB10, hlt10, hc10⟩ := hY10.row (by omega)
        have c0 := hc10 0 (by omega)
        rw [Nat.add_zero] at c0
        have f0 : w10.frozen? ⟨b10, o10, none⟩ = false := (hF10 _ rfl).2 o10
        have hbw10 := hbw9.trans (hb10.mono hbw9.size)
        have hY10d := hY9.below hb10
        have hW10 := hW9'.turned (Turned.of_below (S := fun _ => False) hb10) (fun _ _ _ hf => hf)
        clear hc10 hY10 hF10 ho h9 hW9 hW9' hY9 hY8 hW8
        go_wp2_with fail
        generalize hu : (Value.int IntKind.u8 (bits BinOp.xor IntKind.u8 ↑(l[0]?.getD 0).toNat x)) = u
        have hset := Below.cell_set (w := w10) (p := ⟨b10, o10, none⟩) (u := u)
        have hW11 := hW10.turned hset (fun b _ hs e => by have := hs.2; simp only at e; omega)
        have hY11 := hY10d.turned hset (fun b _ hs e => by have := hb8.size; have := hb9.size; simp only at e; omega)
        have hb11 := hbw10.setCell (p := ⟨b10, o10, none⟩) (Nat.le_trans hbw9.size hB10) u
        have HW11 := Lib.hid hW11.drew
        have HY11 := Lib.hid hY11
        have hbd := hb11.drew
        have hn2 : (2 : Int) ≤ (s.size : Int) := by omega
        have HB := Lib.hid hb11
        clear hW11 hY11 hb11 hset c0 f0 hW10 hY10d hbw10 hbw9 hbw8 hb10 hb9 hb8 hb7 hb5 hb3 hb2 hb1 hR7 hR5 hg7 hg5 hR3s
        generalize hw11 : w10.setCell ⟨b10, o10, none⟩ u = w11 at *
        refine wp_region_plan (fun W => Below w11.heap.size w11 W) [([0, 1, 2, 3, 4, 5, 6, 9], 7)] [8, 10, 11, 12] (by kernel_rfl) (by kernel_rfl) (fun _ _ d _ _ h => by cases d <;> exact h) ((Below.refl _ _).drew) ?_
        refine plan_eff ?_
        refine seg_read ?v1 (by rfl) (by rfl) ?h1 ?_
        case h1 => intro W hW; go_simp; with_reducible rfl
        try simp only [Act.put, List.setIfInBounds_toArray, List.set_cons_zero, List.set_cons_succ]
        refine seg_read ?v2 (by rfl) (by rfl) ?h2 ?_
        case h2 => intro W hW; have hcv := byt_string (HY11.out.below hW); rw [H2.out] at hcv; go_simp; with_reducible rfl
        try simp only [Act.put, List.setIfInBounds_toArray, List.set_cons_zero, List.set_cons_succ]
        refine seg_read ?v3 (by rfl) (by rfl) ?h3 ?_
        case h3 => intro W hW; go_simp; with_reducible rfl
        try simp only [Act.put, List.setIfInBounds_toArray, List.set_cons_zero, List.set_cons_succ]
        refine seg_read ?v4 (by rfl) (by rfl) ?h4 ?_
        case h4 => intro W hW; go_simp; with_reducible rfl
        try simp only [Act.put, List.setIfInBounds_toArray, List.set_cons_zero, List.set_cons_succ]
        refine seg_read ?v5 (by rfl) (by rfl) ?h5 ?_
        case h5 => intro W hW; go_simp; with_reducible rfl
        try simp only [Act.put, List.setIfInBounds_toArray, List.set_cons_zero, List.set_cons_succ]
        refine seg_read ?v6 (by rfl) (by rfl) ?h6 ?_
        case h6 => intro W hW; go_simp; with_reducible rfl
        try simp only [Act.put, List.setIfInBounds_toArray, List.set_cons_zero, List.set_cons_succ]
        refine seg_read ?v7 (by rfl) (by rfl) ?h7 ?_
        case h7 => intro W hW; go_simp; with_reducible rfl
        try simp only [Act.put, List.setIfInBounds_toArray, List.set_cons_zero, List.set_cons_succ]
        refine seg_read ?v8 (by rfl) (by rfl) ?h8 ?_
        case h8 => intro W hW; go_simp; with_reducible rfl
        try simp only [Act.put, List.setIfInBounds_toArray, List.set_cons_zero, List.set_cons_succ]
        refine seg_nil ?_
        refine eff_step (by rfl) (fun K hK => ?_)
        go_simp
        refine (wout HW11.out (by rw [HL.out]; omega)).mono ?_
        rintro _ w12 ⟨A12, c12, rfl, hY12, hb12, _⟩
        have hs12 := byt_string hY12
        have hb12' : Below w.heap.size w w12 := hbd.trans (hb12.mono hbd.size)
        rw [HL.out, ← HS.out] at hs12
        rw [HL.out]
        have hb12'' : Below w11.heap.size w11 w12 := ((Below.refl _ w11).drew).trans hb12
        clear hY12 hb12
        refine hK _ _ ⟨fun W => W = w12, rfl, fun W e => e ▸ hb12'', ?_⟩
        clear hK K
        refine plan_last ?_
        repeat (refine seg_step (by rfl) (fun K hK => ?_); go_simp; refine hK _ ?_; clear hK K)
        refine seg_nil ?_
        go_wp2
        go_ret
        exact ⟨rfl, hb12'⟩
end Go.Proofs.Ytbdondgonghooaa
