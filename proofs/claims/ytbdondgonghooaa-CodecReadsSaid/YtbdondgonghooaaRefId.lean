/-
  The document's reading of an Id, by value.
-/
import Derived.Test.YtbdondgonghooaaRefB
import Derived.Test.YtbdondgonghooaaCodecId
namespace Go.Proofs.Ytbdondgonghooaa
open Go.RowKit Codec

/-- The first k bytes, noughts behind. -/
def pad (s : List UInt8) (k : Nat) : List UInt8 := s.take k ++ List.replicate (32 - k) 0
theorem pad_length (s : List UInt8) (k : Nat) (h : k ≤ s.length) (h2 : s.length ≤ 32) : (pad s k).length = 32 := by unfold pad; simp; omega
theorem pad_step (s : List UInt8) (k : Nat) (h : k < s.length) (h2 : s.length ≤ 32) : (u8s (pad s k)).toArray.setIfInBounds k (.int .u8 (((s[k]?.getD 0).toNat : Nat) : Int)) = (u8s (pad s (k + 1))).toArray := by
  have e1 : pad s k = s.take k ++ 0 :: List.replicate (31 - k) 0 := by
    unfold pad; rw [show 32 - k = (31 - k) + 1 by omega, List.replicate_succ]
  have e2 : pad s (k + 1) = s.take k ++ s[k]?.getD 0 :: List.replicate (31 - k) 0 := by
    unfold pad
    rw [show 32 - (k + 1) = 31 - k by omega, List.take_succ_eq_append_getElem h, List.append_assoc, List.getElem?_eq_getElem h]
    rfl
  have hl : (u8s (s.take k)).length = k := by rw [u8s_length, List.length_take]; omega
  rw [e1, e2, List.setIfInBounds_toArray]
  congr 1
  rw [u8s_append, List.set_append_right _ _ (by omega), hl, Nat.sub_self, u8s_append]
  rfl
theorem pad_zero (s : List UInt8) : (u8s (pad s 0)).toArray = Z32 := by simp [pad, Z32]
theorem pad_id (l : List UInt8) (e : Int) : pad (fxB l e 32) (fxB l e 32).length = idL l e ∧ (fxB l e 32).length ≤ 32 := by
  unfold fxB idL pad
  split
  · rename_i h
    obtain ⟨_, _, h1⟩ := tkE_zero h
    have h2 : (32 : Int).toNat = 32 := rfl
    rw [h2] at h1 ⊢
    rw [List.take_of_length_le (Nat.le_refl _), List.length_take, Nat.min_eq_left h1]
    simp
  · simp

theorem three_kept {w w1 : World} {a b c d : Value} {t : TypeId} {o : Obj} (h : Below (((w.alloc (.cells #[a, b] t)).alloc (.cells #[c, d] t)).alloc o).heap.size (((w.alloc (.cells #[a, b] t)).alloc (.cells #[c, d] t)).alloc o) w1) :
    (w1.cell? ⟨w.heap.size, 0, none⟩ = some a ∧ w1.cell? ⟨w.heap.size, 1, none⟩ = some b ∧ w1.cell? ⟨w.heap.size + 1, 0, none⟩ = some c ∧ w1.cell? ⟨w.heap.size + 1, 1, none⟩ = some d) ∧
    (w1.frozen? ⟨w.heap.size, 0, none⟩ = false ∧ w1.frozen? ⟨w.heap.size, 1, none⟩ = false ∧ w1.frozen? ⟨w.heap.size + 1, 0, none⟩ = false ∧ w1.frozen? ⟨w.heap.size + 1, 1, none⟩ = false) ∧
    w1.heap[w.heap.size + 2]? = some o ∧ w1.heap[w.heap.size + 1]? = some (.cells #[c, d] t (0, 0)) ∧ w.heap.size + 2 < w1.heap.size ∧ Below w.heap.size w w1 := by
  have hs : ((w.alloc (.cells #[a, b] t)).alloc (.cells #[c, d] t)).heap.size = w.heap.size + 2 := by simp
  have h3 := heap_alloc_new ((w.alloc (.cells #[a, b] t)).alloc (.cells #[c, d] t)) o
  rw [hs] at h3
  have hb : Below ((w.alloc (.cells #[a, b] t)).alloc (.cells #[c, d] t)).heap.size ((w.alloc (.cells #[a, b] t)).alloc (.cells #[c, d] t)) w1 := ((Below.refl _ _).alloc (Nat.le_refl _) o).trans (h.mono (by simp))
  obtain ⟨k1, k2, k3⟩ := two_kept hb
  have hz := h.size
  simp at hz
  have h4 := heap_alloc_new (w.alloc (.cells #[a, b] t)) (.cells #[c, d] t)
  rw [show (w.alloc (.cells #[a, b] t)).heap.size = w.heap.size + 1 by simp] at h4
  exact ⟨k1, k2, (h.block (w.heap.size + 2) (by simp)).trans h3, (hb.block (w.heap.size + 1) (by simp)).trans h4, by omega, k3⟩

theorem rangeAt_heap {w w' : World} {b o : Nat} {cs : List Value} (e : w'.heap[b]? = w.heap[b]?) (h : w.rangeAt b o cs) : w'.rangeAt b o cs := fun j v hj => (World.cell?_of_block (w := w) (w' := w') (a := ⟨b, o + j, none⟩) e).trans (h j v hj)
theorem heap_setRow {w : World} {g : Nat} {cs : Array Value} {i : Nat} (h : i ≠ g) : (w.setRow g cs).heap[i]? = w.heap[i]? := by
  simp only [World.setRow, Array.getElem?_modify]
  rw [if_neg (fun e => h e.symm)]
theorem seg_yield {P : Program} {ops : Array Oper} {C : World → Prop} {Q' : Act → Prop} {i : Nat} {r : List Nat} {a : Act} {o : Oper} (v : Value) (ho : ops.toList[i]? = some o) (hy : YieldsIf P ops C o v a) (h : wpSeg P ops C Q' r (a.put o.dst v)) : wpSeg P ops C Q' (i :: r) a :=
  ⟨o, v, by rw [← ho, Array.getElem?_toList], hy, h⟩
/-- A function's two results that live in variables. -/
theorem results_two {P : Program} {fn : Func} {p q : Tmp} {ty uy : TypeId} (h : fn.results = #[.cell p ty, .cell q uy]) (tmps : Array Value) (w : World) (A B : Addr) (v u : Value)
    (hp : tmps.getD p undef = .pointer (some A)) (hq : tmps.getD q undef = .pointer (some B)) (hv : (loadVar ty A).run P w = .ok v w) (hu : (loadVar uy B).run P w = .ok u w) :
    (results fn tmps).run P w = .ok (.tuple #[v, u]) w := by
  have hp' : tmps[p]?.getD undef = .pointer (some A) := by simpa using hp
  have hq' : tmps[q]?.getD undef = .pointer (some B) := by simpa using hq
  simp [results, h, hp', hq', asAddr, hv, hu]
theorem strB_at (s : List UInt8) (k : Nat) (h : k < (strB s).size) : (strB s)[k] = s[k]?.getD 0 := by
  have h2 : k < s.length := by rw [strB_size] at h; exact h
  rw [List.getElem?_eq_getElem h2]; rfl

set_option linter.unusedSimpArgs false
set_option maxHeartbeats 1000000 in
set_option maxRecDepth 100000 in
theorem ref_id (l : List UInt8) (e : Int) (w : World) : Calls Try.prog 20 #[RV l e] w fun r w' => r = .returned (.tuple #[RV (fxL l e 32) (tkE l e 32), .agg (idC l e)]) ∧ Below w.heap.size w w' := by
  have hu := fun w => ref_fixed l e 32 w
  unfold idC
  rw [← (pad_id l e).1]
  have h32 := (pad_id l e).2
  generalize tkE l e 32 = e1 at *
  generalize fxL l e 32 = m at *
  generalize fxB l e 32 = s at *
  unfold RV at *
  go_enter Try.func20, Try.ntmps20
  go_wp2_with fail
  refine (hu _).mono ?_
  rintro _ w1 ⟨rfl, h2⟩
  obtain ⟨⟨c1, c2, c3, c4⟩, ⟨f1, f2, f3, f4⟩, hh, hh1, hsz, hb1⟩ := three_kept h2
  have HH := Lib.hid hh
  have HH1 := Lib.hid hh1
  have HSZ := Lib.hid hsz
  have HB := Lib.hid hb1
  clear h2 hu hh hh1 hsz hb1
  go_wp2_with fail
  generalize hW2 : World.alloc (World.setCell (World.setCell w1 _ _) _ _) _ = W2
  have hs2 : ((w1.setCell ⟨w.heap.size, 0, none⟩ (.string (strB m))).setCell ⟨w.heap.size, 1, none⟩ (.int .i64 e1)).heap.size = w1.heap.size := by simp [World.setCell]
  have hg : W2.heap[w1.heap.size]? = some (.cells Z32 42 (0, 0)) := by
    rw [← hW2]
    have := heap_alloc_new ((w1.setCell ⟨w.heap.size, 0, none⟩ (.string (strB m))).setCell ⟨w.heap.size, 1, none⟩ (.int .i64 e1)) (.cells Z32 42)
    rw [hs2] at this
    exact this
  have hT : Turned (fun b => b = w.heap.size) w1 W2 := by
    rw [← hW2]
    exact (((Turned.refl (fun b => b = w.heap.size) w1).set rfl 0 _).set rfl 1 _).alloc _
  have d1 : W2.cell? ⟨w.heap.size, 0, none⟩ = some (.string (strB m)) := by
    rw [← hW2]
    refine (((Below.refl ((w1.setCell ⟨w.heap.size, 0, none⟩ (.string (strB m))).setCell ⟨w.heap.size, 1, none⟩ (.int .i64 e1)).heap.size _).alloc (Nat.le_refl _) _).cell (p := ⟨w.heap.size, 0, none⟩) (by rw [hs2]; have := HSZ.out; show w.heap.size < _; omega)).trans ?_
    simp [go_sem, c1, c2]
  have d2 : W2.cell? ⟨w.heap.size, 1, none⟩ = some (.int .i64 e1) := by
    rw [← hW2]
    refine (((Below.refl ((w1.setCell ⟨w.heap.size, 0, none⟩ (.string (strB m))).setCell ⟨w.heap.size, 1, none⟩ (.int .i64 e1)).heap.size _).alloc (Nat.le_refl _) _).cell (p := ⟨w.heap.size, 1, none⟩) (by rw [hs2]; have := HSZ.out; show w.heap.size < _; omega)).trans ?_
    simp [go_sem, c1, c2]
  have hg1 : W2.heap[w.heap.size + 1]? = w1.heap[w.heap.size + 1]? := hT.block _ (by have := HSZ.out; omega) (by omega)
  have hg2 : W2.heap[w.heap.size + 2]? = w1.heap[w.heap.size + 2]? := hT.block _ HSZ.out (by omega)
  have hb2 : Below w.heap.size w W2 := by
    rw [← hW2]
    exact ((HB.out.setCell (p := ⟨w.heap.size, 0, none⟩) (Nat.le_refl _) _).setCell (p := ⟨w.heap.size, 1, none⟩) (Nat.le_refl _) _).alloc (by rw [hs2]; exact HB.out.size) _
  have hsz2 : w1.heap.size < W2.heap.size := by rw [← hW2]; simp [World.setCell]
  clear hW2 hs2 hT
  have HS := Lib.hid (strB_size s)
  go_loopw [6] (fun i wr => ∃ k : Nat, k ≤ s.length ∧ i = .int .i64 k ∧ wr.heap[w1.heap.size]? = some (.cells (u8s (pad s k)).toArray 42 (0, 0)) ∧ Turned (fun b => b = w1.heap.size) W2 wr) (fun i _ => s.length - (intOf i).toNat)
  case atStart => exact ⟨0, Nat.zero_le _, rfl, by rw [pad_zero]; exact hg, Turned.refl _ _⟩
  case round =>
    obtain ⟨k, hk, rfl, hgk, hTk⟩ := hrel
    have hsz := HS.out
    by_cases hlt : k < s.length
    · have hc := cell_of_cells hgk k
      have hpl := pad_length s k hk h32
      have hck : wr.cell? ⟨w1.heap.size, k, none⟩ = some (.int .u8 (((pad s k)[k]?.getD 0).toNat : Int)) := by
        rw [hc]
        have hkp : k < (pad s k).length := by omega
        simp [u8s, List.getElem?_eq_getElem hkp]
      have hfk : wr.frozen? ⟨w1.heap.size, k, none⟩ = false := by simp [World.frozen?, hgk]
      have hix := strB_at s k
      have hk32 : k < 32 := by omega
      have HG := Lib.hid hgk
      clear hc hgk hpl
      go_wp2_with fail
      go_roundw
      case rel => exact ⟨k + 1, by omega, by go_num, by rw [← pad_step s k hlt h32, List.getElem?_eq_getElem hlt]; exact set_of_cells HG.out k _, hTk.set rfl k _⟩
      case measure => simp [intOf]; omega
    · have hkl : k = s.length := by omega
      subst hkl
      have hsw := HSZ.out
      have k0 : wr.heap[w.heap.size]? = W2.heap[w.heap.size]? := hTk.block _ (by omega) (by omega)
      have k1 : wr.heap[w.heap.size + 1]? = w1.heap[w.heap.size + 1]? := (hTk.block _ (by omega) (by omega)).trans hg1
      have k2 : wr.heap[w.heap.size + 2]? = w1.heap[w.heap.size + 2]? := (hTk.block _ (by omega) (by omega)).trans hg2
      have d1 := (World.cell?_of_block (w := W2) (w' := wr) (a := ⟨w.heap.size, 0, none⟩) k0).trans d1
      have d2 := (World.cell?_of_block (w := W2) (w' := wr) (a := ⟨w.heap.size, 1, none⟩) k0).trans d2
      have d3 := (World.cell?_of_block (w := w1) (w' := wr) (a := ⟨w.heap.size + 1, 0, none⟩) k1).trans c3
      have d4 := (World.cell?_of_block (w := w1) (w' := wr) (a := ⟨w.heap.size + 1, 1, none⟩) k1).trans c4
      have g3 : wr.frozen? ⟨w.heap.size + 1, 0, none⟩ = false := by rw [← f3]; simp only [World.frozen?, k1]
      have g4 : wr.frozen? ⟨w.heap.size + 1, 1, none⟩ = false := by rw [← f4]; simp only [World.frozen?, k1]
      have HK2 := Lib.hid (k2.trans HH.out)
      have HK1 := Lib.hid (k1.trans HH1.out)
      have hbr := hb2.trans ((hTk.mono (T := (w.heap.size ≤ ·)) (fun b _ e => by have e : b = w1.heap.size := e; show w.heap.size ≤ b; omega)).below hb2.size)
      have hpl := pad_length s s.length (Nat.le_refl _) h32
      have hrg : wr.rangeAt w1.heap.size 0 (u8s (pad s s.length)) := by
        have := World.rangeAt_of_block hgk 0 32
        rwa [show ((u8s (pad s s.length)).toArray.extract 0 (0 + 32)).toList = u8s (pad s s.length) by rw [List.extract_toArray, List.toList_toArray, List.extract_eq_take_drop, List.drop_zero, Nat.zero_add, Nat.sub_zero, List.take_of_length_le (by rw [u8s_length, hpl]; omega)]] at this
      have hi32 : (Try.prog.info? 42).map (·.size) = some (u8s (pad s s.length)).length := by rw [u8s_length, hpl]; exact id_info
      have HI := Lib.hid hi32
      have HRG := Lib.hid hrg
      have HBR := Lib.hid hbr
      have hne1 : w1.heap.size ≠ w.heap.size + 1 := by omega
      clear k0 k1 k2 hgk hTk hpl hi32 hrg hbr c1 c2 c3 c4 f1 f2 f3 f4 hg hg1 hg2 hb2
      generalize hcs : u8s (pad s s.length) = cs at *
      go_wp2_with fail
      refine wp_region_plan (fun W => W.cell? ⟨w.heap.size, 0, none⟩ = some (.string (strB m)) ∧ W.cell? ⟨w.heap.size, 1, none⟩ = some (.int .i64 e1) ∧ W.rangeAt w1.heap.size 0 cs) [([0, 1], 2), ([], 3)] [] (by kernel_rfl) (by kernel_rfl) (fun _ _ d _ _ h => by cases d <;> exact h) ⟨by simp [go_sem, d1], by simp [go_sem, d2], by simpa using HRG.out⟩ ?_
      refine plan_eff ?_
      refine seg_read ?v1 (by rfl) (by rfl) ?h1 ?_
      case h1 => intro W hW; obtain ⟨e1, e2, _⟩ := hW; go_simp; with_reducible rfl
      try simp only [Act.put, List.setIfInBounds_toArray, List.set_cons_zero, List.set_cons_succ]
      refine seg_yield (.agg cs.toArray) (by rfl) (yieldsIf_load_mid (by rfl) 42 (.tmp 5) (by rfl) w1.heap.size 0 (by rfl) cs _ (fun W hW => hW.2.2) Try.underlying42 (by rfl) HI.out) ?_
      try simp only [Act.put, List.setIfInBounds_toArray, List.set_cons_zero, List.set_cons_succ]
      refine seg_nil ?_
      refine eff_step (by rfl) (fun K hK => ?_)
      go_simp
      obtain ⟨WA, hWA⟩ : ∃ WA, WA = ((wr.setCell ⟨w.heap.size + 1, 0, none⟩ (.string (strB m))).setCell ⟨w.heap.size + 1, 1, none⟩ (.int .i64 e1)).drew := ⟨_, rfl⟩
      have oth : ∀ i, i ≠ w.heap.size + 1 → WA.heap[i]? = wr.heap[i]? := fun i hi => by
        rw [hWA]; exact (Below.heap_setCell _ _ _ _ hi).trans (Below.heap_setCell _ _ _ _ hi)
      have a0 : WA.cell? ⟨w.heap.size, 0, none⟩ = some (.string (strB m)) := (World.cell?_of_block (w := wr) (w' := WA) (a := ⟨w.heap.size, 0, none⟩) (oth w.heap.size (by omega))).trans d1
      have a1 : WA.cell? ⟨w.heap.size, 1, none⟩ = some (.int .i64 e1) := (World.cell?_of_block (w := wr) (w' := WA) (a := ⟨w.heap.size, 1, none⟩) (oth w.heap.size (by omega))).trans d2
      have a2 : WA.rangeAt w1.heap.size 0 cs := rangeAt_heap (oth _ hne1) HRG.out
      have a3 := (oth (w.heap.size + 2) (by omega)).trans HK2.out
      have a4 : WA.heap[w.heap.size + 1]? = some (.cells #[.string (strB m), .int .i64 e1] 29 (0, 0)) := by
        rw [hWA]
        have := set_of_cells (set_of_cells HK1.out 0 (.string (strB m))) 1 (.int .i64 e1)
        show ((wr.setCell ⟨w.heap.size + 1, 0, none⟩ (.string (strB m))).setCell ⟨w.heap.size + 1, 1, none⟩ (.int .i64 e1)).heap[w.heap.size + 1]? = _
        simpa using this
      have a5 : Below w.heap.size w WA := by
        rw [hWA]; exact ((HBR.out.setCell (p := ⟨w.heap.size + 1, 0, none⟩) (Nat.le_succ _) _).setCell (p := ⟨w.heap.size + 1, 1, none⟩) (Nat.le_succ _) _).drew
      rw [← hWA]
      clear hWA oth d1 d2 d3 d4 g3 g4
      refine hK _ _ ⟨fun W => W.cell? ⟨w.heap.size, 0, none⟩ = some (.string (strB m)) ∧ W.cell? ⟨w.heap.size, 1, none⟩ = some (.int .i64 e1) ∧ W.rangeAt w1.heap.size 0 cs, ⟨a0, a1, a2⟩, fun W e => e, ?_⟩
      clear hK K
      refine plan_eff ?_
      refine seg_nil ?_
      refine eff_step (by rfl) (fun K hK => ?_)
      rw [if_pos (by rfl)]
      refine wp_store_row 42 (.tmp 3) (.tmp 24) (by rfl) (w.heap.size + 2) cs.toArray (by rfl) (by rfl) 42 _ a3 (by simpa using HI.out) ?_ ?_ ?_
      · rw [← hcs]; simp [u8s, pad_length s s.length (Nat.le_refl _) h32]
      · rw [← hcs]; exact u8s_all _
      have oth : ∀ i, i ≠ w.heap.size + 2 → (WA.setRow (w.heap.size + 2) cs.toArray).heap[i]? = WA.heap[i]? := fun i hi => heap_setRow hi
      have b0 := (World.cell?_of_block (w := WA) (w' := WA.setRow (w.heap.size + 2) cs.toArray) (a := ⟨w.heap.size, 0, none⟩) (oth w.heap.size (by omega))).trans a0
      have b1 := (World.cell?_of_block (w := WA) (w' := WA.setRow (w.heap.size + 2) cs.toArray) (a := ⟨w.heap.size, 1, none⟩) (oth w.heap.size (by omega))).trans a1
      have b2 : (WA.setRow (w.heap.size + 2) cs.toArray).rangeAt w1.heap.size 0 cs := rangeAt_heap (oth _ (by omega)) a2
      have b3 := setRow_at (new := cs.toArray) a3
      have b4 := (oth (w.heap.size + 1) (by omega)).trans a4
      have b5 : Below w.heap.size w (WA.setRow (w.heap.size + 2) cs.toArray) := ⟨a5.os, a5.tape, a5.output, by simpa [World.setRow] using a5.size, fun i hi => (oth i (by omega)).trans (a5.block i hi)⟩
      generalize WA.setRow (w.heap.size + 2) cs.toArray = WB at *
      refine hK _ _ ⟨fun W => W = WB, rfl, fun W e => e ▸ ⟨b0, b1, b2⟩, ?_⟩
      clear hK K
      refine plan_last ?_
      refine seg_nil ?_
      go_wp2_with fail
      refine bodyPost_ret (results_two rfl _ _ ⟨w.heap.size + 1, 0, none⟩ ⟨w.heap.size + 2, 0, none⟩ (.agg #[.string (strB m), .int .i64 e1]) (.agg cs.toArray) rfl rfl (run_loadVar_row _ _ _ _ _ _ _ b4 Try.underlying29 rfl (by kernel_rfl)) (run_loadVar_row _ _ _ _ _ _ _ b3 Try.underlying42 rfl (by simpa using HI.out))) rfl ⟨by rw [hcs], b5⟩
end Go.Proofs.Ytbdondgonghooaa
