/-
  Objects: what is read of bytes.
-/
import Derived.Test.YtmakpjcgiiljfaaDoorPk12
import Derived.Test.YtmakpjcgiiljfaaDoorPk07
/-! Objects: what is read of bytes. -/
namespace Go.Proofs.YtmakpjcgiiljfaaDoor
open Go.RowKit Codec

def zeroOb : Array Value := #[.int .u8 0, .slice none 0 0, .int .u64 0, .slice none 0 0, .slice none 0 0, .string ⟨#[]⟩]
theorem zeroOb_ob : zeroOb = obV atZ obZ := rfl
theorem obV_size (p : At) (x : Ob) : (obV p x).size = 6 := rfl
/-- Within 'read'. -/
structure ReS (S : Nat → Prop) (w W : World) (p q6 : Nat) (l : List UInt8) (e : Int) (P : At) (x : Ob) : Prop where
  rd : Rd W (fun k => S k ∧ k < w.heap.size) p l e
  gr : w.grownBy W (some p)
  res : W.heap[w.heap.size]? = some (.cells zeroOb 27 (0, 0))
  row : W.heap[q6]? = some (.cells (obV P x) 27 (0, 0))
  ob : Obm W (fun k => w.heap.size < k ∧ k ≠ q6) P x
  gt : w.heap.size < q6
section
variable {S : Nat → Prop} {w W W' : World} {p q6 : Nat} {l l' : List UInt8} {e e' : Int} {P : At} {x : Ob}
theorem ReS.lt (h : ReS S w W p q6 l e P x) : p < w.heap.size := h.rd.1.2
theorem ReS.call (h : ReS S w W p q6 l e P x) (hr : Rd W' (fun k => S k ∧ k < w.heap.size) p l' e') (hg : W.grownBy W' (some p)) : ReS S w W' p q6 l' e' P x :=
  have h1 := h.lt
  have h2 := h.gt
  ⟨hr, gr_trans h.gr hg, (hg.block _ (lt_of_cells h.res) (fun e => by injection e; omega)).trans h.res, (hg.block _ (lt_of_cells h.row) (fun e => by injection e; omega)).trans h.row,
   h.ob.turned (T := fun k => k = p) (Turned.of_gr hg fun g e => by injection e with e; exact e.symm) fun k _ hk e => by have := hk.1; omega, h.gt⟩
theorem ReS.later (h : ReS S w W p q6 l e P x) (hb : Below W.heap.size W W') : ReS S w W' p q6 l e P x :=
  h.call (h.rd.below hb) (gr_below (gr_refl W _) hb)
/-- A field is stored. -/
theorem ReS.set (h : ReS S w W p q6 l e P x) (j : Nat) (u : Value) (P' : At) (x' : Ob) (hs : (obV P x).setIfInBounds j u = obV P' x') (ho : Obm W (fun k => w.heap.size < k ∧ k ≠ q6) P' x') : ReS S w (W.setCell ⟨q6, j, none⟩ u) p q6 l e P' x' :=
  have h1 := h.lt
  have h2 := h.gt
  have hg : W.grownBy (W.setCell ⟨q6, j, none⟩ u) (some q6) := gr_set (gr_refl W _) j u
  ⟨h.rd.grown hg (fun g e => by injection e with e; subst e; intro hs; have := hs.2; omega), ⟨hg.os.trans h.gr.os, hg.tape.trans h.gr.tape, hg.output.trans h.gr.output, Nat.le_trans h.gr.size hg.size, fun i hi hne => (hg.block i (Nat.lt_of_lt_of_le hi h.gr.size) (fun e => by injection e; omega)).trans (h.gr.block i hi hne)⟩,
   (hg.block _ (lt_of_cells h.res) (fun e => by injection e; omega)).trans h.res, by rw [set_of_cells h.row, hs],
   ho.turned (T := fun k => k = q6) (Turned.of_gr hg fun g e => by injection e with e; exact e.symm) fun k _ hk e => hk.2 e, h.gt⟩
end
theorem obj_kind (w : World) (S : Nat → Prop) {k : Nat} (hk : k < 256) : Obm w S atZ { obZ with k := k } :=
  ⟨⟨⟨hk, obZ_wf.z, obZ_wf.ids, obZ_wf.es⟩, (obj_zero w S).o.lb, (obj_zero w S).o.nm, (obj_zero w S).o.bl, (obj_zero w S).o.ids, (obj_zero w S).o.es⟩, Byt.nil _ _ _ _ (Nat.zero_le _)⟩
/-- What read ends in. -/
def RePost (S : Nat → Prop) (w : World) (p : Nat) (r : Ob × Int × List UInt8 × Int) (e : Ending) (w' : World) : Prop :=
  ∃ P, e = .returned (.tuple #[.agg (obV P r.1), .int .i64 r.2.1]) ∧ Obm w' (w.heap.size ≤ ·) P r.1 ∧ Rd w' S p r.2.2.1 r.2.2.2 ∧ w.grownBy w' (some p)
theorem build_ob : ∀ W, (Instr.build 27 #[]).run Tryd.prog W = .ok (.agg #[.int .u8 0, .slice none 0 0, .int .u64 0, .slice none 0 0, .slice none 0 0, .string ⟨#[]⟩]) W := fun W => by kernel_rfl
theorem built_ob (k : Value) (hk : k.oneCell' = true) : Tryd.prog.built 27 [(0, k)] = some #[k, .slice none 0 0, .int .u64 0, .slice none 0 0, .slice none 0 0, .string ⟨#[]⟩] := by
  cases k <;> first | (cases hk; done) | kernel_rfl
theorem ego_nm : ∀ (M : Nat) (acc : List En) (l : List UInt8) (e : Int), (∀ x ∈ acc, x.1.length ≤ 255) → ∀ x ∈ (ego M acc l e).1, x.1.length ≤ 255
  | 0, acc, l, e, h => by simpa [ego] using h
  | M + 1, acc, l, e, h => by
    unfold ego
    refine ego_nm M _ _ _ fun x hx => ?_
    rcases List.mem_append.1 hx with hx | hx
    · exact h x hx
    · rw [List.mem_singleton.1 hx]
      exact by_few l e 255
set_option maxHeartbeats 8000000 in
set_option maxRecDepth 100000 in
theorem read_err {w : World} {S : Nat → Prop} {p : Nat} {l : List UInt8} (h : Rd w S p l 0) (h0 : uiE l 0 ≠ 0) :
    Calls Tryd.prog 31 #[.pointer (some ⟨p, 0, none⟩)] w (RePost S w p (readO l)) := by
  have hzo : ∀ W, (zeroValue 27).run Tryd.prog W = .ok (.agg zeroOb) W := zero_ob
  have HZO : Hid (zeroOb = obV atZ obZ) := Lib.hid rfl
  have hb0 : Below w.heap.size w (w.alloc (.cells zeroOb 27)) := (Below.refl _ _).alloc (Nat.le_refl _) _
  have hr0 := (h.mono (T := fun k => S k ∧ k < w.heap.size) fun k hk hs => ⟨hs, hk⟩).below hb0
  have hu := uint_any hr0
  have hul := uiL_length l 0
  have HN : Hid ((w.alloc (.cells zeroOb 27)).heap[w.heap.size]? = some (.cells zeroOb 27 (0, 0)) ∧ Below w.heap.size w (w.alloc (.cells zeroOb 27)) ∧ p < w.heap.size) := Lib.hid ⟨heap_alloc_new w _, hb0, h.lt⟩
  clear hb0 hr0
  have HRO : Hid (readO l = (obZ, uiE l 0, uiL l 0, uiE l 0)) := Lib.hid (by unfold readO; rw [if_pos h0])
  have hne : (uiE l 0 != 0) = true := by simpa using h0
  have HNE := Lib.hid h0
  clear h0
  obtain ⟨e1, he1⟩ : ∃ e1, e1 = uiE l 0 := ⟨_, rfl⟩
  rw [← he1] at hu HRO hne HNE
  clear he1
  obtain ⟨l1, hl1⟩ : ∃ l1, l1 = uiL l 0 := ⟨_, rfl⟩
  rw [← hl1] at hu HRO
  clear h hul hl1
  obtain ⟨ZO, hZO⟩ : ∃ ZO, ZO = zeroOb := ⟨_, rfl⟩
  rw [← hZO] at hu hzo HN HZO
  have HZS : Hid (ZO.size = 6 ∧ ZO.all (·.oneCell') = true ∧ ZO = obV atZ obZ ∧ zeroOb = ZO) := Lib.hid ⟨by rw [hZO]; rfl, by rw [hZO]; exact obV_one atZ obZ, by rw [hZO]; rfl, hZO.symm⟩
  have hbd : ∀ W, (Instr.build 27 #[]).run Tryd.prog W = .ok (.agg ZO) W := fun W => by rw [hZO]; unfold zeroOb; exact build_ob W
  clear hZO HZO
  go_enter Tryd.func31, Tryd.ntmps31
  go_upto_region 2 with (go_at_call 44; refine hu.mono ?_; clear hu; rintro _ w2 ⟨rfl, hr2, hg2⟩)
  have her := err_rd hr2
  have H2 : Hid (w2.heap[w.heap.size]? = some (.cells ZO 27 (0, 0)) ∧ w.grownBy w2 (some p)) := Lib.hid ⟨(hg2.block w.heap.size (lt_of_cells HN.out.1) (fun e => by injection e with e; have := HN.out.2.2; omega)).trans HN.out.1, gr_trans (gr_below (gr_refl w _) HN.out.2.1) hg2⟩
  have HR2 := Lib.hid hr2
  clear hg2 hr2
  go_wp2_with (first
    | (go_at_call 45; refine her.mono ?_; clear her; rintro _ _ ⟨rfl, rfl⟩)
    | (refine wpList_build0 (by rfl) 27 (by rfl) (.agg ZO) hbd ?_)
    | (refine wpList_store_row (by rfl) 27 (.tmp 2) (.tmp 14) (by rfl) w.heap.size ZO (by rfl) (by rfl) 27 _ H2.out.1 (by rw [HZS.out.1]; exact ob_info) (by rw [HZS.out.1]) HZS.out.2.1 ?_))
  have hrf : (w2.setRow w.heap.size ZO).heap[w.heap.size]? = some (.cells ZO 27 (0, 0)) := setRow_at H2.out.1
  have hg : w2.grownBy (w2.setRow w.heap.size ZO) (some w.heap.size) := gr_row w2 _ _
  refine bodyPost_ret (results_ct rfl _ _ ⟨w.heap.size, 0, none⟩ (.agg ZO) (.int .i64 e1) rfl rfl (run_loadVar_row _ _ _ _ _ _ _ hrf Tryd.underlying27 rfl (by rw [HZS.out.1]; exact ob_info))) rfl ⟨atZ, by rw [HRO.out, ← HZS.out.2.2.1], by rw [HRO.out]; exact obj_zero _ _, ?_, ?_⟩
  · rw [HRO.out]
    exact (HR2.out.grown hg fun g e => by injection e with e; subst e; intro hs; have := hs.2; omega).mono fun _ _ h => h.1
  · have h1 := H2.out.2
    exact ⟨hg.os.trans h1.os, hg.tape.trans h1.tape, hg.output.trans h1.output, Nat.le_trans h1.size hg.size, fun i hi hne => (hg.block i (Nat.lt_of_lt_of_le hi h1.size) (fun e => by injection e; omega)).trans (h1.block i hi hne)⟩
set_option maxHeartbeats 8000000 in
set_option maxRecDepth 100000 in
theorem read_kind {w : World} {S : Nat → Prop} {p : Nat} {l : List UInt8} (h : Rd w S p l 0) (h0 : uiE l 0 = 0) (hk : uiX l 0 < 1 ∨ 4 < uiX l 0) :
    Calls Tryd.prog 31 #[.pointer (some ⟨p, 0, none⟩)] w (RePost S w p (readO l)) := by
  have hzo : ∀ W, (zeroValue 27).run Tryd.prog W = .ok (.agg zeroOb) W := zero_ob
  have HZO : Hid (zeroOb = obV atZ obZ) := Lib.hid rfl
  have hb0 : Below w.heap.size w (w.alloc (.cells zeroOb 27)) := (Below.refl _ _).alloc (Nat.le_refl _) _
  have hr0 := (h.mono (T := fun k => S k ∧ k < w.heap.size) fun k hk hs => ⟨hs, hk⟩).below hb0
  have hu := uint_any hr0
  have hul := uiL_length l 0
  have HN : Hid ((w.alloc (.cells zeroOb 27)).heap[w.heap.size]? = some (.cells zeroOb 27 (0, 0)) ∧ Below w.heap.size w (w.alloc (.cells zeroOb 27)) ∧ p < w.heap.size) := Lib.hid ⟨heap_alloc_new w _, hb0, h.lt⟩
  clear hb0 hr0
  have HRO : Hid (readO l = (obZ, 11, uiL l 0, uiE l 0)) := Lib.hid (by unfold readO; rw [if_neg (by rw [h0]; simp), if_pos hk, h0])
  have HK := Lib.hid hk
  rw [h0] at hu HRO
  obtain ⟨M, hM⟩ : ∃ M, M = uiX l 0 := ⟨_, rfl⟩
  rw [← hM] at hu HK hk
  have hg1 : (M : Int) < 1 ∨ ¬ (M : Int) < 1 := by omega
  clear hM h0
  obtain ⟨l1, hl1⟩ : ∃ l1, l1 = uiL l 0 := ⟨_, rfl⟩
  rw [← hl1] at hu HRO
  clear h hul hl1
  obtain ⟨ZO, hZO⟩ : ∃ ZO, ZO = zeroOb := ⟨_, rfl⟩
  rw [← hZO] at hu hzo HN HZO
  have HZS : Hid (ZO.size = 6 ∧ ZO.all (·.oneCell') = true ∧ ZO = obV atZ obZ ∧ zeroOb = ZO) := Lib.hid ⟨by rw [hZO]; rfl, by rw [hZO]; exact obV_one atZ obZ, by rw [hZO]; rfl, hZO.symm⟩
  have hbd : ∀ W, (Instr.build 27 #[]).run Tryd.prog W = .ok (.agg ZO) W := fun W => by rw [hZO]; unfold zeroOb; exact build_ob W
  clear hZO HZO
  clear hg1
  by_cases h1 : M < 1
  · have h1' : (M : Int) < 1 := by omega
    clear h1 hk
    go_enter Tryd.func31, Tryd.ntmps31
    go_upto_region 2 with (go_at_call 44; refine hu.mono ?_; clear hu; rintro _ w2 ⟨rfl, hr2, hg2⟩)
    have her := err_rd hr2
    have H2 : Hid (w2.heap[w.heap.size]? = some (.cells ZO 27 (0, 0)) ∧ w.grownBy w2 (some p)) := Lib.hid ⟨(hg2.block w.heap.size (lt_of_cells HN.out.1) (fun e => by injection e with e; have := HN.out.2.2; omega)).trans HN.out.1, gr_trans (gr_below (gr_refl w _) HN.out.2.1) hg2⟩
    have HR2 := Lib.hid hr2
    clear hg2 hr2
    go_wp2_with (first
      | (go_at_call 45; refine her.mono ?_; clear her; rintro _ _ ⟨rfl, rfl⟩)
      | (refine wpList_build0 (by rfl) 27 (by rfl) (.agg ZO) hbd ?_)
      | (refine wpList_store_row (by rfl) 27 (.tmp 2) (.tmp 22) (by rfl) w.heap.size ZO (by rfl) (by rfl) 27 _ H2.out.1 (by rw [HZS.out.1]; exact ob_info) (by rw [HZS.out.1]) HZS.out.2.1 ?_))
    have hrf : (w2.setRow w.heap.size ZO).heap[w.heap.size]? = some (.cells ZO 27 (0, 0)) := setRow_at H2.out.1
    have hg : w2.grownBy (w2.setRow w.heap.size ZO) (some w.heap.size) := gr_row w2 _ _
    refine bodyPost_ret (results_ct rfl _ _ ⟨w.heap.size, 0, none⟩ (.agg ZO) (.int .i64 11) rfl rfl (run_loadVar_row _ _ _ _ _ _ _ hrf Tryd.underlying27 rfl (by rw [HZS.out.1]; exact ob_info))) rfl ⟨atZ, by rw [HRO.out, ← HZS.out.2.2.1], by rw [HRO.out]; exact obj_zero _ _, ?_, ?_⟩
    · rw [HRO.out]
      exact (HR2.out.grown hg fun g e => by injection e with e; subst e; intro hs; have := hs.2; omega).mono fun _ _ h => h.1
    · have h1 := H2.out.2
      exact ⟨hg.os.trans h1.os, hg.tape.trans h1.tape, hg.output.trans h1.output, Nat.le_trans h1.size hg.size, fun i hi hne => (hg.block i (Nat.lt_of_lt_of_le hi h1.size) (fun e => by injection e; omega)).trans (h1.block i hi hne)⟩
  · have h1' : ¬ (M : Int) < 1 := by omega
    have h2' : (M : Int) > 4 := by omega
    clear h1 hk
    go_enter Tryd.func31, Tryd.ntmps31
    go_upto_region 2 with (go_at_call 44; refine hu.mono ?_; clear hu; rintro _ w2 ⟨rfl, hr2, hg2⟩)
    have her := err_rd hr2
    have H2 : Hid (w2.heap[w.heap.size]? = some (.cells ZO 27 (0, 0)) ∧ w.grownBy w2 (some p)) := Lib.hid ⟨(hg2.block w.heap.size (lt_of_cells HN.out.1) (fun e => by injection e with e; have := HN.out.2.2; omega)).trans HN.out.1, gr_trans (gr_below (gr_refl w _) HN.out.2.1) hg2⟩
    have HR2 := Lib.hid hr2
    clear hg2 hr2
    go_wp2_with (first
      | (go_at_call 45; refine her.mono ?_; clear her; rintro _ _ ⟨rfl, rfl⟩)
      | (refine wpList_build0 (by rfl) 27 (by rfl) (.agg ZO) hbd ?_)
      | (refine wpList_store_row (by rfl) 27 (.tmp 2) (.tmp 22) (by rfl) w.heap.size ZO (by rfl) (by rfl) 27 _ H2.out.1 (by rw [HZS.out.1]; exact ob_info) (by rw [HZS.out.1]) HZS.out.2.1 ?_))
    have hrf : (w2.setRow w.heap.size ZO).heap[w.heap.size]? = some (.cells ZO 27 (0, 0)) := setRow_at H2.out.1
    have hg : w2.grownBy (w2.setRow w.heap.size ZO) (some w.heap.size) := gr_row w2 _ _
    refine bodyPost_ret (results_ct rfl _ _ ⟨w.heap.size, 0, none⟩ (.agg ZO) (.int .i64 11) rfl rfl (run_loadVar_row _ _ _ _ _ _ _ hrf Tryd.underlying27 rfl (by rw [HZS.out.1]; exact ob_info))) rfl ⟨atZ, by rw [HRO.out, ← HZS.out.2.2.1], by rw [HRO.out]; exact obj_zero _ _, ?_, ?_⟩
    · rw [HRO.out]
      exact (HR2.out.grown hg fun g e => by injection e with e; subst e; intro hs; have := hs.2; omega).mono fun _ _ h => h.1
    · have h1 := H2.out.2
      exact ⟨hg.os.trans h1.os, hg.tape.trans h1.tape, hg.output.trans h1.output, Nat.le_trans h1.size hg.size, fun i hi hne => (hg.block i (Nat.lt_of_lt_of_le hi h1.size) (fun e => by injection e; omega)).trans (h1.block i hi hne)⟩
set_option maxHeartbeats 8000000 in
set_option maxRecDepth 100000 in
theorem read1 {w : World} {S : Nat → Prop} {p : Nat} {l : List UInt8} (h : Rd w S p l 0) (hl : l.length ≤ 140737488355328) (h0 : uiE l 0 = 0) (hk : uiX l 0 = 1) :
    Calls Tryd.prog 31 #[.pointer (some ⟨p, 0, none⟩)] w (RePost S w p (readO l)) := by
  have hzo : ∀ W, (zeroValue 27).run Tryd.prog W = .ok (.agg zeroOb) W := zero_ob
  have HZO : Hid (zeroOb = obV atZ obZ) := Lib.hid rfl
  have hb0 : Below w.heap.size w (w.alloc (.cells zeroOb 27)) := (Below.refl _ _).alloc (Nat.le_refl _) _
  have hr0 := (h.mono (T := fun k => S k ∧ k < w.heap.size) fun k hk hs => ⟨hs, hk⟩).below hb0
  have hu := uint_any hr0
  have hul := uiL_length l 0
  have HN : Hid ((w.alloc (.cells zeroOb 27)).heap[w.heap.size]? = some (.cells zeroOb 27 (0, 0)) ∧ Below w.heap.size w (w.alloc (.cells zeroOb 27)) ∧ p < w.heap.size) := Lib.hid ⟨heap_alloc_new w _, hb0, h.lt⟩
  clear hb0 hr0
  rw [h0, hk] at hu
  have hu : Calls Tryd.prog 44 #[.pointer (some ⟨p, 0, none⟩)] (w.alloc (.cells zeroOb 27)) fun r w' => r = .returned (.int .u64 1) ∧ Rd w' (fun k => S k ∧ k < w.heap.size) p (uiL l 0) 0 ∧ (w.alloc (.cells zeroOb 27)).grownBy w' (some p) := hu
  have HRO := Lib.hid (And.intro h0 hk)
  obtain ⟨l1, hl1⟩ : ∃ l1, l1 = uiL l 0 := ⟨_, rfl⟩
  rw [← hl1] at hu
  have HL : Hid (l1.length ≤ 140737488355328 ∧ l1 = uiL l 0) := Lib.hid ⟨by rw [hl1]; omega, hl1⟩
  clear h hl hul hl1 h0 hk
  obtain ⟨ZO, hZO⟩ : ∃ ZO, ZO = zeroOb := ⟨_, rfl⟩
  rw [← hZO] at hu hzo HN
  have HZS : Hid (ZO.size = 6 ∧ zeroOb = ZO) := Lib.hid ⟨by rw [hZO]; rfl, hZO.symm⟩
  clear hZO HZO
  obtain ⟨KO, hKO⟩ : ∃ KO, KO = obV atZ { obZ with k := 1 } := ⟨_, rfl⟩
  have hbt : Tryd.prog.built 27 [(0, .int .u8 1)] = some KO := by rw [hKO]; exact built_ob _ rfl
  have HKO : Hid (KO = obV atZ { obZ with k := 1 } ∧ KO.size = 6 ∧ KO.all (·.oneCell') = true) := Lib.hid ⟨hKO, by rw [hKO]; rfl, by rw [hKO]; exact obV_one _ _⟩
  clear hKO
  go_enter Tryd.func31, Tryd.ntmps31
  go_upto_region 2 with (go_at_call 44; refine hu.mono ?_; clear hu; rintro _ w2 ⟨rfl, hr2, hg2⟩)
  have her := err_rd hr2
  have H2 : Hid (w2.heap[w.heap.size]? = some (.cells ZO 27 (0, 0)) ∧ w.grownBy w2 (some p) ∧ w.heap.size < w2.heap.size) := Lib.hid ⟨(hg2.block w.heap.size (lt_of_cells HN.out.1) (fun e => by injection e with e; have := HN.out.2.2; omega)).trans HN.out.1, gr_trans (gr_below (gr_refl w _) HN.out.2.1) hg2, Nat.lt_of_lt_of_le (lt_of_cells HN.out.1) hg2.size⟩
  have HR2 := Lib.hid hr2
  clear hg2 hr2
  go_upto_region 8 with (first
    | (go_at_call 45; refine her.mono ?_; clear her; rintro _ _ ⟨rfl, rfl⟩)
    | (refine wpList_built (by rfl) 27 #[(0, .tmp 24)] (by rfl) [(0, .int .u8 1)] (by simp [Act.eval]) KO hbt ?_)
    | (refine wpList_store_row (by rfl) 27 (.tmp 6) (.tmp 25) (by rfl) w2.heap.size KO (by rfl) (by rfl) 27 _ (heap_alloc_new w2 _) (by rw [HKO.out.2.1]; exact ob_info) (by rw [HKO.out.2.1, HZS.out.1]) HKO.out.2.2 ?_))
  obtain ⟨q6, hq6⟩ : ∃ q6, q6 = w2.heap.size := ⟨_, rfl⟩
  have hal : Below w2.heap.size w2 ((w2.alloc (.cells ZO 27)).setRow w2.heap.size KO) := below_setRow ((Below.refl _ _).alloc (Nat.le_refl _) _) (Nat.le_refl _) _
  have hpa : ((w2.alloc (.cells ZO 27)).setRow w2.heap.size KO).heap[w2.heap.size]? = some (.cells KO 27 (0, 0)) := setRow_at (heap_alloc_new w2 _)
  have H3 : Hid (ReS S w ((w2.alloc (.cells ZO 27)).setRow w2.heap.size KO) p q6 l1 0 atZ { obZ with k := 1 }) := Lib.hid ⟨HR2.out.below hal, gr_below H2.out.2.1 hal, (hal.block _ (lt_of_cells H2.out.1)).trans (by rw [HZS.out.2]; exact H2.out.1), by rw [hq6, ← HKO.out.1]; exact hpa, obj_kind _ _ (by decide), by have := H2.out.2.2; omega⟩
  clear hal hpa hzo hbt
  generalize (w2.alloc (.cells ZO 27)).setRow w2.heap.size KO = w3 at *
  rw [← hq6]
  clear hq6
  have hby := bytes_any (most := 32768) H3.out.rd HL.out.1 (by omega)
  obtain ⟨B, hB⟩ : ∃ B, B = byB l1 0 32768 := ⟨_, rfl⟩
  obtain ⟨l2, hl2⟩ : ∃ l2, l2 = byL l1 0 32768 := ⟨_, rfl⟩
  obtain ⟨e2, he2⟩ : ∃ e2, e2 = byE l1 0 32768 := ⟨_, rfl⟩
  rw [← hB, ← hl2, ← he2] at hby
  have HRO2 : Hid (readO l = ({ obZ with k := 1, b := B }, 0, l2, e2) ∧ B.length ≤ 32768) := Lib.hid ⟨by unfold readO; rw [if_neg (by rw [HRO.out.1]; simp), if_neg (by rw [HRO.out.2]; omega), if_pos HRO.out.2, ← HL.out.2, ← hB, ← hl2, ← he2], by rw [hB]; exact by_few l1 0 32768⟩
  clear hB hl2 he2
  go_upto_region 21 with (go_at_call 46; refine hby.mono ?_; clear hby; rintro _ w5 ⟨A5, n5, c5, rfl, hy5, hr5, hg5, _⟩; have H4 := Lib.hid (H3.out.call hr5 hg5); have HY5 : Hid (Byt w5 (fun k => w.heap.size < k ∧ k ≠ q6) A5 n5 c5 B) := Lib.hid (hy5.mono fun k _ (hk : w3.heap.size ≤ k) => by have h1 := lt_of_cells H3.out.row; have h2 := H3.out.gt; exact ⟨by omega, by omega⟩); have hc1 := cell_of_cells H4.out.row 1; have hf1 := free_of_cells H4.out.row 1; have hs1 := lt_of_cells H4.out.row; have hc1 : w5.cell? ⟨q6, 1, none⟩ = some (.slice none 0 0) := hc1; clear hy5 hr5 hg5)
  have H5 := Lib.hid (H4.out.set 1 (.slice A5 n5 c5) ⟨A5, n5, c5, none, 0, 0, none, 0, 0⟩ { obZ with k := 1, b := B } rfl ⟨⟨⟨(by decide : 1 < 256), obZ_wf.z, obZ_wf.ids, obZ_wf.es⟩, (obj_zero w5 (fun _ => False)).o.lb, (obj_zero w5 (fun _ => False)).o.nm, (by have := HRO2.out.2; unfold maxLen; simp only; omega), (obj_zero _ (fun _ => False)).o.ids.mono fun _ _ h => h.elim, (obj_zero _ (fun _ => False)).o.es.mono fun _ _ h => h.elim⟩, HY5.out⟩)
  clear hc1 hf1 hs1 H4 HY5
  generalize w5.setCell ⟨q6, 1, none⟩ (.slice A5 n5 c5) = w6 at *
  obtain ⟨XO, hXO⟩ : ∃ XO, XO = obV ⟨A5, n5, c5, none, 0, 0, none, 0, 0⟩ { obZ with k := 1, b := B } := ⟨_, rfl⟩
  have HXO : Hid (XO = obV ⟨A5, n5, c5, none, 0, 0, none, 0, 0⟩ { obZ with k := 1, b := B } ∧ XO.size = 6 ∧ XO.all (·.oneCell') = true) := Lib.hid ⟨hXO, by rw [hXO]; rfl, by rw [hXO]; exact obV_one _ _⟩
  have HRW : Hid (w6.heap[q6]? = some (.cells XO 27 (0, 0)) ∧ w6.heap[w.heap.size]? = some (.cells ZO 27 (0, 0))) := Lib.hid ⟨by rw [hXO]; exact H5.out.row, by have := H5.out.res; rwa [HZS.out.2] at this⟩
  clear hXO
  go_wp2_with (first
    | (refine wpList_load_row (by rfl) 27 (.tmp 6) (by rfl) q6 (by rfl) 27 XO (0, 0) _ HRW.out.1 Tryd.underlying27 (by rfl) (by rw [HXO.out.2.1]; exact ob_info) ?_)
    | (refine wpList_store_row (by rfl) 27 (.tmp 2) (.tmp 64) (by rfl) w.heap.size XO (by rfl) (by rfl) 27 _ HRW.out.2 (by rw [HXO.out.2.1]; exact ob_info) (by rw [HXO.out.2.1, HZS.out.1]) HXO.out.2.2 ?_))
  have hrf : (w6.setRow w.heap.size XO).heap[w.heap.size]? = some (.cells XO 27 (0, 0)) := setRow_at HRW.out.2
  have hg : w6.grownBy (w6.setRow w.heap.size XO) (some w.heap.size) := gr_row w6 _ _
  refine bodyPost_ret (results_ct rfl _ _ ⟨w.heap.size, 0, none⟩ (.agg XO) (.int .i64 0) rfl rfl (run_loadVar_row _ _ _ _ _ _ _ hrf Tryd.underlying27 rfl (by rw [HXO.out.2.1]; exact ob_info))) rfl ⟨⟨A5, n5, c5, none, 0, 0, none, 0, 0⟩, by rw [HRO2.out.1, HXO.out.1], by rw [HRO2.out.1]; exact (H5.out.ob.turned (T := fun k => k = w.heap.size) (Turned.of_gr hg fun g e => by injection e with e; exact e.symm) fun k _ hk e => by have := hk.1; omega).mono fun k _ hk => by have := hk.1; omega, ?_, ?_⟩
  · rw [HRO2.out.1]
    exact (H5.out.rd.grown hg fun g e => by injection e with e; subst e; intro hs; have := hs.2; omega).mono fun _ _ h => h.1
  · have h1 := H5.out.gr
    exact ⟨hg.os.trans h1.os, hg.tape.trans h1.tape, hg.output.trans h1.output, Nat.le_trans h1.size hg.size, fun i hi hne => (hg.block i (Nat.lt_of_lt_of_le hi h1.size) (fun e => by injection e; omega)).trans (h1.block i hi hne)⟩
set_option maxHeartbeats 8000000 in
set_option maxRecDepth 100000 in
theorem read2 {w : World} {S : Nat → Prop} {p : Nat} {l : List UInt8} (h : Rd w S p l 0) (hl : l.length ≤ 140737488355328) (h0 : uiE l 0 = 0) (hk : uiX l 0 = 2) :
    Calls Tryd.prog 31 #[.pointer (some ⟨p, 0, none⟩)] w (RePost S w p (readO l)) := by
  have hzo : ∀ W, (zeroValue 27).run Tryd.prog W = .ok (.agg zeroOb) W := zero_ob
  have HZO : Hid (zeroOb = obV atZ obZ) := Lib.hid rfl
  have hb0 : Below w.heap.size w (w.alloc (.cells zeroOb 27)) := (Below.refl _ _).alloc (Nat.le_refl _) _
  have hr0 := (h.mono (T := fun k => S k ∧ k < w.heap.size) fun k hk hs => ⟨hs, hk⟩).below hb0
  have hu := uint_any hr0
  have hul := uiL_length l 0
  have HN : Hid ((w.alloc (.cells zeroOb 27)).heap[w.heap.size]? = some (.cells zeroOb 27 (0, 0)) ∧ Below w.heap.size w (w.alloc (.cells zeroOb 27)) ∧ p < w.heap.size) := Lib.hid ⟨heap_alloc_new w _, hb0, h.lt⟩
  clear hb0 hr0
  rw [h0, hk] at hu
  have hu : Calls Tryd.prog 44 #[.pointer (some ⟨p, 0, none⟩)] (w.alloc (.cells zeroOb 27)) fun r w' => r = .returned (.int .u64 2) ∧ Rd w' (fun k => S k ∧ k < w.heap.size) p (uiL l 0) 0 ∧ (w.alloc (.cells zeroOb 27)).grownBy w' (some p) := hu
  have HRO := Lib.hid (And.intro h0 hk)
  obtain ⟨l1, hl1⟩ : ∃ l1, l1 = uiL l 0 := ⟨_, rfl⟩
  rw [← hl1] at hu
  have HL : Hid (l1.length ≤ 140737488355328 ∧ l1 = uiL l 0) := Lib.hid ⟨by rw [hl1]; omega, hl1⟩
  clear h hl hul hl1 h0 hk
  obtain ⟨ZO, hZO⟩ : ∃ ZO, ZO = zeroOb := ⟨_, rfl⟩
  rw [← hZO] at hu hzo HN
  have HZS : Hid (ZO.size = 6 ∧ zeroOb = ZO) := Lib.hid ⟨by rw [hZO]; rfl, hZO.symm⟩
  clear hZO HZO
  obtain ⟨KO, hKO⟩ : ∃ KO, KO = obV atZ { obZ with k := 2 } := ⟨_, rfl⟩
  have hbt : Tryd.prog.built 27 [(0, .int .u8 2)] = some KO := by rw [hKO]; exact built_ob _ rfl
  have HKO : Hid (KO = obV atZ { obZ with k := 2 } ∧ KO.size = 6 ∧ KO.all (·.oneCell') = true) := Lib.hid ⟨hKO, by rw [hKO]; rfl, by rw [hKO]; exact obV_one _ _⟩
  clear hKO
  go_enter Tryd.func31, Tryd.ntmps31
  go_upto_region 2 with (go_at_call 44; refine hu.mono ?_; clear hu; rintro _ w2 ⟨rfl, hr2, hg2⟩)
  have her := err_rd hr2
  have H2 : Hid (w2.heap[w.heap.size]? = some (.cells ZO 27 (0, 0)) ∧ w.grownBy w2 (some p) ∧ w.heap.size < w2.heap.size) := Lib.hid ⟨(hg2.block w.heap.size (lt_of_cells HN.out.1) (fun e => by injection e with e; have := HN.out.2.2; omega)).trans HN.out.1, gr_trans (gr_below (gr_refl w _) HN.out.2.1) hg2, Nat.lt_of_lt_of_le (lt_of_cells HN.out.1) hg2.size⟩
  have HR2 := Lib.hid hr2
  clear hg2 hr2
  go_upto_region 8 with (first
    | (go_at_call 45; refine her.mono ?_; clear her; rintro _ _ ⟨rfl, rfl⟩)
    | (refine wpList_built (by rfl) 27 #[(0, .tmp 24)] (by rfl) [(0, .int .u8 2)] (by simp [Act.eval]) KO hbt ?_)
    | (refine wpList_store_row (by rfl) 27 (.tmp 6) (.tmp 25) (by rfl) w2.heap.size KO (by rfl) (by rfl) 27 _ (heap_alloc_new w2 _) (by rw [HKO.out.2.1]; exact ob_info) (by rw [HKO.out.2.1, HZS.out.1]) HKO.out.2.2 ?_))
  obtain ⟨q6, hq6⟩ : ∃ q6, q6 = w2.heap.size := ⟨_, rfl⟩
  have hal : Below w2.heap.size w2 ((w2.alloc (.cells ZO 27)).setRow w2.heap.size KO) := below_setRow ((Below.refl _ _).alloc (Nat.le_refl _) _) (Nat.le_refl _) _
  have hpa : ((w2.alloc (.cells ZO 27)).setRow w2.heap.size KO).heap[w2.heap.size]? = some (.cells KO 27 (0, 0)) := setRow_at (heap_alloc_new w2 _)
  have H3 : Hid (ReS S w ((w2.alloc (.cells ZO 27)).setRow w2.heap.size KO) p q6 l1 0 atZ { obZ with k := 2 }) := Lib.hid ⟨HR2.out.below hal, gr_below H2.out.2.1 hal, (hal.block _ (lt_of_cells H2.out.1)).trans (by rw [HZS.out.2]; exact H2.out.1), by rw [hq6, ← HKO.out.1]; exact hpa, obj_kind _ _ (by decide), by have := H2.out.2.2; omega⟩
  clear hal hpa hzo hbt
  generalize (w2.alloc (.cells ZO 27)).setRow w2.heap.size KO = w3 at *
  rw [← hq6]
  clear hq6
  have hu2 := uint_any H3.out.rd
  obtain ⟨z, hz⟩ : ∃ z, z = uiX l1 0 := ⟨_, rfl⟩
  obtain ⟨l2, hl2⟩ : ∃ l2, l2 = uiL l1 0 := ⟨_, rfl⟩
  obtain ⟨e2, he2⟩ : ∃ e2, e2 = uiE l1 0 := ⟨_, rfl⟩
  rw [← hz, ← hl2, ← he2] at hu2
  have HU : Hid (z = uiX l1 0 ∧ l2 = uiL l1 0 ∧ e2 = uiE l1 0 ∧ z < 18446744073709551616 ∧ l2.length ≤ 140737488355328) := Lib.hid ⟨hz, hl2, he2, by rw [hz]; exact uiX_lt _ _, by have h1 := uiL_length l1 0; have h2 := HL.out.1; rw [hl2]; omega⟩
  clear hz hl2 he2
  go_upto_region 14 with (go_at_call 44; refine hu2.mono ?_; clear hu2; rintro _ w5 ⟨rfl, hr5, hg5⟩; have H4 := Lib.hid (H3.out.call hr5 hg5); have hc2 := cell_of_cells H4.out.row 2; have hf2 := free_of_cells H4.out.row 2; have hs2 := lt_of_cells H4.out.row; have hc2 : w5.cell? ⟨q6, 2, none⟩ = some (.int .u64 0) := hc2; clear hr5 hg5)
  have H5 := Lib.hid (H4.out.set 2 (.int .u64 (z : Int)) atZ { obZ with k := 2, z := z } rfl ⟨⟨⟨(by decide : 2 < 256), HU.out.2.2.2.1, obZ_wf.ids, obZ_wf.es⟩, (obj_zero w5 (fun _ => False)).o.lb, (obj_zero w5 (fun _ => False)).o.nm, (obj_zero w5 (fun _ => False)).o.bl, (obj_zero _ (fun _ => False)).o.ids.mono fun _ _ h => h.elim, (obj_zero _ (fun _ => False)).o.es.mono fun _ _ h => h.elim⟩, Byt.nil _ _ _ _ (Nat.zero_le _)⟩)
  clear hc2 hf2 hs2 H4 H3
  generalize w5.setCell ⟨q6, 2, none⟩ (.int .u64 (z : Int)) = w6 at *
  have hsv := several_ids H5.out.rd HU.out.2.2.2.2 1000 (by omega)
  have hsv : Calls Tryd.prog 47 #[.pointer (some ⟨p, 0, none⟩), .int .u64 1000, .func (.func 48) #[] #[]] w6 (SvIP w6 (fun k => S k ∧ k < w.heap.size) p 1000 l2 e2) := hsv
  have HP : Hid (∀ r W, SvIP w6 (fun k => S k ∧ k < w.heap.size) p 1000 l2 e2 r W → SvIP w6 (fun k => S k ∧ k < w.heap.size) p 1000 l2 e2 r W) := Lib.hid fun _ _ h => h
  by_cases hbig : 1000 < uiX l2 e2
  · have HRO2 : Hid (readO l = ({ obZ with k := 2, z := z }, 11, uiL l2 e2, uiE l2 e2)) := Lib.hid (by unfold readO; rw [if_neg (by rw [HRO.out.1]; simp), if_neg (by rw [HRO.out.2]; omega), if_neg (by rw [HRO.out.2]; omega), if_pos HRO.out.2, ← HL.out.2, ← HU.out.1, ← HU.out.2.1, ← HU.out.2.2.1, if_pos hbig])
    have hsv2 : Calls Tryd.prog 47 #[.pointer (some ⟨p, 0, none⟩), .int .u64 1000, .func (.func 48) #[] #[]] w6 fun r W => r = .returned (.tuple #[.slice none 0 0, .int .i64 11]) ∧ Rd W (fun k => S k ∧ k < w.heap.size) p (uiL l2 e2) (uiE l2 e2) ∧ w6.grownBy W (some p) := hsv.mono fun r W h => by
      unfold SvIP at h
      rwa [if_pos hbig] at h
    clear hsv hbig HP
    go_upto_region 21 with (go_at_call 47; refine hsv2.mono ?_; clear hsv2; rintro _ w7 ⟨rfl, hr7, hg7⟩; have H7 := Lib.hid (H5.out.call hr7 hg7); have hc3 := cell_of_cells H7.out.row 3; have hf3 := free_of_cells H7.out.row 3; have hs3 := lt_of_cells H7.out.row; have hc3 : w7.cell? ⟨q6, 3, none⟩ = some (.slice none 0 0) := hc3; clear hr7 hg7)
    have H8 := Lib.hid (H7.out.set 3 (.slice none 0 0) atZ { obZ with k := 2, z := z } rfl H7.out.ob)
    clear hc3 hf3 hs3 H7
    generalize w7.setCell ⟨q6, 3, none⟩ (.slice none 0 0) = w8 at *
    obtain ⟨XO, hXO⟩ : ∃ XO, XO = obV atZ { obZ with k := 2, z := z } := ⟨_, rfl⟩
    have HXO : Hid (XO = obV atZ { obZ with k := 2, z := z } ∧ XO.size = 6 ∧ XO.all (·.oneCell') = true) := Lib.hid ⟨hXO, by rw [hXO]; rfl, by rw [hXO]; exact obV_one _ _⟩
    have HRW : Hid (w8.heap[q6]? = some (.cells XO 27 (0, 0)) ∧ w8.heap[w.heap.size]? = some (.cells ZO 27 (0, 0))) := Lib.hid ⟨by rw [hXO]; exact H8.out.row, by have := H8.out.res; rwa [HZS.out.2] at this⟩
    clear hXO
    go_wp2_with (first
      | (refine wpList_load_row (by rfl) 27 (.tmp 6) (by rfl) q6 (by rfl) 27 XO (0, 0) _ HRW.out.1 Tryd.underlying27 (by rfl) (by rw [HXO.out.2.1]; exact ob_info) ?_)
      | (refine wpList_store_row (by rfl) 27 (.tmp 2) (.tmp 64) (by rfl) w.heap.size XO (by rfl) (by rfl) 27 _ HRW.out.2 (by rw [HXO.out.2.1]; exact ob_info) (by rw [HXO.out.2.1, HZS.out.1]) HXO.out.2.2 ?_))
    have hrf : (w8.setRow w.heap.size XO).heap[w.heap.size]? = some (.cells XO 27 (0, 0)) := setRow_at HRW.out.2
    have hg : w8.grownBy (w8.setRow w.heap.size XO) (some w.heap.size) := gr_row w8 _ _
    refine bodyPost_ret (results_ct rfl _ _ ⟨w.heap.size, 0, none⟩ (.agg XO) (.int .i64 11) rfl rfl (run_loadVar_row _ _ _ _ _ _ _ hrf Tryd.underlying27 rfl (by rw [HXO.out.2.1]; exact ob_info))) rfl ⟨atZ, by rw [HRO2.out, HXO.out.1], by rw [HRO2.out]; exact (H8.out.ob.turned (T := fun k => k = w.heap.size) (Turned.of_gr hg fun g e => by injection e with e; exact e.symm) fun k _ hk e => by have := hk.1; omega).mono fun k _ hk => by have := hk.1; omega, ?_, ?_⟩
    · rw [HRO2.out]
      exact (H8.out.rd.grown hg fun g e => by injection e with e; subst e; intro hs; have := hs.2; omega).mono fun _ _ h => h.1
    · have h1 := H8.out.gr
      exact ⟨hg.os.trans h1.os, hg.tape.trans h1.tape, hg.output.trans h1.output, Nat.le_trans h1.size hg.size, fun i hi hne => (hg.block i (Nat.lt_of_lt_of_le hi h1.size) (fun e => by injection e; omega)).trans (h1.block i hi hne)⟩
  · obtain ⟨R, hR⟩ : ∃ R, R = igo (uiX l2 e2) [] (uiL l2 e2) (uiE l2 e2) := ⟨_, rfl⟩
    have HRO2 : Hid (readO l = ({ obZ with k := 2, z := z, ids := R.1 }, 0, R.2.1, R.2.2) ∧ ∀ y ∈ R.1, y.length = 32) := Lib.hid ⟨by unfold readO; rw [if_neg (by rw [HRO.out.1]; simp), if_neg (by rw [HRO.out.2]; omega), if_neg (by rw [HRO.out.2]; omega), if_pos HRO.out.2, ← HL.out.2, ← HU.out.1, ← HU.out.2.1, ← HU.out.2.2.1, if_neg hbig, ← hR], by rw [hR]; exact igo_wf _ _ _ _ (fun _ h => absurd h (by simp))⟩
    have hsv2 : Calls Tryd.prog 47 #[.pointer (some ⟨p, 0, none⟩), .int .u64 1000, .func (.func 48) #[] #[]] w6 fun r W => ∃ A c, r = .returned (.tuple #[.slice A R.1.length c, .int .i64 0]) ∧ Ids W (w6.heap.size ≤ ·) A R.1.length c R.1 ∧ Rd W (fun k => S k ∧ k < w.heap.size) p R.2.1 R.2.2 ∧ w6.grownBy W (some p) := hsv.mono fun r W h => by
      unfold SvIP at h
      rw [if_neg hbig, ← hR] at h
      exact h
    clear hsv hbig hR HP
    go_upto_region 21 with (go_at_call 47; refine hsv2.mono ?_; clear hsv2; rintro _ w7 ⟨A7, c7, rfl, hm7, hr7, hg7⟩; have H7 := Lib.hid (H5.out.call hr7 hg7); have HM7 : Hid (Ids w7 (fun k => w.heap.size < k ∧ k ≠ q6) A7 R.1.length c7 R.1) := Lib.hid (hm7.mono fun k _ (hk : w6.heap.size ≤ k) => by have h1 := lt_of_cells H5.out.row; have h2 := H5.out.gt; exact ⟨by omega, by omega⟩); have hc3 := cell_of_cells H7.out.row 3; have hf3 := free_of_cells H7.out.row 3; have hs3 := lt_of_cells H7.out.row; have hc3 : w7.cell? ⟨q6, 3, none⟩ = some (.slice none 0 0) := hc3; clear hm7 hr7 hg7)
    have H8 := Lib.hid (H7.out.set 3 (.slice A7 R.1.length c7) ⟨none, 0, 0, A7, R.1.length, c7, none, 0, 0⟩ { obZ with k := 2, z := z, ids := R.1 } rfl ⟨⟨⟨(by decide : 2 < 256), HU.out.2.2.2.1, HRO2.out.2, obZ_wf.es⟩, (obj_zero w7 (fun _ => False)).o.lb, (obj_zero w7 (fun _ => False)).o.nm, (obj_zero w7 (fun _ => False)).o.bl, HM7.out, (obj_zero _ (fun _ => False)).o.es.mono fun _ _ h => h.elim⟩, Byt.nil _ _ _ _ (Nat.zero_le _)⟩)
    clear hc3 hf3 hs3 H7
    generalize w7.setCell ⟨q6, 3, none⟩ (.slice A7 R.1.length c7) = w8 at *
    obtain ⟨XO, hXO⟩ : ∃ XO, XO = obV ⟨none, 0, 0, A7, R.1.length, c7, none, 0, 0⟩ { obZ with k := 2, z := z, ids := R.1 } := ⟨_, rfl⟩
    have HXO : Hid (XO = obV ⟨none, 0, 0, A7, R.1.length, c7, none, 0, 0⟩ { obZ with k := 2, z := z, ids := R.1 } ∧ XO.size = 6 ∧ XO.all (·.oneCell') = true) := Lib.hid ⟨hXO, by rw [hXO]; rfl, by rw [hXO]; exact obV_one _ _⟩
    have HRW : Hid (w8.heap[q6]? = some (.cells XO 27 (0, 0)) ∧ w8.heap[w.heap.size]? = some (.cells ZO 27 (0, 0))) := Lib.hid ⟨by rw [hXO]; exact H8.out.row, by have := H8.out.res; rwa [HZS.out.2] at this⟩
    clear hXO
    go_wp2_with (first
      | (refine wpList_load_row (by rfl) 27 (.tmp 6) (by rfl) q6 (by rfl) 27 XO (0, 0) _ HRW.out.1 Tryd.underlying27 (by rfl) (by rw [HXO.out.2.1]; exact ob_info) ?_)
      | (refine wpList_store_row (by rfl) 27 (.tmp 2) (.tmp 64) (by rfl) w.heap.size XO (by rfl) (by rfl) 27 _ HRW.out.2 (by rw [HXO.out.2.1]; exact ob_info) (by rw [HXO.out.2.1, HZS.out.1]) HXO.out.2.2 ?_))
    have hrf : (w8.setRow w.heap.size XO).heap[w.heap.size]? = some (.cells XO 27 (0, 0)) := setRow_at HRW.out.2
    have hg : w8.grownBy (w8.setRow w.heap.size XO) (some w.heap.size) := gr_row w8 _ _
    refine bodyPost_ret (results_ct rfl _ _ ⟨w.heap.size, 0, none⟩ (.agg XO) (.int .i64 0) rfl rfl (run_loadVar_row _ _ _ _ _ _ _ hrf Tryd.underlying27 rfl (by rw [HXO.out.2.1]; exact ob_info))) rfl ⟨⟨none, 0, 0, A7, R.1.length, c7, none, 0, 0⟩, by rw [HRO2.out.1, HXO.out.1], by rw [HRO2.out.1]; exact (H8.out.ob.turned (T := fun k => k = w.heap.size) (Turned.of_gr hg fun g e => by injection e with e; exact e.symm) fun k _ hk e => by have := hk.1; omega).mono fun k _ hk => by have := hk.1; omega, ?_, ?_⟩
    · rw [HRO2.out.1]
      exact (H8.out.rd.grown hg fun g e => by injection e with e; subst e; intro hs; have := hs.2; omega).mono fun _ _ h => h.1
    · have h1 := H8.out.gr
      exact ⟨hg.os.trans h1.os, hg.tape.trans h1.tape, hg.output.trans h1.output, Nat.le_trans h1.size hg.size, fun i hi hne => (hg.block i (Nat.lt_of_lt_of_le hi h1.size) (fun e => by injection e; omega)).trans (h1.block i hi hne)⟩
set_option maxHeartbeats 8000000 in
set_option maxRecDepth 100000 in
theorem read3 {w : World} {S : Nat → Prop} {p : Nat} {l : List UInt8} (h : Rd w S p l 0) (hl : l.length ≤ 140737488355328) (h0 : uiE l 0 = 0) (hk : uiX l 0 = 3) :
    Calls Tryd.prog 31 #[.pointer (some ⟨p, 0, none⟩)] w (RePost S w p (readO l)) := by
  have hzo : ∀ W, (zeroValue 27).run Tryd.prog W = .ok (.agg zeroOb) W := zero_ob
  have HZO : Hid (zeroOb = obV atZ obZ) := Lib.hid rfl
  have hb0 : Below w.heap.size w (w.alloc (.cells zeroOb 27)) := (Below.refl _ _).alloc (Nat.le_refl _) _
  have hr0 := (h.mono (T := fun k => S k ∧ k < w.heap.size) fun k hk hs => ⟨hs, hk⟩).below hb0
  have hu := uint_any hr0
  have hul := uiL_length l 0
  have HN : Hid ((w.alloc (.cells zeroOb 27)).heap[w.heap.size]? = some (.cells zeroOb 27 (0, 0)) ∧ Below w.heap.size w (w.alloc (.cells zeroOb 27)) ∧ p < w.heap.size) := Lib.hid ⟨heap_alloc_new w _, hb0, h.lt⟩
  clear hb0 hr0
  rw [h0, hk] at hu
  have hu : Calls Tryd.prog 44 #[.pointer (some ⟨p, 0, none⟩)] (w.alloc (.cells zeroOb 27)) fun r w' => r = .returned (.int .u64 3) ∧ Rd w' (fun k => S k ∧ k < w.heap.size) p (uiL l 0) 0 ∧ (w.alloc (.cells zeroOb 27)).grownBy w' (some p) := hu
  have HRO := Lib.hid (And.intro h0 hk)
  obtain ⟨l1, hl1⟩ : ∃ l1, l1 = uiL l 0 := ⟨_, rfl⟩
  rw [← hl1] at hu
  have HL : Hid (l1.length ≤ 140737488355328 ∧ l1 = uiL l 0) := Lib.hid ⟨by rw [hl1]; omega, hl1⟩
  clear h hl hul hl1 h0 hk
  obtain ⟨ZO, hZO⟩ : ∃ ZO, ZO = zeroOb := ⟨_, rfl⟩
  rw [← hZO] at hu hzo HN
  have HZS : Hid (ZO.size = 6 ∧ zeroOb = ZO) := Lib.hid ⟨by rw [hZO]; rfl, hZO.symm⟩
  clear hZO HZO
  obtain ⟨KO, hKO⟩ : ∃ KO, KO = obV atZ { obZ with k := 3 } := ⟨_, rfl⟩
  have hbt : Tryd.prog.built 27 [(0, .int .u8 3)] = some KO := by rw [hKO]; exact built_ob _ rfl
  have HKO : Hid (KO = obV atZ { obZ with k := 3 } ∧ KO.size = 6 ∧ KO.all (·.oneCell') = true) := Lib.hid ⟨hKO, by rw [hKO]; rfl, by rw [hKO]; exact obV_one _ _⟩
  clear hKO
  go_enter Tryd.func31, Tryd.ntmps31
  go_upto_region 2 with (go_at_call 44; refine hu.mono ?_; clear hu; rintro _ w2 ⟨rfl, hr2, hg2⟩)
  have her := err_rd hr2
  have H2 : Hid (w2.heap[w.heap.size]? = some (.cells ZO 27 (0, 0)) ∧ w.grownBy w2 (some p) ∧ w.heap.size < w2.heap.size) := Lib.hid ⟨(hg2.block w.heap.size (lt_of_cells HN.out.1) (fun e => by injection e with e; have := HN.out.2.2; omega)).trans HN.out.1, gr_trans (gr_below (gr_refl w _) HN.out.2.1) hg2, Nat.lt_of_lt_of_le (lt_of_cells HN.out.1) hg2.size⟩
  have HR2 := Lib.hid hr2
  clear hg2 hr2
  go_upto_region 8 with (first
    | (go_at_call 45; refine her.mono ?_; clear her; rintro _ _ ⟨rfl, rfl⟩)
    | (refine wpList_built (by rfl) 27 #[(0, .tmp 24)] (by rfl) [(0, .int .u8 3)] (by simp [Act.eval]) KO hbt ?_)
    | (refine wpList_store_row (by rfl) 27 (.tmp 6) (.tmp 25) (by rfl) w2.heap.size KO (by rfl) (by rfl) 27 _ (heap_alloc_new w2 _) (by rw [HKO.out.2.1]; exact ob_info) (by rw [HKO.out.2.1, HZS.out.1]) HKO.out.2.2 ?_))
  obtain ⟨q6, hq6⟩ : ∃ q6, q6 = w2.heap.size := ⟨_, rfl⟩
  have hal : Below w2.heap.size w2 ((w2.alloc (.cells ZO 27)).setRow w2.heap.size KO) := below_setRow ((Below.refl _ _).alloc (Nat.le_refl _) _) (Nat.le_refl _) _
  have hpa : ((w2.alloc (.cells ZO 27)).setRow w2.heap.size KO).heap[w2.heap.size]? = some (.cells KO 27 (0, 0)) := setRow_at (heap_alloc_new w2 _)
  have H3 : Hid (ReS S w ((w2.alloc (.cells ZO 27)).setRow w2.heap.size KO) p q6 l1 0 atZ { obZ with k := 3 }) := Lib.hid ⟨HR2.out.below hal, gr_below H2.out.2.1 hal, (hal.block _ (lt_of_cells H2.out.1)).trans (by rw [HZS.out.2]; exact H2.out.1), by rw [hq6, ← HKO.out.1]; exact hpa, obj_kind _ _ (by decide), by have := H2.out.2.2; omega⟩
  clear hal hpa hzo hbt
  generalize (w2.alloc (.cells ZO 27)).setRow w2.heap.size KO = w3 at *
  rw [← hq6]
  clear hq6
  have hsv := several_ens H3.out.rd HL.out.1 500 (by omega)
  have hsv : Calls Tryd.prog 49 #[.pointer (some ⟨p, 0, none⟩), .int .u64 500, .func (.func 50) #[] #[]] w3 (SvEP w3 (fun k => S k ∧ k < w.heap.size) p 500 l1 0) := hsv
  have HP : Hid (∀ r W, SvEP w3 (fun k => S k ∧ k < w.heap.size) p 500 l1 0 r W → SvEP w3 (fun k => S k ∧ k < w.heap.size) p 500 l1 0 r W) := Lib.hid fun _ _ h => h
  by_cases hbig : 500 < uiX l1 0
  · have HRO2 : Hid (readO l = ({ obZ with k := 3 }, 11, uiL l1 0, uiE l1 0)) := Lib.hid (by unfold readO; rw [if_neg (by rw [HRO.out.1]; simp), if_neg (by rw [HRO.out.2]; omega), if_neg (by rw [HRO.out.2]; omega), if_neg (by rw [HRO.out.2]; omega), if_pos HRO.out.2, ← HL.out.2, if_pos hbig])
    have hsv2 : Calls Tryd.prog 49 #[.pointer (some ⟨p, 0, none⟩), .int .u64 500, .func (.func 50) #[] #[]] w3 fun r W => r = .returned (.tuple #[.slice none 0 0, .int .i64 11]) ∧ Rd W (fun k => S k ∧ k < w.heap.size) p (uiL l1 0) (uiE l1 0) ∧ w3.grownBy W (some p) := hsv.mono fun r W h => by
      unfold SvEP at h
      rwa [if_pos hbig] at h
    clear hsv hbig HP
    go_upto_region 21 with (go_at_call 49; refine hsv2.mono ?_; clear hsv2; rintro _ w7 ⟨rfl, hr7, hg7⟩; have H7 := Lib.hid (H3.out.call hr7 hg7); have hc3 := cell_of_cells H7.out.row 4; have hf3 := free_of_cells H7.out.row 4; have hs3 := lt_of_cells H7.out.row; have hc3 : w7.cell? ⟨q6, 4, none⟩ = some (.slice none 0 0) := hc3; clear hr7 hg7)
    have H8 := Lib.hid (H7.out.set 4 (.slice none 0 0) atZ { obZ with k := 3 } rfl H7.out.ob)
    clear hc3 hf3 hs3 H7
    generalize w7.setCell ⟨q6, 4, none⟩ (.slice none 0 0) = w8 at *
    obtain ⟨XO, hXO⟩ : ∃ XO, XO = obV atZ { obZ with k := 3 } := ⟨_, rfl⟩
    have HXO : Hid (XO = obV atZ { obZ with k := 3 } ∧ XO.size = 6 ∧ XO.all (·.oneCell') = true) := Lib.hid ⟨hXO, by rw [hXO]; rfl, by rw [hXO]; exact obV_one _ _⟩
    have HRW : Hid (w8.heap[q6]? = some (.cells XO 27 (0, 0)) ∧ w8.heap[w.heap.size]? = some (.cells ZO 27 (0, 0))) := Lib.hid ⟨by rw [hXO]; exact H8.out.row, by have := H8.out.res; rwa [HZS.out.2] at this⟩
    clear hXO
    go_wp2_with (first
      | (refine wpList_load_row (by rfl) 27 (.tmp 6) (by rfl) q6 (by rfl) 27 XO (0, 0) _ HRW.out.1 Tryd.underlying27 (by rfl) (by rw [HXO.out.2.1]; exact ob_info) ?_)
      | (refine wpList_store_row (by rfl) 27 (.tmp 2) (.tmp 64) (by rfl) w.heap.size XO (by rfl) (by rfl) 27 _ HRW.out.2 (by rw [HXO.out.2.1]; exact ob_info) (by rw [HXO.out.2.1, HZS.out.1]) HXO.out.2.2 ?_))
    have hrf : (w8.setRow w.heap.size XO).heap[w.heap.size]? = some (.cells XO 27 (0, 0)) := setRow_at HRW.out.2
    have hg : w8.grownBy (w8.setRow w.heap.size XO) (some w.heap.size) := gr_row w8 _ _
    refine bodyPost_ret (results_ct rfl _ _ ⟨w.heap.size, 0, none⟩ (.agg XO) (.int .i64 11) rfl rfl (run_loadVar_row _ _ _ _ _ _ _ hrf Tryd.underlying27 rfl (by rw [HXO.out.2.1]; exact ob_info))) rfl ⟨atZ, by rw [HRO2.out, HXO.out.1], by rw [HRO2.out]; exact (H8.out.ob.turned (T := fun k => k = w.heap.size) (Turned.of_gr hg fun g e => by injection e with e; exact e.symm) fun k _ hk e => by have := hk.1; omega).mono fun k _ hk => by have := hk.1; omega, ?_, ?_⟩
    · rw [HRO2.out]
      exact (H8.out.rd.grown hg fun g e => by injection e with e; subst e; intro hs; have := hs.2; omega).mono fun _ _ h => h.1
    · have h1 := H8.out.gr
      exact ⟨hg.os.trans h1.os, hg.tape.trans h1.tape, hg.output.trans h1.output, Nat.le_trans h1.size hg.size, fun i hi hne => (hg.block i (Nat.lt_of_lt_of_le hi h1.size) (fun e => by injection e; omega)).trans (h1.block i hi hne)⟩
  · obtain ⟨R, hR⟩ : ∃ R, R = ego (uiX l1 0) [] (uiL l1 0) (uiE l1 0) := ⟨_, rfl⟩
    have HRO2 : Hid (readO l = ({ obZ with k := 3, es := R.1 }, 0, R.2.1, R.2.2) ∧ (∀ y ∈ R.1, y.2.2.length = 32) ∧ ∀ y ∈ R.1, y.1.length ≤ 255) := Lib.hid ⟨by unfold readO; rw [if_neg (by rw [HRO.out.1]; simp), if_neg (by rw [HRO.out.2]; omega), if_neg (by rw [HRO.out.2]; omega), if_neg (by rw [HRO.out.2]; omega), if_pos HRO.out.2, ← HL.out.2, if_neg hbig, ← hR], by rw [hR]; exact ⟨ego_wf _ _ _ _ (fun _ h => absurd h (by simp)), ego_nm _ _ _ _ (fun _ h => absurd h (by simp))⟩⟩
    have hsv2 : Calls Tryd.prog 49 #[.pointer (some ⟨p, 0, none⟩), .int .u64 500, .func (.func 50) #[] #[]] w3 fun r W => ∃ A c, r = .returned (.tuple #[.slice A R.1.length c, .int .i64 0]) ∧ Ens W (w3.heap.size ≤ ·) A R.1.length c R.1 ∧ Rd W (fun k => S k ∧ k < w.heap.size) p R.2.1 R.2.2 ∧ w3.grownBy W (some p) := hsv.mono fun r W h => by
      unfold SvEP at h
      rw [if_neg hbig, ← hR] at h
      exact h
    clear hsv hbig hR HP
    go_upto_region 21 with (go_at_call 49; refine hsv2.mono ?_; clear hsv2; rintro _ w7 ⟨A7, c7, rfl, hm7, hr7, hg7⟩; have H7 := Lib.hid (H3.out.call hr7 hg7); have HM7 : Hid (Ens w7 (fun k => w.heap.size < k ∧ k ≠ q6) A7 R.1.length c7 R.1) := Lib.hid (hm7.mono fun k _ (hk : w3.heap.size ≤ k) => by have h1 := lt_of_cells H3.out.row; have h2 := H3.out.gt; exact ⟨by omega, by omega⟩); have hc3 := cell_of_cells H7.out.row 4; have hf3 := free_of_cells H7.out.row 4; have hs3 := lt_of_cells H7.out.row; have hc3 : w7.cell? ⟨q6, 4, none⟩ = some (.slice none 0 0) := hc3; clear hm7 hr7 hg7)
    have H8 := Lib.hid (H7.out.set 4 (.slice A7 R.1.length c7) ⟨none, 0, 0, none, 0, 0, A7, R.1.length, c7⟩ { obZ with k := 3, es := R.1 } rfl ⟨⟨⟨(by decide : 3 < 256), obZ_wf.z, obZ_wf.ids, HRO2.out.2.1⟩, (obj_zero w7 (fun _ => False)).o.lb, (fun y hy => by have := HRO2.out.2.2 y hy; unfold maxLen; omega), (obj_zero w7 (fun _ => False)).o.bl, (obj_zero _ (fun _ => False)).o.ids.mono fun _ _ h => h.elim, HM7.out⟩, Byt.nil _ _ _ _ (Nat.zero_le _)⟩)
    clear hc3 hf3 hs3 H7
    generalize w7.setCell ⟨q6, 4, none⟩ (.slice A7 R.1.length c7) = w8 at *
    obtain ⟨XO, hXO⟩ : ∃ XO, XO = obV ⟨none, 0, 0, none, 0, 0, A7, R.1.length, c7⟩ { obZ with k := 3, es := R.1 } := ⟨_, rfl⟩
    have HXO : Hid (XO = obV ⟨none, 0, 0, none, 0, 0, A7, R.1.length, c7⟩ { obZ with k := 3, es := R.1 } ∧ XO.size = 6 ∧ XO.all (·.oneCell') = true) := Lib.hid ⟨hXO, by rw [hXO]; rfl, by rw [hXO]; exact obV_one _ _⟩
    have HRW : Hid (w8.heap[q6]? = some (.cells XO 27 (0, 0)) ∧ w8.heap[w.heap.size]? = some (.cells ZO 27 (0, 0))) := Lib.hid ⟨by rw [hXO]; exact H8.out.row, by have := H8.out.res; rwa [HZS.out.2] at this⟩
    clear hXO
    go_wp2_with (first
      | (refine wpList_load_row (by rfl) 27 (.tmp 6) (by rfl) q6 (by rfl) 27 XO (0, 0) _ HRW.out.1 Tryd.underlying27 (by rfl) (by rw [HXO.out.2.1]; exact ob_info) ?_)
      | (refine wpList_store_row (by rfl) 27 (.tmp 2) (.tmp 64) (by rfl) w.heap.size XO (by rfl) (by rfl) 27 _ HRW.out.2 (by rw [HXO.out.2.1]; exact ob_info) (by rw [HXO.out.2.1, HZS.out.1]) HXO.out.2.2 ?_))
    have hrf : (w8.setRow w.heap.size XO).heap[w.heap.size]? = some (.cells XO 27 (0, 0)) := setRow_at HRW.out.2
    have hg : w8.grownBy (w8.setRow w.heap.size XO) (some w.heap.size) := gr_row w8 _ _
    refine bodyPost_ret (results_ct rfl _ _ ⟨w.heap.size, 0, none⟩ (.agg XO) (.int .i64 0) rfl rfl (run_loadVar_row _ _ _ _ _ _ _ hrf Tryd.underlying27 rfl (by rw [HXO.out.2.1]; exact ob_info))) rfl ⟨⟨none, 0, 0, none, 0, 0, A7, R.1.length, c7⟩, by rw [HRO2.out.1, HXO.out.1], by rw [HRO2.out.1]; exact (H8.out.ob.turned (T := fun k => k = w.heap.size) (Turned.of_gr hg fun g e => by injection e with e; exact e.symm) fun k _ hk e => by have := hk.1; omega).mono fun k _ hk => by have := hk.1; omega, ?_, ?_⟩
    · rw [HRO2.out.1]
      exact (H8.out.rd.grown hg fun g e => by injection e with e; subst e; intro hs; have := hs.2; omega).mono fun _ _ h => h.1
    · have h1 := H8.out.gr
      exact ⟨hg.os.trans h1.os, hg.tape.trans h1.tape, hg.output.trans h1.output, Nat.le_trans h1.size hg.size, fun i hi hne => (hg.block i (Nat.lt_of_lt_of_le hi h1.size) (fun e => by injection e; omega)).trans (h1.block i hi hne)⟩
set_option maxHeartbeats 8000000 in
set_option maxRecDepth 100000 in
theorem read4 {w : World} {S : Nat → Prop} {p : Nat} {l : List UInt8} (h : Rd w S p l 0) (hl : l.length ≤ 140737488355328) (h0 : uiE l 0 = 0) (hk : uiX l 0 = 4) :
    Calls Tryd.prog 31 #[.pointer (some ⟨p, 0, none⟩)] w (RePost S w p (readO l)) := by
  have hzo : ∀ W, (zeroValue 27).run Tryd.prog W = .ok (.agg zeroOb) W := zero_ob
  have HZO : Hid (zeroOb = obV atZ obZ) := Lib.hid rfl
  have hb0 : Below w.heap.size w (w.alloc (.cells zeroOb 27)) := (Below.refl _ _).alloc (Nat.le_refl _) _
  have hr0 := (h.mono (T := fun k => S k ∧ k < w.heap.size) fun k hk hs => ⟨hs, hk⟩).below hb0
  have hu := uint_any hr0
  have hul := uiL_length l 0
  have HN : Hid ((w.alloc (.cells zeroOb 27)).heap[w.heap.size]? = some (.cells zeroOb 27 (0, 0)) ∧ Below w.heap.size w (w.alloc (.cells zeroOb 27)) ∧ p < w.heap.size) := Lib.hid ⟨heap_alloc_new w _, hb0, h.lt⟩
  clear hb0 hr0
  rw [h0, hk] at hu
  have hu : Calls Tryd.prog 44 #[.pointer (some ⟨p, 0, none⟩)] (w.alloc (.cells zeroOb 27)) fun r w' => r = .returned (.int .u64 4) ∧ Rd w' (fun k => S k ∧ k < w.heap.size) p (uiL l 0) 0 ∧ (w.alloc (.cells zeroOb 27)).grownBy w' (some p) := hu
  have HRO := Lib.hid (And.intro h0 hk)
  obtain ⟨l1, hl1⟩ : ∃ l1, l1 = uiL l 0 := ⟨_, rfl⟩
  rw [← hl1] at hu
  have HL : Hid (l1.length ≤ 140737488355328 ∧ l1 = uiL l 0) := Lib.hid ⟨by rw [hl1]; omega, hl1⟩
  clear h hl hul hl1 h0 hk
  obtain ⟨ZO, hZO⟩ : ∃ ZO, ZO = zeroOb := ⟨_, rfl⟩
  rw [← hZO] at hu hzo HN
  have HZS : Hid (ZO.size = 6 ∧ zeroOb = ZO) := Lib.hid ⟨by rw [hZO]; rfl, hZO.symm⟩
  clear hZO HZO
  obtain ⟨KO, hKO⟩ : ∃ KO, KO = obV atZ { obZ with k := 4 } := ⟨_, rfl⟩
  have hbt : Tryd.prog.built 27 [(0, .int .u8 4)] = some KO := by rw [hKO]; exact built_ob _ rfl
  have HKO : Hid (KO = obV atZ { obZ with k := 4 } ∧ KO.size = 6 ∧ KO.all (·.oneCell') = true) := Lib.hid ⟨hKO, by rw [hKO]; rfl, by rw [hKO]; exact obV_one _ _⟩
  clear hKO
  go_enter Tryd.func31, Tryd.ntmps31
  go_upto_region 2 with (go_at_call 44; refine hu.mono ?_; clear hu; rintro _ w2 ⟨rfl, hr2, hg2⟩)
  have her := err_rd hr2
  have H2 : Hid (w2.heap[w.heap.size]? = some (.cells ZO 27 (0, 0)) ∧ w.grownBy w2 (some p) ∧ w.heap.size < w2.heap.size) := Lib.hid ⟨(hg2.block w.heap.size (lt_of_cells HN.out.1) (fun e => by injection e with e; have := HN.out.2.2; omega)).trans HN.out.1, gr_trans (gr_below (gr_refl w _) HN.out.2.1) hg2, Nat.lt_of_lt_of_le (lt_of_cells HN.out.1) hg2.size⟩
  have HR2 := Lib.hid hr2
  clear hg2 hr2
  go_upto_region 8 with (first
    | (go_at_call 45; refine her.mono ?_; clear her; rintro _ _ ⟨rfl, rfl⟩)
    | (refine wpList_built (by rfl) 27 #[(0, .tmp 24)] (by rfl) [(0, .int .u8 4)] (by simp [Act.eval]) KO hbt ?_)
    | (refine wpList_store_row (by rfl) 27 (.tmp 6) (.tmp 25) (by rfl) w2.heap.size KO (by rfl) (by rfl) 27 _ (heap_alloc_new w2 _) (by rw [HKO.out.2.1]; exact ob_info) (by rw [HKO.out.2.1, HZS.out.1]) HKO.out.2.2 ?_))
  obtain ⟨q6, hq6⟩ : ∃ q6, q6 = w2.heap.size := ⟨_, rfl⟩
  have hal : Below w2.heap.size w2 ((w2.alloc (.cells ZO 27)).setRow w2.heap.size KO) := below_setRow ((Below.refl _ _).alloc (Nat.le_refl _) _) (Nat.le_refl _) _
  have hpa : ((w2.alloc (.cells ZO 27)).setRow w2.heap.size KO).heap[w2.heap.size]? = some (.cells KO 27 (0, 0)) := setRow_at (heap_alloc_new w2 _)
  have H3 : Hid (ReS S w ((w2.alloc (.cells ZO 27)).setRow w2.heap.size KO) p q6 l1 0 atZ { obZ with k := 4 }) := Lib.hid ⟨HR2.out.below hal, gr_below H2.out.2.1 hal, (hal.block _ (lt_of_cells H2.out.1)).trans (by rw [HZS.out.2]; exact H2.out.1), by rw [hq6, ← HKO.out.1]; exact hpa, obj_kind _ _ (by decide), by have := H2.out.2.2; omega⟩
  clear hal hpa hzo hbt
  generalize (w2.alloc (.cells ZO 27)).setRow w2.heap.size KO = w3 at *
  rw [← hq6]
  clear hq6
  have hu2 := uint_any H3.out.rd
  obtain ⟨z, hz⟩ : ∃ z, z = uiX l1 0 := ⟨_, rfl⟩
  obtain ⟨l2, hl2⟩ : ∃ l2, l2 = uiL l1 0 := ⟨_, rfl⟩
  obtain ⟨e2, he2⟩ : ∃ e2, e2 = uiE l1 0 := ⟨_, rfl⟩
  rw [← hz, ← hl2, ← he2] at hu2
  have HU : Hid (z = uiX l1 0 ∧ l2 = uiL l1 0 ∧ e2 = uiE l1 0 ∧ z < 18446744073709551616 ∧ l2.length ≤ 140737488355328) := Lib.hid ⟨hz, hl2, he2, by rw [hz]; exact uiX_lt _ _, by have h1 := uiL_length l1 0; have h2 := HL.out.1; rw [hl2]; omega⟩
  clear hz hl2 he2
  go_upto_region 19 with (go_at_call 44; refine hu2.mono ?_; clear hu2; rintro _ w5 ⟨rfl, hr5, hg5⟩; have H4 := Lib.hid (H3.out.call hr5 hg5); have hc2 := cell_of_cells H4.out.row 2; have hf2 := free_of_cells H4.out.row 2; have hs2 := lt_of_cells H4.out.row; have hc2 : w5.cell? ⟨q6, 2, none⟩ = some (.int .u64 0) := hc2; clear hr5 hg5)
  have H5 := Lib.hid (H4.out.set 2 (.int .u64 (z : Int)) atZ { obZ with k := 4, z := z } rfl ⟨⟨⟨(by decide : 4 < 256), HU.out.2.2.2.1, obZ_wf.ids, obZ_wf.es⟩, (obj_zero w5 (fun _ => False)).o.lb, (obj_zero w5 (fun _ => False)).o.nm, (obj_zero w5 (fun _ => False)).o.bl, (obj_zero _ (fun _ => False)).o.ids.mono fun _ _ h => h.elim, (obj_zero _ (fun _ => False)).o.es.mono fun _ _ h => h.elim⟩, Byt.nil _ _ _ _ (Nat.zero_le _)⟩)
  clear hc2 hf2 hs2 H4 H3
  generalize w5.setCell ⟨q6, 2, none⟩ (.int .u64 (z : Int)) = w6 at *
  have hid := id_any H5.out.rd
  obtain ⟨Y, hY⟩ : ∃ Y, Y = idL l2 e2 := ⟨_, rfl⟩
  obtain ⟨XS, hXS⟩ : ∃ XS, XS = idC l2 e2 := ⟨_, rfl⟩
  obtain ⟨l3, hl3⟩ : ∃ l3, l3 = fxL l2 e2 32 := ⟨_, rfl⟩
  obtain ⟨e3, he3⟩ : ∃ e3, e3 = tkE l2 e2 32 := ⟨_, rfl⟩
  rw [← hXS, ← hl3, ← he3] at hid
  have HY : Hid (XS = row8 Y ∧ Y.length = 32 ∧ Y = idL l2 e2 ∧ l3 = fxL l2 e2 32 ∧ e3 = tkE l2 e2 32 ∧ l3.length ≤ 140737488355328) := Lib.hid ⟨by rw [hXS, hY]; rfl, by rw [hY]; exact idL_length _ _, hY, hl3, he3, by have h1 := idL3_len l2 e2; have h2 := HU.out.2.2.2.2; rw [hl3]; omega⟩
  clear hY hXS hl3 he3
  go_upto_region 20 with (first
    | (go_at_call 48; refine hid.mono ?_; clear hid; rintro _ w7 ⟨rfl, hr7, hg7⟩; have hbs := run_ids_lit w7 XS HY.out.1 HY.out.2.1; have HB7 := Lib.hid ((Below.refl w7.heap.size w7).alloc (Nat.le_refl _) (.cells XS 49)); have H7a := Lib.hid (H5.out.call hr7 hg7); have H7 := Lib.hid (H7a.out.later HB7.out); have HN7 := Lib.hid (heap_alloc_new w7 (.cells XS 49)); have hc3 := cell_of_cells H7.out.row 3; have hf3 := free_of_cells H7.out.row 3; have hs3 := lt_of_cells H7.out.row; have hc3 : (w7.alloc (.cells XS 49)).cell? ⟨q6, 3, none⟩ = some (.slice none 0 0) := hc3; clear hr7 hg7)
    | (refine wpList_lit1 (by rfl) 24 (.tmp 57) (by rfl) (by rfl) hbs ?_))
  obtain ⟨g7, hg7⟩ : ∃ g7, g7 = w7.heap.size := ⟨_, rfl⟩
  have HG7 : Hid (w.heap.size < g7 ∧ g7 ≠ q6) := Lib.hid ⟨by have h1 := H7a.out.gr.size; have h2 := lt_of_cells H7a.out.res; omega, by have h1 := lt_of_cells H7a.out.row; omega⟩
  have HM7 : Hid (Ids (w7.alloc (.cells XS 49)) (fun k => w.heap.size < k ∧ k ≠ q6) (some ⟨g7, 0, none⟩) 1 1 [Y]) := Lib.hid (IdBlk.ids (l := [Y]) (g := g7) ⟨by rw [hg7, HN7.out, HY.out.1]; simp, fun y hy => by rw [List.mem_singleton.1 hy]; exact HY.out.2.1⟩ HG7.out 1 rfl (by omega))
  have H8 := Lib.hid (H7.out.set 3 (.slice (some ⟨g7, 0, none⟩) 1 1) ⟨none, 0, 0, some ⟨g7, 0, none⟩, 1, 1, none, 0, 0⟩ { obZ with k := 4, z := z, ids := [Y] } rfl ⟨⟨⟨(by decide : 4 < 256), HU.out.2.2.2.1, (fun y hy => by rw [List.mem_singleton.1 hy]; exact HY.out.2.1), obZ_wf.es⟩, (obj_zero w7 (fun _ => False)).o.lb, (obj_zero w7 (fun _ => False)).o.nm, (obj_zero w7 (fun _ => False)).o.bl, HM7.out, (obj_zero _ (fun _ => False)).o.es.mono fun _ _ h => h.elim⟩, Byt.nil _ _ _ _ (Nat.zero_le _)⟩)
  rw [← hg7]
  clear hc3 hf3 hs3 H7 hbs hg7 H7a HN7 HB7
  generalize (w7.alloc (.cells XS 49)).setCell ⟨q6, 3, none⟩ (.slice (some ⟨g7, 0, none⟩) 1 1) = w8 at *
  have hby := bytes_any (most := 255) H8.out.rd HY.out.2.2.2.2.2 (by omega)
  obtain ⟨B, hB⟩ : ∃ B, B = byB l3 e3 255 := ⟨_, rfl⟩
  obtain ⟨l4, hl4⟩ : ∃ l4, l4 = byL l3 e3 255 := ⟨_, rfl⟩
  obtain ⟨e4, he4⟩ : ∃ e4, e4 = byE l3 e3 255 := ⟨_, rfl⟩
  rw [← hB, ← hl4, ← he4] at hby
  have HRO2 : Hid (readO l = ({ obZ with k := 4, z := z, ids := [Y], lb := B }, 0, l4, e4) ∧ B.length ≤ 255) := Lib.hid ⟨by unfold readO; rw [if_neg (by rw [HRO.out.1]; simp), if_neg (by rw [HRO.out.2]; omega), if_neg (by rw [HRO.out.2]; omega), if_neg (by rw [HRO.out.2]; omega), if_neg (by rw [HRO.out.2]; omega), ← HL.out.2, ← HU.out.1, ← HU.out.2.1, ← HU.out.2.2.1]; simp only; rw [← HY.out.2.2.1, ← HY.out.2.2.2.1, ← HY.out.2.2.2.2.1, ← hB, ← hl4, ← he4], by rw [hB]; exact by_few l3 e3 255⟩
  clear hB hl4 he4
  go_upto_region 21 with (go_at_call 46; refine hby.mono ?_; clear hby; rintro _ w9 ⟨A9, n9, c9, rfl, hy9, hr9, hg9, _⟩; have hcs : (convert 22 9 (.slice A9 n9 c9)).run Tryd.prog w9 = .ok (.string (st B)) w9 := byt_string hy9; have H9 := Lib.hid (H8.out.call hr9 hg9); have hc5 := cell_of_cells H9.out.row 5; have hf5 := free_of_cells H9.out.row 5; have hs5 := lt_of_cells H9.out.row; have hc5 : w9.cell? ⟨q6, 5, none⟩ = some (.string ⟨#[]⟩) := hc5; clear hy9 hr9 hg9)
  have H10 := Lib.hid (H9.out.set 5 (.string (st B)) ⟨none, 0, 0, some ⟨g7, 0, none⟩, 1, 1, none, 0, 0⟩ { obZ with k := 4, z := z, ids := [Y], lb := B } rfl ⟨⟨⟨H9.out.ob.o.wf.k, H9.out.ob.o.wf.z, H9.out.ob.o.wf.ids, H9.out.ob.o.wf.es⟩, (by have := HRO2.out.2; unfold maxLen; simp only; omega), H9.out.ob.o.nm, H9.out.ob.o.bl, H9.out.ob.o.ids, H9.out.ob.o.es⟩, H9.out.ob.b⟩)
  clear hcs hc5 hf5 hs5 H9
  generalize w9.setCell ⟨q6, 5, none⟩ (.string (st B)) = w10 at *
  obtain ⟨XO, hXO⟩ : ∃ XO, XO = obV ⟨none, 0, 0, some ⟨g7, 0, none⟩, 1, 1, none, 0, 0⟩ { obZ with k := 4, z := z, ids := [Y], lb := B } := ⟨_, rfl⟩
  have HXO : Hid (XO = obV ⟨none, 0, 0, some ⟨g7, 0, none⟩, 1, 1, none, 0, 0⟩ { obZ with k := 4, z := z, ids := [Y], lb := B } ∧ XO.size = 6 ∧ XO.all (·.oneCell') = true) := Lib.hid ⟨hXO, by rw [hXO]; rfl, by rw [hXO]; exact obV_one _ _⟩
  have HRW : Hid (w10.heap[q6]? = some (.cells XO 27 (0, 0)) ∧ w10.heap[w.heap.size]? = some (.cells ZO 27 (0, 0))) := Lib.hid ⟨by rw [hXO]; exact H10.out.row, by have := H10.out.res; rwa [HZS.out.2] at this⟩
  clear hXO
  go_wp2_with (first
    | (refine wpList_load_row (by rfl) 27 (.tmp 6) (by rfl) q6 (by rfl) 27 XO (0, 0) _ HRW.out.1 Tryd.underlying27 (by rfl) (by rw [HXO.out.2.1]; exact ob_info) ?_)
    | (refine wpList_store_row (by rfl) 27 (.tmp 2) (.tmp 64) (by rfl) w.heap.size XO (by rfl) (by rfl) 27 _ HRW.out.2 (by rw [HXO.out.2.1]; exact ob_info) (by rw [HXO.out.2.1, HZS.out.1]) HXO.out.2.2 ?_))
  have hrf : (w10.setRow w.heap.size XO).heap[w.heap.size]? = some (.cells XO 27 (0, 0)) := setRow_at HRW.out.2
  have hg : w10.grownBy (w10.setRow w.heap.size XO) (some w.heap.size) := gr_row w10 _ _
  refine bodyPost_ret (results_ct rfl _ _ ⟨w.heap.size, 0, none⟩ (.agg XO) (.int .i64 0) rfl rfl (run_loadVar_row _ _ _ _ _ _ _ hrf Tryd.underlying27 rfl (by rw [HXO.out.2.1]; exact ob_info))) rfl ⟨⟨none, 0, 0, some ⟨g7, 0, none⟩, 1, 1, none, 0, 0⟩, by rw [HRO2.out.1, HXO.out.1], by rw [HRO2.out.1]; exact (H10.out.ob.turned (T := fun k => k = w.heap.size) (Turned.of_gr hg fun g e => by injection e with e; exact e.symm) fun k _ hk e => by have := hk.1; omega).mono fun k _ hk => by have := hk.1; omega, ?_, ?_⟩
  · rw [HRO2.out.1]
    exact (H10.out.rd.grown hg fun g e => by injection e with e; subst e; intro hs; have := hs.2; omega).mono fun _ _ h => h.1
  · have h1 := H10.out.gr
    exact ⟨hg.os.trans h1.os, hg.tape.trans h1.tape, hg.output.trans h1.output, Nat.le_trans h1.size hg.size, fun i hi hne => (hg.block i (Nat.lt_of_lt_of_le hi h1.size) (fun e => by injection e; omega)).trans (h1.block i hi hne)⟩
theorem read_any {w : World} {S : Nat → Prop} {p : Nat} {l : List UInt8} (h : Rd w S p l 0) (hl : l.length ≤ 140737488355328) :
    Calls Tryd.prog 31 #[.pointer (some ⟨p, 0, none⟩)] w (RePost S w p (readO l)) := by
  by_cases h0 : uiE l 0 = 0
  · by_cases hk : uiX l 0 < 1 ∨ 4 < uiX l 0
    · exact read_kind h h0 hk
    · have h4 : uiX l 0 = 1 ∨ uiX l 0 = 2 ∨ uiX l 0 = 3 ∨ uiX l 0 = 4 := by omega
      rcases h4 with h4 | h4 | h4 | h4
      · exact read1 h hl h0 h4
      · exact read2 h hl h0 h4
      · exact read3 h hl h0 h4
      · exact read4 h hl h0 h4
  · exact read_err h h0
end Go.Proofs.YtmakpjcgiiljfaaDoor
