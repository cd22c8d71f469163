/-
  Objects: the object of bytes.
  Objects: those that an object names.
  A struct or an array that is built of one cell.
  Arrays of bytes held against each other.
  Objects: entries, and ids, held against each other.
  The cells of old rows stay, and the rows ahead of B whole: 'Cel B'. ('[]byte("a")' marks a row that it has made: its cells stay.)
-/
import Derived.Test.YtmakpjcgiiljfaaDoorPk13
import Derived.Test.YtmakpjcgiiljfaaDoorPk09
import Derived.Test.YtmakpjcgiiljfaaDoorPk07
import Derived.Test.YtmakpjcgiiljfaaDoorPk11
import Derived.Test.YtmakpjcgiiljfaaDoorPk02
import Derived.Lib.SliceRun
import Derived.Test.YtmakpjcgiiljfaaDoorPk01
import Derived.DeepKeys
import Derived.Laws.StructEq
/-! Objects: the object of bytes. -/
namespace Go.Proofs.YtmakpjcgiiljfaaDoor
open Go.RowKit Codec

/-- What Get ends in. -/
def OgPost (w : World) (g : Ob × Int) (e : Ending) (w' : World) : Prop :=
  ∃ P, e = .returned (.tuple #[.agg (obV P g.1), .int .i64 g.2]) ∧ Obm w' (w.heap.size ≤ ·) P g.1 ∧ Below w.heap.size w w'
set_option maxHeartbeats 8000000 in
set_option maxRecDepth 100000 in
theorem oget_read {w : World} {S : Nat → Prop} {A : Option Addr} {n c : Nat} {b : List UInt8} (h : Byt w S A n c b) (hn : n ≤ 140737488355328) (h1 : (readO b).2.1 ≠ 0) :
    Calls Tryd.prog 14 #[.slice A n c] w (OgPost w (getO b)) := by
  have hzo : ∀ W, (zeroValue 27).run Tryd.prog W = .ok (.agg zeroOb) W := zero_ob
  have hb0 : Below w.heap.size w (w.alloc (.cells zeroOb 27)) := (Below.refl _ _).alloc (Nat.le_refl _) _
  have hnr := newReader (h.below hb0) hn
  have HN : Hid ((w.alloc (.cells zeroOb 27)).heap[w.heap.size]? = some (.cells zeroOb 27 (0, 0)) ∧ Below w.heap.size w (w.alloc (.cells zeroOb 27)) ∧ b.length ≤ 140737488355328) := Lib.hid ⟨heap_alloc_new w _, hb0, by rw [h.len]; exact hn⟩
  obtain ⟨r, hr⟩ : ∃ r, r = readO b := ⟨_, rfl⟩
  have HR : Hid (getO b = endO r ∧ r = readO b) := Lib.hid ⟨by rw [hr]; rfl, hr⟩
  have HE1 : Hid (r.2.1 ≠ 0) := Lib.hid (by rw [hr]; exact h1)
  clear h1
  obtain ⟨ZO, hZO⟩ : ∃ ZO, ZO = zeroOb := ⟨_, rfl⟩
  rw [← hZO] at hnr hzo HN
  have HZS : Hid (ZO.size = 6 ∧ ZO.all (·.oneCell') = true ∧ ZO = obV atZ obZ) := Lib.hid ⟨by rw [hZO]; rfl, by rw [hZO]; exact obV_one atZ obZ, by rw [hZO]; rfl⟩
  have hbd : ∀ W, (Instr.build 27 #[]).run Tryd.prog W = .ok (.agg ZO) W := fun W => by rw [hZO]; unfold zeroOb; exact build_ob W
  clear hZO hb0 h hn hr
  go_enter Tryd.func14, Tryd.ntmps14
  go_upto_region 2 with (go_at_call 30; refine hnr.mono ?_; clear hnr; rintro _ w2 ⟨p, rfl, hr2, hb2⟩)
  have hrd := read_any hr2 HN.out.2.2
  have H2 : Hid (w2.heap[w.heap.size]? = some (.cells ZO 27 (0, 0)) ∧ Below w.heap.size w w2 ∧ w.heap.size < w2.heap.size ∧ w.heap.size < p) := Lib.hid ⟨(hb2.block _ (lt_of_cells HN.out.1)).trans HN.out.1, HN.out.2.1.trans (hb2.mono HN.out.2.1.size), Nat.lt_of_lt_of_le (lt_of_cells HN.out.1) hb2.size, Nat.lt_of_lt_of_le (lt_of_cells HN.out.1) hr2.1⟩
  rw [← HR.out.2] at hrd
  clear hb2 hr2
  obtain ⟨X, hX⟩ : ∃ X, X = r.1 := ⟨_, rfl⟩
  obtain ⟨E1, hE1⟩ : ∃ E1, E1 = r.2.1 := ⟨_, rfl⟩
  have hrd2 : Calls Tryd.prog 31 #[.pointer (some ⟨p, 0, none⟩)] w2 fun e w' => ∃ XO, Hid (∃ P, XO = obV P X ∧ Obm w' (w2.heap.size ≤ ·) P X) ∧ e = .returned (.tuple #[.agg XO, .int .i64 E1]) ∧ Hid (Rd w' ((w.alloc (.cells ZO 27)).heap.size ≤ ·) p r.2.2.1 r.2.2.2 ∧ w2.grownBy w' (some p)) := hrd.mono fun e w' ⟨P, h1, h2, h3, h4⟩ => ⟨_, Lib.hid ⟨P, rfl, by rw [hX]; exact h2⟩, by rw [h1, hX, hE1], Lib.hid ⟨h3, h4⟩⟩
  have HX := Lib.hid (And.intro hX hE1)
  clear hrd hX hE1
  go_upto_region 3 with (first
    | (go_at_call 31; refine hrd2.mono ?_; clear hrd2; rintro _ w3 ⟨XO, HXO, rfl, HR3⟩; have HXS : Hid (XO.size = 6 ∧ XO.all (·.oneCell') = true) := (by obtain ⟨P, h1, _⟩ := HXO.out; exact Lib.hid ⟨by rw [h1]; rfl, by rw [h1]; exact obV_one _ _⟩))
    | (refine wpList_store_row (by rfl) 27 (.tmp 5) (.tmp 12) (by rfl) w3.heap.size XO (by rfl) (by rfl) 27 _ (heap_alloc_new w3 _) (by rw [HXS.out.1]; exact ob_info) (by rw [HXS.out.1, HZS.out.1]) HXS.out.2 ?_))
  have hal : Below w3.heap.size w3 ((w3.alloc (.cells ZO 27)).setRow w3.heap.size XO) := below_setRow ((Below.refl _ _).alloc (Nat.le_refl _) _) (Nat.le_refl _) _
  have hpa : ((w3.alloc (.cells ZO 27)).setRow w3.heap.size XO).heap[w3.heap.size]? = some (.cells XO 27 (0, 0)) := setRow_at (heap_alloc_new w3 _)
  have HW : Hid (((w3.alloc (.cells ZO 27)).setRow w3.heap.size XO).heap[w.heap.size]? = some (.cells ZO 27 (0, 0)) ∧ ((w3.alloc (.cells ZO 27)).setRow w3.heap.size XO).heap[w3.heap.size]? = some (.cells XO 27 (0, 0)) ∧ Below w.heap.size w ((w3.alloc (.cells ZO 27)).setRow w3.heap.size XO) ∧ (∃ P, XO = obV P X ∧ Obm ((w3.alloc (.cells ZO 27)).setRow w3.heap.size XO) (fun k => w.heap.size < k) P X) ∧ w.heap.size < w3.heap.size) := Lib.hid (by
    have h1 := HR3.out.2
    have h2 := H2.out
    have h3 : w3.heap[w.heap.size]? = some (.cells ZO 27 (0, 0)) := (h1.block _ (lt_of_cells h2.1) (fun e => by injection e; omega)).trans h2.1
    obtain ⟨P, e1, e2⟩ := HXO.out
    refine ⟨(hal.block _ (lt_of_cells h3)).trans h3, hpa, ?_, ⟨P, e1, (e2.mono fun k _ hk => by have : w2.heap.size ≤ k := hk; omega).below hal⟩, lt_of_cells h3⟩
    exact ((h2.2.1.grown h1 h2.2.1.size (fun g e => by injection e with e; omega))).trans (hal.mono (Nat.le_of_lt (lt_of_cells h3))))
  have hend := end_rd (HR3.out.1.below hal)
  obtain ⟨E2, hE2⟩ : ∃ E2, E2 = endE r.2.2.1 r.2.2.2 := ⟨_, rfl⟩
  rw [← hE2] at hend
  have HE2 := Lib.hid hE2
  obtain ⟨q5, hq5⟩ : ∃ q5, q5 = w3.heap.size := ⟨_, rfl⟩
  rw [← hq5] at hend HW
  rw [← hq5]
  clear hal hpa hzo hE2 hq5 HR3 HXO H2
  generalize (w3.alloc (.cells ZO 27)).setRow q5 XO = w4 at *
  have HG : Hid (getO b = (obZ, E1)) := Lib.hid (by rw [HR.out.1, HX.out.2]; unfold endO; rw [if_pos HE1.out])
  have hne : (E1 == 0) = false := by have := HE1.out; rw [← HX.out.2] at this; simpa using this
  have hne2 : (E1 != 0) = true := by have := HE1.out; rw [← HX.out.2] at this; simpa using this
  clear hend
  go_wp2_with (first
    | (refine wpList_build0 (by rfl) 27 (by rfl) (.agg ZO) hbd ?_)
    | (refine wpList_store_row (by rfl) 27 (.tmp 2) (.tmp 27) (by rfl) w.heap.size ZO (by rfl) (by rfl) 27 _ HW.out.1 (by rw [HZS.out.1]; exact ob_info) (by rfl) HZS.out.2.1 ?_))
  have hrf : (w4.setRow w.heap.size ZO).heap[w.heap.size]? = some (.cells ZO 27 (0, 0)) := setRow_at HW.out.1
  refine bodyPost_ret (results_ct rfl _ _ ⟨w.heap.size, 0, none⟩ (.agg ZO) (.int .i64 E1) rfl rfl (run_loadVar_row _ _ _ _ _ _ _ hrf Tryd.underlying27 rfl (by rw [HZS.out.1]; exact ob_info))) rfl ⟨atZ, by rw [HG.out, ← HZS.out.2.2], by rw [HG.out]; exact obj_zero _ _, below_setRow HW.out.2.2.1 (Nat.le_refl _) _⟩
set_option maxHeartbeats 8000000 in
set_option maxRecDepth 100000 in
theorem oget_end {w : World} {S : Nat → Prop} {A : Option Addr} {n c : Nat} {b : List UInt8} (h : Byt w S A n c b) (hn : n ≤ 140737488355328) (h1 : (readO b).2.1 = 0) (h2 : endE (readO b).2.2.1 (readO b).2.2.2 ≠ 0) :
    Calls Tryd.prog 14 #[.slice A n c] w (OgPost w (getO b)) := by
  have hzo : ∀ W, (zeroValue 27).run Tryd.prog W = .ok (.agg zeroOb) W := zero_ob
  have hb0 : Below w.heap.size w (w.alloc (.cells zeroOb 27)) := (Below.refl _ _).alloc (Nat.le_refl _) _
  have hnr := newReader (h.below hb0) hn
  have HN : Hid ((w.alloc (.cells zeroOb 27)).heap[w.heap.size]? = some (.cells zeroOb 27 (0, 0)) ∧ Below w.heap.size w (w.alloc (.cells zeroOb 27)) ∧ b.length ≤ 140737488355328) := Lib.hid ⟨heap_alloc_new w _, hb0, by rw [h.len]; exact hn⟩
  obtain ⟨r, hr⟩ : ∃ r, r = readO b := ⟨_, rfl⟩
  have HR : Hid (getO b = endO r ∧ r = readO b) := Lib.hid ⟨by rw [hr]; rfl, hr⟩
  have HE1 : Hid (r.2.1 = 0 ∧ endE r.2.2.1 r.2.2.2 ≠ 0) := Lib.hid ⟨by rw [hr]; exact h1, by rw [hr]; exact h2⟩
  clear h1 h2
  obtain ⟨ZO, hZO⟩ : ∃ ZO, ZO = zeroOb := ⟨_, rfl⟩
  rw [← hZO] at hnr hzo HN
  have HZS : Hid (ZO.size = 6 ∧ ZO.all (·.oneCell') = true ∧ ZO = obV atZ obZ) := Lib.hid ⟨by rw [hZO]; rfl, by rw [hZO]; exact obV_one atZ obZ, by rw [hZO]; rfl⟩
  have hbd : ∀ W, (Instr.build 27 #[]).run Tryd.prog W = .ok (.agg ZO) W := fun W => by rw [hZO]; unfold zeroOb; exact build_ob W
  clear hZO hb0 h hn hr
  go_enter Tryd.func14, Tryd.ntmps14
  go_upto_region 2 with (go_at_call 30; refine hnr.mono ?_; clear hnr; rintro _ w2 ⟨p, rfl, hr2, hb2⟩)
  have hrd := read_any hr2 HN.out.2.2
  have H2 : Hid (w2.heap[w.heap.size]? = some (.cells ZO 27 (0, 0)) ∧ Below w.heap.size w w2 ∧ w.heap.size < w2.heap.size ∧ w.heap.size < p) := Lib.hid ⟨(hb2.block _ (lt_of_cells HN.out.1)).trans HN.out.1, HN.out.2.1.trans (hb2.mono HN.out.2.1.size), Nat.lt_of_lt_of_le (lt_of_cells HN.out.1) hb2.size, Nat.lt_of_lt_of_le (lt_of_cells HN.out.1) hr2.1⟩
  rw [← HR.out.2] at hrd
  clear hb2 hr2
  obtain ⟨X, hX⟩ : ∃ X, X = r.1 := ⟨_, rfl⟩
  obtain ⟨E1, hE1⟩ : ∃ E1, E1 = r.2.1 := ⟨_, rfl⟩
  have hrd2 : Calls Tryd.prog 31 #[.pointer (some ⟨p, 0, none⟩)] w2 fun e w' => ∃ XO, Hid (∃ P, XO = obV P X ∧ Obm w' (w2.heap.size ≤ ·) P X) ∧ e = .returned (.tuple #[.agg XO, .int .i64 E1]) ∧ Hid (Rd w' ((w.alloc (.cells ZO 27)).heap.size ≤ ·) p r.2.2.1 r.2.2.2 ∧ w2.grownBy w' (some p)) := hrd.mono fun e w' ⟨P, h1, h2, h3, h4⟩ => ⟨_, Lib.hid ⟨P, rfl, by rw [hX]; exact h2⟩, by rw [h1, hX, hE1], Lib.hid ⟨h3, h4⟩⟩
  have HX := Lib.hid (And.intro hX hE1)
  clear hrd hX hE1
  go_upto_region 3 with (first
    | (go_at_call 31; refine hrd2.mono ?_; clear hrd2; rintro _ w3 ⟨XO, HXO, rfl, HR3⟩; have HXS : Hid (XO.size = 6 ∧ XO.all (·.oneCell') = true) := (by obtain ⟨P, h1, _⟩ := HXO.out; exact Lib.hid ⟨by rw [h1]; rfl, by rw [h1]; exact obV_one _ _⟩))
    | (refine wpList_store_row (by rfl) 27 (.tmp 5) (.tmp 12) (by rfl) w3.heap.size XO (by rfl) (by rfl) 27 _ (heap_alloc_new w3 _) (by rw [HXS.out.1]; exact ob_info) (by rw [HXS.out.1, HZS.out.1]) HXS.out.2 ?_))
  have hal : Below w3.heap.size w3 ((w3.alloc (.cells ZO 27)).setRow w3.heap.size XO) := below_setRow ((Below.refl _ _).alloc (Nat.le_refl _) _) (Nat.le_refl _) _
  have hpa : ((w3.alloc (.cells ZO 27)).setRow w3.heap.size XO).heap[w3.heap.size]? = some (.cells XO 27 (0, 0)) := setRow_at (heap_alloc_new w3 _)
  have HW : Hid (((w3.alloc (.cells ZO 27)).setRow w3.heap.size XO).heap[w.heap.size]? = some (.cells ZO 27 (0, 0)) ∧ ((w3.alloc (.cells ZO 27)).setRow w3.heap.size XO).heap[w3.heap.size]? = some (.cells XO 27 (0, 0)) ∧ Below w.heap.size w ((w3.alloc (.cells ZO 27)).setRow w3.heap.size XO) ∧ (∃ P, XO = obV P X ∧ Obm ((w3.alloc (.cells ZO 27)).setRow w3.heap.size XO) (fun k => w.heap.size < k) P X) ∧ w.heap.size < w3.heap.size) := Lib.hid (by
    have h1 := HR3.out.2
    have h2 := H2.out
    have h3 : w3.heap[w.heap.size]? = some (.cells ZO 27 (0, 0)) := (h1.block _ (lt_of_cells h2.1) (fun e => by injection e; omega)).trans h2.1
    obtain ⟨P, e1, e2⟩ := HXO.out
    refine ⟨(hal.block _ (lt_of_cells h3)).trans h3, hpa, ?_, ⟨P, e1, (e2.mono fun k _ hk => by have : w2.heap.size ≤ k := hk; omega).below hal⟩, lt_of_cells h3⟩
    exact ((h2.2.1.grown h1 h2.2.1.size (fun g e => by injection e with e; omega))).trans (hal.mono (Nat.le_of_lt (lt_of_cells h3))))
  have hend := end_rd (HR3.out.1.below hal)
  obtain ⟨E2, hE2⟩ : ∃ E2, E2 = endE r.2.2.1 r.2.2.2 := ⟨_, rfl⟩
  rw [← hE2] at hend
  have HE2 := Lib.hid hE2
  obtain ⟨q5, hq5⟩ : ∃ q5, q5 = w3.heap.size := ⟨_, rfl⟩
  rw [← hq5] at hend HW
  rw [← hq5]
  clear hal hpa hzo hE2 hq5 HR3 HXO H2
  generalize (w3.alloc (.cells ZO 27)).setRow q5 XO = w4 at *
  have HG : Hid (getO b = (obZ, E2)) := Lib.hid (by rw [HR.out.1, HE2.out]; unfold endO; rw [if_neg (by rw [HE1.out.1]; simp), if_pos HE1.out.2])
  obtain rfl : E1 = 0 := by rw [HX.out.2]; exact HE1.out.1
  have hne : (E2 == 0) = false := by have := HE1.out.2; rw [← HE2.out] at this; simpa using this
  have hne2 : (E2 != 0) = true := by have := HE1.out.2; rw [← HE2.out] at this; simpa using this
  go_wp2_with (first
    | (go_at_call 32; refine hend.mono ?_; clear hend; rintro _ _ ⟨rfl, rfl⟩)
    | (refine wpList_build0 (by rfl) 27 (by rfl) (.agg ZO) hbd ?_)
    | (refine wpList_store_row (by rfl) 27 (.tmp 2) (.tmp 27) (by rfl) w.heap.size ZO (by rfl) (by rfl) 27 _ HW.out.1 (by rw [HZS.out.1]; exact ob_info) (by rfl) HZS.out.2.1 ?_))
  have hrf : (w4.setRow w.heap.size ZO).heap[w.heap.size]? = some (.cells ZO 27 (0, 0)) := setRow_at HW.out.1
  refine bodyPost_ret (results_ct rfl _ _ ⟨w.heap.size, 0, none⟩ (.agg ZO) (.int .i64 E2) rfl rfl (run_loadVar_row _ _ _ _ _ _ _ hrf Tryd.underlying27 rfl (by rw [HZS.out.1]; exact ob_info))) rfl ⟨atZ, by rw [HG.out, ← HZS.out.2.2], by rw [HG.out]; exact obj_zero _ _, below_setRow HW.out.2.2.1 (Nat.le_refl _) _⟩
set_option maxHeartbeats 8000000 in
set_option maxRecDepth 100000 in
theorem oget_may {w : World} {S : Nat → Prop} {A : Option Addr} {n c : Nat} {b : List UInt8} (h : Byt w S A n c b) (hn : n ≤ 140737488355328) (h1 : (readO b).2.1 = 0) (h2 : endE (readO b).2.2.1 (readO b).2.2.2 = 0) (h3 : chkO (readO b).1 = 1) :
    Calls Tryd.prog 14 #[.slice A n c] w (OgPost w (getO b)) := by
  have hzo : ∀ W, (zeroValue 27).run Tryd.prog W = .ok (.agg zeroOb) W := zero_ob
  have hb0 : Below w.heap.size w (w.alloc (.cells zeroOb 27)) := (Below.refl _ _).alloc (Nat.le_refl _) _
  have hnr := newReader (h.below hb0) hn
  have HN : Hid ((w.alloc (.cells zeroOb 27)).heap[w.heap.size]? = some (.cells zeroOb 27 (0, 0)) ∧ Below w.heap.size w (w.alloc (.cells zeroOb 27)) ∧ b.length ≤ 140737488355328) := Lib.hid ⟨heap_alloc_new w _, hb0, by rw [h.len]; exact hn⟩
  obtain ⟨r, hr⟩ : ∃ r, r = readO b := ⟨_, rfl⟩
  have HR : Hid (getO b = endO r ∧ r = readO b) := Lib.hid ⟨by rw [hr]; rfl, hr⟩
  have HE1 : Hid (r.2.1 = 0 ∧ endE r.2.2.1 r.2.2.2 = 0 ∧ chkO r.1 = 1) := Lib.hid ⟨by rw [hr]; exact h1, by rw [hr]; exact h2, by rw [hr]; exact h3⟩
  clear h1 h2 h3
  obtain ⟨ZO, hZO⟩ : ∃ ZO, ZO = zeroOb := ⟨_, rfl⟩
  rw [← hZO] at hnr hzo HN
  have HZS : Hid (ZO.size = 6 ∧ ZO.all (·.oneCell') = true ∧ ZO = obV atZ obZ) := Lib.hid ⟨by rw [hZO]; rfl, by rw [hZO]; exact obV_one atZ obZ, by rw [hZO]; rfl⟩
  have hbd : ∀ W, (Instr.build 27 #[]).run Tryd.prog W = .ok (.agg ZO) W := fun W => by rw [hZO]; unfold zeroOb; exact build_ob W
  clear hZO hb0 h hn hr
  go_enter Tryd.func14, Tryd.ntmps14
  go_upto_region 2 with (go_at_call 30; refine hnr.mono ?_; clear hnr; rintro _ w2 ⟨p, rfl, hr2, hb2⟩)
  have hrd := read_any hr2 HN.out.2.2
  have H2 : Hid (w2.heap[w.heap.size]? = some (.cells ZO 27 (0, 0)) ∧ Below w.heap.size w w2 ∧ w.heap.size < w2.heap.size ∧ w.heap.size < p) := Lib.hid ⟨(hb2.block _ (lt_of_cells HN.out.1)).trans HN.out.1, HN.out.2.1.trans (hb2.mono HN.out.2.1.size), Nat.lt_of_lt_of_le (lt_of_cells HN.out.1) hb2.size, Nat.lt_of_lt_of_le (lt_of_cells HN.out.1) hr2.1⟩
  rw [← HR.out.2] at hrd
  clear hb2 hr2
  obtain ⟨X, hX⟩ : ∃ X, X = r.1 := ⟨_, rfl⟩
  obtain ⟨E1, hE1⟩ : ∃ E1, E1 = r.2.1 := ⟨_, rfl⟩
  have hrd2 : Calls Tryd.prog 31 #[.pointer (some ⟨p, 0, none⟩)] w2 fun e w' => ∃ XO, Hid (∃ P, XO = obV P X ∧ Obm w' (w2.heap.size ≤ ·) P X) ∧ e = .returned (.tuple #[.agg XO, .int .i64 E1]) ∧ Hid (Rd w' ((w.alloc (.cells ZO 27)).heap.size ≤ ·) p r.2.2.1 r.2.2.2 ∧ w2.grownBy w' (some p)) := hrd.mono fun e w' ⟨P, h1, h2, h3, h4⟩ => ⟨_, Lib.hid ⟨P, rfl, by rw [hX]; exact h2⟩, by rw [h1, hX, hE1], Lib.hid ⟨h3, h4⟩⟩
  have HX := Lib.hid (And.intro hX hE1)
  clear hrd hX hE1
  go_upto_region 3 with (first
    | (go_at_call 31; refine hrd2.mono ?_; clear hrd2; rintro _ w3 ⟨XO, HXO, rfl, HR3⟩; have HXS : Hid (XO.size = 6 ∧ XO.all (·.oneCell') = true) := (by obtain ⟨P, h1, _⟩ := HXO.out; exact Lib.hid ⟨by rw [h1]; rfl, by rw [h1]; exact obV_one _ _⟩))
    | (refine wpList_store_row (by rfl) 27 (.tmp 5) (.tmp 12) (by rfl) w3.heap.size XO (by rfl) (by rfl) 27 _ (heap_alloc_new w3 _) (by rw [HXS.out.1]; exact ob_info) (by rw [HXS.out.1, HZS.out.1]) HXS.out.2 ?_))
  have hal : Below w3.heap.size w3 ((w3.alloc (.cells ZO 27)).setRow w3.heap.size XO) := below_setRow ((Below.refl _ _).alloc (Nat.le_refl _) _) (Nat.le_refl _) _
  have hpa : ((w3.alloc (.cells ZO 27)).setRow w3.heap.size XO).heap[w3.heap.size]? = some (.cells XO 27 (0, 0)) := setRow_at (heap_alloc_new w3 _)
  have HW : Hid (((w3.alloc (.cells ZO 27)).setRow w3.heap.size XO).heap[w.heap.size]? = some (.cells ZO 27 (0, 0)) ∧ ((w3.alloc (.cells ZO 27)).setRow w3.heap.size XO).heap[w3.heap.size]? = some (.cells XO 27 (0, 0)) ∧ Below w.heap.size w ((w3.alloc (.cells ZO 27)).setRow w3.heap.size XO) ∧ (∃ P, XO = obV P X ∧ Obm ((w3.alloc (.cells ZO 27)).setRow w3.heap.size XO) (fun k => w.heap.size < k) P X) ∧ w.heap.size < w3.heap.size) := Lib.hid (by
    have h1 := HR3.out.2
    have h2 := H2.out
    have h3 : w3.heap[w.heap.size]? = some (.cells ZO 27 (0, 0)) := (h1.block _ (lt_of_cells h2.1) (fun e => by injection e; omega)).trans h2.1
    obtain ⟨P, e1, e2⟩ := HXO.out
    refine ⟨(hal.block _ (lt_of_cells h3)).trans h3, hpa, ?_, ⟨P, e1, (e2.mono fun k _ hk => by have : w2.heap.size ≤ k := hk; omega).below hal⟩, lt_of_cells h3⟩
    exact ((h2.2.1.grown h1 h2.2.1.size (fun g e => by injection e with e; omega))).trans (hal.mono (Nat.le_of_lt (lt_of_cells h3))))
  have hend := end_rd (HR3.out.1.below hal)
  obtain ⟨E2, hE2⟩ : ∃ E2, E2 = endE r.2.2.1 r.2.2.2 := ⟨_, rfl⟩
  rw [← hE2] at hend
  have HE2 := Lib.hid hE2
  obtain ⟨q5, hq5⟩ : ∃ q5, q5 = w3.heap.size := ⟨_, rfl⟩
  rw [← hq5] at hend HW
  rw [← hq5]
  clear hal hpa hzo hE2 hq5 HR3 HXO H2
  generalize (w3.alloc (.cells ZO 27)).setRow q5 XO = w4 at *
  have HG : Hid (getO b = (obZ, 11)) := Lib.hid (by rw [HR.out.1]; unfold endO; rw [if_neg (by rw [HE1.out.1]; simp), if_neg (by rw [HE1.out.2.1]; simp), if_pos (by rw [HE1.out.2.2]; decide)])
  obtain rfl : E1 = 0 := by rw [HX.out.2]; exact HE1.out.1
  obtain rfl : E2 = 0 := by rw [HE2.out]; exact HE1.out.2.1
  obtain ⟨P, hP1, hP2⟩ := HW.out.2.2.2.1
  have hck := check_obj hP2
  rw [← hP1, HX.out.1, HE1.out.2.2] at hck
  have HP := Lib.hid (And.intro hP1 hP2)
  clear hP1 hP2
  go_upto_region 7 with (first
    | (go_at_call 32; refine hend.mono ?_; clear hend; rintro _ _ ⟨rfl, rfl⟩)
    | (refine wpList_load_row_on (by rfl) 27 (.tmp 5) (by rfl) q5 (by rfl) 27 XO (0, 0) _ HW.out.2.1 Tryd.underlying27 (by rfl) (by rw [HXS.out.1]; exact ob_info) ?_)
    | (go_at_call 12; refine hck.mono ?_; clear hck; rintro _ w5 ⟨rfl, hb5⟩))
  have H5 : Hid (w5.heap[w.heap.size]? = some (.cells ZO 27 (0, 0)) ∧ w5.heap[q5]? = some (.cells XO 27 (0, 0)) ∧ Below w.heap.size w w5 ∧ Obm w5 (fun k => w.heap.size < k) P X) := Lib.hid ⟨(hb5.block _ (lt_of_cells HW.out.1)).trans HW.out.1, (hb5.block _ (lt_of_cells HW.out.2.1)).trans HW.out.2.1, HW.out.2.2.1.trans (hb5.mono HW.out.2.2.1.size), HP.out.2.below hb5⟩
  clear hb5
  go_wp2_with (first
    | (refine wpList_build0 (by rfl) 27 (by rfl) (.agg ZO) hbd ?_)
    | (refine wpList_store_row (by rfl) 27 (.tmp 2) (.tmp 27) (by rfl) w.heap.size ZO (by rfl) (by rfl) 27 _ H5.out.1 (by rw [HZS.out.1]; exact ob_info) (by rfl) HZS.out.2.1 ?_))
  have hrf : (w5.setRow w.heap.size ZO).heap[w.heap.size]? = some (.cells ZO 27 (0, 0)) := setRow_at H5.out.1
  refine bodyPost_ret (results_ct rfl _ _ ⟨w.heap.size, 0, none⟩ (.agg ZO) (.int .i64 11) rfl rfl (run_loadVar_row _ _ _ _ _ _ _ hrf Tryd.underlying27 rfl (by rw [HZS.out.1]; exact ob_info))) rfl ⟨atZ, by rw [HG.out, ← HZS.out.2.2], by rw [HG.out]; exact obj_zero _ _, below_setRow H5.out.2.2.1 (Nat.le_refl _) _⟩
set_option maxHeartbeats 8000000 in
set_option maxRecDepth 100000 in
theorem oget_fine {w : World} {S : Nat → Prop} {A : Option Addr} {n c : Nat} {b : List UInt8} (h : Byt w S A n c b) (hn : n ≤ 140737488355328) (h1 : (readO b).2.1 = 0) (h2 : endE (readO b).2.2.1 (readO b).2.2.2 = 0) (h3 : chkO (readO b).1 = 0) :
    Calls Tryd.prog 14 #[.slice A n c] w (OgPost w (getO b)) := by
  have hzo : ∀ W, (zeroValue 27).run Tryd.prog W = .ok (.agg zeroOb) W := zero_ob
  have hb0 : Below w.heap.size w (w.alloc (.cells zeroOb 27)) := (Below.refl _ _).alloc (Nat.le_refl _) _
  have hnr := newReader (h.below hb0) hn
  have HN : Hid ((w.alloc (.cells zeroOb 27)).heap[w.heap.size]? = some (.cells zeroOb 27 (0, 0)) ∧ Below w.heap.size w (w.alloc (.cells zeroOb 27)) ∧ b.length ≤ 140737488355328) := Lib.hid ⟨heap_alloc_new w _, hb0, by rw [h.len]; exact hn⟩
  obtain ⟨r, hr⟩ : ∃ r, r = readO b := ⟨_, rfl⟩
  have HR : Hid (getO b = endO r ∧ r = readO b) := Lib.hid ⟨by rw [hr]; rfl, hr⟩
  have HE1 : Hid (r.2.1 = 0 ∧ endE r.2.2.1 r.2.2.2 = 0 ∧ chkO r.1 = 0) := Lib.hid ⟨by rw [hr]; exact h1, by rw [hr]; exact h2, by rw [hr]; exact h3⟩
  clear h1 h2 h3
  obtain ⟨ZO, hZO⟩ : ∃ ZO, ZO = zeroOb := ⟨_, rfl⟩
  rw [← hZO] at hnr hzo HN
  have HZS : Hid (ZO.size = 6 ∧ ZO.all (·.oneCell') = true ∧ ZO = obV atZ obZ) := Lib.hid ⟨by rw [hZO]; rfl, by rw [hZO]; exact obV_one atZ obZ, by rw [hZO]; rfl⟩
  have hbd : ∀ W, (Instr.build 27 #[]).run Tryd.prog W = .ok (.agg ZO) W := fun W => by rw [hZO]; unfold zeroOb; exact build_ob W
  clear hZO hb0 h hn hr
  go_enter Tryd.func14, Tryd.ntmps14
  go_upto_region 2 with (go_at_call 30; refine hnr.mono ?_; clear hnr; rintro _ w2 ⟨p, rfl, hr2, hb2⟩)
  have hrd := read_any hr2 HN.out.2.2
  have H2 : Hid (w2.heap[w.heap.size]? = some (.cells ZO 27 (0, 0)) ∧ Below w.heap.size w w2 ∧ w.heap.size < w2.heap.size ∧ w.heap.size < p) := Lib.hid ⟨(hb2.block _ (lt_of_cells HN.out.1)).trans HN.out.1, HN.out.2.1.trans (hb2.mono HN.out.2.1.size), Nat.lt_of_lt_of_le (lt_of_cells HN.out.1) hb2.size, Nat.lt_of_lt_of_le (lt_of_cells HN.out.1) hr2.1⟩
  rw [← HR.out.2] at hrd
  clear hb2 hr2
  obtain ⟨X, hX⟩ : ∃ X, X = r.1 := ⟨_, rfl⟩
  obtain ⟨E1, hE1⟩ : ∃ E1, E1 = r.2.1 := ⟨_, rfl⟩
  have hrd2 : Calls Tryd.prog 31 #[.pointer (some ⟨p, 0, none⟩)] w2 fun e w' => ∃ XO, Hid (∃ P, XO = obV P X ∧ Obm w' (w2.heap.size ≤ ·) P X) ∧ e = .returned (.tuple #[.agg XO, .int .i64 E1]) ∧ Hid (Rd w' ((w.alloc (.cells ZO 27)).heap.size ≤ ·) p r.2.2.1 r.2.2.2 ∧ w2.grownBy w' (some p)) := hrd.mono fun e w' ⟨P, h1, h2, h3, h4⟩ => ⟨_, Lib.hid ⟨P, rfl, by rw [hX]; exact h2⟩, by rw [h1, hX, hE1], Lib.hid ⟨h3, h4⟩⟩
  have HX := Lib.hid (And.intro hX hE1)
  clear hrd hX hE1
  go_upto_region 3 with (first
    | (go_at_call 31; refine hrd2.mono ?_; clear hrd2; rintro _ w3 ⟨XO, HXO, rfl, HR3⟩; have HXS : Hid (XO.size = 6 ∧ XO.all (·.oneCell') = true) := (by obtain ⟨P, h1, _⟩ := HXO.out; exact Lib.hid ⟨by rw [h1]; rfl, by rw [h1]; exact obV_one _ _⟩))
    | (refine wpList_store_row (by rfl) 27 (.tmp 5) (.tmp 12) (by rfl) w3.heap.size XO (by rfl) (by rfl) 27 _ (heap_alloc_new w3 _) (by rw [HXS.out.1]; exact ob_info) (by rw [HXS.out.1, HZS.out.1]) HXS.out.2 ?_))
  have hal : Below w3.heap.size w3 ((w3.alloc (.cells ZO 27)).setRow w3.heap.size XO) := below_setRow ((Below.refl _ _).alloc (Nat.le_refl _) _) (Nat.le_refl _) _
  have hpa : ((w3.alloc (.cells ZO 27)).setRow w3.heap.size XO).heap[w3.heap.size]? = some (.cells XO 27 (0, 0)) := setRow_at (heap_alloc_new w3 _)
  have HW : Hid (((w3.alloc (.cells ZO 27)).setRow w3.heap.size XO).heap[w.heap.size]? = some (.cells ZO 27 (0, 0)) ∧ ((w3.alloc (.cells ZO 27)).setRow w3.heap.size XO).heap[w3.heap.size]? = some (.cells XO 27 (0, 0)) ∧ Below w.heap.size w ((w3.alloc (.cells ZO 27)).setRow w3.heap.size XO) ∧ (∃ P, XO = obV P X ∧ Obm ((w3.alloc (.cells ZO 27)).setRow w3.heap.size XO) (fun k => w.heap.size < k) P X) ∧ w.heap.size < w3.heap.size) := Lib.hid (by
    have h1 := HR3.out.2
    have h2 := H2.out
    have h3 : w3.heap[w.heap.size]? = some (.cells ZO 27 (0, 0)) := (h1.block _ (lt_of_cells h2.1) (fun e => by injection e; omega)).trans h2.1
    obtain ⟨P, e1, e2⟩ := HXO.out
    refine ⟨(hal.block _ (lt_of_cells h3)).trans h3, hpa, ?_, ⟨P, e1, (e2.mono fun k _ hk => by have : w2.heap.size ≤ k := hk; omega).below hal⟩, lt_of_cells h3⟩
    exact ((h2.2.1.grown h1 h2.2.1.size (fun g e => by injection e with e; omega))).trans (hal.mono (Nat.le_of_lt (lt_of_cells h3))))
  have hend := end_rd (HR3.out.1.below hal)
  obtain ⟨E2, hE2⟩ : ∃ E2, E2 = endE r.2.2.1 r.2.2.2 := ⟨_, rfl⟩
  rw [← hE2] at hend
  have HE2 := Lib.hid hE2
  obtain ⟨q5, hq5⟩ : ∃ q5, q5 = w3.heap.size := ⟨_, rfl⟩
  rw [← hq5] at hend HW
  rw [← hq5]
  clear hal hpa hzo hE2 hq5 HR3 HXO H2
  generalize (w3.alloc (.cells ZO 27)).setRow q5 XO = w4 at *
  have HG : Hid (getO b = (X, 0)) := Lib.hid (by rw [HR.out.1, HX.out.1]; unfold endO; rw [if_neg (by rw [HE1.out.1]; simp), if_neg (by rw [HE1.out.2.1]; simp), if_neg (by rw [HE1.out.2.2]; decide)])
  obtain rfl : E1 = 0 := by rw [HX.out.2]; exact HE1.out.1
  obtain rfl : E2 = 0 := by rw [HE2.out]; exact HE1.out.2.1
  obtain ⟨P, hP1, hP2⟩ := HW.out.2.2.2.1
  have hck := check_obj hP2
  rw [← hP1, HX.out.1, HE1.out.2.2] at hck
  have HP := Lib.hid (And.intro hP1 hP2)
  clear hP1 hP2
  go_upto_region 7 with (first
    | (go_at_call 32; refine hend.mono ?_; clear hend; rintro _ _ ⟨rfl, rfl⟩)
    | (refine wpList_load_row_on (by rfl) 27 (.tmp 5) (by rfl) q5 (by rfl) 27 XO (0, 0) _ HW.out.2.1 Tryd.underlying27 (by rfl) (by rw [HXS.out.1]; exact ob_info) ?_)
    | (go_at_call 12; refine hck.mono ?_; clear hck; rintro _ w5 ⟨rfl, hb5⟩))
  have H5 : Hid (w5.heap[w.heap.size]? = some (.cells ZO 27 (0, 0)) ∧ w5.heap[q5]? = some (.cells XO 27 (0, 0)) ∧ Below w.heap.size w w5 ∧ Obm w5 (fun k => w.heap.size < k) P X) := Lib.hid ⟨(hb5.block _ (lt_of_cells HW.out.1)).trans HW.out.1, (hb5.block _ (lt_of_cells HW.out.2.1)).trans HW.out.2.1, HW.out.2.2.1.trans (hb5.mono HW.out.2.2.1.size), HP.out.2.below hb5⟩
  clear hb5
  go_wp2_with (first
    | (refine wpList_load_row (by rfl) 27 (.tmp 5) (by rfl) q5 (by rfl) 27 XO (0, 0) _ H5.out.2.1 Tryd.underlying27 (by rfl) (by rw [HXS.out.1]; exact ob_info) ?_)
    | (refine wpList_store_row (by rfl) 27 (.tmp 2) (.tmp 29) (by rfl) w.heap.size XO (by rfl) (by rfl) 27 _ H5.out.1 (by rw [HXS.out.1]; exact ob_info) (by rw [HXS.out.1, HZS.out.1]) HXS.out.2 ?_))
  have hrf : (w5.setRow w.heap.size XO).heap[w.heap.size]? = some (.cells XO 27 (0, 0)) := setRow_at H5.out.1
  have hg : w5.grownBy (w5.setRow w.heap.size XO) (some w.heap.size) := gr_row w5 _ _
  refine bodyPost_ret (results_ct rfl _ _ ⟨w.heap.size, 0, none⟩ (.agg XO) (.int .i64 0) rfl rfl (run_loadVar_row _ _ _ _ _ _ _ hrf Tryd.underlying27 rfl (by rw [HXS.out.1]; exact ob_info))) rfl ⟨P, by rw [HG.out, HP.out.1], by rw [HG.out]; exact (H5.out.2.2.2.turned (T := fun k => k = w.heap.size) (Turned.of_gr hg fun g e => by injection e with e; exact e.symm) fun k _ (hk : w.heap.size < k) e => by omega).mono fun k _ (hk : w.heap.size < k) => by omega, below_setRow H5.out.2.2.1 (Nat.le_refl _) _⟩
theorem oget_any {w : World} {S : Nat → Prop} {A : Option Addr} {n c : Nat} {b : List UInt8} (h : Byt w S A n c b) (hn : n ≤ 140737488355328) :
    Calls Tryd.prog 14 #[.slice A n c] w (OgPost w (getO b)) := by
  by_cases h1 : (readO b).2.1 = 0
  · by_cases h2 : endE (readO b).2.2.1 (readO b).2.2.2 = 0
    · by_cases h3 : chkO (readO b).1 = 0
      · exact oget_fine h hn h1 h2 h3
      · exact oget_may h hn h1 h2 (by unfold chkO at h3 ⊢; split <;> simp_all)
    · exact oget_end h hn h1 h2
  · exact oget_read h hn h1
end Go.Proofs.YtmakpjcgiiljfaaDoor

/-! Objects: those that an object names. -/
namespace Go.Proofs.YtmakpjcgiiljfaaDoor
open Go.RowKit Codec

theorem ids_news {w : World} {S : Nat → Prop} {n c : Nat} {ad : Addr} {l : List (List UInt8)} (h : Ids w S (some ad) n c l) : ∀ j u, (idsC l)[j]? = some u → w.cell? (ad.add j) = some u := by
  intro j u hj
  have hfl := flatten_length32 h.each
  have hjl : j < n * 32 := by
    have := (List.getElem?_eq_some_iff.1 hj).1
    rw [idsC, u8s_length, hfl, h.len] at this
    exact this
  obtain ⟨b, off, hA, _, _, hc⟩ := h.row (by omega)
  obtain rfl : ad = ⟨b, off, none⟩ := by injection hA
  have h1 : j / 32 < n := by omega
  have h2 : j % 32 < 32 := Nat.mod_lt _ (by decide)
  have hc1 := hc (j / 32) (j % 32) h1 h2
  have e : j / 32 * 32 + j % 32 = j := by omega
  rw [e] at hc1
  rw [add_plain, hc1, ← hj, idsC, u8s, List.getElem?_map]
  have hf := flatten_at32 h.each (j / 32) (j % 32) (by rw [h.len]; exact h1) h2
  rw [e] at hf
  have hx : (l[j / 32]?.getD []).length = 32 := by
    rw [List.getElem?_eq_getElem (by rw [h.len]; exact h1)]
    exact h.each _ (List.getElem_mem _)
  rw [hf]
  generalize l[j / 32]?.getD [] = x at *
  simp [show j % 32 < x.length by omega]
set_option maxHeartbeats 4000000 in
set_option maxRecDepth 100000 in
theorem clone_ids {w : World} {S : Nat → Prop} {n c : Nat} {A : Option Addr} {l : List (List UInt8)} (h : Ids w S A n c l) (hn : n ≤ 100000) :
    Calls Tryd.prog 38 #[.slice A n c] w fun e w' => ∃ A' c', e = .returned (.slice A' n c') ∧ w'.ownsRow w.heap.size 49 32 (.slice A' n c') n (idsC l) ∧ Below w.heap.size w w' := by
  have hnil := fun (w : World) (a : Option Addr) (n c : Nat) => Lib.run_eql_slice_nil (P := Tryd.prog) w 24 49 a n c 0 0 Tryd.underlying24
  rcases A with _ | ad
  · have h0 : n = 0 := by
      rcases Nat.eq_zero_or_pos n with h0 | h0
      · exact h0
      · obtain ⟨_, _, hA, _⟩ := h.row h0
        cases hA
    subst h0
    have hl : l = [] := List.eq_nil_of_length_eq_zero h.len
    subst hl
    clear h
    go_enter Tryd.func38, Tryd.ntmps38
    go_wp2
    go_ret
    exact ⟨none, 0, rfl, World.ownsRow_nil _ _ _ _, Below.refl _ _⟩
  · have hb : Below w.heap.size w (w.alloc (.cells #[] 49)) := (Below.refl _ _).alloc (Nat.le_refl _) _
    obtain ⟨A9, c9, w9, hap, hown9, hb9, _⟩ := own_ids_app (l := []) (m := l) (n2 := n) (c2 := c) (a := ad) (w := w.alloc (.cells #[] 49)) (B := w.heap.size) (v := .slice (some ⟨w.heap.size, 0, none⟩) 0 0) (World.ownsRow_made w #[] 0 (Nat.le_refl _) (Nat.zero_le _) rfl) (by simp) (by simpa using h.each) h.len (ids_news (h.below hb)) (by simp; omega) 24
    have hl := h.len
    rw [List.nil_append, h.len] at hown9 hap
    have HX := Lib.hid (And.intro hown9 (hb.trans (hb9.mono (Nat.le_refl _))))
    clear h hown9 hb9 hl hb
    go_enter Tryd.func38, Tryd.ntmps38
    go_wp2_with (at_builtin; refine wpList_app (by rfl) (.tmp 5) (.tmp 6) 24 (by rfl) (by rfl) (by rfl) hap ?_)
    go_ret
    exact ⟨A9, c9, rfl, HX.out.1, HX.out.2⟩
theorem map_take (l : List En) (j : Nat) {y : En} (h : l[j]? = some y) : (l.take (j + 1)).map (·.2.2) = (l.take j).map (·.2.2) ++ [y.2.2] := by
  rw [List.take_add_one, h]
  simp
def BlR (w : World) (ids : List (List UInt8)) (es : List En) (v i : Value) (wr : World) : Prop :=
  ∃ j : Nat, j ≤ es.length ∧ i = .int .i64 (j : Int) ∧ wr.ownsRow w.heap.size 49 32 v (ids ++ (es.take j).map (·.2.2)).length (idsC (ids ++ (es.take j).map (·.2.2))) ∧ Below w.heap.size w wr
/-- What an object names. -/
def Ob.below (x : Ob) : List (List UInt8) := x.ids ++ x.es.map (·.2.2)
set_option maxHeartbeats 8000000 in
set_option maxRecDepth 100000 in
theorem below_any {w : World} {S : Nat → Prop} {p : At} {x : Ob} (h : Obm w S p x) (hi : x.ids.length ≤ 10000) (he : x.es.length ≤ 10000) :
    Calls Tryd.prog 17 #[.agg (obV p x)] w fun e w' => ∃ A n c, e = .returned (.slice A n c) ∧ w'.ownsRow w.heap.size 49 32 (.slice A n c) n (idsC x.below) ∧ x.below.length = n ∧ Below w.heap.size w w' := by
  have hz := zero_en
  obtain ⟨A, n, c, IA, i, ic, EA, m, mc⟩ := p
  obtain ⟨k, b, z, ids, es, lb⟩ := x
  have hil := h.o.ids.len
  have hel := h.o.es.len
  simp only at hi he hil hel ⊢
  have hbl : Below w.heap.size w (w.alloc (.cells (obV ⟨A, n, c, IA, i, ic, EA, m, mc⟩ ⟨k, b, z, ids, es, lb⟩) 27)) := (Below.refl _ _).alloc (Nat.le_refl _) _
  have HH0 := Lib.hid h
  have hcl := clone_ids (h.below hbl).o.ids (by simp only; omega)
  have HH := Lib.hid (And.intro (h.below hbl) (And.intro hil (And.intro hel (And.intro hi (And.intro he hbl)))))
  have HCB : Hid (∀ W, Below (w.alloc (.cells (obV ⟨A, n, c, IA, i, ic, EA, m, mc⟩ ⟨k, b, z, ids, es, lb⟩) 27)).heap.size (w.alloc (.cells (obV ⟨A, n, c, IA, i, ic, EA, m, mc⟩ ⟨k, b, z, ids, es, lb⟩) 27)) W → W.cell? ⟨w.heap.size, 4, none⟩ = some (.slice EA m mc)) := Lib.hid fun W hW => by
    rw [hW.cell (p := ⟨w.heap.size, 4, none⟩) (lt_of_cells (heap_alloc_new w _)), cell_of_cells (heap_alloc_new w _)]
    rfl
  simp only at hcl
  obtain ⟨ZE, hZE⟩ : ∃ ZE, ZE = zeroEn := ⟨_, rfl⟩
  rw [← hZE] at hz
  have HZE : Hid (ZE.size = 34) := Lib.hid (by rw [hZE, zeroEn_en, enV_size (by simp)])
  clear h hbl hi he hil hel hZE
  unfold obV at hcl HCB HH ⊢
  simp only at hcl HCB HH ⊢
  go_enter Tryd.func17, Tryd.ntmps17
  go_upto_region 2 with (go_at_call 38; refine hcl.mono ?_; clear hcl; rintro _ w2 ⟨A2, c2, rfl, hown2, hb2⟩)
  have hc4 := HCB.out _ hb2
  have H0 : Hid (BlR w ids es (.slice A2 i c2) (.int .i64 0) w2) := Lib.hid ⟨0, Nat.zero_le _, rfl, by
    have h1 : w2.ownsRow w.heap.size 49 32 (.slice A2 i c2) i (idsC ids) := by
      obtain ⟨e1, e2⟩ := hown2
      refine ⟨e1, ?_⟩
      rcases e2 with e2 | ⟨g, cap, cur, hv, e3, e4⟩
      · exact .inl e2
      · exact .inr ⟨g, cap, cur, hv, by have := HH.out.2.2.2.2.2.size; omega, e4⟩
    simp only [List.take_zero, List.map_nil, List.append_nil]
    rw [HH.out.2.1]
    exact h1, HH.out.2.2.2.2.2.trans (hb2.mono HH.out.2.2.2.2.2.size)⟩
  have HB2 := Lib.hid hb2
  clear hown2 hb2
  go_wp2_with fail
  clear hc4
  go_loopw [3, 12] (fun v i wr => BlR w ids es v i wr) (fun _ i _ => m - (intOf i).toNat)
  case atStart => exact H0.out
  case round =>
    obtain ⟨j, hj, rfl, hown, hbw⟩ := hrel
    clear H0
    have hw32 : ∀ y ∈ ids ++ (es.take j).map (·.2.2), y.length = 32 := fun y hy => by
      rcases List.mem_append.1 hy with hy | hy
      · exact HH.out.1.o.wf.ids y hy
      · obtain ⟨e, he, rfl⟩ := List.mem_map.1 hy
        exact HH.out.1.o.wf.es e (List.mem_of_mem_take he)
    by_cases hlt : j < m
    · have hlt' : (j : Int) < (m : Int) := by omega
      have hadd := IntWalk.i64_in ((j : Int) + 1) (by have := HH.out.2.2.1; have := HH.out.2.2.2.2.1; omega)
      obtain ⟨N5, hN5⟩ : ∃ N5, N5 = (ids ++ (es.take j).map (·.2.2)).length := ⟨_, rfl⟩
      have hv := own_ids hown hw32
      rw [← hN5] at hown hv
      obtain ⟨A5, c5, rfl, _⟩ := hv
      have HN5 := Lib.hid hN5
      clear hN5
      obtain ⟨g, off, y, hEA, _, hglt, hy, h32, hcs⟩ := HH0.out.o.es.at_ hlt
      simp only at hEA hy
      subst hEA
      obtain ⟨YS, hYS⟩ : ∃ YS, YS = enV y := ⟨_, rfl⟩
      rw [← hYS] at hcs
      obtain ⟨IS, hIS⟩ : ∃ IS, IS = row8 y.2.2 := ⟨_, rfl⟩
      have HY : Hid (es[j]? = some y ∧ y.2.2.length = 32 ∧ IS = row8 y.2.2 ∧ j < m) := Lib.hid ⟨hy, h32, hIS, hlt⟩
      have HYS : Hid (YS = enV y ∧ YS.size = 34 ∧ (∀ (j_1 : Nat) (v : Value), YS[j_1]? = some v → wr.cell? ((⟨g, off + j * 34, none⟩ : Addr).add j_1) = some v) ∧ YS.all (·.oneCell') = true ∧ IS.size = 32) := Lib.hid ⟨hYS, by rw [hYS, enV_size h32], fun a v hv => by rw [add_plain]; exact (hbw.cell (p := ⟨_, _, none⟩) hglt).trans (hcs a v hv), by rw [hYS]; exact enV_all y, by rw [hIS, row8_size, h32]⟩
      have HW := Lib.hid (And.intro hown (And.intro hbw hw32))
      clear hown hbw hw32 hcs hy h32 hIS hYS hlt hj hglt
      go_upto_region 5 with (first
        | (refine wpList_load_at (by rfl) 51 (.tmp 14) (by rfl) ⟨g, off + j * 34, none⟩ (by rfl) YS _ HYS.out.2.2.1 Tryd.underlying51 (by rfl) (by rw [HYS.out.2.1]; exact en_info) ?_)
        | (refine wpList_store_row (by rfl) 51 (.tmp 5) (.tmp 15) (by rfl) wr.heap.size YS (by rfl) (by rfl) 51 _ (heap_alloc_new wr _) (by rw [HYS.out.2.1]; exact en_info) (by rw [HYS.out.2.1, HZE.out]) HYS.out.2.2.2.1 ?_))
      have hal : Below wr.heap.size wr ((wr.alloc (.cells ZE 51)).setRow wr.heap.size YS) := below_setRow ((Below.refl _ _).alloc (Nat.le_refl _) _) (Nat.le_refl _) _
      have hpa : ((wr.alloc (.cells ZE 51)).setRow wr.heap.size YS).heap[wr.heap.size]? = some (.cells YS 51 (0, 0)) := setRow_at (heap_alloc_new wr _)
      have hown5 := own_below HW.out.1 hal
      have H5 := Lib.hid (And.intro hal (And.intro hpa hown5))
      clear hal hpa hz hown5
      generalize (wr.alloc (.cells ZE 51)).setRow wr.heap.size YS = w5 at *
      have HIC : Hid (∀ (a : Nat) (v : Value), IS[a]? = some v → w5.cell? ((⟨wr.heap.size, 2, none⟩ : Addr).add a) = some v) := Lib.hid fun a v hv => by
        rw [add_plain, cell_of_cells H5.out.2.1, HYS.out.1]
        rw [HY.out.2.2.1] at hv
        exact enV_id hv
      have hbs := run_ids_lit w5 IS HY.out.2.2.1 HY.out.2.1
      have hb6 : Below w5.heap.size w5 (w5.alloc (.cells IS 49)) := (Below.refl _ _).alloc (Nat.le_refl _) _
      have HB5 : Hid (Below w.heap.size w (w5.alloc (.cells IS 49))) := Lib.hid (HW.out.2.1.trans ((H5.out.1.trans (hb6.mono H5.out.1.size)).mono HW.out.2.1.size))
      obtain ⟨A9, c9, w9, hap, hown9, hb9, _⟩ := own_ids_app (l := ids ++ (es.take j).map (·.2.2)) (m := [y.2.2]) (n2 := 1) (c2 := 1) (a := ⟨w5.heap.size, 0, none⟩) (v := .slice A5 N5 c5) (by rw [← HN5.out]; exact own_below H5.out.2.2 hb6) HB5.out.size (fun z hz => (List.mem_append.1 hz).elim (HW.out.2.2 z) fun hz => by rw [List.mem_singleton.1 hz]; exact HY.out.2.1) rfl (fun o u hu => by
        rw [add_plain, Nat.zero_add, cell_of_cells (heap_alloc_new w5 _), HY.out.2.2.1]
        simpa [idsC, row8] using hu) (by have h1 := HH.out.2.2.2.1; have h2 := HH.out.2.2.2.2.1; simp only [List.length_append, List.length_map, List.length_take]; omega) 24
      obtain ⟨N9, hN9⟩ : ∃ N9, N9 = (ids ++ (es.take j).map (·.2.2) ++ [y.2.2]).length := ⟨_, rfl⟩
      rw [← hN9] at hap hown9
      have HN9 := Lib.hid hN9
      clear hN9
      have H9 := Lib.hid (And.intro hown9 (HB5.out.trans (hb9.mono (Nat.le_refl _))))
      clear hown9 hb9 hb6
      generalize wr.heap.size = e0 at *
      go_wp2_with (first
        | (refine wpList_load_at (by rfl) 49 (.tmp 17) (by rfl) ⟨e0, 2, none⟩ (by rfl) IS _ HIC.out Tryd.underlying49 (by rfl) (by rw [HYS.out.2.2.2.2]; exact id_info) ?_)
        | (refine wpList_lit1 (by rfl) 24 (.tmp 18) (by rfl) (by rfl) hbs ?_)
        | (at_builtin; refine wpList_app (by rfl) (.tmp 16) (.tmp 19) 24 (by rfl) (by rfl) (by rfl) hap ?_))
      go_roundw
      case rel =>
        unfold BlR
        have h9 := H9.out.1
        have e : ids ++ (es.take j).map (·.2.2) ++ [y.2.2] = ids ++ (es.take (j + 1)).map (·.2.2) := by rw [map_take es j HY.out.1, List.append_assoc]
        have hn9 := HN9.out
        rw [e] at h9 hn9
        exact ⟨j + 1, by have := HY.out.2.2.2; have := HH.out.2.2.1; omega, by simp, by rw [← hn9]; exact h9, H9.out.2⟩
      case measure => have := HY.out.2.2.2; simp only [intOf]; omega
    · have hlt' : ¬ (j : Int) < (m : Int) := by omega
      have hfull : es.take j = es := List.take_of_length_le (by have := HH.out.2.2.1; omega)
      rw [hfull] at hown hw32
      obtain ⟨A5, c5, rfl, _⟩ := own_ids hown hw32
      have HF := Lib.hid (And.intro hown hbw)
      obtain ⟨N5, hN5⟩ : ∃ N5, N5 = (ids ++ es.map (·.2.2)).length := ⟨_, rfl⟩
      rw [← hN5] at HF ⊢
      have HN5 := Lib.hid hN5
      clear hown hbw hw32 hfull hlt hj hN5
      go_wp2_with fail
      go_ret
      exact ⟨A5, N5, c5, rfl, HF.out.1, HN5.out.symm, HF.out.2⟩
end Go.Proofs.YtmakpjcgiiljfaaDoor

/-! A struct or an array that is built of one cell. -/
namespace Go.Proofs.YtmakpjcgiiljfaaDoor
open Go.RowKit Codec

def oneId : List UInt8 := 1 :: List.replicate 31 0
theorem run_build_one (w : World) : (Instr.build 49 #[(0, .int .u8 1)]).run Tryd.prog w = .ok (.agg (row8 oneId)) w := by unfold row8 u8s oneId; kernel_rfl
theorem wpList_bld1 {P : Program} {ops : Array Oper} {rest : List Oper} {o : Oper} {a : Act} {Q : Exit → Act → World → Prop} {w w' : World} (hw : Region.wanted o (yielded ops a.tmps) = true) (t : TypeId) (x : Operand) (hop : o.op = .build t #[(0, x)]) {u v' : Value} (hx : a.eval x = u)
    (hrun : (Instr.build t #[(0, u)]).run P w = .ok v' w') (h : wpList P ops Q rest (a.put o.dst v') w') : wpList P ops Q (o :: rest) a w := by
  unfold wpList
  rw [if_pos hw]
  refine .inl ?_
  unfold Oper.wp execOp
  simp only [hop, Sem.run_bind, Sem.run_pure, Result.andThen_ok, List.map_toArray, List.map_cons, List.map_nil, hx, hrun]
  exact h
/-- Ids in a block of their own. -/
theorem ids_blk {w : World} {q : Nat} {S : Nat → Prop} {l : List (List UInt8)} (h : w.heap[q]? = some (.cells (idsC l).toArray 49 (0, 0))) (hq : S q) (hl : ∀ x ∈ l, x.length = 32) (hn : l.length ≤ 1000000) : Ids w S (some ⟨q, 0, none⟩) l.length l.length l := by
  refine ⟨rfl, hl, Nat.le_refl _, by unfold maxLen; omega, fun _ => ⟨q, 0, rfl, hq, lt_of_cells h, fun i j h1 h2 => ?_⟩⟩
  rw [Nat.zero_add, cell_of_cells h, List.getElem?_toArray, idsC, u8s, List.getElem?_map, flatten_at32 hl i j h1 h2]
  have hx : (l[i]?.getD []).length = 32 := by
    rw [List.getElem?_eq_getElem h1]
    exact hl _ (List.getElem_mem _)
  generalize l[i]?.getD [] = x at *
  simp [show j < x.length by omega]
end Go.Proofs.YtmakpjcgiiljfaaDoor

/-! Arrays of bytes held against each other. -/
namespace Go.Proofs.YtmakpjcgiiljfaaDoor
open Go.RowKit

section
variable {P : Program} (w : World)
theorem run_part_byte {e : TypeId} (he : P.underlying e = some (.int .u8)) (l : List UInt8) (k : Nat) (hk : k < l.length) :
    (part e (u8s l).toArray (k * 1)).run P w = .ok (.int .u8 ((l[k]).toNat : Int)) w := by
  have hag : (isAgg e).run P w = .ok false w := by
    unfold isAgg
    rw [Sem.run_bind, run_underlying he w]
    simp
  have hc : (u8s l)[k]? = some (.int .u8 ((l[k]).toNat : Int)) := by simp [u8s, List.getElem?_eq_getElem hk]
  simp [part, Sem.run_bind, hag, hc]

theorem run_eqItems_bytes (d : Nat) {e : TypeId} (he : P.underlying e = some (.int .u8)) (l m : List UInt8) (hlm : l.length = m.length) :
    ∀ (j k : Nat), k + j = l.length → (Op.eqItems (d + 1) e 1 (u8s l).toArray (u8s m).toArray (List.range' k j)).run P w = .ok (decide (l.drop k = m.drop k)) w
  | 0, k, h => by
    have h1 : l.drop k = [] := List.drop_eq_nil_of_le (by omega)
    have h2 : m.drop k = [] := List.drop_eq_nil_of_le (by omega)
    simp [Op.eqItems, h1, h2]
  | j + 1, k, h => by
    have hk : k < l.length := by omega
    have hk2 : k < m.length := by omega
    rw [List.range'_succ]
    simp only [Op.eqItems, Sem.run_bind, run_part_byte w he l k hk, run_part_byte w he m k hk2, Result.andThen_ok, run_equalIn_int w d e .u8 .u8 _ _ he]
    have e1 : l.drop k = l[k] :: l.drop (k + 1) := List.drop_eq_getElem_cons hk
    have e2 : m.drop k = m[k] :: m.drop (k + 1) := List.drop_eq_getElem_cons hk2
    have ih := run_eqItems_bytes d he l m hlm j (k + 1) (by omega)
    rw [e1, e2]
    clear e1 e2
    generalize l.drop (k + 1) = a at *
    generalize m.drop (k + 1) = b at *
    by_cases hx : l[k] = m[k]
    · rw [hx]
      simp [ih]
    · have hne : ¬ ((l[k]).toNat : Int) = ((m[k]).toNat : Int) := by
        intro e1
        exact hx (UInt8.toNat.inj (by omega))
      simp [hx, hne]

theorem run_equalIn_bytes {t e : TypeId} {n : Nat} {i : TypeInfo} (ht : P.underlying t = some (.array n e)) (he : P.underlying e = some (.int .u8)) (hi : P.info? e = some i) (hs : P.cellsOf e = 1) (d : Nat) (l m : List UInt8) (hl : l.length = n) (hm : m.length = n) :
    (Op.equalIn (d + 2) t (.agg (u8s l).toArray) (.agg (u8s m).toArray)).run P w = .ok (decide (l = m)) w := by
  rw [show d + 2 = (d + 1) + 1 from rfl, run_equalIn_array w (d + 1) _ _ ht hi, hs, List.range_eq_range', run_eqItems_bytes w d he l m (by omega) n 0 (by omega)]
  simp
end
end Go.Proofs.YtmakpjcgiiljfaaDoor

/-! Objects: entries, and ids, held against each other. -/
namespace Go.Proofs.YtmakpjcgiiljfaaDoor
open Go.RowKit Codec

theorem id_eq2 (l m : List UInt8) (hl : l.length = 32) (hm : m.length = 32) (d : Nat) (w : World) : (Op.equalIn (d + 2) 49 (.agg (row8 l)) (.agg (row8 m))).run Tryd.prog w = .ok (decide (l = m)) w := by
  obtain ⟨i0, hi, hz0, hz1, hz2⟩ := info_parts u8_info
  exact run_equalIn_bytes w Tryd.underlying49 Tryd.underlying5 hi (by kernel_rfl) d l m hl hm
theorem part_cell {t : TypeId} {d : TypeDesc} (ht : Tryd.prog.underlying t = some d) (hd : (match d with | .struct _ | .array _ _ => true | _ => false) = false) (xs : Array Value) (k : Nat) (v : Value) (hv : xs[k]? = some v) (w : World) : (part t xs k).run Tryd.prog w = .ok v w := by
  have hag : (isAgg t).run Tryd.prog w = .ok false w := by
    unfold isAgg
    rw [Sem.run_bind, run_underlying ht w]
    cases d <;> simp_all
  simp [part, Sem.run_bind, hag, hv]
theorem part_id {y : En} (h : y.2.2.length = 32) (w : World) : (part 49 (enV y) 2).run Tryd.prog w = .ok (.agg (row8 y.2.2)) w := by
  have hag : (isAgg 49).run Tryd.prog w = .ok true w := by
    unfold isAgg
    rw [Sem.run_bind, run_underlying Tryd.underlying49 w]
    simp
  obtain ⟨i, hi, hz⟩ : ∃ i, Tryd.prog.info? 49 = some i ∧ i.size = 32 := by
    have := id_info
    cases h : Tryd.prog.info? 49 with
    | none => rw [h] at this; cases this
    | some i => rw [h] at this; exact ⟨i, rfl, by simpa using this⟩
  have hex : (enV y).extract 2 (2 + 32) = row8 y.2.2 := by
    apply Array.ext'
    rw [Array.toList_extract, enV_list]
    have : (u8s y.2.2).length = 32 := by rw [u8s_length, h]
    simp [row8, List.take_of_length_le (Nat.le_of_eq this)]
  simp [part, Sem.run_bind, hag, sizeOf, typeInfo, hi, hz]
  exact hex
theorem nn_fields : ((Tryd.prog.fieldsOf 62).toList.map fun f => (f.name == "_", f.type, f.offset)) = [(false, 9, 0), (false, 4, 1), (false, 49, 2)] := by kernel_rfl
theorem run_eq_en {a : En} (ha : a.2.2.length = 32) (w : World) : (Op.equalIn 10000 62 (.agg (enV a)) (.agg (enV a))).run Tryd.prog w = .ok true w := by
  have hf := nn_fields
  rw [show (10000 : Nat) = 9999 + 1 from rfl, run_equalIn_struct w 9999 62 (enV a) (enV a) (by kernel_rfl) (by kernel_rfl)]
  generalize (Tryd.prog.fieldsOf 62).toList = L at *
  have hl : L.length = 3 := by simpa using congrArg List.length hf
  match L, hl with
  | [f0, f1, f2], _ =>
    simp only [List.map_cons, List.map_nil, List.cons.injEq, Prod.mk.injEq, and_true, beq_eq_false_iff_ne] at hf
    obtain ⟨⟨n0, t0, o0⟩, ⟨n1, t1, o1⟩, ⟨n2, t2, o2⟩⟩ := hf
    have e0 : (Op.equalIn 9999 9 (.string (st a.1)) (.string (st a.1))).run Tryd.prog w = _ := run_equalIn_string (P := Tryd.prog) w 9998 9 (st a.1) (st a.1) Tryd.underlying9
    have e1 : (Op.equalIn 9999 4 (.bool a.2.1) (.bool a.2.1)).run Tryd.prog w = _ := run_equalIn_bool' (P := Tryd.prog) w 9998 4 a.2.1 a.2.1 Tryd.underlying4
    have e2 : (Op.equalIn 9999 49 (.agg (row8 a.2.2)) (.agg (row8 a.2.2))).run Tryd.prog w = _ := id_eq2 _ _ ha ha 9997 w
    rw [beq_self_eq_true] at e0 e1
    rw [decide_eq_true rfl] at e2
    have p0 := part_cell Tryd.underlying9 rfl _ _ _ (enV_0 a) w
    have p1 := part_cell Tryd.underlying4 rfl _ _ _ (enV_1 a) w
    have p2 := part_id ha w
    simp only [Op.eqFields, if_pos n0, if_pos n1, if_pos n2, t0, t1, t2, o0, o1, o2]
    generalize Op.equalIn 9999 = E at *
    rw [Sem.run_bind, p0, Result.andThen_ok, Sem.run_bind, p0, Result.andThen_ok, Sem.run_bind, e0, Result.andThen_ok, if_neg (by decide)]
    rw [Sem.run_bind, p1, Result.andThen_ok, Sem.run_bind, p1, Result.andThen_ok, Sem.run_bind, e1, Result.andThen_ok, if_neg (by decide)]
    rw [Sem.run_bind, p2, Result.andThen_ok, Sem.run_bind, p2, Result.andThen_ok, Sem.run_bind, e2, Result.andThen_ok, if_neg (by decide)]
    rfl
end Go.Proofs.YtmakpjcgiiljfaaDoor

/-! The cells of old rows stay, and the rows ahead of B whole: 'Cel B'. ('[]byte("a")' marks a row that it has made: its cells stay.) -/
namespace Go.Proofs.YtmakpjcgiiljfaaDoor
open Go.RowKit

structure Cel (B : Nat) (W W' : World) : Prop where
  os : W'.os = W.os
  tape : W'.tape = W.tape
  output : W'.output = W.output
  size : W.heap.size ≤ W'.heap.size
  block : ∀ k, k < W.heap.size → k < B → W'.heap[k]? = W.heap[k]?
  cell : ∀ b o, b < W.heap.size → W'.cell? ⟨b, o, none⟩ = W.cell? ⟨b, o, none⟩
section
variable {B : Nat} {W W' V : World}
theorem Cel.refl (B : Nat) (W : World) : Cel B W W := ⟨rfl, rfl, rfl, Nat.le_refl _, fun _ _ _ => rfl, fun _ _ _ => rfl⟩
theorem Cel.trans (h : Cel B W W') (k : Cel B W' V) : Cel B W V :=
  ⟨k.os.trans h.os, k.tape.trans h.tape, k.output.trans h.output, Nat.le_trans h.size k.size, fun i hi hb => (k.block i (Nat.lt_of_lt_of_le hi h.size) hb).trans (h.block i hi hb), fun b o hb => (k.cell b o (Nat.lt_of_lt_of_le hb h.size)).trans (h.cell b o hb)⟩
theorem Cel.of_below (h : Below W.heap.size W W') : Cel B W W' := ⟨h.os, h.tape, h.output, h.size, fun k hk _ => h.block k hk, fun b _ hb => h.cell (p := ⟨b, _, none⟩) hb⟩
theorem Cel.below (h : Cel W.heap.size W W') : Below W.heap.size W W' := ⟨h.os, h.tape, h.output, h.size, fun k hk => h.block k hk hk⟩
theorem Cel.of_drew (h : Cel B W.drew W') : Cel B W W' := ⟨h.os, h.tape, h.output, h.size, h.block, h.cell⟩
theorem Byt.cel {S : Nat → Prop} {A : Option Addr} {n c : Nat} {l : List UInt8} (h : Byt W S A n c l) (k : Cel B W W') : Byt W' S A n c l := h.keep k.size k.cell
theorem Rws.cel {S : Nat → Prop} {A : Option Addr} {n c : Nat} {ls : List (List UInt8)} (h : Rws W S A n c ls) (k : Cel B W W') : Rws W' S A n c ls :=
  ⟨h.len, h.cap, h.max, fun h0 => by
    obtain ⟨b, off, hA, hS, hlt, hc⟩ := h.row h0
    refine ⟨b, off, hA, hS, Nat.lt_of_lt_of_le hlt k.size, fun i hi => ?_⟩
    obtain ⟨Ai, ni, ci, h1, h2⟩ := hc i hi
    exact ⟨Ai, ni, ci, (k.cell _ _ hlt).trans h1, h2.cel k⟩⟩

/-- '[]byte("..")' of a constant, whose row lies anywhere. -/
theorem conv_mark {P : Program} (W : World) (t e : TypeId) (ht : P.underlying t = some (.slice e)) (he : P.underlying e = some (.int .u8)) (g n c : Nat) (hB : B ≤ g) :
    ∃ W', (convert t t (.slice (some ⟨g, 0, none⟩) n c)).run P W = .ok (.slice (some ⟨g, 0, none⟩) n c) W' ∧ Cel B W W' := by
  have hf : ∀ k, Cel B W (W.freeze ⟨g, k, none⟩ 1) := fun k => by
    unfold World.freeze
    rw [if_neg (by decide)]
    refine ⟨rfl, rfl, rfl, by simp, fun i _ hi => ?_, fun b o _ => ?_⟩
    · simp only [Array.getElem?_modify]
      rw [if_neg (by omega)]
    · simp only [World.cell?, Array.getElem?_modify]
      by_cases hbg : g = b
      · rw [if_pos hbg]
        cases hh : W.heap[b]? with
        | none => rfl
        | some ob => cases ob <;> rfl
      · rw [if_neg hbg]
  cases hs : W.shape? g with
  | none =>
    refine ⟨W, ?_, Cel.refl _ _⟩
    simp [convert, run_underlying ht, run_underlying he, markStringish, hs]
  | some p =>
    obtain ⟨x, k⟩ := p
    refine ⟨_, ?_, hf k⟩
    simp [convert, run_underlying ht, run_underlying he, markStringish, hs]
end
end Go.Proofs.YtmakpjcgiiljfaaDoor
