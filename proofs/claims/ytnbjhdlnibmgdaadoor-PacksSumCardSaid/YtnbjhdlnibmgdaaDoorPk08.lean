/-
  Packs: Fill.
  Packs: a pack's bytes.
  Packs: a pack's blobs.
  What was put is read as it was: the pure part (for CodecBack).
  Packs, pure: what is put is got; what is got, put again, is the bytes.
  Packs: awake.
  The string of a row of bytes.
  Strings of bytes: read, cut, held against each other.
-/
import Derived.Test.YtnbjhdlnibmgdaaDoorPk07
import Derived.Test.YtnbjhdlnibmgdaaDoorPk03
import Derived.Test.YtnbjhdlnibmgdaaDoorPk06
import Derived.Laws.MakeOwn
import Derived.Test.YtnbjhdlnibmgdaaDoorPk02
/-! Packs: Fill. -/
namespace Go.Proofs.YtnbjhdlnibmgdaaDoor
open Go.RowKit Codec

theorem Ints.at_ {w : World} {S : Nat → Prop} {A : Option Addr} {n c : Nat} {l : List Int} (h : Ints .i64 w S A n c l) {m : List Nat} (e : l = natI m) : Ints .i64 w S A n c (natI m) := e ▸ h
theorem natI_nat {l : List Int} (h : ∀ x ∈ l, 0 ≤ x) : natI (l.map Int.toNat) = l := by
  unfold natI
  rw [List.map_map]
  refine (List.map_congr_left fun x hx => ?_).trans (List.map_id l)
  exact Int.toNat_of_nonneg (h x hx)
/-- What Fill tells. -/
def FlPost (w : World) (r : List (List Nat)) (E : Int) (e : Ending) (w' : World) : Prop :=
  ∃ A c, e = .returned (.tuple #[.slice A r.length c, .int .i64 E]) ∧ Nst w' (w.heap.size ≤ ·) A r.length c r ∧ Below w.heap.size w w'
theorem flPost_no {w w' : World} {l : List Int} {m E : Int} (h : fillE l m = E) (h0 : E ≠ 0) (hb : Below w.heap.size w w') : FlPost w (pkFillL l m) (fillE l m) (.returned (.tuple #[.slice none 0 0, .int .i64 E])) w' := by
  have e : pkFillL l m = [] := by unfold pkFillL; rw [if_neg (by rw [h]; exact h0)]
  rw [e, h]
  exact ⟨none, 0, rfl, Nst.nil _ _, hb⟩
set_option maxHeartbeats 8000000 in
set_option maxRecDepth 100000 in
theorem pfill_any {w : World} {S : Nat → Prop} {A : Option Addr} {n c : Nat} {l : List Int} (h : Ints .i64 w S A n c l) (hn : n ≤ 1000000) (m : Int) (hm : -9223372036854775808 ≤ m ∧ m ≤ 9223372036854775807) :
    Calls Tryd.prog 13 #[.slice A n c, .int .i64 m] w fun e w' => FlPost w (pkFillL l m) (fillE l m) e w' := by
  by_cases h1 : m < 1
  · have HE : Hid (fillE l m = 1) := Lib.hid (by unfold fillE; rw [if_pos (.inl h1)])
    clear h hn hm
    go_enter Tryd.func13, Tryd.ntmps13
    go_wp2
    go_ret2
    exact flPost_no HE.out (by decide) ((Below.refl _ _).alloc (Nat.le_refl _) _)
  by_cases h2 : m > 1048576
  · have HE : Hid (fillE l m = 1) := Lib.hid (by unfold fillE; rw [if_pos (.inr h2)])
    clear h hn hm
    go_enter Tryd.func13, Tryd.ntmps13
    go_wp2
    go_ret2
    exact flPost_no HE.out (by decide) ((Below.refl _ _).alloc (Nat.le_refl _) _)
  have HE : Hid (fillE l m = if l.all pkMay = false then 1 else if l.all (fun s => pkAlone m.toNat s.toNat) = false then 13 else 0) := Lib.hid (by unfold fillE; rw [if_neg (by omega)])
  obtain ⟨M, rfl⟩ : ∃ M : Nat, m = (M : Int) := ⟨m.toNat, by omega⟩
  obtain ⟨w1, hw1⟩ : ∃ w1, w1 = w.alloc (.cells #[.slice A n c, .int .i64 (M : Int)] 63) := ⟨_, rfl⟩
  have hb1 : Below w.heap.size w w1 := by rw [hw1]; exact (Below.refl _ _).alloc (Nat.le_refl _) _
  have hg1 : w1.heap[w.heap.size]? = some (.cells #[.slice A n c, .int .i64 (M : Int)] 63 (0, 0)) := by rw [hw1]; exact heap_alloc_new w _
  have h1i := h.below hb1
  have ham := all_any h1i (M : Int) 14 #[] pkMay (fun x _ p W hp => all1_may hp x)
  unfold flV bxF at ham
  have HW1 := Lib.hid (And.intro hb1 (And.intro hg1 (And.intro h1i hn)))
  have HN := Lib.hid hn
  have HM : Hid (M ≤ 1048576 ∧ (M : Int).toNat = M) := Lib.hid ⟨by omega, by simp⟩
  have hmf : ∀ (fn : Fn) (first cap : Array Value) (w : World), (Instr.makeFunc fn first cap).run Tryd.prog w = .ok (.func fn first cap) w := fun _ _ _ _ => rfl
  obtain ⟨B1, hB1⟩ : ∃ B1, B1 = l.all pkMay := ⟨_, rfl⟩
  rw [← hB1] at ham HE
  have HB1 := Lib.hid hB1
  clear h hn hm hb1 hg1 h1i hB1
  cases hBc : B1 with
  | false =>
    subst hBc
    have HE2 : Hid (fillE l (M : Int) = 1) := Lib.hid (by rw [HE.out, if_pos rfl])
    rw [hw1] at ham
    go_enter Tryd.func13, Tryd.ntmps13
    go_wp2_with (go_at_call 30; refine ham.mono ?_; clear ham; rintro _ w2 ⟨rfl, hb2⟩; rw [← hw1] at hb2)
    go_ret2
    exact flPost_no HE2.out (by decide) (HW1.out.1.trans (hb2.mono HW1.out.1.size))
  | true =>
    subst hBc
    have hmay : ∀ x ∈ l, 41 ≤ x ∧ x ≤ 65577 := fun x hx => by
      have := List.all_eq_true.1 HB1.out.symm x hx
      unfold pkMay at this
      simpa using this
    have hnat := natI_nat fun x hx => by have := (hmay x hx).1; omega
    obtain ⟨ln, hln⟩ : ∃ ln, ln = l.map Int.toNat := ⟨_, rfl⟩
    rw [← hln] at hnat
    have hle : ∀ s ∈ ln, s ≤ 65577 := fun s hs => by
      rw [hln] at hs
      obtain ⟨x, hx, rfl⟩ := List.mem_map.1 hs
      have := hmay x hx
      omega
    have hll : ln.length = n := by rw [hln, List.length_map]; exact HW1.out.2.2.1.len
    have hal : l.all (fun s => pkAlone (M : Int).toNat s.toNat) = ln.all (pkAlone M) := by rw [hln, HM.out.2, List.all_map]; rfl
    have HX := Lib.hid (And.intro hnat (And.intro hle (And.intro hll (And.intro hal (And.intro hln hmay)))))
    have hal2 := fun (W : World) (hb : Below w1.heap.size w1 W) => all_any (HW1.out.2.2.1.below hb) (M : Int) 31 #[.agg (flV A n c (M : Int))] (fun x => pkAlone M x.toNat) (fun x hx p W hp => by
      have h3 := hmay x hx
      obtain ⟨y, rfl⟩ : ∃ y : Nat, x = (y : Int) := ⟨x.toNat, by omega⟩
      rw [Int.toNat_natCast]
      exact all1_alone hp y (by omega))
    rw [show l.all (fun x => pkAlone M x.toNat) = ln.all (pkAlone M) by rw [hln, List.all_map]; rfl] at hal2
    unfold bxF flV at hal2
    obtain ⟨B2, hB2⟩ : ∃ B2, B2 = ln.all (pkAlone M) := ⟨_, rfl⟩
    rw [← hB2] at hal2
    have HB2 := Lib.hid hB2
    have HAL2 := Lib.hid hal2
    have HE2 : Hid (fillE l (M : Int) = if B2 = false then 13 else 0) := Lib.hid (by rw [HE.out, if_neg (by simp), hal, hB2])
    rw [hw1] at ham
    clear hmay hnat hln hle hll hal hB2 hal2 HE
    go_enter Tryd.func13, Tryd.ntmps13
    go_upto_region 4 with (go_at_call 30; refine ham.mono ?_; clear ham; rintro _ w2 ⟨rfl, hb2⟩; rw [← hw1] at hb2)
    have hal3 := HAL2.out w2 hb2
    have H2 := Lib.hid (And.intro (HW1.out.1.trans (hb2.mono HW1.out.1.size)) (And.intro ((hb2.block _ (lt_of_cells HW1.out.2.1)).trans HW1.out.2.1) (HW1.out.2.2.1.below hb2)))
    have hc20 := cell_of_cells H2.out.2.1 0
    have hc21 := cell_of_cells H2.out.2.1 1
    clear hb2 hw1 HW1 HAL2
    cases hBc : B2 with
    | false =>
      subst hBc
      have HE3 : Hid (fillE l (M : Int) = 13) := Lib.hid (by rw [HE2.out, if_pos rfl])
      go_wp2_with (go_at_call 30; refine hal3.mono ?_; clear hal3; rintro _ w3 ⟨rfl, hb3⟩)
      go_ret2
      exact flPost_no HE3.out (by decide) (H2.out.1.trans (hb3.mono H2.out.1.size))
    | true =>
      subst hBc
      have HE3 : Hid (fillE l (M : Int) = 0 ∧ pkFillL l (M : Int) = fillM M ln) := Lib.hid (by
        have e : fillE l (M : Int) = 0 := by rw [HE2.out, if_neg (by simp)]
        refine ⟨e, ?_⟩
        unfold pkFillL
        rw [if_pos e, HM.out.2, HX.out.2.2.2.2.1])
      go_upto_region 6 with (go_at_call 30; refine hal3.mono ?_; clear hal3; rintro _ w3 ⟨rfl, hb3⟩; have HB3 := Lib.hid hb3; clear hb3)
      have hg3 := (HB3.out.block _ (lt_of_cells H2.out.2.1)).trans H2.out.2.1
      have hc30 := cell_of_cells hg3 0
      have hc31 := cell_of_cells hg3 1
      have hi3 := (H2.out.2.2.below HB3.out).at_ HX.out.1.symm
      have hli := lists_any (w := w3) (most := M) (l := ln) (fun s hs => List.all_eq_true.1 HB2.out.symm s hs) (by have := HX.out.2.2.1; have := HN.out; omega) (fill_iter hi3 HX.out.2.1 (by have := HX.out.2.2.1; have := HN.out; omega) HM.out.1)
      unfold fillFn at hli
      obtain ⟨R, hR⟩ : ∃ R, R = fillM M ln := ⟨_, rfl⟩
      rw [← hR] at hli
      have HR := Lib.hid hR
      clear hR hi3
      go_wp2_with (go_at_call 32; refine hli.mono ?_; clear hli; rintro _ w4 ⟨A4, c4, rfl, hn4, hb4⟩; have H4 := Lib.hid (And.intro hn4 hb4); clear hn4 hb4)
      go_ret2
      rw [HE3.out.1, HE3.out.2, ← HR.out]
      have hb3 := H2.out.1.trans (HB3.out.mono H2.out.1.size)
      exact ⟨A4, c4, rfl, H4.out.1.mono fun k _ h => Nat.le_trans hb3.size h, hb3.trans (H4.out.2.mono hb3.size)⟩
end Go.Proofs.YtnbjhdlnibmgdaaDoor

/-! Packs: a pack's bytes. -/
namespace Go.Proofs.YtnbjhdlnibmgdaaDoor
open Go.RowKit Codec

def lensU (l : List (List UInt8)) : Nat := pkSum l
theorem pkSum_snoc (l : List (List UInt8)) (b : List UInt8) : pkSum (l ++ [b]) = pkSum l + pkE b.length := by simp [pkSum]
theorem pkSum_le : ∀ (l : List (List UInt8)), (∀ b ∈ l, b.length ≤ 65577) → pkSum l ≤ 65580 * l.length
  | [], _ => by simp [pkSum]
  | b :: l, h => by
    have ih := pkSum_le l fun x hx => h x (List.mem_cons_of_mem _ hx)
    have h1 := h b List.mem_cons_self
    have h2 := lnN_3 (x := b.length) (by omega)
    have e : pkSum (b :: l) = pkE b.length + pkSum l := by simp [pkSum]
    rw [e, List.length_cons]
    simp only [pkE]
    omega
def pkBs (l : List (List UInt8)) : List UInt8 := (l.map fun b => put b.length ++ b).flatten
theorem pkBs_snoc (l : List (List UInt8)) (b : List UInt8) : pkBs (l ++ [b]) = pkBs l ++ (put b.length ++ b) := by simp [pkBs]
theorem pkBs_len (l : List (List UInt8)) : (pkBs l).length = pkSum l := by
  have h := pkB_len l
  unfold pkB at h
  rw [List.length_append] at h
  unfold pkBs
  have : (put l.length).length = lnN l.length := rfl
  omega
def PpR (w : World) (q : Nat) (l : List (List UInt8)) (i : Value) (wr : World) : Prop :=
  ∃ j : Nat, j ≤ l.length ∧ i = .int .i64 (j : Int) ∧ (l.take j).all (fun b => pkMay b.length) = true ∧ wr.heap[q]? = some (.cells (rmV j (pkSum (l.take j))) 46 (0, 0)) ∧ Below w.heap.size w wr
def PwR (w : World) (p : Nat) (pre : List UInt8) (l : List (List UInt8)) (i : Value) (wr : World) : Prop :=
  ∃ j : Nat, j ≤ l.length ∧ i = .int .i64 (j : Int) ∧ Wr wr (w.heap.size ≤ ·) p (pre ++ pkBs (l.take j)) ∧ Below w.heap.size w wr
/-- What Put tells. -/
def PkPost (w : World) (E : Int) (B : List UInt8) (e : Ending) (w' : World) : Prop :=
  ∃ A m c, e = .returned (.tuple #[.slice A m c, .int .i64 E]) ∧ Byt w' (w.heap.size ≤ ·) A m c B ∧ Below w.heap.size w w'
theorem pkPost_no {w w' : World} {l : List (List UInt8)} {E : Int} (h : putPE l = E) (h0 : E ≠ 0) (hb : Below w.heap.size w w') : PkPost w (putPE l) (putPB l) (.returned (.tuple #[.slice none 0 0, .int .i64 E])) w' :=
  ⟨none, 0, 0, by rw [h], by unfold putPB; rw [if_neg (by rw [h]; exact h0)]; exact Byt.nil _ _ _ _ (Nat.zero_le _), hb⟩
theorem may_take {l : List (List UInt8)} {j : Nat} {x : List UInt8} (h : l[j]? = some x) : (l.take (j + 1)).all (fun b => pkMay b.length) = ((l.take j).all (fun b => pkMay b.length) && pkMay x.length) := by rw [take_snoc h]; simp
theorem may_le {l : List (List UInt8)} (h : l.all (fun b => pkMay b.length) = true) : ∀ b ∈ l, b.length ≤ 65577 := fun b hb => by
  have := List.all_eq_true.1 h b hb
  unfold pkMay at this
  simp at this
  omega
theorem Rws.at_ {w : World} {S : Nat → Prop} {A : Option Addr} {n c : Nat} {ls : List (List UInt8)} (h : Rws w S A n c ls) {j : Nat} (hj : j < n) : ∃ q off x Ai ci, A = some ⟨q, off, none⟩ ∧ S q ∧ q < w.heap.size ∧ ls[j]? = some x ∧ w.cell? ⟨q, off + j, none⟩ = some (.slice Ai x.length ci) ∧ Byt w S Ai x.length ci x := by
  obtain ⟨b, off, hA, hS, hlt, hc⟩ := h.row (by omega)
  obtain ⟨Ai, ni, ci, h1, h2⟩ := hc j hj
  have hjl : j < ls.length := by have := h.len; omega
  have hx : ls[j]? = some (ls[j]?.getD []) := by rw [List.getElem?_eq_getElem hjl]; rfl
  have hn : ni = (ls[j]?.getD []).length := h2.len.symm
  subst hn
  exact ⟨b, off, _, Ai, ci, hA, hS, hlt, hx, h1, h2⟩
set_option maxHeartbeats 8000000 in
set_option maxRecDepth 100000 in
theorem pput_any {w : World} {S : Nat → Prop} {A : Option Addr} {n c : Nat} {l : List (List UInt8)} (hl : Rws w S A n c l) :
    Calls Tryd.prog 6 #[.slice A n c] w fun e w' => PkPost w (putPE l) (putPB l) e w' := by
  have HL := Lib.hid (And.intro hl hl.len)
  clear hl
  have hz := zero_room
  by_cases h1 : n < 1
  · have h1' : (n : Int) < 1 := by omega
    have HE : Hid (putPE l = 1) := Lib.hid (by unfold putPE; rw [if_pos (.inl (by have := HL.out.2; omega))])
    clear h1
    go_enter Tryd.func6, Tryd.ntmps6
    go_wp2
    go_ret2
    exact pkPost_no HE.out (by decide) (Below.refl _ _)
  have h1' : ¬ (n : Int) < 1 := by omega
  by_cases h2 : 1024 < n
  · have h2' : (n : Int) > 1024 := by omega
    have HE : Hid (putPE l = 1) := Lib.hid (by unfold putPE; rw [if_pos (.inr (by have := HL.out.2; omega))])
    clear h1 h2
    go_enter Tryd.func6, Tryd.ntmps6
    go_wp2
    go_ret2
    exact pkPost_no HE.out (by decide) (Below.refl _ _)
  have h2' : ¬ (n : Int) > 1024 := by omega
  have HN : Hid (n ≤ 1024 ∧ ¬ n < 1) := Lib.hid ⟨by omega, h1⟩
  have HE : Hid (putPE l = if l.all (fun b => pkMay b.length) = false then 1 else if 1048576 < lnN l.length + pkSum l then 13 else 0) := Lib.hid (by unfold putPE; rw [if_neg (by have := HL.out.2; omega)])
  clear h1 h2
  go_enter Tryd.func6, Tryd.ntmps6
  go_upto_region 5 with fail
  have H0 : Hid (PpR w w.heap.size l (.int .i64 0) (w.alloc (.cells #[.int .i64 0, .int .i64 0] 46))) := Lib.hid ⟨0, Nat.zero_le _, rfl, by simp, by simpa [rmV, pkSum] using heap_alloc_new w (.cells #[.int .i64 0, .int .i64 0] 46), (Below.refl _ _).alloc (Nat.le_refl _) _⟩
  go_loopw [6, 20] (fun _ i wr => PpR w w.heap.size l i wr) (fun _ i _ => n - (intOf i).toNat)
  case atStart => exact H0.out
  case round =>
    obtain ⟨j, hj, rfl, hmay, hq, hb⟩ := hrel
    clear H0
    have HK := Lib.hid (And.intro hmay (And.intro hq hb))
    clear hmay hq hb
    by_cases hlt : j < n
    · have hlt' : (j : Int) < (n : Int) := by omega
      obtain ⟨q, off, x, Ai, ci, rfl, _, hql, hx, hc, hy⟩ := HL.out.1.at_ hlt
      have hc0 := (HK.out.2.2.cell (p := ⟨q, off + j, none⟩) hql).trans hc
      have hm := may_any (x.length : Int) wr
      have hnx := may_take hx
      rw [HK.out.1, Bool.true_and] at hnx
      have hsn : pkSum (l.take (j + 1)) = pkSum (l.take j) + pkE x.length := by rw [take_snoc hx, pkSum_snoc]
      have HX := Lib.hid (And.intro hx (And.intro hy (And.intro hlt (And.intro hnx hsn))))
      obtain ⟨Y, hY⟩ : ∃ Y, Y = pkMay (x.length : Int) := ⟨_, rfl⟩
      rw [← hY] at hm
      have HY := Lib.hid hY
      have hadd := IntWalk.i64_in ((j : Int) + 1) (by have := HN.out.1; omega)
      clear hx hy hlt hnx hsn hY hc hql hj
      cases hYc : Y with
      | false =>
        subst hYc
        go_wp2_with (go_at_call 14; refine hm.mono ?_; clear hm; rintro _ _ ⟨rfl, rfl⟩)
        go_ret2
        refine pkPost_no (E := 1) ?_ (by decide) HK.out.2.2
        rw [HE.out, if_pos]
        rw [Bool.eq_false_iff]
        intro h
        have := List.all_eq_true.1 h x (List.mem_of_getElem? HX.out.1)
        rw [← HY.out] at this
        cases this
      | true =>
        subst hYc
        have hxl : x.length ≤ 65577 := by have := HY.out; unfold pkMay at this; simp at this; omega
        have hsl := pkSum_le (l.take j) (may_le HK.out.1)
        have hjl : (l.take j).length ≤ 1024 := by rw [List.length_take]; have h1 := HL.out.2; have h2 := HN.out.1; omega
        have hwi := with_any j (pkSum (l.take j)) x.length (by have h1 := HX.out.2.2.1; have h2 := HN.out.1; omega) (by omega) (by omega) wr
        obtain ⟨RV, hRV⟩ : ∃ RV, RV = rmV j (pkSum (l.take j)) := ⟨_, rfl⟩
        obtain ⟨RW, hRW⟩ : ∃ RW, RW = rmV (j + 1) (pkSum (l.take j) + pkE x.length) := ⟨_, rfl⟩
        have hq := HK.out.2.1
        rw [← hRV, ← hRW] at hwi
        rw [← hRV] at hq
        have HQ := Lib.hid hq
        have HR : Hid (RV.size = 2 ∧ RW.size = 2 ∧ RW.all (·.oneCell') = true) := Lib.hid (by rw [hRV, hRW]; exact ⟨rfl, rfl, by simp [rmV, Value.oneCell']⟩)
        have HRW := Lib.hid hRW
        clear hRV hRW hq hxl hsl hjl
        go_wp2_with (first
          | (go_at_call 14; refine hm.mono ?_; clear hm; rintro _ _ ⟨rfl, rfl⟩)
          | (refine wpList_load_row (by rfl) 46 (.tmp 4) (by rfl) w.heap.size (by rfl) 46 RV (0, 0) _ HQ.out Tryd.underlying46 (by rfl) (by rw [HR.out.1]; exact room_info) ?_)
          | (go_at_call 15; refine hwi.mono ?_; clear hwi; rintro _ w2 ⟨rfl, hb2⟩; have hq2 := (hb2.block _ (lt_of_cells HQ.out)).trans HQ.out; have HB2 := Lib.hid (HK.out.2.2.trans (hb2.mono HK.out.2.2.size)); clear hb2)
          | (refine wpList_store_row (by rfl) 46 (.tmp 4) (.tmp 31) (by rfl) w.heap.size RW (by rfl) (by rfl) 46 _ hq2 (by rw [HR.out.2.1]; exact room_info) (by rw [HR.out.1, HR.out.2.1]) HR.out.2.2 ?_))
        have H3 : Hid (PpR w w.heap.size l (.int .i64 ((j : Int) + 1)) (w2.setRow w.heap.size RW)) := Lib.hid ⟨j + 1, by have h1 := HX.out.2.2.1; have h2 := HL.out.2; omega, by simp, by rw [HX.out.2.2.2.1]; exact HY.out.symm, by rw [setRow_at hq2, HRW.out, HX.out.2.2.2.2], below_setRow HB2.out (Nat.le_refl _) _⟩
        clear hq2 HB2
        generalize w2.setRow w.heap.size RW = w3 at *
        go_wp2_with fail
        go_roundw
        case rel => exact H3.out
        case measure => have := HX.out.2.2.1; simp only [intOf]; omega
    · obtain rfl : j = n := by have := HL.out.2; omega
      have hnl : ¬ (j : Int) < (j : Int) := by omega
      have hfull : l.take j = l := List.take_of_length_le (by have := HL.out.2; omega)
      rw [hfull] at HK
      have hle := may_le HK.out.1
      have hsl := pkSum_le l hle
      have hpa := pack_any j (pkSum l) (by have := HN.out.1; omega) (by have h1 := HL.out.2; have h2 := HN.out.1; omega) wr
      have HE2 : Hid (putPE l = if 1048576 < lnN l.length + pkSum l then 13 else 0) := Lib.hid (by rw [HE.out, if_neg (by rw [HK.out.1]; simp)])
      obtain ⟨P, hP⟩ : ∃ P, P = lnN j + pkSum l := ⟨_, rfl⟩
      obtain ⟨RV, hRV⟩ : ∃ RV, RV = rmV j (pkSum l) := ⟨_, rfl⟩
      have hq := HK.out.2.1
      rw [← hP, ← hRV] at hpa
      rw [← hRV] at hq
      have HQ := Lib.hid (And.intro hq (show RV.size = 2 by rw [hRV]; rfl))
      have HP : Hid (lnN l.length + pkSum l = P) := Lib.hid (by rw [hP, HL.out.2])
      have HSL : Hid (pkSum l ≤ 70000000 ∧ ∀ b ∈ l, b.length ≤ 65577) := Lib.hid ⟨by have h1 := HL.out.2; have h2 := HN.out.1; omega, hle⟩
      clear hfull hle hsl hP hRV hq HE hj hlt
      by_cases h3 : 1048576 < P
      · have h3' : (P : Int) > 1048576 := by omega
        have HE3 : Hid (putPE l = 13) := Lib.hid (by rw [HE2.out, HP.out, if_pos h3])
        clear h3
        go_wp2_with (first
          | (refine wpList_load_row (by rfl) 46 (.tmp 4) (by rfl) w.heap.size (by rfl) 46 RV (0, 0) _ HQ.out.1 Tryd.underlying46 (by rfl) (by rw [HQ.out.2]; exact room_info) ?_)
          | (go_at_call 16; refine hpa.mono ?_; clear hpa; rintro _ w2 ⟨rfl, hb2⟩))
        go_ret2
        exact pkPost_no HE3.out (by decide) (HK.out.2.2.trans (hb2.mono HK.out.2.2.size))
      have h3' : ¬ (P : Int) > 1048576 := by omega
      have HE3 : Hid (putPE l = 0) := Lib.hid (by rw [HE2.out, HP.out, if_neg h3])
      clear h3
      go_upto_region 13 with (first
        | (refine wpList_load_row (by rfl) 46 (.tmp 4) (by rfl) w.heap.size (by rfl) 46 RV (0, 0) _ HQ.out.1 Tryd.underlying46 (by rfl) (by rw [HQ.out.2]; exact room_info) ?_)
        | (go_at_call 16; refine hpa.mono ?_; clear hpa; rintro _ w2 ⟨rfl, hb2⟩; have HB2 := Lib.hid (HK.out.2.2.trans (hb2.mono HK.out.2.2.size)); clear hb2))
      have hnw := newWriter w2
      have hcv := IntWalk.u64_in (j : Int) (by have := HN.out.1; omega)
      go_upto_region 14 with (go_at_call 17; refine hnw.mono ?_; clear hnw; rintro _ w4 ⟨p, rfl, hw4, hb4⟩)
      have h5 := wuint hw4 (x := j) (by have := HN.out.1; omega) (by simp)
      have HB4 := Lib.hid hb4
      clear hw4 hb4
      go_upto_region 15 with (go_at_call 18; refine h5.mono ?_; clear h5; rintro _ w5 hp5; obtain ⟨rfl, hw5, ht5⟩ := hp5)
      have hp5 := Put.from (e := .returned (.tuple #[])) (show Put w4 (w2.heap.size ≤ ·) p ([] ++ put j) _ w5 from ⟨rfl, hw5, ht5⟩) HB4.out.size
      obtain ⟨pre, hpre⟩ : ∃ pre, pre = put j := ⟨_, rfl⟩
      have H5 : Hid (PwR w p pre l (.int .i64 0) w5) := Lib.hid ⟨0, Nat.zero_le _, rfl, by rw [hpre]; simpa [pkBs] using hp5.1.mono (T := (w.heap.size ≤ ·)) fun k _ h => Nat.le_trans HB2.out.size h, HB2.out.trans ((HB4.out.trans hp5.2).mono HB2.out.size)⟩
      have HPRE : Hid (pre = put j ∧ pre.length ≤ 20) := Lib.hid ⟨hpre, by rw [hpre]; have h2 := put_length_64 (x := j) (by have := HN.out.1; omega); omega⟩
      clear hw5 ht5 hp5 HB4 HB2 hpre HK HQ HE2
      go_wp2_with fail
      go_loopw [9, 44] (fun _ i wr => PwR w p pre l i wr) (fun _ i _ => j - (intOf i).toNat)
      case atStart => exact H5.out
      case round =>
        obtain ⟨i, hi, rfl, hwr, hbw⟩ := hrel
        clear H5
        have HK := Lib.hid (And.intro hwr hbw)
        clear hwr hbw
        by_cases hlt : i < j
        · have hlt' : (i : Int) < (j : Int) := by omega
          obtain ⟨q, off, x, Ai, ci, rfl, _, hql, hx, hc, hy⟩ := HL.out.1.at_ hlt
          have hc0 := (HK.out.2.cell (p := ⟨q, off + i, none⟩) hql).trans hc
          have hyr := (hy.mono (T := fun k => k < w.heap.size) fun k hk _ => hk).below HK.out.2
          have hxl := HSL.out.2 x (List.mem_of_getElem? hx)
          have hsum : (pre ++ pkBs (l.take i)).length ≤ 70000100 := by
            rw [List.length_append, pkBs_len]
            have h1 := HPRE.out.2
            have h2 := pkSum_le (l.take i) fun b hb => HSL.out.2 b (List.mem_of_mem_take hb)
            have h3 : (l.take i).length ≤ 1024 := by rw [List.length_take]; have h1 := HL.out.2; have h2 := HN.out.1; omega
            omega
          have hwb := wbytes HK.out.1 hyr (fun k _ h1 h2 => by omega) (by omega)
          have hadd := IntWalk.i64_in ((i : Int) + 1) (by have := HN.out.1; omega)
          have HX : Hid (pkBs (l.take (i + 1)) = pkBs (l.take i) ++ (put x.length ++ x) ∧ i < j) := Lib.hid ⟨by rw [take_snoc hx, pkBs_snoc], hlt⟩
          clear hlt hx hc hy hyr hxl hsum hql hi
          go_wp2_with (go_at_call 19; refine hwb.mono ?_; clear hwb; rintro _ w9 hp9; obtain ⟨rfl, hw9, ht9⟩ := hp9; have H9 := Lib.hid (And.intro hw9 ht9); clear hw9 ht9)
          go_roundw
          case rel =>
            refine ⟨i + 1, by have h1 := HX.out.2; have h2 := HL.out.2; omega, by simp, ?_, HK.out.2.trans (H9.out.2.below HK.out.2.size)⟩
            rw [HX.out.1, ← List.append_assoc]
            refine H9.out.1.mono fun k hk h => ?_
            rcases h with h | h
            · exact h
            · have := HK.out.2.size; omega
          case measure => have := HX.out.2; simp only [intOf]; omega
        · obtain rfl : i = j := by have := HL.out.2; omega
          have hnl : ¬ (i : Int) < (i : Int) := by omega
          have hfull : l.take i = l := List.take_of_length_le (by have := HL.out.2; omega)
          have h1 := HK.out.1
          rw [hfull] at h1
          have hfb : pre ++ pkBs l = pkB l := by rw [HPRE.out.1, ← HL.out.2]; rfl
          have hfl : (pkB l).length ≤ 80000000 := by rw [← hfb, List.length_append, pkBs_len]; have h1 := HPRE.out.2; have h2 := HSL.out.1; omega
          rw [hfb] at h1
          have hout := wout h1 (by omega)
          have HB := Lib.hid HK.out.2
          clear hlt h1 hfull hfb hfl
          obtain ⟨M, hM⟩ : ∃ M, M = (pkB l).length := ⟨_, rfl⟩
          rw [← hM] at hout
          clear hM
          go_wp2_with (go_at_call 20; refine hout.mono ?_; clear hout; rintro _ w8 ⟨A8, c8, rfl, hy8, hb8, _⟩; have H8 := Lib.hid (And.intro (hy8.mono (T := (w.heap.size ≤ ·)) fun k _ hk => Nat.le_trans HB.out.size hk) (HB.out.trans (hb8.mono HB.out.size))); clear hy8 hb8)
          go_ret2
          exact ⟨A8, _, c8, by rw [HE3.out]; rfl, by unfold putPB; rw [if_pos HE3.out]; exact H8.out.1, H8.out.2⟩
end Go.Proofs.YtnbjhdlnibmgdaaDoor

/-! Packs: a pack's blobs. -/
namespace Go.Proofs.YtnbjhdlnibmgdaaDoor
open Go.RowKit Codec

theorem pkfx_len (l : List UInt8) (e k : Int) : (fxL l e k).length ≤ l.length := by
  unfold fxL
  split <;> simp
theorem pkby_len (l : List UInt8) (e m : Int) : (byL l e m).length ≤ l.length := by
  have h1 := uiL_length l e
  have h2 := pkfx_len (uiL l e) 0 (uiX l e)
  unfold byL
  split
  · exact h1
  · split <;> omega
theorem pkby_few (l : List UInt8) (e : Int) (m : Nat) : (byB l e (m : Int)).length ≤ m := by
  unfold byB
  split
  · simp
  · split
    · simp
    · unfold fxB
      split
      · rw [List.length_take]
        omega
      · simp
/-- So many blobs are read, whatever comes. -/
def pgGo : Nat → List (List UInt8) → List UInt8 → Int → List (List UInt8) × List UInt8 × Int
  | 0, acc, l, e => (acc, l, e)
  | m + 1, acc, l, e => pgGo m (acc ++ [byB l e 65577]) (byL l e 65577) (byE l e 65577)
def pgEnd (r : List (List UInt8) × List UInt8 × Int) : List (List UInt8) × Int :=
  if endE r.2.1 r.2.2 ≠ 0 then ([], endE r.2.1 r.2.2) else if r.1.all (fun b => pkMay b.length) = false then ([], 11) else (r.1, 0)
/-- THE BLOBS OF BYTES. -/
def getPk (b : List UInt8) : List (List UInt8) × Int :=
  if 1048576 < b.length then ([], 13) else if uiE b 0 ≠ 0 then ([], uiE b 0) else if uiX b 0 < 1 ∨ 1024 < uiX b 0 then ([], 11) else pgEnd (pgGo (uiX b 0) [] (uiL b 0) 0)
theorem make_slices (w : World) (N : Nat) (h : N ≤ 1000000) : ∃ CS w', (Instr.makeSlice 22 (.int .u64 (N : Int)) (.int .u64 (N : Int))).run Tryd.prog w = .ok (.slice (some ⟨w.heap.size, 0, none⟩) N N) w' ∧ w'.heap[w.heap.size]? = some (.cells CS 24 (0, 0)) ∧ CS.size = N ∧ Below w.heap.size w w' ∧ w'.heap.size = w.heap.size + 1 := by
  obtain ⟨i0, hi, hz0, hz1, hz2⟩ := info_parts sl_info
  have hmk := run_make (P := Tryd.prog) (t := 22) (e := 24) w i0 (.slice none 0 0) Tryd.underlying22 hi hz0 .u64 .u64 (N : Int) (N : Int) (by omega) (by omega) (by rw [hz2]; omega) (by omega)
  rw [hz1] at hmk
  exact ⟨_, _, hmk, heap_alloc_new w _, by simp [madeCells, Value.cells], (Below.refl _ _).alloc (Nat.le_refl _) _, by simp⟩
/-- The row that is written: the first blobs stand in it. -/
structure PgRow (W : World) (g M : Nat) (S : Nat → Prop) (acc : List (List UInt8)) : Prop where
  row : ∃ CS, W.heap[g]? = some (.cells CS 24 (0, 0)) ∧ CS.size = M ∧ ∀ i, i < acc.length → ∃ A m c, CS[i]? = some (.slice A m c) ∧ Byt W S A m c (acc[i]?.getD [])
theorem PgRow.grown {W W' : World} {g M p : Nat} {S : Nat → Prop} {acc : List (List UInt8)} (h : PgRow W g M S acc) (hg : W.grownBy W' (some p)) (hgp : g ≠ p) (hS : ¬ S p) : PgRow W' g M S acc := by
  obtain ⟨CS, h1, h2, h3⟩ := h.row
  refine ⟨CS, (hg.block g (lt_of_cells h1) (fun e => hgp (Option.some.inj e))).trans h1, h2, fun i hi => ?_⟩
  obtain ⟨A, m, c, h4, h5⟩ := h3 i hi
  exact ⟨A, m, c, h4, h5.grown hg fun k hk => .inl (by rw [← Option.some.inj hk]; exact hS)⟩
theorem PgRow.put {W : World} {g M : Nat} {S : Nat → Prop} {acc : List (List UInt8)} {x : List UInt8} {A : Option Addr} {m c : Nat} (h : PgRow W g M S acc) (hl : acc.length < M) (hS : ¬ S g) (hx : Byt W S A m c x) :
    PgRow (W.setCell ⟨g, acc.length, none⟩ (.slice A m c)) g M S (acc ++ [x]) := by
  obtain ⟨CS, h1, h2, h3⟩ := h.row
  have ht : Turned (fun k => k = g) W (W.setCell ⟨g, acc.length, none⟩ (.slice A m c)) := (Turned.refl (fun k => k = g) W).set rfl _ _
  have hd : ∀ b, b < W.heap.size → S b → ¬ b = g := fun b _ hb e => hS (e ▸ hb)
  refine ⟨_, set_of_cells h1 _ _, by simpa using h2, fun i hi => ?_⟩
  rw [List.length_append, List.length_singleton] at hi
  by_cases hi2 : i < acc.length
  · obtain ⟨A', m', c', h4, h5⟩ := h3 i hi2
    refine ⟨A', m', c', ?_, ?_⟩
    · rw [Array.getElem?_setIfInBounds_ne (by omega)]
      exact h4
    · rw [List.getElem?_append_left hi2]
      exact h5.turned ht hd
  · obtain rfl : i = acc.length := by omega
    refine ⟨A, m, c, ?_, ?_⟩
    · rw [Array.getElem?_setIfInBounds_self, if_pos (by omega)]
    · rw [List.getElem?_append_right (Nat.le_refl _), Nat.sub_self]
      exact hx.turned ht hd
theorem PgRow.cell {W : World} {g M : Nat} {S : Nat → Prop} {acc : List (List UInt8)} (h : PgRow W g M S acc) {j : Nat} (hj : j < M) : (∃ v, W.cell? ⟨g, j, none⟩ = some v) ∧ W.frozen? ⟨g, j, none⟩ = false := by
  obtain ⟨CS, h1, h2, _⟩ := h.row
  exact ⟨⟨CS[j]'(by omega), by rw [cell_of_cells h1 j]; exact Array.getElem?_eq_getElem (by omega)⟩, free_of_cells h1 j⟩
theorem PgRow.rws {W : World} {g M : Nat} {S T : Nat → Prop} {acc : List (List UInt8)} (h : PgRow W g M S acc) (hl : acc.length = M) (hm : M ≤ 1000000) (hg : T g) (hT : ∀ k, S k → T k) : Rws W T (some ⟨g, 0, none⟩) M M acc := by
  obtain ⟨CS, h1, h2, h3⟩ := h.row
  refine ⟨hl, Nat.le_refl _, by unfold maxLen; omega, fun _ => ⟨g, 0, rfl, hg, lt_of_cells h1, fun i hi => ?_⟩⟩
  obtain ⟨A, m, c, h4, h5⟩ := h3 i (by omega)
  exact ⟨A, m, c, by rw [Nat.zero_add, cell_of_cells h1 i]; exact h4, h5.mono fun k _ hk => hT k hk⟩
/-- The loop's state. -/
def PgR (w w0 wm : World) (p g M : Nat) (l0 : List UInt8) (N : Nat) (i : Value) (wr : World) : Prop :=
  ∃ (j : Nat) (acc : List (List UInt8)) (l : List UInt8) (e : Int), i = .int .i64 (j : Int) ∧ j ≤ M ∧ pgGo M [] l0 0 = pgGo (M - j) acc l e ∧ acc.length = j ∧ Rd wr (fun k => w.heap.size ≤ k ∧ k < w0.heap.size) p l e ∧ PgRow wr g M (wm.heap.size ≤ ·) acc ∧ Turned (fun k => k = p ∨ k = g) wm wr ∧ l.length ≤ N
/-- What Get tells. -/
def PgPost (w : World) (r : List (List UInt8) × Int) (e : Ending) (w' : World) : Prop :=
  ∃ A c, e = .returned (.tuple #[.slice A r.1.length c, .int .i64 r.2]) ∧ Rws w' (w.heap.size ≤ ·) A r.1.length c r.1 ∧ Below w.heap.size w w'
theorem pgPost_nil {w w' : World} {r : List (List UInt8) × Int} {E : Int} (hr : r = ([], E)) (hb : Below w.heap.size w w') : PgPost w r (.returned (.tuple #[.slice none 0 0, .int .i64 E])) w' := by
  subst hr
  exact ⟨none, 0, rfl, ⟨rfl, Nat.le_refl _, Nat.zero_le _, fun h => absurd h (by simp)⟩, hb⟩
def PmR (wr : World) (acc : List (List UInt8)) (i : Value) (W : World) : Prop := ∃ j : Nat, j ≤ acc.length ∧ i = .int .i64 (j : Int) ∧ (acc.take j).all (fun b => pkMay b.length) = true ∧ W = wr
set_option maxHeartbeats 8000000 in
set_option maxRecDepth 100000 in
theorem pget_any {w : World} {S : Nat → Prop} {A : Option Addr} {n c : Nat} {b : List UInt8} (hb : Byt w S A n c b) :
    Calls Tryd.prog 9 #[.slice A n c] w fun e w' => PgPost w (getPk b) e w' := by
  have hbl := hb.len
  by_cases hbig : 1048576 < n
  · have hbig' : (n : Int) > 1048576 := by omega
    have HE : Hid (getPk b = ([], 13)) := Lib.hid (by unfold getPk; rw [if_pos (by omega)])
    clear hb hbl hbig
    go_enter Tryd.func9, Tryd.ntmps9
    go_wp2
    go_ret2
    exact pgPost_nil HE.out (Below.refl _ _)
  have hbig' : ¬ (n : Int) > 1048576 := by omega
  have HE : Hid (getPk b = if uiE b 0 ≠ 0 then ([], uiE b 0) else if uiX b 0 < 1 ∨ 1024 < uiX b 0 then ([], 11) else pgEnd (pgGo (uiX b 0) [] (uiL b 0) 0)) := Lib.hid (by unfold getPk; rw [if_neg (by omega)])
  have HN : Hid (n ≤ 1048576 ∧ b.length = n) := Lib.hid ⟨by omega, hbl⟩
  have hnr := newReader hb (by omega)
  clear hb hbl hbig
  go_enter Tryd.func9, Tryd.ntmps9
  go_upto_region 4 with (go_at_call 23; refine hnr.mono ?_; clear hnr; rintro _ w1 ⟨p, rfl, hr1, hb1⟩)
  have hr1 := hr1.mono (T := fun k => w.heap.size ≤ k ∧ k < w1.heap.size) fun k hk h => ⟨h, hk⟩
  have hu1 := uint_any hr1
  have HB1 := Lib.hid (And.intro hb1 hr1.1)
  clear hr1 hb1
  obtain ⟨M, hM⟩ : ∃ M, M = uiX b 0 := ⟨_, rfl⟩
  obtain ⟨l0, hl0⟩ : ∃ l0, l0 = uiL b 0 := ⟨_, rfl⟩
  obtain ⟨e0, he0⟩ : ∃ e0, e0 = uiE b 0 := ⟨_, rfl⟩
  have hl0n : l0.length ≤ n := by
    have h1 := uiL_length b 0
    have h3 := HN.out.2
    rw [hl0]
    omega
  rw [← hM, ← hl0, ← he0] at hu1 HE
  have HL0 := Lib.hid hl0n
  have HMB : Hid (M < 18446744073709551616) := Lib.hid (by rw [hM]; exact uiX_lt _ _)
  clear hM hl0 he0 hl0n
  go_upto_region 5 with (go_at_call 24; refine hu1.mono ?_; clear hu1; rintro _ w3 ⟨rfl, hr3, hg3⟩)
  have her := err_rd hr3
  have H3 := Lib.hid (And.intro hr3 hg3)
  have HB3 : Hid (Below w.heap.size w w3) := Lib.hid (HB1.out.1.trans (((Turned.of_gr (S := (w.heap.size ≤ ·)) hg3 fun g e => by rw [← Option.some.inj e]; exact HB1.out.2.1).below HB1.out.1.size)))
  clear hr3 hg3
  by_cases h0 : e0 = 0
  case neg =>
    have hne : (e0 != 0) = true := by simpa using h0
    have HR : Hid (getPk b = ([], e0)) := Lib.hid (by rw [HE.out, if_pos h0])
    clear h0
    go_wp2_with (go_at_call 25; refine her.mono ?_; clear her; rintro _ _ ⟨rfl, rfl⟩)
    go_ret2
    exact pgPost_nil HR.out HB3.out
  subst h0
  by_cases hM1 : M < 1
  · have hM1' : (M : Int) < 1 := by omega
    have HR : Hid (getPk b = ([], 11)) := Lib.hid (by rw [HE.out, if_neg (by simp), if_pos (.inl hM1)])
    clear hM1
    go_wp2_with (go_at_call 25; refine her.mono ?_; clear her; rintro _ _ ⟨rfl, rfl⟩)
    go_ret2
    exact pgPost_nil HR.out HB3.out
  have hM1' : ¬ (M : Int) < 1 := by omega
  by_cases hM2 : 1024 < M
  · have hM2' : (M : Int) > 1024 := by omega
    have HR : Hid (getPk b = ([], 11)) := Lib.hid (by rw [HE.out, if_neg (by simp), if_pos (.inr hM2)])
    clear hM1 hM2
    go_wp2_with (go_at_call 25; refine her.mono ?_; clear her; rintro _ _ ⟨rfl, rfl⟩)
    go_ret2
    exact pgPost_nil HR.out HB3.out
  have hM2' : ¬ (M : Int) > 1024 := by omega
  have HR : Hid (getPk b = pgEnd (pgGo M [] l0 0)) := Lib.hid (by rw [HE.out, if_neg (by simp), if_neg (by omega)])
  have HM : Hid (M ≤ 1024 ∧ 1 ≤ M) := Lib.hid ⟨by omega, by omega⟩
  clear hM1 hM2 HE
  obtain ⟨CS, wm, hmk, hg, hcs, hbm, hsm⟩ := make_slices w3 M (by have := HM.out; omega)
  obtain ⟨g, hgg⟩ : ∃ g, g = w3.heap.size := ⟨_, rfl⟩
  have hs3 : w1.heap.size ≤ w3.heap.size := H3.out.2.size
  rw [← hgg] at hmk hg hsm hs3
  have H0 : Hid (PgR w w1 wm p g M l0 n (.int .i64 0) wm) := Lib.hid ⟨0, [], l0, 0, rfl, Nat.zero_le _, rfl, rfl, (H3.out.1.turned (T := fun _ => False) (Turned.of_below hbm) fun _ _ _ h => h), ⟨CS, hg, hcs, fun i hi => absurd hi (by simp)⟩, Turned.refl _ _, HL0.out⟩
  have HW : Hid (w1.heap.size ≤ g ∧ wm.heap.size = g + 1 ∧ Below w.heap.size w wm ∧ p < w1.heap.size ∧ w.heap.size ≤ p) := Lib.hid ⟨hs3, hsm, HB3.out.trans (hbm.mono HB3.out.size), HB1.out.2.2, HB1.out.2.1⟩
  clear hg hcs hbm hsm hs3 H3 HB3 hgg
  go_upto_region 11 with (go_at_call 25; refine her.mono ?_; clear her; rintro _ _ ⟨rfl, rfl⟩)
  clear hmk
  go_wp2_with fail
  go_loopw [8, 34] (fun _ i wr => PgR w w1 wm p g M l0 n i wr) (fun _ i _ => M - (intOf i).toNat)
  case atStart => exact H0.out
  case round =>
    obtain ⟨j, acc, l, e, rfl, hj, hgo, hac, hrd, hrow, htn, hll⟩ := hrel
    clear H0
    by_cases hlt : j < M
    · have hlt' : (j : Int) < (M : Int) := by omega
      have hadd := IntWalk.i64_in ((j : Int) + 1) (by have := HM.out; omega)
      have hby := bytes_any (most := 65577) hrd (by have := HN.out; omega) (by omega)
      have HS : Hid (∀ k, w.heap.size ≤ k ∧ k < w1.heap.size → ¬ k = g) := Lib.hid fun k h => by have := HW.out.1; omega
      have H := Lib.hid (And.intro hrow (And.intro htn (And.intro hgo (And.intro hac (And.intro hlt hll)))))
      clear hrow htn hgo hac hlt hll hj hrd
      obtain ⟨x, hx⟩ : ∃ x, x = byB l e 65577 := ⟨_, rfl⟩
      obtain ⟨l2, hl2⟩ : ∃ l2, l2 = byL l e 65577 := ⟨_, rfl⟩
      obtain ⟨e2, he2⟩ : ∃ e2, e2 = byE l e 65577 := ⟨_, rfl⟩
      rw [← hx, ← hl2, ← he2] at hby
      have HX := Lib.hid (And.intro hx (And.intro hl2 he2))
      clear hx hl2 he2
      go_wp2_with (go_at_call 26; refine hby.mono ?_; clear hby; rintro _ w6 ⟨A6, n6, c6, rfl, hy6, hr6, hg6, _⟩; have hrow6 := H.out.1.grown hg6 (by have h1 := HW.out; omega) (by have h1 := HW.out; omega); obtain ⟨⟨v6, hc6⟩, hf6⟩ := hrow6.cell H.out.2.2.2.2.1; have H6 := Lib.hid (And.intro hy6 (And.intro hr6 (And.intro hg6 hrow6))); clear hy6 hr6 hg6 hrow6)
      go_roundw
      case rel =>
        have hac := H.out.2.2.2.1
        have h6 := H6.out
        have hsz := H.out.2.1.size
        have ht6 : Turned (fun k => k = p ∨ k = g) wr (w6.setCell ⟨g, j, none⟩ (.slice A6 n6 c6)) := (Turned.of_gr h6.2.2.1 fun k e => .inl (Option.some.inj e).symm).set (.inr rfl) _ _
        refine ⟨j + 1, acc ++ [x], l2, e2, by simp, by have := H.out.2.2.2.2.1; omega, ?_, by simp [hac], ?_, ?_, H.out.2.1.trans ht6 fun _ _ h => h, ?_⟩
        · rw [H.out.2.2.1, show M - j = (M - (j + 1)) + 1 by have := H.out.2.2.2.2.1; omega, pgGo, ← HX.out.1, ← HX.out.2.1, ← HX.out.2.2]
        · exact h6.2.1.turned (T := fun k => k = g) ((Turned.refl (fun k => k = g) w6).set rfl _ _) fun k _ h => HS.out k h
        · have := h6.2.2.2.put (x := x) (A := A6) (m := n6) (c := c6) (by have := H.out.2.2.2.2.1; omega) (by have := HW.out; omega) (h6.1.mono fun k _ h => Nat.le_trans hsz h)
          rw [hac] at this
          exact this
        · have h1 := pkby_len l e 65577
          have h2 := H.out.2.2.2.2.2
          rw [HX.out.2.1]
          omega
      case measure => have := H.out.2.2.2.2.1; simp only [intOf]; omega
    · obtain rfl : j = M := by omega
      have hlt' : ¬ (j : Int) < (j : Int) := by omega
      rw [Nat.sub_self, pgGo] at hgo
      have hend := end_rd hrd
      have hbw : Below w.heap.size w wr := HW.out.2.2.1.trans ((htn.mono (T := (w.heap.size ≤ ·)) fun k _ h => by have := HW.out; have := HB1.out.1.size; rcases h with h | h <;> omega).below HW.out.2.2.1.size)
      have hrws := hrow.rws (T := (w.heap.size ≤ ·)) hac (by have := HM.out; omega) (by have := HW.out; have := HB1.out.1.size; show w.heap.size ≤ g; omega) fun k hk => by have := HW.out; have := HB1.out.1.size; show w.heap.size ≤ k; have : wm.heap.size ≤ k := hk; omega
      have HK := Lib.hid (And.intro hbw (And.intro hrws (And.intro (HR.out.trans (by rw [hgo])) hac)))
      obtain ⟨E, hE⟩ : ∃ E, E = endE l e := ⟨_, rfl⟩
      rw [← hE] at hend
      have HE := Lib.hid hE
      clear hlt hgo hrd hrow htn hll hbw hrws hE hac hj
      by_cases h0 : E = 0
      case neg =>
        have hne : (E != 0) = true := by simpa using h0
        have H0 := Lib.hid h0
        clear h0
        go_wp2_with (go_at_call 27; refine hend.mono ?_; clear hend; rintro _ _ ⟨rfl, rfl⟩)
        go_ret2
        refine pgPost_nil (E := E) ?_ HK.out.1
        rw [HK.out.2.2.1, pgEnd]
        simp only
        rw [if_pos (by rw [← HE.out]; exact H0.out), ← HE.out]
      subst h0
      have HF : Hid (getPk b = if acc.all (fun b => pkMay b.length) = false then ([], 11) else (acc, 0)) := Lib.hid (by
        rw [HK.out.2.2.1, pgEnd]
        simp only
        rw [if_neg (by rw [← HE.out]; simp)])
      go_upto_region 20 with (go_at_call 27; refine hend.mono ?_; clear hend; rintro _ _ ⟨rfl, rfl⟩)
      go_loopw [11, 50] (fun _ i W => PmR wr acc i W) (fun _ i _ => j - (intOf i).toNat)
      case atStart => exact ⟨0, Nat.zero_le _, rfl, rfl, rfl⟩
      case round =>
        obtain ⟨i, hi, rfl, hm, rfl⟩ := hrel
        have HMY := Lib.hid hm
        by_cases hlt : i < j
        · have hlt2 : (i : Int) < (j : Int) := by omega
          obtain ⟨q, off, x, Ai, ci, hA, _, hql, hx, hc, hy⟩ := HK.out.2.1.at_ hlt
          injection hA with hA
          injection hA with hA1 hA2
          subst hA1 hA2
          rw [Nat.zero_add] at hc
          have hmy := may_any (x.length : Int) wr
          have hnx := may_take hx
          rw [hm, Bool.true_and] at hnx
          have hadd := IntWalk.i64_in ((i : Int) + 1) (by have := HM.out; omega)
          obtain ⟨Y, hY⟩ : ∃ Y, Y = pkMay (x.length : Int) := ⟨_, rfl⟩
          rw [← hY] at hmy hnx
          have H := Lib.hid (And.intro hx (And.intro hnx (And.intro hY hlt)))
          clear hm hx hy hnx hY hlt hql hi
          cases hYc : Y with
          | false =>
            subst hYc
            go_wp2_with (go_at_call 14; refine hmy.mono ?_; clear hmy; rintro _ _ ⟨rfl, rfl⟩)
            go_ret2
            refine pgPost_nil (E := 11) ?_ HK.out.1
            rw [HF.out, if_pos]
            rw [Bool.eq_false_iff]
            intro h
            have := List.all_eq_true.1 h x (List.mem_of_getElem? H.out.1)
            rw [← H.out.2.2.1] at this
            cases this
          | true =>
            subst hYc
            go_wp2_with (go_at_call 14; refine hmy.mono ?_; clear hmy; rintro _ _ ⟨rfl, rfl⟩)
            go_roundw
            case rel => exact ⟨i + 1, by have h1 := H.out.2.2.2; have h2 := HK.out.2.2.2; omega, by simp, H.out.2.1, rfl⟩
            case measure => have := H.out.2.2.2; simp only [intOf]; omega
        · have hlt2 : ¬ (i : Int) < (j : Int) := by omega
          have hall : acc.all (fun b => pkMay b.length) = true := by rw [List.take_of_length_le (by have := HK.out.2.2.2; omega)] at hm; exact hm
          have HA := Lib.hid hall
          clear hm hall hlt hi
          go_wp2
          go_ret2
          have hres : getPk b = (acc, 0) := by rw [HF.out, if_neg (by rw [HA.out]; simp)]
          rw [hres]
          refine ⟨some ⟨g, 0, none⟩, j, by rw [HK.out.2.2.2]; rfl, ?_, HK.out.1⟩
          rw [HK.out.2.2.2]
          exact HK.out.2.1
end Go.Proofs.YtnbjhdlnibmgdaaDoor

/-! What was put is read as it was: the pure part (for CodecBack). -/
namespace Go.Proofs.YtnbjhdlnibmgdaaDoor
open Go.RowKit Codec
theorem fixed_back (b R : List UInt8) (n : Nat) (h : b.length = n) : tkE (b ++ R) 0 (n : Int) = 0 ∧ fxL (b ++ R) 0 (n : Int) = R ∧ fxB (b ++ R) 0 (n : Int) = b := by
  have e : tkE (b ++ R) 0 (n : Int) = 0 := by
    unfold tkE
    rw [if_neg (by simp), if_neg (by omega), if_neg (by simp; omega)]
  refine ⟨e, ?_, ?_⟩
  · unfold fxL; rw [if_pos e]; simp [← h]
  · unfold fxB; rw [if_pos e]; simp [← h]
theorem uint_back (x : Nat) (R : List UInt8) (hx : x < 18446744073709551616) : (rd 0 (put x ++ R)).1 = x ∧ (put x ++ R).drop (rd 0 (put x ++ R)).2.1 = R ∧ (rd 0 (put x ++ R)).2.2 = 0 := by
  rw [rd_put0 hx]
  exact ⟨rfl, List.drop_left, rfl⟩
theorem bytes_back (b R : List UInt8) (h : b.length ≤ 200) : byE ((put b.length ++ b) ++ R) 0 200 = 0 ∧ byL ((put b.length ++ b) ++ R) 0 200 = R ∧ byB ((put b.length ++ b) ++ R) 0 200 = b := by
  obtain ⟨h1, h2, h3⟩ := uint_back b.length (b ++ R) (by omega)
  rw [List.append_assoc]
  have e1 : uiX (put b.length ++ (b ++ R)) 0 = b.length := by unfold uiX; rw [if_pos rfl, h1]
  have e2 : uiL (put b.length ++ (b ++ R)) 0 = b ++ R := by unfold uiL; rw [if_pos rfl, h2]
  have e3 : uiE (put b.length ++ (b ++ R)) 0 = 0 := by unfold uiE; rw [if_pos rfl, h3]; rfl
  obtain ⟨f1, f2, f3⟩ := fixed_back b R b.length rfl
  unfold byE byL byB
  rw [e1, e2, e3]
  have hn : ¬ ((200 : Int) < 0 ∨ (200 : Int) < (b.length : Int)) := by omega
  rw [if_neg (by simp), if_neg hn, if_neg (by simp), if_neg hn, if_neg (by simp), if_neg hn]
  exact ⟨f1, f2, f3⟩
theorem bool_back (v : UInt8) (R : List UInt8) (hv : v.toNat ≤ 1) : boE (v :: R) 0 = 0 ∧ fxL (v :: R) 0 1 = R ∧ boX (v :: R) 0 = (v.toNat == 1) := by
  have e : tkE (v :: R) 0 1 = 0 := by
    unfold tkE
    rw [if_neg (by simp), if_neg (by omega), if_neg (by simp; omega)]
  refine ⟨?_, ?_, ?_⟩
  · unfold boE; rw [e, if_neg (by simp), if_neg (by simp; omega)]
  · unfold fxL; rw [if_pos e]; rfl
  · unfold boX; rw [e, if_neg (by simp)]; rfl
end Go.Proofs.YtnbjhdlnibmgdaaDoor

/-! Packs, pure: what is put is got; what is got, put again, is the bytes. -/
namespace Go.Proofs.YtnbjhdlnibmgdaaDoor
open Go.RowKit Codec

theorem pui_back (x : Nat) (R : List UInt8) (hx : x < 18446744073709551616) : uiX (put x ++ R) 0 = x ∧ uiL (put x ++ R) 0 = R ∧ uiE (put x ++ R) 0 = 0 := by
  obtain ⟨h1, h2, h3⟩ := uint_back x R hx
  exact ⟨by unfold uiX; rw [if_pos rfl, h1], by unfold uiL; rw [if_pos rfl, h2], by unfold uiE; rw [if_pos rfl, h3]; rfl⟩
theorem prow_back (b R : List UInt8) (h : b.length ≤ 65577) : byE (put b.length ++ (b ++ R)) 0 65577 = 0 ∧ byL (put b.length ++ (b ++ R)) 0 65577 = R ∧ byB (put b.length ++ (b ++ R)) 0 65577 = b := by
  obtain ⟨e1, e2, e3⟩ := pui_back b.length (b ++ R) (by omega)
  obtain ⟨f1, f2, f3⟩ := fixed_back b R b.length rfl
  unfold byE byL byB
  rw [e1, e2, e3]
  have hn : ¬ ((65577 : Int) < 0 ∨ (65577 : Int) < (b.length : Int)) := by omega
  rw [if_neg (by simp), if_neg hn, if_neg (by simp), if_neg hn, if_neg (by simp), if_neg hn]
  exact ⟨f1, f2, f3⟩
theorem pkBs_cons (b : List UInt8) (l : List (List UInt8)) : pkBs (b :: l) = put b.length ++ (b ++ pkBs l) := by simp [pkBs]
theorem pgGo_back : ∀ (l acc : List (List UInt8)) (R : List UInt8), (∀ b ∈ l, b.length ≤ 65577) → pgGo l.length acc (pkBs l ++ R) 0 = (acc ++ l, R, 0)
  | [], acc, R, _ => by simp [pgGo, pkBs]
  | b :: l, acc, R, h => by
    obtain ⟨a1, a2, a3⟩ := prow_back b (pkBs l ++ R) (h b List.mem_cons_self)
    have e : pkBs (b :: l) ++ R = put b.length ++ (b ++ (pkBs l ++ R)) := by rw [pkBs_cons]; simp
    rw [e, List.length_cons, pgGo, a1, a2, a3, pgGo_back l (acc ++ [b]) R fun y hy => h y (List.mem_cons_of_mem _ hy)]
    simp
theorem putPE_ok {l : List (List UInt8)} (h : putPE l = 0) : 1 ≤ l.length ∧ l.length ≤ 1024 ∧ l.all (fun b => pkMay b.length) = true ∧ lnN l.length + pkSum l ≤ 1048576 := by
  unfold putPE at h
  split at h
  · cases h
  · rename_i h1
    split at h
    · cases h
    · rename_i h2
      split at h
      · cases h
      · rename_i h3
        exact ⟨by omega, by omega, by simpa using h2, by omega⟩
theorem putPE_zero {l : List (List UInt8)} (h1 : 1 ≤ l.length) (h2 : l.length ≤ 1024) (h3 : l.all (fun b => pkMay b.length) = true) (h4 : lnN l.length + pkSum l ≤ 1048576) : putPE l = 0 := by
  unfold putPE
  rw [if_neg (by omega), if_neg (by rw [h3]; simp), if_neg (by omega)]
/-- WHAT IS PUT IS GOT. -/
theorem pk_get_put {l : List (List UInt8)} (h : putPE l = 0) : getPk (pkB l) = (l, 0) := by
  obtain ⟨h1, h2, h3, h4⟩ := putPE_ok h
  have hl := may_le h3
  have e : pkB l = put l.length ++ pkBs l := rfl
  obtain ⟨e1, e2, e3⟩ := pui_back l.length (pkBs l) (by omega)
  have hb := pkB_len l
  unfold getPk
  rw [if_neg (by omega), e, e1, e2, e3, if_neg (by simp), if_neg (by omega)]
  have hg := pgGo_back l [] [] hl
  rw [List.append_nil, List.nil_append] at hg
  rw [hg, pgEnd]
  simp only
  rw [if_neg (by simp [endE]), if_neg (by rw [h3]; simp)]
theorem pend_zero {l : List UInt8} {e : Int} (h : endE l e = 0) : e = 0 ∧ l = [] := by
  unfold endE at h
  split at h
  · rename_i h1; exact absurd h h1
  · rename_i h1
    refine ⟨Classical.not_not.1 h1, ?_⟩
    cases l with
    | nil => rfl
    | cons c t => simp at h
theorem pui_put {l : List UInt8} (h : uiE l 0 = 0) : put (uiX l 0) ++ uiL l 0 = l := by
  unfold uiE at h
  unfold uiX uiL
  rw [if_pos rfl] at h ⊢
  rw [if_pos rfl]
  have hp := put_rd 0 l (by omega) (by simpa using h)
  rw [hp.1, List.take_append_drop]
theorem ptk_zero {l : List UInt8} {e k : Int} (h : tkE l e k = 0) : e = 0 ∧ ¬ k < 0 ∧ k ≤ (l.length : Int) := by
  unfold tkE at h
  split at h
  · rename_i h1; exact absurd h h1
  · rename_i h1
    split at h
    · cases h
    · rename_i h2
      split at h
      · cases h
      · rename_i h3
        exact ⟨Classical.not_not.1 h1, h2, by omega⟩
theorem pby_put {l : List UInt8} {m : Int} (h : byE l 0 m = 0) : put (byB l 0 m).length ++ (byB l 0 m ++ byL l 0 m) = l := by
  unfold byE at h
  split at h
  · rename_i h1; exact absurd h h1
  · rename_i h1
    split at h
    · simp at h
    · rename_i h2
      have h3 := ptk_zero h
      have hb : byB l 0 m = (uiL l 0).take (uiX l 0) := by
        unfold byB
        rw [if_neg h1, if_neg h2]
        unfold fxB
        rw [if_pos h, Int.toNat_natCast]
      have hl : byL l 0 m = (uiL l 0).drop (uiX l 0) := by
        unfold byL
        rw [if_neg h1, if_neg h2]
        unfold fxL
        rw [if_pos h, Int.toNat_natCast]
      have hn : ((uiL l 0).take (uiX l 0)).length = uiX l 0 := by
        rw [List.length_take]
        have := h3.2.2
        omega
      rw [hb, hl, hn, List.take_append_drop]
      exact pui_put (Classical.not_not.1 h1)
theorem pby_err {l : List UInt8} {e m : Int} (h : byE l e m = 0) : e = 0 := by
  unfold byE at h
  split at h
  · rename_i h1; exact absurd h h1
  · rename_i h1
    have h2 := Classical.not_not.1 h1
    unfold uiE at h2
    split at h2
    · assumption
    · exact h2
theorem pgGo_put : ∀ (M : Nat) (acc : List (List UInt8)) (l : List UInt8) (e : Int) (r : List (List UInt8)) (l' : List UInt8), pgGo M acc l e = (r, l', 0) → e = 0 ∧ ∃ t, r = acc ++ t ∧ t.length = M ∧ pkBs t ++ l' = l
  | 0, acc, l, e, r, l', h => by
    simp only [pgGo, Prod.mk.injEq] at h
    obtain ⟨rfl, rfl, rfl⟩ := h
    exact ⟨rfl, [], by simp, rfl, by simp [pkBs]⟩
  | M + 1, acc, l, e, r, l', h => by
    unfold pgGo at h
    obtain ⟨h1, t, rfl, ht, hb⟩ := pgGo_put M _ _ _ _ _ h
    have h0 := pby_err h1
    subst h0
    refine ⟨rfl, byB l 0 65577 :: t, by simp, by simp [ht], ?_⟩
    rw [pkBs_cons]
    simp only [List.append_assoc]
    rw [hb]
    exact pby_put h1
/-- WHAT IS GOT, PUT AGAIN. -/
theorem pk_put_get {b : List UInt8} {l : List (List UInt8)} (h : getPk b = (l, 0)) : putPE l = 0 ∧ pkB l = b := by
  unfold getPk at h
  split at h
  · simp at h
  · rename_i hbig
    split at h
    · rename_i h1
      simp only [Prod.mk.injEq] at h
      exact absurd h.2 h1
    · rename_i h1
      split at h
      · simp at h
      · rename_i hM
        unfold pgEnd at h
        generalize hr : pgGo (uiX b 0) [] (uiL b 0) 0 = r at h
        obtain ⟨acc, l', e⟩ := r
        simp only at h
        split at h
        · rename_i h2
          simp only [Prod.mk.injEq] at h
          exact absurd h.2 h2
        · rename_i h2
          split at h
          · simp at h
          · rename_i h3
            simp only [Prod.mk.injEq, and_true] at h
            subst h
            obtain ⟨rfl, rfl⟩ := pend_zero (Classical.not_not.1 h2)
            obtain ⟨_, t, ht, hl, hb⟩ := pgGo_put _ _ _ _ _ _ hr
            rw [List.nil_append] at ht
            subst ht
            have e : pkB acc = put acc.length ++ pkBs acc := rfl
            rw [List.append_nil] at hb
            have hb2 : pkB acc = b := by
              rw [e, hb, hl]
              exact pui_put (Classical.not_not.1 h1)
            have hln := pkB_len acc
            rw [hb2] at hln
            exact ⟨putPE_zero (by omega) (by omega) (by simpa using h3) (by omega), hb2⟩
theorem getPk_bad {b : List UInt8} (h : (getPk b).2 ≠ 0) : (getPk b).1 = [] := by
  unfold getPk pgEnd at h ⊢
  split
  · rfl
  · rename_i h1
    rw [if_neg h1] at h
    split
    · rfl
    · rename_i h2
      rw [if_neg h2] at h
      split
      · rfl
      · rename_i h3
        rw [if_neg h3] at h
        split
        · rfl
        · rename_i h4
          rw [if_neg h4] at h
          split
          · rfl
          · rename_i h5
            rw [if_neg h5] at h
            exact absurd rfl h
theorem getPk_len (b : List UInt8) : (getPk b).1.length ≤ 1024 := by
  by_cases h : (getPk b).2 = 0
  · obtain ⟨h1, _⟩ := pk_put_get (b := b) (l := (getPk b).1) (by rw [← h])
    exact (putPE_ok h1).2.1
  · rw [getPk_bad h]
    simp
end Go.Proofs.YtnbjhdlnibmgdaaDoor

/-! Packs: awake. -/
namespace Go.Proofs.YtnbjhdlnibmgdaaDoor
open Go.RowKit Codec

theorem pka_fill : fillE [41, 41, 41] 90 = 0 ∧ pkFillL [41, 41, 41] 90 = [[0, 1], [2]] := by decide +kernel
def pkZ : List (List UInt8) := [List.replicate 41 0]
theorem pka_put : putPE pkZ = 0 := by decide +kernel
theorem pka_none : putPE [] = 1 := by decide +kernel
theorem pka_len : (putPB pkZ).length = 43 := by decide +kernel
theorem pka_get : getPk (putPB pkZ) = (pkZ, 0) := by
  unfold putPB
  rw [if_pos pka_put]
  exact pk_get_put pka_put
theorem pkIntsLit (w : World) : Ints .i64 (w.alloc (.cells #[.int .i64 41, .int .i64 41, .int .i64 41] 3)) (w.heap.size ≤ ·) (some ⟨w.heap.size, 0, none⟩) 3 3 [41, 41, 41] :=
  ⟨rfl, Nat.le_refl _, by unfold maxLen; omega, by decide, fun _ => ⟨w.heap.size, 0, rfl, Nat.le_refl _, by simp, fun i hi => by
    rw [Nat.zero_add, cell_of_cells (heap_alloc_new w _)]
    match i, hi with
    | 0, _ => rfl
    | 1, _ => rfl
    | 2, _ => rfl⟩⟩
theorem pkRowLit {w : World} {S T : Nat → Prop} {A : Option Addr} {n c : Nat} {l : List UInt8} (h : Byt w S A n c l) (hT : T w.heap.size) (hS : ∀ k, S k → T k) : Rws (w.alloc (.cells #[.slice A n c] 24)) T (some ⟨w.heap.size, 0, none⟩) 1 1 [l] :=
  ⟨rfl, Nat.le_refl _, by unfold maxLen; omega, fun _ => ⟨w.heap.size, 0, rfl, hT, by simp, fun i hi => by
    obtain rfl : i = 0 := by omega
    refine ⟨A, n, c, ?_, (h.mono fun k _ hk => hS k hk).alloc _⟩
    rw [Nat.zero_add, cell_of_cells (heap_alloc_new w _)]
    rfl⟩⟩
theorem pkZeros (w : World) (N : Nat) (h : N ≤ 1000000) : Byt (w.alloc (.cells (u8s (List.replicate N 0)).toArray 5)) (w.heap.size ≤ ·) (some ⟨w.heap.size, 0, none⟩) N N (List.replicate N 0) :=
  ⟨by simp, Nat.le_refl _, by unfold maxLen; omega, fun _ => ⟨w.heap.size, 0, rfl, Nat.le_refl _, by simp, fun i hi => by
    rw [Nat.zero_add, cell_of_cells (heap_alloc_new w _)]
    simp [u8s, hi]⟩⟩
set_option maxHeartbeats 8000000 in
set_option maxRecDepth 100000 in
theorem pkawake_true (w : World) : Calls Tryd.prog 5 #[] w fun e w' => e = .returned (.bool true) ∧ Below w.heap.size w w' := by
  have hfi := pfill_any (pkIntsLit w) (by omega) 90 (by omega)
  rw [pka_fill.1, pka_fill.2] at hfi
  go_enter Tryd.func5, Tryd.ntmps5
  go_upto_region 2 with (go_at_call 13; refine hfi.mono ?_; clear hfi; rintro _ w1 ⟨A1, c1, rfl, hn1, hb1⟩)
  obtain ⟨W0, hW0⟩ : ∃ W0, W0 = w.alloc (.cells #[.int .i64 41, .int .i64 41, .int .i64 41] 3) := ⟨_, rfl⟩
  rw [← hW0] at hn1 hb1
  have hbW : Below w.heap.size w W0 := by rw [hW0]; exact (Below.refl _ _).alloc (Nat.le_refl _) _
  have H1 := Lib.hid (And.intro hn1 (hbW.trans (hb1.mono hbW.size)))
  clear hn1 hb1 hW0 hbW
  have hmk : (Instr.makeSlice 24 (.int .i64 41) (.int .i64 41)).run Tryd.prog w1 = .ok (.slice (some ⟨w1.heap.size, 0, none⟩) 41 41) (w1.alloc (.cells (u8s (List.replicate 41 0)).toArray 5)) := make_bytes w1 41 (by omega)
  have hy2 := pkZeros w1 41 (by omega)
  have hb2 : Below w1.heap.size w1 (w1.alloc (.cells (u8s (List.replicate 41 0)).toArray 5)) := (Below.refl _ _).alloc (Nat.le_refl _) _
  generalize w1.alloc (.cells (u8s (List.replicate 41 0)).toArray 5) = w2 at *
  have hr3 := pkRowLit (T := (w1.heap.size ≤ ·)) hy2 hb2.size fun k hk => hk
  have hb3 : Below w1.heap.size w1 (w2.alloc (.cells #[.slice (some ⟨w1.heap.size, 0, none⟩) 41 41] 24)) := hb2.alloc hb2.size _
  have hpu := pput_any hr3
  have hp0 : putPE [List.replicate 41 (0 : UInt8)] = 0 := pka_put
  rw [hp0] at hpu
  obtain ⟨PB, hPB⟩ : ∃ PB, PB = putPB [List.replicate 41 (0 : UInt8)] := ⟨_, rfl⟩
  have hPBl : PB.length = 43 := by rw [hPB]; exact pka_len
  have hPBg : getPk PB = ([List.replicate 41 0], 0) := by rw [hPB]; exact pka_get
  rw [← hPB] at hpu
  have H2 := Lib.hid (And.intro hb3 (And.intro hPBl hPBg))
  clear hy2 hb2 hr3 hb3 hp0 hPB hPBl hPBg
  go_upto_region 3 with (go_at_call 6; refine hpu.mono ?_; clear hpu; rintro _ w4 ⟨A4, m4, c4, rfl, hy4, hb4⟩; have H4 := Lib.hid (And.intro hy4 (H2.out.1.trans (hb4.mono H2.out.1.size))); clear hy4 hb4)
  clear hmk
  obtain rfl : m4 = 43 := by have := H4.out.1.len; rw [H2.out.2.1] at this; exact this.symm
  have hge := pget_any H4.out.1
  rw [H2.out.2.2] at hge
  go_upto_region 4 with (go_at_call 9; refine hge.mono ?_; clear hge; rintro _ w5 ⟨A5, c5, rfl, hr5, hb5⟩; have H5 := Lib.hid (H4.out.2.trans (hb5.mono H4.out.2.size)); clear hr5 hb5)
  have hpn := pput_any (w := w5) (S := fun _ => True) (A := none) (n := 0) (c := 0) (l := []) ⟨rfl, Nat.le_refl _, Nat.zero_le _, fun h => absurd h (by omega)⟩
  rw [pka_none] at hpn
  go_upto_region 5 with (go_at_call 6; refine hpn.mono ?_; clear hpn; rintro _ w6 ⟨A6, m6, c6, rfl, hy6, hb6⟩; have H6 := Lib.hid (H5.out.trans (hb6.mono H5.out.size)); clear hy6 hb6)
  have hn6 := H1.out.1.below H6.out
  obtain ⟨b, off, rfl, _, _, hc⟩ := hn6.row (by decide)
  obtain ⟨Aa, ca, hca, _⟩ := hc 0 (by decide)
  obtain ⟨Ab, cb, hcb, hib⟩ := hc 1 (by decide)
  obtain ⟨b2, off2, rfl, _, _, hc2⟩ := hib.row (by decide)
  have hc20 := hc2 0 (by decide)
  simp only [List.getElem?_cons_zero, List.getElem?_cons_succ, Option.getD_some, List.length_cons, List.length_nil, natI, List.map_cons, List.map_nil, Nat.add_zero] at hca hcb hc20
  have H := Lib.hid (H1.out.2.trans (H6.out.mono H1.out.2.size))
  clear hn6 hc hib hc2 H6 H5 H4 H2
  go_wp2
  go_ret
  exact ⟨rfl, H.out⟩
end Go.Proofs.YtnbjhdlnibmgdaaDoor

/-! The string of a row of bytes. -/
namespace Go.Proofs.YtnbjhdlnibmgdaaDoor
open Go.RowKit

theorem st_list (l : List UInt8) : (st l).toList = l := by simp [st]
theorem st_app (l m : List UInt8) : st l ++ st m = st (l ++ m) := by
  unfold st
  apply ByteArray.ext
  simp
theorem st_extract (l : List UInt8) (a b : Nat) : (st l).extract a b = st ((l.drop a).take (b - a)) := by
  apply ByteArray.ext
  unfold st
  simp
end Go.Proofs.YtnbjhdlnibmgdaaDoor

/-! Strings of bytes: read, cut, held against each other. -/
namespace Go.Proofs.YtnbjhdlnibmgdaaDoor
open Go.RowKit

section
variable {P : Program} (t : TypeId) (h : P.underlying t = some .string) (l : List UInt8) (W : World)
include h
theorem sti_at (i : Nat) (hi : i < l.length) : (Instr.index t (.string (st l)) (.int .i64 (i : Int))).run P W = .ok (.int .u8 ((l[i]?.getD 0).toNat : Int)) W := by
  rw [run_index_string W t (st l) .i64 (i : Int) h, dif_pos ⟨by omega, by rw [st_size]; omega⟩]
  congr 4
  rw [List.getElem?_eq_getElem hi, Option.getD_some]
  rfl
theorem st_index (i : Nat) (ii : Int) (e : ii = (i : Int)) (hi : i < l.length) : (Instr.index t (.string (st l)) (.int .i64 ii)).run P W = .ok (.int .u8 ((l[i]?.getD 0).toNat : Int)) W := by
  subst e
  exact sti_at t h l W i hi
theorem st_to (k : Nat) (kk : Int) (e : kk = (k : Int)) (hk : k ≤ l.length) : (Instr.slice t (.string (st l)) none (some (.int .i64 kk)) none).run P W = .ok (.string (st (l.take k))) W := by
  subst e
  rw [run_slice_string_h W t (st l) h .i64 (k : Int) (by omega) (by rw [st_size]; omega), st_extract]
  simp
theorem st_from (k : Nat) (kk : Int) (e : kk = (k : Int)) (hk : k ≤ l.length) : (Instr.slice t (.string (st l)) (some (.int .i64 kk)) none none).run P W = .ok (.string (st (l.drop k))) W := by
  subst e
  rw [run_slice_string_l W t (st l) h .i64 (k : Int) (by omega) (by rw [st_size]; omega), st_extract, st_size, List.take_of_length_le (by simp)]
  simp
theorem st_mid (j k : Nat) (jj kk : Int) (ej : jj = (j : Int)) (e : kk = (k : Int)) (hj : j ≤ k) (hk : k ≤ l.length) : (Instr.slice t (.string (st l)) (some (.int .i64 jj)) (some (.int .i64 kk)) none).run P W = .ok (.string (st ((l.drop j).take (k - j)))) W := by
  subst e ej
  rw [run_slice_string_if, if_pos ⟨by omega, by rw [st_size]; omega⟩, if_pos ⟨by omega, by omega⟩, st_extract]
  · simp
  · exact h
end
theorem st_inj {a b : List UInt8} : st a = st b ↔ a = b := by
  constructor
  · intro h
    have := congrArg ByteArray.toList h
    rwa [st_list, st_list] at this
  · rintro rfl
    rfl
theorem st_beq (a b : List UInt8) : ((st a).toList == (st b).toList) = decide (a = b) := by
  rw [st_list, st_list]
  by_cases h : a = b <;> simp [h]
end Go.Proofs.YtnbjhdlnibmgdaaDoor
