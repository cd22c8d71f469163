/-
  The code's bag: For.
-/
import Derived.Test.YtogfblfekedefaaBagTake
namespace Go.Proofs.Ytogfblfekedefaa
open Go.RowKit

theorem bgi_info : (Try.prog.info? 3).map (fun i => (i.zero, i.size, i.bytes)) = some (some (.int .i64 0), 1, 8) := by kernel_rfl
theorem natV_len (i : Nat) : (natV i).length = 1 := rfl
theorem natV_one (i : Nat) : ∀ u ∈ natV i, u.oneCell' = true := by
  intro u hu
  simp [natV] at hu
  subst hu
  rfl
theorem natV_lit (w : World) (j : Nat) : (Instr.buildSlice 48 1 #[(0, .int .i64 (j : Int))]).run Try.prog w = .ok (.slice (some ⟨w.heap.size, 0, none⟩) 1 1) (w.alloc (.cells #[.int .i64 (j : Int)] 3)) := by
  obtain ⟨i0, hi, hz0, hz1, _⟩ := info_parts bgi_info
  refine run_buildSlice w 48 3 1 #[(0, .int .i64 (j : Int))] #[.int .i64 (j : Int)] i0 (.int .i64 0) Try.underlying48 hi hz0 (by rw [hz1]; omega) (by rw [hz1]; omega) ?_
  rw [hz1]
  have hm : ((Array.range (1 * 1)).map fun x => (Value.int .i64 0).cells[x % (Value.int .i64 0).cells.size]!) = #[.int .i64 0] := by kernel_rfl
  rw [hm]
  simp [Instr.fill, Value.cells]
/-- The indices so far. -/
def forJ (l : List Bm) (t : Int) (j : Nat) : List Nat := (List.range j).filter (isB l t)
theorem forJ_succ (l : List Bm) (t : Int) (j : Nat) : forJ l t (j + 1) = forJ l t j ++ if isB l t j = true then [j] else [] := by
  unfold forJ
  rw [List.range_succ, List.filter_append]
  by_cases h : isB l t j = true
  · rw [List.filter_cons_of_pos h, if_pos h]; rfl
  · rw [List.filter_cons_of_neg h, if_neg h]; rfl
theorem forJ_len (l : List Bm) (t : Int) (j : Nat) : (forJ l t j).length ≤ j := by
  have := List.length_filter_le (isB l t) (List.range j)
  rw [List.length_range] at this
  exact this
def RFo (w : World) (l : List Bm) (t : Int) (v i : Value) (wr : World) : Prop :=
  ∃ j : Nat, j ≤ l.length ∧ i = .int .i64 (j : Int) ∧ wr.ownsRow w.heap.size 3 1 v (forJ l t j).length (rosL natV (forJ l t j)) ∧ Below w.heap.size w wr
set_option maxHeartbeats 4000000 in
set_option maxRecDepth 100000 in
theorem bgfor_nil (w : World) (t : Int) : Calls Try.prog 17 #[.pointer none, .int .i64 t] w fun e w' => ∃ A c, e = .returned (.slice A 0 c) ∧ Below w.heap.size w w' := by
  go_enter Try.func17, Try.ntmps17
  go_wp2_with fail
  go_ret
  exact ⟨none, 0, rfl, Below.refl _ _⟩
set_option maxHeartbeats 8000000 in
set_option maxRecDepth 100000 in
theorem bgfor_any {w : World} {S : Nat → Prop} {p N : Nat} {l : List Bm} (h : Bgs w S p N l) (t : Int) :
    Calls Try.prog 17 #[.pointer (some ⟨p, 0, none⟩), .int .i64 t] w fun e w' => ∃ A c, e = .returned (.slice A (forB l t).length c) ∧ Ros 1 natV w' (w.heap.size ≤ ·) A (forB l t).length c (forB l t) ∧ Below w.heap.size w w' := by
  obtain ⟨v, xs, rfl, hSp, hbox, hams, hlim⟩ := h
  obtain ⟨AV, c0, rfl, _, _⟩ := hams.slice
  have hc1 : w.cell? ⟨p, 1, none⟩ = some (.slice AV xs.length c0) := cell_of_cells hbox 1
  have hza := zero_ag
  obtain ⟨Z0, hZ0⟩ : ∃ Z0, Z0 = agV 0 0 none 0 0 0 := ⟨_, rfl⟩
  rw [← hZ0] at hza
  have hfew := hlim.2.2.1
  have hml : (xs.map Am.m).length = xs.length := List.length_map ..
  have HH := Lib.hid (And.intro hams (And.intro hfew (And.intro hml hZ0)))
  clear hSp hbox hams hlim hfew hZ0 hml
  obtain ⟨L, hL⟩ : ∃ L, L = xs.length := ⟨_, rfl⟩
  rw [← hL] at hc1
  have HL := Lib.hid hL
  clear hL
  obtain ⟨l, hl⟩ : ∃ l, l = xs.map Am.m := ⟨_, rfl⟩
  rw [← hl] at HH ⊢
  have HM := Lib.hid hl
  clear hl
  go_enter Try.func17, Try.ntmps17
  go_upto_region 5 with fail
  clear hc1
  go_loopw [5, 15] (fun v i wr => RFo w l t v i wr) (fun _ i _ => L - (intOf i).toNat)
  case atStart => exact ⟨0, Nat.zero_le _, rfl, World.ownsRow_nil _ _ _ _, Below.refl _ _⟩
  case round =>
    obtain ⟨j, hj, rfl, hown, hbel⟩ := hrel
    by_cases hlt : j < L
    · have hlt' : (j : Int) < (L : Int) := by omega
      obtain ⟨x, hx⟩ : ∃ x, xs[j]? = some x := ⟨_, List.getElem?_eq_getElem (by rw [← HL.out]; exact hlt)⟩
      obtain ⟨g, c1, hv, _, hgl, _, _, _, hcl⟩ := HH.out.1.at_ hx
      injection hv with hA _ hc
      subst hA hc
      obtain ⟨XV, hXV⟩ : ∃ XV, XV = agV x.m.f x.m.t x.A x.n x.c x.m.a := ⟨_, rfl⟩
      have hxl : l[j]? = some x.m := by rw [HM.out, List.getElem?_map, hx]; rfl
      have HX := Lib.hid (show (Try.prog.info? 60).map (·.size) = some XV.size ∧ Z0.size = XV.size ∧ XV.all (·.oneCell') = true from ⟨by rw [hXV]; exact ag_info _ _ _ _ _ _, by rw [HH.out.2.2.2, hXV]; rfl, by rw [hXV]; exact ag_one _ _ _ _ _ _⟩)
      have hcV : ∀ (i : Nat) (u : Value), XV[i]? = some u → wr.cell? ((⟨g, j * 4, none⟩ : Addr).add i) = some u := fun i u hu => by
        rw [add_plain, hbel.cell (p := ⟨g, _, none⟩) hgl]
        refine hcl i u ?_
        rw [hXV] at hu
        simpa [agV, amC] using hu
      have hq := heap_alloc_new wr (.cells Z0 60)
      obtain ⟨w1, hw1⟩ : ∃ w1, w1 = (wr.alloc (.cells Z0 60)).setRow wr.heap.size XV := ⟨_, rfl⟩
      have hq1 : w1.heap[wr.heap.size]? = some (.cells XV 60 (0, 0)) := by rw [hw1]; exact setRow_at hq
      have hb1 : Below wr.heap.size wr w1 := by rw [hw1]; exact below_setRow ((Below.refl _ _).alloc (Nat.le_refl _) _) (Nat.le_refl _) _
      have HC := Lib.hid (And.intro hcV hq)
      have hadd1 := IntWalk.i64_in ((j : Int) + 1) (by have := HH.out.2.1; omega)
      have hct : w1.cell? ⟨wr.heap.size, 1, none⟩ = some (.int .i64 x.m.t) := by rw [cell_of_cells hq1, hXV]; rfl
      have HJ := Lib.hid (And.intro (row_below hown hb1) (And.intro (hbel.trans (hb1.mono hbel.size)) (And.intro hlt hxl)))
      obtain ⟨A3, c3, hv3, _⟩ := row_slice hown
      subst hv3
      clear hown hbel hlt hcl hcV hq hq1 hb1 hXV hj hx hgl hxl
      go_upto_region 7 with (first
        | (refine wpList_load_at (by rfl) 60 (.tmp 18) (by rfl) ⟨g, j * 4, none⟩ (by rfl) XV _ HC.out.1 Try.underlying60 (by rfl) HX.out.1 ?_)
        | (refine wpList_store_row (by rfl) 60 (.tmp 7) (.tmp 19) (by rfl) wr.heap.size XV (by rfl) (by rfl) 60 Z0 HC.out.2 HX.out.1 HX.out.2.1 HX.out.2.2 ?_))
      rw [← hw1]
      clear hw1 HC
      have hlt2 : j < L := HJ.out.2.2.1
      have hb5 := isB_eq (t := t) HJ.out.2.2.2
      by_cases ht : x.m.t = t
      · have hbt : (x.m.t == t) = true := by simpa using ht
        have hJ1 : forJ l t (j + 1) = forJ l t j ++ [j] := by rw [forJ_succ, hb5, decide_eq_true ht]; rfl
        have hlit := natV_lit w1 j
        obtain ⟨i0, hi0, hz0, hz1, hz2⟩ := info_parts bgi_info
        have hal : Below w1.heap.size w1 (w1.alloc (.cells #[.int .i64 (j : Int)] 3)) := (Below.refl _ _).alloc (Nat.le_refl _) _
        have hlen := forJ_len l t j
        obtain ⟨A4, c4, w4, happ, hown4, hb4⟩ := ros_app (te := 3) (ts := 48) Try.underlying48 hi0 hz0 hz1 hz2 rfl (by decide) (by decide) natV_len natV_one (row_below HJ.out.1 hal) (Nat.le_trans HJ.out.2.1.size hal.size) (A := some ⟨w1.heap.size, 0, none⟩) (m := 1) (c := 1) (l := [j]) rfl (fun _ => ⟨_, rfl, fun i u hu => by
          rw [add_plain, Nat.zero_add, cell_of_cells (heap_alloc_new w1 _)]
          simpa [rosL, natV] using hu⟩) (by have := HH.out.2.1; have := HH.out.2.2.1; have := HL.out; omega) 48
        have HF := Lib.hid (show RFo w l t (.slice A4 (forJ l t j ++ [j]).length c4) (.int .i64 ((j + 1 : Nat) : Int)) w4 from ⟨j + 1, by have := HH.out.2.2.1; have := HL.out; omega, rfl, by rw [hJ1]; exact hown4, (HJ.out.2.1.trans (hal.mono HJ.out.2.1.size)).trans hb4⟩)
        clear hJ1 hal hown4 hb4 hlen hlt2 hb5 ht hi0 hz0 hz1 hz2
        go_wp2_with (first
          | (refine wpList_ros1 48 (.tmp 26) hlit ?_)
          | (refine wpList_app (by rfl) (.tmp 25) (.tmp 27) 48 (by rfl) (by rfl) (by rfl) happ ?_))
        go_roundw
        case rel => simpa using HF.out
        case measure => simp only [intOf]; have := HJ.out.2.2.1; omega
      · have hbt : (x.m.t == t) = false := by simpa using ht
        have hJ1 : forJ l t (j + 1) = forJ l t j := by rw [forJ_succ, hb5, decide_eq_false ht]; simp
        have HF := Lib.hid (show RFo w l t (.slice A3 (forJ l t j).length c3) (.int .i64 ((j + 1 : Nat) : Int)) w1 from ⟨j + 1, by have := HH.out.2.2.1; have := HL.out; omega, rfl, by rw [hJ1]; exact HJ.out.1, HJ.out.2.1⟩)
        clear hJ1 hlt2 hb5 ht
        go_wp2_with fail
        go_roundw
        case rel => simpa using HF.out
        case measure => simp only [intOf]; have := HJ.out.2.2.1; omega
    · have hlt' : ¬ (j : Int) < (L : Int) := by omega
      obtain rfl : j = L := by have := HH.out.2.2.1; have := HL.out; omega
      have hJ : forJ l t j = forB l t := by rw [HL.out, ← HH.out.2.2.1]; rfl
      rw [hJ] at hown
      obtain ⟨A3, c3, rfl, hro⟩ := own_ros natV_len hown
      have HF := Lib.hid (And.intro hro hbel)
      clear hown hbel hro hJ
      generalize hn : (forB l t).length = n at *
      go_wp2_with fail
      go_ret
      exact ⟨A3, c3, rfl, HF.out.1, HF.out.2⟩
end Go.Proofs.Ytogfblfekedefaa
