/-
  The reference's Tick.
-/
import Derived.Test.YtogfblfekedefaaBagRtake
namespace Go.Proofs.Ytogfblfekedefaa
open Go.RowKit

def RTk (w : World) (K : Nat) (l : List Bm) (v i : Value) (wr : World) : Prop :=
  ∃ j : Nat, j ≤ l.length ∧ i = .int .i64 (j : Int) ∧ wr.ownsRow w.heap.size 38 4 v (tickB K (l.take j)).length (rosL bmV (tickB K (l.take j))) ∧ Below w.heap.size w wr
section
variable {w : World} {S : Nat → Prop} {A : Option Addr} {n c : Nat} {l : List Bm}
set_option maxHeartbeats 8000000 in
set_option maxRecDepth 100000 in
theorem rbtick_any (h : Ros 4 bmV w S A n c l) (hn : n ≤ 300) (ha : ∀ m ∈ l, m.a ≤ 1000) (most : Int) :
    Calls Try.prog 15 #[.slice A n c, .int .i64 most] w fun e w' => ∃ A' n' c', e = .returned (.tuple #[.slice A' n' c', .int .i64 ((n : Int) - (n' : Int))]) ∧ Ros 4 bmV w' (w.heap.size ≤ ·) A' n' c' (tickB most.toNat l) ∧ Below w.heap.size w w' := by
  have hz := zero_bm
  rw [show (#[.int .i64 0, .int .i64 0, .string ⟨#[]⟩, .int .i64 0] : Array Value) = bm0 from rfl] at hz
  have HS := Lib.hid (And.intro h (And.intro hn ha))
  clear h hn ha
  by_cases hm : most < 0
  · obtain ⟨K, hK⟩ : ∃ K, K = most.toNat := ⟨_, rfl⟩
    rw [← hK]
    have HK0 := Lib.hid (show K = 0 by omega)
    clear hK
    go_enter Try.func15, Try.ntmps15
    go_upto_region 4 with fail
    clear hm
    go_wp2_with fail
    go_loopw [6, 7] (fun v i wr => RTk w K l v i wr) (fun _ i _ => n - (intOf i).toNat)
    case atStart => exact ⟨0, Nat.zero_le _, rfl, World.ownsRow_nil _ _ _ _, Below.refl _ _⟩
    case round =>
      obtain ⟨j, hj, rfl, hown, hbel⟩ := hrel
      by_cases hlt : j < n
      · have hlt' : (j : Int) < (n : Int) := by omega
        obtain ⟨b, off, y, rfl, _, hbl, hy, hcl⟩ := HS.out.1.at_ hlt
        have hya : y.a ≤ 1000 := HS.out.2.2 y (List.mem_of_getElem? hy)
        obtain ⟨XV, hXV⟩ : ∃ XV : Array Value, XV = #[.int .i64 y.f, .int .i64 y.t, .string (st y.b), .int .i64 (y.a : Int)] := ⟨_, rfl⟩
        obtain ⟨XW, hXW⟩ : ∃ XW : Array Value, XW = #[.int .i64 y.f, .int .i64 y.t, .string (st y.b), .int .i64 ((y.a : Int) + 1)] := ⟨_, rfl⟩
        have HX : Hid ((Try.prog.info? 38).map (·.size) = some XV.size ∧ bm0.size = XV.size ∧ XV.all (·.oneCell') = true ∧ (Try.prog.info? 38).map (·.size) = some XW.size) := Lib.hid ⟨by rw [hXV]; exact bm_info, by rw [hXV]; rfl, by rw [hXV]; simp [Value.oneCell'], by rw [hXW]; exact bm_info⟩
        have hadd := IntWalk.i64_in ((y.a : Int) + 1) (by omega)
        have hadd1 := IntWalk.i64_in ((j : Int) + 1) (by have := HS.out.2.1; omega)
        have hq := heap_alloc_new wr (.cells bm0 38)
        have hcV : ∀ (i : Nat) (u : Value), XV[i]? = some u → wr.cell? ((⟨b, off + j * 4, none⟩ : Addr).add i) = some u := fun i u hu => by
          rw [add_plain, hbel.cell (p := ⟨b, off + j * 4 + i, none⟩) hbl]
          refine hcl i u ?_
          rw [hXV, List.getElem?_toArray] at hu
          exact hu
        have HC := Lib.hid (And.intro hcV hq)
        obtain ⟨w1, hw1⟩ : ∃ w1, w1 = (wr.alloc (.cells bm0 38)).setRow wr.heap.size XV := ⟨_, rfl⟩
        have hq1 : w1.heap[wr.heap.size]? = some (.cells XV 38 (0, 0)) := by rw [hw1]; exact setRow_at hq
        have hb1 : Below wr.heap.size wr w1 := by rw [hw1]; exact below_setRow ((Below.refl _ _).alloc (Nat.le_refl _) _) (Nat.le_refl _) _
        have HJ := Lib.hid (And.intro hown (And.intro hbel (And.intro hlt (And.intro hy (And.intro hq1 hb1)))))
        have HXV := Lib.hid (And.intro hXV hXW)
        clear hown hbel hlt hy hbl hcl hcV hq hq1 hb1 hya hXV hXW hj
        go_upto_region 8 with (first
          | (refine wpList_load_at (by rfl) 38 (.tmp 19) (by rfl) ⟨b, off + j * 4, none⟩ (by rfl) XV _ HC.out.1 Try.underlying38 (by rfl) HX.out.1 ?_)
          | (refine wpList_store_row (by rfl) 38 (.tmp 8) (.tmp 20) (by rfl) wr.heap.size XV (by rfl) (by rfl) 38 bm0 HC.out.2 HX.out.1 HX.out.2.1 HX.out.2.2.1 ?_))
        rw [← hw1]
        clear hw1 HC
        have hc3 : w1.cell? ⟨wr.heap.size, 3, none⟩ = some (.int .i64 (y.a : Int)) := by rw [cell_of_cells HJ.out.2.2.2.2.1, HXV.out.1]; rfl
        have hf3 := free_of_cells HJ.out.2.2.2.2.1 3
        have hq2 : (w1.setCell ⟨wr.heap.size, 3, none⟩ (.int .i64 ((y.a : Int) + 1))).heap[wr.heap.size]? = some (.cells XW 38 (0, 0)) := by
          have h := set_of_cells HJ.out.2.2.2.2.1 3 (.int .i64 ((y.a : Int) + 1))
          rw [HXV.out.1] at h
          rw [HXV.out.2]
          exact h
        have hb2 := HJ.out.2.2.2.2.2.setCell (p := ⟨wr.heap.size, 3, none⟩) (Nat.le_refl _) (.int .i64 ((y.a : Int) + 1))
        have H2 := Lib.hid (And.intro hq2 hb2)
        clear hq2 hb2
        go_upto_region 9 with fail
        clear hc3 hf3
        generalize w1.setCell ⟨wr.heap.size, 3, none⟩ (.int .i64 ((y.a : Int) + 1)) = w2 at *
        have hc3 : w2.cell? ⟨wr.heap.size, 3, none⟩ = some (.int .i64 ((y.a : Int) + 1)) := by rw [cell_of_cells H2.out.1, HXV.out.2]; rfl
        by_cases hle : y.a + 1 ≤ K
        · exact absurd HK0.out (by omega)
        · have hle' : ¬ (y.a : Int) + 1 ≤ 0 := by have := HK0.out; omega
          have hT : tickB K (l.take (j + 1)) = tickB K (l.take j) := by rw [tickB_take K l HJ.out.2.2.2.1, if_neg hle, List.append_nil]
          have HF := Lib.hid (show RTk w K l u6 (.int .i64 ((j + 1 : Nat) : Int)) w2 from ⟨j + 1, by have := HJ.out.2.2.1; have := HS.out.1.len; omega, rfl, by rw [hT]; exact row_below HJ.out.1 H2.out.2, HJ.out.2.1.trans (H2.out.2.mono HJ.out.2.1.size)⟩)
          clear hT hle
          go_wp2_with fail
          go_roundw
          case rel => simpa using HF.out
          case measure => simp only [intOf]; have := HJ.out.2.2.1; omega
      · have hlt' : ¬ (j : Int) < (n : Int) := by omega
        obtain rfl : j = n := by have := HS.out.1.len; omega
        have hlj : l.take j = l := List.take_of_length_le (by rw [HS.out.1.len]; exact Nat.le_refl _)
        rw [hlj] at hown
        obtain ⟨A3, c3, rfl, hro⟩ := own_ros bmV_len hown
        have hle3 := tickB_len K l
        rw [HS.out.1.len] at hle3
        obtain ⟨n3, hn3⟩ : ∃ n3, n3 = (tickB K l).length := ⟨_, rfl⟩
        rw [← hn3] at hro hle3 ⊢
        have hsub : IntKind.i64.wrap ((j : Int) - (n3 : Int)) = (j : Int) - (n3 : Int) := IntWalk.i64_in _ (by have := HS.out.2.1; omega)
        have HF := Lib.hid (And.intro hro hbel)
        clear hown hbel hro hn3 hlj hle3
        go_wp2_with fail
        refine bodyPost_ret (results_tmp2 rfl _ _ _) rfl ?_
        exact ⟨A3, n3, c3, rfl, HF.out.1, HF.out.2⟩
  · obtain ⟨K, rfl⟩ := Int.eq_ofNat_of_zero_le (show 0 ≤ most by omega)
    rw [show ((K : Int)).toNat = K from rfl]
    go_enter Try.func15, Try.ntmps15
    go_upto_region 4 with fail
    clear hm
    go_wp2_with fail
    go_loopw [6, 7] (fun v i wr => RTk w K l v i wr) (fun _ i _ => n - (intOf i).toNat)
    case atStart => exact ⟨0, Nat.zero_le _, rfl, World.ownsRow_nil _ _ _ _, Below.refl _ _⟩
    case round =>
      obtain ⟨j, hj, rfl, hown, hbel⟩ := hrel
      by_cases hlt : j < n
      · have hlt' : (j : Int) < (n : Int) := by omega
        obtain ⟨b, off, y, rfl, _, hbl, hy, hcl⟩ := HS.out.1.at_ hlt
        have hya : y.a ≤ 1000 := HS.out.2.2 y (List.mem_of_getElem? hy)
        obtain ⟨XV, hXV⟩ : ∃ XV : Array Value, XV = #[.int .i64 y.f, .int .i64 y.t, .string (st y.b), .int .i64 (y.a : Int)] := ⟨_, rfl⟩
        obtain ⟨XW, hXW⟩ : ∃ XW : Array Value, XW = #[.int .i64 y.f, .int .i64 y.t, .string (st y.b), .int .i64 ((y.a : Int) + 1)] := ⟨_, rfl⟩
        have HX : Hid ((Try.prog.info? 38).map (·.size) = some XV.size ∧ bm0.size = XV.size ∧ XV.all (·.oneCell') = true ∧ (Try.prog.info? 38).map (·.size) = some XW.size) := Lib.hid ⟨by rw [hXV]; exact bm_info, by rw [hXV]; rfl, by rw [hXV]; simp [Value.oneCell'], by rw [hXW]; exact bm_info⟩
        have hadd := IntWalk.i64_in ((y.a : Int) + 1) (by omega)
        have hadd1 := IntWalk.i64_in ((j : Int) + 1) (by have := HS.out.2.1; omega)
        have hq := heap_alloc_new wr (.cells bm0 38)
        have hcV : ∀ (i : Nat) (u : Value), XV[i]? = some u → wr.cell? ((⟨b, off + j * 4, none⟩ : Addr).add i) = some u := fun i u hu => by
          rw [add_plain, hbel.cell (p := ⟨b, off + j * 4 + i, none⟩) hbl]
          refine hcl i u ?_
          rw [hXV, List.getElem?_toArray] at hu
          exact hu
        have HC := Lib.hid (And.intro hcV hq)
        obtain ⟨w1, hw1⟩ : ∃ w1, w1 = (wr.alloc (.cells bm0 38)).setRow wr.heap.size XV := ⟨_, rfl⟩
        have hq1 : w1.heap[wr.heap.size]? = some (.cells XV 38 (0, 0)) := by rw [hw1]; exact setRow_at hq
        have hb1 : Below wr.heap.size wr w1 := by rw [hw1]; exact below_setRow ((Below.refl _ _).alloc (Nat.le_refl _) _) (Nat.le_refl _) _
        have HJ := Lib.hid (And.intro hown (And.intro hbel (And.intro hlt (And.intro hy (And.intro hq1 hb1)))))
        have HXV := Lib.hid (And.intro hXV hXW)
        clear hown hbel hlt hy hbl hcl hcV hq hq1 hb1 hya hXV hXW hj
        go_upto_region 8 with (first
          | (refine wpList_load_at (by rfl) 38 (.tmp 19) (by rfl) ⟨b, off + j * 4, none⟩ (by rfl) XV _ HC.out.1 Try.underlying38 (by rfl) HX.out.1 ?_)
          | (refine wpList_store_row (by rfl) 38 (.tmp 8) (.tmp 20) (by rfl) wr.heap.size XV (by rfl) (by rfl) 38 bm0 HC.out.2 HX.out.1 HX.out.2.1 HX.out.2.2.1 ?_))
        rw [← hw1]
        clear hw1 HC
        have hc3 : w1.cell? ⟨wr.heap.size, 3, none⟩ = some (.int .i64 (y.a : Int)) := by rw [cell_of_cells HJ.out.2.2.2.2.1, HXV.out.1]; rfl
        have hf3 := free_of_cells HJ.out.2.2.2.2.1 3
        have hq2 : (w1.setCell ⟨wr.heap.size, 3, none⟩ (.int .i64 ((y.a : Int) + 1))).heap[wr.heap.size]? = some (.cells XW 38 (0, 0)) := by
          have h := set_of_cells HJ.out.2.2.2.2.1 3 (.int .i64 ((y.a : Int) + 1))
          rw [HXV.out.1] at h
          rw [HXV.out.2]
          exact h
        have hb2 := HJ.out.2.2.2.2.2.setCell (p := ⟨wr.heap.size, 3, none⟩) (Nat.le_refl _) (.int .i64 ((y.a : Int) + 1))
        have H2 := Lib.hid (And.intro hq2 hb2)
        clear hq2 hb2
        go_upto_region 9 with fail
        clear hc3 hf3
        generalize w1.setCell ⟨wr.heap.size, 3, none⟩ (.int .i64 ((y.a : Int) + 1)) = w2 at *
        have hc3 : w2.cell? ⟨wr.heap.size, 3, none⟩ = some (.int .i64 ((y.a : Int) + 1)) := by rw [cell_of_cells H2.out.1, HXV.out.2]; rfl
        by_cases hle : y.a + 1 ≤ K
        · have hle' : (y.a : Int) + 1 ≤ (K : Int) := by omega
          obtain ⟨A3, c3, w3, r3, o3, b3⟩ := bm_app (w := w2.alloc (.cells XW 38)) (k := tickB K (l.take j)) (l := [{ y with a := y.a + 1 }]) (c := 1) (m := 1) (A := some ⟨w2.heap.size, 0, none⟩) (row_below HJ.out.1 (H2.out.2.alloc H2.out.2.size _)) (by have h1 := H2.out.2.size; have h2 := HJ.out.2.1.size; simp; omega) rfl (by
            have := bm_hat w2 { y with a := y.a + 1 }
            rw [HXV.out.2]
            simpa using this) (by have h1 := tickB_len K (l.take j); rw [List.length_take] at h1; have h2 := HS.out.2.1; have h3 := HS.out.1.len; omega) 28
          have hT : tickB K (l.take (j + 1)) = tickB K (l.take j) ++ [{ y with a := y.a + 1 }] := by rw [tickB_take K l HJ.out.2.2.2.1, if_pos hle]
          rw [← hT] at o3 r3
          obtain ⟨n0, hn0⟩ : ∃ n0, n0 = (tickB K (l.take j)).length := ⟨_, rfl⟩
          obtain ⟨n3, hn3⟩ : ∃ n3, n3 = (tickB K (l.take (j + 1))).length := ⟨_, rfl⟩
          rw [← hn3] at r3 o3
          have HR3 := Lib.hid r3
          have HLT := Lib.hid (bm_lit w2 y.f y.t ((y.a : Int) + 1) (st y.b))
          rw [← HXV.out.2] at HLT
          have HF := Lib.hid (show RTk w K l (.slice A3 n3 c3) (.int .i64 ((j + 1 : Nat) : Int)) w3 from ⟨j + 1, by have := HJ.out.2.2.1; have := HS.out.1.len; omega, rfl, by rw [← hn3]; exact o3, HJ.out.2.1.trans ((H2.out.2.trans ((Below.refl wr.heap.size w2).alloc H2.out.2.size _)).mono HJ.out.2.1.size |>.trans b3)⟩)
          clear r3 o3 b3 hT hn0 hn3 hle
          go_upto_region 10 with fail
          go_wp2_with (first
            | (refine wpList_load_row (by rfl) 38 (.tmp 8) (by rfl) wr.heap.size (by rfl) 38 XW (0, 0) _ H2.out.1 Try.underlying38 (by rfl) HX.out.2.2.2 ?_)
            | (refine wpList_ros1 28 (.tmp 30) HLT.out ?_)
            | (at_builtin; refine wpList_app (by rfl) (.tmp 29) (.tmp 31) 28 (by rfl) (by rfl) (by rfl) HR3.out ?_))
          go_roundw
          case rel => simpa using HF.out
          case measure => simp only [intOf]; have := HJ.out.2.2.1; omega
        · have hle' : ¬ (y.a : Int) + 1 ≤ (K : Int) := by omega
          have hT : tickB K (l.take (j + 1)) = tickB K (l.take j) := by rw [tickB_take K l HJ.out.2.2.2.1, if_neg hle, List.append_nil]
          have HF := Lib.hid (show RTk w K l u6 (.int .i64 ((j + 1 : Nat) : Int)) w2 from ⟨j + 1, by have := HJ.out.2.2.1; have := HS.out.1.len; omega, rfl, by rw [hT]; exact row_below HJ.out.1 H2.out.2, HJ.out.2.1.trans (H2.out.2.mono HJ.out.2.1.size)⟩)
          clear hT hle
          go_wp2_with fail
          go_roundw
          case rel => simpa using HF.out
          case measure => simp only [intOf]; have := HJ.out.2.2.1; omega
      · have hlt' : ¬ (j : Int) < (n : Int) := by omega
        obtain rfl : j = n := by have := HS.out.1.len; omega
        have hlj : l.take j = l := List.take_of_length_le (by rw [HS.out.1.len]; exact Nat.le_refl _)
        rw [hlj] at hown
        obtain ⟨A3, c3, rfl, hro⟩ := own_ros bmV_len hown
        have hle3 := tickB_len K l
        rw [HS.out.1.len] at hle3
        obtain ⟨n3, hn3⟩ : ∃ n3, n3 = (tickB K l).length := ⟨_, rfl⟩
        rw [← hn3] at hro hle3 ⊢
        have hsub : IntKind.i64.wrap ((j : Int) - (n3 : Int)) = (j : Int) - (n3 : Int) := IntWalk.i64_in _ (by have := HS.out.2.1; omega)
        have HF := Lib.hid (And.intro hro hbel)
        clear hown hbel hro hn3 hlj hle3
        go_wp2_with fail
        refine bodyPost_ret (results_tmp2 rfl _ _ _) rfl ?_
        exact ⟨A3, n3, c3, rfl, HF.out.1, HF.out.2⟩
end
end Go.Proofs.Ytogfblfekedefaa
