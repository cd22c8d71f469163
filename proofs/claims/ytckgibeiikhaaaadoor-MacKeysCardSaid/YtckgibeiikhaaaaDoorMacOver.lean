/-
  mac.over: a key and noughts behind it, each byte xor one.
-/
import Derived.Test.YtckgibeiikhaaaaDoorMacPure
import Derived.Test.YtckgibeiikhaaaaDoorGrowSto
namespace Go.Proofs.YtckgibeiikhaaaaDoor
open Go.RowKit

def zeros64b : Array Value := row8 (List.replicate 64 0)
theorem zero_b64 : ∀ W, (zeroValue 46).run Tryd.prog W = .ok (.agg zeros64b) W := fun W => by unfold zeros64b row8; kernel_rfl
theorem b64_info : (Tryd.prog.info? 46).map (·.size) = some 64 := by kernel_rfl
theorem key_info : (Tryd.prog.info? 23).map (·.size) = some 32 := by kernel_rfl

def Ovr (w : World) (q : Nat) (k : List UInt8) (x : UInt8) (i : Value) (wr : World) : Prop := ∃ j : Nat, j ≤ 64 ∧ i = .int .i64 j ∧ Below w.heap.size w wr ∧ wr.heap[q]? = some (.cells zeros64b 46 (0, 0)) ∧ wr.heap[q + 1]? = some (.cells (row8 (ovrA (keyB k) x j)) 46 (0, 0))

set_option maxHeartbeats 4000000 in
set_option maxRecDepth 100000 in
theorem over_any (k : List UInt8) (hk : k.length = 32) (x : UInt8) (w : World) :
    Calls Tryd.prog 19 #[.agg (row8 k), .int .u8 (x.toNat : Int)] w fun e w' => e = .returned (.agg (row8 (ovr k x))) ∧ Below w.heap.size w w' := by
  have hz := zero_b64
  obtain ⟨KS, hKS⟩ : ∃ KS, KS = row8 k := ⟨_, rfl⟩
  rw [← hKS]
  have HK := Lib.hid hKS
  go_enter Tryd.func19, Tryd.ntmps19
  go_wp2_with fail
  have HK0 : Hid ((((w.alloc (.cells (row8 k) 23)).alloc (.cells zeros64b 46)).alloc (.cells zeros64b 46)).heap[w.heap.size]? = some (.cells (row8 k) 23 (0, 0))) := Lib.hid (by
    refine (Below.heap_alloc _ _ _ (by simp; omega)).trans ((Below.heap_alloc _ _ _ (by simp)).trans (heap_alloc_new w _)))
  have HK1 : Hid ((((w.alloc (.cells (row8 k) 23)).alloc (.cells zeros64b 46)).alloc (.cells zeros64b 46)).heap[w.heap.size + 1]? = some (.cells zeros64b 46 (0, 0))) := Lib.hid (by
    refine (Below.heap_alloc _ _ _ (by simp)).trans ?_
    have := heap_alloc_new (w.alloc (.cells (row8 k) 23)) (.cells zeros64b 46)
    simpa using this)
  have HK2 : Hid ((((w.alloc (.cells (row8 k) 23)).alloc (.cells zeros64b 46)).alloc (.cells zeros64b 46)).heap[w.heap.size + 2]? = some (.cells zeros64b 46 (0, 0))) := Lib.hid (by
    have := heap_alloc_new ((w.alloc (.cells (row8 k) 23)).alloc (.cells zeros64b 46)) (.cells zeros64b 46)
    simpa using this)
  have HB : Hid (Below w.heap.size w (((w.alloc (.cells (row8 k) 23)).alloc (.cells zeros64b 46)).alloc (.cells zeros64b 46))) := Lib.hid ((((Below.refl _ _).alloc (Nat.le_refl _) _).alloc (by simp) _).alloc (by simp; omega) _)
  have hs2 : w.heap.size + 1 + 1 = w.heap.size + 2 := rfl
  simp only [hs2]
  generalize ((w.alloc (.cells (row8 k) 23)).alloc (.cells zeros64b 46)).alloc (.cells zeros64b 46) = w1 at *
  have HLT : Hid (w.heap.size + 2 < w1.heap.size) := Lib.hid (lt_of_cells HK2.out)
  clear hs2 hz
  refine wp_region_grow (Sto (w.heap.size + 2) (.cells (row8 (keyB k)) 46 (0, 0))) (Grow.nth [fun v _ => v = .slice (some ⟨w.heap.size + 2, 0, none⟩) 64 64, fun v _ => v = .slice (some ⟨w.heap.size, 0, none⟩) 32 32, fun _ W => W.heap[w.heap.size + 2]? = some (.cells (row8 (keyB k)) 46 (0, 0))]) 21 (by kernel_rfl) (by kernel_rfl) (by rfl) (Sto.refl _ _) (fun _ _ _ h1 h2 => h1.trans h2) (Grow.mono_nth ?gmono) ?gsteps ?gfin
  case gmono => exact ⟨fun _ _ _ h _ => h, fun _ _ _ h _ => h, fun _ _ _ h g => g.keeps h, trivial⟩
  case gsteps =>
    show Grow.allBelow _ 3
    refine And.intro ?_ ?s2
    refine And.intro ?_ ?s1
    refine And.intro ?_ ?s0
    exact trivial
    case s0 =>
      refine Grow.step_in (by rfl) (by rfl) ?_
      intro E W ec eg ef hG hd hu R HR
      have e5 : E (.tmp 5) = .pointer (some ⟨w.heap.size + 2, 0, none⟩) := hu 5 (by kernel_rfl)
      clear hd hu
      go_simp
      exact HR.out _ _ (Sto.refl _ _ _) rfl
    case s1 =>
      refine Grow.step_in (by rfl) (by rfl) ?_
      intro E W ec eg ef hG hd hu R HR
      have e2 : E (.tmp 2) = .pointer (some ⟨w.heap.size, 0, none⟩) := hu 2 (by kernel_rfl)
      clear hd hu
      go_simp
      exact HR.out _ _ (Sto.refl _ _ _) rfl
    case s2 =>
      refine Grow.step_in (by rfl) (by rfl) ?_
      intro E W ec eg ef hG hd hu R HR
      have e7 : E (.tmp 7) = .slice (some ⟨w.heap.size + 2, 0, none⟩) 64 64 := hd 0 7 (by kernel_rfl)
      have e8 : E (.tmp 8) = .slice (some ⟨w.heap.size, 0, none⟩) 32 32 := hd 1 8 (by kernel_rfl)
      clear hd hu
      go_simp
      obtain ⟨ds, hds, hdo⟩ := hG.old (os := zeros64b) HK2.out
      have h0 : W.heap[w.heap.size]? = some (.cells (row8 k) 23 (0, 0)) := (hG.turned.block _ (by have := HLT.out; show _ < w1.heap.size; omega) (by omega)).trans HK0.out
      have hsz : ds.size = 64 := by
        rcases hdo with rfl | rfl
        · rfl
        · rw [row8_size, keyB_length hk]
      have hdr : ds.toList.drop 32 = u8s (List.replicate 32 0) := by
        rcases hdo with rfl | rfl
        · rfl
        · rw [row8, keyB, u8s_append, List.toList_toArray, List.drop_append_of_le_length (by rw [u8s_length]; omega), List.drop_of_length_le (by rw [u8s_length]; omega), List.nil_append]
      rw [run_copy_row Tryd.prog W 26 26 3 5 (w.heap.size + 2) 0 64 64 ⟨w.heap.size, 0, none⟩ 32 32 ds 46 (u8s k) Tryd.underlying26 (by kernel_rfl) hds (by rw [u8s_length, hk]; rfl) (fun j v hj => by
        rw [add_plain, cell_of_cells h0, Nat.zero_add, row8, List.getElem?_toArray]; exact hj) (by rw [u8s_length]; omega) (u8s_one k)]
      have hrow : (ds.toList.take 0 ++ u8s k ++ ds.toList.drop (0 + (u8s k).length)).toArray = row8 (keyB k) := by
        rw [u8s_length, hk, Nat.zero_add, hdr, row8, keyB, u8s_append]; rfl
      rw [hrow]
      exact HR.out _ _ (Sto.store hds) (setRow_at hds)
  case gfin =>
    intro W hG
    refine Grow.fin_dst (by rfl) ?_
    rintro _ rfl
    refine Grow.fin_dst (by rfl) ?_
    rintro _ rfl
    refine Grow.fin_dst (by rfl) ?_
    rintro v9 hK
    simp only [Act.put, List.setIfInBounds_toArray, List.set_cons_zero, List.set_cons_succ]
    refine Grow.fin_end ?_
    have HG : Hid (Below w.heap.size w W ∧ W.heap[w.heap.size + 1]? = some (.cells zeros64b 46 (0, 0)) ∧ W.heap[w.heap.size + 2]? = some (.cells (row8 (ovrA (keyB k) x 0)) 46 (0, 0))) := Lib.hid
      ⟨HB.out.trans ((hG.of_drew.turned.mono (T := (w.heap.size ≤ ·)) fun b _ hb => by omega).below HB.out.size), (hG.of_drew.turned.block _ (by have := HLT.out; omega) (by omega)).trans HK1.out, hK⟩
    clear hG hK
    go_wp2_with fail
    go_loopw [6, 10] (fun _ i wr => Ovr w (w.heap.size + 1) k x i wr) (fun _ i _ => 64 - (intOf i).toNat)
    case atStart => unfold Ovr; exact ⟨0, Nat.zero_le _, rfl, HG.out⟩
    case round =>
      obtain ⟨j, hj, rfl, hbr, h1, h2⟩ := hrel
      have HR := Lib.hid (And.intro hbr h1)
      by_cases hlt : j < 64
      · have hb64 := keyB_length hk
        have hcell := u8s_cell h2 j (by rw [ovrA_length]; omega)
        rw [ovrA_at] at hcell
        have hfree := free_of_cells h2 j
        have hE := Lib.hid (show ovrA (keyB k) x (j + 1) = (ovrA (keyB k) x j).set j ((keyB k)[j]?.getD 0 ^^^ x) from rfl)
        have hx := xor8 ((keyB k)[j]?.getD 0) x
        generalize (keyB k)[j]?.getD 0 = y at *
        have H2 := Lib.hid h2
        clear h1 h2 hbr hb64
        go_wp2_with fail
        go_roundw
        case rel =>
          unfold Ovr
          refine ⟨j + 1, by omega, by go_num, HR.out.1.setCell (by simp) _, (Below.heap_setCell _ _ _ _ (by simp)).trans HR.out.2, ?_⟩
          rw [row8, hE.out]
          have hset := u8s_cells_set H2.out j (y ^^^ x)
          rw [UInt8.toNat_xor] at hset
          exact hset
        case measure => simp [intOf]; omega
      · obtain rfl : j = 64 := by omega
        have hsz : (row8 (ovrA (keyB k) x 64)).size = 64 := by rw [row8_size, ovrA_length, keyB_length hk]
        obtain ⟨RS, hRS⟩ : ∃ RS, RS = row8 (ovrA (keyB k) x 64) := ⟨_, rfl⟩
        have HA := Lib.hid (show RS.all (·.oneCell') = true by rw [hRS]; exact row8_one _)
        rw [← hRS] at h2 hsz
        have H2 := Lib.hid h2
        have HS := Lib.hid hsz
        have HRS := Lib.hid hRS
        clear h1 h2 hbr hRS hsz hlt hj
        go_wp2_with (first | (refine wpList_load_row (by rfl) 46 (.tmp 5) (by rfl) (w.heap.size + 2) (by rfl) 46 RS (0, 0) _ H2.out Tryd.underlying46 (by rfl) (by rw [HS.out]; exact b64_info) ?_) | (refine wpList_store_row (by rfl) 46 (.tmp 4) (.tmp 20) (by rfl) (w.heap.size + 1) RS (by rfl) (by rfl) 46 _ HR.out.2 (by rw [HS.out]; exact b64_info) (by rw [HS.out]; rfl) HA.out ?_))
        exact bodyPost_ret (results_cell_row rfl _ _ (w.heap.size + 1) 46 RS (0, 0) _ rfl (setRow_at HR.out.2) Tryd.underlying46 rfl (by rw [HS.out]; exact b64_info)) rfl ⟨by rw [HRS.out]; rfl, below_setRow HR.out.1 (by omega) _⟩
end Go.Proofs.YtckgibeiikhaaaaDoor
