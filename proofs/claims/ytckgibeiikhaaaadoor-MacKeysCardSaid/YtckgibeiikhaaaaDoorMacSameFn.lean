/-
  mac.Same and mac.low.
-/
import Derived.Test.YtckgibeiikhaaaaDoorMacOver
import Derived.BigQuiet
namespace Go.Proofs.YtckgibeiikhaaaaDoor
open Go.RowKit

def Sam (w : World) (a b : List UInt8) (u i : Value) (wr : World) : Prop := ∃ j : Nat, j ≤ 32 ∧ i = .int .i64 j ∧ u = .int .u8 ((unl a b j).toNat : Int) ∧ Below w.heap.size w wr ∧ wr.heap[w.heap.size]? = some (.cells (row8 a) 27 (0, 0)) ∧ wr.heap[w.heap.size + 1]? = some (.cells (row8 b) 27 (0, 0))

set_option maxHeartbeats 4000000 in
set_option maxRecDepth 100000 in
theorem same_any (a b : List UInt8) (ha : a.length = 32) (hb : b.length = 32) (w : World) :
    Calls Tryd.prog 13 #[.agg (row8 a), .agg (row8 b)] w fun e w' => e = .returned (.bool (decide (a = b))) ∧ Below w.heap.size w w' := by
  obtain ⟨AS, hAS⟩ : ∃ AS, AS = row8 a := ⟨_, rfl⟩
  obtain ⟨BS, hBS⟩ : ∃ BS, BS = row8 b := ⟨_, rfl⟩
  rw [← hAS, ← hBS]
  have HAB := Lib.hid (And.intro hAS hBS)
  clear hAS hBS
  go_enter Tryd.func13, Tryd.ntmps13
  go_wp2_with fail
  have HG : Hid (Below w.heap.size w ((w.alloc (.cells AS 27)).alloc (.cells BS 27)) ∧ ((w.alloc (.cells AS 27)).alloc (.cells BS 27)).heap[w.heap.size]? = some (.cells (row8 a) 27 (0, 0)) ∧ ((w.alloc (.cells AS 27)).alloc (.cells BS 27)).heap[w.heap.size + 1]? = some (.cells (row8 b) 27 (0, 0))) := Lib.hid
    ⟨((Below.refl _ _).alloc (Nat.le_refl _) _).alloc (by simp) _, by rw [← HAB.out.1]; exact (Below.heap_alloc _ _ _ (by simp)).trans (heap_alloc_new w _), by
      rw [← HAB.out.2]
      have := heap_alloc_new (w.alloc (.cells AS 27)) (.cells BS 27)
      simpa using this⟩
  generalize (w.alloc (.cells AS 27)).alloc (.cells BS 27) = w1 at *
  go_loopw [5, 6, 7] (fun u _ i wr => Sam w a b u i wr) (fun _ _ i _ => 32 - (intOf i).toNat)
  case atStart => unfold Sam; exact ⟨0, Nat.zero_le _, rfl, rfl, HG.out⟩
  case round =>
    obtain ⟨j, hj, rfl, rfl, hbr, h1, h2⟩ := hrel
    have HR := Lib.hid (And.intro hbr (And.intro h1 h2))
    by_cases hlt : j < 32
    · have ca : ∀ n, (wr.drewN n).cell? ⟨w.heap.size, j, none⟩ = some (.int .u8 ((a[j]?.getD 0).toNat : Int)) := fun _ => u8s_cell h1 j (by omega)
      have cb : ∀ n, (wr.drewN n).cell? ⟨w.heap.size + 1, j, none⟩ = some (.int .u8 ((b[j]?.getD 0).toNat : Int)) := fun _ => u8s_cell h2 j (by omega)
      have hE := Lib.hid (show unl a b (j + 1) = unl a b j ||| ((a[j]?.getD 0) ^^^ (b[j]?.getD 0)) from rfl)
      have hx := xor8 (a[j]?.getD 0) (b[j]?.getD 0)
      have ho := or8 (unl a b j) (a[j]?.getD 0 ^^^ b[j]?.getD 0)
      generalize a[j]?.getD 0 = x at *
      generalize b[j]?.getD 0 = y at *
      generalize unl a b j = z at *
      obtain ⟨v, hv⟩ : ∃ v, v = z ||| (x ^^^ y) := ⟨_, rfl⟩
      rw [← hv] at hE ho
      simp only [UInt8.toNat_xor] at ho
      clear h1 h2 hbr hv
      go_wp2_with fail
      go_quiet (fail)
      generalize hw2 : World.drewN wr _ = w2
      have HR2 : Hid (Below w.heap.size w w2 ∧ w2.heap[w.heap.size]? = some (.cells (row8 a) 27 (0, 0)) ∧ w2.heap[w.heap.size + 1]? = some (.cells (row8 b) 27 (0, 0))) := Lib.hid (by subst hw2; exact ⟨below_drewN HR.out.1 _, HR.out.2⟩)
      clear hw2 ca cb
      go_wp2_with fail
      go_roundw
      case rel => unfold Sam; exact ⟨j + 1, by omega, by go_num, by rw [hE.out], HR2.out⟩
      case measure => simp [intOf]; omega
    · obtain rfl : j = 32 := by omega
      have hu := unl_all ha hb
      have hd : ((unl a b 32).toNat = 0) ↔ a = b := by
        rw [← hu]
        exact ⟨fun h => UInt8.toNat.inj h, fun h => by rw [h]; rfl⟩
      generalize unl a b 32 = z at *
      clear h1 h2 hu
      have HD := Lib.hid hd
      clear hd
      go_wp2_with fail
      go_ret
      refine ⟨?_, hbr⟩
      have hdd : ((z.toNat : Int) == 0) = decide (a = b) := by
        by_cases hab : a = b
        · have := HD.out.2 hab
          simp [hab, this]
        · have h0 : ¬ z.toNat = 0 := fun h => hab (HD.out.1 h)
          have h1 : ((z.toNat : Int) == 0) = false := by simpa using (show ¬ ((z.toNat : Nat) : Int) = 0 by omega)
          rw [h1]; simp [hab]
      rw [hdd]
      rfl

def zeros8b : Array Value := row8 (List.replicate 8 0)
theorem zero_b8 : ∀ W, (zeroValue 43).run Tryd.prog W = .ok (.agg zeros8b) W := fun W => by unfold zeros8b row8; kernel_rfl
theorem b8_info : (Tryd.prog.info? 43).map (·.size) = some 8 := by kernel_rfl
def Lw (w : World) (n : Nat) (i : Value) (wr : World) : Prop := ∃ j : Nat, j ≤ 8 ∧ i = .int .i64 j ∧ Below w.heap.size w wr ∧ wr.heap[w.heap.size]? = some (.cells zeros8b 43 (0, 0)) ∧ wr.heap[w.heap.size + 1]? = some (.cells (row8 (le8A n j)) 43 (0, 0))

set_option maxHeartbeats 4000000 in
set_option maxRecDepth 100000 in
theorem mlow_any (n : Nat) (w : World) :
    Calls Tryd.prog 17 #[.int .u64 (n : Int)] w fun e w' => e = .returned (.agg (row8 (le8 n 8))) ∧ Below w.heap.size w w' := by
  have hz := zero_b8
  go_enter Tryd.func17, Tryd.ntmps17
  go_wp2_with fail
  have HG : Hid (Below w.heap.size w ((w.alloc (.cells zeros8b 43)).alloc (.cells zeros8b 43)) ∧ ((w.alloc (.cells zeros8b 43)).alloc (.cells zeros8b 43)).heap[w.heap.size]? = some (.cells zeros8b 43 (0, 0)) ∧ ((w.alloc (.cells zeros8b 43)).alloc (.cells zeros8b 43)).heap[w.heap.size + 1]? = some (.cells (row8 (le8A n 0)) 43 (0, 0))) := Lib.hid
    ⟨((Below.refl _ _).alloc (Nat.le_refl _) _).alloc (by simp) _, (Below.heap_alloc _ _ _ (by simp)).trans (heap_alloc_new w _), by
      have := heap_alloc_new (w.alloc (.cells zeros8b 43)) (.cells zeros8b 43)
      rw [show row8 (le8A n 0) = zeros8b from rfl]
      simpa using this⟩
  generalize (w.alloc (.cells zeros8b 43)).alloc (.cells zeros8b 43) = w1 at *
  clear hz
  go_loopw [4, 5] (fun _ i wr => Lw w n i wr) (fun _ i _ => 8 - (intOf i).toNat)
  case atStart => unfold Lw; exact ⟨0, Nat.zero_le _, rfl, HG.out⟩
  case round =>
    obtain ⟨j, hj, rfl, hbr, h1, h2⟩ := hrel
    have HR := Lib.hid (And.intro hbr h1)
    by_cases hlt : j < 8
    · have hcell := u8s_cell h2 j (by rw [le8A_length]; omega)
      have hfree := free_of_cells h2 j
      have hE := Lib.hid (show le8A n (j + 1) = (le8A n j).set j (UInt8.ofNat (n / 2 ^ (8 * j))) from rfl)
      have HB := Lib.hid (byte_mod n (8 * j))
      have H2 := Lib.hid h2
      clear h1 h2 hbr
      go_wp2
      go_roundw
      case rel =>
        unfold Lw
        refine ⟨j + 1, by omega, by go_num, HR.out.1.setCell (by simp) _, (Below.heap_setCell _ _ _ _ (by simp)).trans HR.out.2, ?_⟩
        have hset := u8s_cells_set H2.out j (UInt8.ofNat (n / 2 ^ (8 * j)))
        rw [← HB.out] at hset
        rw [row8, hE.out]
        simpa using hset
      case measure => simp [intOf]; omega
    · obtain rfl : j = 8 := by omega
      have hsz : (row8 (le8A n 8)).size = 8 := by rw [row8_size, le8A_length]
      obtain ⟨RS, hRS⟩ : ∃ RS, RS = row8 (le8A n 8) := ⟨_, rfl⟩
      have HA := Lib.hid (show RS.all (·.oneCell') = true by rw [hRS]; exact row8_one _)
      rw [← hRS] at h2 hsz
      have H2 := Lib.hid h2
      have HS := Lib.hid hsz
      have HRS := Lib.hid hRS
      clear h1 h2 hbr hRS hsz hlt hj
      go_wp2_with (first | (refine wpList_load_row (by rfl) 43 (.tmp 3) (by rfl) (w.heap.size + 1) (by rfl) 43 RS (0, 0) _ H2.out Tryd.underlying43 (by rfl) (by rw [HS.out]; exact b8_info) ?_) | (refine wpList_store_row (by rfl) 43 (.tmp 2) (.tmp 16) (by rfl) w.heap.size RS (by rfl) (by rfl) 43 _ HR.out.2 (by rw [HS.out]; exact b8_info) (by rw [HS.out]; rfl) HA.out ?_))
      exact bodyPost_ret (results_cell_row rfl _ _ w.heap.size 43 RS (0, 0) _ rfl (setRow_at HR.out.2) Tryd.underlying43 rfl (by rw [HS.out]; exact b8_info)) rfl ⟨by rw [HRS.out]; rfl, below_setRow HR.out.1 (Nat.le_refl _) _⟩
end Go.Proofs.YtckgibeiikhaaaaDoor
