/-
  Bytes out of a seed.
-/
import Derived.Test.YthndpfkgljkpcaaMade
import Derived.Test.YthndpfkgljkpcaaOwn
namespace Go.Proofs.Ythndpfkgljkpcaa
open Go.RowKit

def byteAt (s i : Nat) : UInt8 := UInt8.ofNat (s + i * 7)
def filledL (s n : Nat) : List UInt8 := (List.range n).map (byteAt s)
def mixF (s n j : Nat) : List UInt8 := (List.range n).map fun i => if i < j then byteAt s i else 0
theorem filledL_length (s n : Nat) : (filledL s n).length = n := by simp [filledL]
theorem mixF_length (s n j : Nat) : (mixF s n j).length = n := by simp [mixF]
theorem mixF_zero (s n : Nat) : mixF s n 0 = List.replicate n 0 := by
  unfold mixF
  apply List.ext_getElem
  · simp
  · intro i h1 h2
    simp
theorem mixF_all (s n : Nat) : mixF s n n = filledL s n := by
  unfold mixF filledL
  apply List.map_congr_left
  intro i hi
  rw [if_pos (List.mem_range.1 hi)]
theorem mixF_set (s n j : Nat) : (mixF s n j).set j (byteAt s j) = mixF s n (j + 1) := by
  apply List.ext_getElem
  · simp [mixF]
  · intro i h1 h2
    rw [List.getElem_set]
    simp only [mixF, List.getElem_map, List.getElem_range]
    by_cases h : j = i
    · subst h
      simp
    · rw [if_neg h]
      by_cases h3 : i < j
      · rw [if_pos h3, if_pos (by omega)]
      · rw [if_neg h3, if_neg (by omega)]
theorem byte_word (s i : Nat) (hi : i ≤ 1000) : ((s : Int) + wrap64 ((i : Int) * 7)) % 256 = ((byteAt s i).toNat : Int) := by
  rw [IntWalk.wrap64_in _ (by omega)]
  unfold byteAt
  rw [UInt8.toNat_ofNat']
  omega
def RFi (w : World) (s n : Nat) (i : Value) (wr : World) : Prop := ∃ j : Nat, j ≤ n ∧ i = .int .i64 (j : Int) ∧ wr.heap[w.heap.size]? = some (.cells (u8s (mixF s n j)).toArray 5 (0, 0)) ∧ Below w.heap.size w wr

set_option maxHeartbeats 4000000 in
theorem filled_any (s n : Nat) (hs : s < 256) (hn : n ≤ 1000) (w : World) :
    Calls Try.prog 10 #[.int .u8 (s : Int), .int .i64 (n : Int)] w fun e w' => e = .returned (.slice (some ⟨w.heap.size, 0, none⟩) n n) ∧ w'.heap[w.heap.size]? = some (.cells (u8s (filledL s n)).toArray 5 (0, 0)) ∧ Below w.heap.size w w' := by
  have hmk := make_bytes w n (by omega)
  have H0 := Lib.hid (And.intro (heap_alloc_new w (.cells (u8s (List.replicate n 0)).toArray 5)) (And.intro ((Below.refl w.heap.size w).alloc (Nat.le_refl _) (.cells (u8s (List.replicate n 0)).toArray 5)) (And.intro hs hn)))
  clear hs hn
  go_enter Try.func10, Try.ntmps10
  go_wp2_with fail
  go_loopw [6] (fun i wr => RFi w s n i wr) (fun i _ => n - (intOf i).toNat)
  case atStart => exact ⟨0, Nat.zero_le _, rfl, by rw [mixF_zero]; exact H0.out.1, H0.out.2.1⟩
  case round =>
    obtain ⟨j, hj, rfl, hg, hbr⟩ := hrel
    have HR := Lib.hid (And.intro hj (And.intro hg hbr))
    by_cases hlt : j < n
    · have hlt' : (j : Int) < (n : Int) := by omega
      have hcg := u8s_cell hg j (by rw [mixF_length]; exact hlt)
      have hfg : wr.frozen? ⟨w.heap.size, j, none⟩ = false := free_of_cells hg j
      have hadd := IntWalk.i64_in ((j : Int) + 1) (by have := H0.out.2.2.2; omega)
      have hst := u8s_cells_set hg j (byteAt s j)
      rw [mixF_set s n j] at hst
      have HS := Lib.hid hst
      clear hj hg hbr hst
      go_wp2_with fail
      go_roundw
      case rel => unfold RFi; exact ⟨j + 1, by omega, by simp, by rw [byte_word s j (by have := H0.out.2.2.2; omega)]; exact HS.out, HR.out.2.2.setCell (Nat.le_refl _) _⟩
      case measure => simp only [intOf]; omega
    · have hlt' : ¬ (j : Int) < (n : Int) := by omega
      obtain rfl : j = n := by omega
      rw [mixF_all] at hg
      have HF := Lib.hid (And.intro hg hbr)
      clear hj hg hbr
      go_wp2_with fail
      go_ret
      exact ⟨rfl, HF.out⟩
end Go.Proofs.Ythndpfkgljkpcaa
