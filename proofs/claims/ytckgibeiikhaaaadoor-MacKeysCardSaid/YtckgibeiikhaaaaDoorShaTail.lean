/-
  digest.tail: what stands behind so many bytes.
-/
import Derived.Test.YtckgibeiikhaaaaDoorShaWords
import Derived.Maps.AppendAt
import Derived.Laws.OwnMore
namespace Go.Proofs.YtckgibeiikhaaaaDoor
open Go.RowKit

theorem u8_info : (Tryd.prog.info? 5).map (fun i => (i.zero, i.size, i.bytes)) = some (some (.int .u8 0), 1, 1) := by kernel_rfl
theorem one_of {v : Value} (h : v.oneCell' = true) : ∀ u ∈ [v], u.oneCell' = true := by
  intro u hu
  rw [List.mem_singleton.1 hu]
  exact h

/-- The byte i of a number. -/
def byteOf (x i : Nat) : UInt8 := UInt8.ofNat (x / 2 ^ (8 * i))
/-- A number's eight bytes, the highest first; the first j of them. -/
def be64 (x j : Nat) : List UInt8 := (List.range j).map fun t => byteOf x (7 - t)
theorem be64_succ (x j : Nat) : be64 x (j + 1) = be64 x j ++ [byteOf x (7 - j)] := by simp [be64, List.range_succ]
theorem be64_length (x j : Nat) : (be64 x j).length = j := by simp [be64]
/-- What stands behind n bytes. -/
def tailL (n : Nat) : List UInt8 := 128 :: List.replicate ((64 - (n + 9) % 64) % 64) 0
def tailB (n : Nat) : List UInt8 := tailL n ++ be64 (n * 8) 8
theorem tailL_length (n : Nat) : (tailL n).length = 1 + (64 - (n + 9) % 64) % 64 := by simp [tailL]; omega

theorem made_zero (c : Nat) : (madeCells #[Value.int .u8 0] (c * 1)).toList = u8s (List.replicate c 0) := by
  simp only [madeCells, u8s, Nat.mul_one]
  apply List.ext_getElem
  · simp
  · intro i h1 h2
    simp [Nat.mod_one]

theorem made_first (k : Nat) (Z : Array Value) (h : Z.toList = u8s (List.replicate (1 + k + 8) 0)) : (Z.setIfInBounds 0 (Value.int .u8 128)).toList.take ((1 + k) * 1) = u8s (128 :: List.replicate k 0) := by
  rw [Array.toList_setIfInBounds, h, show 1 + k + 8 = (k + 8) + 1 by omega, List.replicate_succ, show (1 + k) * 1 = k + 1 by omega]
  simp [u8s]
theorem shr_byte (x t : Nat) : ((x : Int) / 2 ^ (8 * t)) % 256 = ((byteOf x t).toNat : Int) := by
  unfold byteOf
  have h : ((x : Int) / 2 ^ (8 * t)) = ((x / 2 ^ (8 * t) : Nat) : Int) := by simp
  rw [h]
  simp

set_option maxHeartbeats 2000000 in
set_option maxRecDepth 100000 in
theorem tail_any (n : Nat) (hn : n < 1152921504606846976) (w : World) :
    Calls Tryd.prog 25 #[.int .u64 n] w fun e w' => ∃ A c, e = .returned (.slice A (tailB n).length c) ∧ Byt w' (w.heap.size ≤ ·) A (tailB n).length c (tailB n) ∧ Below w.heap.size w w' := by
  obtain ⟨i0, hi, hz0, hz1, hz2⟩ := info_parts u8_info
  obtain ⟨o, ho⟩ : ∃ o, o = (n + 9) % 64 := ⟨_, rfl⟩
  obtain ⟨k, hk⟩ : ∃ k, k = (64 - o) % 64 := ⟨_, rfl⟩
  have ho64 : o < 64 := by omega
  have hk64 : k < 64 := by omega
  have e1 : ((n : Int) + 1 + 8) % 64 = (o : Int) := by omega
  have e2 : (64 - (o : Int)) % 64 = (k : Int) := by omega
  have hmk := run_make (P := Tryd.prog) (t := 26) (e := 5) w i0 (.int .u8 0) Tryd.underlying26 hi hz0 .i64 .i64 (1 + (k : Int)) (1 + (k : Int) + 8) (by omega) (by omega) (by rw [hz2]; omega) (by omega)
  rw [show (1 + (k : Int)).toNat = 1 + k by omega, show (1 + (k : Int) + 8).toNat = 1 + k + 8 by omega, hz1] at hmk
  have hm0 := made_zero (1 + k + 8)
  obtain ⟨Z, hZ⟩ : ∃ Z, Z = madeCells (Value.int .u8 0).cells ((1 + k + 8) * 1) := ⟨_, rfl⟩
  rw [← hZ] at hmk
  have hZ2 : Z.toList = u8s (List.replicate (1 + k + 8) 0) := by rw [hZ]; exact hm0
  have hzz : Z[0]? = some (.int .u8 0) := by rw [← Array.getElem?_toList, hZ2, show 1 + k + 8 = (k + 8) + 1 by omega]; rfl
  have hzs : 0 < Z.size := by rw [← Array.length_toList, hZ2, u8s_length]; simp
  have HZ := Lib.hid (And.intro hZ2 (show Z.size = 1 + k + 8 by rw [← Array.length_toList, hZ2, u8s_length]; simp))
  have HL : Hid (tailL n = 128 :: List.replicate k 0) := Lib.hid (by rw [tailL, hk, ho])
  have HI := Lib.hid (And.intro hi (And.intro hz0 (And.intro hz1 hz2)))
  clear hk ho hi hz0 hz1 hz2 hZ hZ2 hm0
  go_enter Tryd.func25, Tryd.ntmps25
  go_wp2_with fail
  have hown : (w.alloc (.cells (Z.setIfInBounds 0 (Value.int .u8 128)) 5)).ownsRow w.heap.size 5 1 (.slice (some ⟨w.heap.size, 0, none⟩) (1 + k) (1 + k + 8)) (1 + k) (u8s (128 :: List.replicate k 0)) :=
    ⟨by simp [u8s, Nat.add_comm], .inr ⟨w.heap.size, 1 + k + 8, _, rfl, Nat.le_refl _, heap_alloc_new w _, by omega, by unfold maxLen; omega, by simp [HZ.out.2], made_first k Z HZ.out.1⟩⟩
  have hbl : Below w.heap.size w (w.alloc (.cells (Z.setIfInBounds 0 (Value.int .u8 128)) 5)) := (Below.refl _ _).alloc (Nat.le_refl _) _
  rw [← HL.out] at hown
  simp only [e1, e2]
  clear e1 e2
  generalize w.alloc (.cells (Z.setIfInBounds 0 (Value.int .u8 128)) 5) = w1 at *
  go_loopw [5, 6] (fun v i wr => ∃ j : Nat, j ≤ 8 ∧ i = .int .i64 (7 - (j : Int)) ∧ wr.ownsRow w.heap.size 5 1 v (tailL n ++ be64 (n * 8) j).length (u8s (tailL n ++ be64 (n * 8) j)) ∧ Below w.heap.size w wr) (fun _ i _ => (intOf i + 1).toNat)
  case atStart => exact ⟨0, by omega, rfl, by simpa [be64, HL.out, Nat.add_comm] using hown, hbl⟩
  case round =>
    obtain ⟨j, hj, rfl, ho, hb⟩ := hrel
    by_cases hlt : j < 8
    · have hsz := hb.size
      have HO := Lib.hid ho
      have HB := Lib.hid hb
      have hlen : (tailL n ++ be64 (n * 8) j).length + 1 ≤ 1000 := by rw [List.length_append, tailL_length, be64_length]; omega
      obtain ⟨D, hD⟩ : ∃ D, D = tailL n ++ be64 (n * 8) j := ⟨_, rfl⟩
      have hone : [Value.int .u8 (((n : Int) * 8 / 2 ^ (8 * (7 - j))) % 256)] = u8s [byteOf (n * 8) (7 - j)] := by
        rw [show (n : Int) * 8 = ((n * 8 : Nat) : Int) by omega, shr_byte]; rfl
      have HD := Lib.hid (And.intro hD hone)
      rw [← hD] at HO hlen
      clear ho hb hown hbl hmk hD hone
      go_wp2_with (at_builtin; refine wpList_append_own_at _ rfl _ _ 26 rfl w.heap.size 5 i0 (.int .u8 0) 1 1 Tryd.underlying26 HI.out.1 HI.out.2.1 HI.out.2.2.1 HI.out.2.2.2 rfl (by decide) _ D.length (u8s D) rfl (HO.out.alloc _) ⟨wr.heap.size, 0, none⟩ 1 1 _ rfl rfl (cell_one_new _ _ _) (one_of rfl) (by unfold maxLen; omega) (by omega) (by simp; omega) ?_)
      intro v' w2 hown hgrow hnn hat
      have hlt' := HO.out.lt
      have HB2 : Hid (Below w.heap.size w w2) := Lib.hid ((HB.out.alloc hsz _).grown hgrow (by simp; omega) (fun k hk => (hlt' k hk).1))
      have HO2 : Hid (w2.ownsRow w.heap.size 5 1 v' (tailL n ++ be64 (n * 8) (j + 1)).length (u8s (tailL n ++ be64 (n * 8) (j + 1)))) := Lib.hid (by
        rw [be64_succ, ← List.append_assoc, ← HD.out.1, u8s_append, ← HD.out.2, List.length_append]; exact hown)
      clear hown hgrow hnn hat hlt'
      go_wp2_with fail
      go_roundw
      case rel => exact ⟨j + 1, by omega, by congr 1; omega, HO2.out, HB2.out⟩
      case measure => simp [intOf]; omega
    · obtain rfl : j = 8 := by omega
      obtain ⟨A, c, rfl, hY⟩ := own_byt (l := tailB n) ho
      have HF := Lib.hid (And.intro hY hb)
      clear ho hown hbl hmk hY hb
      go_wp2_with fail
      go_ret
      exact ⟨A, c, rfl, HF.out⟩
end Go.Proofs.YtckgibeiikhaaaaDoor
