/-
  The reference: Of.
  The reference's number as eight bytes; strings put together.
  The reference's Split.
  A slice literal of one digest.
-/
import Derived.Test.YtnbjhdlnibmgdaaDoorPk09
import Derived.Test.YtnbjhdlnibmgdaaDoorPk02
import Derived.Test.YtnbjhdlnibmgdaaDoorPk08
import Derived.Test.YtnbjhdlnibmgdaaDoorPk13
import Derived.Test.YtnbjhdlnibmgdaaDoorPk11
import Derived.Deep.CutBlock
import Derived.Test.YtnbjhdlnibmgdaaDoorPk10
import Derived.Great.BuildSlice
/-! The reference: Of. -/
namespace Go.Proofs.YtnbjhdlnibmgdaaDoor
open Go.RowKit

theorem st_128 (l : List UInt8) : st l ++ { data := #[128] } = st (l ++ [128]) := st_app l [128]
theorem st_0 (l : List UInt8) : st l ++ { data := #[0] } = st (l ++ [0]) := st_app l [0]

def hVals : List (Nat × Value) := [(0, .int .u32 1779033703), (1, .int .u32 3144134277), (2, .int .u32 1013904242), (3, .int .u32 2773480762), (4, .int .u32 1359893119), (5, .int .u32 2600822924), (6, .int .u32 528734635), (7, .int .u32 1541459225)]
theorem build_h : (Tryd.prog.built 95 hVals) = some (u32s hTab).toArray := by unfold hVals; kernel_rfl
def zeros8 : Array Value := (u32s (List.replicate 8 0)).toArray
theorem h_info : (Tryd.prog.info? 95).map (·.size) = some 8 := by kernel_rfl
theorem zero_h : ∀ W, (zeroValue 95).run Tryd.prog W = .ok (.agg zeros8) W := fun W => by unfold zeros8; kernel_rfl

/-- The bytes and one more, and so many noughts. -/
def padL (l : List UInt8) (j : Nat) : List UInt8 := l ++ (128 :: List.replicate j 0)
theorem padL_length (l : List UInt8) (j : Nat) : (padL l j).length = l.length + 1 + j := by simp [padL]; omega
theorem padL_succ (l : List UInt8) (j : Nat) : padL l j ++ [0] = padL l (j + 1) := by simp [padL, List.replicate_succ']

def stLen : Value → Nat
  | .string s => s.size
  | _ => 0
theorem str_take (l : List UInt8) (k : Nat) (h : k ≤ l.length) (W : World) : (Instr.slice 9 (.string (st l)) none (some (.int .i64 (k : Int))) none).run Tryd.prog W = .ok (.string (st (l.take k))) W := by
  rw [run_slice_string_h W 9 (st l) Tryd.underlying9 .i64 (k : Int) (by omega) (by rw [st_size]; omega), st_extract]
  simp
theorem str_drop (l : List UInt8) (k : Nat) (h : k ≤ l.length) (W : World) : (Instr.slice 9 (.string (st l)) (some (.int .i64 (k : Int))) none none).run Tryd.prog W = .ok (.string (st (l.drop k))) W := by
  rw [run_slice_string_l W 9 (st l) Tryd.underlying9 .i64 (k : Int) (by omega) (by rw [st_size]; omega), st_extract, st_size, List.take_of_length_le (by simp)]
  simp
/-- The last j bytes of a number. -/
def lowB8 (x j : Nat) : List UInt8 := (List.range j).reverse.map fun t => byteOf x t
theorem lowB8_succ (x j : Nat) : [byteOf x j] ++ lowB8 x j = lowB8 x (j + 1) := by simp [lowB8, List.range_succ]
theorem lowB8_length (x j : Nat) : (lowB8 x j).length = j := by simp [lowB8]
theorem lowB8_all (x : Nat) : lowB8 x 8 = be64 x 8 := by rfl
theorem div_step (x j : Nat) : x / 2 ^ (8 * j) / 256 = x / 2 ^ (8 * (j + 1)) := by
  rw [Nat.div_div_eq_div_mul]
  congr 1
  rw [show 8 * (j + 1) = 8 * j + 8 by omega, Nat.pow_add]
theorem mod_byte (x j : Nat) : ((x / 2 ^ (8 * j) : Nat) : Int) % 256 = ((byteOf x j).toNat : Int) := by
  unfold byteOf
  simp

/-- What lies where, all through a block's rounds of the reference. -/
structure RSt (w w2 : World) (q9 q10 : Nat) (H V W : List (BitVec 32)) (wr : World) : Prop where
  below : Below w.heap.size w wr
  id : wr.heap[w.heap.size]? = some (.cells zerosId 36 (0, 0))
  h : wr.heap[w.heap.size + 1]? = some (.cells (u32s H).toArray 95 (0, 0))
  k : wr.heap[w2.heap.size]? = some (.cells (u32s kTab).toArray 107 (0, 0))
  w : wr.heap[q9]? = some (.cells (u32s W).toArray 107 (0, 0))
  v : wr.heap[q10]? = some (.cells (u32s V).toArray 95 (0, 0))
section
variable {w w2 wr : World} {q9 q10 : Nat} {H V W : List (BitVec 32)}
theorem RSt.drewN (h : RSt w w2 q9 q10 H V W wr) {k : Nat} {w' : World} (e : wr.drewN k = w') : RSt w w2 q9 q10 H V W w' := by
  subst e
  exact ⟨below_drewN h.below k, h.id, h.h, h.k, h.w, h.v⟩
theorem RSt.drew (h : RSt w w2 q9 q10 H V W wr) : RSt w w2 q9 q10 H V W wr.drew := ⟨below_drew h.below, h.id, h.h, h.k, h.w, h.v⟩
theorem RSt.setV (h : RSt w w2 q9 q10 H V W wr) (h1 : w.heap.size + 1 < w2.heap.size) (h2 : w2.heap.size < q9) (h3 : q9 < q10) (i : Nat) (x : BitVec 32) : RSt w w2 q9 q10 H (V.set i x) W (wr.setCell ⟨q10, i, none⟩ (.int .u32 (nv x))) :=
  ⟨h.below.setCell (by dsimp only; omega) _, (Below.heap_setCell _ _ _ _ (by dsimp only; omega)).trans h.id, (Below.heap_setCell _ _ _ _ (by dsimp only; omega)).trans h.h, (Below.heap_setCell _ _ _ _ (by dsimp only; omega)).trans h.k, (Below.heap_setCell _ _ _ _ (by dsimp only; omega)).trans h.w, u32s_cells_set h.v i x⟩
theorem RSt.setH (h : RSt w w2 q9 q10 H V W wr) (h1 : w.heap.size + 1 < w2.heap.size) (h2 : w2.heap.size < q9) (h3 : q9 < q10) (i : Nat) (x : BitVec 32) : RSt w w2 q9 q10 (H.set i x) V W (wr.setCell ⟨w.heap.size + 1, i, none⟩ (.int .u32 (nv x))) :=
  ⟨h.below.setCell (by dsimp only; omega) _, (Below.heap_setCell _ _ _ _ (by dsimp only; omega)).trans h.id, u32s_cells_set h.h i x, (Below.heap_setCell _ _ _ _ (by dsimp only; omega)).trans h.k, (Below.heap_setCell _ _ _ _ (by dsimp only; omega)).trans h.w, (Below.heap_setCell _ _ _ _ (by dsimp only; omega)).trans h.v⟩
theorem RSt.cellsV (h : RSt w w2 q9 q10 H V W wr) {a b c d e f g x : BitVec 32} (hV : V = [a, b, c, d, e, f, g, x]) : (∀ k, (wr.drewN k).cell? ⟨q10, 0, none⟩ = some (.int .u32 (nv a))) ∧ (∀ k, (wr.drewN k).cell? ⟨q10, 1, none⟩ = some (.int .u32 (nv b))) ∧ (∀ k, (wr.drewN k).cell? ⟨q10, 2, none⟩ = some (.int .u32 (nv c)))
    ∧ (∀ k, (wr.drewN k).cell? ⟨q10, 4, none⟩ = some (.int .u32 (nv e))) ∧ (∀ k, (wr.drewN k).cell? ⟨q10, 5, none⟩ = some (.int .u32 (nv f))) ∧ (∀ k, (wr.drewN k).cell? ⟨q10, 6, none⟩ = some (.int .u32 (nv g))) ∧ (∀ k, (wr.drewN k).cell? ⟨q10, 7, none⟩ = some (.int .u32 (nv x))) := by
  have hv := h.v
  subst hV
  exact ⟨fun _ => u32s_cell hv 0 (by simp), fun _ => u32s_cell hv 1 (by simp), fun _ => u32s_cell hv 2 (by simp), fun _ => u32s_cell hv 4 (by simp), fun _ => u32s_cell hv 5 (by simp), fun _ => u32s_cell hv 6 (by simp), fun _ => u32s_cell hv 7 (by simp)⟩
end
/-- The main loop's relation. -/
def Blk (M : List UInt8) (nb : Nat) (w w2 : World) (s : Value) (wr : World) : Prop := ∃ j : Nat, j ≤ nb ∧ s = .string (st (M.drop (64 * j))) ∧ Below w.heap.size w wr ∧ wr.heap[w.heap.size]? = some (.cells zerosId 36 (0, 0)) ∧
  wr.heap[w.heap.size + 1]? = some (.cells (u32s (hashR M j)).toArray 95 (0, 0)) ∧ wr.heap[w2.heap.size]? = some (.cells (u32s kTab).toArray 107 (0, 0))
def Rnd (w w2 : World) (q9 q10 : Nat) (H W : List (BitVec 32)) (i : Value) (wr : World) : Prop := ∃ k : Nat, k ≤ 64 ∧ i = .int .i64 k ∧ RSt w w2 q9 q10 H (roundsR (R8.of H) W k).list W wr
def Shf (w w2 : World) (q9 q10 : Nat) (H V W : List (BitVec 32)) (j : Value) (wr : World) : Prop := ∃ i : Nat, i ≤ 7 ∧ j = .int .i64 ((7 - i : Nat) : Int) ∧ RSt w w2 q9 q10 H (shiftV V i) W wr
def Adh (w w2 : World) (q9 q10 : Nat) (H V W : List (BitVec 32)) (j : Value) (wr : World) : Prop := ∃ i : Nat, i ≤ 8 ∧ j = .int .i64 i ∧ RSt w w2 q9 q10 (addTo H V i) V W wr
def Fin8 (w : World) (qo : Nat) (H : List (BitVec 32)) (i : Value) (wr : World) : Prop := ∃ k : Nat, k ≤ 8 ∧ i = .int .i64 k ∧ Below w.heap.size w wr ∧ wr.heap[w.heap.size]? = some (.cells zerosId 36 (0, 0)) ∧ wr.heap[w.heap.size + 1]? = some (.cells (u32s H).toArray 95 (0, 0)) ∧
  wr.heap[qo]? = some (.cells (u8s (outR H k)).toArray 36 (0, 0))
theorem word_b (x : BitVec 32) : (nv x).tdiv 16777216 % 256 = ((wordB x 0).toNat : Int) ∧ (nv x).tdiv 65536 % 256 = ((wordB x 1).toNat : Int) ∧ (nv x).tdiv 256 % 256 = ((wordB x 2).toNat : Int) ∧ nv x % 256 = ((wordB x 3).toNat : Int) := by
  have h := W32.nn x
  rw [Int.tdiv_eq_ediv_of_nonneg h, Int.tdiv_eq_ediv_of_nonneg h, Int.tdiv_eq_ediv_of_nonneg h]
  unfold nv wordB
  refine ⟨?_, ?_, ?_, ?_⟩ <;> simp
def Low8 (X : Nat) (w1 : World) (y s i : Value) (wr : World) : Prop := ∃ k : Nat, k ≤ 8 ∧ i = .int .i64 k ∧ y = .int .u64 ((X / 2 ^ (8 * k) : Nat) : Int) ∧ s = .string (st (lowB8 X k)) ∧ Below w1.heap.size w1 wr

set_option maxHeartbeats 8000000 in
set_option maxRecDepth 100000 in
theorem rof_any (l : List UInt8) (hl : l.length < 576460752303423488) (w : World) :
    Calls Tryd.prog 59 #[.string (st l)] w fun e w' => e = .returned (.agg (u8s (shaL l)).toArray) ∧ Below w.heap.size w w' := by
  have hz := zero_h
  have hzi := zero_id
  have hz64 := zero_tab
  have HG := Lib.hid (heap_alloc_new (w.alloc (.cells zerosId 36)) (.cells zeros8 95))
  rw [World.size_alloc] at HG
  have HK := Lib.hid (And.intro (show (u32s hTab).toArray.size = 8 by rfl) (all_oneCell_toArray (u32s_one hTab)))
  obtain ⟨RS, hRS⟩ : ∃ RS, RS = (u32s hTab).toArray := ⟨_, rfl⟩
  have hb := build_h
  rw [← hRS] at HK hb
  have HB := Lib.hid (And.intro hb hRS)
  have s1 := st_size
  have s2 := st_128
  have s3 := st_0
  clear hb hRS
  go_enter Tryd.func59, Tryd.ntmps59
  go_wp2_with (first | (refine wpList_built (by rfl) 95 _ (by rfl) hVals (by unfold hVals; simp [Act.eval]) RS HB.out.1 ?_) | (refine wpList_store_row (by rfl) 95 (.tmp 3) (.tmp 18) (by rfl) (w.heap.size + 1) RS (by rfl) (by rfl) 95 _ HG.out (by rw [HK.out.1]; exact h_info) (by rw [HK.out.1]; rfl) HK.out.2 ?_))
  have HW : Hid (Below w.heap.size w (((w.alloc (.cells zerosId 36)).alloc (.cells zeros8 95)).setRow (w.heap.size + 1) RS) ∧ (((w.alloc (.cells zerosId 36)).alloc (.cells zeros8 95)).setRow (w.heap.size + 1) RS).heap[w.heap.size]? = some (.cells zerosId 36 (0, 0)) ∧
      (((w.alloc (.cells zerosId 36)).alloc (.cells zeros8 95)).setRow (w.heap.size + 1) RS).heap[w.heap.size + 1]? = some (.cells RS 95 (0, 0))) := Lib.hid ⟨below_setRow (((Below.refl _ _).alloc (Nat.le_refl _) _).alloc (by simp) _) (by omega) _, by
      simp only [World.setRow, Array.getElem?_modify]
      rw [if_neg (by omega)]
      exact (Below.heap_alloc _ _ _ (by simp)).trans (heap_alloc_new w _), setRow_at HG.out⟩
  generalize ((w.alloc (.cells zerosId 36)).alloc (.cells zeros8 95)).setRow (w.heap.size + 1) RS = w1 at *
  obtain ⟨N, hN⟩ : ∃ N, N = (64 - (l.length + 9) % 64) % 64 := ⟨_, rfl⟩
  have HN := Lib.hid hN
  have hn64 : N < 64 := by omega
  clear hN HG s2 s3
  go_loop [4] (fun v => ∃ j : Nat, j ≤ N ∧ v = .string (st (padL l j))) (fun v => l.length + 1 + N - stLen v)
  case atStart => exact ⟨0, Nat.zero_le _, rfl⟩
  case round =>
    obtain ⟨j, hj, rfl⟩ := hrel
    have hpl := padL_length l j
    have hap := (st_0 (padL l j)).trans (by rw [padL_succ])
    have hN := HN.out
    by_cases hlt : j < N
    · have hne : ((l.length : Int) + 1 + (j : Int)) % 64 ≠ 56 := by omega
      have hne2 : (((l.length : Int) + 1 + (j : Int)) % 64 != 56) = true := by simpa using hne
      clear hN
      go_wp2_with fail
      go_round
      case rel => exact ⟨j + 1, by omega, rfl⟩
      case measure => simp [stLen, st_size, padL_length]; omega
    · obtain rfl : j = N := by omega
      have hne : ((l.length : Int) + 1 + (j : Int)) % 64 = 56 := by omega
      have hne2 : (((l.length : Int) + 1 + (j : Int)) % 64 != 56) = false := by simpa using hne
      clear hN hap
      go_wp2_with fail
      have HT : Hid (padL l j ++ lowB8 (l.length * 8) 8 = l ++ tailB l.length) := Lib.hid (by rw [lowB8_all, padL, HN.out, tailB, tailL, List.append_assoc])
      clear hne hne2 hpl hlt hj hn64
      obtain ⟨X, hX⟩ : ∃ X, X = l.length * 8 := ⟨_, rfl⟩
      have hXb : X < 4611686018427387904 := by omega
      have hXi : (l.length : Int) * 8 = (X : Int) := by omega
      rw [hXi]
      rw [← hX] at HT
      clear hX hXi
      go_loopw [5, 6, 7] (fun y s i wr => Low8 X w1 y s i wr) (fun _ _ i _ => 8 - (intOf i).toNat)
      case atStart => unfold Low8; exact ⟨0, by omega, rfl, by simp, rfl, Below.refl _ _⟩
      case round =>
        obtain ⟨k, hk, rfl, rfl, rfl, hbr⟩ := hrel
        by_cases hlt : k < 8
        · have hmb := mod_byte X k
          have hYle : X / 2 ^ (8 * k) ≤ X := Nat.div_le_self _ _
          have hds := Lib.hid (div_step X k)
          have hap := (st_app [byteOf X k] (lowB8 X k)).trans (by rw [lowB8_succ])
          generalize X / 2 ^ (8 * k) = Y at *
          have hb256 : (byteOf X k).toNat < 256 := (byteOf X k).toNat_lt
          generalize byteOf X k = b at *
          have hs : (convert 24 9 (.slice (some ⟨wr.heap.size, 0, none⟩) 1 1)).run Tryd.prog (wr.alloc (.cells #[.int .u8 (b.toNat : Int)] 5)) = .ok (.string (st [b])) (wr.alloc (.cells #[.int .u8 (b.toNat : Int)] 5)) :=
            byt_string (byt_new (w := wr) [b] 5 (0, 0) (by simp))
          go_wp2_with fail
          case isTrue hbig => exfalso; rw [lowB8_length] at hbig; omega
          go_roundw
          case rel => unfold Low8; exact ⟨k + 1, by omega, by go_num, by rw [← hds.out]; simp, rfl, hbr.alloc hbr.size _⟩
          case measure => simp [intOf]; omega
        · obtain rfl : k = 8 := by omega
          have hap := (st_app (padL l j) (lowB8 X 8)).trans (by rw [HT.out])
          have hll := lowB8_length X 8
          have hpl := padL_length l j
          have hj64 : j < 64 := by have := HN.out; omega
          clear hlt hk
          go_wp2_with fail
          refine (numbers_any _).mono ?_
          rintro _ w2 ⟨rfl, hb2⟩
          have hb2 := hbr.trans (hb2.mono hbr.size)
          obtain ⟨KS, hKS⟩ : ∃ KS, KS = (u32s kTab).toArray := ⟨_, rfl⟩
          rw [← hKS]
          have HKS : Hid (KS = (u32s kTab).toArray ∧ KS.size = 64 ∧ KS.all (·.oneCell') = true) := Lib.hid ⟨hKS, by rw [hKS]; rfl, by rw [hKS]; exact all_oneCell_toArray (u32s_one kTab)⟩
          have HG2 := Lib.hid (heap_alloc_new w2 (.cells zeros64 107))
          obtain ⟨M, hM⟩ : ∃ M, M = l ++ tailB l.length := ⟨_, rfl⟩
          have hMl : M.length % 64 = 0 ∧ M.length < 1152921504606846976 := by
            have h1 : (tailB l.length).length = 1 + j + 8 := by rw [tailB, List.length_append, tailL_length, be64_length, ← HN.out]
            rw [hM, List.length_append, h1]
            have := HN.out
            omega
          obtain ⟨nb, hnb⟩ : ∃ nb, M.length = 64 * nb := ⟨M.length / 64, by omega⟩
          have hMl := hMl.2
          have HB2 := Lib.hid (And.intro hb2 hb2.size)
          have HM := Lib.hid (And.intro hM hnb)
          rw [← hM]
          clear hap hll hpl hj64 hbr hb2 hKS hM hMl hnb HT
          have hw12 : w.heap.size + 1 < w2.heap.size := by
            have h1 := (Array.getElem?_eq_some_iff.1 HW.out.2.2).1
            have h2 := HB2.out.2
            omega
          go_wp2_with (refine wpList_store_row (by rfl) 107 (.tmp 8) (.tmp 47) (by rfl) w2.heap.size KS (by rfl) (by rfl) 107 _ HG2.out (by rw [HKS.out.2.1]; exact tab_info) (by rw [HKS.out.2.1]; rfl) HKS.out.2.2 ?_)
          have hB0 : Blk M nb w w2 (.string (st M)) ((w2.alloc (.cells zeros64 107)).setRow w2.heap.size KS) := by
            have e1 : ∀ b, b < w2.heap.size → ((w2.alloc (.cells zeros64 107)).setRow w2.heap.size KS).heap[b]? = w2.heap[b]? := fun b hb => by
              simp only [World.setRow, Array.getElem?_modify]
              rw [if_neg (by omega)]
              exact Below.heap_alloc _ _ _ hb
            refine ⟨0, Nat.zero_le _, by simp, below_setRow ((HW.out.1.trans (HB2.out.1.mono HW.out.1.size)).alloc (by omega) _) (by omega) _, (e1 _ (by omega)).trans ((HB2.out.1.block _ (lt_of_cells HW.out.2.1)).trans HW.out.2.1), ?_, ?_⟩
            · rw [e1 _ (by omega), HB2.out.1.block _ (lt_of_cells HW.out.2.2), HW.out.2.2, HB.out.2]; rfl
            · rw [setRow_at HG2.out, HKS.out.1]
          have HB0 := Lib.hid hB0
          clear hB0
          generalize (w2.alloc (.cells zeros64 107)).setRow w2.heap.size KS = w3 at *
          clear HG2 HKS
          simp only [Act.put]
          go_loopw [4, 9, 10, 11, 12, 13, 14, 15] (fun s _ _ _ _ _ _ _ wr => Blk M nb w w2 s wr) (fun s _ _ _ _ _ _ _ _ => stLen s)
          case atStart => exact HB0.out
          case round =>
            obtain ⟨j, hj, rfl, hbr, hid, hh, hk⟩ := hrel
            have HR := Lib.hid (And.intro hbr (And.intro hid (And.intro hh hk)))
            by_cases hlt : j < nb
            · have hml : (M.drop (64 * j)).length = 64 * (nb - j) := by rw [List.length_drop, HM.out.2]; omega
              have HE : Hid ((M.drop (64 * j)).drop 64 = M.drop (64 * (j + 1)) ∧ hashR M (j + 1) = addTo (hashR M j) (roundsR (R8.of (hashR M j)) (sw ((M.drop (64 * j)).take 64) 64) 64).list 8) := Lib.hid ⟨by rw [List.drop_drop]; congr 1, rfl⟩
              have hHl := hashR_length M j
              generalize M.drop (64 * j) = m at *
              generalize hashR M j = Hj at *
              have htk : ∀ W, (Instr.slice 9 (.string (st m)) none (some (.int .i64 64)) none).run Tryd.prog W = .ok (.string (st (m.take 64))) W := str_take m 64 (by omega)
              have hdr : ∀ W, (Instr.slice 9 (.string (st m)) (some (.int .i64 64)) none none).run Tryd.prog W = .ok (.string (st (m.drop 64))) W := str_drop m 64 (by omega)
              have hms : m ≠ [] := by intro e; rw [e] at hml; simp at hml; omega
              have hne : (!(st m).toList.isEmpty) = true := by
                rw [st_list]
                cases m with
                | nil => exact absurd rfl hms
                | cons c t => rfl
              have hne2 : (st m).toList.isEmpty = false := by
                rw [st_list]
                cases m with
                | nil => exact absurd rfl hms
                | cons c t => rfl
              have h64 : (m.take 64).length = 64 := by rw [List.length_take]; omega
              clear hbr hid hh hk hms
              go_wp2_with fail
              refine (sched_any (m.take 64) h64 _).mono ?_
              rintro _ w4 ⟨rfl, hb4⟩
              have hWl := sw_length (m.take 64) 64
              generalize sw (m.take 64) 64 = W at *
              obtain ⟨WS, hWS⟩ : ∃ WS, WS = (u32s W).toArray := ⟨_, rfl⟩
              obtain ⟨JS, hJS⟩ : ∃ JS, JS = (u32s Hj).toArray := ⟨_, rfl⟩
              rw [← hWS]
              have HWS : Hid (WS = (u32s W).toArray ∧ WS.size = 64 ∧ WS.all (·.oneCell') = true) := Lib.hid ⟨hWS, by rw [hWS]; simp [u32s_length, hWl], by rw [hWS]; exact all_oneCell_toArray (u32s_one W)⟩
              have HJS : Hid (JS = (u32s Hj).toArray ∧ JS.size = 8 ∧ JS.all (·.oneCell') = true) := Lib.hid ⟨hJS, by rw [hJS]; simp [u32s_length, hHl], by rw [hJS]; exact all_oneCell_toArray (u32s_one Hj)⟩
              have HG9 := Lib.hid (heap_alloc_new w4 (.cells zeros64 107))
              have HR4 : Hid (Below w.heap.size w w4 ∧ w4.heap[w.heap.size]? = some (.cells zerosId 36 (0, 0)) ∧ w4.heap[w.heap.size + 1]? = some (.cells JS 95 (0, 0)) ∧ w4.heap[w2.heap.size]? = some (.cells (u32s kTab).toArray 107 (0, 0))) :=
                Lib.hid ⟨HR.out.1.trans (hb4.mono HR.out.1.size), (hb4.block _ (lt_of_cells HR.out.2.1)).trans HR.out.2.1, (hb4.block _ (lt_of_cells HR.out.2.2.1)).trans (by rw [hJS]; exact HR.out.2.2.1), (hb4.block _ (lt_of_cells HR.out.2.2.2)).trans HR.out.2.2.2⟩
              have hq9 : w2.heap.size < w4.heap.size := lt_of_cells HR4.out.2.2.2
              have hq9' : w.heap.size + 1 < w4.heap.size := by omega
              have HG10 : Hid ((((w4.alloc (.cells zeros64 107)).setRow w4.heap.size WS).alloc (.cells zeros8 95)).heap[w4.heap.size + 1]? = some (.cells zeros8 95 (0, 0))) := Lib.hid (by
                have := heap_alloc_new ((w4.alloc (.cells zeros64 107)).setRow w4.heap.size WS) (.cells zeros8 95)
                simpa [World.setRow] using this)
              have HJ4 : Hid (((w4.alloc (.cells zeros64 107)).setRow w4.heap.size WS).heap[w.heap.size + 1]? = some (.cells JS 95 (0, 0))) := Lib.hid (by
                simp only [World.setRow, Array.getElem?_modify]
                rw [if_neg (by omega)]
                exact (Below.heap_alloc _ _ _ (by omega)).trans HR4.out.2.2.1)
              clear hb4 htk hWS hJS hne hne2
              go_wp2_with (first | (refine wpList_store_row (by rfl) 107 (.tmp 9) (.tmp 52) (by rfl) w4.heap.size WS (by rfl) (by rfl) 107 _ HG9.out (by rw [HWS.out.2.1]; exact tab_info) (by rw [HWS.out.2.1]; rfl) HWS.out.2.2 ?_) | (refine wpList_load_row (by rfl) 95 (.tmp 3) (by rfl) (w.heap.size + 1) (by rfl) 95 JS (0, 0) _ HJ4.out Tryd.underlying95 (by rfl) (by rw [HJS.out.2.1]; exact h_info) ?_) | (refine wpList_store_row (by rfl) 95 (.tmp 10) (.tmp 53) (by rfl) (w4.heap.size + 1) JS (by rfl) (by rfl) 95 _ HG10.out (by rw [HJS.out.2.1]; exact h_info) (by rw [HJS.out.2.1]; rfl) HJS.out.2.2 ?_))
              have hst : RSt w w2 w4.heap.size (w4.heap.size + 1) Hj (roundsR (R8.of Hj) W 0).list W ((((w4.alloc (.cells zeros64 107)).setRow w4.heap.size WS).alloc (.cells zeros8 95)).setRow (w4.heap.size + 1) JS) := by
                have e0 : ∀ b, b < w4.heap.size → ((((w4.alloc (.cells zeros64 107)).setRow w4.heap.size WS).alloc (.cells zeros8 95)).setRow (w4.heap.size + 1) JS).heap[b]? = w4.heap[b]? := fun b hb => by
                  simp only [World.setRow, Array.getElem?_modify]
                  rw [if_neg (by omega)]
                  refine (Below.heap_alloc _ _ _ (by simp; omega)).trans ?_
                  simp only [Array.getElem?_modify]
                  rw [if_neg (by omega)]
                  exact Below.heap_alloc _ _ _ hb
                have hlist : (R8.of Hj).list = Hj := by
                  match Hj, hHl with
                  | [_, _, _, _, _, _, _, _], _ => rfl
                refine ⟨below_setRow ((below_setRow (HR4.out.1.alloc (by omega) _) (by omega) _).alloc (by simp [World.setRow]; omega) _) (by omega) _, (e0 _ (by omega)).trans HR4.out.2.1, ?_, (e0 _ (by omega)).trans HR4.out.2.2.2, ?_, ?_⟩
                · rw [e0 _ (by omega), HR4.out.2.2.1, HJS.out.1]
                · simp only [World.setRow, Array.getElem?_modify]
                  rw [if_neg (by omega)]
                  refine (Below.heap_alloc _ _ _ (by simp)).trans ?_
                  have := setRow_at (new := WS) HG9.out
                  rw [HWS.out.1] at this
                  rw [HWS.out.1]
                  exact this
                · rw [setRow_at HG10.out, HJS.out.1, roundsR, hlist]
              have HST := Lib.hid hst
              clear hst HG9 HG10 HJ4 HR4 HWS HJS
              generalize (((w4.alloc (.cells zeros64 107)).setRow w4.heap.size WS).alloc (.cells zeros8 95)).setRow (w4.heap.size + 1) JS = w5 at *
              obtain ⟨q9, hq9e⟩ : ∃ q9, q9 = w4.heap.size := ⟨_, rfl⟩
              rw [← hq9e] at HST hq9 hq9' ⊢
              try simp only [Act.put, List.setIfInBounds_toArray, List.set_cons_zero, List.set_cons_succ]
              clear hq9e
              go_loopw [11, 12, 13, 14] (fun i _ _ _ wr => Rnd w w2 q9 (q9 + 1) Hj W i wr) (fun i _ _ _ _ => 64 - (intOf i).toNat)
              case atStart => unfold Rnd; exact ⟨0, by omega, rfl, HST.out⟩
              case round =>
                obtain ⟨k, hk, rfl, hS⟩ := hrel
                have HS := Lib.hid hS
                by_cases hlt : k < 64
                · have HRE : Hid (roundsR (R8.of Hj) W (k + 1) = (roundsR (R8.of Hj) W k).next (kTab[k]?.getD 0) (W[k]?.getD 0)) := Lib.hid rfl
                  generalize hrk : roundsR (R8.of Hj) W k = rk at *
                  obtain ⟨xa, xb, xc, xd, xe, xf, xg, xh⟩ := rk
                  have HS : Hid (RSt w w2 q9 (q9 + 1) Hj [xa, xb, xc, xd, xe, xf, xg, xh] W wr) := Lib.hid hS
                  obtain ⟨c0, c1, c2, c4, c5, c6, c7⟩ := HS.out.cellsV rfl
                  have dk : ∀ n, (wr.drewN n).cell? ⟨w2.heap.size, k, none⟩ = some (.int .u32 (nv (kTab[k]?.getD 0))) := fun _ => u32s_cell HS.out.k k (by simpa [kTab] using hlt)
                  have dw : ∀ n, (wr.drewN n).cell? ⟨q9, k, none⟩ = some (.int .u32 (nv (W[k]?.getD 0))) := fun _ => u32s_cell HS.out.w k (by omega)
                  generalize kTab[k]?.getD 0 = z0 at *
                  generalize W[k]?.getD 0 = y0 at *
                  have hq : (k : Int) < 64 := by omega
                  have hadd := W32.addw
                  have hxor := W32.xor_
                  have hand := W32.and_
                  have hnot := W32.notI
                  clear hS hrk
                  go_wp2_with fail
                  go_quiet ((go_at_call 70; exact Calls.quiet_of_same (rturn_still _ _ (by omega) (by omega) _)))
                  clear c0 c1 c2 c4 c5 c6 c7 dk dw
                  generalize hw6 : World.drewN wr _ = w6
                  have HS6 := Lib.hid (HS.out.drewN hw6)
                  clear hw6 HS
                  obtain ⟨c0, c1, c2, c4, c5, c6, c7⟩ := HS6.out.cellsV rfl
                  go_wp2_with fail
                  go_quiet ((go_at_call 70; exact Calls.quiet_of_same (rturn_still _ _ (by omega) (by omega) _)))
                  clear c0 c1 c2 c4 c5 c6 c7 hxor hand hnot
                  generalize hw7 : World.drewN w6 _ = w7
                  have HS7 := Lib.hid (HS6.out.drewN hw7)
                  clear hw7 HS6
                  go_wp2_with fail
                  have HNX : Hid ((R8.mk xa xb xc xd xe xf xg xh).next z0 y0 = ⟨xh + (rotr xe 6 ^^^ rotr xe 11 ^^^ rotr xe 25) + (xe &&& xf ^^^ ~~~xe &&& xg) + z0 + y0 + ((rotr xa 2 ^^^ rotr xa 13 ^^^ rotr xa 22) + (xa &&& xb ^^^ xa &&& xc ^^^ xb &&& xc)), xa, xb, xc, xd + (xh + (rotr xe 6 ^^^ rotr xe 11 ^^^ rotr xe 25) + (xe &&& xf ^^^ ~~~xe &&& xg) + z0 + y0), xe, xf, xg⟩) := Lib.hid rfl
                  generalize xh + (rotr xe 6 ^^^ rotr xe 11 ^^^ rotr xe 25) + (xe &&& xf ^^^ ~~~xe &&& xg) + z0 + y0 = T at *
                  generalize (rotr xa 2 ^^^ rotr xa 13 ^^^ rotr xa 22) + (xa &&& xb ^^^ xa &&& xc ^^^ xb &&& xc) = U at *
                  obtain ⟨V, hV⟩ : ∃ V, V = [xa, xb, xc, xd, xe, xf, xg, xh] := ⟨_, rfl⟩
                  rw [← hV] at HS7
                  have HV := Lib.hid hV
                  have hVl : V.length = 8 := by rw [hV]; rfl
                  clear hV hadd
                  go_loopw [14] (fun i wr => Shf w w2 q9 (q9 + 1) Hj V W i wr) (fun i _ => (intOf i).toNat)
                  case atStart => unfold Shf; exact ⟨0, by omega, rfl, HS7.out⟩
                  case round =>
                    obtain ⟨i, hi, rfl, hS⟩ := hrel
                    have HSi := Lib.hid hS
                    by_cases hlt7 : i < 7
                    · have HSE : Hid (shiftV V (i + 1) = (shiftV V i).set (7 - i) ((shiftV V i)[7 - i - 1]?.getD 0)) := Lib.hid rfl
                      obtain ⟨jj, hjj⟩ : ∃ jj, jj = 7 - i := ⟨_, rfl⟩
                      have HJJ := Lib.hid hjj
                      have hj1 : 1 ≤ jj := by omega
                      have hj8 : jj < 8 := by omega
                      rw [← hjj] at HSE ⊢
                      have ca := u32s_cell hS.v (jj - 1) (by rw [shiftV_length, hVl]; omega)
                      have cb := u32s_cell hS.v jj (by rw [shiftV_length, hVl]; omega)
                      have fb := free_of_cells hS.v jj
                      generalize (shiftV V i)[jj - 1]?.getD 0 = ya at *
                      clear hS hjj
                      go_wp2_with fail
                      go_roundw
                      case rel =>
                        have h1 := HSi.out.setV hw12 hq9 (by omega) jj ya
                        rw [← HSE.out] at h1
                        unfold Shf
                        exact ⟨i + 1, by omega, by have := HJJ.out; congr 1; omega, h1⟩
                      case measure => simp [intOf]; omega
                    · obtain rfl : i = 7 := by omega
                      have hsh : shiftV V 7 = [xa, xa, xb, xc, xd, xe, xf, xg] := by rw [HV.out, shiftV_all]
                      rw [hsh] at hS
                      have HS8 := Lib.hid hS
                      have ca := u32s_cell hS.v 4 (by simp)
                      have fa := free_of_cells hS.v 4
                      have cb := u32s_cell hS.v 0 (by simp)
                      have fb := free_of_cells hS.v 0
                      simp only [List.getElem?_cons_succ, List.getElem?_cons_zero, Option.getD_some] at ca cb
                      have hadd := W32.add_
                      have h1 := (hS.setV hw12 hq9 (by omega) 4 (xd + T)).setV hw12 hq9 (by omega) 0 (T + U)
                      have HF : Hid (Rnd w w2 q9 (q9 + 1) Hj W (.int .i64 ((k : Int) + 1)) ((wr.setCell ⟨q9 + 1, 4, none⟩ (.int .u32 (nv (xd + T)))).setCell ⟨q9 + 1, 0, none⟩ (.int .u32 (nv (T + U))))) := Lib.hid (by
                        unfold Rnd
                        refine ⟨k + 1, by omega, by go_num, ?_⟩
                        rw [HRE.out, HNX.out]
                        exact h1)
                      clear hS hsh h1 hlt7 hi
                      go_wp2_with fail
                      go_roundw
                      case rel => exact HF.out
                      case measure => simp [intOf]; omega
                · obtain rfl : k = 64 := by omega
                  obtain ⟨V, hV⟩ : ∃ V, V = (roundsR (R8.of Hj) W 64).list := ⟨_, rfl⟩
                  have hVl : V.length = 8 := by rw [hV]; rfl
                  rw [← hV] at HS HE
                  have HV := Lib.hid hV
                  clear hS hV hlt hk HST
                  go_wp2_with fail
                  go_loopw [15] (fun i wr => Adh w w2 q9 (q9 + 1) Hj V W i wr) (fun i _ => 8 - (intOf i).toNat)
                  case atStart => unfold Adh; exact ⟨0, by omega, rfl, HS.out⟩
                  case round =>
                    obtain ⟨i, hi, rfl, hS⟩ := hrel
                    have HSi := Lib.hid hS
                    by_cases hlt8 : i < 8
                    · have HAE : Hid (addTo Hj V (i + 1) = (addTo Hj V i).set i (((addTo Hj V i)[i]?.getD 0) + (V[i]?.getD 0))) := Lib.hid rfl
                      have ca := u32s_cell hS.h i (by rw [addTo_length]; omega)
                      have fa := free_of_cells hS.h i
                      have cb := u32s_cell hS.v i (by omega)
                      generalize (addTo Hj V i)[i]?.getD 0 = ya at *
                      generalize V[i]?.getD 0 = yb at *
                      have hq : (i : Int) < 8 := by omega
                      have haw := W32.addw
                      clear hS
                      go_wp2_with fail
                      refine wp_region_still_tail 8 (by kernel_rfl) (by kernel_rfl) ?_
                      simp only [List.take_succ_cons, List.take_zero, List.drop_succ_cons, List.drop_zero]
                      show wpStill _ _ wr.drew (fun a' => wpList _ _ _ _ a' wr.drew) _ _
                      have ca : wr.drew.cell? ⟨w.heap.size + 1, i, none⟩ = _ := ca
                      have fa : wr.drew.frozen? ⟨w.heap.size + 1, i, none⟩ = _ := fa
                      have cb : wr.drew.cell? ⟨q9 + 1, i, none⟩ = _ := cb
                      have HD := Lib.hid HSi.out.drew
                      generalize wr.drew = wd at *
                      iterate 8 still_step
                      refine wpStill_nil ?_
                      go_wp2_with fail
                      go_roundw
                      case rel =>
                        have h1 := HD.out.setH hw12 hq9 (by omega) i (ya + yb)
                        rw [← HAE.out] at h1
                        unfold Adh
                        (repeat apply Exists.intro)
                        exact ⟨⟨i + 1, by omega, by go_num, h1⟩, rfl⟩
                      case measure => simp [intOf]; omega
                    · obtain rfl : i = 8 := by omega
                      have HF : Hid (Blk M nb w w2 (.string (st (m.drop 64))) wr) := Lib.hid (by
                        unfold Blk
                        refine ⟨j + 1, by omega, by rw [HE.out.1], hS.below, hS.id, ?_, hS.k⟩
                        rw [HE.out.2]
                        exact hS.h)
                      clear hS hlt8 hi
                      go_wp2_with fail
                      go_roundw
                      case rel => exact HF.out
                      case measure => simp [stLen, st_size]; omega
            · obtain rfl : j = nb := by omega
              have hend : M.drop (64 * j) = [] := List.drop_eq_nil_of_le (by rw [HM.out.2]; omega)
              have hne : (!(st (M.drop (64 * j))).toList.isEmpty) = false := by rw [st_list, hend]; rfl
              have hne2 : (st (M.drop (64 * j))).toList.isEmpty = true := by rw [st_list, hend]; rfl
              have hHl := hashR_length M j
              have HH : Hid (wr.heap[w.heap.size + 1]? = some (.cells (u32s (hashR M j)).toArray 95 (0, 0)) ∧ wr.heap[w.heap.size]? = some (.cells zerosId 36 (0, 0)) ∧ Below w.heap.size w wr) := Lib.hid ⟨hh, hid, hbr⟩
              have hszw : w.heap.size + 1 < wr.heap.size := lt_of_cells hh
              generalize hHe : hashR M j = H at *
              have HHE := Lib.hid hHe
              clear hHe
              clear hbr hid hh hk hlt hj hend
              go_wp2_with fail
              go_loopw [17] (fun i wx => Fin8 w wr.heap.size H i wx) (fun i _ => 8 - (intOf i).toNat)
              case atStart =>
                unfold Fin8
                exact ⟨0, by omega, rfl, HH.out.2.2.alloc (by omega) _, (Below.heap_alloc _ _ _ (by omega)).trans HH.out.2.1, (Below.heap_alloc _ _ _ (by omega)).trans HH.out.1, heap_alloc_new wr _⟩
              case round =>
                obtain ⟨i, hi, rfl, hbx, hidx, hhx, hox⟩ := hrel
                have HX := Lib.hid (And.intro hbx (And.intro hidx (And.intro hhx hox)))
                have hol := outR_length H i
                by_cases hlt8 : i < 8
                · have HOE : Hid (outR H (i + 1) = ((((outR H i).set (4 * i) (wordB (H[i]?.getD 0) 0)).set (4 * i + 1) (wordB (H[i]?.getD 0) 1)).set (4 * i + 2) (wordB (H[i]?.getD 0) 2)).set (4 * i + 3) (wordB (H[i]?.getD 0) 3)) := Lib.hid rfl
                  have ca := u32s_cell hhx i (by omega)
                  have c0 := u8s_cell hox (4 * i) (by omega)
                  have c1 := u8s_cell hox (4 * i + 1) (by omega)
                  have c2 := u8s_cell hox (4 * i + 2) (by omega)
                  have c3 := u8s_cell hox (4 * i + 3) (by omega)
                  have f0 := free_of_cells hox (4 * i)
                  have f1 := free_of_cells hox (4 * i + 1)
                  have f2 := free_of_cells hox (4 * i + 2)
                  have f3 := free_of_cells hox (4 * i + 3)
                  have w0 := word_b (H[i]?.getD 0)
                  generalize H[i]?.getD 0 = x at *
                  have HWB := Lib.hid w0
                  clear w0 hbx hidx hhx hox
                  go_wp2_with fail
                  go_roundw
                  case rel =>
                    rw [HWB.out.1, HWB.out.2.1, HWB.out.2.2.1, HWB.out.2.2.2]
                    have t1 := u8s_cells_set HX.out.2.2.2 (4 * i) (wordB x 0)
                    have t2 := u8s_cells_set t1 (4 * i + 1) (wordB x 1)
                    have t3 := u8s_cells_set t2 (4 * i + 2) (wordB x 2)
                    have t4 := u8s_cells_set t3 (4 * i + 3) (wordB x 3)
                    rw [← HOE.out] at t4
                    have e : ∀ (W : World) (p a : Nat) (u : Value) (b : Nat), b ≠ p → (W.setCell ⟨p, a, none⟩ u).heap[b]? = W.heap[b]? := fun W p a u b hb => Below.heap_setCell W ⟨p, a, none⟩ u b hb
                    unfold Fin8
                    exact ⟨i + 1, by omega, by go_num, (((HX.out.1.setCell (by dsimp only; omega) _).setCell (by dsimp only; omega) _).setCell (by dsimp only; omega) _).setCell (by dsimp only; omega) _,
                      by rw [e _ _ _ _ _ (by omega), e _ _ _ _ _ (by omega), e _ _ _ _ _ (by omega), e _ _ _ _ _ (by omega)]; exact HX.out.2.1, by rw [e _ _ _ _ _ (by omega), e _ _ _ _ _ (by omega), e _ _ _ _ _ (by omega), e _ _ _ _ _ (by omega)]; exact HX.out.2.2.1, t4⟩
                  case measure => simp [intOf]; omega
                · obtain rfl : i = 8 := by omega
                  have heq : u8s (outR H 8) = u8s (shaL l) := by
                    rw [← HHE.out, hashR_eq M j, out_told _ (hashN_length M j), shaL, ← HM.out.1, HM.out.2, Nat.mul_div_cancel_left j (by omega)]
                  rw [heq] at hox
                  clear heq
                  obtain ⟨OS, hOS⟩ : ∃ OS, OS = (u8s (shaL l)).toArray := ⟨_, rfl⟩
                  rw [← hOS] at hox
                  have hsz : OS.size = 32 := by rw [hOS]; simp [u8s_length, shaL_length]
                  have HO := Lib.hid (And.intro hOS (And.intro hsz (And.intro (show (Tryd.prog.info? 36).map (·.size) = some OS.size by rw [hsz]; exact id_info) (show OS.all (·.oneCell') = true by rw [hOS]; exact all_oneCell_toArray (u8s_one _)))))
                  have HX8 := Lib.hid (And.intro hox hidx)
                  clear hOS hsz hox hidx hhx HX hol hlt8 hi
                  go_wp2_with (first | (refine wpList_load_row (by rfl) 36 (.tmp 16) (by rfl) _ (by rfl) 36 OS (0, 0) _ HX8.out.1 Tryd.underlying36 (by rfl) HO.out.2.2.1 ?_) | (refine wpList_store_row (by rfl) 36 (.tmp 2) (.tmp 193) (by rfl) w.heap.size OS (by rfl) (by rfl) 36 _ HX8.out.2 HO.out.2.2.1 (by rw [HO.out.2.1]; rfl) HO.out.2.2.2 ?_))
                  exact bodyPost_ret (results_cell_row rfl _ _ w.heap.size 36 OS (0, 0) _ rfl (setRow_at HX8.out.2) Tryd.underlying36 rfl HO.out.2.2.1) rfl ⟨by rw [HO.out.1], below_setRow hbx (Nat.le_refl _) _⟩
end Go.Proofs.YtnbjhdlnibmgdaaDoor

/-! The reference's number as eight bytes; strings put together. -/
namespace Go.Proofs.YtnbjhdlnibmgdaaDoor
open Go.RowKit

theorem le8_digit (N j : Nat) : ((N / 2 ^ (8 * j) : Nat) : Int) % 256 = (((UInt8.ofNat (N / 2 ^ (8 * j))).toNat : Nat) : Int) := byte_mod N (8 * j)
def RNu (w1 : World) (N : Nat) (x v i : Value) (wr : World) : Prop := ∃ j : Nat, j ≤ 8 ∧ i = .int .i64 j ∧ x = .int .u64 ((N / 2 ^ (8 * j) : Nat) : Int) ∧ wr.ownsRow w1.heap.size 5 1 v j (u8s (le8 N j)) ∧ Below w1.heap.size w1 wr
set_option maxHeartbeats 8000000 in
set_option maxRecDepth 100000 in
theorem rnumber_any (N : Nat) (hN : N < 18446744073709551616) (w : World) :
    Calls Tryd.prog 61 #[.int .u64 (N : Int)] w fun e w' => e = .returned (.string (st (le8 N 8))) ∧ Below w.heap.size w w' := by
  obtain ⟨i0, hi, hz0, hz1, hz2⟩ := info_parts u8_info
  have HI := Lib.hid (And.intro hi (And.intro hz0 (And.intro hz1 hz2)))
  clear hi hz0 hz1 hz2
  go_enter Tryd.func61, Tryd.ntmps61
  go_wp2_with fail
  go_loopw [0, 3, 4] (fun x v i wr => RNu w N x v i wr) (fun _ _ i _ => 8 - (intOf i).toNat)
  case atStart => unfold RNu; exact ⟨0, Nat.zero_le _, rfl, by simp, World.ownsRow_nil _ _ _ _, Below.refl _ _⟩
  case round =>
    obtain ⟨j, hj, rfl, rfl, hown, hbr⟩ := hrel
    have HO := Lib.hid hown
    have HBR := Lib.hid hbr
    have hszr := hbr.size
    by_cases hlt : j < 8
    · have hE := Lib.hid (le8_succ N j)
      have hmb := le8_digit N j
      have hYle : N / 2 ^ (8 * j) ≤ N := Nat.div_le_self _ _
      have hds := Lib.hid (div_step N j)
      generalize N / 2 ^ (8 * j) = Y at *
      generalize UInt8.ofNat Y = b at *
      have hb256 : b.toNat < 256 := b.toNat_lt
      clear hown hbr
      go_wp2_with (at_builtin; refine wpList_append_own_at _ rfl _ _ 24 rfl w.heap.size 5 i0 (.int .u8 0) 1 1 Tryd.underlying24 HI.out.1 HI.out.2.1 HI.out.2.2.1 HI.out.2.2.2 rfl (by decide) _ j (u8s (le8 N j)) rfl (HO.out.alloc _) ⟨wr.heap.size, 0, none⟩ 1 1 _ rfl rfl (cell_one_new _ _ _) (one_of rfl) (by unfold maxLen; omega) (by omega) (by simp; omega) ?_)
      intro v' w2 hown2 hgrow _ _
      have hlt' := HO.out.lt
      have HB2 : Hid (Below w.heap.size w w2) := Lib.hid ((HBR.out.alloc hszr _).grown hgrow (by simp; omega) (fun b hb => (hlt' b hb).1))
      have HO2 : Hid (w2.ownsRow w.heap.size 5 1 v' (j + 1) (u8s (le8 N (j + 1)))) := Lib.hid (by rw [hE.out, u8s_append]; exact hown2)
      clear hown2 hgrow hlt'
      go_wp2_with fail
      go_roundw
      case rel => unfold RNu; exact ⟨j + 1, by omega, by go_num, by rw [← hds.out]; simp, HO2.out, HB2.out⟩
      case measure => simp [intOf]; omega
    · obtain rfl : j = 8 := by omega
      obtain ⟨A, c, rfl, hY⟩ := own_byt (l := le8 N 8) hown
      have hs : (convert 24 9 (.slice A 8 c)).run Tryd.prog wr = .ok (.string (st (le8 N 8))) wr := byt_string hY
      clear hown hY hlt hj hbr
      go_wp2_with fail
      go_ret
      exact ⟨rfl, HBR.out⟩
def St2 (a b c : List UInt8) : Prop := st a ++ st b = st c ∧ (st a).size = a.length ∧ (st b).size = b.length ∧ ¬ (9223372036854775807 : Int) < (a.length : Int) + (b.length : Int)
theorem st2 {a b : List UInt8} (h : a.length + b.length < 9223372036854775807) : St2 a b (a ++ b) := ⟨st_app a b, st_size a, st_size b, by omega⟩
theorem row8_rfl (l : List UInt8) : (u8s l).toArray = row8 l := rfl
end Go.Proofs.YtnbjhdlnibmgdaaDoor

/-! The reference's Split. -/
namespace Go.Proofs.YtnbjhdlnibmgdaaDoor
open Go.RowKit

theorem str_info : (Tryd.prog.info? 9).map (fun i => (i.zero, i.size, i.bytes)) = some (some (.string ByteArray.empty), 1, 16) := by kernel_rfl
/-- Rows of bytes, as cells of strings. -/
def RSp (w : World) (b : List UInt8) (x v : Value) (wr : World) : Prop :=
  ∃ (m : List UInt8) (ls : List (List UInt8)), splitL b = ls ++ splitL m ∧ m.length + 64 * ls.length = b.length ∧ x = .string (st m) ∧ wr.ownsRow w.heap.size 9 1 v ls.length (strs ls) ∧ Below w.heap.size w wr
theorem RSp.same (w : World) (b : List UInt8) : RSp w b (.string (st b)) (.slice none 0 0) w := ⟨b, [], rfl, by simp, rfl, World.ownsRow_nil _ _ _ _, Below.refl _ _⟩

set_option maxHeartbeats 4000000 in
set_option maxRecDepth 100000 in
theorem rsplit_any (b : List UInt8) (hb : b.length ≤ 1000000) (w : World) :
    Calls Tryd.prog 58 #[.string (st b)] w fun e w' => ∃ v, e = .returned v ∧ w'.ownsRow w.heap.size 9 1 v (splitL b).length (strs (splitL b)) ∧ Below w.heap.size w w' := by
  obtain ⟨i0, hi, hz0, hz1, hz2⟩ := info_parts str_info
  have HI := Lib.hid (And.intro hi (And.intro hz0 (And.intro hz1 hz2)))
  have HBL := Lib.hid hb
  clear hi hz0 hz1 hz2 hb
  go_enter Tryd.func58, Tryd.ntmps58
  go_wp2_with fail
  go_loopw [0, 3] (fun x v wr => RSp w b x v wr) (fun x _ _ => stLen x)
  case atStart => exact RSp.same w b
  case round =>
    obtain ⟨m, ls, hsp, hml, rfl, hown, hbr⟩ := hrel
    have HO := Lib.hid hown
    have HBR := Lib.hid hbr
    have hszr := hbr.size
    have hsz := st_size m
    have hlb := HBL.out
    by_cases hlt : 64 < m.length
    · have hlt' : (64 : Int) < (m.length : Int) := by omega
      have htk : ∀ W, (Instr.slice 9 (.string (st m)) none (some (.int .i64 64)) none).run Tryd.prog W = .ok (.string (st (m.take 64))) W := fun W => st_to _ Tryd.underlying9 m W 64 64 rfl (by omega)
      have hdr : ∀ W, (Instr.slice 9 (.string (st m)) (some (.int .i64 64)) none none).run Tryd.prog W = .ok (.string (st (m.drop 64))) W := fun W => st_from _ Tryd.underlying9 m W 64 64 rfl (by omega)
      have HSP : Hid (splitL b = (ls ++ [m.take 64]) ++ splitL (m.drop 64)) := Lib.hid (by rw [hsp, splitL_long hlt]; simp)
      clear hown hbr hsp
      go_wp2_with (at_builtin; refine wpList_append_own_at _ rfl _ _ 30 rfl w.heap.size 9 i0 (.string ByteArray.empty) 1 16 Tryd.underlying30 HI.out.1 HI.out.2.1 HI.out.2.2.1 HI.out.2.2.2 rfl (by decide) _ ls.length (strs ls) rfl (HO.out.alloc _) ⟨wr.heap.size, 0, none⟩ 1 1 _ rfl rfl (cell_one_new _ _ _) (one_of rfl) (by unfold maxLen; omega) (by omega) (by simp; omega) ?_)
      intro v' w2 hown2 hgrow _ _
      have hlt2 := HO.out.lt
      have HB2 : Hid (Below w.heap.size w w2) := Lib.hid ((HBR.out.alloc hszr _).grown hgrow (by simp; omega) (fun b hb => (hlt2 b hb).1))
      have HO2 : Hid (w2.ownsRow w.heap.size 9 1 v' (ls ++ [m.take 64]).length (strs (ls ++ [m.take 64]))) := Lib.hid (by
        rw [strs, List.map_append, List.length_append]
        exact hown2)
      clear hown2 hgrow hlt2
      go_wp2_with fail
      go_roundw
      case rel => unfold RSp; exact ⟨m.drop 64, ls ++ [m.take 64], HSP.out, by simp; omega, rfl, HO2.out, HB2.out⟩
      case measure => simp only [stLen, st_size, List.length_drop]; omega
    · have hlt' : ¬ (64 : Int) < (m.length : Int) := by omega
      have HSP : Hid (splitL b = ls ++ [m]) := Lib.hid (by rw [hsp, splitL_short hlt])
      clear hown hbr hsp
      go_wp2_with (at_builtin; refine wpList_append_own_at _ rfl _ _ 30 rfl w.heap.size 9 i0 (.string ByteArray.empty) 1 16 Tryd.underlying30 HI.out.1 HI.out.2.1 HI.out.2.2.1 HI.out.2.2.2 rfl (by decide) _ ls.length (strs ls) rfl (HO.out.alloc _) ⟨wr.heap.size, 0, none⟩ 1 1 _ rfl rfl (cell_one_new _ _ _) (one_of rfl) (by unfold maxLen; omega) (by omega) (by simp; omega) ?_)
      intro v' w2 hown2 hgrow _ _
      have hlt2 := HO.out.lt
      have HB2 : Hid (Below w.heap.size w w2) := Lib.hid ((HBR.out.alloc hszr _).grown hgrow (by simp; omega) (fun b hb => (hlt2 b hb).1))
      have HO2 : Hid (w2.ownsRow w.heap.size 9 1 v' (splitL b).length (strs (splitL b))) := Lib.hid (by
        rw [HSP.out, strs, List.map_append, List.length_append]
        exact hown2)
      clear hown2 hgrow hlt2
      go_wp2_with fail
      go_ret
      exact ⟨_, rfl, HO2.out, HB2.out⟩
end Go.Proofs.YtnbjhdlnibmgdaaDoor

/-! A slice literal of one digest. -/
namespace Go.Proofs.YtnbjhdlnibmgdaaDoor
open Go.RowKit

theorem list32' {l : List UInt8} (h : l.length = 32) : ∃ a0 a1 a2 a3 a4 a5 a6 a7 a8 a9 b0 b1 b2 b3 b4 b5 b6 b7 b8 b9 c0 c1 c2 c3 c4 c5 c6 c7 c8 c9 d0 d1, l = [a0, a1, a2, a3, a4, a5, a6, a7, a8, a9, b0, b1, b2, b3, b4, b5, b6, b7, b8, b9, c0, c1, c2, c3, c4, c5, c6, c7, c8, c9, d0, d1] := by
  match l, h with
  | [a0, a1, a2, a3, a4, a5, a6, a7, a8, a9, b0, b1, b2, b3, b4, b5, b6, b7, b8, b9, c0, c1, c2, c3, c4, c5, c6, c7, c8, c9, d0, d1], _ => exact ⟨_, _, _, _, _, _, _, _, _, _, _, _, _, _, _, _, _, _, _, _, _, _, _, _, _, _, _, _, _, _, _, _, rfl⟩
set_option maxRecDepth 100000 in
theorem fill_id {l : List UInt8} (hl : l.length = 32) : Instr.fill (fun i => some (i * 32, 32)) (row8 (List.replicate 1 (List.replicate 32 0)).flatten) [(0, .agg (row8 l))] = some (row8 l) := by
  obtain ⟨a0, a1, a2, a3, a4, a5, a6, a7, a8, a9, b0, b1, b2, b3, b4, b5, b6, b7, b8, b9, c0, c1, c2, c3, c4, c5, c6, c7, c8, c9, d0, d1, rfl⟩ := list32' hl
  unfold row8 u8s
  kernel_rfl
/-- []api.Id{x} -/
theorem run_ids_lit (w : World) (XS : Array Value) {l : List UInt8} (h : XS = row8 l) (hl : l.length = 32) : (Instr.buildSlice 81 1 #[(0, .agg XS)]).run Tryd.prog w = .ok (.slice (some ⟨w.heap.size, 0, none⟩) 1 1) (w.alloc (.cells XS 36)) := by
  obtain ⟨i0, hi, hz0, hz1, _⟩ := info_parts id_info3
  have hm := made_ids 1
  unfold madeCells at hm
  subst h
  refine run_buildSlice w 81 36 1 #[(0, .agg (row8 l))] (row8 l) i0 (.agg zerosId) Tryd.underlying81 hi hz0 (by rw [hz1]; omega) (by rw [hz1]; omega) ?_
  rw [hz1, hm]
  exact fill_id hl
end Go.Proofs.YtnbjhdlnibmgdaaDoor
