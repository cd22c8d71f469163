/-
  digest.tail: what stands behind so many bytes.
  digest.sum.add: bytes behind those that were there.
  digest.sum.told: the bytes of the numbers.
  digest.Of.
  Rows of bytes that a call is handed, strings of bytes, equality of digests.
  proof, in lists: leaves, rows of digests, ways up.
-/
import Derived.Test.YtnbjhdlnibmgdaaDoorPk09
import Derived.Test.YtnbjhdlnibmgdaaDoorPk02
import Derived.Test.YtnbjhdlnibmgdaaDoorPk03
import Derived.Test.YtnbjhdlnibmgdaaDoorPk10
import Derived.Maps.AppendAt
import Derived.Laws.OwnMore
import Derived.Laws.CopyOwn
import Derived.Lib.SlBytesConst
import Derived.Deep.DeepCutAuto
/-! digest.tail: what stands behind so many bytes.
  digest.sum.add: bytes behind those that were there.
  digest.sum.told: the bytes of the numbers.
  digest.Of.
  Rows of bytes that a call is handed, strings of bytes, equality of digests. -/
/-! digest.tail: what stands behind so many bytes. -/
namespace Go.Proofs.YtnbjhdlnibmgdaaDoor
open Go.RowKit

/-- The byte i of a number. -/
def byteOf (x i : Nat) : UInt8 := UInt8.ofNat (x / 2 ^ (8 * i))
/-- A number's eight bytes, the highest first; the first j of them. -/
def be64 (x j : Nat) : List UInt8 := (List.range j).map fun t => byteOf x (7 - t)
theorem be64_succ (x j : Nat) : be64 x (j + 1) = be64 x j ++ [byteOf x (7 - j)] := by simp [be64, List.range_succ]
theorem be64_length (x j : Nat) : (be64 x j).length = j := by simp [be64]
/-- What stands behind n bytes. -/
def tailL (n : Nat) : List UInt8 := 128 :: List.replicate ((64 - (n + 9) % 64) % 64) 0
def tailB (n : Nat) : List UInt8 := tailL n ++ be64 (n * 8) 8
theorem tailL_length (n : Nat) : (tailL n).length = 1 + (64 - (n + 9) % 64) % 64 := by simp [tailL]; omega


theorem made_first (k : Nat) (Z : Array Value) (h : Z.toList = u8s (List.replicate (1 + k + 8) 0)) : (Z.setIfInBounds 0 (Value.int .u8 128)).toList.take ((1 + k) * 1) = u8s (128 :: List.replicate k 0) := by
  rw [Array.toList_setIfInBounds, h, show 1 + k + 8 = (k + 8) + 1 by omega, List.replicate_succ, show (1 + k) * 1 = k + 1 by omega]
  simp [u8s]
theorem shr_byte (x t : Nat) : ((x : Int) / 2 ^ (8 * t)) % 256 = ((byteOf x t).toNat : Int) := by
  unfold byteOf
  have h : ((x : Int) / 2 ^ (8 * t)) = ((x / 2 ^ (8 * t) : Nat) : Int) := by simp
  rw [h]
  simp

set_option maxHeartbeats 2000000 in
set_option maxRecDepth 100000 in
theorem tail_any (n : Nat) (hn : n < 1152921504606846976) (w : World) :
    Calls Tryd.prog 56 #[.int .u64 n] w fun e w' => ∃ A c, e = .returned (.slice A (tailB n).length c) ∧ Byt w' (w.heap.size ≤ ·) A (tailB n).length c (tailB n) ∧ Below w.heap.size w w' := by
  obtain ⟨i0, hi, hz0, hz1, hz2⟩ := info_parts u8_info
  obtain ⟨o, ho⟩ : ∃ o, o = (n + 9) % 64 := ⟨_, rfl⟩
  obtain ⟨k, hk⟩ : ∃ k, k = (64 - o) % 64 := ⟨_, rfl⟩
  have ho64 : o < 64 := by omega
  have hk64 : k < 64 := by omega
  have e1 : ((n : Int) + 1 + 8) % 64 = (o : Int) := by omega
  have e2 : (64 - (o : Int)) % 64 = (k : Int) := by omega
  have hmk := run_make (P := Tryd.prog) (t := 24) (e := 5) w i0 (.int .u8 0) Tryd.underlying24 hi hz0 .i64 .i64 (1 + (k : Int)) (1 + (k : Int) + 8) (by omega) (by omega) (by rw [hz2]; omega) (by omega)
  rw [show (1 + (k : Int)).toNat = 1 + k by omega, show (1 + (k : Int) + 8).toNat = 1 + k + 8 by omega, hz1] at hmk
  have hm0 := made_zero (1 + k + 8)
  obtain ⟨Z, hZ⟩ : ∃ Z, Z = madeCells (Value.int .u8 0).cells ((1 + k + 8) * 1) := ⟨_, rfl⟩
  rw [← hZ] at hmk
  have hZ2 : Z.toList = u8s (List.replicate (1 + k + 8) 0) := by rw [hZ]; exact hm0
  have hzz : Z[0]? = some (.int .u8 0) := by rw [← Array.getElem?_toList, hZ2, show 1 + k + 8 = (k + 8) + 1 by omega]; rfl
  have hzs : 0 < Z.size := by rw [← Array.length_toList, hZ2, u8s_length]; simp
  have HZ := Lib.hid (And.intro hZ2 (show Z.size = 1 + k + 8 by rw [← Array.length_toList, hZ2, u8s_length]; simp))
  have HL : Hid (tailL n = 128 :: List.replicate k 0) := Lib.hid (by rw [tailL, hk, ho])
  have HI := Lib.hid (And.intro hi (And.intro hz0 (And.intro hz1 hz2)))
  clear hk ho hi hz0 hz1 hz2 hZ hZ2 hm0
  go_enter Tryd.func56, Tryd.ntmps56
  go_wp2_with fail
  have hown : (w.alloc (.cells (Z.setIfInBounds 0 (Value.int .u8 128)) 5)).ownsRow w.heap.size 5 1 (.slice (some ⟨w.heap.size, 0, none⟩) (1 + k) (1 + k + 8)) (1 + k) (u8s (128 :: List.replicate k 0)) :=
    ⟨by simp [u8s, Nat.add_comm], .inr ⟨w.heap.size, 1 + k + 8, _, rfl, Nat.le_refl _, heap_alloc_new w _, by omega, by unfold maxLen; omega, by simp [HZ.out.2], made_first k Z HZ.out.1⟩⟩
  have hbl : Below w.heap.size w (w.alloc (.cells (Z.setIfInBounds 0 (Value.int .u8 128)) 5)) := (Below.refl _ _).alloc (Nat.le_refl _) _
  rw [← HL.out] at hown
  simp only [e1, e2]
  clear e1 e2
  generalize w.alloc (.cells (Z.setIfInBounds 0 (Value.int .u8 128)) 5) = w1 at *
  go_loopw [5, 6] (fun v i wr => ∃ j : Nat, j ≤ 8 ∧ i = .int .i64 (7 - (j : Int)) ∧ wr.ownsRow w.heap.size 5 1 v (tailL n ++ be64 (n * 8) j).length (u8s (tailL n ++ be64 (n * 8) j)) ∧ Below w.heap.size w wr) (fun _ i _ => (intOf i + 1).toNat)
  case atStart => exact ⟨0, by omega, rfl, by simpa [be64, HL.out, Nat.add_comm] using hown, hbl⟩
  case round =>
    obtain ⟨j, hj, rfl, ho, hb⟩ := hrel
    by_cases hlt : j < 8
    · have hsz := hb.size
      have HO := Lib.hid ho
      have HB := Lib.hid hb
      have hlen : (tailL n ++ be64 (n * 8) j).length + 1 ≤ 1000 := by rw [List.length_append, tailL_length, be64_length]; omega
      obtain ⟨D, hD⟩ : ∃ D, D = tailL n ++ be64 (n * 8) j := ⟨_, rfl⟩
      have hone : [Value.int .u8 (((n : Int) * 8 / 2 ^ (8 * (7 - j))) % 256)] = u8s [byteOf (n * 8) (7 - j)] := by
        rw [show (n : Int) * 8 = ((n * 8 : Nat) : Int) by omega, shr_byte]; rfl
      have HD := Lib.hid (And.intro hD hone)
      rw [← hD] at HO hlen
      clear ho hb hown hbl hmk hD hone
      go_wp2_with (at_builtin; refine wpList_append_own_at _ rfl _ _ 24 rfl w.heap.size 5 i0 (.int .u8 0) 1 1 Tryd.underlying24 HI.out.1 HI.out.2.1 HI.out.2.2.1 HI.out.2.2.2 rfl (by decide) _ D.length (u8s D) rfl (HO.out.alloc _) ⟨wr.heap.size, 0, none⟩ 1 1 _ rfl rfl (cell_one_new _ _ _) (one_of rfl) (by unfold maxLen; omega) (by omega) (by simp; omega) ?_)
      intro v' w2 hown hgrow hnn hat
      have hlt' := HO.out.lt
      have HB2 : Hid (Below w.heap.size w w2) := Lib.hid ((HB.out.alloc hsz _).grown hgrow (by simp; omega) (fun k hk => (hlt' k hk).1))
      have HO2 : Hid (w2.ownsRow w.heap.size 5 1 v' (tailL n ++ be64 (n * 8) (j + 1)).length (u8s (tailL n ++ be64 (n * 8) (j + 1)))) := Lib.hid (by
        rw [be64_succ, ← List.append_assoc, ← HD.out.1, u8s_append, ← HD.out.2, List.length_append]; exact hown)
      clear hown hgrow hnn hat hlt'
      go_wp2_with fail
      go_roundw
      case rel => exact ⟨j + 1, by omega, by congr 1; omega, HO2.out, HB2.out⟩
      case measure => simp [intOf]; omega
    · obtain rfl : j = 8 := by omega
      obtain ⟨A, c, rfl, hY⟩ := own_byt (l := tailB n) ho
      have HF := Lib.hid (And.intro hY hb)
      clear ho hown hbl hmk hY hb
      go_wp2_with fail
      go_ret
      exact ⟨A, c, rfl, HF.out⟩
end Go.Proofs.YtnbjhdlnibmgdaaDoor

/-! digest.sum.add: bytes behind those that were there. -/
namespace Go.Proofs.YtnbjhdlnibmgdaaDoor
open Go.RowKit

theorem Turned.setRow {S : Nat → Prop} {a w : World} (h : Turned S a w) {g : Nat} (hg : S g) (cs : Array Value) : Turned S a (w.setRow g cs) :=
  ⟨h.os, h.tape, h.output, by simpa [World.setRow] using h.size, fun i hi hs => by
    rw [← h.block i hi hs]
    simp only [World.setRow, Array.getElem?_modify]
    rw [if_neg (by rintro rfl; exact hs hg)]⟩
def slLen : Value → Nat
  | .slice _ n _ => n
  | _ => 0

/-- THE STRUCT AT BLOCK p IS A DIGEST UNDER WAY, behind the bytes m; 'al' is what it says of how many there were. -/
def Msg (w : World) (p : Nat) (m : List UInt8) (al : Nat) : Prop := ∃ b, Sum w p (hashN m (m.length / 64)) b (m.length % 64) al ∧ PartOf m b
section
variable {w w' : World} {p : Nat} {m : List UInt8} {al : Nat}
theorem Msg.lt (h : Msg w p m al) : p < w.heap.size := by obtain ⟨b, hs, _⟩ := h; exact hs.lt
theorem Msg.below (h : Msg w p m al) (hb : Below w.heap.size w w') : Msg w' p m al := by obtain ⟨b, hs, ho⟩ := h; exact ⟨b, hs.below hb, ho⟩
theorem Msg.turned {S : Nat → Prop} (h : Msg w p m al) (ht : Turned S w w') (hS : ¬ S p) : Msg w' p m al := by obtain ⟨b, hs, ho⟩ := h; exact ⟨b, hs.turned ht hS, ho⟩
end

theorem Sum.lay {w : World} {p d k al : Nat} {H : List (BitVec 32)} {m b l : List UInt8} (h : Sum w p H b d al) (hd : d = m.length % 64) (hk : k ≤ l.length) (hkd : d + k ≤ 64) :
    Sum (w.setRow p (List.take (8 + d) (u32s H ++ (u8s b ++ [Value.int .i64 (d : Int), Value.int .u64 (al : Int)])) ++ (u8s (List.take k l) ++ List.drop (8 + d + k) (u32s H ++ (u8s b ++ [Value.int .i64 (d : Int), Value.int .u64 (al : Int)])))).toArray) p H (laid m b l k) d al := by
  refine ⟨?_, h.eight, laid_length h.part hk (by rw [← hd]; exact hkd)⟩
  rw [setRow_at h.cells]
  have hlc := laid_cells H h.eight m b l k h.part (by omega) [Value.int .i64 (d : Int), Value.int .u64 (al : Int)]
  rw [← hd] at hlc
  rw [hlc]

theorem run_part_from {P : Program} (t e : TypeId) (N : Nat) (ht : P.underlying t = some (.array N e)) (hz : ∀ w, (Go.sizeOf e).run P w = .ok 1 w) (b o d : Nat) (hd : d < N) (W : World) :
    (Instr.sliceAt t (.pointer (some ⟨b, o, none⟩)) (some (.int .i64 (d : Int))) none none).run P W = .ok (.slice (some ⟨b, o + d, none⟩) (N - d) (N - d)) W := by
  have h1 : ¬ N = d := by omega
  have ha : P.arrayLen t = N := by simp [Program.arrayLen, ht]
  have he : P.elem t = e := by simp [Program.elem, ht]
  rw [run_sliceAt_array_l (P := P) W t _ (by rw [ha, he]; exact ht) .i64 (d : Int) (by omega) (by omega), he, hz]
  simp [Result.andThen, slicedAt, ha, h1, add_plain]

set_option maxHeartbeats 4000000 in
set_option maxRecDepth 100000 in
theorem add_any {w : World} {S : Nat → Prop} {p : Nat} {m l : List UInt8} {A : Option Addr} {n c : Nat} (hm : Msg w p m m.length) (ht : Tab w) (hy : Byt w S A n c l) (hS : ¬ S p) (hp : 0 < p ∧ 1 < p) (hl : m.length + l.length < 1152921504606846976) :
    Calls Tryd.prog 55 #[.pointer (some ⟨p, 0, none⟩), .slice A n c] w fun e w' => e = .returned (.tuple #[]) ∧ Msg w' p (m ++ l) (m ++ l).length ∧ Turned (· = p) w w' := by
  obtain ⟨b, hs, ho⟩ := hm
  have c73 := hs.all_
  have f73 := hs.free 73
  have hn := hy.len
  have hal : IntKind.u64.wrap ((m.length : Int) + (n : Int)) = ((m.length + n : Nat) : Int) := by simp [IntKind.wrap, IntKind.bits, IntKind.signed]; omega
  go_enter Tryd.func55, Tryd.ntmps55
  go_wp2_with fail
  have hS0 := hs.setAll (m.length + n)
  have hT0 : Turned (· = p) w (w.setCell ⟨p, 73, none⟩ (.int .u64 ((m.length : Int) + (n : Int)))) := (Turned.refl (· = p) w).set (p := p) rfl _ _
  rw [show ((m.length + n : Nat) : Int) = (m.length : Int) + (n : Int) by omega] at hS0
  have hY0 := hy.turned hT0 (fun b _ h1 h2 => hS (h2 ▸ h1))
  have hB0 := ht.turned hT0 (by omega) (by omega)
  have HN := Lib.hid hn
  clear c73 f73 hal hn hy hs ht
  generalize w.setCell ⟨p, 73, none⟩ (.int .u64 ((m.length : Int) + (n : Int))) = w0 at *
  go_loopw [1, 4] (fun v _ wr => ∃ (l0 l1 : List UInt8) (A1 : Option Addr) (n1 c1 : Nat) (b1 : List UInt8), v = .slice A1 n1 c1 ∧ l = l0 ++ l1 ∧ Byt wr S A1 n1 c1 l1 ∧ Sum wr p (hashN (m ++ l0) ((m ++ l0).length / 64)) b1 ((m ++ l0).length % 64) (m.length + n) ∧ PartOf (m ++ l0) b1 ∧ Tab wr ∧ Turned (· = p) w wr)
    (fun v _ _ => slLen v)
  case atStart => exact ⟨[], l, A, n, c, b, rfl, rfl, hY0, by simpa using hS0, by simpa using ho, hB0, hT0⟩
  case round =>
    obtain ⟨l0, l1, A1, n1, c1, b1, rfl, hll, hY, hSm, hPo, hTb, hTu⟩ := hrel
    generalize hm1 : m ++ l0 = m1 at *
    have hn1 := hY.len
    have hst := Lib.hid (And.intro hSm (And.intro hPo (And.intro hTb (And.intro hTu hY))))
    by_cases h0 : 0 < n1
    · obtain ⟨bb, off, rfl, hSb, hbl, _⟩ := hY.row h0
      have hnews := byt_news hY
      obtain ⟨d, hd⟩ : ∃ d, d = m1.length % 64 := ⟨_, rfl⟩
      have hd64 : d < 64 := by omega
      obtain ⟨k, hk⟩ : ∃ k, k = Nat.min n1 (64 - d) := ⟨_, rfl⟩
      have hk0 : 0 < k := by rw [hk]; exact (Nat.lt_min).2 ⟨h0, by omega⟩
      have hkn : k ≤ n1 := by rw [hk]; exact Nat.min_le_left _ _
      have hkd : d + k ≤ 64 := by have : k ≤ 64 - d := by (rw [hk]; exact Nat.min_le_right _ _)
                                  omega
      have hcl : (u8s (l1.take k)).length = k := by rw [u8s_length, List.length_take]; omega
      have hnews' : ∀ j v, (u8s (l1.take k))[j]? = some v → wr.cell? ((⟨bb, off, none⟩ : Addr).add j) = some v := by
        intro j v hj
        have hjk : j < k := by have := (List.getElem?_eq_some_iff.1 hj).1; rw [hcl] at this; exact this
        refine hnews j v ?_
        rw [← hj]
        simp [u8s, List.getElem?_take_of_lt hjk]
      have hsz : (Tryd.prog.info? 5).map (·.size) = some 1 := by kernel_rfl
      rw [← hd] at hSm
      have hfit : 8 + d + (u8s (l1.take k)).length ≤ (u32s (hashN m1 (m1.length / 64)) ++ (u8s b1 ++ [Value.int .i64 (d : Int), Value.int .u64 ((m.length + n : Nat) : Int)])).length := by
        rw [hcl, List.length_append, List.length_append, u32s_length, u8s_length, hSm.eight, hSm.part]; simp; omega
      have HCP := Lib.hid (And.intro hSm.cells (And.intro hnews' (And.intro hsz hfit)))
      have HKK := Lib.hid (And.intro hk (And.intro hcl hkn))
      have hc3 := run_cut (P := Tryd.prog) 24 5 Tryd.underlying24 u8_size (some ⟨bb, off, none⟩) n1 c1 k hkn
      have HDD := Lib.hid hd
      have HLL := Lib.hid (And.intro hll (And.intro hm1 hn1))
      have c72 := hSm.have_
      have f72 := hSm.free 72
      have hcut := run_part_from (P := Tryd.prog) 96 5 64 Tryd.underlying96 u8_size p 8 d hd64
      have hS2 := (hSm.drew).lay (l := l1) (k := k) hd (by omega) hkd
      have hT2 : Turned (· = p) w (wr.drew.setRow p (List.take (8 + d) (u32s (hashN m1 (m1.length / 64)) ++ (u8s b1 ++ [Value.int .i64 (d : Int), Value.int .u64 ((m.length + n : Nat) : Int)])) ++ (u8s (List.take k l1) ++ List.drop (8 + d + k) (u32s (hashN m1 (m1.length / 64)) ++ (u8s b1 ++ [Value.int .i64 (d : Int), Value.int .u64 ((m.length + n : Nat) : Int)])))).toArray) := hTu.drew.setRow rfl _
      have hT3 : Turned (· = p) wr (wr.drew.setRow p (List.take (8 + d) (u32s (hashN m1 (m1.length / 64)) ++ (u8s b1 ++ [Value.int .i64 (d : Int), Value.int .u64 ((m.length + n : Nat) : Int)])) ++ (u8s (List.take k l1) ++ List.drop (8 + d + k) (u32s (hashN m1 (m1.length / 64)) ++ (u8s b1 ++ [Value.int .i64 (d : Int), Value.int .u64 ((m.length + n : Nat) : Int)])))).toArray) := (Turned.refl (· = p) wr).drew.setRow (g := p) rfl _
      have HST := Lib.hid (And.intro hS2 (And.intro hT2 hT3))
      clear hS2 hT2 hT3
      clear hSm hPo hTb hTu hY hd hll hm1 hn1 hk hcl hnews hnews' hsz hfit
      go_wp2_with fail
      refine wp_region_still_tail 9 (by kernel_rfl) (by kernel_rfl) ?_
      simp only [List.take_succ_cons, List.take_zero, List.drop_succ_cons, List.drop_zero]
      show wpStill _ _ wr.drew (fun a' => wpList _ _ _ _ a' wr.drew) _ _
      have c72 : wr.drew.cell? ⟨p, 72, none⟩ = _ := c72
      have f72 : wr.drew.frozen? ⟨p, 72, none⟩ = _ := f72
      iterate 9 still_step
      refine wpStill_nil ?_
      refine wpList_copy_own (by rfl) (.tmp 25) (.tmp 26) 24 24 (by rfl) 5 Tryd.underlying24 HCP.out.2.2.1 p (8 + d) (64 - d) (64 - d) ⟨bb, off, none⟩ n1 c1 (by rfl) (by rfl) _ _ HCP.out.1 (u8s (l1.take k)) (by rw [HKK.out.2.1]; exact HKK.out.1) HCP.out.2.1 HCP.out.2.2.2 (u8s_one _) ?_
      rw [HKK.out.2.1]
      generalize hw2 : World.setRow wr.drew p _ = w2
      have HST2 : Hid (Sum w2 p (hashN m1 (m1.length / 64)) (laid m1 b1 l1 k) d (m.length + n) ∧ Turned (· = p) w w2 ∧ Turned (· = p) wr w2) := Lib.hid (hw2 ▸ HST.out)
      clear HST hw2 c72 f72 HCP
      have c72 := HST2.out.1.have_
      have f72 := HST2.out.1.free 72
      have hS3 := HST2.out.1.setHave (d + k)
      rw [show ((d + k : Nat) : Int) = (d : Int) + (k : Int) by omega] at hS3
      have hT3 := HST2.out.2.1.set (p := p) rfl 72 (.int .i64 ((d : Int) + (k : Int)))
      have hR3 := HST2.out.2.2.set (p := p) rfl 72 (.int .i64 ((d : Int) + (k : Int)))
      have HFN : Hid (∀ w5 Hx dx, Sum w5 p Hx (laid m1 b1 l1 k) dx (m.length + n) → Turned (· = p) w w5 → Turned (· = p) wr w5 → hashN (m1 ++ l1.take k) ((m1 ++ l1.take k).length / 64) = Hx → (m1 ++ l1.take k).length % 64 = dx → PartOf (m1 ++ l1.take k) (laid m1 b1 l1 k) →
          l = (l0 ++ l1.take k) ++ l1.drop k ∧ Byt w5 S (cutA (some ⟨bb, off, none⟩) c1 k) (n1 - k) (c1 - k) (l1.drop k) ∧ Sum w5 p (hashN (m ++ (l0 ++ l1.take k)) ((m ++ (l0 ++ l1.take k)).length / 64)) (laid m1 b1 l1 k) ((m ++ (l0 ++ l1.take k)).length % 64) (m.length + n) ∧ PartOf (m ++ (l0 ++ l1.take k)) (laid m1 b1 l1 k) ∧ Tab w5 ∧ Turned (· = p) w w5) := Lib.hid (by
        intro w5 Hx dx h1 h2 h3 h4 h5 h6
        rw [← List.append_assoc m, HLL.out.2.1, h4, h5]
        exact ⟨by rw [List.append_assoc, List.take_append_drop]; exact HLL.out.1, (hst.out.2.2.2.2.turned h3 (fun b hb1 hb2 hb3 => hS (hb3 ▸ hb2))).cut hkn, h1, h6, hst.out.2.2.1.turned h3 (by omega) (by omega), h2⟩)
      by_cases hful : d + k = 64
      · have he : ((d : Int) + (k : Int) == 64) = true := by simp; omega
        have HFU := Lib.hid hful
        have HS3 := Lib.hid (And.intro hS3 (And.intro hT3 hR3))
        clear hful hS3 hT3 hR3
        go_wp2_with fail
        refine (mix_any HS3.out.1 (hst.out.2.2.1.turned HS3.out.2.2 (by omega) (by omega))).mono ?_
        rintro _ w4 ⟨rfl, hS4, hT4⟩
        clear c72 f72
        have f72 := hS4.free 72
        have c72 := hS4.have_
        have hT5 := (HS3.out.2.1.trans hT4 fun _ _ h => h).set (p := p) rfl 72 (.int .i64 0)
        have hR5 := (HS3.out.2.2.trans hT4 fun _ _ h => h).set (p := p) rfl 72 (.int .i64 0)
        have hS5 := hS4.setHave 0
        rw [show ((0 : Nat) : Int) = (0 : Int) from rfl] at hS5
        have HS5 := Lib.hid (And.intro hS5 (And.intro hT5 hR5))
        obtain ⟨q1, q2, q3⟩ := part_full (l := l1) (n := k) hst.out.2.1 (by rw [HLL.out.2.2]; exact hkn) (by rw [← HDD.out]; exact HFU.out)
        have HQ := Lib.hid (HFN.out _ _ _ HS5.out.1 HS5.out.2.1 HS5.out.2.2 q3 q2 q1)
        clear hS4 hT4 hS5 hT5 hR5 q1 q2 q3
        go_wp2_with fail
        go_roundw
        case rel => exact ⟨_, _, _, _, _, _, rfl, HQ.out⟩
        case measure => simp [slLen]; omega
      · have he : ((d : Int) + (k : Int) == 64) = false := by simp; omega
        have HFU := Lib.hid hful
        obtain ⟨q1, q2, q3⟩ := part_short (l := l1) (n := k) hst.out.2.1 (by rw [HLL.out.2.2]; exact hkn) (by rw [← HDD.out]; omega)
        rw [← HDD.out] at q2
        have HQ := Lib.hid (HFN.out _ _ _ hS3 hT3 hR3 q3 q2 q1)
        clear hful hS3 hT3 hR3 q1 q2 q3
        go_wp2_with fail
        go_roundw
        case rel => exact ⟨_, _, _, _, _, _, rfl, HQ.out⟩
        case measure => simp [slLen]; omega
    · obtain rfl : n1 = 0 := by omega
      have hl1 : l1 = [] := List.eq_nil_of_length_eq_zero hn1
      have he : m ++ l = m1 := by rw [hll, hl1, List.append_nil, hm1]
      have HF : Hid (Msg wr p (m ++ l) (m ++ l).length ∧ Turned (· = p) w wr) := Lib.hid ⟨by rw [he, show m1.length = m.length + n by rw [← he, List.length_append, HN.out]]; exact ⟨b1, hSm, hPo⟩, hTu⟩
      clear hSm hPo hTb hTu hY hll hm1 hn1 h0 hl1 he hst
      go_wp2_with fail
      go_end0
      exact ⟨rfl, HF.out⟩
end Go.Proofs.YtnbjhdlnibmgdaaDoor

/-! digest.sum.told: the bytes of the numbers. -/
namespace Go.Proofs.YtnbjhdlnibmgdaaDoor
open Go.RowKit

/-- The byte k of the numbers, the highest one of each first. -/
def toldAt (H : List (BitVec 32)) (k : Nat) : UInt8 := UInt8.ofNat ((H[k / 4]?.getD 0).toNat / 2 ^ (8 * (3 - k % 4)))
def toldA (H : List (BitVec 32)) : Nat → List UInt8
  | 0 => List.replicate 32 0
  | k + 1 => (toldA H k).set k (toldAt H k)
theorem toldA_length (H : List (BitVec 32)) : ∀ k, (toldA H k).length = 32
  | 0 => by simp [toldA]
  | k + 1 => by simp [toldA, toldA_length H k]
theorem zeros32 : #[Value.int .u8 0, .int .u8 0, .int .u8 0, .int .u8 0, .int .u8 0, .int .u8 0, .int .u8 0, .int .u8 0, .int .u8 0, .int .u8 0, .int .u8 0, .int .u8 0, .int .u8 0, .int .u8 0, .int .u8 0, .int .u8 0,
    .int .u8 0, .int .u8 0, .int .u8 0, .int .u8 0, .int .u8 0, .int .u8 0, .int .u8 0, .int .u8 0, .int .u8 0, .int .u8 0, .int .u8 0, .int .u8 0, .int .u8 0, .int .u8 0, .int .u8 0, .int .u8 0] = (u8s (List.replicate 32 0)).toArray := by rfl


set_option maxHeartbeats 2000000 in
set_option maxRecDepth 100000 in
theorem told_any {w : World} {p : Nat} {H : List (BitVec 32)} {b : List UInt8} {hv al : Nat} (hs : Sum w p H b hv al) :
    Calls Tryd.prog 57 #[.pointer (some ⟨p, 0, none⟩)] w fun e w' => e = .returned (.agg (u8s (toldA H 32)).toArray) ∧ Below w.heap.size w w' := by
  have HS := Lib.hid hs
  clear hs
  go_enter Tryd.func57, Tryd.ntmps57
  go_wp2_with fail
  go_loopw [4, 5] (fun _ i wr => ∃ k : Nat, k ≤ 32 ∧ i = .int .i64 k ∧ Below w.heap.size w wr ∧ wr.heap[w.heap.size]? = some (.cells (u8s (List.replicate 32 0)).toArray 36 (0, 0)) ∧ wr.heap[w.heap.size + 1]? = some (.cells (u8s (toldA H k)).toArray 36 (0, 0)))
    (fun _ i _ => 32 - (intOf i).toNat)
  case atStart => exact ⟨0, Nat.zero_le _, rfl, ((Below.refl _ _).alloc (Nat.le_refl _) _).alloc (by simp) _, by rw [zeros32]; exact (Below.heap_alloc _ _ _ (by simp)).trans (heap_alloc_new w _), by rw [zeros32]; have := heap_alloc_new (w.alloc (.cells (u8s (List.replicate 32 0)).toArray 36)) (.cells (u8s (List.replicate 32 0)).toArray 36); simpa [toldA] using this⟩
  case round =>
    obtain ⟨k, hk, rfl, hbr, h1, h2⟩ := hrel
    by_cases hlt : k < 32
    · have hw := (HS.out.below hbr).word (k / 4) (by omega)
      have hcell := u8s_cell h2 k (by rw [toldA_length]; omega)
      have hfree := free_of_cells h2 k
      have hE := Lib.hid (show toldA H (k + 1) = (toldA H k).set k (UInt8.ofNat ((H[k / 4]?.getD 0).toNat / 2 ^ (8 * (3 - k % 4)))) from rfl)
      generalize H[k / 4]?.getD 0 = x at *
      have HTE := Lib.hid (told_byte x (8 * (3 - k % 4)))
      have H1 := Lib.hid h1
      have H2 := Lib.hid h2
      have hm : k % 4 < 4 := by omega
      generalize (toldA H k)[k]?.getD 0 = y at *
      clear h1 h2
      go_wp2
      go_roundw
      case rel =>
        rw [HTE.out]
        refine ⟨k + 1, by omega, by go_num, hbr.setCell (by simp) _, (Below.heap_setCell _ _ _ _ (by simp)).trans H1.out, ?_⟩
        rw [u8s_cells_set H2.out k, hE.out]
      case measure => simp [intOf]; omega
    · obtain rfl : k = 32 := by omega
      have H1 := Lib.hid h1
      have hl := toldA_length H 32
      generalize hWs : toldA H 32 = Ws at *
      have hi16 : (Tryd.prog.info? 36).map (·.size) = some (u8s Ws).toArray.size := by rw [show (u8s Ws).toArray.size = 32 by simp [u8s_length, hl]]; exact id_info
      have HS := Lib.hid (show (u8s (List.replicate 32 0)).toArray.size = (u8s Ws).toArray.size by simp [u8s_length, hl])
      obtain ⟨RS, hRS⟩ : ∃ RS, RS = (u8s Ws).toArray := ⟨_, rfl⟩
      have hall : RS.all (·.oneCell') = true := by rw [hRS]; exact all_oneCell_toArray (u8s_one Ws)
      rw [← hRS] at hi16 HS h2
      have HA := Lib.hid (And.intro hi16 hall)
      have H2 := Lib.hid h2
      have HR := Lib.hid (And.intro hRS hWs)
      clear h1 h2 hi16 hall hWs hRS hl
      go_wp2_with (first | (refine wpList_load_row (by rfl) 36 (.tmp 3) (by rfl) (w.heap.size + 1) (by rfl) 36 RS (0, 0) _ H2.out Tryd.underlying36 (by rfl) HA.out.1 ?_) | (refine wpList_store_row (by rfl) 36 (.tmp 2) (.tmp 24) (by rfl) w.heap.size RS (by rfl) (by rfl) 36 _ H1.out HA.out.1 HS.out HA.out.2 ?_))
      refine bodyPost_ret (results_cell_row rfl _ _ w.heap.size 36 RS (0, 0) _ rfl (setRow_at H1.out) Tryd.underlying36 rfl HA.out.1) rfl ⟨by rw [HR.out.1, ← HR.out.2], below_setRow hbr (Nat.le_refl _) _⟩
end Go.Proofs.YtnbjhdlnibmgdaaDoor

/-! digest.Of. -/
namespace Go.Proofs.YtnbjhdlnibmgdaaDoor
open Go.RowKit

/-- THE DIGEST of bytes. -/
def shaL (m : List UInt8) : List UInt8 := toldA (hashN (m ++ tailB m.length) ((m ++ tailB m.length).length / 64)) 32
theorem shaL_length (m : List UInt8) : (shaL m).length = 32 := toldA_length _ _

def sumZ : Array Value := (u32s hTab ++ (u8s (List.replicate 64 0) ++ [Value.int .i64 ((0 : Nat) : Int), Value.int .u64 ((0 : Nat) : Int)])).toArray
theorem build_sum : (Tryd.prog.built 98 [(0, .agg (u32s hTab).toArray)]) = some sumZ := by unfold sumZ; kernel_rfl


def sum0 : Array Value := (u32s (List.replicate 8 0) ++ (u8s (List.replicate 64 0) ++ [Value.int .i64 ((0 : Nat) : Int), Value.int .u64 ((0 : Nat) : Int)])).toArray
theorem zero_sum : ∀ W, (zeroValue 98).run Tryd.prog W = .ok (.agg sum0) W := fun W => by unfold sum0; kernel_rfl
theorem sum_start (w : World) (p : Nat) (h : w.heap[p]? = some (.cells sumZ 98 (0, 0))) : Sum w p hTab (List.replicate 64 0) 0 0 := ⟨h, rfl, by simp⟩

theorem range_first {w : World} (h : Tab w) : w.rangeAt 0 0 (u32s hTab) := fun j v hj => by
  have hjl : j < 8 := by
    have := (List.getElem?_eq_some_iff.1 hj).1
    rw [u32s_length] at this
    exact this
  rw [Nat.zero_add, h.first j hjl, ← hj]
  exact (u32s_at hTab j hjl).symm

set_option maxHeartbeats 4000000 in
set_option maxRecDepth 100000 in
theorem of_any {w : World} {S : Nat → Prop} {A : Option Addr} {n c : Nat} {ls : List (List UInt8)} (h : Rws w S A n c ls) (ht : Tab w) (hl : ls.flatten.length < 576460752303423488) :
    Calls Tryd.prog 42 #[.slice A n c] w fun e w' => e = .returned (.agg (u8s (shaL ls.flatten)).toArray) ∧ Below w.heap.size w w' := by
  have h2 := ht.lt2
  have HT := Lib.hid ht
  have H := Lib.hid (h.mono (T := fun b => b < w.heap.size) fun b hb _ => hb)
  have HZ := Lib.hid (And.intro (show (Tryd.prog.info? 95).map (·.size) = some (u32s hTab).length by kernel_rfl) (And.intro (show (Tryd.prog.info? 98).map (·.size) = some sumZ.size by unfold sumZ; kernel_rfl) (show sumZ.all (·.oneCell') = true by unfold sumZ; kernel_rfl)))
  have HB1 : Hid (Below w.heap.size w (w.alloc (.cells (u8s (List.replicate 32 0)).toArray 36))) := Lib.hid ((Below.refl _ _).alloc (Nat.le_refl _) _)
  have HG : Hid (((w.alloc (.cells (u8s (List.replicate 32 0)).toArray 36)).alloc (.cells sum0 98)).heap[w.heap.size + 1]? = some (.cells sum0 98 (0, 0))) := Lib.hid (by
    have := heap_alloc_new (w.alloc (.cells (u8s (List.replicate 32 0)).toArray 36)) (.cells sum0 98); simpa using this)
  have HO : Hid (((w.alloc (.cells (u8s (List.replicate 32 0)).toArray 36)).alloc (.cells sum0 98)).heap[w.heap.size]? = some (.cells (u8s (List.replicate 32 0)).toArray 36 (0, 0))) := Lib.hid ((Below.heap_alloc _ _ _ (by simp)).trans (heap_alloc_new w _))
  rw [← zeros32] at HB1 HG HO
  have HN := Lib.hid h.len
  have hnm : n ≤ 9223372036854775807 := by
    have h1 := h.cap
    have h2 := h.max
    unfold maxLen at h2
    omega
  have hzs := zero_sum
  clear h ht
  go_enter Tryd.func42, Tryd.ntmps42
  go_wp2_with (first | (refine wpList_load_mid (by rfl) 95 (.global 0) (by rfl) 0 0 (by rfl) (u32s hTab) _ (range_first (HT.out.below HB1.out)) Tryd.underlying95 (by rfl) HZ.out.1 ?_) | (refine wpList_built (by rfl) 98 #[(0, .tmp 6)] (by rfl) [(0, .agg (u32s hTab).toArray)] (by simp [Act.eval, Act.put]) sumZ build_sum ?_) | (refine wpList_store_row (by rfl) 98 (.tmp 3) (.tmp 7) (by rfl) (w.heap.size + 1) sumZ (by rfl) (by rfl) 98 _ HG.out HZ.out.2.1 (by unfold sum0 sumZ; rfl) HZ.out.2.2 ?_))
  have hsum0 : Sum ((((w.alloc (.cells (u8s (List.replicate 32 0)).toArray 36)).alloc (.cells sum0 98)).setRow (w.heap.size + 1) sumZ)) (w.heap.size + 1) hTab (List.replicate 64 0) 0 0 := sum_start _ _ (setRow_at (by have := HG.out; rw [zeros32] at this; exact this))
  have hblk0 : ((((w.alloc (.cells (u8s (List.replicate 32 0)).toArray 36)).alloc (.cells sum0 98)).setRow (w.heap.size + 1) sumZ)).heap[w.heap.size]? = some (.cells (u8s (List.replicate 32 0)).toArray 36 (0, 0)) := by
    have h1 := HO.out
    rw [zeros32] at h1
    rw [← h1]
    simp only [World.setRow, Array.getElem?_modify]
    rw [if_neg (by omega)]
  have hbl0 : Below w.heap.size w (((w.alloc (.cells (u8s (List.replicate 32 0)).toArray 36)).alloc (.cells sum0 98)).setRow (w.heap.size + 1) sumZ) := below_setRow (((Below.refl _ _).alloc (Nat.le_refl _) _).alloc (by simp) _) (by omega) _
  rw [zeros32]
  generalize ((w.alloc (.cells (u8s (List.replicate 32 0)).toArray 36)).alloc (.cells sum0 98)).setRow (w.heap.size + 1) sumZ = w1 at *
  clear HG HO HB1 hzs
  obtain ⟨p, hp⟩ : ∃ p, p = w.heap.size + 1 := ⟨_, rfl⟩
  rw [← hp] at hsum0 ⊢
  have HP := Lib.hid hp
  clear hp
  go_loopw [5, 10] (fun _ i wr => ∃ k : Nat, k ≤ n ∧ i = .int .i64 k ∧ Msg wr p (ls.take k).flatten (ls.take k).flatten.length ∧ Below w.heap.size w wr ∧ wr.heap[w.heap.size]? = some (.cells (u8s (List.replicate 32 0)).toArray 36 (0, 0))) (fun _ i _ => n - (intOf i).toNat)
  case atStart => exact ⟨0, Nat.zero_le _, rfl, ⟨List.replicate 64 0, by simpa [hashN] using hsum0, ⟨by simp, by simp⟩⟩, hbl0, hblk0⟩
  case round =>
    obtain ⟨k, hk, rfl, hM, hB, hO⟩ := hrel
    clear hsum0 hblk0 hbl0
    have HM := Lib.hid (And.intro hM (And.intro hB hO))
    have hf := flat_le ls k
    by_cases hlt : k < n
    · obtain ⟨b, off, rfl, hbs, hblt, hc⟩ := (H.out.below hB).row (by omega)
      obtain ⟨Ai, ni, ci, hci, hyi⟩ := hc k hlt
      have hfl := flat_take ls k (by rw [HN.out]; exact hlt)
      have hf2 := flat_le ls (k + 1)
      rw [hfl, List.length_append] at hf2
      have hadd := add_any hM (HT.out.below hB) hyi (by rw [HP.out]; omega) (by rw [HP.out]; omega) (by omega)
      rw [← hfl] at hadd
      clear hM hO hc hyi hfl hf2
      go_wp2_with fail
      refine hadd.mono ?_
      rintro _ w2 ⟨rfl, hM2, hT2⟩
      have HF : Hid (Msg w2 p (ls.take (k + 1)).flatten (ls.take (k + 1)).flatten.length ∧ Below w.heap.size w w2 ∧ w2.heap[w.heap.size]? = some (.cells (u8s (List.replicate 32 0)).toArray 36 (0, 0))) :=
        Lib.hid ⟨hM2, HM.out.2.1.trans ((hT2.mono (T := (w.heap.size ≤ ·)) fun b _ hb => by rw [hb, HP.out]; omega).below HM.out.2.1.size), (hT2.block _ (by have := HM.out.1.lt; rw [HP.out] at this; omega) (by rw [HP.out]; omega)).trans HM.out.2.2⟩
      clear hM2 hT2 hadd hB
      go_wp2_with fail
      go_roundw
      case rel => exact ⟨k + 1, by omega, by go_num, HF.out⟩
      case measure => simp [intOf]; omega
    · obtain rfl : k = n := by omega
      have hall : ls.take k = ls := by rw [← HN.out, List.take_length]
      obtain ⟨M, hMM⟩ : ∃ M, M = ls.flatten := ⟨_, rfl⟩
      rw [hall, ← hMM] at HM hM
      have hMl : M.length < 576460752303423488 := by rw [hMM]; exact hl
      have HMM := Lib.hid hMM
      obtain ⟨b0, hs0, ho0⟩ := hM
      have c73 := hs0.all_
      clear hs0 ho0 hO hall hf hlt hk hMM hl
      go_wp2_with fail
      refine (tail_any M.length (by omega) _).mono ?_
      rintro _ w2 ⟨A2, c2, rfl, hY2, hB2⟩
      have hM2 := HM.out.1.below hB2
      have hb2 := HM.out.2.1.trans (hB2.mono HM.out.2.1.size)
      have hO2 := (hB2.block _ (by have := HM.out.1.lt; rw [HP.out] at this; omega)).trans HM.out.2.2
      have hplt := HM.out.1.lt
      have htl : (tailB M.length).length ≤ 72 := by rw [tailB, List.length_append, tailL_length, be64_length]; omega
      have hadd := add_any hM2 (HT.out.below hb2) hY2 (by omega) (by rw [HP.out]; omega) (by omega)
      clear hM2 hY2 hB2 hB c73
      go_wp2_with fail
      refine hadd.mono ?_
      rintro _ w3 ⟨rfl, hM3, hT3⟩
      have hb3 := hb2.trans ((hT3.mono (T := (w.heap.size ≤ ·)) fun b _ hb => by rw [hb, HP.out]; omega).below hb2.size)
      have hO3 := (hT3.block _ (by have := hb2.size; have := lt_of_cells hO2; omega) (by rw [HP.out]; omega)).trans hO2
      obtain ⟨b3, hs3, ho3⟩ := hM3
      have htold := told_any hs3
      have hsh : toldA (hashN (M ++ tailB M.length) ((M ++ tailB M.length).length / 64)) 32 = shaL M := rfl
      rw [hsh] at htold
      clear hs3 ho3 hadd hT3 hO2 hsh
      obtain ⟨RS, hRS⟩ : ∃ RS, RS = (u8s (shaL M)).toArray := ⟨_, rfl⟩
      have hsz : RS.size = 32 := by rw [hRS]; simp [u8s_length, shaL_length]
      have HR := Lib.hid (And.intro hRS (And.intro hsz (And.intro (show (Tryd.prog.info? 36).map (·.size) = some RS.size by rw [hsz]; exact id_info) (show RS.all (·.oneCell') = true by rw [hRS]; exact all_oneCell_toArray (u8s_one _)))))
      rw [← hRS] at htold
      clear hRS hsz
      go_wp2_with fail
      refine htold.mono ?_
      rintro _ w4 ⟨rfl, hB4⟩
      have HB4 := Lib.hid (hb3.trans (hB4.mono hb3.size))
      have HO4 := Lib.hid ((hB4.block _ (lt_of_cells hO3)).trans hO3)
      clear hB4 hO3 htold hb3 hb2
      go_wp2_with (refine wpList_store_row (by rfl) 36 (.tmp 2) (.tmp 21) (by rfl) w.heap.size RS (by rfl) (by rfl) 36 _ HO4.out HR.out.2.2.1 (by rw [HR.out.2.1]; rfl) HR.out.2.2.2 ?_)
      exact bodyPost_ret (results_cell_row rfl _ _ w.heap.size 36 RS (0, 0) _ rfl (setRow_at HO4.out) Tryd.underlying36 rfl HR.out.2.2.1) rfl ⟨by rw [HR.out.1, HMM.out], below_setRow HB4.out (Nat.le_refl _) _⟩
end Go.Proofs.YtnbjhdlnibmgdaaDoor

/-! Rows of bytes that a call is handed, strings of bytes, equality of digests. -/
namespace Go.Proofs.YtnbjhdlnibmgdaaDoor
open Go.RowKit




/-- A variadic call's rows. -/
theorem rws_new {w : World} {S : Nat → Prop} (rs : List (Option Addr × Nat × Nat)) (ls : List (List UInt8)) (hl : ls.length = rs.length) (hm : rs.length ≤ 1000)
    (h : ∀ (i : Nat) (r : Option Addr × Nat × Nat), rs[i]? = some r → Byt w S r.1 r.2.1 r.2.2 (ls[i]?.getD [])) : Rws (w.alloc (.cells (rs.map fun r => Value.slice r.1 r.2.1 r.2.2).toArray 24)) (fun _ => True) (some ⟨w.heap.size, 0, none⟩) rs.length rs.length ls := by
  refine ⟨hl, Nat.le_refl _, by unfold maxLen; omega, fun _ => ⟨w.heap.size, 0, rfl, trivial, by simp, fun i hi => ?_⟩⟩
  refine ⟨rs[i].1, rs[i].2.1, rs[i].2.2, ?_, ((h i rs[i] (List.getElem?_eq_getElem hi)).mono fun _ _ _ => trivial).below ((Below.refl _ _).alloc (Nat.le_refl _) _)⟩
  rw [cell_of_cells (heap_alloc_new w _)]
  simp [List.getElem?_eq_getElem hi]
theorem rws_one {w : World} {S : Nat → Prop} {A : Option Addr} {n c : Nat} {l : List UInt8} (h : Byt w S A n c l) :
    Rws (w.alloc (.cells #[.slice A n c] 24)) (fun _ => True) (some ⟨w.heap.size, 0, none⟩) 1 1 [l] :=
  rws_new [(A, n, c)] [l] rfl (by simp) fun i r hr => by
    match i, hr with
    | 0, hr => simp at hr; subst hr; exact h
theorem rws_two {w : World} {S : Nat → Prop} {A B : Option Addr} {n c k d : Nat} {l m : List UInt8} (h : Byt w S A n c l) (h2 : Byt w S B k d m) :
    Rws (w.alloc (.cells #[.slice A n c, .slice B k d] 24)) (fun _ => True) (some ⟨w.heap.size, 0, none⟩) 2 2 [l, m] :=
  rws_new [(A, n, c), (B, k, d)] [l, m] rfl (by simp) fun i r hr => by
    match i, hr with
    | 0, hr => simp at hr; subst hr; exact h
    | 1, hr => simp at hr; subst hr; exact h2

theorem id_eql (l m : List UInt8) (hl : l.length = 32) (hm : m.length = 32) (w : World) : (Op.equalIn 10000 36 (.agg (u8s l).toArray) (.agg (u8s m).toArray)).run Tryd.prog w = .ok (decide (l = m)) w := by
  obtain ⟨i0, hi, hz0, hz1, hz2⟩ := info_parts u8_info
  exact run_equalIn_bytes w Tryd.underlying36 Tryd.underlying5 hi (by kernel_rfl) 9998 l m hl hm
end Go.Proofs.YtnbjhdlnibmgdaaDoor

/-! proof, in lists: leaves, rows of digests, ways up. -/
namespace Go.Proofs.YtnbjhdlnibmgdaaDoor
open Go.RowKit

/-- The leaves of bytes. -/
def splitL (b : List UInt8) : List (List UInt8) := if 64 < b.length then b.take 64 :: splitL (b.drop 64) else [b]
termination_by b.length
decreasing_by rw [List.length_drop]; omega
theorem splitL_long {b : List UInt8} (h : 64 < b.length) : splitL b = b.take 64 :: splitL (b.drop 64) := by rw [splitL, if_pos h]
theorem splitL_short {b : List UInt8} (h : ¬ 64 < b.length) : splitL b = [b] := by rw [splitL, if_neg h]
theorem splitL_rec {C : List UInt8 → Prop} (h1 : ∀ b, ¬ 64 < b.length → C b) (h2 : ∀ b, 64 < b.length → C (b.drop 64) → C b) (b : List UInt8) : C b := by
  induction hn : b.length using Nat.strongRecOn generalizing b with
  | _ n ih =>
    by_cases h : 64 < b.length
    · exact h2 b h (ih _ (by rw [List.length_drop]; omega) _ rfl)
    · exact h1 b h
theorem splitL_pos (b : List UInt8) : 0 < (splitL b).length := by
  by_cases h : 64 < b.length
  · rw [splitL_long h]; simp
  · rw [splitL_short h]; simp
/-- Leaves one behind the other are the bytes. -/
theorem splitL_join (b : List UInt8) : (splitL b).flatten = b := by
  refine splitL_rec (C := fun b => (splitL b).flatten = b) (fun b h => ?_) (fun b h ih => ?_) b
  · rw [splitL_short h]; simp
  · rw [splitL_long h, List.flatten_cons, ih, List.take_append_drop]
theorem splitL_le (b : List UInt8) : ∀ l ∈ splitL b, l.length ≤ 64 := by
  refine splitL_rec (C := fun b => ∀ l ∈ splitL b, l.length ≤ 64) (fun b h => ?_) (fun b h ih => ?_) b
  · rw [splitL_short h]
    intro l hl
    rw [List.mem_singleton.1 hl]
    omega
  · rw [splitL_long h]
    intro l hl
    rcases List.mem_cons.1 hl with rfl | h2
    · rw [List.length_take]; omega
    · exact ih l h2
theorem splitL_at (b : List UInt8) : ∀ i, i < (splitL b).length → (splitL b)[i]?.getD [] = (b.drop (64 * i)).take 64 := by
  refine splitL_rec (C := fun b => ∀ i, i < (splitL b).length → (splitL b)[i]?.getD [] = (b.drop (64 * i)).take 64) (fun b h => ?_) (fun b h ih => ?_) b
  · rw [splitL_short h]
    intro i hi
    obtain rfl : i = 0 := by simpa using hi
    simp [List.take_of_length_le (show b.length ≤ 64 by omega)]
  · rw [splitL_long h]
    intro i hi
    cases i with
    | zero => simp
    | succ i =>
      have := ih i (by simpa using hi)
      rw [List.getElem?_cons_succ, this, List.drop_drop, show 64 + 64 * i = 64 * (i + 1) by omega]
/-- How many leaves there are. -/
theorem splitL_count (b : List UInt8) : (splitL b).length = if b.length = 0 then 1 else (b.length + 63) / 64 := by
  refine splitL_rec (C := fun b => (splitL b).length = if b.length = 0 then 1 else (b.length + 63) / 64) (fun b h => ?_) (fun b h ih => ?_) b
  · rw [splitL_short h]
    split
    · rfl
    · simp only [List.length_cons, List.length_nil]; omega
  · rw [splitL_long h, List.length_cons, ih, List.length_drop, if_neg (by omega), if_neg (by omega)]
    omega

def leafD (l : List UInt8) : List UInt8 := shaL (0 :: l)
def nodeD (a b : List UInt8) : List UInt8 := shaL (1 :: (a ++ b))
def crownD (n : Nat) (a : List UInt8) : List UInt8 := shaL (2 :: (le8 n 8 ++ a))
/-- The row above one. -/
def aboveL : List (List UInt8) → List (List UInt8)
  | a :: b :: r => nodeD a b :: aboveL r
  | [a] => [a]
  | [] => []
theorem aboveL_length : ∀ l : List (List UInt8), (aboveL l).length = (l.length + 1) / 2
  | a :: b :: r => by rw [aboveL, List.length_cons, aboveL_length r]; simp only [List.length_cons]; omega
  | [a] => by simp [aboveL]
  | [] => by simp [aboveL]
theorem aboveL_at : ∀ (l : List (List UInt8)) (i : Nat), i < l.length → (aboveL l)[i / 2]?.getD [] = if i % 2 = 1 then nodeD (l[i - 1]?.getD []) (l[i]?.getD []) else if i + 1 < l.length then nodeD (l[i]?.getD []) (l[i + 1]?.getD []) else l[i]?.getD []
  | a :: b :: r, 0, _ => by simp [aboveL]
  | a :: b :: r, 1, _ => by simp [aboveL]
  | a :: b :: r, i + 2, h => by
    have ih := aboveL_at r i (by simpa using h)
    rw [aboveL, show (i + 2) / 2 = i / 2 + 1 by omega, List.getElem?_cons_succ, ih, show (i + 2) % 2 = i % 2 by omega]
    simp only [List.getElem?_cons_succ, List.length_cons]
    by_cases h1 : i % 2 = 1
    · rw [if_pos h1, if_pos h1, show i + 2 - 1 = (i - 1) + 2 by omega, List.getElem?_cons_succ, List.getElem?_cons_succ]
    · rw [if_neg h1, if_neg h1]
      by_cases h2 : i + 1 < r.length
      · rw [if_pos h2, if_pos (by omega)]
      · rw [if_neg h2, if_neg (by omega)]
  | [a], 0, _ => by simp [aboveL]
  | [a], i + 1, h => by simp at h
  | [], i, h => by simp at h
/-- What stands above all. -/
def topL (l : List (List UInt8)) : List UInt8 := if 1 < l.length then topL (aboveL l) else l[0]?.getD []
termination_by l.length
decreasing_by rw [aboveL_length]; omega
/-- The digests beside the way up from place i. -/
def wayL (l : List (List UInt8)) (i : Nat) : List (List UInt8) :=
  if 1 < l.length then (if i % 2 = 1 then [l[i - 1]?.getD []] else if i + 1 < l.length then [l[i + 1]?.getD []] else []) ++ wayL (aboveL l) (i / 2) else []
termination_by l.length
decreasing_by rw [aboveL_length]; omega
theorem topL_more {l : List (List UInt8)} (h : 1 < l.length) : topL l = topL (aboveL l) := by rw [topL, if_pos h]
theorem topL_one {l : List (List UInt8)} (h : ¬ 1 < l.length) : topL l = l[0]?.getD [] := by rw [topL, if_neg h]
theorem wayL_more {l : List (List UInt8)} (h : 1 < l.length) (i : Nat) : wayL l i = (if i % 2 = 1 then [l[i - 1]?.getD []] else if i + 1 < l.length then [l[i + 1]?.getD []] else []) ++ wayL (aboveL l) (i / 2) := by rw [wayL, if_pos h]
theorem wayL_one {l : List (List UInt8)} (h : ¬ 1 < l.length) (i : Nat) : wayL l i = [] := by rw [wayL, if_neg h]
/-- What a leaf's digest comes to, up a way of m places, from place i; none: the way is too long, or too short. -/
def climb (m i : Nat) (x : List UInt8) (way : List (List UInt8)) : Option (List UInt8) :=
  if 1 < m then
    if i % 2 = 1 ∨ i + 1 < m then
      match way with
      | [] => none
      | y :: r => climb ((m + 1) / 2) (i / 2) (if i % 2 = 1 then nodeD y x else nodeD x y) r
    else climb ((m + 1) / 2) (i / 2) x way
  else if way = [] then some x else none
termination_by m
theorem climb_one {m : Nat} (h : ¬ 1 < m) (i : Nat) (x : List UInt8) (way : List (List UInt8)) : climb m i x way = if way = [] then some x else none := by
  conv => lhs; unfold climb
  rw [if_neg h]
theorem climb_up {m i : Nat} (h : 1 < m) (h2 : ¬ (i % 2 = 1 ∨ i + 1 < m)) (x : List UInt8) (way : List (List UInt8)) : climb m i x way = climb ((m + 1) / 2) (i / 2) x way := by
  conv => lhs; unfold climb
  rw [if_pos h, if_neg h2]
theorem climb_none {m i : Nat} (h : 1 < m) (h2 : i % 2 = 1 ∨ i + 1 < m) (x : List UInt8) : climb m i x [] = none := by
  unfold climb
  rw [if_pos h, if_pos h2]
theorem climb_two {m i : Nat} (h : 1 < m) (h2 : i % 2 = 1 ∨ i + 1 < m) (x y : List UInt8) (r : List (List UInt8)) : climb m i x (y :: r) = climb ((m + 1) / 2) (i / 2) (if i % 2 = 1 then nodeD y x else nodeD x y) r := by
  conv => lhs; unfold climb
  rw [if_pos h, if_pos h2]
theorem rows_rec {C : List (List UInt8) → Prop} (h1 : ∀ l, ¬ 1 < l.length → C l) (h2 : ∀ l, 1 < l.length → C (aboveL l) → C l) (l : List (List UInt8)) : C l := by
  induction hn : l.length using Nat.strongRecOn generalizing l with
  | _ n ih =>
    by_cases h : 1 < l.length
    · exact h2 l h (ih _ (by rw [aboveL_length]; omega) _ rfl)
    · exact h1 l h
/-- What is proved is checked. -/
theorem climb_way (l : List (List UInt8)) : ∀ i, i < l.length → climb l.length i (l[i]?.getD []) (wayL l i) = some (topL l) := by
  refine rows_rec (C := fun l => ∀ i, i < l.length → climb l.length i (l[i]?.getD []) (wayL l i) = some (topL l)) (fun l h i hi => ?_) (fun l h ih i hi => ?_) l
  · obtain rfl : i = 0 := by omega
    rw [wayL_one h, climb_one h, if_pos rfl, topL_one h]
  · have hu := ih (i / 2) (by rw [aboveL_length]; omega)
    rw [aboveL_length, aboveL_at l i hi] at hu
    rw [wayL_more h, topL_more h]
    by_cases h1 : i % 2 = 1
    · rw [if_pos h1] at hu
      rw [if_pos h1, List.singleton_append, climb_two h (.inl h1), if_pos h1]
      exact hu
    · rw [if_neg h1] at hu
      rw [if_neg h1]
      by_cases h2 : i + 1 < l.length
      · rw [if_pos h2] at hu
        rw [if_pos h2, List.singleton_append, climb_two h (.inr h2), if_neg h1]
        exact hu
      · rw [if_neg h2] at hu
        rw [if_neg h2, List.nil_append, climb_up h (by rintro (h3 | h3); exact h1 h3; exact h2 h3)]
        exact hu
/-- How often rows are put together. -/
def depth (m : Nat) : Nat := if 1 < m then depth ((m + 1) / 2) + 1 else 0
termination_by m
theorem depth_more {m : Nat} (h : 1 < m) : depth m = depth ((m + 1) / 2) + 1 := by rw [depth, if_pos h]
theorem depth_one {m : Nat} (h : ¬ 1 < m) : depth m = 0 := by rw [depth, if_neg h]
theorem wayL_short (l : List (List UInt8)) : ∀ i, (wayL l i).length ≤ depth l.length := by
  refine rows_rec (C := fun l => ∀ i, (wayL l i).length ≤ depth l.length) (fun l h i => ?_) (fun l h ih i => ?_) l
  · rw [wayL_one h]; exact Nat.zero_le _
  · rw [wayL_more h, depth_more h, List.length_append]
    have := ih (i / 2)
    rw [aboveL_length] at this
    split
    · simp only [List.length_singleton]; omega
    · split
      · simp only [List.length_singleton]; omega
      · simp only [List.length_nil]; omega
theorem leafD_length (l : List UInt8) : (leafD l).length = 32 := shaL_length _
theorem nodeD_length (a b : List UInt8) : (nodeD a b).length = 32 := shaL_length _
theorem crownD_length (n : Nat) (a : List UInt8) : (crownD n a).length = 32 := shaL_length _

/-! Root, Prove and Check. -/
def digs (b : List UInt8) : List (List UInt8) := (splitL b).map leafD
theorem digs_length (b : List UInt8) : (digs b).length = (splitL b).length := by simp [digs]
theorem digs_at {b : List UInt8} {i : Nat} (h : i < (splitL b).length) : (digs b)[i]?.getD [] = leafD ((splitL b)[i]?.getD []) := by
  simp [digs, h]
def rootL (b : List UInt8) : List UInt8 := crownD (splitL b).length (topL (digs b))
/-- What Check answers. -/
def checkL (root : List UInt8) (n i : Int) (leaf : List UInt8) (way : List (List UInt8)) : Int :=
  if n < 1 ∨ i < 0 ∨ n ≤ i then 14 else if 64 < leaf.length then 21 else
    match climb n.toNat i.toNat (leafD leaf) way with
    | some x => if crownD n.toNat x = root then 0 else 21
    | none => 21
theorem check_proved (b : List UInt8) (i : Nat) (h : i < (splitL b).length) : checkL (rootL b) ((splitL b).length : Int) (i : Int) ((splitL b)[i]?.getD []) (wayL (digs b) i) = 0 := by
  have hp := splitL_pos b
  have hle : ((splitL b)[i]?.getD []).length ≤ 64 := by
    rw [List.getElem?_eq_getElem h]
    exact splitL_le b _ (List.getElem_mem h)
  have hc := climb_way (digs b) i (by rw [digs_length]; exact h)
  rw [digs_length, digs_at h] at hc
  rw [checkL, if_neg (by omega), if_neg (by omega), Int.toNat_natCast, Int.toNat_natCast, hc]
  simp only [rootL, if_true]

/-! Two leaves at one place that are both proved. -/
theorem append_unlike {a b c d : List UInt8} (hl : a.length = b.length) (h : a ≠ b ∨ c ≠ d) : a ++ c ≠ b ++ d := by
  intro e
  have h1 := List.append_inj e hl
  rcases h with h | h
  · exact h h1.1
  · exact h h1.2
/-- A collision, as what is unlike comes to the same. -/
def Clash : Prop := ∃ p q : List UInt8, p ≠ q ∧ shaL p = shaL q
/-- Two rows at one place that are unlike, and come to the same top: two rows of bytes of one digest. -/
theorem climb_clash : ∀ (m i : Nat) (p q : List UInt8) (x y : List (List UInt8)) (t : List UInt8), (∀ a ∈ x, a.length = 32) → (∀ a ∈ y, a.length = 32) → p ≠ q → climb m i (shaL p) x = some t → climb m i (shaL q) y = some t → Clash := by
  intro m
  induction m using Nat.strongRecOn with
  | _ m ih =>
    intro i p q x y t hx hy hne h1 h2
    by_cases hs : shaL p = shaL q
    · exact ⟨p, q, hne, hs⟩
    by_cases hm : 1 < m
    · by_cases hp : i % 2 = 1 ∨ i + 1 < m
      · rcases x with _ | ⟨a, x⟩
        · rw [climb_none hm hp] at h1; cases h1
        rcases y with _ | ⟨b, y⟩
        · rw [climb_none hm hp] at h2; cases h2
        rw [climb_two hm hp] at h1 h2
        have ha := hx a (by simp)
        have hb := hy b (by simp)
        have hx' : ∀ a ∈ x, a.length = 32 := fun a h => hx a (by simp [h])
        have hy' : ∀ a ∈ y, a.length = 32 := fun a h => hy a (by simp [h])
        by_cases ho : i % 2 = 1
        · rw [if_pos ho] at h1 h2
          exact ih _ (by omega) _ (1 :: (a ++ shaL p)) (1 :: (b ++ shaL q)) x y t hx' hy' (by
            intro e
            exact append_unlike (by omega) (.inr hs) (List.cons.inj e).2) h1 h2
        · rw [if_neg ho] at h1 h2
          exact ih _ (by omega) _ (1 :: (shaL p ++ a)) (1 :: (shaL q ++ b)) x y t hx' hy' (by
            intro e
            exact append_unlike (by rw [shaL_length, shaL_length]) (.inl hs) (List.cons.inj e).2) h1 h2
      · rw [climb_up hm hp] at h1 h2
        exact ih _ (by omega) _ p q x y t hx hy hne h1 h2
    · rw [climb_one hm] at h1 h2
      split at h1
      · split at h2
        · injection h1 with h1
          injection h2 with h2
          exact absurd (h1.trans h2.symm) hs
        · cases h2
      · cases h1
end Go.Proofs.YtnbjhdlnibmgdaaDoor
