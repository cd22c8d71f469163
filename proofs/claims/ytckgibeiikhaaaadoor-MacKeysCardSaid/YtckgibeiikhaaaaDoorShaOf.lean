/-
  digest.Of.
-/
import Derived.Test.YtckgibeiikhaaaaDoorShaAdd
import Derived.Test.YtckgibeiikhaaaaDoorShaTail
import Derived.Test.YtckgibeiikhaaaaDoorShaTold
namespace Go.Proofs.YtckgibeiikhaaaaDoor
open Go.RowKit

/-- A SLICE OF ROWS OF BYTES READS AS ls; all of it lies in blocks of S. -/
structure Rws (w : World) (S : Nat → Prop) (A : Option Addr) (n c : Nat) (ls : List (List UInt8)) : Prop where
  len : ls.length = n
  cap : n ≤ c
  max : c ≤ maxLen
  row : 0 < n → ∃ b off, A = some ⟨b, off, none⟩ ∧ S b ∧ b < w.heap.size ∧ ∀ i, i < n → ∃ Ai ni ci, w.cell? ⟨b, off + i, none⟩ = some (.slice Ai ni ci) ∧ Byt w S Ai ni ci (ls[i]?.getD [])
section
variable {w w' : World} {S : Nat → Prop} {A : Option Addr} {n c : Nat} {ls : List (List UInt8)}
theorem Rws.below (h : Rws w S A n c ls) (hb : Below w.heap.size w w') : Rws w' S A n c ls :=
  ⟨h.len, h.cap, h.max, fun h0 => by
    obtain ⟨b, off, hA, hS, hlt, hc⟩ := h.row h0
    refine ⟨b, off, hA, hS, Nat.lt_of_lt_of_le hlt hb.size, fun i hi => ?_⟩
    obtain ⟨Ai, ni, ci, h1, h2⟩ := hc i hi
    exact ⟨Ai, ni, ci, (hb.cell (p := ⟨_, _, none⟩) hlt).trans h1, h2.below hb⟩⟩
theorem Rws.mono {T : Nat → Prop} (h : Rws w S A n c ls) (hT : ∀ b, b < w.heap.size → S b → T b) : Rws w T A n c ls :=
  ⟨h.len, h.cap, h.max, fun h0 => by
    obtain ⟨b, off, hA, hS, hlt, hc⟩ := h.row h0
    refine ⟨b, off, hA, hT b hlt hS, hlt, fun i hi => ?_⟩
    obtain ⟨Ai, ni, ci, h1, h2⟩ := hc i hi
    exact ⟨Ai, ni, ci, h1, h2.mono hT⟩⟩
theorem Rws.drewN (h : Rws w S A n c ls) (k : Nat) : Rws (w.drewN k) S A n c ls :=
  ⟨h.len, h.cap, h.max, fun h0 => by
    obtain ⟨b, off, hA, hS, hlt, hc⟩ := h.row h0
    refine ⟨b, off, hA, hS, hlt, fun i hi => ?_⟩
    obtain ⟨Ai, ni, ci, h1, h2⟩ := hc i hi
    exact ⟨Ai, ni, ci, h1, h2.drewN k⟩⟩
end

/-- THE DIGEST of bytes. -/
def shaL (m : List UInt8) : List UInt8 := toldA (hashN (m ++ tailB m.length) ((m ++ tailB m.length).length / 64)) 32
theorem shaL_length (m : List UInt8) : (shaL m).length = 32 := toldA_length _ _

def sumZ : Array Value := (u32s hTab ++ (u8s (List.replicate 64 0) ++ [Value.int .i64 ((0 : Nat) : Int), Value.int .u64 ((0 : Nat) : Int)])).toArray
theorem build_sum : (Tryd.prog.built 56 [(0, .agg (u32s hTab).toArray)]) = some sumZ := by unfold sumZ; kernel_rfl

/-- T{..}, its value by a closed fact. -/
theorem wpList_built {P : Program} {ops : Array Oper} {rest : List Oper} {o : Oper} {a : Act} {w : World} {Q : Exit → Act → World → Prop} (hg : o.guard = none) (t : TypeId) (parts : Array (Nat × Operand)) (ho : o.op = .build t parts)
    (vs : List (Nat × Value)) (hv : (parts.map fun (i, x) => (i, a.eval x)).toList = vs) (Z : Array Value) (hb : P.built t vs = some Z) (h : wpList P ops Q rest (a.put o.dst (.agg Z)) w) : wpList P ops Q (o :: rest) a w := by
  refine wpList_build hg t parts ho (by rw [hv, hb]; rfl) ?_
  rw [hv, hb]
  exact h

def sum0 : Array Value := (u32s (List.replicate 8 0) ++ (u8s (List.replicate 64 0) ++ [Value.int .i64 ((0 : Nat) : Int), Value.int .u64 ((0 : Nat) : Int)])).toArray
theorem zero_sum : ∀ W, (zeroValue 56).run Tryd.prog W = .ok (.agg sum0) W := fun W => by unfold sum0; kernel_rfl
theorem sum_start (w : World) (p : Nat) (h : w.heap[p]? = some (.cells sumZ 56 (0, 0))) : Sum w p hTab (List.replicate 64 0) 0 0 := ⟨h, rfl, by simp⟩

theorem range_first {w : World} (h : Tab w) : w.rangeAt 0 0 (u32s hTab) := fun j v hj => by
  have hjl : j < 8 := by
    have := (List.getElem?_eq_some_iff.1 hj).1
    rw [u32s_length] at this
    exact this
  rw [Nat.zero_add, h.first j hjl, ← hj]
  exact (u32s_at hTab j hjl).symm

theorem flat_take (ls : List (List UInt8)) (k : Nat) (h : k < ls.length) : (ls.take (k + 1)).flatten = (ls.take k).flatten ++ (ls[k]?.getD []) := by
  rw [List.take_succ_eq_append_getElem h, List.flatten_append]; simp [List.getElem?_eq_getElem h]
theorem flat_le : ∀ (ls : List (List UInt8)) (k : Nat), (ls.take k).flatten.length ≤ ls.flatten.length
  | [], k => by simp
  | l :: ls, 0 => by simp
  | l :: ls, k + 1 => by have := flat_le ls k; simp at this ⊢; omega

set_option maxHeartbeats 4000000 in
set_option maxRecDepth 100000 in
theorem of_any {w : World} {S : Nat → Prop} {A : Option Addr} {n c : Nat} {ls : List (List UInt8)} (h : Rws w S A n c ls) (ht : Tab w) (hl : ls.flatten.length < 576460752303423488) :
    Calls Tryd.prog 20 #[.slice A n c] w fun e w' => e = .returned (.agg (u8s (shaL ls.flatten)).toArray) ∧ Below w.heap.size w w' := by
  have h2 := ht.lt2
  have HT := Lib.hid ht
  have H := Lib.hid (h.mono (T := fun b => b < w.heap.size) fun b hb _ => hb)
  have HZ := Lib.hid (And.intro (show (Tryd.prog.info? 50).map (·.size) = some (u32s hTab).length by kernel_rfl) (And.intro (show (Tryd.prog.info? 56).map (·.size) = some sumZ.size by unfold sumZ; kernel_rfl) (show sumZ.all (·.oneCell') = true by unfold sumZ; kernel_rfl)))
  have HB1 : Hid (Below w.heap.size w (w.alloc (.cells (u8s (List.replicate 32 0)).toArray 27))) := Lib.hid ((Below.refl _ _).alloc (Nat.le_refl _) _)
  have HG : Hid (((w.alloc (.cells (u8s (List.replicate 32 0)).toArray 27)).alloc (.cells sum0 56)).heap[w.heap.size + 1]? = some (.cells sum0 56 (0, 0))) := Lib.hid (by
    have := heap_alloc_new (w.alloc (.cells (u8s (List.replicate 32 0)).toArray 27)) (.cells sum0 56); simpa using this)
  have HO : Hid (((w.alloc (.cells (u8s (List.replicate 32 0)).toArray 27)).alloc (.cells sum0 56)).heap[w.heap.size]? = some (.cells (u8s (List.replicate 32 0)).toArray 27 (0, 0))) := Lib.hid ((Below.heap_alloc _ _ _ (by simp)).trans (heap_alloc_new w _))
  rw [← zeros32] at HB1 HG HO
  have HN := Lib.hid h.len
  have hnm : n ≤ 9223372036854775807 := by
    have h1 := h.cap
    have h2 := h.max
    unfold maxLen at h2
    omega
  have hzs := zero_sum
  clear h ht
  go_enter Tryd.func20, Tryd.ntmps20
  go_wp2_with (first | (refine wpList_load_mid (by rfl) 50 (.global 0) (by rfl) 0 0 (by rfl) (u32s hTab) _ (range_first (HT.out.below HB1.out)) Tryd.underlying50 (by rfl) HZ.out.1 ?_) | (refine wpList_built (by rfl) 56 #[(0, .tmp 6)] (by rfl) [(0, .agg (u32s hTab).toArray)] (by simp [Act.eval, Act.put]) sumZ build_sum ?_) | (refine wpList_store_row (by rfl) 56 (.tmp 3) (.tmp 7) (by rfl) (w.heap.size + 1) sumZ (by rfl) (by rfl) 56 _ HG.out HZ.out.2.1 (by unfold sum0 sumZ; rfl) HZ.out.2.2 ?_))
  have hsum0 : Sum ((((w.alloc (.cells (u8s (List.replicate 32 0)).toArray 27)).alloc (.cells sum0 56)).setRow (w.heap.size + 1) sumZ)) (w.heap.size + 1) hTab (List.replicate 64 0) 0 0 := sum_start _ _ (setRow_at (by have := HG.out; rw [zeros32] at this; exact this))
  have hblk0 : ((((w.alloc (.cells (u8s (List.replicate 32 0)).toArray 27)).alloc (.cells sum0 56)).setRow (w.heap.size + 1) sumZ)).heap[w.heap.size]? = some (.cells (u8s (List.replicate 32 0)).toArray 27 (0, 0)) := by
    have h1 := HO.out
    rw [zeros32] at h1
    rw [← h1]
    simp only [World.setRow, Array.getElem?_modify]
    rw [if_neg (by omega)]
  have hbl0 : Below w.heap.size w (((w.alloc (.cells (u8s (List.replicate 32 0)).toArray 27)).alloc (.cells sum0 56)).setRow (w.heap.size + 1) sumZ) := below_setRow (((Below.refl _ _).alloc (Nat.le_refl _) _).alloc (by simp) _) (by omega) _
  rw [zeros32]
  generalize ((w.alloc (.cells (u8s (List.replicate 32 0)).toArray 27)).alloc (.cells sum0 56)).setRow (w.heap.size + 1) sumZ = w1 at *
  clear HG HO HB1 hzs
  obtain ⟨p, hp⟩ : ∃ p, p = w.heap.size + 1 := ⟨_, rfl⟩
  rw [← hp] at hsum0 ⊢
  have HP := Lib.hid hp
  clear hp
  go_loopw [5, 10] (fun _ i wr => ∃ k : Nat, k ≤ n ∧ i = .int .i64 k ∧ Msg wr p (ls.take k).flatten (ls.take k).flatten.length ∧ Below w.heap.size w wr ∧ wr.heap[w.heap.size]? = some (.cells (u8s (List.replicate 32 0)).toArray 27 (0, 0))) (fun _ i _ => n - (intOf i).toNat)
  case atStart => exact ⟨0, Nat.zero_le _, rfl, ⟨List.replicate 64 0, by simpa [hashN] using hsum0, ⟨by simp, by simp⟩⟩, hbl0, hblk0⟩
  case round =>
    obtain ⟨k, hk, rfl, hM, hB, hO⟩ := hrel
    clear hsum0 hblk0 hbl0
    have HM := Lib.hid (And.intro hM (And.intro hB hO))
    have hf := flat_le ls k
    by_cases hlt : k < n
    · obtain ⟨b, off, rfl, hbs, hblt, hc⟩ := (H.out.below hB).row (by omega)
      obtain ⟨Ai, ni, ci, hci, hyi⟩ := hc k hlt
      have hfl := flat_take ls k (by rw [HN.out]; exact hlt)
      have hf2 := flat_le ls (k + 1)
      rw [hfl, List.length_append] at hf2
      have hadd := add_any hM (HT.out.below hB) hyi (by rw [HP.out]; omega) (by rw [HP.out]; omega) (by omega)
      rw [← hfl] at hadd
      clear hM hO hc hyi hfl hf2
      go_wp2_with fail
      refine hadd.mono ?_
      rintro _ w2 ⟨rfl, hM2, hT2⟩
      have HF : Hid (Msg w2 p (ls.take (k + 1)).flatten (ls.take (k + 1)).flatten.length ∧ Below w.heap.size w w2 ∧ w2.heap[w.heap.size]? = some (.cells (u8s (List.replicate 32 0)).toArray 27 (0, 0))) :=
        Lib.hid ⟨hM2, HM.out.2.1.trans ((hT2.mono (T := (w.heap.size ≤ ·)) fun b _ hb => by rw [hb, HP.out]; omega).below HM.out.2.1.size), (hT2.block _ (by have := HM.out.1.lt; rw [HP.out] at this; omega) (by rw [HP.out]; omega)).trans HM.out.2.2⟩
      clear hM2 hT2 hadd hB
      go_wp2_with fail
      go_roundw
      case rel => exact ⟨k + 1, by omega, by go_num, HF.out⟩
      case measure => simp [intOf]; omega
    · obtain rfl : k = n := by omega
      have hall : ls.take k = ls := by rw [← HN.out, List.take_length]
      obtain ⟨M, hMM⟩ : ∃ M, M = ls.flatten := ⟨_, rfl⟩
      rw [hall, ← hMM] at HM hM
      have hMl : M.length < 576460752303423488 := by rw [hMM]; exact hl
      have HMM := Lib.hid hMM
      obtain ⟨b0, hs0, ho0⟩ := hM
      have c73 := hs0.all_
      clear hs0 ho0 hO hall hf hlt hk hMM hl
      go_wp2_with fail
      refine (tail_any M.length (by omega) _).mono ?_
      rintro _ w2 ⟨A2, c2, rfl, hY2, hB2⟩
      have hM2 := HM.out.1.below hB2
      have hb2 := HM.out.2.1.trans (hB2.mono HM.out.2.1.size)
      have hO2 := (hB2.block _ (by have := HM.out.1.lt; rw [HP.out] at this; omega)).trans HM.out.2.2
      have hplt := HM.out.1.lt
      have htl : (tailB M.length).length ≤ 72 := by rw [tailB, List.length_append, tailL_length, be64_length]; omega
      have hadd := add_any hM2 (HT.out.below hb2) hY2 (by omega) (by rw [HP.out]; omega) (by omega)
      clear hM2 hY2 hB2 hB c73
      go_wp2_with fail
      refine hadd.mono ?_
      rintro _ w3 ⟨rfl, hM3, hT3⟩
      have hb3 := hb2.trans ((hT3.mono (T := (w.heap.size ≤ ·)) fun b _ hb => by rw [hb, HP.out]; omega).below hb2.size)
      have hO3 := (hT3.block _ (by have := hb2.size; have := lt_of_cells hO2; omega) (by rw [HP.out]; omega)).trans hO2
      obtain ⟨b3, hs3, ho3⟩ := hM3
      have htold := told_any hs3
      have hsh : toldA (hashN (M ++ tailB M.length) ((M ++ tailB M.length).length / 64)) 32 = shaL M := rfl
      rw [hsh] at htold
      clear hs3 ho3 hadd hT3 hO2 hsh
      obtain ⟨RS, hRS⟩ : ∃ RS, RS = (u8s (shaL M)).toArray := ⟨_, rfl⟩
      have hsz : RS.size = 32 := by rw [hRS]; simp [u8s_length, shaL_length]
      have HR := Lib.hid (And.intro hRS (And.intro hsz (And.intro (show (Tryd.prog.info? 27).map (·.size) = some RS.size by rw [hsz]; exact id_info) (show RS.all (·.oneCell') = true by rw [hRS]; exact all_oneCell_toArray (u8s_one _)))))
      rw [← hRS] at htold
      clear hRS hsz
      go_wp2_with fail
      refine htold.mono ?_
      rintro _ w4 ⟨rfl, hB4⟩
      have HB4 := Lib.hid (hb3.trans (hB4.mono hb3.size))
      have HO4 := Lib.hid ((hB4.block _ (lt_of_cells hO3)).trans hO3)
      clear hB4 hO3 htold hb3 hb2
      go_wp2_with (refine wpList_store_row (by rfl) 27 (.tmp 2) (.tmp 21) (by rfl) w.heap.size RS (by rfl) (by rfl) 27 _ HO4.out HR.out.2.2.1 (by rw [HR.out.2.1]; rfl) HR.out.2.2.2 ?_)
      exact bodyPost_ret (results_cell_row rfl _ _ w.heap.size 27 RS (0, 0) _ rfl (setRow_at HO4.out) Tryd.underlying27 rfl HR.out.2.2.1) rfl ⟨by rw [HR.out.1, HMM.out], below_setRow HB4.out (Nat.le_refl _) _⟩
end Go.Proofs.YtckgibeiikhaaaaDoor
