/-
  The reference's nonce and Name; strings of bytes read and cut.
-/
import Derived.Test.YtlkkocgjpljibaaDoorSealOpen
import Derived.Test.YtlkkocgjpljibaaDoorMacRefOf
namespace Go.Proofs.YtlkkocgjpljibaaDoor
open Go.RowKit

section
variable {P : Program} (t : TypeId) (h : P.underlying t = some .string) (l : List UInt8) (W : World)
include h
theorem st_index (i : Nat) (ii : Int) (e : ii = (i : Int)) (hi : i < l.length) : (Instr.index t (.string (st l)) (.int .i64 ii)).run P W = .ok (.int .u8 ((l[i]?.getD 0).toNat : Int)) W := by
  subst e
  exact st_at t h l i hi W
theorem st_to (k : Nat) (kk : Int) (e : kk = (k : Int)) (hk : k ≤ l.length) : (Instr.slice t (.string (st l)) none (some (.int .i64 kk)) none).run P W = .ok (.string (st (l.take k))) W := by
  subst e
  rw [run_slice_string_h W t (st l) h .i64 (k : Int) (by omega) (by rw [st_size]; omega), st_extract]
  simp
theorem st_from (k : Nat) (kk : Int) (e : kk = (k : Int)) (hk : k ≤ l.length) : (Instr.slice t (.string (st l)) (some (.int .i64 kk)) none none).run P W = .ok (.string (st (l.drop k))) W := by
  subst e
  rw [run_slice_string_l W t (st l) h .i64 (k : Int) (by omega) (by rw [st_size]; omega), st_extract, st_size, List.take_of_length_le (by simp)]
  simp
theorem st_mid (j k : Nat) (jj kk : Int) (ej : jj = (j : Int)) (e : kk = (k : Int)) (hj : j ≤ k) (hk : k ≤ l.length) : (Instr.slice t (.string (st l)) (some (.int .i64 jj)) (some (.int .i64 kk)) none).run P W = .ok (.string (st ((l.drop j).take (k - j)))) W := by
  subst e ej
  rw [run_slice_string_if, if_pos ⟨by omega, by rw [st_size]; omega⟩, if_pos ⟨by omega, by omega⟩, st_extract]
  · simp
  · exact h
end
theorem st_inj {a b : List UInt8} : st a = st b ↔ a = b := by
  constructor
  · intro h
    have := congrArg ByteArray.toList h
    rwa [st_list, st_list] at this
  · rintro rfl
    rfl
theorem st_beq (a b : List UInt8) : ((st a).toList == (st b).toList) = decide (a = b) := by
  rw [st_list, st_list]
  by_cases h : a = b <;> simp [h]

/-! nonce -/
def nonS (s : List UInt8) : Nat → List UInt8
  | 0 => List.replicate 12 0
  | k + 1 => (nonS s k).set k (s[k]?.getD 0)
theorem nonS_length (s : List UInt8) : ∀ k, (nonS s k).length = 12
  | 0 => by simp [nonS]
  | k + 1 => by simp [nonS, nonS_length s k]
theorem nonS_all {s : List UInt8} (h : s.length = 8) : nonS s 8 = nonL s := by
  match s, h with
  | [a, b, c, d, e, f, g, i], _ => rfl
def LwS (w : World) (s : List UInt8) (i : Value) (wr : World) : Prop := ∃ j : Nat, j ≤ 8 ∧ i = .int .i64 j ∧ Below w.heap.size w wr ∧ wr.heap[w.heap.size]? = some (.cells zeros12 47 (0, 0)) ∧ wr.heap[w.heap.size + 1]? = some (.cells (row8 (nonS s j)) 47 (0, 0))
set_option maxHeartbeats 4000000 in
set_option maxRecDepth 100000 in
theorem rsnonce_any (s : List UInt8) (hs : s.length = 8) (w : World) :
    Calls Tryd.prog 22 #[.string (st s)] w fun e w' => e = .returned (.agg (row8 (nonL s))) ∧ Below w.heap.size w w' := by
  have hz := zero_b12
  have HL := Lib.hid hs
  go_enter Tryd.func22, Tryd.ntmps22
  go_wp2_with fail
  have HG : Hid (Below w.heap.size w ((w.alloc (.cells zeros12 47)).alloc (.cells zeros12 47)) ∧ ((w.alloc (.cells zeros12 47)).alloc (.cells zeros12 47)).heap[w.heap.size]? = some (.cells zeros12 47 (0, 0)) ∧ ((w.alloc (.cells zeros12 47)).alloc (.cells zeros12 47)).heap[w.heap.size + 1]? = some (.cells (row8 (nonS s 0)) 47 (0, 0))) := Lib.hid
    ⟨((Below.refl _ _).alloc (Nat.le_refl _) _).alloc (by simp) _, (Below.heap_alloc _ _ _ (by simp)).trans (heap_alloc_new w _), by
      have := heap_alloc_new (w.alloc (.cells zeros12 47)) (.cells zeros12 47)
      rw [show row8 (nonS s 0) = zeros12 from rfl]
      simpa using this⟩
  generalize (w.alloc (.cells zeros12 47)).alloc (.cells zeros12 47) = w1 at *
  clear hz hs
  go_loopw [4] (fun i wr => LwS w s i wr) (fun i _ => 8 - (intOf i).toNat)
  case atStart => unfold LwS; exact ⟨0, Nat.zero_le _, rfl, HG.out⟩
  case round =>
    obtain ⟨j, hj, rfl, hbr, h1, h2⟩ := hrel
    have HR := Lib.hid (And.intro hbr h1)
    by_cases hlt : j < 8
    · have hcell := u8s_cell h2 j (by rw [nonS_length]; omega)
      have hfree := free_of_cells h2 j
      have hix := st_index (P := Tryd.prog) 9 Tryd.underlying9 s wr j (j : Int) rfl (by rw [HL.out]; omega)
      have hE := Lib.hid (show nonS s (j + 1) = (nonS s j).set j (s[j]?.getD 0) from rfl)
      have H2 := Lib.hid h2
      generalize s[j]?.getD 0 = ch at *
      clear h1 h2 hbr
      go_wp2
      go_roundw
      case rel =>
        unfold LwS
        refine ⟨j + 1, by omega, by go_num, HR.out.1.setCell (by simp) _, (Below.heap_setCell _ _ _ _ (by simp)).trans HR.out.2, ?_⟩
        have hset := u8s_cells_set H2.out j ch
        rw [row8, hE.out]
        simpa using hset
      case measure => simp [intOf]; omega
    · obtain rfl : j = 8 := by omega
      have hsz : (row8 (nonS s 8)).size = 12 := by rw [row8_size, nonS_length]
      obtain ⟨RS, hRS⟩ : ∃ RS, RS = row8 (nonS s 8) := ⟨_, rfl⟩
      have HA := Lib.hid (show RS.all (·.oneCell') = true by rw [hRS]; exact row8_one _)
      rw [← hRS] at h2 hsz
      have H2 := Lib.hid h2
      have HS := Lib.hid hsz
      have HRS := Lib.hid hRS
      clear h1 h2 hbr hRS hsz hlt hj
      go_wp2_with (first | (refine wpList_load_row (by rfl) 47 (.tmp 3) (by rfl) (w.heap.size + 1) (by rfl) 47 RS (0, 0) _ H2.out Tryd.underlying47 (by rfl) (by rw [HS.out]; exact info12s) ?_) | (refine wpList_store_row (by rfl) 47 (.tmp 2) (.tmp 14) (by rfl) w.heap.size RS (by rfl) (by rfl) 47 _ HR.out.2 (by rw [HS.out]; exact info12s) (by rw [HS.out]; rfl) HA.out ?_))
      exact bodyPost_ret (results_cell_row rfl _ _ w.heap.size 47 RS (0, 0) _ rfl (setRow_at HR.out.2) Tryd.underlying47 rfl (by rw [HS.out]; exact info12s)) rfl ⟨by rw [HRS.out, nonS_all HL.out], below_setRow HR.out.1 (Nat.le_refl _) _⟩

set_option maxHeartbeats 4000000 in
set_option maxRecDepth 100000 in
theorem rsname_any (p : List UInt8) (hp : p.length ≤ 1000000) (k : List UInt8) (hk : k.length = 32) (w : World) :
    Calls Tryd.prog 13 #[.agg (row8 k), .string (st p)] w fun e w' => e = .returned (.agg (row8 (macL (drvL k nameB 0) p))) ∧ Below w.heap.size w w' := by
  have hzi := zero_id
  obtain ⟨KS, hKS⟩ : ∃ KS, KS = row8 k := ⟨_, rfl⟩
  obtain ⟨DS, hDS⟩ : ∃ DS, DS = row8 (drvL k nameB 0) := ⟨_, rfl⟩
  obtain ⟨MS, hMS⟩ : ∃ MS, MS = row8 (macL (drvL k nameB 0) p) := ⟨_, rfl⟩
  rw [← hKS, ← hMS]
  have HD : Hid (∀ W, Calls Tryd.prog 21 #[.agg KS, .string { data := #[110, 97, 109, 101] }, .int .u64 0] W fun e w' => e = .returned (.agg DS) ∧ Below W.heap.size W w') := Lib.hid fun W => by
    rw [hKS, hDS]
    exact rderive_any k hk nameB (by decide) 0 (by decide) W
  have HMO : Hid (∀ W, Calls Tryd.prog 23 #[.agg DS, .string (st p)] W fun e w' => e = .returned (.agg MS) ∧ Below W.heap.size W w') := Lib.hid fun W => by
    rw [hDS, hMS]
    exact rofm_any _ (drvL_length _ _ _) p (by omega) W
  have HS : Hid (KS.size = 32 ∧ MS.size = 32 ∧ MS.all (·.oneCell') = true) := Lib.hid ⟨by rw [hKS, row8_size, hk], by rw [hMS, row8_size, macL_length], by rw [hMS]; exact row8_one _⟩
  have HK0 : Hid (((w.alloc (.cells KS 23)).alloc (.cells zerosId 34)).heap[w.heap.size]? = some (.cells KS 23 (0, 0)) ∧ ((w.alloc (.cells KS 23)).alloc (.cells zerosId 34)).heap[w.heap.size + 1]? = some (.cells zerosId 34 (0, 0)) ∧ Below w.heap.size w ((w.alloc (.cells KS 23)).alloc (.cells zerosId 34))) := Lib.hid (by
    refine ⟨(Below.heap_alloc _ _ _ (by simp)).trans (heap_alloc_new w _), ?_, ((Below.refl _ _).alloc (Nat.le_refl _) _).alloc (by simp) _⟩
    have := heap_alloc_new (w.alloc (.cells KS 23)) (.cells zerosId 34)
    simpa using this)
  clear hKS hDS hMS hk
  go_enter Tryd.func13, Tryd.ntmps13
  go_wp2_with (refine wpList_load_row (by rfl) 23 (.tmp 2) (by rfl) w.heap.size (by rfl) 23 KS (0, 0) _ HK0.out.1 Tryd.underlying23 (by rfl) (by rw [HS.out.1]; exact key_info) ?_)
  refine (HD.out _).mono ?_
  rintro _ w2 ⟨rfl, hb2⟩
  have HB2 : Hid (Below w.heap.size w w2 ∧ w2.heap[w.heap.size + 1]? = some (.cells zerosId 34 (0, 0))) := Lib.hid ⟨HK0.out.2.2.trans (hb2.mono HK0.out.2.2.size), (hb2.block _ (lt_of_cells HK0.out.2.1)).trans HK0.out.2.1⟩
  clear hb2 HK0 hzi
  go_wp2_with fail
  refine (HMO.out _).mono ?_
  rintro _ w3 ⟨rfl, hb3⟩
  have HB3 : Hid (Below w.heap.size w w3 ∧ w3.heap[w.heap.size + 1]? = some (.cells zerosId 34 (0, 0))) := Lib.hid ⟨HB2.out.1.trans (hb3.mono HB2.out.1.size), (hb3.block _ (lt_of_cells HB2.out.2)).trans HB2.out.2⟩
  clear hb3 HB2
  go_wp2_with (refine wpList_store_row (by rfl) 34 (.tmp 4) (.tmp 8) (by rfl) (w.heap.size + 1) MS (by rfl) (by rfl) 34 _ HB3.out.2 (by rw [HS.out.2.1]; exact id_info) (by rw [HS.out.2.1]; rfl) HS.out.2.2 ?_)
  exact bodyPost_ret (results_cell_row rfl _ _ (w.heap.size + 1) 34 MS (0, 0) _ rfl (setRow_at HB3.out.2) Tryd.underlying34 rfl (by rw [HS.out.2.1]; exact id_info)) rfl ⟨rfl, below_setRow HB3.out.1 (by omega) _⟩
end Go.Proofs.YtlkkocgjpljibaaDoor
