/-
  Plain mathematics of the reference: turning bit by bit, the sixty-four words.
  The reference: turn, numbers.
  The reference: schedule.
  Plain mathematics: what the reference reckons is what digest does.
-/
import Derived.Test.YtebhlfmianohlaaDoorSha
import Derived.Test.YtebhlfmianohlaaDoorShaMix
import Derived.Test.YtebhlfmianohlaaDoorShaOf
import Derived.KernelRfl
/-! Plain mathematics of the reference: turning bit by bit, the sixty-four words. -/
namespace Go.Proofs.YtebhlfmianohlaaDoor

theorem rotr_toNat (x : BitVec 32) (k : Nat) (hk : k < 32) : (rotr x k).toNat = x.toNat / 2 ^ k + x.toNat % 2 ^ k * 2 ^ (32 - k) := by
  unfold rotr
  have hx := x.isLt
  rw [BitVec.toNat_rotateRight, Nat.mod_eq_of_lt hk, Nat.shiftRight_eq_div_pow, Nat.shiftLeft_eq]
  have hp : (2 : Nat) ^ 32 = 2 ^ k * 2 ^ (32 - k) := by rw [← Nat.pow_add]; congr 1; omega
  have e1 : x.toNat * 2 ^ (32 - k) % 2 ^ 32 = (x.toNat % 2 ^ k) * 2 ^ (32 - k) := by rw [hp, Nat.mul_mod_mul_right]
  have h2 : x.toNat / 2 ^ k < 2 ^ (32 - k) := by
    rw [Nat.div_lt_iff_lt_mul (Nat.pow_pos (by omega)), Nat.mul_comm, ← hp]
    exact hx
  rw [e1, Nat.or_comm, ← Nat.shiftLeft_eq, ← Nat.shiftLeft_add_eq_or_of_lt h2, Nat.add_comm]

theorem rotr_zero (x : BitVec 32) : rotr x 0 = x := by
  apply BitVec.eq_of_toNat_eq
  rw [rotr_toNat x 0 (by omega)]
  simp [Nat.mod_one]

theorem half_step (x k : Nat) (hk : k < 31) :
    (x / 2 ^ k + x % 2 ^ k * 2 ^ (32 - k)) / 2 + (x / 2 ^ k + x % 2 ^ k * 2 ^ (32 - k)) % 2 * 2147483648 = x / 2 ^ (k + 1) + x % 2 ^ (k + 1) * 2 ^ (32 - (k + 1)) := by
  match k, hk with
  | 0, _ | 1, _ | 2, _ | 3, _ | 4, _ | 5, _ | 6, _ | 7, _ | 8, _ | 9, _ | 10, _ | 11, _ | 12, _ | 13, _ | 14, _ | 15, _ | 16, _ | 17, _ | 18, _ | 19, _ | 20, _ | 21, _ | 22, _ | 23, _ | 24, _ | 25, _ | 26, _ | 27, _ | 28, _ | 29, _ | 30, _ => simp only [Nat.reducePow, Nat.reduceSub, Nat.reduceAdd]; omega
  | k + 31, hk => exact absurd hk (by omega)

theorem nv_half (x : BitVec 32) (k : Nat) (hk : k < 31) : nv (rotr x k) / 2 + nv (rotr x k) % 2 * 2147483648 = nv (rotr x (k + 1)) := by
  unfold nv
  have h := half_step x.toNat k hk
  rw [← rotr_toNat x k (by omega), ← rotr_toNat x (k + 1) (by omega)] at h
  omega

/-- A word of four bytes. -/
def byW (l : List UInt8) (i : Nat) : BitVec 32 := BitVec.ofNat 32 (l[i]?.getD 0).toNat
def bew (l : List UInt8) (k : Nat) : BitVec 32 := byW l (4 * k) * 16777216#32 + byW l (4 * k + 1) * 65536#32 + byW l (4 * k + 2) * 256#32 + byW l (4 * k + 3)
def swk (L : List (BitVec 32)) (k : Nat) : BitVec 32 := (L[k - 16]?.getD 0) + lowB (L[k - 15]?.getD 0) + (L[k - 7]?.getD 0) + highB (L[k - 2]?.getD 0)
/-- The sixty-four words, the first k of them. -/
def sw (l : List UInt8) : Nat → List (BitVec 32)
  | 0 => List.replicate 64 0
  | k + 1 => (sw l k).set k (if k < 16 then bew l k else swk (sw l k) k)
theorem sw_length (l : List UInt8) : ∀ k, (sw l k).length = 64
  | 0 => by simp [sw]
  | k + 1 => by simp [sw, sw_length l k]
def roundsR (r : R8) (W : List (BitVec 32)) : Nat → R8
  | 0 => r
  | k + 1 => (roundsR r W k).next (kTab[k]?.getD 0) (W[k]?.getD 0)
def mixR (h : List (BitVec 32)) (b : List UInt8) : List (BitVec 32) := addTo h (roundsR (R8.of h) (sw b 64) 64).list 8
def hashR (m : List UInt8) : Nat → List (BitVec 32)
  | 0 => hTab
  | n + 1 => mixR (hashR m n) ((m.drop (64 * n)).take 64)
theorem hashR_length (m : List UInt8) : ∀ n, (hashR m n).length = 8
  | 0 => by rfl
  | n + 1 => by rw [hashR, mixR, addTo_length, hashR_length m n]
/-- So many of eight numbers moved one place on, the last one first. -/
def shiftV (v : List (BitVec 32)) : Nat → List (BitVec 32)
  | 0 => v
  | i + 1 => (shiftV v i).set (7 - i) ((shiftV v i)[7 - i - 1]?.getD 0)
theorem shiftV_length (v : List (BitVec 32)) : ∀ i, (shiftV v i).length = v.length
  | 0 => rfl
  | i + 1 => by simp [shiftV, shiftV_length v i]
theorem shiftV_all (a b c d e f g h : BitVec 32) : shiftV [a, b, c, d, e, f, g, h] 7 = [a, a, b, c, d, e, f, g] := by rfl
/-- The bytes of the first i of eight numbers. -/
def wordB (x : BitVec 32) (k : Nat) : UInt8 := UInt8.ofNat (x.toNat / 2 ^ (8 * (3 - k)))
def outR (H : List (BitVec 32)) : Nat → List UInt8
  | 0 => List.replicate 32 0
  | i + 1 => ((((outR H i).set (4 * i) (wordB (H[i]?.getD 0) 0)).set (4 * i + 1) (wordB (H[i]?.getD 0) 1)).set (4 * i + 2) (wordB (H[i]?.getD 0) 2)).set (4 * i + 3) (wordB (H[i]?.getD 0) 3)
theorem outR_length (H : List (BitVec 32)) : ∀ i, (outR H i).length = 32
  | 0 => by simp [outR]
  | i + 1 => by simp [outR, outR_length H i]
theorem mulw (x : BitVec 32) (c : Nat) (hc : c < 4294967296) : nv x * (c : Int) % 4294967296 = nv (x * BitVec.ofNat 32 c) := by
  unfold nv
  rw [BitVec.toNat_mul, BitVec.toNat_ofNat, Nat.mod_eq_of_lt (show c < 2 ^ 32 from hc)]
  have h : (2 : Nat) ^ 32 = 4294967296 := rfl
  rw [h]
  simp
end Go.Proofs.YtebhlfmianohlaaDoor

/-! The reference: turn, numbers. -/
namespace Go.Proofs.YtebhlfmianohlaaDoor
open Go.RowKit

set_option maxHeartbeats 1000000 in
theorem rturn_any (x : BitVec 32) (r : Int) (h0 : 0 ≤ r) (h : r < 31) (w : World) :
    Calls Tryd.prog 38 #[.int .u32 (nv x), .int .i64 r] w fun e w' => e = .returned (.int .u32 (nv (rotr x r.toNat))) ∧ w = w' := by
  go_enter Tryd.func38, Tryd.ntmps38
  go_wp2_with fail
  go_loop [0, 5] (fun v i => ∃ k : Nat, (k : Int) ≤ r ∧ i = .int .i64 k ∧ v = .int .u32 (nv (rotr x k))) (fun _ i => (r - intOf i).toNat)
  case atStart => exact ⟨0, by omega, rfl, by rw [rotr_zero]⟩
  case round =>
    obtain ⟨k, hk, rfl, rfl⟩ := hrel
    by_cases hlt : (k : Int) < r
    · have HN := Lib.hid (nv_half x k (by omega))
      have n1 := W32.nn (rotr x k)
      have hm := W32.mod_ (rotr x (k + 1))
      generalize hy : rotr x k = y at *
      go_wp2
      go_round
      case rel =>
        refine ⟨k + 1, by omega, by go_num, ?_⟩
        have h1 := HN.out
        have h2 := W32.lt y
        have h3 := W32.lt (rotr x (k + 1))
        have h4 : (nv y).tdiv 2 = nv y / 2 := Int.tdiv_eq_ediv_of_nonneg n1
        rw [h4, Int.emod_eq_of_lt (show 0 ≤ nv y / 2 by omega) (show nv y / 2 < 4294967296 by omega), h1, hm]
      case measure => simp [intOf]; omega
    · have hkr : (k : Int) = r := by omega
      have HK : Hid (k = r.toNat) := Lib.hid (by omega)
      clear hk
      go_wp2
      go_ret
      exact ⟨by rw [← HK.out]; rfl, rfl⟩

def kVals : List (Nat × Value) := [(0, .int .u32 1116352408), (1, .int .u32 1899447441), (2, .int .u32 3049323471), (3, .int .u32 3921009573), (4, .int .u32 961987163), (5, .int .u32 1508970993), (6, .int .u32 2453635748), (7, .int .u32 2870763221), (8, .int .u32 3624381080), (9, .int .u32 310598401), (10, .int .u32 607225278), (11, .int .u32 1426881987), (12, .int .u32 1925078388), (13, .int .u32 2162078206), (14, .int .u32 2614888103), (15, .int .u32 3248222580), (16, .int .u32 3835390401), (17, .int .u32 4022224774), (18, .int .u32 264347078), (19, .int .u32 604807628), (20, .int .u32 770255983), (21, .int .u32 1249150122), (22, .int .u32 1555081692), (23, .int .u32 1996064986), (24, .int .u32 2554220882), (25, .int .u32 2821834349), (26, .int .u32 2952996808), (27, .int .u32 3210313671), (28, .int .u32 3336571891), (29, .int .u32 3584528711), (30, .int .u32 113926993), (31, .int .u32 338241895), (32, .int .u32 666307205), (33, .int .u32 773529912), (34, .int .u32 1294757372), (35, .int .u32 1396182291), (36, .int .u32 1695183700), (37, .int .u32 1986661051), (38, .int .u32 2177026350), (39, .int .u32 2456956037), (40, .int .u32 2730485921), (41, .int .u32 2820302411), (42, .int .u32 3259730800), (43, .int .u32 3345764771), (44, .int .u32 3516065817), (45, .int .u32 3600352804), (46, .int .u32 4094571909), (47, .int .u32 275423344), (48, .int .u32 430227734), (49, .int .u32 506948616), (50, .int .u32 659060556), (51, .int .u32 883997877), (52, .int .u32 958139571), (53, .int .u32 1322822218), (54, .int .u32 1537002063), (55, .int .u32 1747873779), (56, .int .u32 1955562222), (57, .int .u32 2024104815), (58, .int .u32 2227730452), (59, .int .u32 2361852424), (60, .int .u32 2428436474), (61, .int .u32 2756734187), (62, .int .u32 3204031479), (63, .int .u32 3329325298)]
theorem build_tab : (Tryd.prog.built 74 kVals) = some (u32s kTab).toArray := by unfold kVals; kernel_rfl
def zeros64 : Array Value := (u32s (List.replicate 64 0)).toArray
theorem tab_info : (Tryd.prog.info? 74).map (·.size) = some 64 := by kernel_rfl
theorem zero_tab : ∀ W, (zeroValue 74).run Tryd.prog W = .ok (.agg zeros64) W := fun W => by unfold zeros64; kernel_rfl

set_option maxHeartbeats 1000000 in
set_option maxRecDepth 100000 in
theorem numbers_any (w : World) :
    Calls Tryd.prog 36 #[] w fun e w' => e = .returned (.agg (u32s kTab).toArray) ∧ Below w.heap.size w w' := by
  have hz := zero_tab
  go_enter Tryd.func36, Tryd.ntmps36
  have HG := Lib.hid (heap_alloc_new w (.cells zeros64 74))
  have HK := Lib.hid (And.intro (show (u32s kTab).toArray.size = 64 by rfl) (all_oneCell_toArray (u32s_one kTab)))
  obtain ⟨RS, hRS⟩ : ∃ RS, RS = (u32s kTab).toArray := ⟨_, rfl⟩
  have hb := build_tab
  rw [← hRS] at HK hb
  have HB := Lib.hid (And.intro hb hRS)
  clear hb hRS
  go_wp2_with (first | (refine wpList_built (by rfl) 74 _ (by rfl) kVals (by unfold kVals; simp [Act.eval]) RS HB.out.1 ?_) | (refine wpList_store_row (by rfl) 74 (.tmp 0) (.tmp 1) (by rfl) w.heap.size RS (by rfl) (by rfl) 74 _ HG.out (by rw [HK.out.1]; exact tab_info) (by rw [HK.out.1]; rfl) HK.out.2 ?_))
  refine bodyPost_ret (results_cell_row rfl _ _ w.heap.size 74 RS (0, 0) _ rfl (setRow_at HG.out) Tryd.underlying74 rfl (by rw [HK.out.1]; exact tab_info)) rfl ⟨by rw [HB.out.2], below_setRow ((Below.refl _ _).alloc (Nat.le_refl _) _) (Nat.le_refl _) _⟩
end Go.Proofs.YtebhlfmianohlaaDoor

/-! The reference: schedule. -/
namespace Go.Proofs.YtebhlfmianohlaaDoor
open Go.RowKit

theorem rturn_still (x : BitVec 32) (r : Int) (h0 : 0 ≤ r) (h : r < 31) (w : World) : Calls Tryd.prog 38 #[.int .u32 (nv x), .int .i64 r] w fun e w' => e = .returned (.int .u32 (nv (rotr x r.toNat))) ∧ w' = w :=
  (rturn_any x r h0 h w).mono fun _ _ ⟨h1, h2⟩ => ⟨h1, h2.symm⟩
theorem str_at (l : List UInt8) (i : Nat) (h : i < l.length) (j : Nat) (hj : j = i) (h2 : j < (⟨l.toArray⟩ : ByteArray).size) : (⟨l.toArray⟩ : ByteArray)[j]'h2 = l[i]?.getD 0 := by
  subst hj
  rw [List.getElem?_eq_getElem h]
  rfl

theorem four (x0 x1 x2 x3 : BitVec 32) : (nv x0 * 16777216 + nv x1 * 65536 + nv x2 * 256 + nv x3) % 4294967296 = nv (x0 * 16777216#32 + x1 * 65536#32 + x2 * 256#32 + x3) := by
  have h0 := mulw x0 16777216 (by omega)
  have h1 := mulw x1 65536 (by omega)
  have h2 := mulw x2 256 (by omega)
  rw [← W32.add_, ← W32.add_, ← W32.add_, ← h0, ← h1, ← h2]
  omega
theorem quo_w (x : BitVec 32) (k : Nat) : IntKind.u32.wrap ((nv x).tdiv (2 ^ k)) = nv (x >>> k) := by
  rw [Int.tdiv_eq_ediv_of_nonneg (W32.nn x), W32.shr_, IntKind.wrap_u32', W32.mod_]
theorem quo_m (x : BitVec 32) (k : Nat) : (nv x).tdiv (2 ^ k) % 4294967296 = nv (x >>> k) := by
  rw [Int.tdiv_eq_ediv_of_nonneg (W32.nn x), W32.shr_, W32.mod_]

set_option maxHeartbeats 4000000 in
set_option maxRecDepth 100000 in
theorem sched_any (l : List UInt8) (hl : l.length = 64) (w : World) :
    Calls Tryd.prog 37 #[.string ⟨l.toArray⟩] w fun e w' => e = .returned (.agg (u32s (sw l 64)).toArray) ∧ Below w.heap.size w w' := by
  have hz := zero_tab
  have HL := Lib.hid hl
  have hsz : (⟨l.toArray⟩ : ByteArray).size = 64 := by simp [ByteArray.size, hl]
  have hat : ∀ i, i < 64 → ∀ (j : Nat), j = i → ∀ (h : j < (⟨l.toArray⟩ : ByteArray).size), (⟨l.toArray⟩ : ByteArray)[j]'h = l[i]?.getD 0 := fun i hi j hj h => str_at l i (by omega) j hj h
  obtain ⟨s, hs⟩ : ∃ s : ByteArray, s = ⟨l.toArray⟩ := ⟨_, rfl⟩
  rw [← hs] at hsz hat ⊢
  have HA := Lib.hid (And.intro hat hs)
  clear hat hs hl
  go_enter Tryd.func37, Tryd.ntmps37
  go_wp2_with fail
  go_loopw [4, 5, 6] (fun i _ _ wr => ∃ k : Nat, k ≤ 64 ∧ i = .int .i64 k ∧ Below w.heap.size w wr ∧ wr.heap[w.heap.size]? = some (.cells zeros64 74 (0, 0)) ∧ wr.heap[w.heap.size + 1]? = some (.cells (u32s (sw l k)).toArray 74 (0, 0)))
    (fun i _ _ _ => 64 - (intOf i).toNat)
  case atStart => exact ⟨0, Nat.zero_le _, rfl, ((Below.refl _ _).alloc (Nat.le_refl _) _).alloc (by simp) _, (Below.heap_alloc _ _ _ (by simp)).trans (heap_alloc_new w _), by have := heap_alloc_new (w.alloc (.cells zeros64 74)) (.cells zeros64 74); simpa [sw, zeros64] using this⟩
  case round =>
    obtain ⟨k, hk, rfl, hbr, h1, h2⟩ := hrel
    have H1 := Lib.hid h1
    have H2 := Lib.hid h2
    have hswl := sw_length l k
    by_cases hlt : k < 64
    · by_cases h16 : k < 16
      · have HE : Hid (sw l (k + 1) = (sw l k).set k (bew l k)) := Lib.hid (by rw [sw, if_pos h16])
        have hw0 := IntWalk.i64_in (4 * (k : Int)) (by omega)
        have hw1 := IntWalk.i64_in (4 * (k : Int) + 1) (by omega)
        have hw2 := IntWalk.i64_in (4 * (k : Int) + 2) (by omega)
        have hw3 := IntWalk.i64_in (4 * (k : Int) + 3) (by omega)
        have HB : Hid (bew l k = byW l (4 * k) * 16777216#32 + byW l (4 * k + 1) * 65536#32 + byW l (4 * k + 2) * 256#32 + byW l (4 * k + 3)) := Lib.hid rfl
        have g0 := HA.out.1 (4 * k) (by omega) (4 * (k : Int)).toNat (by omega)
        have p0 : 0 ≤ 4 * (k : Int) := by omega
        have q0 : 4 * (k : Int) < 64 := by omega
        have g1 := HA.out.1 (4 * k + 1) (by omega) (4 * (k : Int) + 1).toNat (by omega)
        have p1 : 0 ≤ 4 * (k : Int) + 1 := by omega
        have q1 : 4 * (k : Int) + 1 < 64 := by omega
        have g2 := HA.out.1 (4 * k + 2) (by omega) (4 * (k : Int) + 2).toNat (by omega)
        have p2 : 0 ≤ 4 * (k : Int) + 2 := by omega
        have q2 : 4 * (k : Int) + 2 < 64 := by omega
        have g3 := HA.out.1 (4 * k + 3) (by omega) (4 * (k : Int) + 3).toNat (by omega)
        have p3 : 0 ≤ 4 * (k : Int) + 3 := by omega
        have q3 : 4 * (k : Int) + 3 < 64 := by omega
        have b0 := W32.of_byte (l[4 * k]?.getD 0)
        have b1 := W32.of_byte (l[4 * k + 1]?.getD 0)
        have b2 := W32.of_byte (l[4 * k + 2]?.getD 0)
        have b3 := W32.of_byte (l[4 * k + 3]?.getD 0)
        unfold byW at HB
        generalize l[4 * k]?.getD 0 = y0 at *
        generalize l[4 * k + 1]?.getD 0 = y1 at *
        generalize l[4 * k + 2]?.getD 0 = y2 at *
        generalize l[4 * k + 3]?.getD 0 = y3 at *
        generalize BitVec.ofNat 32 y0.toNat = x0 at *
        generalize BitVec.ofNat 32 y1.toNat = x1 at *
        generalize BitVec.ofNat 32 y2.toNat = x2 at *
        generalize BitVec.ofNat 32 y3.toNat = x3 at *
        have hq : (k : Int) < 64 := by omega
        clear h1 h2
        go_wp2_with fail
        refine wp_region_still_tail 31 (by kernel_rfl) (by kernel_rfl) ?_
        simp only [List.take_succ_cons, List.take_zero, List.drop_succ_cons, List.drop_zero]
        show wpStill _ _ wr.drew (fun a' => wpList _ _ _ _ a' wr.drew) _ _
        have hcell := u32s_cell H2.out k (by omega)
        have hfree := free_of_cells H2.out k
        have hcell : wr.drew.cell? ⟨w.heap.size + 1, k, none⟩ = _ := hcell
        have hfree : wr.drew.frozen? ⟨w.heap.size + 1, k, none⟩ = _ := hfree
        have m0 := W32.mod_
        iterate 31 still_step
        refine wpStill_nil ?_
        go_wp2_with fail
        go_roundw
        case rel =>
          have h1 := u32s_cells_set H2.out k (x0 * 16777216#32 + x1 * 65536#32 + x2 * 256#32 + x3)
          rw [← HB.out, ← HE.out] at h1
          rw [four, ← HB.out]
          exact ⟨k + 1, by omega, by go_num, below_drew (hbr.setCell (by simp) _), (Below.heap_setCell _ _ _ _ (by simp)).trans H1.out, h1⟩
        case measure => simp [intOf]; omega
      · have HE : Hid (sw l (k + 1) = (sw l k).set k (swk (sw l k) k)) := Lib.hid (by rw [sw, if_neg h16])
        have HB : Hid (swk (sw l k) k = ((sw l k)[k - 16]?.getD 0) + lowB ((sw l k)[k - 15]?.getD 0) + ((sw l k)[k - 7]?.getD 0) + highB ((sw l k)[k - 2]?.getD 0)) := Lib.hid rfl
        have c15 := u32s_cell H2.out (k - 15) (by omega)
        have c2 := u32s_cell H2.out (k - 2) (by omega)
        have c16 := u32s_cell H2.out (k - 16) (by omega)
        have c7 := u32s_cell H2.out (k - 7) (by omega)
        have c0 := u32s_cell H2.out k (by omega)
        have f0 := free_of_cells H2.out k
        generalize (sw l k)[k - 15]?.getD 0 = x15 at *
        generalize (sw l k)[k - 2]?.getD 0 = x2 at *
        generalize (sw l k)[k - 16]?.getD 0 = x16 at *
        generalize (sw l k)[k - 7]?.getD 0 = x7 at *
        generalize (sw l k)[k]?.getD 0 = xk at *
        have hw2 := IntWalk.i64_in ((k : Int) - 2) (by omega)
        have hw7 := IntWalk.i64_in ((k : Int) - 7) (by omega)
        have hw15 := IntWalk.i64_in ((k : Int) - 15) (by omega)
        have hw16 := IntWalk.i64_in ((k : Int) - 16) (by omega)
        have p7 : 0 ≤ (k : Int) - 7 := by omega
        have q7 : (k : Int) - 7 < 64 := by omega
        have p16 : 0 ≤ (k : Int) - 16 := by omega
        have q16 : (k : Int) - 16 < 64 := by omega
        have e7 : ((k : Int) - 7).toNat = k - 7 := by omega
        have e16 : ((k : Int) - 16).toNat = k - 16 := by omega
        have hq : (k : Int) < 64 := by omega
        clear h1 h2
        go_wp2_with fail
        refine wp_region_still_tail 29 (by kernel_rfl) (by kernel_rfl) ?_
        simp only [List.take_succ_cons, List.take_zero, List.drop_succ_cons, List.drop_zero]
        show wpStill _ _ wr.drew (fun a' => wpList _ _ _ _ a' wr.drew) _ _
        have c16 : wr.drew.cell? ⟨w.heap.size + 1, k - 16, none⟩ = _ := c16
        have c7 : wr.drew.cell? ⟨w.heap.size + 1, k - 7, none⟩ = _ := c7
        have c0 : wr.drew.cell? ⟨w.heap.size + 1, k, none⟩ = _ := c0
        have f0 : wr.drew.frozen? ⟨w.heap.size + 1, k, none⟩ = _ := f0
        have l7 : 7 ≤ (k : Int) := by omega
        have l16 : 16 ≤ (k : Int) := by omega
        have haw := W32.addw
        have hxor := W32.xor_
        have t3 := fun x => quo_w x 3
        have t10 := fun x => quo_w x 10
        simp only [show ((2 : Int) ^ 3) = 8 from rfl, show ((2 : Int) ^ 10) = 1024 from rfl] at t3 t10
        iterate 6 still_step
        iterate 2 (refine wpStill_step (fun K hK => ?_); go_simp; refine ⟨_, rturn_still _ _ (by omega) (by omega) _, hK _ ?_⟩; clear hK K; try still_step)
        iterate 10 still_step
        iterate 2 (refine wpStill_step (fun K hK => ?_); go_simp; refine ⟨_, rturn_still _ _ (by omega) (by omega) _, hK _ ?_⟩; clear hK K; try still_step)
        iterate 5 still_step
        refine wpStill_nil ?_
        have HV : Hid (nv (x16 + (rotr x15 7 ^^^ rotr x15 18 ^^^ x15 >>> 3) + x7 + (rotr x2 17 ^^^ rotr x2 19 ^^^ x2 >>> 10)) = nv (swk (sw l k) k)) := Lib.hid (by rw [HB.out]; rfl)
        go_wp2_with fail
        go_roundw
        case rel =>
          have h1 := u32s_cells_set H2.out k (swk (sw l k) k)
          rw [← HE.out, ← HV.out] at h1
          exact ⟨k + 1, by omega, by go_num, below_drew (hbr.setCell (by simp) _), (Below.heap_setCell _ _ _ _ (by simp)).trans H1.out, h1⟩
        case measure => simp [intOf]; omega
    · obtain rfl : k = 64 := by omega
      generalize hWs : sw l 64 = Ws at *
      have hi16 : (Tryd.prog.info? 74).map (·.size) = some (u32s Ws).toArray.size := by rw [show (u32s Ws).toArray.size = 64 by simp [u32s_length, hswl]]; exact tab_info
      have HS := Lib.hid (show zeros64.size = (u32s Ws).toArray.size by simp [u32s_length, hswl]; rfl)
      obtain ⟨RS, hRS⟩ : ∃ RS, RS = (u32s Ws).toArray := ⟨_, rfl⟩
      have hall : RS.all (·.oneCell') = true := by rw [hRS]; exact all_oneCell_toArray (u32s_one Ws)
      rw [← hRS] at hi16 HS H2
      have HZ := Lib.hid (And.intro hi16 hall)
      have HR := Lib.hid (And.intro hRS hWs)
      clear h1 h2 hi16 hall hWs hRS hswl
      go_wp2_with (first | (refine wpList_load_row (by rfl) 74 (.tmp 3) (by rfl) (w.heap.size + 1) (by rfl) 74 RS (0, 0) _ H2.out Tryd.underlying74 (by rfl) HZ.out.1 ?_) | (refine wpList_store_row (by rfl) 74 (.tmp 2) (.tmp 81) (by rfl) w.heap.size RS (by rfl) (by rfl) 74 _ H1.out HZ.out.1 HS.out HZ.out.2 ?_))
      refine bodyPost_ret (results_cell_row rfl _ _ w.heap.size 74 RS (0, 0) _ rfl (setRow_at H1.out) Tryd.underlying74 rfl HZ.out.1) rfl ⟨by rw [HR.out.1, ← HR.out.2], below_setRow hbr (Nat.le_refl _) _⟩
end Go.Proofs.YtebhlfmianohlaaDoor

/-! Plain mathematics: what the reference reckons is what digest does. -/
namespace Go.Proofs.YtebhlfmianohlaaDoor

theorem out_told (H : List (BitVec 32)) (h : H.length = 8) : outR H 8 = toldA H 32 := by
  match H, h with
  | [a, b, c, d, e, f, g, i], _ => rfl

/-! The first sixteen words -/
def w4 (b : List UInt8) (j : Nat) : BitVec 32 := ((((0 : BitVec 32) <<< (8 : Nat) ||| byW b (4 * j)) <<< (8 : Nat) ||| byW b (4 * j + 1)) <<< (8 : Nat) ||| byW b (4 * j + 2)) <<< (8 : Nat) ||| byW b (4 * j + 3)
theorem wacc_all (b : List UInt8) : wacc b 64 = [w4 b 0, w4 b 1, w4 b 2, w4 b 3, w4 b 4, w4 b 5, w4 b 6, w4 b 7, w4 b 8, w4 b 9, w4 b 10, w4 b 11, w4 b 12, w4 b 13, w4 b 14, w4 b 15] := by kernel_rfl
theorem byW_lt (b : List UInt8) (i : Nat) : (byW b i).toNat < 256 := by
  unfold byW
  have := (b[i]?.getD 0).toNat_lt
  rw [BitVec.toNat_ofNat, Nat.mod_eq_of_lt (by omega)]
  exact this
theorem sh_or (x c : BitVec 32) (hc : c.toNat < 256) : x <<< (8 : Nat) ||| c = x * 256#32 + c := by
  apply BitVec.eq_of_toNat_eq
  have e1 : x.toNat <<< 8 % 2 ^ 32 = (x.toNat % 16777216) <<< 8 := by
    rw [Nat.shiftLeft_eq, Nat.shiftLeft_eq]
    omega
  have e2 := Nat.shiftLeft_add_eq_or_of_lt (i := 8) (b := c.toNat) (by omega) (x.toNat % 16777216)
  rw [BitVec.toNat_or, BitVec.toNat_shiftLeft, e1, ← e2, BitVec.toNat_add, BitVec.toNat_mul, Nat.shiftLeft_eq]
  have h : (256#32).toNat = 256 := rfl
  rw [h]
  omega
theorem w4_bew (b : List UInt8) (j : Nat) : w4 b j = bew b j := by
  unfold w4 bew
  have h0 := byW_lt b (4 * j)
  have h1 := byW_lt b (4 * j + 1)
  have h2 := byW_lt b (4 * j + 2)
  have h3 := byW_lt b (4 * j + 3)
  rw [sh_or _ _ h0, sh_or _ _ h1, sh_or _ _ h2, sh_or _ _ h3]
  generalize byW b (4 * j) = c0 at *
  generalize byW b (4 * j + 1) = c1 at *
  generalize byW b (4 * j + 2) = c2 at *
  generalize byW b (4 * j + 3) = c3 at *
  have e2 : 256#32 * 256#32 = 65536#32 := by decide
  have e3 : 65536#32 * 256#32 = 16777216#32 := by decide
  have e4 : (0 : BitVec 32) = 0#32 := rfl
  simp only [BitVec.add_mul, BitVec.mul_assoc, e2, e3]
  rw [e4, BitVec.zero_mul, BitVec.zero_add]
theorem wacc_at (b : List UInt8) (j : Nat) (h : j < 16) : (wacc b 64)[j]?.getD 0 = bew b j := by
  rw [wacc_all, ← w4_bew]
  match j, h with
  | 0, _ | 1, _ | 2, _ | 3, _ | 4, _ | 5, _ | 6, _ | 7, _ | 8, _ | 9, _ | 10, _ | 11, _ | 12, _ | 13, _ | 14, _ | 15, _ => rfl
  | n + 16, h => exact absurd h (by omega)

/-! The sixty-four words -/
def swS (b : List UInt8) (i : Nat) : BitVec 32 := (sw b 64)[i]?.getD 0
theorem sw_keep (b : List UInt8) : ∀ (n i : Nat), i < n → n ≤ 64 → (sw b n)[i]?.getD 0 = (sw b (i + 1))[i]?.getD 0
  | 0, i, h, _ => by omega
  | n + 1, i, h, hn => by
    rcases Nat.lt_succ_iff_lt_or_eq.1 h with h1 | rfl
    · rw [← sw_keep b n i h1 (by omega), sw, List.getElem?_set_ne (by omega)]
    · rfl
theorem swS_at (b : List UInt8) (n i : Nat) (h : i < n) (hn : n ≤ 64) : (sw b n)[i]?.getD 0 = swS b i := by
  rw [sw_keep b n i h hn, swS, sw_keep b 64 i (by omega) (by omega)]
theorem sw_at (b : List UInt8) (k : Nat) (h : k < 64) : (sw b (k + 1))[k]?.getD 0 = if k < 16 then bew b k else swk (sw b k) k := by
  have hl := sw_length b k
  rw [sw]
  generalize (if k < 16 then bew b k else swk (sw b k) k) = x
  generalize sw b k = L at *
  rw [List.getElem?_set_self (by omega)]
  rfl
theorem swS_new (b : List UInt8) (k : Nat) (h : k < 64) : swS b k = if k < 16 then bew b k else swk (sw b k) k := by
  rw [← swS_at b (k + 1) k (by omega) (by omega), sw_at b k h]
theorem swS_hi (b : List UInt8) (k : Nat) (h : k < 64) (h16 : 16 ≤ k) : swS b k = swS b (k - 16) + (lowB (swS b (k - 15)) + swS b (k - 7) + highB (swS b (k - 2))) := by
  rw [swS_new b k h, if_neg (by omega), swk, swS_at b k _ (by omega) (by omega), swS_at b k _ (by omega) (by omega), swS_at b k _ (by omega) (by omega), swS_at b k _ (by omega) (by omega)]
  simp only [BitVec.add_assoc]

theorem ring_inv (L W : List (BitVec 32)) (S : Nat → BitVec 32) (hL : L.length = 16) (h0 : ∀ m, m < 16 → L[m]?.getD 0 = S m) (hW : ∀ k, k < 64 → W[k]?.getD 0 = S k)
    (hS : ∀ k, 16 ≤ k → k < 64 → S k = S (k - 16) + (lowB (S (k - 15)) + S (k - 7) + highB (S (k - 2)))) (r : R8) : ∀ k, k ≤ 64 →
    (∀ m, m < max k 16 → max k 16 ≤ m + 16 → ((rounds r L k).2)[m % 16]?.getD 0 = S m) ∧ (rounds r L k).1 = roundsR r W k := by
  intro k
  induction k with
  | zero =>
    intro _
    refine ⟨fun m h1 h2 => ?_, rfl⟩
    have hm : m < 16 := by omega
    rw [show m % 16 = m by omega]
    exact h0 m hm
  | succ k ih =>
    intro hk
    obtain ⟨ih1, ih2⟩ := ih (by omega)
    have hl : (rounds r L k).2.length = 16 := by rw [rounds_length, hL]
    have key : (ring (rounds r L k).2 k)[k % 16]?.getD 0 = S k ∧ ∀ m, m < max (k + 1) 16 → max (k + 1) 16 ≤ m + 16 → (ring (rounds r L k).2 k)[m % 16]?.getD 0 = S m := by
      by_cases h16 : k < 16
      · have e : ring (rounds r L k).2 k = (rounds r L k).2 := by unfold ring; rw [if_pos h16]
        rw [e]
        exact ⟨ih1 k (by omega) (by omega), fun m h1 h2 => ih1 m (by omega) (by omega)⟩
      · have e : ring (rounds r L k).2 k = (rounds r L k).2.set (k % 16) (S k) := by
          unfold ring
          rw [if_neg h16, hS k (by omega) (by omega), ← ih1 (k - 16) (by omega) (by omega), ← ih1 (k - 15) (by omega) (by omega), ← ih1 (k - 7) (by omega) (by omega), ← ih1 (k - 2) (by omega) (by omega),
            show (k - 16) % 16 = k % 16 by omega, show (k - 15) % 16 = (k + 1) % 16 by omega, show (k - 7) % 16 = (k + 9) % 16 by omega, show (k - 2) % 16 = (k + 14) % 16 by omega]
        rw [e]
        have hself : ((rounds r L k).2.set (k % 16) (S k))[k % 16]?.getD 0 = S k := by
          rw [List.getElem?_set_self (by omega)]; rfl
        refine ⟨hself, fun m h1 h2 => ?_⟩
        by_cases hm : m = k
        · subst hm; exact hself
        · rw [List.getElem?_set_ne (by omega)]
          exact ih1 m (by omega) (by omega)
    refine ⟨key.2, ?_⟩
    have e1 : (rounds r L (k + 1)).1 = (rounds r L k).1.next (kTab[k]?.getD 0) ((ring (rounds r L k).2 k)[k % 16]?.getD 0) := rfl
    have e2 : roundsR r W (k + 1) = (roundsR r W k).next (kTab[k]?.getD 0) (W[k]?.getD 0) := rfl
    rw [e1, e2, key.1, ih2, hW k (by omega)]

theorem mix_eq (h : List (BitVec 32)) (b : List UInt8) : mixR h b = mixB h b := by
  have h1 : ∀ m, m < 16 → (wacc b 64)[m]?.getD 0 = swS b m := fun m hm => by rw [wacc_at b m hm, swS_new b m (by omega), if_pos hm]
  have h2 : ∀ k, k < 64 → (sw b 64)[k]?.getD 0 = swS b k := fun k _ => rfl
  have h3 := fun k h16 hk => swS_hi b k hk h16
  have h4 := wacc_length b 64
  unfold mixR mixB
  generalize wacc b 64 = L at *
  generalize sw b 64 = W at *
  rw [(ring_inv L W (swS b) h4 h1 h2 h3 (R8.of h) 64 (by omega)).2]

theorem hashR_eq (M : List UInt8) : ∀ (j : Nat), hashR M j = hashN M j
  | 0 => rfl
  | j + 1 => by rw [hashR, hashN, hashR_eq M j, mix_eq]
end Go.Proofs.YtebhlfmianohlaaDoor
