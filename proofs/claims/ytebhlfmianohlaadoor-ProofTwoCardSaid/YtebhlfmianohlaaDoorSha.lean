/-
  Plain mathematics: what digest reckons, as functions of lists of bytes and of numbers of 32 bits. No program is named here.
  math/bits.RotateLeft32, and digest's turn, low, high.
  digest.sum.words: the sixteen words of the block.
  Plain mathematics: a digest under way: what it holds behind the bytes m.
-/
import Derived.Test.YtebhlfmianohlaaDoorWords
import Derived.Test.YtebhlfmianohlaaDoorChecked
import Derived.Test.YtebhlfmianohlaaDoorMem
import Derived.Test.YtebhlfmianohlaaDoorCells
import Derived.BigQuiet
import Derived.Deep.MidRow
import Derived.DeepKeys
import Derived.OpenShut
/-! Plain mathematics: what digest reckons, as functions of lists of bytes and of numbers of 32 bits. No program is named here. -/
namespace Go.Proofs.YtebhlfmianohlaaDoor

def lowB (x : BitVec 32) : BitVec 32 := rotr x 7 ^^^ rotr x 18 ^^^ x >>> (3 : Nat)
def highB (x : BitVec 32) : BitVec 32 := rotr x 17 ^^^ rotr x 19 ^^^ x >>> (10 : Nat)
/-- The words of the first k bytes. -/
def wacc (b : List UInt8) : Nat → List (BitVec 32)
  | 0 => List.replicate 16 0
  | k + 1 => (wacc b k).set (k / 4) (((wacc b k)[k / 4]?.getD 0) <<< (8 : Nat) ||| BitVec.ofNat 32 (b[k]?.getD 0).toNat)
theorem wacc_length (b : List UInt8) : ∀ k, (wacc b k).length = 16
  | 0 => by simp [wacc]
  | k + 1 => by simp [wacc, wacc_length b k]

def hTab : List (BitVec 32) := [1779033703, 3144134277, 1013904242, 2773480762, 1359893119, 2600822924, 528734635, 1541459225]
def kTab : List (BitVec 32) := [1116352408, 1899447441, 3049323471, 3921009573, 961987163, 1508970993, 2453635748, 2870763221, 3624381080, 310598401, 607225278, 1426881987, 1925078388, 2162078206, 2614888103, 3248222580, 3835390401, 4022224774, 264347078, 604807628, 770255983, 1249150122, 1555081692, 1996064986, 2554220882, 2821834349, 2952996808, 3210313671, 3336571891, 3584528711, 113926993, 338241895, 666307205, 773529912, 1294757372, 1396182291, 1695183700, 1986661051, 2177026350, 2456956037, 2730485921, 2820302411, 3259730800, 3345764771, 3516065817, 3600352804, 4094571909, 275423344, 430227734, 506948616, 659060556, 883997877, 958139571, 1322822218, 1537002063, 1747873779, 1955562222, 2024104815, 2227730452, 2361852424, 2428436474, 2756734187, 3204031479, 3329325298]

/-- The eight numbers that go round. -/
structure R8 where
  a : BitVec 32
  b : BitVec 32
  c : BitVec 32
  d : BitVec 32
  e : BitVec 32
  f : BitVec 32
  g : BitVec 32
  h : BitVec 32
def R8.list (r : R8) : List (BitVec 32) := [r.a, r.b, r.c, r.d, r.e, r.f, r.g, r.h]
def R8.of (l : List (BitVec 32)) : R8 := ⟨l[0]?.getD 0, l[1]?.getD 0, l[2]?.getD 0, l[3]?.getD 0, l[4]?.getD 0, l[5]?.getD 0, l[6]?.getD 0, l[7]?.getD 0⟩
def R8.t1 (r : R8) (k w : BitVec 32) : BitVec 32 := r.h + (rotr r.e 6 ^^^ rotr r.e 11 ^^^ rotr r.e 25) + (r.e &&& r.f ^^^ ~~~r.e &&& r.g) + k + w
def R8.t2 (r : R8) : BitVec 32 := (rotr r.a 2 ^^^ rotr r.a 13 ^^^ rotr r.a 22) + (r.a &&& r.b ^^^ r.a &&& r.c ^^^ r.b &&& r.c)
def R8.next (r : R8) (k w : BitVec 32) : R8 := ⟨r.t1 k w + r.t2, r.a, r.b, r.c, r.d + r.t1 k w, r.e, r.f, r.g⟩
/-- The word of round k takes its place. -/
def ring (l : List (BitVec 32)) (k : Nat) : List (BitVec 32) :=
  if k < 16 then l else l.set (k % 16) ((l[k % 16]?.getD 0) + (lowB (l[(k + 1) % 16]?.getD 0) + (l[(k + 9) % 16]?.getD 0) + highB (l[(k + 14) % 16]?.getD 0)))
theorem ring_length (l : List (BitVec 32)) (k : Nat) : (ring l k).length = l.length := by unfold ring; split <;> simp
def rounds (r : R8) (l : List (BitVec 32)) : Nat → R8 × List (BitVec 32)
  | 0 => (r, l)
  | k + 1 => ((rounds r l k).1.next (kTab[k]?.getD 0) ((ring (rounds r l k).2 k)[k % 16]?.getD 0), ring (rounds r l k).2 k)
theorem rounds_length (r : R8) (l : List (BitVec 32)) : ∀ k, (rounds r l k).2.length = l.length
  | 0 => rfl
  | k + 1 => by simp [rounds, ring_length, rounds_length r l k]
/-- The first k numbers with those of a row added. -/
def addTo (h m : List (BitVec 32)) : Nat → List (BitVec 32)
  | 0 => h
  | k + 1 => (addTo h m k).set k (((addTo h m k)[k]?.getD 0) + (m[k]?.getD 0))
theorem addTo_length (h m : List (BitVec 32)) : ∀ k, (addTo h m k).length = h.length
  | 0 => rfl
  | k + 1 => by simp [addTo, addTo_length h m k]
/-- One block. -/
def mixB (h : List (BitVec 32)) (b : List UInt8) : List (BitVec 32) := addTo h (rounds (R8.of h) (wacc b 64) 64).1.list 8
theorem mixB_length (h : List (BitVec 32)) (b : List UInt8) : (mixB h b).length = h.length := addTo_length _ _ _
end Go.Proofs.YtebhlfmianohlaaDoor

/-! math/bits.RotateLeft32, and digest's turn, low, high. -/
namespace Go.Proofs.YtebhlfmianohlaaDoor
open Go.RowKit

theorem rot_val (x : BitVec 32) (r s : Nat) (h : r + s = 32) (h0 : 0 < s) :
    bits .or .u32 (nv x * 2 ^ s % 4294967296) (nv x / 2 ^ (32 - s)) = nv (rotr x r) := by
  obtain rfl : s = 32 - r := by omega
  have hr : r < 32 := by omega
  rw [show 32 - (32 - r) = r by omega]
  unfold nv rotr
  have hx := x.isLt
  have e1 : ((x.toNat : Int) * 2 ^ (32 - r)) % 4294967296 = ((x.toNat * 2 ^ (32 - r) % 4294967296 : Nat) : Int) := by simp
  have e2 : ((x.toNat : Int) / 2 ^ r) = ((x.toNat / 2 ^ r : Nat) : Int) := by simp
  have hd : x.toNat / 2 ^ r < 4294967296 := Nat.lt_of_le_of_lt (Nat.div_le_self _ _) (by omega)
  rw [e1, e2, u32_or_nat _ _ (Nat.mod_lt _ (by decide)) hd, BitVec.toNat_rotateRight, Nat.mod_eq_of_lt hr, Nat.shiftRight_eq_div_pow, Nat.shiftLeft_eq, Nat.or_comm]

theorem mask_neg (r : Nat) (h0 : 0 < r) (h : r < 32) : bits .and .u64 (IntKind.u64.wrap (-(r : Int))) 31 = ((32 - r : Nat) : Int) := by
  have : ∀ r : Fin 32, 0 < r.val → bits .and .u64 (IntKind.u64.wrap (-(r.val : Int))) 31 = ((32 - r.val : Nat) : Int) := by decide +kernel
  exact this ⟨r, h⟩ h0

set_option maxHeartbeats 400000 in
theorem rotl32 (x : BitVec 32) (r : Nat) (h0 : 0 < r) (h : r < 32) (k : Int) (hk : k = -(r : Int)) (w : World) :
    Calls Tryd.prog 56 #[.int .u32 (nv x), .int .i64 k] w fun e w' => e = .returned (.int .u32 (nv (rotr x r))) ∧ w = w' := by
  have hx := W32.lt x
  have hx0 := W32.nn x
  have hm := mask_neg r h0 h
  rw [← hk] at hm
  clear hk
  obtain ⟨s, hs⟩ : ∃ s, s = 32 - r := ⟨_, rfl⟩
  rw [← hs] at hm
  have hv := rot_val x r s (by omega) (by omega)
  have h1 : s ≤ 32 := by omega
  clear hs
  go_enter Tryd.func56, Tryd.ntmps56
  go_wp2
  go_ret
  exact ⟨rfl, rfl⟩

set_option maxHeartbeats 400000 in
theorem turn_any (x : BitVec 32) (k : Int) (h0 : 0 < k) (h : k < 32) (w : World) :
    Calls Tryd.prog 55 #[.int .u32 (nv x), .int .i64 k] w fun e w' => e = .returned (.int .u32 (nv (rotr x k.toNat))) ∧ w = w' := by
  have hx := W32.lt x
  have hx0 := W32.nn x
  go_enter Tryd.func55, Tryd.ntmps55
  go_wp2_with (go_at_call 56; refine (rotl32 x k.toNat (by omega) (by omega) _ (by omega) _).mono ?_; rintro _ _ ⟨rfl, rfl⟩)
  go_ret
  exact ⟨rfl, rfl⟩


set_option maxHeartbeats 400000 in
theorem low_any (x : BitVec 32) (w : World) :
    Calls Tryd.prog 53 #[.int .u32 (nv x)] w fun e w' => e = .returned (.int .u32 (nv (lowB x))) ∧ w = w' := by
  have hx := W32.lt x
  have hx0 := W32.nn x
  have h3 : nv x / (8 : Int) = nv (x >>> (3 : Nat)) := W32.shr_ x 3
  have hxor := W32.xor_
  go_enter Tryd.func53, Tryd.ntmps53
  go_wp2_with (go_at_call 55; refine (turn_any x _ (by omega) (by omega) _).mono ?_; rintro _ _ ⟨rfl, rfl⟩)
  go_ret
  exact ⟨rfl, rfl⟩
set_option maxHeartbeats 400000 in
theorem high_any (x : BitVec 32) (w : World) :
    Calls Tryd.prog 54 #[.int .u32 (nv x)] w fun e w' => e = .returned (.int .u32 (nv (highB x))) ∧ w = w' := by
  have hx := W32.lt x
  have hx0 := W32.nn x
  have h3 : nv x / (1024 : Int) = nv (x >>> (10 : Nat)) := W32.shr_ x 10
  have hxor := W32.xor_
  go_enter Tryd.func54, Tryd.ntmps54
  go_wp2_with (go_at_call 55; refine (turn_any x _ (by omega) (by omega) _).mono ?_; rintro _ _ ⟨rfl, rfl⟩)
  go_ret
  exact ⟨rfl, rfl⟩
end Go.Proofs.YtebhlfmianohlaaDoor

/-! digest.sum.words: the sixteen words of the block. -/
namespace Go.Proofs.YtebhlfmianohlaaDoor
open Go.RowKit

/-! Blocks known whole. -/
section
variable {w w' : World} {p : Nat}
end



theorem shl8 (x : BitVec 32) : nv x * 256 % 4294967296 = nv (x <<< (8 : Nat)) := by
  unfold nv
  rw [BitVec.toNat_shiftLeft, Nat.shiftLeft_eq]
  have h : (2 : Nat) ^ 32 = 4294967296 := rfl
  rw [h]
  simp


set_option maxHeartbeats 2000000 in
set_option maxRecDepth 100000 in
theorem words_any {w : World} {p : Nat} {b : List UInt8} (hb : b.length = 64) (hc : w.rangeAt p 8 (u8s b)) (hp : p < w.heap.size) :
    Calls Tryd.prog 52 #[.pointer (some ⟨p, 0, none⟩)] w fun e w' => e = .returned (.agg (u32s (wacc b 64)).toArray) ∧ Below w.heap.size w w' := by
  have hi1 : (Tryd.prog.info? 81).map (·.size) = some (u8s b).length := by rw [u8s_length, hb]; kernel_rfl
  have hi2 : (Tryd.prog.info? 91).map (·.size) = some 16 := by kernel_rfl
  have HI := Lib.hid (And.intro hi1 hi2)
  have HC := Lib.hid (fun w' => range_below (w' := w') hc hp)
  have HB := Lib.hid hb
  obtain ⟨CS, hCS⟩ : ∃ CS, CS = (u8s b).toArray := ⟨_, rfl⟩
  have HCS := Lib.hid hCS
  clear hi1 hi2 hc hb hCS
  go_enter Tryd.func52, Tryd.ntmps52
  go_wp2_with (refine wpList_load_mid (by rfl) 81 (.tmp 8) (by rfl) p 8 (by rfl) (u8s b) _ (HC.out _ (((Below.refl _ _).alloc (Nat.le_refl _) _).alloc (by simp) _)) Tryd.underlying81 (by rfl) HI.out.1 ?_; rw [← HCS.out])
  go_loopw [4, 5, 10] (fun _ _ i wr => ∃ k : Nat, k ≤ 64 ∧ i = .int .i64 k ∧ Below w.heap.size w wr ∧ wr.heap[w.heap.size]? = some (.cells (u32s (List.replicate 16 0)).toArray 91 (0, 0)) ∧ wr.heap[w.heap.size + 1]? = some (.cells (u32s (wacc b k)).toArray 91 (0, 0)))
    (fun _ _ i _ => 64 - (intOf i).toNat)
  case atStart => exact ⟨0, Nat.zero_le _, rfl, ((Below.refl _ _).alloc (Nat.le_refl _) _).alloc (by simp) _, by rw [zeros16]; exact (Below.heap_alloc _ _ _ (by simp)).trans (heap_alloc_new w _), by rw [zeros16]; have := heap_alloc_new (w.alloc (.cells (u32s (List.replicate 16 0)).toArray 91)) (.cells (u32s (List.replicate 16 0)).toArray 91); simpa [wacc] using this⟩
  case round =>
    obtain ⟨k, hk, rfl, hbr, h1, h2⟩ := hrel
    by_cases hlt : k < 64
    · obtain ⟨x, hx⟩ : ∃ x, (wacc b k)[k / 4]?.getD 0 = x := ⟨_, rfl⟩
      obtain ⟨c, hcv⟩ : ∃ c, BitVec.ofNat 32 (b[k]?.getD 0).toNat = c := ⟨_, rfl⟩
      have hcell := u32s_cell h2 (k / 4) (by rw [wacc_length]; omega)
      rw [hx] at hcell
      have hfree := free_of_cells h2 (k / 4)
      have hcs : CS[k]? = some (.int .u8 (nv c)) := by
        rw [HCS.out, ← hcv, ← W32.of_byte]
        simp [u8s, List.getElem?_map, List.getElem?_eq_getElem (show k < b.length by rw [HB.out]; exact hlt)]
      have hix := run_index_arr (P := Tryd.prog) Tryd.underlying81 Tryd.underlying5 u8_size CS k hlt _ hcs
      have hs8 := shl8 x
      have hor := W32.or_ (x <<< (8 : Nat)) c
      have n1 := W32.nn x
      have n3 := W32.nn c
      have n4 := W32.mod_ c
      have HX := Lib.hid (And.intro hx hcv)
      have H1 := Lib.hid h1
      have H2 := Lib.hid h2
      clear hx hcv h1 h2 hcs
      go_wp2
      go_roundw
      case rel =>
        refine ⟨k + 1, by omega, by go_num, hbr.setCell (by simp) _, (Below.heap_setCell _ _ _ _ (by simp)).trans H1.out, ?_⟩
        have := u32s_cells_set H2.out (k / 4) (x <<< (8 : Nat) ||| c)
        rw [this, wacc, HX.out.1, HX.out.2]
      case measure => simp [intOf]; omega
    · obtain rfl : k = 64 := by omega
      have H1 := Lib.hid h1
      have hl := wacc_length b 64
      generalize hWs : wacc b 64 = Ws at *
      have hi16 : (Tryd.prog.info? 91).map (·.size) = some (u32s Ws).toArray.size := by rw [show (u32s Ws).toArray.size = 16 by simp [u32s_length, hl]]; kernel_rfl
      have HS := Lib.hid (show (u32s (List.replicate 16 0)).toArray.size = (u32s Ws).toArray.size by simp [u32s_length, hl])
      obtain ⟨RS, hRS⟩ : ∃ RS, RS = (u32s Ws).toArray := ⟨_, rfl⟩
      have hall : RS.all (·.oneCell') = true := by rw [hRS]; exact all_oneCell_toArray (u32s_one Ws)
      rw [← hRS] at hi16 HS h2
      have HA := Lib.hid (And.intro hi16 hall)
      have H2 := Lib.hid h2
      have HR := Lib.hid (And.intro hRS hWs)
      clear h1 h2 hi16 hall hWs hRS hl
      go_wp2_with (first | (refine wpList_load_row (by rfl) 91 (.tmp 3) (by rfl) (w.heap.size + 1) (by rfl) 91 RS (0, 0) _ H2.out Tryd.underlying91 (by rfl) HA.out.1 ?_) | (refine wpList_store_row (by rfl) 91 (.tmp 2) (.tmp 26) (by rfl) w.heap.size RS (by rfl) (by rfl) 91 _ H1.out HA.out.1 HS.out HA.out.2 ?_))
      refine bodyPost_ret (results_cell_row rfl _ _ w.heap.size 91 RS (0, 0) _ rfl (setRow_at H1.out) Tryd.underlying91 rfl HA.out.1) rfl ⟨by rw [HR.out.1, ← HR.out.2], below_setRow hbr (Nat.le_refl _) _⟩
end Go.Proofs.YtebhlfmianohlaaDoor

/-! Plain mathematics: a digest under way: what it holds behind the bytes m. -/
namespace Go.Proofs.YtebhlfmianohlaaDoor

/-- The numbers behind n blocks. -/
def hashN (m : List UInt8) : Nat → List (BitVec 32)
  | 0 => hTab
  | n + 1 => mixB (hashN m n) ((m.drop (64 * n)).take 64)
theorem hashN_length (m : List UInt8) : ∀ n, (hashN m n).length = 8
  | 0 => by rfl
  | n + 1 => by rw [hashN, mixB_length, hashN_length m n]
theorem hashN_front (m l : List UInt8) : ∀ n, 64 * n ≤ m.length → hashN (m ++ l) n = hashN m n
  | 0, _ => rfl
  | n + 1, h => by
    rw [hashN, hashN, hashN_front m l n (by omega), List.drop_append_of_le_length (by omega), List.take_append_of_le_length (by rw [List.length_drop]; omega)]

/-- The part b, of which d bytes count, behind the bytes m. -/
structure PartOf (m b : List UInt8) : Prop where
  len : b.length = 64
  front : b.take (m.length % 64) = m.drop (64 * (m.length / 64))

/-- So many bytes of l come behind. -/
def laid (m b l : List UInt8) (n : Nat) : List UInt8 := b.take (m.length % 64) ++ (l.take n ++ b.drop (m.length % 64 + n))
theorem laid_length {m b l : List UInt8} {n : Nat} (hb : b.length = 64) (hn : n ≤ l.length) (hd : m.length % 64 + n ≤ 64) : (laid m b l n).length = 64 := by
  simp [laid, hb]; omega
theorem laid_front {m b l : List UInt8} {n : Nat} (h : PartOf m b) (hn : n ≤ l.length) :
    (laid m b l n).take (m.length % 64 + n) = m.drop (64 * (m.length / 64)) ++ l.take n := by
  have hb := h.len
  unfold laid
  rw [← List.append_assoc, List.take_append_of_le_length (by simp [hb]; omega), List.take_of_length_le (by simp [hb]; omega), h.front]
theorem part_short {m b l : List UInt8} {n : Nat} (h : PartOf m b) (hn : n ≤ l.length) (hd : m.length % 64 + n < 64) :
    PartOf (m ++ l.take n) (laid m b l n) ∧ (m ++ l.take n).length % 64 = m.length % 64 + n ∧ hashN (m ++ l.take n) ((m ++ l.take n).length / 64) = hashN m (m.length / 64) := by
  have hl : (m ++ l.take n).length = m.length + n := by simp; omega
  have h1 : (m.length + n) / 64 = m.length / 64 := by omega
  have h2 : (m.length + n) % 64 = m.length % 64 + n := by omega
  refine ⟨⟨laid_length h.len hn (by omega), ?_⟩, by rw [hl, h2], ?_⟩
  · rw [hl, h1, h2, laid_front h hn, List.drop_append_of_le_length (by omega)]
  · rw [hl, h1, hashN_front _ _ _ (by omega)]
theorem part_full {m b l : List UInt8} {n : Nat} (h : PartOf m b) (hn : n ≤ l.length) (hd : m.length % 64 + n = 64) :
    PartOf (m ++ l.take n) (laid m b l n) ∧ (m ++ l.take n).length % 64 = 0 ∧ hashN (m ++ l.take n) ((m ++ l.take n).length / 64) = mixB (hashN m (m.length / 64)) (laid m b l n) := by
  have hl : (m ++ l.take n).length = m.length + n := by simp; omega
  have h1 : (m.length + n) / 64 = m.length / 64 + 1 := by omega
  have h2 : (m.length + n) % 64 = 0 := by omega
  have hll := laid_length (m := m) h.len hn (by omega)
  have hf := laid_front h hn
  rw [hd, List.take_of_length_le (by omega)] at hf
  refine ⟨⟨hll, ?_⟩, by rw [hl, h2], ?_⟩
  · rw [hl, h1, h2, List.take_zero, List.drop_eq_nil_of_le (by rw [hl]; omega)]
  · rw [hl, h1, hashN, hashN_front _ _ _ (by omega), hf]
    congr 1
    rw [List.drop_append_of_le_length (by omega), List.take_of_length_le]
    simp; omega
/-- What the cells are behind the copy. -/
theorem laid_cells (H : List (BitVec 32)) (hH : H.length = 8) (m b l : List UInt8) (n : Nat) (hb : b.length = 64) (hd : m.length % 64 + n ≤ 64) (tl : List Value) :
    (u32s H ++ (u8s b ++ tl)).take (8 + m.length % 64) ++ (u8s (l.take n) ++ (u32s H ++ (u8s b ++ tl)).drop (8 + m.length % 64 + n)) = u32s H ++ (u8s (laid m b l n) ++ tl) := by
  have e1 : (u32s H).length = 8 := by rw [u32s_length, hH]
  have e2 : (u8s b).length = 64 := by rw [u8s_length, hb]
  rw [List.take_append, e1, List.take_of_length_le (by omega), Nat.add_sub_cancel_left, List.drop_append, e1, List.drop_eq_nil_of_le (by omega), List.nil_append,
    List.take_append_of_le_length (by omega), List.drop_append_of_le_length (by omega)]
  rw [show 8 + m.length % 64 + n - 8 = m.length % 64 + n by omega]
  simp only [laid, u8s_append, List.append_assoc]
  simp [u8s, List.map_take, List.map_drop]
end Go.Proofs.YtebhlfmianohlaaDoor
