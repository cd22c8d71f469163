/-
  A row of digests of the call's own, filled one by one.
  A number's bytes, the lowest first.
  Plain mathematics: what digest reckons, as functions of lists of bytes and of numbers of 32 bits. No program is named here.
  math/bits.RotateLeft32, and digest's turn, low, high.
  digest.sum.words: the sixteen words of the block.
  Plain mathematics: a digest under way: what it holds behind the bytes m.
  digest.sum.mix: the numbers go their rounds for a block.
  Arrays of bytes held against each other.
-/
import Derived.Test.YtnbjhdlnibmgdaaDoorPk09
import Derived.Test.YtnbjhdlnibmgdaaDoorPk02
import Derived.Test.YtnbjhdlnibmgdaaDoorChecked
import Derived.Test.YtnbjhdlnibmgdaaDoorPk01
import Derived.BigQuiet
import Derived.Deep.MidRow
import Derived.DeepKeys
import Derived.OpenShut
import Derived.StillTailTactics
import Derived.Deep.DeepCutAuto
/-! A row of digests of the call's own, filled one by one. -/
namespace Go.Proofs.YtnbjhdlnibmgdaaDoor
open Go.RowKit

theorem set_flat : ∀ {l : List (List UInt8)} (_ : ∀ x ∈ l, x.length = 32) (i : Nat) (_ : i < l.length) (d : List UInt8) (_ : d.length = 32), (l.set i d).flatten = l.flatten.take (i * 32) ++ d ++ l.flatten.drop (i * 32 + 32)
  | [], _, _, h, _, _ => absurd h (by simp)
  | a :: l, hl, 0, _, d, hd => by
    have ha := hl a (by simp)
    simp [ha, List.take_append]
  | a :: l, hl, i + 1, h, d, hd => by
    have ha := hl a (by simp)
    have ih := set_flat (l := l) (fun x hx => hl x (by simp [hx])) i (by simpa using h) d hd
    rw [List.set_cons_succ, List.flatten_cons, ih, List.flatten_cons, List.take_append, List.drop_append, ha, List.take_of_length_le (by omega : a.length ≤ (i + 1) * 32), List.drop_of_length_le (by omega : a.length ≤ (i + 1) * 32 + 32), show (i + 1) * 32 - 32 = i * 32 by omega, show (i + 1) * 32 + 32 - 32 = i * 32 + 32 by omega]
    simp
theorem set_len32 {l : List (List UInt8)} (hl : ∀ x ∈ l, x.length = 32) (i : Nat) {d : List UInt8} (hd : d.length = 32) : ∀ x ∈ l.set i d, x.length = 32 := fun x hx => by
  rcases List.mem_or_eq_of_mem_set hx with h | h
  · exact hl x h
  · rw [h, hd]
/-- A block that holds digests. -/
def IdBlk (w : World) (g : Nat) (l : List (List UInt8)) : Prop := w.heap[g]? = some (.cells (row8 l.flatten) 36 (0, 0)) ∧ ∀ x ∈ l, x.length = 32
theorem IdBlk.lt {w : World} {g : Nat} {l : List (List UInt8)} (h : IdBlk w g l) : g < w.heap.size := lt_of_cells h.1
theorem IdBlk.below {w w' : World} {g : Nat} {l : List (List UInt8)} (h : IdBlk w g l) (hb : Below w.heap.size w w') : IdBlk w' g l := ⟨(hb.block _ h.lt).trans h.1, h.2⟩
theorem run_store_id {w : World} {g : Nat} {l : List (List UInt8)} (h : IdBlk w g l) (i : Nat) (hi : i < l.length) (DS : Array Value) (d : List UInt8) (hDS : DS = row8 d) (hd : d.length = 32) (o : Nat) (ho : o = i * 32) :
    (Instr.storeAt 36 (.pointer (some ⟨g, o, none⟩)) (.agg DS)).run Tryd.prog w = .ok () (w.setRow g (row8 (l.set i d).flatten)) ∧ IdBlk (w.setRow g (row8 (l.set i d).flatten)) g (l.set i d) := by
  subst hDS ho
  have hfl := flatten_length32 h.2
  have hst := run_storeCells_at (P := Tryd.prog) g (i * 32) 36 (u8s d) 0 (row8 l.flatten) w h.1 (by rw [row8_size, hfl, u8s_length, hd]; omega) (u8s_one d)
  have e : ((row8 l.flatten).toList.take (i * 32 + 0) ++ u8s d ++ (row8 l.flatten).toList.drop (i * 32 + 0 + (u8s d).length)).toArray = row8 (l.set i d).flatten := by
    rw [set_flat h.2 i hi d hd, u8s_length, hd]
    simp [row8, u8s, List.map_take, List.map_drop]
  rw [e] at hst
  refine ⟨?_, setRow_at h.1, set_len32 h.2 i hd⟩
  have hq := id_info
  cases hi2 : Tryd.prog.info? 36 with
  | none => simp [hi2] at hq
  | some inf =>
    have hsz : inf.size = 32 := by simpa [hi2] using hq
    have hrs : (row8 d).size = 32 := by rw [row8_size, hd]
    have hl2 : (row8 d).toList = u8s d := by simp [row8]
    simp [Instr.storeAt, Instr.sureAddr, Sem.run_bind, storeVar, sizeOf, typeInfo, hi2, hsz, Value.cells, hrs, hl2, hst, Result.andThen]
theorem wpList_store_id {ops : Array Oper} {rest : List Oper} {op : Oper} {a : Act} {w : World} {Q : Exit → Act → World → Prop} (hgd : op.guard = none) (x y : Operand) (ho : op.op = .store 36 x y)
    {g : Nat} {l : List (List UInt8)} (h : IdBlk w g l) (i : Nat) (hi : i < l.length) (DS : Array Value) (d : List UInt8) (hDS : DS = row8 d) (hd : d.length = 32) (o : Nat) (hoo : o = i * 32)
    (hx : a.eval x = .pointer (some ⟨g, o, none⟩)) (hy : a.eval y = .agg DS)
    (hK : ∀ w', IdBlk w' g (l.set i d) → w.grownBy w' (some g) → wpList Tryd.prog ops Q rest (a.put op.dst undef) w') : wpList Tryd.prog ops Q (op :: rest) a w :=
  wpList_plain hgd fun K hK' => by
    obtain ⟨hr, hb⟩ := run_store_id h i hi DS d hDS hd o hoo
    have hg : w.grownBy (w.setRow g (row8 (l.set i d).flatten)) (some g) := ⟨rfl, rfl, rfl, by simp [World.setRow], fun k _ hk => setRow_ne _ _ _ _ (fun e => hk (by rw [e]))⟩
    unfold Oper.wp execOp
    simp only [ho, hx, hy, Sem.run_bind, hr, Result.andThen_ok, Sem.run_pure]
    exact hK' _ _ (hK _ hb hg)
theorem id_info3 : (Tryd.prog.info? 36).map (fun i => (i.zero, i.size, i.bytes)) = some (some (.agg zerosId), 32, 32) := by unfold zerosId; kernel_rfl
theorem zerosId_at (k : Nat) (hk : k < 32) : zerosId[k]! = .int .u8 0 := by
  have h : zerosId[k]? = some (.int .u8 0) := by
    unfold zerosId
    rw [List.getElem?_toArray, u8s, List.map_replicate, List.getElem?_replicate, if_pos hk]
    rfl
  simp [getElem!_def, h]
theorem made_ids (n : Nat) : madeCells (Value.agg zerosId).cells (n * 32) = row8 (List.replicate n (List.replicate 32 0)).flatten := by
  have hz : (Value.agg zerosId).cells = zerosId := rfl
  have hs : zerosId.size = 32 := by unfold zerosId; simp [u8s_length]
  rw [List.flatten_replicate_replicate, hz]
  apply Array.toList_inj.1
  apply List.ext_getElem
  · simp [madeCells, row8, u8s_length]
  · intro i h1 h2
    have : i % 32 < 32 := Nat.mod_lt _ (by decide)
    simp [madeCells, row8, u8s, hs, zerosId_at _ this]
/-- make([]api.Id, n) -/
theorem make_ids (w : World) (n : Nat) (h : n ≤ 1000000) : ∃ w', (Instr.makeSlice 81 (.int .i64 (n : Int)) (.int .i64 (n : Int))).run Tryd.prog w = .ok (.slice (some ⟨w.heap.size, 0, none⟩) n n) w' ∧ IdBlk w' w.heap.size (List.replicate n (List.replicate 32 0)) ∧ Below w.heap.size w w' ∧ w'.heap.size = w.heap.size + 1 := by
  obtain ⟨i0, hi, hz0, hz1, hz2⟩ := info_parts id_info3
  have hmk := run_make (P := Tryd.prog) (t := 81) (e := 36) w i0 (.agg zerosId) Tryd.underlying81 hi hz0 .i64 .i64 (n : Int) (n : Int) (by omega) (by omega) (by rw [hz2]; omega) (by omega)
  refine ⟨_, hmk, ⟨?_, ?_⟩, (Below.refl _ _).alloc (Nat.le_refl _) _, by simp⟩
  · have := heap_alloc_new w (.cells (madeCells (Value.agg zerosId).cells ((n : Int).toNat * i0.size)) 36)
    rw [hz1, Int.toNat_natCast, made_ids] at this
    rw [hz1, Int.toNat_natCast, made_ids]
    exact this
  · intro x hx
    rw [(List.mem_replicate.1 hx).2]
    simp
/-- Its slice reads as them. -/
theorem IdBlk.ids {w : World} {g : Nat} {l : List (List UInt8)} (h : IdBlk w g l) {S : Nat → Prop} (hS : S g) (n : Nat) (hn : l.length = n) (hm : n ≤ 1000000) : Ids w S (some ⟨g, 0, none⟩) n n l :=
  ⟨hn, h.2, Nat.le_refl _, by unfold maxLen; omega, fun _ => ⟨g, 0, rfl, hS, h.lt, fun i j hi hj => by
    have hil : i < l.length := by omega
    have hx : (l[i]?.getD []).length = 32 := by
      rw [List.getElem?_eq_getElem hil]
      exact h.2 _ (List.getElem_mem hil)
    have hf := flatten_at32 h.2 i j hil hj
    rw [cell_of_cells h.1, Nat.zero_add, row8, List.getElem?_toArray, u8s, List.getElem?_map, hf]
    generalize l[i]?.getD [] = x at *
    simp [show j < x.length by omega]⟩⟩
end Go.Proofs.YtnbjhdlnibmgdaaDoor

/-! A number's bytes, the lowest first. -/
namespace Go.Proofs.YtnbjhdlnibmgdaaDoor
open Go.RowKit

/-- A number's bytes, the lowest first. -/
def le8 (n : Nat) (k : Nat) : List UInt8 := (List.range k).map fun i => UInt8.ofNat (n / 2 ^ (8 * i))
theorem le8_length (n k : Nat) : (le8 n k).length = k := by simp [le8]
theorem le8_succ (n k : Nat) : le8 n (k + 1) = le8 n k ++ [UInt8.ofNat (n / 2 ^ (8 * k))] := by simp [le8, List.range_succ]
/-- The same, laid in a row of noughts. -/
def le8A (n : Nat) : Nat → List UInt8
  | 0 => List.replicate 8 0
  | k + 1 => (le8A n k).set k (UInt8.ofNat (n / 2 ^ (8 * k)))
theorem le8A_length (n : Nat) : ∀ k, (le8A n k).length = 8
  | 0 => rfl
  | k + 1 => by simp [le8A, le8A_length n k]
theorem le8A_all (n : Nat) : le8A n 8 = le8 n 8 := by rfl
theorem byte_mod (n e : Nat) : ((n / 2 ^ e : Nat) : Int) % 256 = (((UInt8.ofNat (n / 2 ^ e)).toNat : Nat) : Int) := by simp
end Go.Proofs.YtnbjhdlnibmgdaaDoor

/-! Plain mathematics: what digest reckons, as functions of lists of bytes and of numbers of 32 bits. No program is named here.
  math/bits.RotateLeft32, and digest's turn, low, high.
  digest.sum.words: the sixteen words of the block.
  Plain mathematics: a digest under way: what it holds behind the bytes m. -/
/-! Plain mathematics: what digest reckons, as functions of lists of bytes and of numbers of 32 bits. No program is named here. -/
namespace Go.Proofs.YtnbjhdlnibmgdaaDoor

def lowB (x : BitVec 32) : BitVec 32 := rotr x 7 ^^^ rotr x 18 ^^^ x >>> (3 : Nat)
def highB (x : BitVec 32) : BitVec 32 := rotr x 17 ^^^ rotr x 19 ^^^ x >>> (10 : Nat)
/-- The words of the first k bytes. -/
def wacc (b : List UInt8) : Nat → List (BitVec 32)
  | 0 => List.replicate 16 0
  | k + 1 => (wacc b k).set (k / 4) (((wacc b k)[k / 4]?.getD 0) <<< (8 : Nat) ||| BitVec.ofNat 32 (b[k]?.getD 0).toNat)
theorem wacc_length (b : List UInt8) : ∀ k, (wacc b k).length = 16
  | 0 => by simp [wacc]
  | k + 1 => by simp [wacc, wacc_length b k]

def hTab : List (BitVec 32) := [1779033703, 3144134277, 1013904242, 2773480762, 1359893119, 2600822924, 528734635, 1541459225]
def kTab : List (BitVec 32) := [1116352408, 1899447441, 3049323471, 3921009573, 961987163, 1508970993, 2453635748, 2870763221, 3624381080, 310598401, 607225278, 1426881987, 1925078388, 2162078206, 2614888103, 3248222580, 3835390401, 4022224774, 264347078, 604807628, 770255983, 1249150122, 1555081692, 1996064986, 2554220882, 2821834349, 2952996808, 3210313671, 3336571891, 3584528711, 113926993, 338241895, 666307205, 773529912, 1294757372, 1396182291, 1695183700, 1986661051, 2177026350, 2456956037, 2730485921, 2820302411, 3259730800, 3345764771, 3516065817, 3600352804, 4094571909, 275423344, 430227734, 506948616, 659060556, 883997877, 958139571, 1322822218, 1537002063, 1747873779, 1955562222, 2024104815, 2227730452, 2361852424, 2428436474, 2756734187, 3204031479, 3329325298]

/-- The eight numbers that go round. -/
structure R8 where
  a : BitVec 32
  b : BitVec 32
  c : BitVec 32
  d : BitVec 32
  e : BitVec 32
  f : BitVec 32
  g : BitVec 32
  h : BitVec 32
def R8.list (r : R8) : List (BitVec 32) := [r.a, r.b, r.c, r.d, r.e, r.f, r.g, r.h]
def R8.of (l : List (BitVec 32)) : R8 := ⟨l[0]?.getD 0, l[1]?.getD 0, l[2]?.getD 0, l[3]?.getD 0, l[4]?.getD 0, l[5]?.getD 0, l[6]?.getD 0, l[7]?.getD 0⟩
def R8.t1 (r : R8) (k w : BitVec 32) : BitVec 32 := r.h + (rotr r.e 6 ^^^ rotr r.e 11 ^^^ rotr r.e 25) + (r.e &&& r.f ^^^ ~~~r.e &&& r.g) + k + w
def R8.t2 (r : R8) : BitVec 32 := (rotr r.a 2 ^^^ rotr r.a 13 ^^^ rotr r.a 22) + (r.a &&& r.b ^^^ r.a &&& r.c ^^^ r.b &&& r.c)
def R8.next (r : R8) (k w : BitVec 32) : R8 := ⟨r.t1 k w + r.t2, r.a, r.b, r.c, r.d + r.t1 k w, r.e, r.f, r.g⟩
/-- The word of round k takes its place. -/
def ring (l : List (BitVec 32)) (k : Nat) : List (BitVec 32) :=
  if k < 16 then l else l.set (k % 16) ((l[k % 16]?.getD 0) + (lowB (l[(k + 1) % 16]?.getD 0) + (l[(k + 9) % 16]?.getD 0) + highB (l[(k + 14) % 16]?.getD 0)))
theorem ring_length (l : List (BitVec 32)) (k : Nat) : (ring l k).length = l.length := by unfold ring; split <;> simp
def rounds (r : R8) (l : List (BitVec 32)) : Nat → R8 × List (BitVec 32)
  | 0 => (r, l)
  | k + 1 => ((rounds r l k).1.next (kTab[k]?.getD 0) ((ring (rounds r l k).2 k)[k % 16]?.getD 0), ring (rounds r l k).2 k)
theorem rounds_length (r : R8) (l : List (BitVec 32)) : ∀ k, (rounds r l k).2.length = l.length
  | 0 => rfl
  | k + 1 => by simp [rounds, ring_length, rounds_length r l k]
/-- The first k numbers with those of a row added. -/
def addTo (h m : List (BitVec 32)) : Nat → List (BitVec 32)
  | 0 => h
  | k + 1 => (addTo h m k).set k (((addTo h m k)[k]?.getD 0) + (m[k]?.getD 0))
theorem addTo_length (h m : List (BitVec 32)) : ∀ k, (addTo h m k).length = h.length
  | 0 => rfl
  | k + 1 => by simp [addTo, addTo_length h m k]
/-- One block. -/
def mixB (h : List (BitVec 32)) (b : List UInt8) : List (BitVec 32) := addTo h (rounds (R8.of h) (wacc b 64) 64).1.list 8
theorem mixB_length (h : List (BitVec 32)) (b : List UInt8) : (mixB h b).length = h.length := addTo_length _ _ _
end Go.Proofs.YtnbjhdlnibmgdaaDoor

/-! math/bits.RotateLeft32, and digest's turn, low, high. -/
namespace Go.Proofs.YtnbjhdlnibmgdaaDoor
open Go.RowKit

theorem rot_val (x : BitVec 32) (r s : Nat) (h : r + s = 32) (h0 : 0 < s) :
    bits .or .u32 (nv x * 2 ^ s % 4294967296) (nv x / 2 ^ (32 - s)) = nv (rotr x r) := by
  obtain rfl : s = 32 - r := by omega
  have hr : r < 32 := by omega
  rw [show 32 - (32 - r) = r by omega]
  unfold nv rotr
  have hx := x.isLt
  have e1 : ((x.toNat : Int) * 2 ^ (32 - r)) % 4294967296 = ((x.toNat * 2 ^ (32 - r) % 4294967296 : Nat) : Int) := by simp
  have e2 : ((x.toNat : Int) / 2 ^ r) = ((x.toNat / 2 ^ r : Nat) : Int) := by simp
  have hd : x.toNat / 2 ^ r < 4294967296 := Nat.lt_of_le_of_lt (Nat.div_le_self _ _) (by omega)
  rw [e1, e2, u32_or_nat _ _ (Nat.mod_lt _ (by decide)) hd, BitVec.toNat_rotateRight, Nat.mod_eq_of_lt hr, Nat.shiftRight_eq_div_pow, Nat.shiftLeft_eq, Nat.or_comm]

theorem mask_neg (r : Nat) (h0 : 0 < r) (h : r < 32) : bits .and .u64 (IntKind.u64.wrap (-(r : Int))) 31 = ((32 - r : Nat) : Int) := by
  have : ∀ r : Fin 32, 0 < r.val → bits .and .u64 (IntKind.u64.wrap (-(r.val : Int))) 31 = ((32 - r.val : Nat) : Int) := by decide +kernel
  exact this ⟨r, h⟩ h0

set_option maxHeartbeats 400000 in
theorem rotl32 (x : BitVec 32) (r : Nat) (h0 : 0 < r) (h : r < 32) (k : Int) (hk : k = -(r : Int)) (w : World) :
    Calls Tryd.prog 75 #[.int .u32 (nv x), .int .i64 k] w fun e w' => e = .returned (.int .u32 (nv (rotr x r))) ∧ w = w' := by
  have hx := W32.lt x
  have hx0 := W32.nn x
  have hm := mask_neg r h0 h
  rw [← hk] at hm
  clear hk
  obtain ⟨s, hs⟩ : ∃ s, s = 32 - r := ⟨_, rfl⟩
  rw [← hs] at hm
  have hv := rot_val x r s (by omega) (by omega)
  have h1 : s ≤ 32 := by omega
  clear hs
  go_enter Tryd.func75, Tryd.ntmps75
  go_wp2
  go_ret
  exact ⟨rfl, rfl⟩

set_option maxHeartbeats 400000 in
theorem turn_any (x : BitVec 32) (k : Int) (h0 : 0 < k) (h : k < 32) (w : World) :
    Calls Tryd.prog 74 #[.int .u32 (nv x), .int .i64 k] w fun e w' => e = .returned (.int .u32 (nv (rotr x k.toNat))) ∧ w = w' := by
  have hx := W32.lt x
  have hx0 := W32.nn x
  go_enter Tryd.func74, Tryd.ntmps74
  go_wp2_with (go_at_call 75; refine (rotl32 x k.toNat (by omega) (by omega) _ (by omega) _).mono ?_; rintro _ _ ⟨rfl, rfl⟩)
  go_ret
  exact ⟨rfl, rfl⟩


set_option maxHeartbeats 400000 in
theorem low_any (x : BitVec 32) (w : World) :
    Calls Tryd.prog 72 #[.int .u32 (nv x)] w fun e w' => e = .returned (.int .u32 (nv (lowB x))) ∧ w = w' := by
  have hx := W32.lt x
  have hx0 := W32.nn x
  have h3 : nv x / (8 : Int) = nv (x >>> (3 : Nat)) := W32.shr_ x 3
  have hxor := W32.xor_
  go_enter Tryd.func72, Tryd.ntmps72
  go_wp2_with (go_at_call 74; refine (turn_any x _ (by omega) (by omega) _).mono ?_; rintro _ _ ⟨rfl, rfl⟩)
  go_ret
  exact ⟨rfl, rfl⟩
set_option maxHeartbeats 400000 in
theorem high_any (x : BitVec 32) (w : World) :
    Calls Tryd.prog 73 #[.int .u32 (nv x)] w fun e w' => e = .returned (.int .u32 (nv (highB x))) ∧ w = w' := by
  have hx := W32.lt x
  have hx0 := W32.nn x
  have h3 : nv x / (1024 : Int) = nv (x >>> (10 : Nat)) := W32.shr_ x 10
  have hxor := W32.xor_
  go_enter Tryd.func73, Tryd.ntmps73
  go_wp2_with (go_at_call 74; refine (turn_any x _ (by omega) (by omega) _).mono ?_; rintro _ _ ⟨rfl, rfl⟩)
  go_ret
  exact ⟨rfl, rfl⟩
end Go.Proofs.YtnbjhdlnibmgdaaDoor

/-! digest.sum.words: the sixteen words of the block. -/
namespace Go.Proofs.YtnbjhdlnibmgdaaDoor
open Go.RowKit

/-! Blocks known whole. -/
section
variable {w w' : World} {p : Nat}
end



theorem shl8 (x : BitVec 32) : nv x * 256 % 4294967296 = nv (x <<< (8 : Nat)) := by
  unfold nv
  rw [BitVec.toNat_shiftLeft, Nat.shiftLeft_eq]
  have h : (2 : Nat) ^ 32 = 4294967296 := rfl
  rw [h]
  simp


set_option maxHeartbeats 2000000 in
set_option maxRecDepth 100000 in
theorem words_any {w : World} {p : Nat} {b : List UInt8} (hb : b.length = 64) (hc : w.rangeAt p 8 (u8s b)) (hp : p < w.heap.size) :
    Calls Tryd.prog 71 #[.pointer (some ⟨p, 0, none⟩)] w fun e w' => e = .returned (.agg (u32s (wacc b 64)).toArray) ∧ Below w.heap.size w w' := by
  have hi1 : (Tryd.prog.info? 96).map (·.size) = some (u8s b).length := by rw [u8s_length, hb]; kernel_rfl
  have hi2 : (Tryd.prog.info? 111).map (·.size) = some 16 := by kernel_rfl
  have HI := Lib.hid (And.intro hi1 hi2)
  have HC := Lib.hid (fun w' => range_below (w' := w') hc hp)
  have HB := Lib.hid hb
  obtain ⟨CS, hCS⟩ : ∃ CS, CS = (u8s b).toArray := ⟨_, rfl⟩
  have HCS := Lib.hid hCS
  clear hi1 hi2 hc hb hCS
  go_enter Tryd.func71, Tryd.ntmps71
  go_wp2_with (refine wpList_load_mid (by rfl) 96 (.tmp 8) (by rfl) p 8 (by rfl) (u8s b) _ (HC.out _ (((Below.refl _ _).alloc (Nat.le_refl _) _).alloc (by simp) _)) Tryd.underlying96 (by rfl) HI.out.1 ?_; rw [← HCS.out])
  go_loopw [4, 5, 10] (fun _ _ i wr => ∃ k : Nat, k ≤ 64 ∧ i = .int .i64 k ∧ Below w.heap.size w wr ∧ wr.heap[w.heap.size]? = some (.cells (u32s (List.replicate 16 0)).toArray 111 (0, 0)) ∧ wr.heap[w.heap.size + 1]? = some (.cells (u32s (wacc b k)).toArray 111 (0, 0)))
    (fun _ _ i _ => 64 - (intOf i).toNat)
  case atStart => exact ⟨0, Nat.zero_le _, rfl, ((Below.refl _ _).alloc (Nat.le_refl _) _).alloc (by simp) _, by rw [zeros16]; exact (Below.heap_alloc _ _ _ (by simp)).trans (heap_alloc_new w _), by rw [zeros16]; have := heap_alloc_new (w.alloc (.cells (u32s (List.replicate 16 0)).toArray 111)) (.cells (u32s (List.replicate 16 0)).toArray 111); simpa [wacc] using this⟩
  case round =>
    obtain ⟨k, hk, rfl, hbr, h1, h2⟩ := hrel
    by_cases hlt : k < 64
    · obtain ⟨x, hx⟩ : ∃ x, (wacc b k)[k / 4]?.getD 0 = x := ⟨_, rfl⟩
      obtain ⟨c, hcv⟩ : ∃ c, BitVec.ofNat 32 (b[k]?.getD 0).toNat = c := ⟨_, rfl⟩
      have hcell := u32s_cell h2 (k / 4) (by rw [wacc_length]; omega)
      rw [hx] at hcell
      have hfree := free_of_cells h2 (k / 4)
      have hcs : CS[k]? = some (.int .u8 (nv c)) := by
        rw [HCS.out, ← hcv, ← W32.of_byte]
        simp [u8s, List.getElem?_map, List.getElem?_eq_getElem (show k < b.length by rw [HB.out]; exact hlt)]
      have hix := run_index_arr (P := Tryd.prog) Tryd.underlying96 Tryd.underlying5 u8_size CS k hlt _ hcs
      have hs8 := shl8 x
      have hor := W32.or_ (x <<< (8 : Nat)) c
      have n1 := W32.nn x
      have n3 := W32.nn c
      have n4 := W32.mod_ c
      have HX := Lib.hid (And.intro hx hcv)
      have H1 := Lib.hid h1
      have H2 := Lib.hid h2
      clear hx hcv h1 h2 hcs
      go_wp2
      go_roundw
      case rel =>
        refine ⟨k + 1, by omega, by go_num, hbr.setCell (by simp) _, (Below.heap_setCell _ _ _ _ (by simp)).trans H1.out, ?_⟩
        have := u32s_cells_set H2.out (k / 4) (x <<< (8 : Nat) ||| c)
        rw [this, wacc, HX.out.1, HX.out.2]
      case measure => simp [intOf]; omega
    · obtain rfl : k = 64 := by omega
      have H1 := Lib.hid h1
      have hl := wacc_length b 64
      generalize hWs : wacc b 64 = Ws at *
      have hi16 : (Tryd.prog.info? 111).map (·.size) = some (u32s Ws).toArray.size := by rw [show (u32s Ws).toArray.size = 16 by simp [u32s_length, hl]]; kernel_rfl
      have HS := Lib.hid (show (u32s (List.replicate 16 0)).toArray.size = (u32s Ws).toArray.size by simp [u32s_length, hl])
      obtain ⟨RS, hRS⟩ : ∃ RS, RS = (u32s Ws).toArray := ⟨_, rfl⟩
      have hall : RS.all (·.oneCell') = true := by rw [hRS]; exact all_oneCell_toArray (u32s_one Ws)
      rw [← hRS] at hi16 HS h2
      have HA := Lib.hid (And.intro hi16 hall)
      have H2 := Lib.hid h2
      have HR := Lib.hid (And.intro hRS hWs)
      clear h1 h2 hi16 hall hWs hRS hl
      go_wp2_with (first | (refine wpList_load_row (by rfl) 111 (.tmp 3) (by rfl) (w.heap.size + 1) (by rfl) 111 RS (0, 0) _ H2.out Tryd.underlying111 (by rfl) HA.out.1 ?_) | (refine wpList_store_row (by rfl) 111 (.tmp 2) (.tmp 26) (by rfl) w.heap.size RS (by rfl) (by rfl) 111 _ H1.out HA.out.1 HS.out HA.out.2 ?_))
      refine bodyPost_ret (results_cell_row rfl _ _ w.heap.size 111 RS (0, 0) _ rfl (setRow_at H1.out) Tryd.underlying111 rfl HA.out.1) rfl ⟨by rw [HR.out.1, ← HR.out.2], below_setRow hbr (Nat.le_refl _) _⟩
end Go.Proofs.YtnbjhdlnibmgdaaDoor

/-! Plain mathematics: a digest under way: what it holds behind the bytes m. -/
namespace Go.Proofs.YtnbjhdlnibmgdaaDoor

/-- The numbers behind n blocks. -/
def hashN (m : List UInt8) : Nat → List (BitVec 32)
  | 0 => hTab
  | n + 1 => mixB (hashN m n) ((m.drop (64 * n)).take 64)
theorem hashN_length (m : List UInt8) : ∀ n, (hashN m n).length = 8
  | 0 => by rfl
  | n + 1 => by rw [hashN, mixB_length, hashN_length m n]
theorem hashN_front (m l : List UInt8) : ∀ n, 64 * n ≤ m.length → hashN (m ++ l) n = hashN m n
  | 0, _ => rfl
  | n + 1, h => by
    rw [hashN, hashN, hashN_front m l n (by omega), List.drop_append_of_le_length (by omega), List.take_append_of_le_length (by rw [List.length_drop]; omega)]

/-- The part b, of which d bytes count, behind the bytes m. -/
structure PartOf (m b : List UInt8) : Prop where
  len : b.length = 64
  front : b.take (m.length % 64) = m.drop (64 * (m.length / 64))

/-- So many bytes of l come behind. -/
def laid (m b l : List UInt8) (n : Nat) : List UInt8 := b.take (m.length % 64) ++ (l.take n ++ b.drop (m.length % 64 + n))
theorem laid_length {m b l : List UInt8} {n : Nat} (hb : b.length = 64) (hn : n ≤ l.length) (hd : m.length % 64 + n ≤ 64) : (laid m b l n).length = 64 := by
  simp [laid, hb]; omega
theorem laid_front {m b l : List UInt8} {n : Nat} (h : PartOf m b) (hn : n ≤ l.length) :
    (laid m b l n).take (m.length % 64 + n) = m.drop (64 * (m.length / 64)) ++ l.take n := by
  have hb := h.len
  unfold laid
  rw [← List.append_assoc, List.take_append_of_le_length (by simp [hb]; omega), List.take_of_length_le (by simp [hb]; omega), h.front]
theorem part_short {m b l : List UInt8} {n : Nat} (h : PartOf m b) (hn : n ≤ l.length) (hd : m.length % 64 + n < 64) :
    PartOf (m ++ l.take n) (laid m b l n) ∧ (m ++ l.take n).length % 64 = m.length % 64 + n ∧ hashN (m ++ l.take n) ((m ++ l.take n).length / 64) = hashN m (m.length / 64) := by
  have hl : (m ++ l.take n).length = m.length + n := by simp; omega
  have h1 : (m.length + n) / 64 = m.length / 64 := by omega
  have h2 : (m.length + n) % 64 = m.length % 64 + n := by omega
  refine ⟨⟨laid_length h.len hn (by omega), ?_⟩, by rw [hl, h2], ?_⟩
  · rw [hl, h1, h2, laid_front h hn, List.drop_append_of_le_length (by omega)]
  · rw [hl, h1, hashN_front _ _ _ (by omega)]
theorem part_full {m b l : List UInt8} {n : Nat} (h : PartOf m b) (hn : n ≤ l.length) (hd : m.length % 64 + n = 64) :
    PartOf (m ++ l.take n) (laid m b l n) ∧ (m ++ l.take n).length % 64 = 0 ∧ hashN (m ++ l.take n) ((m ++ l.take n).length / 64) = mixB (hashN m (m.length / 64)) (laid m b l n) := by
  have hl : (m ++ l.take n).length = m.length + n := by simp; omega
  have h1 : (m.length + n) / 64 = m.length / 64 + 1 := by omega
  have h2 : (m.length + n) % 64 = 0 := by omega
  have hll := laid_length (m := m) h.len hn (by omega)
  have hf := laid_front h hn
  rw [hd, List.take_of_length_le (by omega)] at hf
  refine ⟨⟨hll, ?_⟩, by rw [hl, h2], ?_⟩
  · rw [hl, h1, h2, List.take_zero, List.drop_eq_nil_of_le (by rw [hl]; omega)]
  · rw [hl, h1, hashN, hashN_front _ _ _ (by omega), hf]
    congr 1
    rw [List.drop_append_of_le_length (by omega), List.take_of_length_le]
    simp; omega
/-- What the cells are behind the copy. -/
theorem laid_cells (H : List (BitVec 32)) (hH : H.length = 8) (m b l : List UInt8) (n : Nat) (hb : b.length = 64) (hd : m.length % 64 + n ≤ 64) (tl : List Value) :
    (u32s H ++ (u8s b ++ tl)).take (8 + m.length % 64) ++ (u8s (l.take n) ++ (u32s H ++ (u8s b ++ tl)).drop (8 + m.length % 64 + n)) = u32s H ++ (u8s (laid m b l n) ++ tl) := by
  have e1 : (u32s H).length = 8 := by rw [u32s_length, hH]
  have e2 : (u8s b).length = 64 := by rw [u8s_length, hb]
  rw [List.take_append, e1, List.take_of_length_le (by omega), Nat.add_sub_cancel_left, List.drop_append, e1, List.drop_eq_nil_of_le (by omega), List.nil_append,
    List.take_append_of_le_length (by omega), List.drop_append_of_le_length (by omega)]
  rw [show 8 + m.length % 64 + n - 8 = m.length % 64 + n by omega]
  simp only [laid, u8s_append, List.append_assoc]
  simp [u8s, List.map_take, List.map_drop]
end Go.Proofs.YtnbjhdlnibmgdaaDoor

/-! digest.sum.mix: the numbers go their rounds for a block. -/
namespace Go.Proofs.YtnbjhdlnibmgdaaDoor
open Go.RowKit


/-- THE STRUCT AT BLOCK p IS A DIGEST UNDER WAY: its numbers, the bytes of its part, how many of them count, how many there were. -/
structure Sum (w : World) (p : Nat) (H : List (BitVec 32)) (b : List UInt8) (hv al : Nat) : Prop where
  cells : w.heap[p]? = some (.cells (u32s H ++ (u8s b ++ [Value.int .i64 hv, Value.int .u64 al])).toArray 98 (0, 0))
  eight : H.length = 8
  part : b.length = 64
section
variable {w w' : World} {p : Nat} {H : List (BitVec 32)} {b : List UInt8} {hv al : Nat}
theorem Sum.lt (h : Sum w p H b hv al) : p < w.heap.size := lt_of_cells h.cells
theorem Sum.free (h : Sum w p H b hv al) (i : Nat) : w.frozen? ⟨p, i, none⟩ = false := free_of_cells h.cells i
theorem Sum.word (h : Sum w p H b hv al) (i : Nat) (hi : i < 8) : w.cell? ⟨p, i, none⟩ = some (.int .u32 (nv (H[i]?.getD 0))) := by
  have h8 := h.eight
  rw [cell_of_cells h.cells, List.getElem?_toArray, List.getElem?_append_left (by rw [u32s_length]; omega), u32s_at H i (by omega)]
theorem Sum.byte (h : Sum w p H b hv al) (i : Nat) (hi : i < 64) : w.cell? ⟨p, 8 + i, none⟩ = some (.int .u8 ((b[i]?.getD 0).toNat : Int)) := by
  have h8 := h.eight
  have h9 := h.part
  rw [cell_of_cells h.cells, List.getElem?_toArray, List.getElem?_append_right (by rw [u32s_length]; omega), u32s_length, h8, Nat.add_sub_cancel_left, List.getElem?_append_left (by rw [u8s_length]; omega)]
  simp [u8s, List.getElem?_map, List.getElem?_eq_getElem (show i < b.length by omega)]
theorem Sum.range (h : Sum w p H b hv al) : w.rangeAt p 8 (u8s b) := fun j v hj => by
  have hjl : j < 64 := by
    have := (List.getElem?_eq_some_iff.1 hj).1
    rw [u8s_length, h.part] at this
    exact this
  rw [h.byte j hjl, ← hj]
  simp [u8s, List.getElem?_map, List.getElem?_eq_getElem (show j < b.length by rw [h.part]; exact hjl)]
theorem Sum.drewN (h : Sum w p H b hv al) (k : Nat) : Sum (w.drewN k) p H b hv al := ⟨h.cells, h.eight, h.part⟩
theorem Sum.drew (h : Sum w p H b hv al) : Sum w.drew p H b hv al := ⟨h.cells, h.eight, h.part⟩
theorem Sum.words8 (h : Sum w p H b hv al) : (∀ k, (w.drewN k).cell? ⟨p, 0, none⟩ = some (.int .u32 (nv (R8.of H).a))) ∧ (∀ k, (w.drewN k).cell? ⟨p, 1, none⟩ = some (.int .u32 (nv (R8.of H).b))) ∧ (∀ k, (w.drewN k).cell? ⟨p, 2, none⟩ = some (.int .u32 (nv (R8.of H).c))) ∧ (∀ k, (w.drewN k).cell? ⟨p, 3, none⟩ = some (.int .u32 (nv (R8.of H).d))) ∧ (∀ k, (w.drewN k).cell? ⟨p, 4, none⟩ = some (.int .u32 (nv (R8.of H).e))) ∧ (∀ k, (w.drewN k).cell? ⟨p, 5, none⟩ = some (.int .u32 (nv (R8.of H).f))) ∧ (∀ k, (w.drewN k).cell? ⟨p, 6, none⟩ = some (.int .u32 (nv (R8.of H).g))) ∧ (∀ k, (w.drewN k).cell? ⟨p, 7, none⟩ = some (.int .u32 (nv (R8.of H).h))) :=
  ⟨fun _ => h.word 0 (by omega), fun _ => h.word 1 (by omega), fun _ => h.word 2 (by omega), fun _ => h.word 3 (by omega), fun _ => h.word 4 (by omega), fun _ => h.word 5 (by omega), fun _ => h.word 6 (by omega), fun _ => h.word 7 (by omega)⟩
theorem Sum.have_ (h : Sum w p H b hv al) : w.cell? ⟨p, 72, none⟩ = some (.int .i64 hv) := by
  rw [cell_of_cells h.cells, List.getElem?_toArray, List.getElem?_append_right (by rw [u32s_length, h.eight]; omega), u32s_length, h.eight, List.getElem?_append_right (by rw [u8s_length, h.part]; omega), u8s_length, h.part]
  rfl
theorem Sum.all_ (h : Sum w p H b hv al) : w.cell? ⟨p, 73, none⟩ = some (.int .u64 al) := by
  rw [cell_of_cells h.cells, List.getElem?_toArray, List.getElem?_append_right (by rw [u32s_length, h.eight]; omega), u32s_length, h.eight, List.getElem?_append_right (by rw [u8s_length, h.part]; omega), u8s_length, h.part]
  rfl
theorem Sum.setWord (h : Sum w p H b hv al) (i : Nat) (hi : i < 8) (x : BitVec 32) : Sum (w.setCell ⟨p, i, none⟩ (.int .u32 (nv x))) p (H.set i x) b hv al := by
  refine ⟨?_, by simp [h.eight], h.part⟩
  rw [set_of_cells h.cells, ← u32s_set]
  congr 2
  rw [List.setIfInBounds_toArray, List.set_append_left _ _ (by rw [u32s_length, h.eight]; omega)]
theorem Sum.setHave (h : Sum w p H b hv al) (n : Nat) : Sum (w.setCell ⟨p, 72, none⟩ (.int .i64 n)) p H b n al := by
  refine ⟨?_, h.eight, h.part⟩
  rw [set_of_cells h.cells]
  congr 2
  rw [List.setIfInBounds_toArray, List.set_append_right _ _ (by rw [u32s_length, h.eight]; omega), u32s_length, h.eight, List.set_append_right _ _ (by rw [u8s_length, h.part]; omega), u8s_length, h.part]
  rfl
theorem Sum.setAll (h : Sum w p H b hv al) (n : Nat) : Sum (w.setCell ⟨p, 73, none⟩ (.int .u64 n)) p H b hv n := by
  refine ⟨?_, h.eight, h.part⟩
  rw [set_of_cells h.cells]
  congr 2
  rw [List.setIfInBounds_toArray, List.set_append_right _ _ (by rw [u32s_length, h.eight]; omega), u32s_length, h.eight, List.set_append_right _ _ (by rw [u8s_length, h.part]; omega), u8s_length, h.part]
  rfl
theorem Sum.below (h : Sum w p H b hv al) (hb : Below w.heap.size w w') : Sum w' p H b hv al := ⟨(hb.block p h.lt).trans h.cells, h.eight, h.part⟩
theorem Sum.turned {S : Nat → Prop} (h : Sum w p H b hv al) (ht : Turned S w w') (hS : ¬ S p) : Sum w' p H b hv al := ⟨(ht.block p h.lt hS).trans h.cells, h.eight, h.part⟩
end

/-- The two tables of the package. -/
structure Tab (w : World) : Prop where
  first : ∀ i, i < 8 → w.cell? ⟨0, i, none⟩ = some (.int .u32 (nv (hTab[i]?.getD 0)))
  round : ∀ i, i < 64 → w.cell? ⟨1, i, none⟩ = some (.int .u32 (nv (kTab[i]?.getD 0)))
section
variable {w w' : World}
theorem Tab.lt1 (h : Tab w) : 0 < w.heap.size := World.block_lt_of_cell? _ _ (h.first 0 (by omega))
theorem Tab.lt2 (h : Tab w) : 1 < w.heap.size := World.block_lt_of_cell? _ _ (h.round 0 (by omega))
theorem Tab.drewN (h : Tab w) (k : Nat) : Tab (w.drewN k) := ⟨h.first, h.round⟩
theorem Tab.drew (h : Tab w) : Tab w.drew := ⟨h.first, h.round⟩
theorem Tab.below (h : Tab w) (hb : Below w.heap.size w w') : Tab w' :=
  ⟨fun i hi => (hb.cell (p := ⟨_, i, none⟩) h.lt1).trans (h.first i hi), fun i hi => (hb.cell (p := ⟨_, i, none⟩) h.lt2).trans (h.round i hi)⟩
theorem Tab.turned {S : Nat → Prop} (h : Tab w) (ht : Turned S w w') (h1 : ¬ S 0) (h2 : ¬ S 1) : Tab w' :=
  ⟨fun i hi => (World.cell?_of_block (ht.block _ h.lt1 h1)).trans (h.first i hi), fun i hi => (World.cell?_of_block (ht.block _ h.lt2 h2)).trans (h.round i hi)⟩
end

/-- What holds all through a block's rounds. -/
structure MixSt (w0 : World) (p q : Nat) (H : List (BitVec 32)) (b : List UInt8) (hv al : Nat) (RS : Array Value) (w : World) : Prop where
  sum : Sum w p H b hv al
  tab : Tab w
  row : w.heap[q]? = some (.cells RS 111 (0, 0))
  below : Below w0.heap.size w0 w
theorem MixSt.drewN {w0 w w' : World} {p q : Nat} {H : List (BitVec 32)} {b : List UInt8} {hv al : Nat} {RS : Array Value} (h : MixSt w0 p q H b hv al RS w) {k : Nat} (e : w.drewN k = w') : MixSt w0 p q H b hv al RS w' := by
  subst e
  exact ⟨h.sum.drewN k, h.tab.drewN k, h.row, below_drewN h.below k⟩
theorem MixSt.drew {w0 w : World} {p q : Nat} {H : List (BitVec 32)} {b : List UInt8} {hv al : Nat} {RS : Array Value} (h : MixSt w0 p q H b hv al RS w) : MixSt w0 p q H b hv al RS w.drew := ⟨h.sum.drew, h.tab.drew, h.row, below_drew h.below⟩
theorem MixSt.set {w0 w : World} {p q : Nat} {H : List (BitVec 32)} {b : List UInt8} {hv al : Nat} {l : List (BitVec 32)} (h : MixSt w0 p q H b hv al (u32s l).toArray w) (hq : w0.heap.size ≤ q) (hp : p < w0.heap.size) (ht : Tab w0) (i : Nat) (x : BitVec 32) :
    MixSt w0 p q H b hv al (u32s (l.set i x)).toArray (w.setCell ⟨q, i, none⟩ (.int .u32 (nv x))) := by
  have h1 := ht.lt1
  have h2 := ht.lt2
  have htu : Turned (· = q) w (w.setCell ⟨q, i, none⟩ (.int .u32 (nv x))) := (Turned.refl (· = q) w).set (p := q) rfl _ _
  exact ⟨h.sum.turned htu (by omega), h.tab.turned htu (by omega) (by omega), u32s_cells_set h.row i x, h.below.setCell hq _⟩
theorem turn_still (x : BitVec 32) (k : Int) (h0 : 0 < k) (h : k < 32) (w : World) : Calls Tryd.prog 74 #[.int .u32 (nv x), .int .i64 k] w fun e w' => e = .returned (.int .u32 (nv (rotr x k.toNat))) ∧ w' = w :=
  (turn_any x k h0 h w).mono fun _ _ ⟨h1, h2⟩ => ⟨h1, h2.symm⟩
theorem low_still (x : BitVec 32) (w : World) : Calls Tryd.prog 72 #[.int .u32 (nv x)] w fun e w' => e = .returned (.int .u32 (nv (lowB x))) ∧ w' = w :=
  (low_any x w).mono fun _ _ ⟨h1, h2⟩ => ⟨h1, h2.symm⟩
theorem high_still (x : BitVec 32) (w : World) : Calls Tryd.prog 73 #[.int .u32 (nv x)] w fun e w' => e = .returned (.int .u32 (nv (highB x))) ∧ w' = w :=
  (high_any x w).mono fun _ _ ⟨h1, h2⟩ => ⟨h1, h2.symm⟩

set_option maxHeartbeats 4000000 in
set_option maxRecDepth 100000 in
theorem mix_any {w : World} {p : Nat} {H : List (BitVec 32)} {b : List UInt8} {hv al : Nat} (hs : Sum w p H b hv al) (ht : Tab w) :
    Calls Tryd.prog 67 #[.pointer (some ⟨p, 0, none⟩)] w fun e w' => e = .returned (.tuple #[]) ∧ Sum w' p (mixB H b) b hv al ∧ Turned (· = p) w w' := by
  have hp := hs.lt
  have HS := Lib.hid hs
  have HT := Lib.hid ht
  have hl := wacc_length b 64
  generalize hWs : wacc b 64 = Ws at *
  have hsz : (u32s Ws).toArray.size = 16 := by simp [u32s_length, hl]
  have hi16 : (Tryd.prog.info? 111).map (·.size) = some (u32s Ws).toArray.size := by rw [hsz]; kernel_rfl
  have HA := Lib.hid (And.intro hi16 (And.intro hsz (all_oneCell_toArray (u32s_one Ws))))
  obtain ⟨RS, hRS⟩ : ∃ RS, RS = (u32s Ws).toArray := ⟨_, rfl⟩
  rw [← hRS] at HA
  have HR := Lib.hid (And.intro hRS (And.intro hWs hl))
  have hwords := words_any hs.part hs.range hp
  rw [hWs, ← hRS] at hwords
  clear hs ht hl hWs hsz hi16 hRS
  go_enter Tryd.func67, Tryd.ntmps67
  go_wp2_with fail
  refine hwords.mono ?_
  rintro _ w1 ⟨rfl, hb1⟩
  have hg := heap_alloc_new w1 (.cells (u32s (List.replicate 16 0)).toArray 111)
  rw [← zeros16] at hg
  have HG := Lib.hid hg
  have HZ := Lib.hid (show (u32s (List.replicate 16 0)).toArray.size = 16 by rfl)
  rw [← zeros16] at HZ
  clear hg hwords
  have hz1 := hb1.size
  go_wp2_with (refine wpList_store_row (by rfl) 111 (.tmp 2) (.tmp 17) (by rfl) w1.heap.size RS (by rfl) (by rfl) 111 _ HG.out HA.out.1 (by rw [HA.out.2.1]; exact HZ.out) HA.out.2.2 ?_)
  rw [zeros16]
  have hb2 : Below w.heap.size w ((w1.alloc (.cells (u32s (List.replicate 16 0)).toArray 111)).setRow w1.heap.size RS) := below_setRow (hb1.alloc hz1 _) hz1 _
  have hq2 : ((w1.alloc (.cells (u32s (List.replicate 16 0)).toArray 111)).setRow w1.heap.size RS).heap[w1.heap.size]? = some (.cells RS 111 (0, 0)) := setRow_at (by have := HG.out; rw [zeros16] at this; exact this)
  generalize hq : w1.heap.size = q at *
  generalize (w1.alloc (.cells (u32s (List.replicate 16 0)).toArray 111)).setRow q RS = w2 at *
  clear HG HZ hb1 hq w1
  have HQ : Hid (MixSt w p q H b hv al RS w2) := Lib.hid ⟨HS.out.below hb2, HT.out.below hb2, hq2, hb2⟩
  clear hq2 hb2
  obtain ⟨c0, c1, c2, c3, c4, c5, c6, c7⟩ := HQ.out.sum.words8
  go_quiet (fail)
  clear c0 c1 c2 c3 c4 c5 c6 c7
  generalize hw3 : World.drewN w2 _ = w3
  have HQ3 := Lib.hid (HQ.out.drewN hw3)
  clear HQ hw3 w2
  go_wp2_with fail
  obtain ⟨c0, c1, c2, c3, c4, c5, c6, c7⟩ := HQ3.out.sum.words8
  go_quiet (fail)
  clear c0 c1 c2 c3 c4 c5 c6 c7
  generalize hw4 : World.drewN w3 _ = w4
  have HQ := Lib.hid (HQ3.out.drewN hw4)
  clear HQ3 hw4 w3
  go_wp2_with fail
  go_loopw [3, 4, 5, 6, 7, 8, 9, 10, 58] (fun xa xb xc xd xe xf xg xh i wr => ∃ k : Nat, k ≤ 64 ∧ i = .int .i64 k ∧ xa = .int .u32 (nv (rounds (R8.of H) Ws k).1.a) ∧ xb = .int .u32 (nv (rounds (R8.of H) Ws k).1.b) ∧ xc = .int .u32 (nv (rounds (R8.of H) Ws k).1.c) ∧ xd = .int .u32 (nv (rounds (R8.of H) Ws k).1.d) ∧ xe = .int .u32 (nv (rounds (R8.of H) Ws k).1.e) ∧ xf = .int .u32 (nv (rounds (R8.of H) Ws k).1.f) ∧ xg = .int .u32 (nv (rounds (R8.of H) Ws k).1.g) ∧ xh = .int .u32 (nv (rounds (R8.of H) Ws k).1.h)
      ∧ MixSt w p q H b hv al (u32s (rounds (R8.of H) Ws k).2).toArray wr)
    (fun _ _ _ _ _ _ _ _ i _ => 64 - (intOf i).toNat)
  case atStart => exact ⟨0, Nat.zero_le _, rfl, rfl, rfl, rfl, rfl, rfl, rfl, rfl, rfl, by show MixSt w p q H b hv al (u32s Ws).toArray w4; rw [← HR.out.1]; exact HQ.out⟩
  case round =>
    obtain ⟨k, hk, rfl, rfl, rfl, rfl, rfl, rfl, rfl, rfl, rfl, hM⟩ := hrel
    have HM := Lib.hid hM
    have hrl := rounds_length (R8.of H) Ws k
    by_cases hlt : k < 64
    · have HE0 := Lib.hid (show rounds (R8.of H) Ws (k + 1) = ((rounds (R8.of H) Ws k).1.next (kTab[k]?.getD 0) ((ring (rounds (R8.of H) Ws k).2 k)[k % 16]?.getD 0), ring (rounds (R8.of H) Ws k).2 k) from rfl)
      generalize hrk : rounds (R8.of H) Ws k = rk at *
      obtain ⟨⟨xa, xb, xc, xd, xe, xf, xg, xh⟩, l⟩ := rk
      have HE : Hid (rounds (R8.of H) Ws (k + 1) = ((R8.mk xa xb xc xd xe xf xg xh).next (kTab[k]?.getD 0) ((ring l k)[k % 16]?.getD 0), ring l k)) := Lib.hid HE0.out
      clear HE0
      rw [HR.out.2.2] at hrl
      have HL := Lib.hid hrl
      clear hrk hrl hM
      dsimp only at HM HL ⊢
      go_upto_if 62 with fail
      go_cut [] from 59 to 148 (fun wx => MixSt w p q H b hv al (u32s (ring l k)).toArray wx)
      case first =>
        by_cases h16 : k < 16
        · have HR1 := Lib.hid (show ring l k = l by unfold ring; rw [if_pos h16])
          go_wp2_with fail
          go_meet
          rw [HR1.out]; exact HM.out
        · have HR1 := Lib.hid (show ring l k = _ by unfold ring; rw [if_neg h16])
          go_wp2_with fail
          refine wp_region_still_tail 25 (by kernel_rfl) (by kernel_rfl) ?_
          simp only [List.take_succ_cons, List.take_zero, List.drop_succ_cons, List.drop_zero]
          show wpStill _ _ wr.drew (fun a' => wpList _ _ _ _ a' wr.drew) _ _
          have HD := Lib.hid HM.out.drew
          generalize wr.drew = wd at *
          have hx0 : (k : Int).tmod 16 = ((k % 16 : Nat) : Int) := by rw [Int.tmod_eq_emod_of_nonneg (by omega)]; omega
          have hx1 : ((k : Int) + 1).tmod 16 = (((k + 1) % 16 : Nat) : Int) := by rw [Int.tmod_eq_emod_of_nonneg (by omega)]; omega
          have hx9 : ((k : Int) + 9).tmod 16 = (((k + 9) % 16 : Nat) : Int) := by rw [Int.tmod_eq_emod_of_nonneg (by omega)]; omega
          have hx14 : ((k : Int) + 14).tmod 16 = (((k + 14) % 16 : Nat) : Int) := by rw [Int.tmod_eq_emod_of_nonneg (by omega)]; omega
          have hw1 := IntWalk.i64_in ((k : Int) + 1) (by omega)
          have hw9 := IntWalk.i64_in ((k : Int) + 9) (by omega)
          have hw14 := IntWalk.i64_in ((k : Int) + 14) (by omega)
          have hm0 : k % 16 < 16 := by omega
          have hm1 : (k + 1) % 16 < 16 := by omega
          have hm9 : (k + 9) % 16 < 16 := by omega
          have hm14 : (k + 14) % 16 < 16 := by omega
          generalize k % 16 = m0 at *
          generalize (k + 1) % 16 = m1 at *
          generalize (k + 9) % 16 = m9 at *
          generalize (k + 14) % 16 = m14 at *
          have d0 := u32s_cell HD.out.row m0 (by rw [HL.out]; omega)
          have d1 := u32s_cell HD.out.row m1 (by rw [HL.out]; omega)
          have d9 := u32s_cell HD.out.row m9 (by rw [HL.out]; omega)
          have d14 := u32s_cell HD.out.row m14 (by rw [HL.out]; omega)
          have f0 := free_of_cells HD.out.row m0
          generalize l[m0]?.getD 0 = y0 at *
          generalize l[m1]?.getD 0 = y1 at *
          generalize l[m9]?.getD 0 = y9 at *
          generalize l[m14]?.getD 0 = y14 at *
          have i0 : (m0 : Int) < 16 := by omega
          have i1 : (m1 : Int) < 16 := by omega
          have i9 : (m9 : Int) < 16 := by omega
          have i14 : (m14 : Int) < 16 := by omega
          have hadd := W32.addw
          clear hm0 hm1 hm9 hm14
          iterate 9 still_step
          refine wpStill_step (fun K hK => ?_)
          go_simp
          refine ⟨_, low_still _ _, hK _ ?_⟩
          clear hK K
          iterate 11 still_step
          refine wpStill_step (fun K hK => ?_)
          go_simp
          refine ⟨_, high_still _ _, hK _ ?_⟩
          clear hK K
          iterate 3 still_step
          refine wpStill_nil ?_
          go_wp2_with fail
          go_meet
          rw [HR1.out]
          exact HD.out.set hz1 hp HT.out m0 _
      case rest =>
        have HC := Lib.hid hcut
        have hrg : (ring l k).length = 16 := by rw [ring_length]; exact HL.out
        have hx0 : (k : Int).tmod 16 = ((k % 16 : Nat) : Int) := by rw [Int.tmod_eq_emod_of_nonneg (by omega)]; omega
        have hm0 : k % 16 < 16 := by omega
        generalize k % 16 = m0 at *
        have d0 : ∀ j, (wc.drewN j).cell? ⟨q, m0, none⟩ = _ := fun j => u32s_cell HC.out.row m0 (by rw [hrg]; omega)
        have dk : ∀ j, (wc.drewN j).cell? ⟨1, k, none⟩ = _ := fun j => HC.out.tab.round k hlt
        generalize (ring l k)[m0]?.getD 0 = y0 at *
        generalize kTab[k]?.getD 0 = z0 at *
        have i0 : (m0 : Int) < 16 := by omega
        have hadd := W32.addw
        have hxor := W32.xor_
        have hand := W32.and_
        have hnot := W32.notI
        have hadd2 := W32.add_
        clear hcut hm0 hrg
        go_wp2_with fail
        go_quiet ((go_at_call 74; exact Calls.quiet_of_same (turn_still _ _ (by omega) (by omega) _)))
        generalize hw5 : World.drewN wc _ = w5
        have HC5 := Lib.hid (HC.out.drewN hw5)
        clear hw5 d0 dk
        go_wp2_with (go_at_call 74; refine (turn_any _ _ (by omega) (by omega) _).mono ?_; rintro _ _ ⟨rfl, rfl⟩)
        go_roundw
        case rel =>
          refine ⟨k + 1, by omega, by go_num, ?_⟩
          rw [HE.out]
          exact ⟨rfl, rfl, rfl, rfl, rfl, rfl, rfl, rfl, HC5.out⟩
        case measure => simp [intOf]; omega
    · obtain rfl : k = 64 := by omega
      clear hrl hlt hk hM
      generalize hr : rounds (R8.of H) Ws 64 = rk at *
      obtain ⟨⟨xa, xb, xc, xd, xe, xf, xg, xh⟩, l⟩ := rk
      dsimp only at HM ⊢
      obtain ⟨M, hM⟩ : ∃ M, M = [xa, xb, xc, xd, xe, xf, xg, xh] := ⟨_, rfl⟩
      obtain ⟨CS, hCS⟩ : ∃ CS, CS = (u32s M).toArray := ⟨_, rfl⟩
      have hcs : #[Value.int .u32 (nv xa), .int .u32 (nv xb), .int .u32 (nv xc), .int .u32 (nv xd), .int .u32 (nv xe), .int .u32 (nv xf), .int .u32 (nv xg), .int .u32 (nv xh)] = CS := by rw [hCS, hM]; rfl
      have HF : Hid (addTo H M 8 = mixB H b) := Lib.hid (by unfold mixB; rw [HR.out.2.1, hr, hM]; rfl)
      have HML : Hid (M.length = 8) := Lib.hid (by rw [hM]; rfl)
      have HCS := Lib.hid hCS
      have HCS2 := Lib.hid hcs
      clear hr hM hCS hcs
      go_wp2_with fail
      rw [HCS2.out]
      go_loopw [14, 15, 158] (fun _ _ i wx => ∃ j : Nat, j ≤ 8 ∧ i = .int .i64 j ∧ Sum wx p (addTo H M j) b hv al ∧ Turned (· = p) w wx) (fun _ _ i _ => 8 - (intOf i).toNat)
      case atStart => exact ⟨0, Nat.zero_le _, rfl, HM.out.sum, Turned.of_below HM.out.below⟩
      case round =>
        obtain ⟨j, hj, rfl, hSj, hTj⟩ := hrel
        have HSJ := Lib.hid hSj
        by_cases hlt : j < 8
        · have hix := run_index_arr (P := Tryd.prog) Tryd.underlying95 Tryd.underlying94 u32_size CS j hlt _ (by rw [HCS.out, List.getElem?_toArray]; exact u32s_at M j (by rw [HML.out]; exact hlt))
          have HE := Lib.hid (show addTo H M (j + 1) = (addTo H M j).set j (((addTo H M j)[j]?.getD 0) + (M[j]?.getD 0)) from rfl)
          clear hSj
          go_wp2_with fail
          refine wp_region_still_tail 11 (by kernel_rfl) (by kernel_rfl) ?_
          simp only [List.take_succ_cons, List.take_zero, List.drop_succ_cons, List.drop_zero]
          show wpStill _ _ wr.drew (fun a' => wpList _ _ _ _ a' wr.drew) _ _
          have HD : Hid (Sum wr.drew p (addTo H M j) b hv al ∧ Turned (· = p) w wr.drew) := Lib.hid ⟨HSJ.out.drew, hTj.drew⟩
          clear hTj
          generalize wr.drew = wd at *
          have d0 := HD.out.1.word j hlt
          have f0 := HD.out.1.free j
          generalize (addTo H M j)[j]?.getD 0 = y0 at *
          generalize M[j]?.getD 0 = y1 at *
          have hadd := W32.addw
          have i0 : (j : Int) < 8 := by omega
          iterate 11 still_step
          refine wpStill_nil ?_
          go_wp2_with fail
          go_roundw
          case rel =>
            have h1 := HD.out.1.setWord j hlt (y0 + y1)
            rw [← HE.out] at h1
            have h2 := HD.out.2.set (p := p) rfl j (.int .u32 (nv (y0 + y1)))
            (repeat apply Exists.intro); exact ⟨⟨j + 1, by omega, by go_num, h1, h2⟩, rfl⟩
          case measure => simp [intOf]; omega
        · obtain rfl : j = 8 := by omega
          clear hSj hlt hj
          go_wp2_with fail
          go_end0
          exact ⟨rfl, by rw [← HF.out]; exact HSJ.out, hTj⟩
end Go.Proofs.YtnbjhdlnibmgdaaDoor

/-! Arrays of bytes held against each other. -/
namespace Go.Proofs.YtnbjhdlnibmgdaaDoor
open Go.RowKit

section
variable {P : Program} (w : World)
theorem run_part_byte {e : TypeId} (he : P.underlying e = some (.int .u8)) (l : List UInt8) (k : Nat) (hk : k < l.length) :
    (part e (u8s l).toArray (k * 1)).run P w = .ok (.int .u8 ((l[k]).toNat : Int)) w := by
  have hag : (isAgg e).run P w = .ok false w := by
    unfold isAgg
    rw [Sem.run_bind, run_underlying he w]
    simp
  have hc : (u8s l)[k]? = some (.int .u8 ((l[k]).toNat : Int)) := by simp [u8s, List.getElem?_eq_getElem hk]
  simp [part, Sem.run_bind, hag, hc]

theorem run_eqItems_bytes (d : Nat) {e : TypeId} (he : P.underlying e = some (.int .u8)) (l m : List UInt8) (hlm : l.length = m.length) :
    ∀ (j k : Nat), k + j = l.length → (Op.eqItems (d + 1) e 1 (u8s l).toArray (u8s m).toArray (List.range' k j)).run P w = .ok (decide (l.drop k = m.drop k)) w
  | 0, k, h => by
    have h1 : l.drop k = [] := List.drop_eq_nil_of_le (by omega)
    have h2 : m.drop k = [] := List.drop_eq_nil_of_le (by omega)
    simp [Op.eqItems, h1, h2]
  | j + 1, k, h => by
    have hk : k < l.length := by omega
    have hk2 : k < m.length := by omega
    rw [List.range'_succ]
    simp only [Op.eqItems, Sem.run_bind, run_part_byte w he l k hk, run_part_byte w he m k hk2, Result.andThen_ok, run_equalIn_int w d e .u8 .u8 _ _ he]
    have e1 : l.drop k = l[k] :: l.drop (k + 1) := List.drop_eq_getElem_cons hk
    have e2 : m.drop k = m[k] :: m.drop (k + 1) := List.drop_eq_getElem_cons hk2
    have ih := run_eqItems_bytes d he l m hlm j (k + 1) (by omega)
    rw [e1, e2]
    clear e1 e2
    generalize l.drop (k + 1) = a at *
    generalize m.drop (k + 1) = b at *
    by_cases hx : l[k] = m[k]
    · rw [hx]
      simp [ih]
    · have hne : ¬ ((l[k]).toNat : Int) = ((m[k]).toNat : Int) := by
        intro e1
        exact hx (UInt8.toNat.inj (by omega))
      simp [hx, hne]

theorem run_equalIn_bytes {t e : TypeId} {n : Nat} {i : TypeInfo} (ht : P.underlying t = some (.array n e)) (he : P.underlying e = some (.int .u8)) (hi : P.info? e = some i) (hs : P.cellsOf e = 1) (d : Nat) (l m : List UInt8) (hl : l.length = n) (hm : m.length = n) :
    (Op.equalIn (d + 2) t (.agg (u8s l).toArray) (.agg (u8s m).toArray)).run P w = .ok (decide (l = m)) w := by
  rw [show d + 2 = (d + 1) + 1 from rfl, run_equalIn_array w (d + 1) _ _ ht hi, hs, List.range_eq_range', run_eqItems_bytes w d he l m (by omega) n 0 (by omega)]
  simp
end
end Go.Proofs.YtnbjhdlnibmgdaaDoor
