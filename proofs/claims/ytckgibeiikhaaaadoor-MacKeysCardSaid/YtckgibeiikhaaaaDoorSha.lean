/-
  Plain mathematics: what digest reckons, as functions of lists of bytes and of numbers of 32 bits. No program is named here.
-/
import Derived.Test.YtckgibeiikhaaaaDoorWords
namespace Go.Proofs.YtckgibeiikhaaaaDoor

def lowB (x : BitVec 32) : BitVec 32 := rotr x 7 ^^^ rotr x 18 ^^^ x >>> (3 : Nat)
def highB (x : BitVec 32) : BitVec 32 := rotr x 17 ^^^ rotr x 19 ^^^ x >>> (10 : Nat)
/-- The words of the first k bytes. -/
def wacc (b : List UInt8) : Nat → List (BitVec 32)
  | 0 => List.replicate 16 0
  | k + 1 => (wacc b k).set (k / 4) (((wacc b k)[k / 4]?.getD 0) <<< (8 : Nat) ||| BitVec.ofNat 32 (b[k]?.getD 0).toNat)
theorem wacc_length (b : List UInt8) : ∀ k, (wacc b k).length = 16
  | 0 => by simp [wacc]
  | k + 1 => by simp [wacc, wacc_length b k]

def hTab : List (BitVec 32) := [1779033703, 3144134277, 1013904242, 2773480762, 1359893119, 2600822924, 528734635, 1541459225]
def kTab : List (BitVec 32) := [1116352408, 1899447441, 3049323471, 3921009573, 961987163, 1508970993, 2453635748, 2870763221, 3624381080, 310598401, 607225278, 1426881987, 1925078388, 2162078206, 2614888103, 3248222580, 3835390401, 4022224774, 264347078, 604807628, 770255983, 1249150122, 1555081692, 1996064986, 2554220882, 2821834349, 2952996808, 3210313671, 3336571891, 3584528711, 113926993, 338241895, 666307205, 773529912, 1294757372, 1396182291, 1695183700, 1986661051, 2177026350, 2456956037, 2730485921, 2820302411, 3259730800, 3345764771, 3516065817, 3600352804, 4094571909, 275423344, 430227734, 506948616, 659060556, 883997877, 958139571, 1322822218, 1537002063, 1747873779, 1955562222, 2024104815, 2227730452, 2361852424, 2428436474, 2756734187, 3204031479, 3329325298]

/-- The eight numbers that go round. -/
structure R8 where
  a : BitVec 32
  b : BitVec 32
  c : BitVec 32
  d : BitVec 32
  e : BitVec 32
  f : BitVec 32
  g : BitVec 32
  h : BitVec 32
def R8.list (r : R8) : List (BitVec 32) := [r.a, r.b, r.c, r.d, r.e, r.f, r.g, r.h]
def R8.of (l : List (BitVec 32)) : R8 := ⟨l[0]?.getD 0, l[1]?.getD 0, l[2]?.getD 0, l[3]?.getD 0, l[4]?.getD 0, l[5]?.getD 0, l[6]?.getD 0, l[7]?.getD 0⟩
def R8.t1 (r : R8) (k w : BitVec 32) : BitVec 32 := r.h + (rotr r.e 6 ^^^ rotr r.e 11 ^^^ rotr r.e 25) + (r.e &&& r.f ^^^ ~~~r.e &&& r.g) + k + w
def R8.t2 (r : R8) : BitVec 32 := (rotr r.a 2 ^^^ rotr r.a 13 ^^^ rotr r.a 22) + (r.a &&& r.b ^^^ r.a &&& r.c ^^^ r.b &&& r.c)
def R8.next (r : R8) (k w : BitVec 32) : R8 := ⟨r.t1 k w + r.t2, r.a, r.b, r.c, r.d + r.t1 k w, r.e, r.f, r.g⟩
/-- The word of round k takes its place. -/
def ring (l : List (BitVec 32)) (k : Nat) : List (BitVec 32) :=
  if k < 16 then l else l.set (k % 16) ((l[k % 16]?.getD 0) + (lowB (l[(k + 1) % 16]?.getD 0) + (l[(k + 9) % 16]?.getD 0) + highB (l[(k + 14) % 16]?.getD 0)))
theorem ring_length (l : List (BitVec 32)) (k : Nat) : (ring l k).length = l.length := by unfold ring; split <;> simp
def rounds (r : R8) (l : List (BitVec 32)) : Nat → R8 × List (BitVec 32)
  | 0 => (r, l)
  | k + 1 => ((rounds r l k).1.next (kTab[k]?.getD 0) ((ring (rounds r l k).2 k)[k % 16]?.getD 0), ring (rounds r l k).2 k)
theorem rounds_length (r : R8) (l : List (BitVec 32)) : ∀ k, (rounds r l k).2.length = l.length
  | 0 => rfl
  | k + 1 => by simp [rounds, ring_length, rounds_length r l k]
/-- The first k numbers with those of a row added. -/
def addTo (h m : List (BitVec 32)) : Nat → List (BitVec 32)
  | 0 => h
  | k + 1 => (addTo h m k).set k (((addTo h m k)[k]?.getD 0) + (m[k]?.getD 0))
theorem addTo_length (h m : List (BitVec 32)) : ∀ k, (addTo h m k).length = h.length
  | 0 => rfl
  | k + 1 => by simp [addTo, addTo_length h m k]
/-- One block. -/
def mixB (h : List (BitVec 32)) (b : List UInt8) : List (BitVec 32) := addTo h (rounds (R8.of h) (wacc b 64) 64).1.list 8
theorem mixB_length (h : List (BitVec 32)) (b : List UInt8) : (mixB h b).length = h.length := addTo_length _ _ _
end Go.Proofs.YtckgibeiikhaaaaDoor
