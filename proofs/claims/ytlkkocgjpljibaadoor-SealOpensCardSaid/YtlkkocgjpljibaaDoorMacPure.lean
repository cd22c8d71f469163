/-
  What a key says of bytes, as lists; numbers of 8 bits in walks.
  mac.over: a key and noughts behind it, each byte xor one.
  mac.Same and mac.low.
-/
import Derived.Test.YtlkkocgjpljibaaDoorCells
import Derived.Test.YtlkkocgjpljibaaDoorShaOf
import Derived.Test.YtlkkocgjpljibaaDoorGrowCel
import Derived.Laws.CopyOwn
import Derived.BigQuiet
/-! What a key says of bytes, as lists; numbers of 8 bits in walks. -/
namespace Go.Proofs.YtlkkocgjpljibaaDoor
open Go.RowKit

/-- A key and 32 noughts, each xor x. -/
def keyB (k : List UInt8) : List UInt8 := k ++ List.replicate 32 0
theorem keyB_length {k : List UInt8} (h : k.length = 32) : (keyB k).length = 64 := by simp [keyB, h]
/-- The first i of them xor x. -/
def ovrA (b : List UInt8) (x : UInt8) : Nat → List UInt8
  | 0 => b
  | i + 1 => (ovrA b x i).set i ((b[i]?.getD 0) ^^^ x)
theorem ovrA_length (b : List UInt8) (x : UInt8) : ∀ i, (ovrA b x i).length = b.length
  | 0 => rfl
  | i + 1 => by simp [ovrA, ovrA_length b x i]
theorem ovrA_at (b : List UInt8) (x : UInt8) : ∀ i, (ovrA b x i)[i]? = b[i]? := by
  have h : ∀ i j, i ≤ j → (ovrA b x i)[j]? = b[j]? := by
    intro i
    induction i with
    | zero => intro j _; rfl
    | succ i ih => intro j hj; rw [ovrA, List.getElem?_set_ne (by omega), ih j (by omega)]
  exact fun i => h i i (Nat.le_refl _)
def ovr (k : List UInt8) (x : UInt8) : List UInt8 := ovrA (keyB k) x 64
theorem ovr_length {k : List UInt8} (h : k.length = 32) (x : UInt8) : (ovr k x).length = 64 := by rw [ovr, ovrA_length, keyB_length h]
/-- What a key says of bytes. -/
def macL (k m : List UInt8) : List UInt8 := shaL (ovr k 92 ++ shaL (ovr k 54 ++ m))
theorem macL_length (k m : List UInt8) : (macL k m).length = 32 := shaL_length _

theorem or8_zero {a b : UInt8} : a ||| b = 0 ↔ a = 0 ∧ b = 0 := UInt8.or_eq_zero_iff
theorem xor8_zero {a b : UInt8} : a ^^^ b = 0 ↔ a = b := UInt8.xor_eq_zero_iff

/-- What isn't alike among the first i bytes. -/
def unl (a b : List UInt8) : Nat → UInt8
  | 0 => 0
  | i + 1 => unl a b i ||| ((a[i]?.getD 0) ^^^ (b[i]?.getD 0))
theorem unl_zero (a b : List UInt8) : ∀ i, unl a b i = 0 ↔ ∀ j, j < i → a[j]?.getD 0 = b[j]?.getD 0
  | 0 => by simp [unl]
  | i + 1 => by
    rw [unl, or8_zero, unl_zero a b i, xor8_zero]
    constructor
    · rintro ⟨h1, h2⟩ j hj
      rcases Nat.lt_succ_iff_lt_or_eq.1 hj with h | rfl
      · exact h1 j h
      · exact h2
    · intro h
      exact ⟨fun j hj => h j (by omega), h i (by omega)⟩
theorem unl_all {a b : List UInt8} (ha : a.length = 32) (hb : b.length = 32) : unl a b 32 = 0 ↔ a = b := by
  rw [unl_zero]
  constructor
  · intro h
    apply List.ext_getElem (by omega)
    intro i h1 h2
    have := h i (by omega)
    simpa [List.getElem?_eq_getElem h1, List.getElem?_eq_getElem h2] using this
  · rintro rfl j _; rfl

/-- A number's bytes, the lowest first. -/
def le8 (n : Nat) (k : Nat) : List UInt8 := (List.range k).map fun i => UInt8.ofNat (n / 2 ^ (8 * i))
theorem le8_length (n k : Nat) : (le8 n k).length = k := by simp [le8]
theorem le8_succ (n k : Nat) : le8 n (k + 1) = le8 n k ++ [UInt8.ofNat (n / 2 ^ (8 * k))] := by simp [le8, List.range_succ]
/-- The same, laid in a row of noughts. -/
def le8A (n : Nat) : Nat → List UInt8
  | 0 => List.replicate 8 0
  | k + 1 => (le8A n k).set k (UInt8.ofNat (n / 2 ^ (8 * k)))
theorem le8A_length (n : Nat) : ∀ k, (le8A n k).length = 8
  | 0 => rfl
  | k + 1 => by simp [le8A, le8A_length n k]
theorem le8A_all (n : Nat) : le8A n 8 = le8 n 8 := by rfl
theorem byte_mod (n e : Nat) : ((n / 2 ^ e : Nat) : Int) % 256 = (((UInt8.ofNat (n / 2 ^ e)).toNat : Nat) : Int) := by simp

/-! Rows of bytes as values. -/
end Go.Proofs.YtlkkocgjpljibaaDoor

/-! mac.over: a key and noughts behind it, each byte xor one. -/
namespace Go.Proofs.YtlkkocgjpljibaaDoor
open Go.RowKit

def zeros64b : Array Value := row8 (List.replicate 64 0)
theorem zero_b64 : ∀ W, (zeroValue 63).run Tryd.prog W = .ok (.agg zeros64b) W := fun W => by unfold zeros64b row8; kernel_rfl
theorem b64_info : (Tryd.prog.info? 63).map (·.size) = some 64 := by kernel_rfl
theorem key_info : (Tryd.prog.info? 23).map (·.size) = some 32 := by kernel_rfl

def Ovr (w : World) (q : Nat) (k : List UInt8) (x : UInt8) (i : Value) (wr : World) : Prop := ∃ j : Nat, j ≤ 64 ∧ i = .int .i64 j ∧ Below w.heap.size w wr ∧ wr.heap[q]? = some (.cells zeros64b 63 (0, 0)) ∧ wr.heap[q + 1]? = some (.cells (row8 (ovrA (keyB k) x j)) 63 (0, 0))

set_option maxHeartbeats 4000000 in
set_option maxRecDepth 100000 in
theorem over_any (k : List UInt8) (hk : k.length = 32) (x : UInt8) (w : World) :
    Calls Tryd.prog 40 #[.agg (row8 k), .int .u8 (x.toNat : Int)] w fun e w' => e = .returned (.agg (row8 (ovr k x))) ∧ Below w.heap.size w w' := by
  have hz := zero_b64
  obtain ⟨KS, hKS⟩ : ∃ KS, KS = row8 k := ⟨_, rfl⟩
  rw [← hKS]
  have HK := Lib.hid hKS
  go_enter Tryd.func40, Tryd.ntmps40
  go_wp2_with fail
  have HK0 : Hid ((((w.alloc (.cells (row8 k) 23)).alloc (.cells zeros64b 63)).alloc (.cells zeros64b 63)).heap[w.heap.size]? = some (.cells (row8 k) 23 (0, 0))) := Lib.hid (by
    refine (Below.heap_alloc _ _ _ (by simp; omega)).trans ((Below.heap_alloc _ _ _ (by simp)).trans (heap_alloc_new w _)))
  have HK1 : Hid ((((w.alloc (.cells (row8 k) 23)).alloc (.cells zeros64b 63)).alloc (.cells zeros64b 63)).heap[w.heap.size + 1]? = some (.cells zeros64b 63 (0, 0))) := Lib.hid (by
    refine (Below.heap_alloc _ _ _ (by simp)).trans ?_
    have := heap_alloc_new (w.alloc (.cells (row8 k) 23)) (.cells zeros64b 63)
    simpa using this)
  have HK2 : Hid ((((w.alloc (.cells (row8 k) 23)).alloc (.cells zeros64b 63)).alloc (.cells zeros64b 63)).heap[w.heap.size + 2]? = some (.cells zeros64b 63 (0, 0))) := Lib.hid (by
    have := heap_alloc_new ((w.alloc (.cells (row8 k) 23)).alloc (.cells zeros64b 63)) (.cells zeros64b 63)
    simpa using this)
  have HB : Hid (Below w.heap.size w (((w.alloc (.cells (row8 k) 23)).alloc (.cells zeros64b 63)).alloc (.cells zeros64b 63))) := Lib.hid ((((Below.refl _ _).alloc (Nat.le_refl _) _).alloc (by simp) _).alloc (by simp; omega) _)
  have hs2 : w.heap.size + 1 + 1 = w.heap.size + 2 := rfl
  simp only [hs2]
  generalize ((w.alloc (.cells (row8 k) 23)).alloc (.cells zeros64b 63)).alloc (.cells zeros64b 63) = w1 at *
  have HLT : Hid (w.heap.size + 2 < w1.heap.size) := Lib.hid (lt_of_cells HK2.out)
  clear hs2 hz
  refine wp_region_grow (Sto (w.heap.size + 2) (.cells (row8 (keyB k)) 63 (0, 0))) (Grow.nth [fun v _ => v = .slice (some ⟨w.heap.size + 2, 0, none⟩) 64 64, fun v _ => v = .slice (some ⟨w.heap.size, 0, none⟩) 32 32, fun _ W => W.heap[w.heap.size + 2]? = some (.cells (row8 (keyB k)) 63 (0, 0))]) 21 (by kernel_rfl) (by kernel_rfl) (by rfl) (Sto.refl _ _) (fun _ _ _ h1 h2 => h1.trans h2) (Grow.mono_nth ?gmono) ?gsteps ?gfin
  case gmono => exact ⟨fun _ _ _ h _ => h, fun _ _ _ h _ => h, fun _ _ _ h g => g.keeps h, trivial⟩
  case gsteps =>
    show Grow.allBelow _ 3
    refine And.intro ?_ ?s2
    refine And.intro ?_ ?s1
    refine And.intro ?_ ?s0
    exact trivial
    case s0 =>
      refine Grow.step_in (by rfl) (by rfl) ?_
      intro E W ec eg ef hG hd hu R HR
      have e5 : E (.tmp 5) = .pointer (some ⟨w.heap.size + 2, 0, none⟩) := hu 5 (by kernel_rfl)
      clear hd hu
      go_simp
      exact HR.out _ _ (Sto.refl _ _ _) rfl
    case s1 =>
      refine Grow.step_in (by rfl) (by rfl) ?_
      intro E W ec eg ef hG hd hu R HR
      have e2 : E (.tmp 2) = .pointer (some ⟨w.heap.size, 0, none⟩) := hu 2 (by kernel_rfl)
      clear hd hu
      go_simp
      exact HR.out _ _ (Sto.refl _ _ _) rfl
    case s2 =>
      refine Grow.step_in (by rfl) (by rfl) ?_
      intro E W ec eg ef hG hd hu R HR
      have e7 : E (.tmp 7) = .slice (some ⟨w.heap.size + 2, 0, none⟩) 64 64 := hd 0 7 (by kernel_rfl)
      have e8 : E (.tmp 8) = .slice (some ⟨w.heap.size, 0, none⟩) 32 32 := hd 1 8 (by kernel_rfl)
      clear hd hu
      go_simp
      obtain ⟨ds, hds, hdo⟩ := hG.old (os := zeros64b) HK2.out
      have h0 : W.heap[w.heap.size]? = some (.cells (row8 k) 23 (0, 0)) := (hG.turned.block _ (by have := HLT.out; show _ < w1.heap.size; omega) (by omega)).trans HK0.out
      have hsz : ds.size = 64 := by
        rcases hdo with rfl | rfl
        · rfl
        · rw [row8_size, keyB_length hk]
      have hdr : ds.toList.drop 32 = u8s (List.replicate 32 0) := by
        rcases hdo with rfl | rfl
        · rfl
        · rw [row8, keyB, u8s_append, List.toList_toArray, List.drop_append_of_le_length (by rw [u8s_length]; omega), List.drop_of_length_le (by rw [u8s_length]; omega), List.nil_append]
      rw [run_copy_row Tryd.prog W 25 25 3 5 (w.heap.size + 2) 0 64 64 ⟨w.heap.size, 0, none⟩ 32 32 ds 63 (u8s k) Tryd.underlying25 (by kernel_rfl) hds (by rw [u8s_length, hk]; rfl) (fun j v hj => by
        rw [add_plain, cell_of_cells h0, Nat.zero_add, row8, List.getElem?_toArray]; exact hj) (by rw [u8s_length]; omega) (u8s_one k)]
      have hrow : (ds.toList.take 0 ++ u8s k ++ ds.toList.drop (0 + (u8s k).length)).toArray = row8 (keyB k) := by
        rw [u8s_length, hk, Nat.zero_add, hdr, row8, keyB, u8s_append]; rfl
      rw [hrow]
      exact HR.out _ _ (Sto.store hds) (setRow_at hds)
  case gfin =>
    intro W hG
    refine Grow.fin_dst (by rfl) ?_
    rintro _ rfl
    refine Grow.fin_dst (by rfl) ?_
    rintro _ rfl
    refine Grow.fin_dst (by rfl) ?_
    rintro v9 hK
    simp only [Act.put, List.setIfInBounds_toArray, List.set_cons_zero, List.set_cons_succ]
    refine Grow.fin_end ?_
    have HG : Hid (Below w.heap.size w W ∧ W.heap[w.heap.size + 1]? = some (.cells zeros64b 63 (0, 0)) ∧ W.heap[w.heap.size + 2]? = some (.cells (row8 (ovrA (keyB k) x 0)) 63 (0, 0))) := Lib.hid
      ⟨HB.out.trans ((hG.of_drew.turned.mono (T := (w.heap.size ≤ ·)) fun b _ hb => by omega).below HB.out.size), (hG.of_drew.turned.block _ (by have := HLT.out; omega) (by omega)).trans HK1.out, hK⟩
    clear hG hK
    go_wp2_with fail
    go_loopw [6, 10] (fun _ i wr => Ovr w (w.heap.size + 1) k x i wr) (fun _ i _ => 64 - (intOf i).toNat)
    case atStart => unfold Ovr; exact ⟨0, Nat.zero_le _, rfl, HG.out⟩
    case round =>
      obtain ⟨j, hj, rfl, hbr, h1, h2⟩ := hrel
      have HR := Lib.hid (And.intro hbr h1)
      by_cases hlt : j < 64
      · have hb64 := keyB_length hk
        have hcell := u8s_cell h2 j (by rw [ovrA_length]; omega)
        rw [ovrA_at] at hcell
        have hfree := free_of_cells h2 j
        have hE := Lib.hid (show ovrA (keyB k) x (j + 1) = (ovrA (keyB k) x j).set j ((keyB k)[j]?.getD 0 ^^^ x) from rfl)
        have hx := xor8 ((keyB k)[j]?.getD 0) x
        generalize (keyB k)[j]?.getD 0 = y at *
        have H2 := Lib.hid h2
        clear h1 h2 hbr hb64
        go_wp2_with fail
        go_roundw
        case rel =>
          unfold Ovr
          refine ⟨j + 1, by omega, by go_num, HR.out.1.setCell (by simp) _, (Below.heap_setCell _ _ _ _ (by simp)).trans HR.out.2, ?_⟩
          rw [row8, hE.out]
          have hset := u8s_cells_set H2.out j (y ^^^ x)
          rw [UInt8.toNat_xor] at hset
          exact hset
        case measure => simp [intOf]; omega
      · obtain rfl : j = 64 := by omega
        have hsz : (row8 (ovrA (keyB k) x 64)).size = 64 := by rw [row8_size, ovrA_length, keyB_length hk]
        obtain ⟨RS, hRS⟩ : ∃ RS, RS = row8 (ovrA (keyB k) x 64) := ⟨_, rfl⟩
        have HA := Lib.hid (show RS.all (·.oneCell') = true by rw [hRS]; exact row8_one _)
        rw [← hRS] at h2 hsz
        have H2 := Lib.hid h2
        have HS := Lib.hid hsz
        have HRS := Lib.hid hRS
        clear h1 h2 hbr hRS hsz hlt hj
        go_wp2_with (first | (refine wpList_load_row (by rfl) 63 (.tmp 5) (by rfl) (w.heap.size + 2) (by rfl) 63 RS (0, 0) _ H2.out Tryd.underlying63 (by rfl) (by rw [HS.out]; exact b64_info) ?_) | (refine wpList_store_row (by rfl) 63 (.tmp 4) (.tmp 20) (by rfl) (w.heap.size + 1) RS (by rfl) (by rfl) 63 _ HR.out.2 (by rw [HS.out]; exact b64_info) (by rw [HS.out]; rfl) HA.out ?_))
        exact bodyPost_ret (results_cell_row rfl _ _ (w.heap.size + 1) 63 RS (0, 0) _ rfl (setRow_at HR.out.2) Tryd.underlying63 rfl (by rw [HS.out]; exact b64_info)) rfl ⟨by rw [HRS.out]; rfl, below_setRow HR.out.1 (by omega) _⟩
end Go.Proofs.YtlkkocgjpljibaaDoor

/-! mac.Same and mac.low. -/
namespace Go.Proofs.YtlkkocgjpljibaaDoor
open Go.RowKit

def Sam (w : World) (a b : List UInt8) (u i : Value) (wr : World) : Prop := ∃ j : Nat, j ≤ 32 ∧ i = .int .i64 j ∧ u = .int .u8 ((unl a b j).toNat : Int) ∧ Below w.heap.size w wr ∧ wr.heap[w.heap.size]? = some (.cells (row8 a) 34 (0, 0)) ∧ wr.heap[w.heap.size + 1]? = some (.cells (row8 b) 34 (0, 0))

set_option maxHeartbeats 4000000 in
set_option maxRecDepth 100000 in
theorem same_any (a b : List UInt8) (ha : a.length = 32) (hb : b.length = 32) (w : World) :
    Calls Tryd.prog 25 #[.agg (row8 a), .agg (row8 b)] w fun e w' => e = .returned (.bool (decide (a = b))) ∧ Below w.heap.size w w' := by
  obtain ⟨AS, hAS⟩ : ∃ AS, AS = row8 a := ⟨_, rfl⟩
  obtain ⟨BS, hBS⟩ : ∃ BS, BS = row8 b := ⟨_, rfl⟩
  rw [← hAS, ← hBS]
  have HAB := Lib.hid (And.intro hAS hBS)
  clear hAS hBS
  go_enter Tryd.func25, Tryd.ntmps25
  go_wp2_with fail
  have HG : Hid (Below w.heap.size w ((w.alloc (.cells AS 34)).alloc (.cells BS 34)) ∧ ((w.alloc (.cells AS 34)).alloc (.cells BS 34)).heap[w.heap.size]? = some (.cells (row8 a) 34 (0, 0)) ∧ ((w.alloc (.cells AS 34)).alloc (.cells BS 34)).heap[w.heap.size + 1]? = some (.cells (row8 b) 34 (0, 0))) := Lib.hid
    ⟨((Below.refl _ _).alloc (Nat.le_refl _) _).alloc (by simp) _, by rw [← HAB.out.1]; exact (Below.heap_alloc _ _ _ (by simp)).trans (heap_alloc_new w _), by
      rw [← HAB.out.2]
      have := heap_alloc_new (w.alloc (.cells AS 34)) (.cells BS 34)
      simpa using this⟩
  generalize (w.alloc (.cells AS 34)).alloc (.cells BS 34) = w1 at *
  go_loopw [5, 6, 7] (fun u _ i wr => Sam w a b u i wr) (fun _ _ i _ => 32 - (intOf i).toNat)
  case atStart => unfold Sam; exact ⟨0, Nat.zero_le _, rfl, rfl, HG.out⟩
  case round =>
    obtain ⟨j, hj, rfl, rfl, hbr, h1, h2⟩ := hrel
    have HR := Lib.hid (And.intro hbr (And.intro h1 h2))
    by_cases hlt : j < 32
    · have ca : ∀ n, (wr.drewN n).cell? ⟨w.heap.size, j, none⟩ = some (.int .u8 ((a[j]?.getD 0).toNat : Int)) := fun _ => u8s_cell h1 j (by omega)
      have cb : ∀ n, (wr.drewN n).cell? ⟨w.heap.size + 1, j, none⟩ = some (.int .u8 ((b[j]?.getD 0).toNat : Int)) := fun _ => u8s_cell h2 j (by omega)
      have hE := Lib.hid (show unl a b (j + 1) = unl a b j ||| ((a[j]?.getD 0) ^^^ (b[j]?.getD 0)) from rfl)
      have hx := xor8 (a[j]?.getD 0) (b[j]?.getD 0)
      have ho := or8 (unl a b j) (a[j]?.getD 0 ^^^ b[j]?.getD 0)
      generalize a[j]?.getD 0 = x at *
      generalize b[j]?.getD 0 = y at *
      generalize unl a b j = z at *
      obtain ⟨v, hv⟩ : ∃ v, v = z ||| (x ^^^ y) := ⟨_, rfl⟩
      rw [← hv] at hE ho
      simp only [UInt8.toNat_xor] at ho
      clear h1 h2 hbr hv
      go_wp2_with fail
      go_quiet (fail)
      generalize hw2 : World.drewN wr _ = w2
      have HR2 : Hid (Below w.heap.size w w2 ∧ w2.heap[w.heap.size]? = some (.cells (row8 a) 34 (0, 0)) ∧ w2.heap[w.heap.size + 1]? = some (.cells (row8 b) 34 (0, 0))) := Lib.hid (by subst hw2; exact ⟨below_drewN HR.out.1 _, HR.out.2⟩)
      clear hw2 ca cb
      go_wp2_with fail
      go_roundw
      case rel => unfold Sam; exact ⟨j + 1, by omega, by go_num, by rw [hE.out], HR2.out⟩
      case measure => simp [intOf]; omega
    · obtain rfl : j = 32 := by omega
      have hu := unl_all ha hb
      have hd : ((unl a b 32).toNat = 0) ↔ a = b := by
        rw [← hu]
        exact ⟨fun h => UInt8.toNat.inj h, fun h => by rw [h]; rfl⟩
      generalize unl a b 32 = z at *
      clear h1 h2 hu
      have HD := Lib.hid hd
      clear hd
      go_wp2_with fail
      go_ret
      refine ⟨?_, hbr⟩
      have hdd : ((z.toNat : Int) == 0) = decide (a = b) := by
        by_cases hab : a = b
        · have := HD.out.2 hab
          simp [hab, this]
        · have h0 : ¬ z.toNat = 0 := fun h => hab (HD.out.1 h)
          have h1 : ((z.toNat : Int) == 0) = false := by simpa using (show ¬ ((z.toNat : Nat) : Int) = 0 by omega)
          rw [h1]; simp [hab]
      rw [hdd]
      rfl

def zeros8b : Array Value := row8 (List.replicate 8 0)
theorem zero_b8 : ∀ W, (zeroValue 70).run Tryd.prog W = .ok (.agg zeros8b) W := fun W => by unfold zeros8b row8; kernel_rfl
theorem b8_info : (Tryd.prog.info? 70).map (·.size) = some 8 := by kernel_rfl
def Lw (w : World) (n : Nat) (i : Value) (wr : World) : Prop := ∃ j : Nat, j ≤ 8 ∧ i = .int .i64 j ∧ Below w.heap.size w wr ∧ wr.heap[w.heap.size]? = some (.cells zeros8b 70 (0, 0)) ∧ wr.heap[w.heap.size + 1]? = some (.cells (row8 (le8A n j)) 70 (0, 0))

set_option maxHeartbeats 4000000 in
set_option maxRecDepth 100000 in
theorem mlow_any (n : Nat) (w : World) :
    Calls Tryd.prog 35 #[.int .u64 (n : Int)] w fun e w' => e = .returned (.agg (row8 (le8 n 8))) ∧ Below w.heap.size w w' := by
  have hz := zero_b8
  go_enter Tryd.func35, Tryd.ntmps35
  go_wp2_with fail
  have HG : Hid (Below w.heap.size w ((w.alloc (.cells zeros8b 70)).alloc (.cells zeros8b 70)) ∧ ((w.alloc (.cells zeros8b 70)).alloc (.cells zeros8b 70)).heap[w.heap.size]? = some (.cells zeros8b 70 (0, 0)) ∧ ((w.alloc (.cells zeros8b 70)).alloc (.cells zeros8b 70)).heap[w.heap.size + 1]? = some (.cells (row8 (le8A n 0)) 70 (0, 0))) := Lib.hid
    ⟨((Below.refl _ _).alloc (Nat.le_refl _) _).alloc (by simp) _, (Below.heap_alloc _ _ _ (by simp)).trans (heap_alloc_new w _), by
      have := heap_alloc_new (w.alloc (.cells zeros8b 70)) (.cells zeros8b 70)
      rw [show row8 (le8A n 0) = zeros8b from rfl]
      simpa using this⟩
  generalize (w.alloc (.cells zeros8b 70)).alloc (.cells zeros8b 70) = w1 at *
  clear hz
  go_loopw [4, 5] (fun _ i wr => Lw w n i wr) (fun _ i _ => 8 - (intOf i).toNat)
  case atStart => unfold Lw; exact ⟨0, Nat.zero_le _, rfl, HG.out⟩
  case round =>
    obtain ⟨j, hj, rfl, hbr, h1, h2⟩ := hrel
    have HR := Lib.hid (And.intro hbr h1)
    by_cases hlt : j < 8
    · have hcell := u8s_cell h2 j (by rw [le8A_length]; omega)
      have hfree := free_of_cells h2 j
      have hE := Lib.hid (show le8A n (j + 1) = (le8A n j).set j (UInt8.ofNat (n / 2 ^ (8 * j))) from rfl)
      have HB := Lib.hid (byte_mod n (8 * j))
      have H2 := Lib.hid h2
      clear h1 h2 hbr
      go_wp2
      go_roundw
      case rel =>
        unfold Lw
        refine ⟨j + 1, by omega, by go_num, HR.out.1.setCell (by simp) _, (Below.heap_setCell _ _ _ _ (by simp)).trans HR.out.2, ?_⟩
        have hset := u8s_cells_set H2.out j (UInt8.ofNat (n / 2 ^ (8 * j)))
        rw [← HB.out] at hset
        rw [row8, hE.out]
        simpa using hset
      case measure => simp [intOf]; omega
    · obtain rfl : j = 8 := by omega
      have hsz : (row8 (le8A n 8)).size = 8 := by rw [row8_size, le8A_length]
      obtain ⟨RS, hRS⟩ : ∃ RS, RS = row8 (le8A n 8) := ⟨_, rfl⟩
      have HA := Lib.hid (show RS.all (·.oneCell') = true by rw [hRS]; exact row8_one _)
      rw [← hRS] at h2 hsz
      have H2 := Lib.hid h2
      have HS := Lib.hid hsz
      have HRS := Lib.hid hRS
      clear h1 h2 hbr hRS hsz hlt hj
      go_wp2_with (first | (refine wpList_load_row (by rfl) 70 (.tmp 3) (by rfl) (w.heap.size + 1) (by rfl) 70 RS (0, 0) _ H2.out Tryd.underlying70 (by rfl) (by rw [HS.out]; exact b8_info) ?_) | (refine wpList_store_row (by rfl) 70 (.tmp 2) (.tmp 16) (by rfl) w.heap.size RS (by rfl) (by rfl) 70 _ HR.out.2 (by rw [HS.out]; exact b8_info) (by rw [HS.out]; rfl) HA.out ?_))
      exact bodyPost_ret (results_cell_row rfl _ _ w.heap.size 70 RS (0, 0) _ rfl (setRow_at HR.out.2) Tryd.underlying70 rfl (by rw [HS.out]; exact b8_info)) rfl ⟨by rw [HRS.out]; rfl, below_setRow HR.out.1 (Nat.le_refl _) _⟩
end Go.Proofs.YtlkkocgjpljibaaDoor
