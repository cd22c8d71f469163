/-
  The reference's Part.
  The reference's Over.
-/
import Derived.Test.YtlkkocgjpljibaaDoorChaPure
import Derived.Test.YtlkkocgjpljibaaDoorChaOver
import Derived.Test.YtlkkocgjpljibaaDoorRegion
/-! The reference's Part. -/
namespace Go.Proofs.YtlkkocgjpljibaaDoor
open Go.RowKit

def zeros64p : Array Value := (u8s (List.replicate 64 0)).toArray
theorem zero64p : ∀ W, (zeroValue 63).run Tryd.prog W = .ok (.agg zeros64p) W := fun W => by unfold zeros64p; kernel_rfl
theorem info64p : (Tryd.prog.info? 63).map (·.size) = some 64 := by kernel_rfl
theorem info12p : (Tryd.prog.info? 47).map (·.size) = some 12 := by kernel_rfl
theorem info32p : (Tryd.prog.info? 23).map (·.size) = some 32 := by kernel_rfl
def magicVals : List (Nat × Value) := [(0, .int .u32 1634760805), (1, .int .u32 857760878), (2, .int .u32 2036477234), (3, .int .u32 1797285236)]
theorem build_magic : (Tryd.prog.built 73 magicVals) = some (u32s magic).toArray := by unfold magicVals; kernel_rfl
theorem shl8' (x : BitVec 32) (j : Nat) : nv (x <<< (8 * j)) * 256 % 4294967296 = nv (x <<< (8 * (j + 1))) := by
  rw [show 8 * (j + 1) = 8 * j + 8 by omega, BitVec.shiftLeft_add]
  generalize x <<< (8 * j) = y
  unfold nv
  rw [BitVec.toNat_shiftLeft, Nat.shiftLeft_eq]
  have h : (2 : Nat) ^ 32 = 4294967296 := rfl
  rw [h]
  simp
theorem row8_cell {w : World} {p : Nat} {l : List UInt8} {t : TypeId} (h : w.heap[p]? = some (.cells (row8 l) t (0, 0))) (i : Nat) (hi : i < l.length) :
    w.cell? ⟨p, i, none⟩ = some (.int .u8 ((l[i]?.getD 0).toNat : Int)) := u8s_cell h i hi

theorem shr8' (x : BitVec 32) (j : Nat) : nv (x >>> (8 * j)) / 256 = nv (x >>> (8 * (j + 1))) := by
  rw [show 8 * (j + 1) = 8 * j + 8 by omega, BitVec.shiftRight_add]
  generalize x >>> (8 * j) = y
  have := W32.shr_ y 8
  rw [← this]
  rfl
theorem told_le (x : BitVec 32) (e : Nat) : nv (x >>> e) % 256 = (((UInt8.ofNat (x.toNat / 2 ^ e)).toNat : Nat) : Int) := by
  rw [← W32.shr_, told_byte]

/-- What holds while the reference's numbers are laid. -/
structure PSt (w0 : World) (k no : List UInt8) (F : List (BitVec 32)) (w : World) : Prop where
  below : Below w0.heap.size w0 w
  key : w.heap[w0.heap.size]? = some (.cells (row8 k) 23 (0, 0))
  non : w.heap[w0.heap.size + 1]? = some (.cells (row8 no) 47 (0, 0))
  res : w.heap[w0.heap.size + 2]? = some (.cells zeros64p 63 (0, 0))
  first : Row16 73 w (w0.heap.size + 3) F
theorem PSt.set {w0 w : World} {k no : List UInt8} {F : List (BitVec 32)} (h : PSt w0 k no F w) (i : Nat) (x : BitVec 32) : PSt w0 k no (F.set i x) (w.setCell ⟨w0.heap.size + 3, i, none⟩ (.int .u32 (nv x))) :=
  ⟨h.below.setCell (by dsimp only; omega) _, (Below.heap_setCell _ _ _ _ (by dsimp only; omega)).trans h.key, (Below.heap_setCell _ _ _ _ (by dsimp only; omega)).trans h.non, (Below.heap_setCell _ _ _ _ (by dsimp only; omega)).trans h.res, h.first.set i x⟩

theorem PSt.belo {w0 w w' : World} {k no : List UInt8} {F : List (BitVec 32)} (h : PSt w0 k no F w) (hb : Below w.heap.size w w') : PSt w0 k no F w' :=
  ⟨h.below.trans (hb.mono h.below.size), (hb.block _ (lt_of_cells h.key)).trans h.key, (hb.block _ (lt_of_cells h.non)).trans h.non, (hb.block _ (lt_of_cells h.res)).trans h.res, h.first.below hb⟩
theorem PSt.row {w0 w : World} {k no : List UInt8} {F : List (BitVec 32)} (h : PSt w0 k no F w) {p : Nat} (hp : w0.heap.size + 3 < p) (cs : Array Value) : PSt w0 k no F (w.setRow p cs) := by
  have e : ∀ b, b ≠ p → (w.setRow p cs).heap[b]? = w.heap[b]? := fun b hb => by
    simp only [World.setRow, Array.getElem?_modify]
    rw [if_neg (by omega)]
  exact ⟨below_setRow h.below (by omega) _, (e _ (by omega)).trans h.key, (e _ (by omega)).trans h.non, (e _ (by omega)).trans h.res, ⟨(e _ (by omega)).trans h.first.at_, h.first.len⟩⟩
/-- .. and while quarters go, at block p. -/
structure RS2 (w0 : World) (k no : List UInt8) (F : List (BitVec 32)) (p : Nat) (s : List (BitVec 32)) (w : World) : Prop where
  st : PSt w0 k no F w
  row : Row16 73 w p s
  far : w0.heap.size + 3 < p
theorem RS2.step {w0 w w' : World} {k no : List UInt8} {F : List (BitVec 32)} {p : Nat} {s s' : List (BitVec 32)} (h : RS2 w0 k no F p s w) (hb : Below w.heap.size w w') (hl : s'.length = 16) : RS2 w0 k no F p s' (w'.setRow p (u32s s').toArray) :=
  ⟨(h.st.belo hb).row h.far _, ⟨setRow_at (h.row.below hb).at_, hl⟩, h.far⟩
theorem RS2.belo {w0 w w' : World} {k no : List UInt8} {F : List (BitVec 32)} {p : Nat} {s : List (BitVec 32)} (h : RS2 w0 k no F p s w) (hb : Below w.heap.size w w') : RS2 w0 k no F p s w' := ⟨h.st.belo hb, h.row.below hb, h.far⟩

theorem RS2.other {w0 w : World} {k no : List UInt8} {F : List (BitVec 32)} {p : Nat} {s : List (BitVec 32)} (h : RS2 w0 k no F p s w) {r : Nat} (hr : p < r) (i : Nat) (u : Value) : RS2 w0 k no F p s (w.setCell ⟨r, i, none⟩ u) := by
  have hf := h.far
  have e : ∀ b, b ≠ r → (w.setCell ⟨r, i, none⟩ u).heap[b]? = w.heap[b]? := fun b hb => Below.heap_setCell _ _ _ _ hb
  exact ⟨⟨h.st.below.setCell (by dsimp only; omega) _, (e _ (by omega)).trans h.st.key, (e _ (by omega)).trans h.st.non, (e _ (by omega)).trans h.st.res, ⟨(e _ (by omega)).trans h.st.first.at_, h.st.first.len⟩⟩, ⟨(e _ (by omega)).trans h.row.at_, h.row.len⟩, hf⟩

theorem rlaid_at (s : List (BitVec 32)) (hs : s.length = 16) (a b c d : Int) (m : Nat) (ha : a = qi m) (hb : b = qj m) (hc : c = qk m) (hd : d = ql m) (w : World) :
    Calls Tryd.prog 42 #[.agg (u32s s).toArray, .int .i64 a, .int .i64 b, .int .i64 c, .int .i64 d] w fun e w' => e = .returned (.agg (u32s (quart s (qi m) (qj m) (qk m) (ql m))).toArray) ∧ Below w.heap.size w w' := by
  subst ha hb hc hd
  exact rlaid_any s hs _ _ _ _ (by unfold qi; omega) (by unfold qj; omega) (by unfold qk; omega) (by unfold ql; omega) w

set_option maxHeartbeats 8000000 in
set_option maxRecDepth 100000 in
theorem rpart_any (k no : List UInt8) (hk : k.length = 32) (hno : no.length = 12) (n : BitVec 32) (w : World) :
    Calls Tryd.prog 31 #[.agg (row8 k), .agg (row8 no), .int .u32 (nv n)] w fun e w' => e = .returned (.agg (row8 (partL k no n))) ∧ Below w.heap.size w w' := by
  have hz := zero16_ref
  have hz6 := zero64p
  obtain ⟨KS, hKS⟩ : ∃ KS, KS = row8 k := ⟨_, rfl⟩
  obtain ⟨NS, hNS⟩ : ∃ NS, NS = row8 no := ⟨_, rfl⟩
  rw [← hKS, ← hNS]
  obtain ⟨MS, hMS⟩ : ∃ MS, MS = (u32s magic).toArray := ⟨_, rfl⟩
  have hbm := build_magic
  rw [← hMS] at hbm
  have HBM : Hid ((Tryd.prog.built 73 magicVals) = some MS ∧ MS.size = 16 ∧ MS.all (·.oneCell') = true) := Lib.hid ⟨hbm, by rw [hMS]; rfl, by rw [hMS]; exact all_oneCell_toArray (u32s_one _)⟩
  obtain ⟨W0, hW0⟩ : ∃ W0, ((((w.alloc (.cells KS 23)).alloc (.cells NS 47)).alloc (.cells zeros64p 63)).alloc (.cells zeros16v 73)) = W0 := ⟨_, rfl⟩
  have hg0 := heap_alloc_new w (.cells KS 23)
  have hg1 := heap_alloc_new (w.alloc (.cells KS 23)) (.cells NS 47)
  have hg2 := heap_alloc_new ((w.alloc (.cells KS 23)).alloc (.cells NS 47)) (.cells zeros64p 63)
  have hg3 := heap_alloc_new (((w.alloc (.cells KS 23)).alloc (.cells NS 47)).alloc (.cells zeros64p 63)) (.cells zeros16v 73)
  have hb0 : Below w.heap.size w W0 := by rw [← hW0]; exact ((((Below.refl _ _).alloc (Nat.le_refl _) _).alloc (by simp) _).alloc (by simp; omega) _).alloc (by simp; omega) _
  simp only [World.size_alloc] at hg1 hg2 hg3
  have HG : Hid (W0.heap[w.heap.size]? = some (.cells KS 23 (0, 0)) ∧ W0.heap[w.heap.size + 1]? = some (.cells NS 47 (0, 0)) ∧ W0.heap[w.heap.size + 2]? = some (.cells zeros64p 63 (0, 0)) ∧ W0.heap[w.heap.size + 3]? = some (.cells zeros16v 73 (0, 0))) := Lib.hid (by
    rw [← hW0]
    refine ⟨?_, ?_, ?_, hg3⟩
    · exact (Below.heap_alloc _ _ _ (by simp <;> omega)).trans ((Below.heap_alloc _ _ _ (by simp <;> omega)).trans ((Below.heap_alloc _ _ _ (by simp)).trans hg0))
    · exact (Below.heap_alloc _ _ _ (by simp <;> omega)).trans ((Below.heap_alloc _ _ _ (by simp <;> omega)).trans hg1)
    · exact (Below.heap_alloc _ _ _ (by simp <;> omega)).trans hg2)
  have HB0 := Lib.hid hb0
  have HW0 := Lib.hid hW0
  have HMS := Lib.hid hMS
  have HK := Lib.hid (And.intro hKS hk)
  have HN := Lib.hid (And.intro hNS hno)
  clear hg0 hg1 hg2 hg3 hb0 hbm hMS hKS hNS hk hno
  go_enter Tryd.func31, Tryd.ntmps31
  go_upto_region 2 with (first | (refine wpList_built (by rfl) 73 _ (by rfl) magicVals (by unfold magicVals; simp [Act.eval]) MS HBM.out.1 ?_) | (refine wpList_store_row (by rfl) 73 (.tmp 7) (.tmp 22) (by rfl) (w.heap.size + 3) MS (by rfl) (by rfl) 73 _ HG.out.2.2.2 (by rw [HBM.out.2.1]; exact info16_ref) (by rw [HBM.out.2.1]; rfl) HBM.out.2.2 ?_))
  have HS0 : Hid (PSt w k no magic (W0.setRow (w.heap.size + 3) MS)) := Lib.hid (by
    have h3 := setRow_at (new := MS) HG.out.2.2.2
    have e : ∀ b, b ≠ w.heap.size + 3 → (W0.setRow (w.heap.size + 3) MS).heap[b]? = W0.heap[b]? := fun b hb => by
      simp only [World.setRow, Array.getElem?_modify]
      rw [if_neg (by omega)]
    refine ⟨below_setRow HB0.out (by omega) _, ?_, ?_, ?_, by rw [← HMS.out]; exact h3, rfl⟩
    · rw [e _ (by omega), ← HK.out.1]; exact HG.out.1
    · rw [e _ (by omega), ← HN.out.1]; exact HG.out.2.1
    · rw [e _ (by omega)]; exact HG.out.2.2.1)
  clear hW0 HW0 HG HB0 HBM HMS
  generalize W0.setRow (w.heap.size + 3) MS = W1 at *
  clear W0
  go_wp2_with fail
  go_loopw [8] (fun i wr => ∃ m : Nat, m ≤ 32 ∧ i = .int .i64 m ∧ PSt w k no (layN k 4 magic m) wr) (fun i _ => 32 - (intOf i).toNat)
  case atStart => exact ⟨0, Nat.zero_le _, rfl, HS0.out⟩
  case round =>
    obtain ⟨m, hm, rfl, hst⟩ := hrel
    have HT := Lib.hid hst
    clear hst HS0
    by_cases hlt : m < 32
    · obtain ⟨c, hc⟩ : ∃ c, k[m]?.getD 0 = c := ⟨_, rfl⟩
      have hcell := row8_cell HT.out.key m (by rw [HK.out.2]; exact hlt)
      rw [hc, W32.of_byte] at hcell
      have HE := Lib.hid (show layN k 4 magic (m + 1) = (layN k 4 magic m).set (4 + m / 4) ((layN k 4 magic m)[4 + m / 4]?.getD 0 + (BitVec.ofNat 32 (k[m]?.getD 0).toNat) <<< (8 * (m % 4))) from rfl)
      rw [hc] at HE
      clear hc
      generalize BitVec.ofNat 32 c.toNat = y at *
      have n4 := W32.mod_ y
      have h4 : m % 4 < 4 := by omega
      go_wp2_with fail
      go_loop [9, 10] (fun x i => ∃ j : Nat, j ≤ m % 4 ∧ i = .int .i64 j ∧ x = .int .u32 (nv (y <<< (8 * j)))) (fun _ i => m % 4 - (intOf i).toNat)
      case atStart => exact ⟨0, Nat.zero_le _, rfl, by simp⟩
      case round =>
        obtain ⟨j, hj, rfl, rfl⟩ := hrel
        by_cases hjl : j < m % 4
        · have hs8 := shl8' y j
          go_wp2_with fail
          go_round
          case rel => exact ⟨j + 1, by omega, by go_num, by rw [hs8]⟩
          case measure => simp [intOf]; omega
        · obtain rfl : j = m % 4 := by omega
          have hc7 := HT.out.first.cell (4 + m / 4) (by omega)
          have hf7 := HT.out.first.free (4 + m / 4)
          generalize (layN k 4 magic m)[4 + m / 4]?.getD 0 = z at *
          generalize y <<< (8 * (m % 4)) = v at *
          have hadd := W32.add_ z v
          go_wp2_with fail
          refine ⟨⟨m + 1, by omega, by go_num, ?_⟩, by simp [intOf]; omega⟩
          rw [HE.out]
          exact HT.out.set _ _
    · obtain rfl : m = 32 := by omega
      have HT1 : Hid (PSt w k no (start0 k) wr) := Lib.hid HT.out
      clear HT hlt hm
      have hf := HT1.out.first.free 12
      have hc := HT1.out.first.cell 12 (by omega)
      go_upto_region 12 with fail
      clear hf hc
      have HS0 : Hid (PSt w k no (start1 k n) (wr.setCell ⟨w.heap.size + 3, 12, none⟩ (.int .u32 (nv n)))) := Lib.hid (HT1.out.set 12 n)
      clear HT1
      generalize wr.setCell ⟨w.heap.size + 1 + 1 + 1, 12, none⟩ (.int .u32 (nv n)) = W2 at *
      go_wp2_with fail
      go_loopw [11] (fun i wr => ∃ m : Nat, m ≤ 12 ∧ i = .int .i64 m ∧ PSt w k no (layN no 13 (start1 k n) m) wr) (fun i _ => 12 - (intOf i).toNat)
      case atStart => exact ⟨0, Nat.zero_le _, rfl, HS0.out⟩
      case round =>
        obtain ⟨m, hm, rfl, hst⟩ := hrel
        have HT := Lib.hid hst
        clear hst HS0
        by_cases hlt : m < 12
        · obtain ⟨c, hc⟩ : ∃ c, no[m]?.getD 0 = c := ⟨_, rfl⟩
          have hcell := row8_cell HT.out.non m (by rw [HN.out.2]; exact hlt)
          rw [hc, W32.of_byte] at hcell
          have HE := Lib.hid (show layN no 13 (start1 k n) (m + 1) = (layN no 13 (start1 k n) m).set (13 + m / 4) ((layN no 13 (start1 k n) m)[13 + m / 4]?.getD 0 + (BitVec.ofNat 32 (no[m]?.getD 0).toNat) <<< (8 * (m % 4))) from rfl)
          rw [hc] at HE
          clear hc
          generalize BitVec.ofNat 32 c.toNat = y at *
          have n4 := W32.mod_ y
          have h4 : m % 4 < 4 := by omega
          go_wp2_with fail
          go_loop [12, 13] (fun x i => ∃ j : Nat, j ≤ m % 4 ∧ i = .int .i64 j ∧ x = .int .u32 (nv (y <<< (8 * j)))) (fun _ i => m % 4 - (intOf i).toNat)
          case atStart => exact ⟨0, Nat.zero_le _, rfl, by simp⟩
          case round =>
            obtain ⟨j, hj, rfl, rfl⟩ := hrel
            by_cases hjl : j < m % 4
            · have hs8 := shl8' y j
              go_wp2_with fail
              go_round
              case rel => exact ⟨j + 1, by omega, by go_num, by rw [hs8]⟩
              case measure => simp [intOf]; omega
            · obtain rfl : j = m % 4 := by omega
              have hc7 := HT.out.first.cell (13 + m / 4) (by omega)
              have hf7 := HT.out.first.free (13 + m / 4)
              generalize (layN no 13 (start1 k n) m)[13 + m / 4]?.getD 0 = z at *
              generalize y <<< (8 * (m % 4)) = v at *
              have hadd := W32.add_ z v
              go_wp2_with fail
              refine ⟨⟨m + 1, by omega, by go_num, ?_⟩, by simp [intOf]; omega⟩
              rw [HE.out]
              exact HT.out.set _ _
        · obtain rfl : m = 12 := by omega
          have hfl := startL_length k no n
          have HP0 : Hid (Unit → partL k no n = leA (addN (dn (startL k no n) 10) (startL k no n) 16) 64) := Lib.hid fun _ => rfl
          have HT : Hid (PSt w k no (startL k no n) wr) := Lib.hid HT.out
          generalize startL k no n = F at *
          obtain ⟨FS, hFS⟩ : ∃ FS, FS = (u32s F).toArray := ⟨_, rfl⟩
          have HF : Hid (wr.heap[w.heap.size + 3]? = some (.cells FS 73 (0, 0)) ∧ FS.size = 16 ∧ FS.all (·.oneCell') = true) := Lib.hid (by
            rw [hFS]
            exact ⟨HT.out.first.at_, by simp [u32s_length, hfl], all_oneCell_toArray (u32s_one _)⟩)
          have HFL := Lib.hid hfl
          have HFS := Lib.hid hFS
          have HG := Lib.hid (heap_alloc_new wr (.cells zeros16v 73))
          clear hfl hFS hlt hm
          go_upto_region 22 with (first | (refine wpList_load_row (by rfl) 73 (.tmp 7) (by rfl) (w.heap.size + 3) (by rfl) 73 FS (0, 0) _ HF.out.1 Tryd.underlying73 (by rfl) (by rw [HF.out.2.1]; exact info16_ref) ?_) | (refine wpList_store_row (by rfl) 73 (.tmp 14) (.tmp 73) (by rfl) wr.heap.size FS (by rfl) (by rfl) 73 _ HG.out (by rw [HF.out.2.1]; exact info16_ref) (by rw [HF.out.2.1]; rfl) HF.out.2.2 ?_))
          have HS2 : Hid (RS2 w k no F wr.heap.size F ((wr.alloc (.cells zeros16v 73)).setRow wr.heap.size FS)) := Lib.hid (by
            have hb := (Below.refl wr.heap.size wr).alloc (Nat.le_refl _) (.cells zeros16v 73)
            have h1 := HT.out.belo hb
            refine ⟨h1.row (lt_of_cells HF.out.1) _, ⟨?_, HFL.out⟩, lt_of_cells HF.out.1⟩
            rw [← HFS.out]
            exact setRow_at HG.out)
          clear HG HF HT HFS
          generalize (wr.alloc (.cells zeros16v 73)).setRow wr.heap.size FS = W3 at *
          generalize wr.heap.size = p at *
          go_wp2_with fail
          go_loopw [15] (fun x wx => ∃ d : Nat, d ≤ 10 ∧ x = .int .i64 d ∧ RS2 w k no F p (dn F d) wx) (fun x _ => 10 - (intOf x).toNat)
          case atStart => exact ⟨0, Nat.zero_le _, rfl, HS2.out⟩
          case round =>
            obtain ⟨d, hd, rfl, hst⟩ := hrel
            have HD := Lib.hid hst
            clear hst HS2
            by_cases hdl : d < 10
            · have hdt : decide ((d : Int) < 10) = true := by simp; omega
              go_wp2_with fail
              try rw [hdt]
              clear hdt
              go_loopw [16] (fun x wx => ∃ i : Nat, i ≤ 4 ∧ x = .int .i64 i ∧ RS2 w k no F p (qn (dn F d) i) wx) (fun x _ => 4 - (intOf x).toNat)
              case atStart => exact ⟨0, Nat.zero_le _, rfl, HD.out⟩
              case round =>
                obtain ⟨i, hi, rfl, hst⟩ := hrel
                have HI := Lib.hid hst
                clear hst
                by_cases hil : i < 4
                · have HE := Lib.hid (show qn (dn F d) (i + 1) = quart (qn (dn F d) i) (qi i) (qj i) (qk i) (ql i) from rfl)
                  have hql := quart_length (qn (dn F d) i) (qi i) (qj i) (qk i) (ql i)
                  have hcall := rlaid_at (qn (dn F d) i) HI.out.row.len (i : Int) (4 + (i : Int)) (8 + (i : Int)) (12 + (i : Int)) i (by unfold qi; omega) (by unfold qj; omega) (by unfold qk; omega) (by unfold ql; omega)
                  rw [HI.out.row.len] at hql
                  generalize quart (qn (dn F d) i) (qi i) (qj i) (qk i) (ql i) = s2 at *
                  generalize qn (dn F d) i = s1 at *
                  obtain ⟨S1, hS1⟩ : ∃ S1, S1 = (u32s s1).toArray := ⟨_, rfl⟩
                  obtain ⟨S2, hS2⟩ : ∃ S2, S2 = (u32s s2).toArray := ⟨_, rfl⟩
                  rw [← hS1, ← hS2] at hcall
                  have HR : Hid (wr.heap[p]? = some (.cells S1 73 (0, 0)) ∧ S1.size = 16) := Lib.hid (by
                    rw [hS1]
                    exact ⟨HI.out.row.at_, by simp [u32s_length, HI.out.row.len]⟩)
                  have HR2 : Hid (S2.size = 16 ∧ S2.all (·.oneCell') = true ∧ s2.length = 16 ∧ S2 = (u32s s2).toArray) := Lib.hid (by
                    rw [hS2]
                    exact ⟨by simp [u32s_length, hql], all_oneCell_toArray (u32s_one _), hql, rfl⟩)
                  have HC := Lib.hid hcall
                  clear hcall hS1 hS2 hql
                  go_wp2_with (refine wpList_load_row (by rfl) 73 (.tmp 14) (by rfl) p (by rfl) 73 S1 (0, 0) _ HR.out.1 Tryd.underlying73 (by rfl) (by rw [HR.out.2]; exact info16_ref) ?_)
                  refine (HC.out _).mono ?_
                  rintro _ w5 ⟨rfl, hb5⟩
                  have HR5 : Hid (w5.heap[p]? = some (.cells S1 73 (0, 0)) ∧ RS2 w k no F p s2 (w5.setRow p S2)) := Lib.hid ⟨(hb5.block _ (lt_of_cells HR.out.1)).trans HR.out.1, by rw [HR2.out.2.2.2]; exact HI.out.step hb5 HR2.out.2.2.1⟩
                  clear hb5 HC
                  go_wp2_with (refine wpList_store_row (by rfl) 73 (.tmp 14) (.tmp 90) (by rfl) p S2 (by rfl) (by rfl) 73 _ HR5.out.1 (by rw [HR2.out.1]; exact info16_ref) (by rw [HR2.out.1, HR.out.2]) HR2.out.2.1 ?_)
                  go_roundw
                  case rel => exact ⟨i + 1, by omega, by go_num, by rw [HE.out]; exact HR5.out.2⟩
                  case measure => simp [intOf]; omega
                · obtain rfl : i = 4 := by omega
                  have HI4 : Hid (RS2 w k no F p (qn (dn F d) (4 + 0)) wr) := Lib.hid HI.out
                  clear HI HD hil hi
                  go_wp2_with fail
                  try simp only [show ((4 : Nat) : Int) = 4 from rfl]
                  go_loopw [17] (fun x wx => ∃ i : Nat, i ≤ 4 ∧ x = .int .i64 i ∧ RS2 w k no F p (qn (dn F d) (4 + i)) wx) (fun x _ => 4 - (intOf x).toNat)
                  case atStart => exact ⟨0, Nat.zero_le _, rfl, HI4.out⟩
                  case round =>
                    obtain ⟨i, hi, rfl, hst⟩ := hrel
                    have HI := Lib.hid hst
                    clear hst
                    by_cases hil : i < 4
                    · have HE := Lib.hid (show qn (dn F d) ((4 + i) + 1) = quart (qn (dn F d) (4 + i)) (qi (4 + i)) (qj (4 + i)) (qk (4 + i)) (ql (4 + i)) from rfl)
                      have hql := quart_length (qn (dn F d) (4 + i)) (qi (4 + i)) (qj (4 + i)) (qk (4 + i)) (ql (4 + i))
                      have hcall := rlaid_at (qn (dn F d) (4 + i)) HI.out.row.len (i : Int) (4 + (((i : Int) + 1) % 4)) (8 + (((i : Int) + 2) % 4)) (12 + (((i : Int) + 3) % 4)) (4 + i) (by unfold qi; omega) (by unfold qj; omega) (by unfold qk; omega) (by unfold ql; omega)
                      rw [HI.out.row.len] at hql
                      generalize quart (qn (dn F d) (4 + i)) (qi (4 + i)) (qj (4 + i)) (qk (4 + i)) (ql (4 + i)) = s2 at *
                      generalize qn (dn F d) (4 + i) = s1 at *
                      obtain ⟨S1, hS1⟩ : ∃ S1, S1 = (u32s s1).toArray := ⟨_, rfl⟩
                      obtain ⟨S2, hS2⟩ : ∃ S2, S2 = (u32s s2).toArray := ⟨_, rfl⟩
                      rw [← hS1, ← hS2] at hcall
                      have HR : Hid (wr.heap[p]? = some (.cells S1 73 (0, 0)) ∧ S1.size = 16) := Lib.hid (by
                        rw [hS1]
                        exact ⟨HI.out.row.at_, by simp [u32s_length, HI.out.row.len]⟩)
                      have HR2 : Hid (S2.size = 16 ∧ S2.all (·.oneCell') = true ∧ s2.length = 16 ∧ S2 = (u32s s2).toArray) := Lib.hid (by
                        rw [hS2]
                        exact ⟨by simp [u32s_length, hql], all_oneCell_toArray (u32s_one _), hql, rfl⟩)
                      have HC := Lib.hid hcall
                      clear hcall hS1 hS2 hql
                      go_wp2_with (refine wpList_load_row (by rfl) 73 (.tmp 14) (by rfl) p (by rfl) 73 S1 (0, 0) _ HR.out.1 Tryd.underlying73 (by rfl) (by rw [HR.out.2]; exact info16_ref) ?_)
                      refine (HC.out _).mono ?_
                      rintro _ w5 ⟨rfl, hb5⟩
                      have HR5 : Hid (w5.heap[p]? = some (.cells S1 73 (0, 0)) ∧ RS2 w k no F p s2 (w5.setRow p S2)) := Lib.hid ⟨(hb5.block _ (lt_of_cells HR.out.1)).trans HR.out.1, by rw [HR2.out.2.2.2]; exact HI.out.step hb5 HR2.out.2.2.1⟩
                      clear hb5 HC
                      go_wp2_with (refine wpList_store_row (by rfl) 73 (.tmp 14) (.tmp 109) (by rfl) p S2 (by rfl) (by rfl) 73 _ HR5.out.1 (by rw [HR2.out.1]; exact info16_ref) (by rw [HR2.out.1, HR.out.2]) HR2.out.2.1 ?_)
                      go_roundw
                      case rel => exact ⟨i + 1, by omega, by go_num, by rw [show 4 + (i + 1) = 4 + i + 1 by omega, HE.out]; exact HR5.out.2⟩
                      case measure => simp [intOf]; omega
                    · obtain rfl : i = 4 := by omega
                      have HI8 : Hid (RS2 w k no F p (dn F (d + 1)) wr) := Lib.hid HI.out
                      clear HI HI4 hil hi
                      go_wp2_with fail
                      exact ⟨⟨d + 1, by omega, by go_num, HI8.out⟩, by simp [intOf]; omega⟩
            · obtain rfl : d = 10 := by omega
              have hdl2 := dn_length F 10
              have hfa : ∀ i, i < 16 → (addN (dn F 10) F 16)[i]?.getD 0 = (dn F 10)[i]?.getD 0 + F[i]?.getD 0 := fun i hi => by
                rw [addN_at _ _ _ (by rw [dn_length, HFL.out]; exact hi), if_pos hi]
              have HD : Hid (RS2 w k no F p (dn F 10) wr) := Lib.hid HD.out
              generalize addN (dn F 10) F 16 = A at *
              generalize dn F 10 = D at *
              have HA := Lib.hid hfa
              clear hfa hdl2 hdl hd
              go_upto_region 34 with fail
              have HG0 : Hid ((wr.alloc (.cells zeros64p 63)).heap[wr.heap.size]? = some (.cells (row8 (leA A 0)) 63 (0, 0))) := Lib.hid (heap_alloc_new wr (.cells zeros64p 63))
              have HS3 : Hid (RS2 w k no F p D (wr.alloc (.cells zeros64p 63)) ∧ p < wr.heap.size) := Lib.hid ⟨HD.out.belo ((Below.refl _ _).alloc (Nat.le_refl _) _), HD.out.row.lt⟩
              generalize wr.alloc (.cells zeros64p 63) = W4 at *
              generalize wr.heap.size = r at *
              clear HD
              go_wp2_with fail
              go_loopw [19] (fun x wx => ∃ m : Nat, m ≤ 64 ∧ x = .int .i64 m ∧ RS2 w k no F p D wx ∧ wx.heap[r]? = some (.cells (row8 (leA A m)) 63 (0, 0))) (fun x _ => 64 - (intOf x).toNat)
              case atStart => exact ⟨0, Nat.zero_le _, rfl, HS3.out.1, HG0.out⟩
              case round =>
                obtain ⟨m, hm, rfl, hst, hrow⟩ := hrel
                have HX := Lib.hid (And.intro hst hrow)
                clear hst hrow HG0
                by_cases hml : m < 64
                · have hmt : decide ((m : Int) < 64) = true := by simp; omega
                  have hA := HA.out (m / 4) (by omega)
                  have HL := Lib.hid (show leA A (m + 1) = (leA A m).set m (UInt8.ofNat ((A[m / 4]?.getD 0).toNat / 2 ^ (8 * (m % 4)))) from rfl)
                  have d1 : ∀ j, (wr.drewN j).cell? ⟨p, m / 4, none⟩ = _ := fun j => HX.out.1.row.cell (m / 4) (by omega)
                  have d2 : ∀ j, (wr.drewN j).cell? ⟨w.heap.size + 1 + 1 + 1, m / 4, none⟩ = _ := fun j => HX.out.1.st.first.cell (m / 4) (by omega)
                  rw [hA] at HL
                  clear hA
                  generalize D[m / 4]?.getD 0 = x1 at *
                  generalize F[m / 4]?.getD 0 = x2 at *
                  have hadd := W32.add_ x1 x2
                  have haddw := W32.addw x1 x2
                  go_wp2_with fail
                  have hq : (m : Int).tdiv 4 = ((m / 4 : Nat) : Int) := by rw [Int.tdiv_eq_ediv_of_nonneg (by omega)]; omega
                  have hq16 : m / 4 < 16 := by omega
                  have i16 : ((m / 4 : Nat) : Int) < 16 := by omega
                  generalize m / 4 = m4 at *
                  generalize x1 + x2 = v at *
                  go_quiet (fail)
                  clear d1 d2 hq hq16 i16 hadd haddw
                  have HX2 : Hid (RS2 w k no F p D (wr.drewN nq) ∧ (wr.drewN nq).heap[r]? = some (.cells (row8 (leA A m)) 63 (0, 0))) := Lib.hid ⟨⟨⟨below_drewN HX.out.1.st.below nq, HX.out.1.st.key, HX.out.1.st.non, HX.out.1.st.res, HX.out.1.st.first.drewN nq⟩, HX.out.1.row.drewN nq, HX.out.1.far⟩, HX.out.2⟩
                  clear HX
                  generalize wr.drewN nq = wy at *
                  have h4 : m % 4 < 4 := by omega
                  go_wp2_with fail
                  try rw [hmt]
                  clear hmt
                  go_loop [20, 21] (fun x i => ∃ j : Nat, j ≤ m % 4 ∧ i = .int .i64 j ∧ x = .int .u32 (nv (v >>> (8 * j)))) (fun _ i => m % 4 - (intOf i).toNat)
                  case atStart => exact ⟨0, Nat.zero_le _, rfl, by simp⟩
                  case round =>
                    obtain ⟨j, hj, rfl, rfl⟩ := hrel
                    by_cases hjl : j < m % 4
                    · have HS8 := Lib.hid (shr8' v j)
                      have n0 := W32.nn (v >>> (8 * j))
                      have n1 : nv (v >>> (8 * j)) / 256 % 4294967296 = nv (v >>> (8 * j)) / 256 := by
                        have := W32.lt (v >>> (8 * j))
                        omega
                      generalize v >>> (8 * j) = vj at *
                      go_wp2_with fail
                      go_round
                      case rel => exact ⟨j + 1, by omega, by go_num, by rw [← HS8.out, Int.tdiv_eq_ediv_of_nonneg n0, n1]⟩
                      case measure => simp [intOf]; omega
                    · obtain rfl : j = m % 4 := by omega
                      have hc := u8s_cell HX2.out.2 m (by rw [leA_length]; exact hml)
                      have hf := free_of_cells HX2.out.2 m
                      have HTL := Lib.hid (told_le v (8 * (m % 4)))
                      generalize v >>> (8 * (m % 4)) = v2 at *
                      go_wp2_with fail
                      refine ⟨⟨m + 1, by omega, by go_num, HX2.out.1.other HS3.out.2 _ _, ?_⟩, by simp [intOf]; omega⟩
                      rw [HTL.out, HL.out]
                      exact u8s_cells_set HX2.out.2 m _
                · obtain rfl : m = 64 := by omega
                  obtain ⟨PS, hPS⟩ : ∃ PS, PS = row8 (leA A 64) := ⟨_, rfl⟩
                  have HX3 : Hid (RS2 w k no F p D wr ∧ wr.heap[r]? = some (.cells PS 63 (0, 0))) := Lib.hid (by rw [hPS]; exact HX.out)
                  have HPS : Hid (Unit → PS = row8 (leA A 64) ∧ PS.size = 64 ∧ PS.all (·.oneCell') = true) := Lib.hid fun _ => ⟨hPS, by rw [hPS, row8_size, leA_length], by rw [hPS]; exact row8_one _⟩
                  clear HX hPS hml hm
                  go_wp2_with (first | (refine wpList_load_row (by rfl) 63 (.tmp 18) (by rfl) r (by rfl) 63 PS (0, 0) _ HX3.out.2 Tryd.underlying63 (by rfl) (by rw [(HPS.out ()).2.1]; exact info64p) ?_) | (refine wpList_store_row (by rfl) 63 (.tmp 6) (.tmp 135) (by rfl) (w.heap.size + 2) PS (by rfl) (by rfl) 63 _ HX3.out.1.st.res (by rw [(HPS.out ()).2.1]; exact info64p) (by rw [(HPS.out ()).2.1]; rfl) (HPS.out ()).2.2 ?_))
                  exact bodyPost_ret (results_cell_row rfl _ _ (w.heap.size + 2) 63 PS (0, 0) _ rfl (setRow_at HX3.out.1.st.res) Tryd.underlying63 rfl (by rw [(HPS.out ()).2.1]; exact info64p)) rfl ⟨by rw [(HPS.out ()).1, HP0.out ()], below_setRow HX3.out.1.st.below (by omega) _⟩
end Go.Proofs.YtlkkocgjpljibaaDoor

/-! The reference's Over. -/
namespace Go.Proofs.YtlkkocgjpljibaaDoor
open Go.RowKit

theorem st_at {P : Program} (t : TypeId) (h : P.underlying t = some .string) (l : List UInt8) (i : Nat) (hi : i < l.length) (W : World) :
    (Instr.index t (.string (st l)) (.int .i64 (i : Int))).run P W = .ok (.int .u8 ((l[i]?.getD 0).toNat : Int)) W := by
  rw [run_index_string W t (st l) .i64 (i : Int) h, dif_pos ⟨by omega, by rw [st_size]; omega⟩]
  congr 4
  rw [List.getElem?_eq_getElem hi, Option.getD_some]
  rfl

/-- An append as the effect of a plan. -/
theorem eff_append {P : Program} {ops : Array Oper} {Q : Exit → Act → World → Prop} {i : Nat} {o : Oper} {K : Act → World → Prop} {a : Act} {w : World} (ho : ops.toList[i]? = some o) (hgd : o.guard = none) (s x : Operand) (t : TypeId)
    (hop : o.op = .call { callee := .builtin .append, args := #[s, x], argTypes := #[t, t] }) {v v' : Value} {w' : World} {ad : Addr} {m c : Nat} (hs : a.eval s = v) (hx : a.eval x = .slice (some ad) m c)
    (hrun : (Builtin.append_ #[t, t] o.type #[v, .slice (some ad) m c]).run P w = .ok v' w') (h : K (a.put o.dst v') w') : wpOp P ops Q i K a w :=
  eff_step ho fun K' hK' => by
    rw [if_pos (by unfold Region.wanted; rw [hgd])]
    unfold Oper.wp execOp
    simp only [hop, resolve, invoke, builtin, Sem.run_bind, Sem.run_pure, Result.andThen_ok, List.map_toArray, List.map_cons, List.map_nil, hs, hx, hrun]
    exact hK' _ _ h

/-- What holds while the reference lays a stream over bytes: the part at hand is P. -/
structure SROv (w0 : World) (KS NS : Array Value) (P : Array Value) (W : World) : Prop where
  below : Below w0.heap.size w0 W
  key : W.heap[w0.heap.size]? = some (.cells KS 23 (0, 0))
  non : W.heap[w0.heap.size + 1]? = some (.cells NS 47 (0, 0))
  part : W.heap[w0.heap.size + 2]? = some (.cells P 63 (0, 0))
  size : P.size = 64
theorem SROv.belo {w0 W W' : World} {KS NS P : Array Value} (h : SROv w0 KS NS P W) (hb : Below W.heap.size W W') : SROv w0 KS NS P W' :=
  ⟨h.below.trans (hb.mono h.below.size), (hb.block _ (lt_of_cells h.key)).trans h.key, (hb.block _ (lt_of_cells h.non)).trans h.non, (hb.block _ (lt_of_cells h.part)).trans h.part, h.size⟩
theorem SROv.rowed {w0 W W' : World} {KS NS P : Array Value} (h : SROv w0 KS NS P W) {row : Option Nat} (hg : W.grownBy W' row) (hr : ∀ r, row = some r → w0.heap.size ≤ r ∧ ∃ cs f, W.heap[r]? = some (.cells cs 5 f)) : SROv w0 KS NS P W' := by
  have hr2 : ∀ r, row = some r → ∃ cs f, W.heap[r]? = some (.cells cs 5 f) := fun r e => (hr r e).2
  exact ⟨h.below.grown hg h.below.size (fun k e => (hr k e).1), cells_other hg (by decide) hr2 h.key, cells_other hg (by decide) hr2 h.non, cells_other hg (by decide) hr2 h.part, h.size⟩
theorem SROv.setPart {w0 W : World} {KS NS P PS : Array Value} (h : SROv w0 KS NS P W) (hs : PS.size = 64) : SROv w0 KS NS PS (W.setRow (w0.heap.size + 2) PS) := by
  have e : ∀ (x : Nat), x ≠ w0.heap.size + 2 → (W.setRow (w0.heap.size + 2) PS).heap[x]? = W.heap[x]? := fun x hx => by
    simp only [World.setRow, Array.getElem?_modify]
    rw [if_neg (fun h => hx h.symm)]
  exact ⟨below_setRow h.below (by omega) _, (e _ (by omega)).trans h.key, (e _ (by omega)).trans h.non, setRow_at h.part, hs⟩
theorem SROv.drew {w0 W : World} {KS NS P : Array Value} (h : SROv w0 KS NS P W) : SROv w0 KS NS P W.drew := ⟨below_drew h.below, h.key, h.non, h.part, h.size⟩
theorem own_belo {W W' : World} {base : Nat} {e : TypeId} {size k : Nat} {v : Value} {xs : List Value} (h : W.ownsRow base e size v k xs) (hb : Below W.heap.size W W') : W'.ownsRow base e size v k xs := by
  refine h.kept (w' := W') (row := none) ⟨hb.os, hb.tape, hb.output, hb.size, fun k hk _ => hb.block k hk⟩ ?_
  rcases h.2 with ⟨rfl, _⟩ | ⟨g, cap, cur, rfl, _⟩
  · exact .inl rfl
  · exact .inr (by simp [Value.ownBlock])
/-- A store of a whole row at block p leaves rows of bytes of the call's own. -/
theorem own_setRow {W : World} {base : Nat} {k p : Nat} {v : Value} {xs : List Value} {cs : Array Value} {t : TypeId} (h : W.ownsRow base 5 1 v k xs) (hp : W.heap[p]? = some (.cells cs t (0, 0))) (ht : t ≠ 5) (new : Array Value) : (W.setRow p new).ownsRow base 5 1 v k xs := by
  refine h.kept (w' := W.setRow p new) (row := some p) ⟨rfl, rfl, rfl, by simp [World.setRow], fun k _ hne => ?_⟩ ?_
  · simp only [World.setRow, Array.getElem?_modify]
    rw [if_neg (fun e => hne (by rw [e]))]
  · rcases h.2 with ⟨rfl, _⟩ | ⟨g, cap, cur, rfl, _, hgb, _⟩
    · exact .inl rfl
    · refine .inr fun e => ?_
      simp only [Value.ownBlock] at e
      injection e with e
      subst e
      rw [hgb] at hp
      injection hp with hp
      injection hp with _ h3 _
      exact ht h3.symm
/-- The slot's value, the round, the world. -/
def ROr (w0 : World) (k no b : List UInt8) (KS NS : Array Value) (v i : Value) (W : World) : Prop :=
  ∃ j : Nat, ∃ P : Array Value, j ≤ b.length ∧ i = .int .i64 j ∧ W.ownsRow w0.heap.size 5 1 v j (u8s (overN k no b j)) ∧ SROv w0 KS NS P W ∧ (j % 64 ≠ 0 → P = row8 (partL k no (BitVec.ofNat 32 (j / 64))))

set_option maxHeartbeats 8000000 in
set_option maxRecDepth 100000 in
theorem srover_any (k no b : List UInt8) (hk : k.length = 32) (hno : no.length = 12) (hn : b.length ≤ 100000000000000) (w : World) :
    Calls Tryd.prog 20 #[.agg (row8 k), .agg (row8 no), .string (st b)] w fun e w' => e = .returned (.string (st (overL k no b))) ∧ Below w.heap.size w w' := by
  have hz6 := zero64p
  obtain ⟨i0, hi, hz0, hz1, hz2⟩ := info_parts u8_info
  have HI := Lib.hid (And.intro hi (And.intro hz0 (And.intro hz1 hz2)))
  obtain ⟨KS, hKS⟩ : ∃ KS, KS = row8 k := ⟨_, rfl⟩
  obtain ⟨NS, hNS⟩ : ∃ NS, NS = row8 no := ⟨_, rfl⟩
  rw [← hKS, ← hNS]
  have hks : KS.size = 32 := by rw [hKS, row8_size, hk]
  have hns : NS.size = 12 := by rw [hNS, row8_size, hno]
  have HRP : Hid (∀ (x : BitVec 32) W, Calls Tryd.prog 31 #[.agg KS, .agg NS, .int .u32 (nv x)] W fun e w' => e = .returned (.agg (row8 (partL k no x))) ∧ Below W.heap.size W w') := Lib.hid fun x W => by
    rw [hKS, hNS]
    exact rpart_any k no hk hno x W
  obtain ⟨W0, hW0⟩ : ∃ W0, (((w.alloc (.cells KS 23)).alloc (.cells NS 47)).alloc (.cells zeros64p 63)) = W0 := ⟨_, rfl⟩
  have hg0 := heap_alloc_new w (.cells KS 23)
  have hg1 := heap_alloc_new (w.alloc (.cells KS 23)) (.cells NS 47)
  have hg2 := heap_alloc_new ((w.alloc (.cells KS 23)).alloc (.cells NS 47)) (.cells zeros64p 63)
  have hb0 : Below w.heap.size w W0 := by rw [← hW0]; exact (((Below.refl _ _).alloc (Nat.le_refl _) _).alloc (by simp) _).alloc (by simp; omega) _
  simp only [World.size_alloc] at hg1 hg2
  have HR0 : Hid (SROv w KS NS zeros64p W0) := Lib.hid (by
    rw [← hW0] at hb0 ⊢
    refine ⟨hb0, ?_, ?_, hg2, rfl⟩
    · exact (Below.heap_alloc _ _ _ (by simp <;> omega)).trans ((Below.heap_alloc _ _ _ (by simp)).trans hg0)
    · exact (Below.heap_alloc _ _ _ (by simp <;> omega)).trans hg1)
  have HKS := Lib.hid (And.intro hks hns)
  have HNB := Lib.hid hn
  clear hg0 hg1 hg2 hb0 hKS hNS hk hno hks hns hi hz0 hz1 hz2
  have hsz := st_size b
  go_enter Tryd.func20, Tryd.ntmps20
  go_wp2_with fail
  clear hW0
  go_loopw [7, 9] (fun v i wr => ROr w k no b KS NS v i wr) (fun _ i _ => b.length - (intOf i).toNat)
  case atStart => unfold ROr; exact ⟨0, zeros64p, Nat.zero_le _, rfl, World.ownsRow_nil _ _ _ _, HR0.out, fun h => absurd rfl h⟩
  case round =>
    obtain ⟨j, P, hj, rfl, hown, hro, hp⟩ := hrel
    have HX := Lib.hid (And.intro hown (And.intro hro hp))
    clear hown hro hp HR0
    by_cases hlt : j < b.length
    · have HSU := Lib.hid (overN_succ k no b j)
      have HOA : Hid (overAt k no b j = (b[j]?.getD 0) ^^^ ((partL k no (BitVec.ofNat 32 (j / 64)))[j % 64]?.getD 0)) := Lib.hid rfl
      have HPL := Lib.hid (partL_length k no (BitVec.ofNat 32 (j / 64)))
      have HRC := Lib.hid (HRP.out (BitVec.ofNat 32 (j / 64)))
      have HNX : Hid ((j + 1) % 64 ≠ 0 → partL k no (BitVec.ofNat 32 ((j + 1) / 64)) = partL k no (BitVec.ofNat 32 (j / 64))) := Lib.hid fun h => by rw [show (j + 1) / 64 = j / 64 by omega]
      generalize partL k no (BitVec.ofNat 32 (j / 64)) = PL at *
      generalize overAt k no b j = ov at *
      obtain ⟨PS, hPS⟩ : ∃ PS, PS = row8 PL := ⟨_, rfl⟩
      rw [← hPS] at HRC HX
      have HPS : Hid (PS.size = 64 ∧ PS.all (·.oneCell') = true ∧ PS = row8 PL) := Lib.hid ⟨by rw [hPS, row8_size, HPL.out], by rw [hPS]; exact row8_one _, hPS⟩
      have HCV : Hid (((j : Int) / 64) % 4294967296 = nv (BitVec.ofNat 32 (j / 64))) := Lib.hid (by
        unfold nv
        rw [BitVec.toNat_ofNat]
        have h : (2 : Nat) ^ 32 = 4294967296 := rfl
        rw [h]
        omega)
      generalize BitVec.ofNat 32 (j / 64) = X at *
      clear hPS
      go_upto_if 18 with fail
      go_cut [] from 18 to 24 (fun wx => wx.ownsRow w.heap.size 5 1 u7 j (u8s (overN k no b j)) ∧ SROv w KS NS PS wx)
      case first =>
        by_cases h64 : j % 64 = 0
        · have hj0 : ((j : Int) % 64 == 0) = true := by simp; omega
          have hcv := HCV.out
          go_wp2_with (first | (refine wpList_load_row (by rfl) 23 (.tmp 3) (by rfl) w.heap.size (by rfl) 23 KS (0, 0) _ HX.out.2.1.key Tryd.underlying23 (by rfl) (by rw [HKS.out.1]; exact info32p) ?_) | (refine wpList_load_row (by rfl) 47 (.tmp 4) (by rfl) (w.heap.size + 1) (by rfl) 47 NS (0, 0) _ HX.out.2.1.non Tryd.underlying47 (by rfl) (by rw [HKS.out.2]; exact info12p) ?_))
          refine (HRC.out _).mono ?_
          rintro _ w5 ⟨rfl, hb5⟩
          have H5 := Lib.hid (And.intro (own_belo HX.out.1 hb5) (HX.out.2.1.belo hb5))
          clear hb5
          go_wp2_with (refine wpList_store_row (by rfl) 63 (.tmp 8) (.tmp 24) (by rfl) (w.heap.size + 2) PS (by rfl) (by rfl) 63 _ H5.out.2.part (by rw [HPS.out.1]; exact info64p) (by rw [HPS.out.1, H5.out.2.size]) HPS.out.2.1 ?_)
          go_meet
          exact ⟨own_setRow H5.out.1 H5.out.2.part (by decide) _, H5.out.2.setPart HPS.out.1⟩
        · have hj0 : ((j : Int) % 64 == 0) = false := by simp; omega
          go_wp2_with fail
          go_meet
          exact ⟨HX.out.1, by have := HX.out.2.1; rw [HX.out.2.2 h64] at this; exact this⟩
      case rest =>
        have HC := Lib.hid hcut
        clear hcut HX HRC HRP HCV
        have hix := st_at (P := Tryd.prog) 9 Tryd.underlying9 b j hlt
        obtain ⟨ch, hch⟩ : ∃ ch, b[j]?.getD 0 = ch := ⟨_, rfl⟩
        obtain ⟨pl, hpl⟩ : ∃ pl, PL[j % 64]?.getD 0 = pl := ⟨_, rfl⟩
        rw [hch] at hix
        have HPC : Hid (∀ V : World, V.heap[w.heap.size + 2]? = some (.cells PS 63 (0, 0)) → V.cell? ⟨w.heap.size + 2, j % 64, none⟩ = some (.int .u8 (pl.toNat : Int))) := Lib.hid fun V hV => by
          have h2 := u8s_cell (w := V) (p := w.heap.size + 2) (l := PL) (t := 63) (by rw [hV, HPS.out.2.2]; rfl) (j % 64) (by rw [HPL.out]; omega)
          rw [h2, hpl]
        have hx8 := xor8 ch pl
        have hov := HOA.out
        rw [hch, hpl] at hov
        rw [← hov] at hx8
        clear hch hpl hov HOA
        have hx1 : (j : Int).tmod 64 = ((j % 64 : Nat) : Int) := by rw [Int.tmod_eq_emod_of_nonneg (by omega)]; omega
        have hr : j % 64 < 64 := by omega
        have ir : ((j % 64 : Nat) : Int) < 64 := by omega
        have hwr := IntWalk.i64_in ((j % 64 : Nat) : Int) (by omega)
        have hjm : ((j : Int) % 64) = ((j % 64 : Nat) : Int) := by omega
        generalize j % 64 = r at *
        go_upto_region 8 with fail
        refine wp_region_plan (fun W => W.heap[w.heap.size + 2]? = some (.cells PS 63 (0, 0))) [([0, 1, 2, 3, 4, 5, 6, 7, 8], 9), ([], 10)] [11] (by kernel_rfl) (by kernel_rfl) (fun _ _ d _ _ h => by cases d <;> exact h) HC.out.2.part ?_
        have hown := HC.out.1
        have HR := Lib.hid HC.out.2.drew
        have HOW : Hid (wc.drew.ownsRow w.heap.size 5 1 u7 j (u8s (overN k no b j))) := Lib.hid (own_belo hown ⟨rfl, rfl, rfl, Nat.le_refl _, fun _ _ => rfl⟩)
        clear hown HC
        generalize wc.drew = wd at *
        refine plan_eff ?_
        refine seg_read ?v1 (by rfl) (by rfl) ?h1 ?_
        case h1 => intro W hW; go_simp; with_reducible rfl
        try simp only [Act.put, List.setIfInBounds_toArray, List.set_cons_zero, List.set_cons_succ]
        refine seg_read ?v2 (by rfl) (by rfl) ?h2 ?_
        case h2 => intro W hW; go_simp; with_reducible rfl
        try simp only [Act.put, List.setIfInBounds_toArray, List.set_cons_zero, List.set_cons_succ]
        refine seg_read ?v3 (by rfl) (by rfl) ?h3 ?_
        case h3 => intro W hW; go_simp; with_reducible rfl
        try simp only [Act.put, List.setIfInBounds_toArray, List.set_cons_zero, List.set_cons_succ]
        refine seg_read ?v4 (by rfl) (by rfl) ?h4 ?_
        case h4 => intro W hW; go_simp; with_reducible rfl
        try simp only [Act.put, List.setIfInBounds_toArray, List.set_cons_zero, List.set_cons_succ]
        refine seg_read ?v5 (by rfl) (by rfl) ?h5 ?_
        case h5 => intro W hW; go_simp; with_reducible rfl
        try simp only [Act.put, List.setIfInBounds_toArray, List.set_cons_zero, List.set_cons_succ]
        refine seg_read ?v6 (by rfl) (by rfl) ?h6 ?_
        case h6 => intro W hW; go_simp; with_reducible rfl
        try simp only [Act.put, List.setIfInBounds_toArray, List.set_cons_zero, List.set_cons_succ]
        refine seg_read ?v7 (by rfl) (by rfl) ?h7 ?_
        case h7 => intro W hW; go_simp; with_reducible rfl
        try simp only [Act.put, List.setIfInBounds_toArray, List.set_cons_zero, List.set_cons_succ]
        refine seg_read ?v8 (by rfl) (by rfl) ?h8 ?_
        case h8 => intro W hW; have hc := HPC.out W hW; go_simp; with_reducible rfl
        try simp only [Act.put, List.setIfInBounds_toArray, List.set_cons_zero, List.set_cons_succ]
        refine seg_read ?v9 (by rfl) (by rfl) ?h9 ?_
        case h9 => intro W hW; go_simp; with_reducible rfl
        try simp only [Act.put, List.setIfInBounds_toArray, List.set_cons_zero, List.set_cons_succ]
        refine seg_nil ?_
        refine eff_step (by rfl) (fun K hK => ?_)
        go_simp
        have hbl := (Below.refl wd.heap.size wd).alloc (Nat.le_refl _) (.cells #[.int .u8 (ov.toNat : Int)] 5)
        have HR2 := Lib.hid (HR.out.belo hbl)
        have HOW2 := Lib.hid (own_belo HOW.out hbl)
        have HQ := Lib.hid (heap_alloc_new wd (.cells #[.int .u8 (ov.toNat : Int)] 5))
        clear HR HOW hbl
        refine hK _ _ ⟨fun W => W.heap[w.heap.size + 2]? = some (.cells PS 63 (0, 0)), HR2.out.part, fun _ h => h, ?_⟩
        clear hK K
        try simp only [Act.put, List.setIfInBounds_toArray, List.set_cons_zero, List.set_cons_succ]
        generalize wd.alloc (.cells #[.int .u8 (ov.toNat : Int)] 5) = we at *
        generalize wd.heap.size = q at *
        refine plan_eff ?_
        refine seg_nil ?_
        obtain ⟨v', w7, hrun, hown7, hgr7, _⟩ := run_append_own (P := Tryd.prog) we w.heap.size 25 25 5 i0 (.int .u8 0) 1 1 Tryd.underlying25 HI.out.1 HI.out.2.1 HI.out.2.2.1 HI.out.2.2.2 rfl (by decide) u7 j _ HOW2.out ⟨q, 0, none⟩ 1 1 [.int .u8 (ov.toNat : Int)] rfl (by
          intro i u hi
          have hi0 : i = 0 := by
            have := (List.getElem?_eq_some_iff.1 hi).1
            simpa using this
          subst hi0
          rw [add_plain, cell_of_cells HQ.out]
          simpa using hi) (by simp [Value.oneCell']) (by have := HNB.out; unfold maxLen; omega) (by have := HNB.out; omega) HR2.out.below.size
        refine eff_append (by rfl) (by rfl) (.tmp 25) (.tmp 34) 25 (by rfl) (by rfl) (by rfl) hrun ?_
        have HR3 := Lib.hid (HR2.out.rowed hgr7 (own_row HOW2.out))
        have HOW3 : Hid (w7.ownsRow w.heap.size 5 1 v' (j + 1) (u8s (overN k no b (j + 1)))) := Lib.hid (by rw [HSU.out, u8s_append]; exact hown7)
        clear hown7 hgr7 hrun HR2 HOW2 HQ
        refine ⟨fun W => W = w7, rfl, fun W e => by rw [e]; exact HR3.out.part, ?_⟩
        try simp only [Act.put, List.setIfInBounds_toArray, List.set_cons_zero, List.set_cons_succ]
        refine plan_last ?_
        repeat (refine seg_step (by rfl) (fun K hK => ?_); go_simp; refine hK _ ?_; clear hK K)
        refine seg_nil ?_
        go_wp2_with fail
        refine ⟨?_, by simp [intOf]; omega⟩
        unfold ROr
        exact ⟨j + 1, PS, by omega, by go_num, HOW3.out, HR3.out, fun h => by rw [HNX.out h]; exact HPS.out.2.2⟩
    · obtain rfl : j = b.length := by omega
      obtain ⟨A, c, rfl, hY⟩ := own_byt (l := overN k no b b.length) HX.out.1
      have hs : (convert 25 9 (.slice A b.length c)).run Tryd.prog wr = .ok (.string (st (overL k no b))) wr := byt_string hY
      have HF := Lib.hid HX.out.2.1.below
      clear HX hY hlt hj
      go_wp2_with fail
      go_ret
      exact ⟨rfl, HF.out⟩
end Go.Proofs.YtlkkocgjpljibaaDoor
