/-
  The reference's Check of objects.
  The reference's Check.
  The reference's Put.
  The reference's Get.
  The document's reading of a bool, by value.
-/
import Derived.BigQuiet
import Derived.Test.YtmakpjcgiiljfaaDoorPk07
import Derived.Test.YtmakpjcgiiljfaaDoorPk08
import Derived.Test.YtmakpjcgiiljfaaDoorPkGets01
import Derived.Test.YtmakpjcgiiljfaaDoorPk06
import Derived.Test.YtmakpjcgiiljfaaDoorPk01
import Derived.Test.YtmakpjcgiiljfaaDoorPk10
import Derived.Test.YtmakpjcgiiljfaaDoorPk11
/-! The reference's Check of objects. -/
namespace Go.Proofs.YtmakpjcgiiljfaaDoor
open Go.RowKit Codec

theorem spl_one (l : List UInt8) : (spl l).length ≤ 1 ↔ 47 ∉ l := by
  constructor
  · intro h hm
    obtain ⟨a, b, rfl⟩ := List.append_of_mem hm
    rw [spl_app, List.length_append] at h
    have h1 := List.length_pos_iff.2 (spl_ne a)
    have h2 := List.length_pos_iff.2 (spl_ne b)
    omega
  · intro h
    rw [spl_none h]
    simp
theorem nmE_eq (l : List UInt8) : nmE l = (pathOk l && decide ((spl l).length ≤ 1)) := by
  unfold nmE
  rw [decide_eq_decide.2 (spl_one l)]
theorem st_geq (a b : List UInt8) : (!Op.bytesLess (st a).toList (st b).toList) = !decide (a < b) := by rw [st_list, st_list, bytes_less]
/-- While names are looked at. -/
def RcR (w : World) (l : List En) (i : Value) (wr : World) : Prop :=
  ∃ j : Nat, j ≤ l.length ∧ i = .int .i64 (j : Int) ∧ (∀ k, k < j → okE l k = true) ∧ Below w.heap.size w wr
theorem om_none (w : World) (p : At) (x : Ob) (W : World) (hW : Below (w.alloc (.cells (omV p x) 37)).heap.size (w.alloc (.cells (omV p x) 37)) W) (j : Nat) : W.cell? ⟨w.heap.size, j, none⟩ = (omV p x)[j]? := by
  rw [hW.cell (p := ⟨w.heap.size, j, none⟩) (lt_of_cells (heap_alloc_new w _)), cell_of_cells (heap_alloc_new w _)]
set_option maxHeartbeats 16000000 in
set_option maxRecDepth 100000 in
theorem rchk_none {w : World} {S : Nat → Prop} {A : Option Addr} {n c : Nat} {IA : Option Addr} {i ic : Nat} {EA : Option Addr} {m mc : Nat} {k : Nat} {b : List UInt8} {z : Nat} {ids : List (List UInt8)} {es : List En} {lb : List UInt8} (h : Ois w S ⟨A, n, c, IA, i, ic, EA, m, mc⟩ ⟨k, b, z, ids, es, lb⟩) (hm : m ≤ 100000000) (hk : k < 1 ∨ 4 < k) :
    Calls Tryd.prog 13 #[.agg (omV ⟨A, n, c, IA, i, ic, EA, m, mc⟩ ⟨k, b, z, ids, es, lb⟩)] w fun e w' => e = .returned (.int .i64 (chkO ⟨k, b, z, ids, es, lb⟩)) ∧ Below w.heap.size w w' := by
  have hil := h.ids.len
  have hel := h.es.len
  simp only at hil hel
  have hbs := st_size b
  have hls := st_size lb
  have heb := st_empty b
  have hel2 := st_empty lb
  have HWA : Hid (Below w.heap.size w (w.alloc (.cells (omV ⟨A, n, c, IA, i, ic, EA, m, mc⟩ ⟨k, b, z, ids, es, lb⟩) 37))) := Lib.hid ((Below.refl _ _).alloc (Nat.le_refl _) _)
  have HO := Lib.hid h
  have HC4 : Hid (∀ W, Below (w.alloc (.cells (omV ⟨A, n, c, IA, i, ic, EA, m, mc⟩ ⟨k, b, z, ids, es, lb⟩) 37)).heap.size (w.alloc (.cells (omV ⟨A, n, c, IA, i, ic, EA, m, mc⟩ ⟨k, b, z, ids, es, lb⟩) 37)) W → W.cell? ⟨w.heap.size, 4, none⟩ = some (.slice EA m mc)) := Lib.hid fun W hW => (om_none w _ _ W hW 4).trans rfl
  have HM : Hid (es.length = m ∧ m ≤ 100000000) := Lib.hid ⟨hel, hm⟩
  unfold omV at HWA HC4 ⊢
  simp only at HWA HC4 ⊢
  clear h hel hm
  have HCH : Hid (chkO ⟨k, b, z, ids, es, lb⟩ = 1) := Lib.hid (by
    unfold chkO mayO
    simp only
    rw [if_neg (by omega : ¬ k = 1), if_neg (by omega : ¬ k = 2), if_neg (by omega : ¬ k = 3), if_neg (by omega : ¬ k = 4)]
    rfl)
  clear hil hbs hls heb hel2
  by_cases h1 : k < 1
  · have h1' : (k : Int) < 1 := by omega
    clear h1 hk
    go_enter Tryd.func13, Tryd.ntmps13
    go_wp2_with fail
    go_ret
    exact ⟨by rw [HCH.out]; rfl, HWA.out⟩
  · have h1' : ¬ (k : Int) < 1 := by omega
    have h2' : (k : Int) > 4 := by omega
    clear h1 hk
    go_enter Tryd.func13, Tryd.ntmps13
    go_wp2_with fail
    go_ret
    exact ⟨by rw [HCH.out]; rfl, HWA.out⟩
set_option maxHeartbeats 16000000 in
set_option maxRecDepth 100000 in
theorem rchk1 {w : World} {S : Nat → Prop} {A : Option Addr} {n c : Nat} {IA : Option Addr} {i ic : Nat} {EA : Option Addr} {m mc : Nat} {b : List UInt8} {z : Nat} {ids : List (List UInt8)} {es : List En} {lb : List UInt8} (h : Ois w S ⟨A, n, c, IA, i, ic, EA, m, mc⟩ ⟨1, b, z, ids, es, lb⟩) (hm : m ≤ 100000000) :
    Calls Tryd.prog 13 #[.agg (omV ⟨A, n, c, IA, i, ic, EA, m, mc⟩ ⟨1, b, z, ids, es, lb⟩)] w fun e w' => e = .returned (.int .i64 (chkO ⟨1, b, z, ids, es, lb⟩)) ∧ Below w.heap.size w w' := by
  have hil := h.ids.len
  have hel := h.es.len
  simp only at hil hel
  have hbs := st_size b
  have hls := st_size lb
  have heb := st_empty b
  have hel2 := st_empty lb
  have HWA : Hid (Below w.heap.size w (w.alloc (.cells (omV ⟨A, n, c, IA, i, ic, EA, m, mc⟩ ⟨1, b, z, ids, es, lb⟩) 37))) := Lib.hid ((Below.refl _ _).alloc (Nat.le_refl _) _)
  have HO := Lib.hid h
  have HC4 : Hid (∀ W, Below (w.alloc (.cells (omV ⟨A, n, c, IA, i, ic, EA, m, mc⟩ ⟨1, b, z, ids, es, lb⟩) 37)).heap.size (w.alloc (.cells (omV ⟨A, n, c, IA, i, ic, EA, m, mc⟩ ⟨1, b, z, ids, es, lb⟩) 37)) W → W.cell? ⟨w.heap.size, 4, none⟩ = some (.slice EA m mc)) := Lib.hid fun W hW => (om_none w _ _ W hW 4).trans rfl
  have HM : Hid (es.length = m ∧ m ≤ 100000000) := Lib.hid ⟨hel, hm⟩
  unfold omV at HWA HC4 ⊢
  simp only at HWA HC4 ⊢
  have HOX : True := trivial
  have HIL := Lib.hid hil
  clear h hel hm hil
  rcases Nat.eq_zero_or_pos z with hzz | hzz
  · have hdz : decide (0 < z) = false := decide_eq_false (by omega)
    have hnz : ((z : Int) != 0) = false := by simp; omega
    have hez : ((z : Int) == 0) = true := by simp; omega
    have hbz : ¬ (z : Int) > 1048576 := by omega
    have HZz := Lib.hid hzz
    clear hzz
    rcases Nat.eq_zero_or_pos i with hzi | hzi
    · have hdi : decide (0 < i) = false := decide_eq_false (by omega)
      have hni : ((i : Int) != 0) = false := by simp; omega
      have hei : ((i : Int) == 0) = true := by simp; omega
      have hbi : ¬ (i : Int) > 1000 := by omega
      have HZi := Lib.hid hzi
      have HNids : Hid (ids = []) := Lib.hid (List.eq_nil_of_length_eq_zero (by have h1 := HIL.out; omega))
      clear hzi
      rcases Nat.eq_zero_or_pos m with hzm | hzm
      · have hdm : decide (0 < m) = false := decide_eq_false (by omega)
        have hnm : ((m : Int) != 0) = false := by simp; omega
        have hem : ((m : Int) == 0) = true := by simp; omega
        have hbm : ¬ (m : Int) > 500 := by omega
        have HZm := Lib.hid hzm
        have HNes : Hid (es = []) := Lib.hid (List.eq_nil_of_length_eq_zero (by have h1 := HM.out.1; omega))
        clear hzm
        by_cases hlb : lb = []
        · have hnelb : lb.isEmpty = true := by rw [hlb]; rfl
          rw [hnelb] at hel2
          have hzelb : lb.length = 0 := by rw [hlb]; rfl
          rw [hzelb] at hls
          have HElb := Lib.hid hlb
          clear hlb hnelb hzelb
          obtain ⟨BL, hBL⟩ : ∃ BL, BL = b.length := ⟨_, rfl⟩
          rw [← hBL] at hbs
          have HBL := Lib.hid hBL
          clear hBL
          by_cases hcb : 32768 < BL
          · have hccb : (BL : Int) > 32768 := by omega
            have HCb := Lib.hid hcb
            clear hcb
            have HCH : Hid (chkO ⟨1, b, z, ids, es, lb⟩ = 1) := Lib.hid (chk_piece (by rintro ⟨h, _⟩; have := HCb.out; have := HBL.out; omega))
            clear HOX
            go_enter Tryd.func13, Tryd.ntmps13
            go_wp2_with fail
            go_ret
            exact ⟨by rw [HCH.out]; rfl, HWA.out⟩
          · have hccb : ¬ (BL : Int) > 32768 := by omega
            have HCb := Lib.hid hcb
            clear hcb
            have HCH : Hid (chkO ⟨1, b, z, ids, es, lb⟩ = if riseE es = true then 0 else 1) := Lib.hid (by rw [HZz.out, HNids.out, HNes.out, HElb.out]; exact chk_piece_yes (by have := HCb.out; have := HBL.out; omega))
            clear HOX
            go_enter Tryd.func13, Tryd.ntmps13
            go_wp2_with fail
            obtain ⟨wA, hwA⟩ : ∃ wA, wA = w.alloc (.cells (#[.int .u8 1, .string (st b), .int .u64 (z : Int), .slice IA i ic, .slice EA m mc, .string (st lb)]) 37) := ⟨_, rfl⟩
            have HC5 : Hid (∀ W, Below wA.heap.size wA W → W.cell? ⟨w.heap.size, 4, none⟩ = some (.slice EA m mc)) := Lib.hid (by rw [hwA]; exact HC4.out)
            have HW5 : Hid (Below w.heap.size w wA) := Lib.hid (by rw [hwA]; exact HWA.out)
            have HA5 : Hid (Below wA.heap.size wA (w.alloc (.cells (#[.int .u8 1, .string (st b), .int .u64 (z : Int), .slice IA i ic, .slice EA m mc, .string (st lb)]) 37))) := Lib.hid (by rw [hwA]; exact Below.refl _ _)
            clear hwA HC4 HWA
            go_loopw [3] (fun v9 wr => v9 = .int .i64 0 ∧ Below wA.heap.size wA wr) (fun _ _ => 0)
            case atStart => exact ⟨rfl, HA5.out⟩
            case round =>
              obtain ⟨rfl, hbel⟩ := hrel
              have hc4 := HC5.out wr hbel
              have HB := Lib.hid hbel
              clear hbel
              go_wp2_with fail
              go_ret
              exact ⟨by rw [HCH.out, HNes.out]; rfl, HW5.out.trans (HB.out.mono HW5.out.size)⟩
        · have hnelb : lb.isEmpty = false := by simpa using hlb
          rw [hnelb] at hel2
          have HElb := Lib.hid hlb
          clear hlb hnelb
          have HCH : Hid (chkO ⟨1, b, z, ids, es, lb⟩ = 1) := Lib.hid (chk_piece (by rintro ⟨_, _, _, _, h⟩; exact HElb.out h))
          clear HOX
          go_enter Tryd.func13, Tryd.ntmps13
          go_wp2_with fail
          go_ret
          exact ⟨by rw [HCH.out]; rfl, HWA.out⟩
      · have hdm : decide (0 < m) = true := decide_eq_true hzm
        have hnm : ((m : Int) != 0) = true := by simp; omega
        have hem : ((m : Int) == 0) = false := by simp; omega
        have HZm := Lib.hid hzm
        clear hzm
        have HCH : Hid (chkO ⟨1, b, z, ids, es, lb⟩ = 1) := Lib.hid (chk_piece (by rintro ⟨_, _, _, h, _⟩; have h1 := HM.out.1; have h2 := HZm.out; rw [h] at h1; simp at h1; omega))
        clear HOX
        go_enter Tryd.func13, Tryd.ntmps13
        go_wp2_with fail
        go_ret
        exact ⟨by rw [HCH.out]; rfl, HWA.out⟩
    · have hdi : decide (0 < i) = true := decide_eq_true hzi
      have hni : ((i : Int) != 0) = true := by simp; omega
      have hei : ((i : Int) == 0) = false := by simp; omega
      have HZi := Lib.hid hzi
      clear hzi
      have HCH : Hid (chkO ⟨1, b, z, ids, es, lb⟩ = 1) := Lib.hid (chk_piece (by rintro ⟨_, _, h, _⟩; have h1 := HIL.out; have h2 := HZi.out; rw [h] at h1; simp at h1; omega))
      clear HOX
      go_enter Tryd.func13, Tryd.ntmps13
      go_wp2_with fail
      go_ret
      exact ⟨by rw [HCH.out]; rfl, HWA.out⟩
  · have hdz : decide (0 < z) = true := decide_eq_true hzz
    have hnz : ((z : Int) != 0) = true := by simp; omega
    have hez : ((z : Int) == 0) = false := by simp; omega
    have HZz := Lib.hid hzz
    clear hzz
    have HCH : Hid (chkO ⟨1, b, z, ids, es, lb⟩ = 1) := Lib.hid (chk_piece (by rintro ⟨_, h, _⟩; have := HZz.out; omega))
    clear HOX
    go_enter Tryd.func13, Tryd.ntmps13
    go_wp2_with fail
    go_ret
    exact ⟨by rw [HCH.out]; rfl, HWA.out⟩
set_option maxHeartbeats 16000000 in
set_option maxRecDepth 100000 in
theorem rchk2 {w : World} {S : Nat → Prop} {A : Option Addr} {n c : Nat} {IA : Option Addr} {i ic : Nat} {EA : Option Addr} {m mc : Nat} {b : List UInt8} {z : Nat} {ids : List (List UInt8)} {es : List En} {lb : List UInt8} (h : Ois w S ⟨A, n, c, IA, i, ic, EA, m, mc⟩ ⟨2, b, z, ids, es, lb⟩) (hm : m ≤ 100000000) :
    Calls Tryd.prog 13 #[.agg (omV ⟨A, n, c, IA, i, ic, EA, m, mc⟩ ⟨2, b, z, ids, es, lb⟩)] w fun e w' => e = .returned (.int .i64 (chkO ⟨2, b, z, ids, es, lb⟩)) ∧ Below w.heap.size w w' := by
  have hil := h.ids.len
  have hel := h.es.len
  simp only at hil hel
  have hbs := st_size b
  have hls := st_size lb
  have heb := st_empty b
  have hel2 := st_empty lb
  have HWA : Hid (Below w.heap.size w (w.alloc (.cells (omV ⟨A, n, c, IA, i, ic, EA, m, mc⟩ ⟨2, b, z, ids, es, lb⟩) 37))) := Lib.hid ((Below.refl _ _).alloc (Nat.le_refl _) _)
  have HO := Lib.hid h
  have HC4 : Hid (∀ W, Below (w.alloc (.cells (omV ⟨A, n, c, IA, i, ic, EA, m, mc⟩ ⟨2, b, z, ids, es, lb⟩) 37)).heap.size (w.alloc (.cells (omV ⟨A, n, c, IA, i, ic, EA, m, mc⟩ ⟨2, b, z, ids, es, lb⟩) 37)) W → W.cell? ⟨w.heap.size, 4, none⟩ = some (.slice EA m mc)) := Lib.hid fun W hW => (om_none w _ _ W hW 4).trans rfl
  have HM : Hid (es.length = m ∧ m ≤ 100000000) := Lib.hid ⟨hel, hm⟩
  unfold omV at HWA HC4 ⊢
  simp only at HWA HC4 ⊢
  have HOX : True := trivial
  have HIL := Lib.hid hil
  clear h hel hm hil
  by_cases hb : b = []
  · have hneb : b.isEmpty = true := by rw [hb]; rfl
    rw [hneb] at heb
    have hzeb : b.length = 0 := by rw [hb]; rfl
    rw [hzeb] at hbs
    have HEb := Lib.hid hb
    clear hb hneb hzeb
    rcases Nat.eq_zero_or_pos m with hzm | hzm
    · have hdm : decide (0 < m) = false := decide_eq_false (by omega)
      have hnm : ((m : Int) != 0) = false := by simp; omega
      have hem : ((m : Int) == 0) = true := by simp; omega
      have hbm : ¬ (m : Int) > 500 := by omega
      have HZm := Lib.hid hzm
      have HNes : Hid (es = []) := Lib.hid (List.eq_nil_of_length_eq_zero (by have h1 := HM.out.1; omega))
      clear hzm
      by_cases hlb : lb = []
      · have hnelb : lb.isEmpty = true := by rw [hlb]; rfl
        rw [hnelb] at hel2
        have hzelb : lb.length = 0 := by rw [hlb]; rfl
        rw [hzelb] at hls
        have HElb := Lib.hid hlb
        clear hlb hnelb hzelb
        by_cases hci : 1000 < i
        · have hcci : (i : Int) > 1000 := by omega
          have HCi := Lib.hid hci
          clear hci
          have HCH : Hid (chkO ⟨2, b, z, ids, es, lb⟩ = 1) := Lib.hid (chk_list (by rintro ⟨h, _⟩; have h1 := HIL.out; have h2 := HCi.out; omega))
          clear HOX
          go_enter Tryd.func13, Tryd.ntmps13
          go_wp2_with fail
          go_ret
          exact ⟨by rw [HCH.out]; rfl, HWA.out⟩
        · have hcci : ¬ (i : Int) > 1000 := by omega
          have HCi := Lib.hid hci
          clear hci
          by_cases hcz : 1048576 < z
          · have hccz : (z : Int) > 1048576 := by omega
            have HCz := Lib.hid hcz
            clear hcz
            have HCH : Hid (chkO ⟨2, b, z, ids, es, lb⟩ = 1) := Lib.hid (chk_list (by rintro ⟨_, h, _⟩; have := HCz.out; omega))
            clear HOX
            go_enter Tryd.func13, Tryd.ntmps13
            go_wp2_with fail
            go_ret
            exact ⟨by rw [HCH.out]; rfl, HWA.out⟩
          · have hccz : ¬ (z : Int) > 1048576 := by omega
            have HCz := Lib.hid hcz
            clear hcz
            rcases Nat.eq_zero_or_pos z with hzz | hzz
            · have hdz : decide (0 < z) = false := decide_eq_false (by omega)
              have hnz : ((z : Int) != 0) = false := by simp; omega
              have hez : ((z : Int) == 0) = true := by simp; omega
              have hbz : ¬ (z : Int) > 1048576 := by omega
              have HZz := Lib.hid hzz
              clear hzz
              rcases Nat.eq_zero_or_pos i with hzi | hzi
              · have hdi : decide (0 < i) = false := decide_eq_false (by omega)
                have hni : ((i : Int) != 0) = false := by simp; omega
                have hei : ((i : Int) == 0) = true := by simp; omega
                have hbi : ¬ (i : Int) > 1000 := by omega
                have HZi := Lib.hid hzi
                have HNids : Hid (ids = []) := Lib.hid (List.eq_nil_of_length_eq_zero (by have h1 := HIL.out; omega))
                clear hzi
                have HCH : Hid (chkO ⟨2, b, z, ids, es, lb⟩ = if riseE es = true then 0 else 1) := Lib.hid (by rw [HEb.out, HZz.out, HNids.out, HNes.out, HElb.out]; exact chk_list_yes (by simp) (by omega) (by simp))
                clear HOX
                go_enter Tryd.func13, Tryd.ntmps13
                go_wp2_with fail
                obtain ⟨wA, hwA⟩ : ∃ wA, wA = w.alloc (.cells (#[.int .u8 2, .string (st b), .int .u64 (z : Int), .slice IA i ic, .slice EA m mc, .string (st lb)]) 37) := ⟨_, rfl⟩
                have HC5 : Hid (∀ W, Below wA.heap.size wA W → W.cell? ⟨w.heap.size, 4, none⟩ = some (.slice EA m mc)) := Lib.hid (by rw [hwA]; exact HC4.out)
                have HW5 : Hid (Below w.heap.size w wA) := Lib.hid (by rw [hwA]; exact HWA.out)
                have HA5 : Hid (Below wA.heap.size wA (w.alloc (.cells (#[.int .u8 2, .string (st b), .int .u64 (z : Int), .slice IA i ic, .slice EA m mc, .string (st lb)]) 37))) := Lib.hid (by rw [hwA]; exact Below.refl _ _)
                clear hwA HC4 HWA
                go_loopw [3] (fun v9 wr => v9 = .int .i64 0 ∧ Below wA.heap.size wA wr) (fun _ _ => 0)
                case atStart => exact ⟨rfl, HA5.out⟩
                case round =>
                  obtain ⟨rfl, hbel⟩ := hrel
                  have hc4 := HC5.out wr hbel
                  have HB := Lib.hid hbel
                  clear hbel
                  go_wp2_with fail
                  go_ret
                  exact ⟨by rw [HCH.out, HNes.out]; rfl, HW5.out.trans (HB.out.mono HW5.out.size)⟩
              · have hdi : decide (0 < i) = true := decide_eq_true hzi
                have hni : ((i : Int) != 0) = true := by simp; omega
                have hei : ((i : Int) == 0) = false := by simp; omega
                have HZi := Lib.hid hzi
                clear hzi
                have HCH : Hid (chkO ⟨2, b, z, ids, es, lb⟩ = 1) := Lib.hid (chk_list (by rintro ⟨_, _, h, _⟩; have h1 := HIL.out; have h2 := HZi.out; have h3 := HZz.out; rw [h1] at h; omega))
                clear HOX
                go_enter Tryd.func13, Tryd.ntmps13
                go_wp2_with fail
                go_ret
                exact ⟨by rw [HCH.out]; rfl, HWA.out⟩
            · have hdz : decide (0 < z) = true := decide_eq_true hzz
              have hnz : ((z : Int) != 0) = true := by simp; omega
              have hez : ((z : Int) == 0) = false := by simp; omega
              have HZz := Lib.hid hzz
              clear hzz
              rcases Nat.eq_zero_or_pos i with hzi | hzi
              · have hdi : decide (0 < i) = false := decide_eq_false (by omega)
                have hni : ((i : Int) != 0) = false := by simp; omega
                have hei : ((i : Int) == 0) = true := by simp; omega
                have hbi : ¬ (i : Int) > 1000 := by omega
                have HZi := Lib.hid hzi
                have HNids : Hid (ids = []) := Lib.hid (List.eq_nil_of_length_eq_zero (by have h1 := HIL.out; omega))
                clear hzi
                have HCH : Hid (chkO ⟨2, b, z, ids, es, lb⟩ = 1) := Lib.hid (chk_list (by rintro ⟨_, _, h, _⟩; have h1 := HIL.out; have h2 := HZz.out; have h3 := HZi.out; rw [h1] at h; omega))
                clear HOX
                go_enter Tryd.func13, Tryd.ntmps13
                go_wp2_with fail
                go_ret
                exact ⟨by rw [HCH.out]; rfl, HWA.out⟩
              · have hdi : decide (0 < i) = true := decide_eq_true hzi
                have hni : ((i : Int) != 0) = true := by simp; omega
                have hei : ((i : Int) == 0) = false := by simp; omega
                have HZi := Lib.hid hzi
                clear hzi
                have HCH : Hid (chkO ⟨2, b, z, ids, es, lb⟩ = if riseE es = true then 0 else 1) := Lib.hid (by rw [HEb.out, HNes.out, HElb.out]; exact chk_list_yes (by have := HIL.out; have := HCi.out; omega) (by have := HCz.out; omega) (by have h1 := HIL.out; have h2 := HZi.out; have h3 := HZz.out; constructor <;> intro h <;> omega))
                clear HOX
                go_enter Tryd.func13, Tryd.ntmps13
                go_wp2_with fail
                obtain ⟨wA, hwA⟩ : ∃ wA, wA = w.alloc (.cells (#[.int .u8 2, .string (st b), .int .u64 (z : Int), .slice IA i ic, .slice EA m mc, .string (st lb)]) 37) := ⟨_, rfl⟩
                have HC5 : Hid (∀ W, Below wA.heap.size wA W → W.cell? ⟨w.heap.size, 4, none⟩ = some (.slice EA m mc)) := Lib.hid (by rw [hwA]; exact HC4.out)
                have HW5 : Hid (Below w.heap.size w wA) := Lib.hid (by rw [hwA]; exact HWA.out)
                have HA5 : Hid (Below wA.heap.size wA (w.alloc (.cells (#[.int .u8 2, .string (st b), .int .u64 (z : Int), .slice IA i ic, .slice EA m mc, .string (st lb)]) 37))) := Lib.hid (by rw [hwA]; exact Below.refl _ _)
                clear hwA HC4 HWA
                go_loopw [3] (fun v9 wr => v9 = .int .i64 0 ∧ Below wA.heap.size wA wr) (fun _ _ => 0)
                case atStart => exact ⟨rfl, HA5.out⟩
                case round =>
                  obtain ⟨rfl, hbel⟩ := hrel
                  have hc4 := HC5.out wr hbel
                  have HB := Lib.hid hbel
                  clear hbel
                  go_wp2_with fail
                  go_ret
                  exact ⟨by rw [HCH.out, HNes.out]; rfl, HW5.out.trans (HB.out.mono HW5.out.size)⟩
      · have hnelb : lb.isEmpty = false := by simpa using hlb
        rw [hnelb] at hel2
        have HElb := Lib.hid hlb
        clear hlb hnelb
        have HCH : Hid (chkO ⟨2, b, z, ids, es, lb⟩ = 1) := Lib.hid (chk_list (by rintro ⟨_, _, _, _, _, h⟩; exact HElb.out h))
        clear HOX
        go_enter Tryd.func13, Tryd.ntmps13
        go_wp2_with fail
        go_ret
        exact ⟨by rw [HCH.out]; rfl, HWA.out⟩
    · have hdm : decide (0 < m) = true := decide_eq_true hzm
      have hnm : ((m : Int) != 0) = true := by simp; omega
      have hem : ((m : Int) == 0) = false := by simp; omega
      have HZm := Lib.hid hzm
      clear hzm
      have HCH : Hid (chkO ⟨2, b, z, ids, es, lb⟩ = 1) := Lib.hid (chk_list (by rintro ⟨_, _, _, _, h, _⟩; have h1 := HM.out.1; have h2 := HZm.out; rw [h] at h1; simp at h1; omega))
      clear HOX
      go_enter Tryd.func13, Tryd.ntmps13
      go_wp2_with fail
      go_ret
      exact ⟨by rw [HCH.out]; rfl, HWA.out⟩
  · have hneb : b.isEmpty = false := by simpa using hb
    rw [hneb] at heb
    have HEb := Lib.hid hb
    clear hb hneb
    have HCH : Hid (chkO ⟨2, b, z, ids, es, lb⟩ = 1) := Lib.hid (chk_list (by rintro ⟨_, _, _, h, _⟩; exact HEb.out h))
    clear HOX
    go_enter Tryd.func13, Tryd.ntmps13
    go_wp2_with fail
    go_ret
    exact ⟨by rw [HCH.out]; rfl, HWA.out⟩
set_option maxHeartbeats 16000000 in
set_option maxRecDepth 100000 in
theorem rchk3 {w : World} {S : Nat → Prop} {A : Option Addr} {n c : Nat} {IA : Option Addr} {i ic : Nat} {EA : Option Addr} {m mc : Nat} {b : List UInt8} {z : Nat} {ids : List (List UInt8)} {es : List En} {lb : List UInt8} (h : Ois w S ⟨A, n, c, IA, i, ic, EA, m, mc⟩ ⟨3, b, z, ids, es, lb⟩) (hm : m ≤ 100000000) :
    Calls Tryd.prog 13 #[.agg (omV ⟨A, n, c, IA, i, ic, EA, m, mc⟩ ⟨3, b, z, ids, es, lb⟩)] w fun e w' => e = .returned (.int .i64 (chkO ⟨3, b, z, ids, es, lb⟩)) ∧ Below w.heap.size w w' := by
  have hil := h.ids.len
  have hel := h.es.len
  simp only at hil hel
  have hbs := st_size b
  have hls := st_size lb
  have heb := st_empty b
  have hel2 := st_empty lb
  have HWA : Hid (Below w.heap.size w (w.alloc (.cells (omV ⟨A, n, c, IA, i, ic, EA, m, mc⟩ ⟨3, b, z, ids, es, lb⟩) 37))) := Lib.hid ((Below.refl _ _).alloc (Nat.le_refl _) _)
  have HO := Lib.hid h
  have HC4 : Hid (∀ W, Below (w.alloc (.cells (omV ⟨A, n, c, IA, i, ic, EA, m, mc⟩ ⟨3, b, z, ids, es, lb⟩) 37)).heap.size (w.alloc (.cells (omV ⟨A, n, c, IA, i, ic, EA, m, mc⟩ ⟨3, b, z, ids, es, lb⟩) 37)) W → W.cell? ⟨w.heap.size, 4, none⟩ = some (.slice EA m mc)) := Lib.hid fun W hW => (om_none w _ _ W hW 4).trans rfl
  have HM : Hid (es.length = m ∧ m ≤ 100000000) := Lib.hid ⟨hel, hm⟩
  unfold omV at HWA HC4 ⊢
  simp only at HWA HC4 ⊢
  have HOX : True := trivial
  have HIL := Lib.hid hil
  clear h hel hm hil
  by_cases hb : b = []
  · have hneb : b.isEmpty = true := by rw [hb]; rfl
    rw [hneb] at heb
    have hzeb : b.length = 0 := by rw [hb]; rfl
    rw [hzeb] at hbs
    have HEb := Lib.hid hb
    clear hb hneb hzeb
    rcases Nat.eq_zero_or_pos z with hzz | hzz
    · have hdz : decide (0 < z) = false := decide_eq_false (by omega)
      have hnz : ((z : Int) != 0) = false := by simp; omega
      have hez : ((z : Int) == 0) = true := by simp; omega
      have hbz : ¬ (z : Int) > 1048576 := by omega
      have HZz := Lib.hid hzz
      clear hzz
      rcases Nat.eq_zero_or_pos i with hzi | hzi
      · have hdi : decide (0 < i) = false := decide_eq_false (by omega)
        have hni : ((i : Int) != 0) = false := by simp; omega
        have hei : ((i : Int) == 0) = true := by simp; omega
        have hbi : ¬ (i : Int) > 1000 := by omega
        have HZi := Lib.hid hzi
        have HNids : Hid (ids = []) := Lib.hid (List.eq_nil_of_length_eq_zero (by have h1 := HIL.out; omega))
        clear hzi
        by_cases hlb : lb = []
        · have hnelb : lb.isEmpty = true := by rw [hlb]; rfl
          rw [hnelb] at hel2
          have hzelb : lb.length = 0 := by rw [hlb]; rfl
          rw [hzelb] at hls
          have HElb := Lib.hid hlb
          clear hlb hnelb hzelb
          by_cases hcm : 500 < m
          · have hccm : (m : Int) > 500 := by omega
            have HCm := Lib.hid hcm
            clear hcm
            have HCH : Hid (chkO ⟨3, b, z, ids, es, lb⟩ = 1) := Lib.hid (chk_dir (by rintro ⟨h, _⟩; have h1 := HM.out.1; have h2 := HCm.out; omega))
            clear HOX
            go_enter Tryd.func13, Tryd.ntmps13
            go_wp2_with fail
            go_ret
            exact ⟨by rw [HCH.out]; rfl, HWA.out⟩
          · have hccm : ¬ (m : Int) > 500 := by omega
            have HCm := Lib.hid hcm
            clear hcm
            have HCH : Hid (chkO ⟨3, b, z, ids, es, lb⟩ = if riseE es = true then 0 else 1) := Lib.hid (by rw [HEb.out, HZz.out, HNids.out, HElb.out]; exact chk_dir_yes (by have h1 := HM.out.1; have h2 := HCm.out; omega))
            clear HOX
            go_enter Tryd.func13, Tryd.ntmps13
            go_wp2_with fail
            obtain ⟨wA, hwA⟩ : ∃ wA, wA = w.alloc (.cells (#[.int .u8 3, .string (st b), .int .u64 (z : Int), .slice IA i ic, .slice EA m mc, .string (st lb)]) 37) := ⟨_, rfl⟩
            have HC5 : Hid (∀ W, Below wA.heap.size wA W → W.cell? ⟨w.heap.size, 4, none⟩ = some (.slice EA m mc)) := Lib.hid (by rw [hwA]; exact HC4.out)
            have HW5 : Hid (Below w.heap.size w wA) := Lib.hid (by rw [hwA]; exact HWA.out)
            have HA5 : Hid (Below wA.heap.size wA (w.alloc (.cells (#[.int .u8 3, .string (st b), .int .u64 (z : Int), .slice IA i ic, .slice EA m mc, .string (st lb)]) 37))) := Lib.hid (by rw [hwA]; exact Below.refl _ _)
            clear hwA HC4 HWA
            go_loopw [3] (fun v9 wr => RcR wA es v9 wr) (fun v9 _ => m - (intOf v9).toNat)
            case atStart => exact ⟨0, Nat.zero_le _, rfl, fun k h => absurd h (by omega), HA5.out⟩
            case round =>
              obtain ⟨j, hj, rfl, hok, hbel⟩ := hrel
              have HK := Lib.hid (And.intro hok hbel)
              have hc4 := HC5.out wr hbel
              clear hok hbel
              by_cases hlt : j < m
              · have hlt' : (j : Int) < (m : Int) := by omega
                have hadd := IntWalk.i64_in ((j : Int) + 1) (by have := HM.out.2; omega)
                obtain ⟨q, off, y, hEA, _, hqlt, hy, _, hcs⟩ := HO.out.es.at_ hlt
                simp only at hEA hy
                subst hEA
                have hcn := ((HW5.out.trans (HK.out.2.mono HW5.out.size)).cell (p := ⟨_, off + j * 34 + 0, none⟩) hqlt).trans (hcs 0 _ (enV_0 y))
                have hcn : wr.cell? ⟨q, off + j * 34, none⟩ = some (.string (st y.1)) := hcn
                have hrp := rpath_any y.1 wr
                have HY := Lib.hid (And.intro hy (And.intro hlt hqlt))
                clear hy hlt hqlt hcs hj
                go_upto_region 16 with (go_at_call 28; refine hrp.mono ?_; clear hrp; rintro _ w1 ⟨rfl, hb1⟩)
                have HB1 := Lib.hid (HK.out.2.trans (hb1.mono HK.out.2.size))
                clear hc4 hcn hb1
                by_cases hp : pathOk y.1 = true
                · have HP := Lib.hid hp
                  have hnm := names_any y.1 (by have := pathOk_len hp; omega) w1
                  rw [hp]
                  obtain ⟨L, hL⟩ : ∃ L, L = (spl y.1).length := ⟨_, rfl⟩
                  rw [← hL] at hnm
                  have HL := Lib.hid hL
                  clear hp hL
                  by_cases h1 : L ≤ 1
                  · have h1' : ¬ (L : Int) > 1 := by omega
                    have HN1 : Hid (nmE y.1 = true) := Lib.hid (by rw [nmE_eq, HP.out, ← HL.out, decide_eq_true h1]; rfl)
                    clear h1
                    by_cases h2 : j = 0
                    · have HST : Hid (okE es j = true) := Lib.hid (by have := HY.out.1; subst h2; rw [okE_zero this]; exact HN1.out)
                      have h2' : decide (0 < j) = false := decide_eq_false (by omega)
                      clear h2
                      go_wp2_with (go_at_call 29; refine hnm.mono ?_; clear hnm; rintro _ w2 ⟨A2, c2, rfl, _, hb2⟩; have HB2 := Lib.hid (HB1.out.trans (hb2.mono HB1.out.size)); clear hb2)
                      go_roundw
                      case rel =>
                        unfold RcR
                        refine ⟨j + 1, by have := HY.out.2.1; have := HM.out.1; omega, by simp, fun k hk => ?_, HB2.out⟩
                        by_cases h : k = j
                        · rw [h]; exact HST.out
                        · exact HK.out.1 k (by omega)
                      case measure => have := HY.out.2.1; simp only [intOf]; omega
                    · obtain ⟨i0, hi0⟩ : ∃ i0, j = i0 + 1 := ⟨j - 1, by omega⟩
                      have h2' : decide (0 < j) = true := decide_eq_true (by omega)
                      have hsub : IntKind.i64.wrap ((j : Int) - 1) = (i0 : Int) := by rw [IntWalk.i64_in _ (by have := HM.out.2; have := HY.out.2.1; omega)]; omega
                      have hsub2 : (j : Int) - 1 = (i0 : Int) := by omega
                      obtain ⟨q2, off2, y0, e, _, hq2, hy0, _, hcs0⟩ := HO.out.es.at_ (i := i0) (by have := HY.out.2.1; simp only; omega)
                      injection e with e
                      injection e with e1 e2 _
                      subst e1 e2
                      simp only at hy0
                      have HC0 : Hid (∀ W, Below wA.heap.size wA W → W.cell? ⟨q, off + i0 * 34, none⟩ = some (.string (st y0.1)) ∧ W.cell? ⟨w.heap.size, 4, none⟩ = some (.slice (some ⟨q, off, none⟩) m mc)) := Lib.hid fun W hW => ⟨((HW5.out.trans (hW.mono HW5.out.size)).cell (p := ⟨_, off + i0 * 34 + 0, none⟩) hq2).trans (hcs0 0 _ (enV_0 y0)), HC5.out W hW⟩
                      have hmn : i0 < m := by have := HY.out.2.1; omega
                      have hmn' : (i0 : Int) < (m : Int) := by omega
                      have hge := st_geq y0.1 y.1
                      clear hcs0 hq2
                      by_cases h3 : y0.1 < y.1
                      · have HST : Hid (okE es j = true) := Lib.hid (by have h4 := HY.out.1; subst hi0; rw [okE_succ h4 hy0, HN1.out, decide_eq_true h3]; rfl)
                        rw [decide_eq_true h3] at hge
                        clear h3 h2 hi0 hy0
                        go_wp2_with (first | (refine wpList_geq (o := ⟨some 160, _, _, _, _, _⟩) (by rfl) (.tmp 158) (.tmp 159) (by rfl) (by rfl) (by rfl) hge ?_) | (go_at_call 29; refine hnm.mono ?_; clear hnm; rintro _ w2 ⟨A2, c2, rfl, _, hb2⟩; have HB2 := Lib.hid (HB1.out.trans (hb2.mono HB1.out.size)); obtain ⟨hk1, hk2⟩ := HC0.out _ HB2.out; clear hb2))
                        go_roundw
                        case rel =>
                          unfold RcR
                          refine ⟨j + 1, by have := HY.out.2.1; have := HM.out.1; omega, by simp, fun k hk => ?_, HB2.out⟩
                          by_cases h : k = j
                          · rw [h]; exact HST.out
                          · exact HK.out.1 k (by omega)
                        case measure => have := HY.out.2.1; simp only [intOf]; omega
                      · have HST : Hid (riseE es = false) := Lib.hid (by
                          refine rise_not (i := j) (List.getElem?_eq_some_iff.1 HY.out.1).1 ?_
                          have h4 := HY.out.1
                          subst hi0
                          rw [okE_succ h4 hy0, decide_eq_false h3, Bool.and_false])
                        rw [decide_eq_false h3] at hge
                        clear h3 h2 hi0 hy0
                        go_wp2_with (first | (refine wpList_geq (o := ⟨some 160, _, _, _, _, _⟩) (by rfl) (.tmp 158) (.tmp 159) (by rfl) (by rfl) (by rfl) hge ?_) | (go_at_call 29; refine hnm.mono ?_; clear hnm; rintro _ w2 ⟨A2, c2, rfl, _, hb2⟩; have HB2 := Lib.hid (HB1.out.trans (hb2.mono HB1.out.size)); obtain ⟨hk1, hk2⟩ := HC0.out _ HB2.out; clear hb2))
                        go_ret
                        exact ⟨by rw [HCH.out, HST.out]; rfl, HW5.out.trans (HB2.out.mono HW5.out.size)⟩
                  · have h1' : (L : Int) > 1 := by omega
                    have HST : Hid (riseE es = false) := Lib.hid (rise_not (i := j) (List.getElem?_eq_some_iff.1 HY.out.1).1 (okE_bad HY.out.1 (by rw [nmE_eq, HP.out, ← HL.out, decide_eq_false h1]; rfl)))
                    clear h1
                    go_wp2_with (go_at_call 29; refine hnm.mono ?_; clear hnm; rintro _ w2 ⟨A2, c2, rfl, _, hb2⟩; have HB2 := Lib.hid (HB1.out.trans (hb2.mono HB1.out.size)); clear hb2)
                    go_ret
                    exact ⟨by rw [HCH.out, HST.out]; rfl, HW5.out.trans (HB2.out.mono HW5.out.size)⟩
                · have hp' : pathOk y.1 = false := by simpa using hp
                  have HST : Hid (riseE es = false) := Lib.hid (rise_not (i := j) (List.getElem?_eq_some_iff.1 HY.out.1).1 (okE_bad HY.out.1 (by rw [nmE_eq, hp']; rfl)))
                  rw [hp']
                  clear hp hp'
                  go_wp2_with fail
                  go_ret
                  exact ⟨by rw [HCH.out, HST.out]; rfl, HW5.out.trans (HB1.out.mono HW5.out.size)⟩
              · have hlt' : ¬ (j : Int) < (m : Int) := by omega
                have HE : Hid (riseE es = true) := Lib.hid (rise_all HM.out.1 fun i hi => HK.out.1 i (by omega))
                clear hlt hj
                go_wp2_with fail
                go_ret
                exact ⟨by rw [HCH.out, HE.out]; rfl, HW5.out.trans (HK.out.2.mono HW5.out.size)⟩
        · have hnelb : lb.isEmpty = false := by simpa using hlb
          rw [hnelb] at hel2
          have HElb := Lib.hid hlb
          clear hlb hnelb
          have HCH : Hid (chkO ⟨3, b, z, ids, es, lb⟩ = 1) := Lib.hid (chk_dir (by rintro ⟨_, _, _, _, h⟩; exact HElb.out h))
          clear HOX
          go_enter Tryd.func13, Tryd.ntmps13
          go_wp2_with fail
          go_ret
          exact ⟨by rw [HCH.out]; rfl, HWA.out⟩
      · have hdi : decide (0 < i) = true := decide_eq_true hzi
        have hni : ((i : Int) != 0) = true := by simp; omega
        have hei : ((i : Int) == 0) = false := by simp; omega
        have HZi := Lib.hid hzi
        clear hzi
        have HCH : Hid (chkO ⟨3, b, z, ids, es, lb⟩ = 1) := Lib.hid (chk_dir (by rintro ⟨_, _, _, h, _⟩; have h1 := HIL.out; have h2 := HZi.out; rw [h] at h1; simp at h1; omega))
        clear HOX
        go_enter Tryd.func13, Tryd.ntmps13
        go_wp2_with fail
        go_ret
        exact ⟨by rw [HCH.out]; rfl, HWA.out⟩
    · have hdz : decide (0 < z) = true := decide_eq_true hzz
      have hnz : ((z : Int) != 0) = true := by simp; omega
      have hez : ((z : Int) == 0) = false := by simp; omega
      have HZz := Lib.hid hzz
      clear hzz
      have HCH : Hid (chkO ⟨3, b, z, ids, es, lb⟩ = 1) := Lib.hid (chk_dir (by rintro ⟨_, _, h, _⟩; have := HZz.out; omega))
      clear HOX
      go_enter Tryd.func13, Tryd.ntmps13
      go_wp2_with fail
      go_ret
      exact ⟨by rw [HCH.out]; rfl, HWA.out⟩
  · have hneb : b.isEmpty = false := by simpa using hb
    rw [hneb] at heb
    have HEb := Lib.hid hb
    clear hb hneb
    have HCH : Hid (chkO ⟨3, b, z, ids, es, lb⟩ = 1) := Lib.hid (chk_dir (by rintro ⟨_, h, _⟩; exact HEb.out h))
    clear HOX
    go_enter Tryd.func13, Tryd.ntmps13
    go_wp2_with fail
    go_ret
    exact ⟨by rw [HCH.out]; rfl, HWA.out⟩
set_option maxHeartbeats 16000000 in
set_option maxRecDepth 100000 in
theorem rchk4 {w : World} {S : Nat → Prop} {A : Option Addr} {n c : Nat} {IA : Option Addr} {i ic : Nat} {EA : Option Addr} {m mc : Nat} {b : List UInt8} {z : Nat} {ids : List (List UInt8)} {es : List En} {lb : List UInt8} (h : Ois w S ⟨A, n, c, IA, i, ic, EA, m, mc⟩ ⟨4, b, z, ids, es, lb⟩) (hm : m ≤ 100000000) :
    Calls Tryd.prog 13 #[.agg (omV ⟨A, n, c, IA, i, ic, EA, m, mc⟩ ⟨4, b, z, ids, es, lb⟩)] w fun e w' => e = .returned (.int .i64 (chkO ⟨4, b, z, ids, es, lb⟩)) ∧ Below w.heap.size w w' := by
  have hil := h.ids.len
  have hel := h.es.len
  simp only at hil hel
  have hbs := st_size b
  have hls := st_size lb
  have heb := st_empty b
  have hel2 := st_empty lb
  have HWA : Hid (Below w.heap.size w (w.alloc (.cells (omV ⟨A, n, c, IA, i, ic, EA, m, mc⟩ ⟨4, b, z, ids, es, lb⟩) 37))) := Lib.hid ((Below.refl _ _).alloc (Nat.le_refl _) _)
  have HO := Lib.hid h
  have HC4 : Hid (∀ W, Below (w.alloc (.cells (omV ⟨A, n, c, IA, i, ic, EA, m, mc⟩ ⟨4, b, z, ids, es, lb⟩) 37)).heap.size (w.alloc (.cells (omV ⟨A, n, c, IA, i, ic, EA, m, mc⟩ ⟨4, b, z, ids, es, lb⟩) 37)) W → W.cell? ⟨w.heap.size, 4, none⟩ = some (.slice EA m mc)) := Lib.hid fun W hW => (om_none w _ _ W hW 4).trans rfl
  have HM : Hid (es.length = m ∧ m ≤ 100000000) := Lib.hid ⟨hel, hm⟩
  unfold omV at HWA HC4 ⊢
  simp only at HWA HC4 ⊢
  have HOX : True := trivial
  have HIL := Lib.hid hil
  clear h hel hm hil
  by_cases hb : b = []
  · have hneb : b.isEmpty = true := by rw [hb]; rfl
    rw [hneb] at heb
    have hzeb : b.length = 0 := by rw [hb]; rfl
    rw [hzeb] at hbs
    have HEb := Lib.hid hb
    clear hb hneb hzeb
    rcases Nat.eq_zero_or_pos m with hzm | hzm
    · have hdm : decide (0 < m) = false := decide_eq_false (by omega)
      have hnm : ((m : Int) != 0) = false := by simp; omega
      have hem : ((m : Int) == 0) = true := by simp; omega
      have hbm : ¬ (m : Int) > 500 := by omega
      have HZm := Lib.hid hzm
      have HNes : Hid (es = []) := Lib.hid (List.eq_nil_of_length_eq_zero (by have h1 := HM.out.1; omega))
      clear hzm
      by_cases hci : 1000 < i
      · have hcci : (i : Int) > 1000 := by omega
        have HCi := Lib.hid hci
        clear hci
        have HCH : Hid (chkO ⟨4, b, z, ids, es, lb⟩ = 1) := Lib.hid (chk_snap (by rintro ⟨h, _⟩; have h1 := HIL.out; have h2 := HCi.out; omega))
        clear HOX
        go_enter Tryd.func13, Tryd.ntmps13
        go_wp2_with fail
        go_ret
        exact ⟨by rw [HCH.out]; rfl, HWA.out⟩
      · have hcci : ¬ (i : Int) > 1000 := by omega
        have HCi := Lib.hid hci
        clear hci
        obtain ⟨LL, hLL⟩ : ∃ LL, LL = lb.length := ⟨_, rfl⟩
        rw [← hLL] at hls
        have HLL := Lib.hid hLL
        clear hLL
        by_cases hcl : 255 < LL
        · have hccl : (LL : Int) > 255 := by omega
          have HCl := Lib.hid hcl
          clear hcl
          have HCH : Hid (chkO ⟨4, b, z, ids, es, lb⟩ = 1) := Lib.hid (chk_snap (by rintro ⟨_, h, _⟩; have := HCl.out; have := HLL.out; omega))
          clear HOX
          go_enter Tryd.func13, Tryd.ntmps13
          go_wp2_with fail
          go_ret
          exact ⟨by rw [HCH.out]; rfl, HWA.out⟩
        · have hccl : ¬ (LL : Int) > 255 := by omega
          have HCl := Lib.hid hcl
          clear hcl
          by_cases h1 : i = 1
          · have h1' : ((i : Int) != 1) = false := by rw [h1]; rfl
            have H1 := Lib.hid h1
            clear h1
            have HCH : Hid (chkO ⟨4, b, z, ids, es, lb⟩ = if riseE es = true then 0 else 1) := Lib.hid (by rw [HEb.out, HNes.out]; exact chk_snap_yes (by have h1 := HIL.out; have h2 := H1.out; omega) (by have := HCl.out; have := HLL.out; omega))
            clear HOX
            go_enter Tryd.func13, Tryd.ntmps13
            go_wp2_with fail
            obtain ⟨wA, hwA⟩ : ∃ wA, wA = w.alloc (.cells (#[.int .u8 4, .string (st b), .int .u64 (z : Int), .slice IA i ic, .slice EA m mc, .string (st lb)]) 37) := ⟨_, rfl⟩
            have HC5 : Hid (∀ W, Below wA.heap.size wA W → W.cell? ⟨w.heap.size, 4, none⟩ = some (.slice EA m mc)) := Lib.hid (by rw [hwA]; exact HC4.out)
            have HW5 : Hid (Below w.heap.size w wA) := Lib.hid (by rw [hwA]; exact HWA.out)
            have HA5 : Hid (Below wA.heap.size wA (w.alloc (.cells (#[.int .u8 4, .string (st b), .int .u64 (z : Int), .slice IA i ic, .slice EA m mc, .string (st lb)]) 37))) := Lib.hid (by rw [hwA]; exact Below.refl _ _)
            clear hwA HC4 HWA
            go_loopw [3] (fun v9 wr => v9 = .int .i64 0 ∧ Below wA.heap.size wA wr) (fun _ _ => 0)
            case atStart => exact ⟨rfl, HA5.out⟩
            case round =>
              obtain ⟨rfl, hbel⟩ := hrel
              have hc4 := HC5.out wr hbel
              have HB := Lib.hid hbel
              clear hbel
              go_wp2_with fail
              go_ret
              exact ⟨by rw [HCH.out, HNes.out]; rfl, HW5.out.trans (HB.out.mono HW5.out.size)⟩
          · have h1' : ((i : Int) != 1) = true := by simp; omega
            have H1 := Lib.hid h1
            clear h1
            have HCH : Hid (chkO ⟨4, b, z, ids, es, lb⟩ = 1) := Lib.hid (chk_snap (by rintro ⟨h, _⟩; have h1 := HIL.out; have h2 := H1.out; omega))
            clear HOX
            go_enter Tryd.func13, Tryd.ntmps13
            go_wp2_with fail
            go_ret
            exact ⟨by rw [HCH.out]; rfl, HWA.out⟩
    · have hdm : decide (0 < m) = true := decide_eq_true hzm
      have hnm : ((m : Int) != 0) = true := by simp; omega
      have hem : ((m : Int) == 0) = false := by simp; omega
      have HZm := Lib.hid hzm
      clear hzm
      have HCH : Hid (chkO ⟨4, b, z, ids, es, lb⟩ = 1) := Lib.hid (chk_snap (by rintro ⟨_, _, _, h⟩; have h1 := HM.out.1; have h2 := HZm.out; rw [h] at h1; simp at h1; omega))
      clear HOX
      go_enter Tryd.func13, Tryd.ntmps13
      go_wp2_with fail
      go_ret
      exact ⟨by rw [HCH.out]; rfl, HWA.out⟩
  · have hneb : b.isEmpty = false := by simpa using hb
    rw [hneb] at heb
    have HEb := Lib.hid hb
    clear hb hneb
    have HCH : Hid (chkO ⟨4, b, z, ids, es, lb⟩ = 1) := Lib.hid (chk_snap (by rintro ⟨_, _, h, _⟩; exact HEb.out h))
    clear HOX
    go_enter Tryd.func13, Tryd.ntmps13
    go_wp2_with fail
    go_ret
    exact ⟨by rw [HCH.out]; rfl, HWA.out⟩
theorem rchk_any {w : World} {S : Nat → Prop} {p : At} {x : Ob} (h : Ois w S p x) (hm : p.e ≤ 100000000) :
    Calls Tryd.prog 13 #[.agg (omV p x)] w fun e w' => e = .returned (.int .i64 (chkO x)) ∧ Below w.heap.size w w' := by
  obtain ⟨A, n, c, IA, i, ic, EA, m, mc⟩ := p
  obtain ⟨k, b, z, ids, es, lb⟩ := x
  by_cases h1 : k < 1 ∨ 4 < k
  · exact rchk_none h hm h1
  · have h4 : k = 1 ∨ k = 2 ∨ k = 3 ∨ k = 4 := by omega
    rcases h4 with rfl | rfl | rfl | rfl
    · exact rchk1 h hm
    · exact rchk2 h hm
    · exact rchk3 h hm
    · exact rchk4 h hm
end Go.Proofs.YtmakpjcgiiljfaaDoor

/-! The reference's Check. -/
namespace Go.Proofs.YtmakpjcgiiljfaaDoor
open Go.RowKit Codec

theorem lt_front (a : List UInt8) (c : UInt8) (b : List UInt8) : a < a ++ c :: b := by
  induction a with
  | nil => simp
  | cons x a ih =>
    rw [List.cons_append, List.cons_lt_cons_iff]
    exact .inr ⟨rfl, ih⟩
/-- A file ahead of another one, where a directory of it should be. -/
theorem front_clash {l : Tb} {i k : Nat} {x y : Fi} (hx : l[i]? = some x) (hy : l[k]? = some y) (h : frontB y.1 x.1 = true) : riseB l = false ∨ clashB l = true := by
  cases hr : riseB l with
  | false => exact .inl rfl
  | true =>
    right
    have hR := rise_ris hr
    obtain ⟨r, e⟩ := frontB_iff.1 h
    have hlt : y.1 < x.1 := by rw [e]; exact lt_front _ _ _
    have hki : k < i := by
      rcases Nat.lt_trichotomy k i with h1 | h1 | h1
      · exact h1
      · subst h1
        rw [hx] at hy
        injection hy with hy
        subst hy
        exact absurd hlt (klt_irr _)
      · exact absurd hlt (klt_as (hR i k x y h1 hx hy))
    refine clash_some (i := i) (List.getElem?_eq_some_iff.1 hx).1 ((clashAt_iff hx).2 ⟨y.1, mem_fr.2 (.inr ⟨r, e⟩), ?_⟩)
    unfold aheadL
    rw [List.mem_reverse, List.mem_map]
    exact ⟨y, List.mem_of_getElem? (show (l.take i)[k]? = some y by rw [List.getElem?_take_of_lt hki]; exact hy), rfl⟩
theorem no_clash {l : Tb} (hr : riseB l = true) (h : ∀ (i k : Nat) (x y : Fi), l[i]? = some x → l[k]? = some y → frontB y.1 x.1 = false) : clashB l = false := by
  have hR := rise_ris hr
  refine clash_none fun i hi => ?_
  obtain ⟨x, hx⟩ : ∃ x, l[i]? = some x := ⟨_, List.getElem?_eq_getElem hi⟩
  cases e : clashAt l i with
  | false => rfl
  | true =>
    exfalso
    obtain ⟨q, hq, ha⟩ := (clashAt_iff hx).1 e
    unfold aheadL at ha
    rw [List.mem_reverse, List.mem_map] at ha
    obtain ⟨y, hy, rfl⟩ := ha
    obtain ⟨k, hk⟩ := List.mem_iff_getElem?.1 hy
    have hki : k < i := by
      have := (List.getElem?_eq_some_iff.1 hk).1
      rw [List.length_take] at this
      omega
    rw [List.getElem?_take_of_lt hki] at hk
    rcases mem_fr.1 hq with h1 | ⟨r, h1⟩
    · have := hR k i y x hki hk hx
      rw [h1] at this
      exact klt_irr _ this
    · have := h i k x y hx hk
      rw [frontB_iff.2 ⟨r, h1⟩] at this
      cases this
theorem fst_less (a b : List UInt8) : Op.bytesLess (st a).toList (st b).toList = decide (a < b) := by rw [st_list, st_list, bytes_less]
theorem allF_bound {l : Tb} (h : l.any (fun x => decide (1048576 < x.2.length)) = false) : allF l ≤ 1048576 * l.length := by
  induction l with
  | nil => simp [allF]
  | cons x t ih =>
    simp only [List.any_cons, Bool.or_eq_false_iff, decide_eq_false_iff_not] at h
    have h1 := ih h.2
    have h2 : allF (x :: t) = x.2.length + allF t := by simp [allF]
    rw [h2, List.length_cons]
    omega
theorem too_eq {l : Tb} (h : l.any (fun x => decide (1048576 < x.2.length)) = false) : tooB l = (decide (16777216 < allF l) || decide (65536 < l.length)) := by
  unfold tooB
  rw [h, Bool.or_false, Bool.or_comm]
/-- While they are looked at. -/
structure RkI (l : Tb) (j : Nat) : Prop where
  rise : riseB (l.take j) = true
  front : ∀ (i k : Nat) (x y : Fi), i < j → l[i]? = some x → l[k]? = some y → frontB y.1 x.1 = false
def RkR (w : World) (l : Tb) (i : Value) (wr : World) : Prop := ∃ j : Nat, j ≤ l.length ∧ i = .int .i64 (j : Int) ∧ RkI l j ∧ Below w.heap.size w wr
theorem chk_bad {l : Tb} (h : riseB l = false ∨ clashB l = true) : chkE l = 1 := by unfold chkE; rw [if_pos h]
theorem chk_fine {l : Tb} (h : riseB l = true) (h2 : clashB l = false) : chkE l = if tooB l = true then 13 else 0 := by
  unfold chkE
  rw [if_neg (by rw [h, h2]; simp)]
end Go.Proofs.YtmakpjcgiiljfaaDoor

/-! The reference's Put. -/
namespace Go.Proofs.YtmakpjcgiiljfaaDoor
open Go.RowKit Codec

theorem strB_st (l : List UInt8) : strB l = st l := rfl
/-- While they are put. -/
def RpR (w : World) (l : Tb) (v i : Value) (wr : World) : Prop :=
  ∃ j : Nat, j ≤ l.length ∧ i = .int .i64 (j : Int) ∧ v = .string (st (put l.length ++ filEs (l.take j))) ∧ Below w.heap.size w wr
end Go.Proofs.YtmakpjcgiiljfaaDoor

/-! The reference's Get. -/
namespace Go.Proofs.YtmakpjcgiiljfaaDoor
open Go.RowKit Codec

theorem galike_ui {l m : List UInt8} {e : Int} (h : e = 0 → m = l) : uiX m e = uiX l e ∧ uiE m e = uiE l e ∧ (uiE l e = 0 → uiL m e = uiL l e) := by
  by_cases he : e = 0
  · rw [h he]; exact ⟨rfl, rfl, fun _ => rfl⟩
  · unfold uiX uiE uiL
    simp only [if_neg he]
    exact ⟨trivial, trivial, fun h => absurd h he⟩
theorem galike_fx {l m : List UInt8} {e : Int} (k : Int) (h : e = 0 → m = l) : fxB m e k = fxB l e k ∧ tkE m e k = tkE l e k ∧ (tkE l e k = 0 → fxL m e k = fxL l e k) := by
  by_cases he : e = 0
  · rw [h he]; exact ⟨rfl, rfl, fun _ => rfl⟩
  · have t : ∀ x, tkE x e k = e := fun x => by unfold tkE; rw [if_pos he]
    unfold fxB
    rw [t, t, if_neg he, if_neg he]
    exact ⟨rfl, rfl, fun h => absurd h he⟩
theorem galike_by {l m : List UInt8} {e : Int} (k : Int) (h : e = 0 → m = l) : byB m e k = byB l e k ∧ byE m e k = byE l e k ∧ (byE l e k = 0 → byL m e k = byL l e k) := by
  by_cases he : e = 0
  · rw [h he]; exact ⟨rfl, rfl, fun _ => rfl⟩
  · have t : ∀ x, uiE x e = e := fun x => by unfold uiE; rw [if_neg he]
    have tb : ∀ x, byB x e k = [] := fun x => by unfold byB; rw [t, if_pos he]
    have te : ∀ x, byE x e k = e := fun x => by unfold byE; rw [t, if_pos he]
    rw [tb, tb, te, te]
    exact ⟨rfl, rfl, fun h => absurd h he⟩
theorem r_info : (Tryd.prog.info? 75).map (·.size) = some 2 := by kernel_rfl
def rvC (m : List UInt8) (e : Int) : Array Value := #[.string (strB m), .int .i64 e]
theorem rvC_one (m : List UInt8) (e : Int) : (rvC m e).all (·.oneCell') = true := by simp [rvC, Value.oneCell']
section
variable {w W W' : World} {q x0 : Nat} {m m' : List UInt8} {e e' : Int} {v : Value} {acc : Tb} {K : List UInt8} {F : Fi}
end
theorem zero_r2 : ∀ W, (zeroValue 75).run Tryd.prog W = .ok (.agg #[.string ⟨#[]⟩, .int .i64 0]) W := fun W => by kernel_rfl
/-- What the reference's Get tells. -/
def RgPost (w : World) (r : Tb × Int) (e : Ending) (w' : World) : Prop :=
  ∃ A c, e = .returned (.tuple #[.slice A r.1.length c, .int .i64 r.2]) ∧ Fms w' (w.heap.size ≤ ·) A r.1.length c r.1 ∧ Below w.heap.size w w'
theorem rgPost_nil {w w' : World} {r : Tb × Int} {E : Int} (hr : r = ([], E)) (hb : Below w.heap.size w w') : RgPost w r (.returned (.tuple #[.slice none 0 0, .int .i64 E])) w' := by
  subst hr
  exact ⟨none, 0, rfl, Fms.nil _ _ _ _ (Nat.zero_le _), hb⟩
theorem fgEnd_bad {acc : Tb} {l : List UInt8} {e : Int} (h : e ≠ 0) : fgEnd (acc, l, e) = ([], e) := by
  unfold fgEnd
  simp only
  rw [endE_bad h, if_pos h]
end Go.Proofs.YtmakpjcgiiljfaaDoor

/-! The document's reading of a bool, by value. -/
namespace Go.Proofs.YtmakpjcgiiljfaaDoor
open Go.RowKit Codec

set_option linter.unusedSimpArgs false
set_option maxHeartbeats 1000000 in
theorem ref_bool (l : List UInt8) (e : Int) (w : World) : Calls Tryd.prog 35 #[RV l e] w fun r w' => ∃ y : Bool, (boE l e = 0 → y = boX l e) ∧ RGot w (boE l e) (fxL l e 1) (.bool y) r w' := by
  have hu := fun w => ref_fixed l e 1 w
  unfold boE boX
  by_cases ht : tkE l e 1 = 0
  · obtain ⟨rfl, _, hlen⟩ := tkE_zero ht
    have hlen : 1 ≤ l.length := hlen
    obtain ⟨c, t, rfl⟩ : ∃ c t, l = c :: t := by
      cases l with
      | nil => simp at hlen
      | cons c t => exact ⟨c, t, rfl⟩
    have e2 : fxL (c :: t) 0 1 = t := by unfold fxL; rw [if_pos ht]; rfl
    have e3 : fxB (c :: t) 0 1 = [c] := by unfold fxB; rw [if_pos ht]; rfl
    have e4 : ((c :: t)[0]?.getD 0) = c := rfl
    have hnt : ¬ (tkE (c :: t) 0 1 ≠ 0) := fun h => h ht
    rw [if_neg hnt, if_neg hnt, e2, e4]
    simp only [ht, e2, e3] at hu
    clear ht e2 e3 e4 hnt hlen
    have hd0 := strB_head c []
    have hsz : (strB [c]).size = 1 := by rw [strB_size]; rfl
    by_cases hc : 1 < c.toNat
    · rw [if_pos hc]
      have hc' : 1 < (c.toNat : Int) := by omega
      unfold RV at *
      go_enter Tryd.func35, Tryd.ntmps35
      go_wp2_with fail
      refine (hu _).mono ?_
      rintro _ w1 ⟨rfl, h2⟩
      obtain ⟨⟨c1, c2, c3, c4⟩, ⟨f1, f2, f3, f4⟩, hb1⟩ := two_kept h2
      have hbs := below_four hb1
      have hss := set_set
      clear h2 hu hc
      go_wp2_with fail
      refine bodyPost_ret (v := .tuple #[.agg #[.string (strB t), .int .i64 11], .bool false]) (by simp [results, Tryd.results35, go_sem, c3, c4]) rfl ⟨false, (fun h => by cases h), t, rfl, (fun h => by cases h), hbs _ _ _ _⟩
    · rw [if_neg hc]
      have hc' : (c.toNat : Int) ≤ 1 := by omega
      have HC := Lib.hid (show ((c.toNat : Int) == 1) = (c.toNat == 1) by
        by_cases h : c.toNat = 1
        · rw [h]; rfl
        · have h2 : ¬ ((c.toNat : Int) = 1) := by omega
          rw [show ((c.toNat : Int) == 1) = false by simpa using h2, show (c.toNat == 1) = false by simpa using h])
      unfold RV at *
      go_enter Tryd.func35, Tryd.ntmps35
      go_wp2_with fail
      refine (hu _).mono ?_
      rintro _ w1 ⟨rfl, h2⟩
      obtain ⟨⟨c1, c2, c3, c4⟩, ⟨f1, f2, f3, f4⟩, hb1⟩ := two_kept h2
      have hbs := below_four hb1
      have hss := set_set
      clear h2 hu hc
      go_wp2_with fail
      refine wp_region_plan (fun W => W.cell? ⟨w.heap.size, 0, none⟩ = some (.string (strB t)) ∧ W.cell? ⟨w.heap.size, 1, none⟩ = some (.int .i64 0)) [([0, 1, 2, 3], 4)] [5] (by kernel_rfl) (by kernel_rfl) (fun _ _ d _ _ h => by cases d <;> exact h) (by constructor <;> simp [go_sem, c1, c2]) ?_
      refine plan_eff ?_
      refine seg_read ?v1 (by rfl) (by rfl) ?h1 ?_
      case h1 => intro W hW; obtain ⟨e1, e2⟩ := hW; go_simp; with_reducible rfl
      try simp only [Act.put, List.setIfInBounds_toArray, List.set_cons_zero, List.set_cons_succ]
      refine seg_read ?v2 (by rfl) (by rfl) ?h2 ?_
      case h2 => intro W hW; obtain ⟨e1, e2⟩ := hW; go_simp; with_reducible rfl
      try simp only [Act.put, List.setIfInBounds_toArray, List.set_cons_zero, List.set_cons_succ]
      refine seg_read ?v3 (by rfl) (by rfl) ?h3 ?_
      case h3 => intro W hW; obtain ⟨e1, e2⟩ := hW; go_simp; with_reducible rfl
      try simp only [Act.put, List.setIfInBounds_toArray, List.set_cons_zero, List.set_cons_succ]
      refine seg_read ?v4 (by rfl) (by rfl) ?h4 ?_
      case h4 => intro W hW; obtain ⟨e1, e2⟩ := hW; go_simp; with_reducible rfl
      try simp only [Act.put, List.setIfInBounds_toArray, List.set_cons_zero, List.set_cons_succ]
      refine seg_nil ?_
      refine eff_step (by rfl) (fun K hK => ?_)
      go_simp
      obtain ⟨W9, hW9⟩ : ∃ W9, W9 = ((((w1.setCell ⟨w.heap.size, 0, none⟩ (.string (strB t))).setCell ⟨w.heap.size, 1, none⟩ (.int .i64 0)).setCell ⟨w.heap.size + 1, 0, none⟩ (.string (strB t))).setCell ⟨w.heap.size + 1, 1, none⟩ (.int .i64 0)).drew := ⟨_, rfl⟩
      have hb9 : Below w.heap.size w W9 := by rw [hW9]; exact (hbs _ _ _ _).drew
      have g1 : W9.cell? ⟨w.heap.size, 0, none⟩ = some (.string (strB t)) := by rw [hW9]; simp [go_sem, c1, c2, c3, c4]
      have g2 : W9.cell? ⟨w.heap.size, 1, none⟩ = some (.int .i64 0) := by rw [hW9]; simp [go_sem, c1, c2, c3, c4]
      have g3 : W9.cell? ⟨w.heap.size + 1, 0, none⟩ = some (.string (strB t)) := by rw [hW9]; simp [go_sem, c1, c2, c3, c4]
      have g4 : W9.cell? ⟨w.heap.size + 1, 1, none⟩ = some (.int .i64 0) := by rw [hW9]; simp [go_sem, c1, c2, c3, c4]
      rw [← hW9]
      clear hW9 hbs hb1
      refine hK _ _ ⟨fun W => W = W9, rfl, fun W e => e ▸ ⟨g1, g2⟩, ?_⟩
      clear hK K
      refine plan_last ?_
      refine seg_step (by rfl) (fun K hK => ?_)
      go_simp
      refine hK _ ?_
      clear hK K
      refine seg_nil ?_
      go_wp2
      rw [HC.out]
      refine bodyPost_ret (v := .tuple #[.agg #[.string (strB t), .int .i64 0], .bool (c.toNat == 1)]) (by simp [results, Tryd.results35, go_sem, g3, g4]) rfl ⟨_, (fun _ => rfl), t, rfl, (fun _ => rfl), hb9⟩
  · have hne : tkE l e 1 ≠ 0 := ht
    rw [if_pos hne, if_pos hne]
    have HE := Lib.hid ht
    generalize tkE l e 1 = e1 at *
    generalize fxL l e 1 = m at *
    generalize fxB l e 1 = b at *
    have he' : (e1 != 0) = true := by simpa using ht
    clear ht hne
    unfold RV at *
    go_enter Tryd.func35, Tryd.ntmps35
    go_wp2_with fail
    refine (hu _).mono ?_
    rintro _ w1 ⟨rfl, h2⟩
    obtain ⟨⟨c1, c2, c3, c4⟩, ⟨f1, f2, f3, f4⟩, hb1⟩ := two_kept h2
    have hbs := below_four hb1
    have hss := set_set
    clear h2 hu
    go_wp2_with fail
    refine bodyPost_ret (v := .tuple #[.agg #[.string (strB m), .int .i64 e1], .bool false]) (by simp [results, Tryd.results35, go_sem, c3, c4]) rfl ⟨false, fun h => absurd h HE.out, m, rfl, fun h => absurd h HE.out, hbs _ _ _ _⟩
end Go.Proofs.YtmakpjcgiiljfaaDoor
