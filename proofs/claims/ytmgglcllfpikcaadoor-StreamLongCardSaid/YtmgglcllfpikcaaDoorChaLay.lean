/-
  The stream's told and lay.
-/
import Derived.Test.YtmgglcllfpikcaaDoorChaRefLaid
namespace Go.Proofs.YtmgglcllfpikcaaDoor
open Go.RowKit

def zeros64q : Array Value := (u8s (List.replicate 64 0)).toArray
theorem zero64q : ∀ W, (zeroValue 27).run Tryd.prog W = .ok (.agg zeros64q) W := fun W => by unfold zeros64q; kernel_rfl
theorem info64q : (Tryd.prog.info? 27).map (·.size) = some 64 := by kernel_rfl
theorem told_le' (x : BitVec 32) (e : Nat) : (nv x / 2 ^ e) % 256 = (((UInt8.ofNat (x.toNat / 2 ^ e)).toNat : Nat) : Int) := told_byte x e

set_option maxHeartbeats 2000000 in
set_option maxRecDepth 100000 in
theorem ctold_any {w : World} {p : Nat} {s : List (BitVec 32)} (h : Row16 39 w p s) :
    Calls Tryd.prog 15 #[.pointer (some ⟨p, 0, none⟩)] w fun e w' => e = .returned (.agg (row8 (leA s 64))) ∧ Below w.heap.size w w' := by
  have hz := zero64q
  have HS := Lib.hid h
  have HW0 : Hid (((w.alloc (.cells zeros64q 27)).alloc (.cells zeros64q 27)).heap[w.heap.size]? = some (.cells zeros64q 27 (0, 0)) ∧ ((w.alloc (.cells zeros64q 27)).alloc (.cells zeros64q 27)).heap[w.heap.size + 1]? = some (.cells (row8 (leA s 0)) 27 (0, 0)) ∧ Below w.heap.size w ((w.alloc (.cells zeros64q 27)).alloc (.cells zeros64q 27))) := Lib.hid (by
    refine ⟨(Below.heap_alloc _ _ _ (by simp)).trans (heap_alloc_new w _), ?_, ((Below.refl _ _).alloc (Nat.le_refl _) _).alloc (by simp) _⟩
    have := heap_alloc_new (w.alloc (.cells zeros64q 27)) (.cells zeros64q 27)
    rw [World.size_alloc] at this
    exact this)
  clear h
  go_enter Tryd.func15, Tryd.ntmps15
  go_wp2_with fail
  generalize (w.alloc (.cells zeros64q 27)).alloc (.cells zeros64q 27) = W0 at *
  go_loopw [5] (fun i wr => ∃ m : Nat, m ≤ 64 ∧ i = .int .i64 m ∧ Below w.heap.size w wr ∧ wr.heap[w.heap.size]? = some (.cells zeros64q 27 (0, 0)) ∧ wr.heap[w.heap.size + 1]? = some (.cells (row8 (leA s m)) 27 (0, 0)))
    (fun i _ => 64 - (intOf i).toNat)
  case atStart => exact ⟨0, Nat.zero_le _, rfl, HW0.out.2.2, HW0.out.1, HW0.out.2.1⟩
  case round =>
    obtain ⟨m, hm, rfl, hbr, h1, h2⟩ := hrel
    have HX := Lib.hid (And.intro hbr (And.intro h1 h2))
    clear HW0 hbr h1 h2
    by_cases hlt : m < 64
    · have hw := (HS.out.below HX.out.1).cell (m / 4) (by omega)
      have HL := Lib.hid (show leA s (m + 1) = (leA s m).set m (UInt8.ofNat ((s[m / 4]?.getD 0).toNat / 2 ^ (8 * (m % 4)))) from rfl)
      have hcell := u8s_cell HX.out.2.2 m (by rw [leA_length]; exact hlt)
      have hfree := free_of_cells HX.out.2.2 m
      generalize s[m / 4]?.getD 0 = x at *
      have HTE := Lib.hid (told_le' x (8 * (m % 4)))
      have h4 : m % 4 < 4 := by omega
      go_wp2_with fail
      go_roundw
      case rel =>
        refine ⟨m + 1, by omega, by go_num, HX.out.1.setCell (by dsimp only; omega) _, (Below.heap_setCell _ _ _ _ (by dsimp only; omega)).trans HX.out.2.1, ?_⟩
        rw [HTE.out, HL.out]
        exact u8s_cells_set HX.out.2.2 m _
      case measure => simp [intOf]; omega
    · obtain rfl : m = 64 := by omega
      obtain ⟨PS, hPS⟩ : ∃ PS, PS = row8 (leA s 64) := ⟨_, rfl⟩
      have HX3 : Hid (Below w.heap.size w wr ∧ wr.heap[w.heap.size]? = some (.cells zeros64q 27 (0, 0)) ∧ wr.heap[w.heap.size + 1]? = some (.cells PS 27 (0, 0))) := Lib.hid (by rw [hPS]; exact HX.out)
      have HPS : Hid (Unit → PS = row8 (leA s 64) ∧ PS.size = 64 ∧ PS.all (·.oneCell') = true) := Lib.hid fun _ => ⟨hPS, by rw [hPS, row8_size, leA_length], by rw [hPS]; exact row8_one _⟩
      clear HX hPS hlt hm
      go_wp2_with (first | (refine wpList_load_row (by rfl) 27 (.tmp 3) (by rfl) (w.heap.size + 1) (by rfl) 27 PS (0, 0) _ HX3.out.2.2 Tryd.underlying27 (by rfl) (by rw [(HPS.out ()).2.1]; exact info64q) ?_) | (refine wpList_store_row (by rfl) 27 (.tmp 2) (.tmp 22) (by rfl) w.heap.size PS (by rfl) (by rfl) 27 _ HX3.out.2.1 (by rw [(HPS.out ()).2.1]; exact info64q) (by rw [(HPS.out ()).2.1]; rfl) (HPS.out ()).2.2 ?_))
      exact bodyPost_ret (results_cell_row rfl _ _ w.heap.size 27 PS (0, 0) _ rfl (setRow_at HX3.out.2.1) Tryd.underlying27 rfl (by rw [(HPS.out ()).2.1]; exact info64q)) rfl ⟨by rw [(HPS.out ()).1], below_setRow HX3.out.1 (Nat.le_refl _) _⟩
/-- What holds while bytes are laid into the row at p. -/
structure LSt (w0 : World) (t tb : TypeId) (p g : Nat) (b : List UInt8) (s : List (BitVec 32)) (w : World) : Prop where
  row : Row16 t w p s
  bytes : w.heap[g]? = some (.cells (row8 b) tb (0, 0))
  turned : Turned (· = p) w0 w
theorem LSt.drew {w0 w : World} {t tb : TypeId} {p g : Nat} {b : List UInt8} {s : List (BitVec 32)} (h : LSt w0 t tb p g b s w) : LSt w0 t tb p g b s w.drew := ⟨h.row.drew, h.bytes, h.turned.drew⟩
theorem LSt.set {w0 w : World} {t tb : TypeId} {p g : Nat} {b : List UInt8} {s : List (BitVec 32)} (h : LSt w0 t tb p g b s w) (hg : g ≠ p) (i : Nat) (x : BitVec 32) : LSt w0 t tb p g b (s.set i x) (w.setCell ⟨p, i, none⟩ (.int .u32 (nv x))) :=
  ⟨h.row.set i x, (Below.heap_setCell _ _ _ _ hg).trans h.bytes, h.turned.set rfl i _⟩
theorem shl_le (x : BitVec 32) (e : Nat) : nv x * 2 ^ e % 4294967296 = nv (x <<< e) := by
  unfold nv
  rw [BitVec.toNat_shiftLeft, Nat.shiftLeft_eq]
  have h : (2 : Nat) ^ 32 = 4294967296 := rfl
  rw [h]
  simp

set_option maxHeartbeats 2000000 in
set_option maxRecDepth 100000 in
theorem lay_any {w : World} {t tb : TypeId} {p g o n c : Nat} {b : List UInt8} {s : List (BitVec 32)} (hr : Row16 t w p s) (hb : w.heap[g]? = some (.cells (row8 b) tb (0, 0))) (hg : g ≠ p) (hn : b.length ≤ 4 * n) (ho : o + n ≤ 16) (hz : ∀ j, o ≤ j → s[j]?.getD 0 = 0) :
    Calls Tryd.prog 18 #[.slice (some ⟨p, o, none⟩) n c, .slice (some ⟨g, 0, none⟩) b.length b.length] w fun e w' => e = .returned (.tuple #[]) ∧ Row16 t w' p (layN b o s b.length) ∧ Turned (· = p) w w' := by
  have HZ := Lib.hid hz
  have H0 : Hid (LSt w t tb p g b s w) := Lib.hid ⟨hr, hb, Turned.refl _ _⟩
  clear hr hb hz
  obtain ⟨N, hN⟩ : ∃ N, N = b.length := ⟨_, rfl⟩
  rw [← hN] at hn ⊢
  have HN := Lib.hid hN
  clear hN
  go_enter Tryd.func18, Tryd.ntmps18
  go_wp2_with fail
  go_loopw [8] (fun i wr => ∃ m : Nat, m ≤ N ∧ i = .int .i64 m ∧ LSt w t tb p g b (layN b o s m) wr) (fun i _ => N - (intOf i).toNat)
  case atStart => exact ⟨0, Nat.zero_le _, rfl, H0.out⟩
  case round =>
    obtain ⟨m, hm, rfl, hst⟩ := hrel
    have HX := Lib.hid hst
    clear H0 hst
    by_cases hlt : m < N
    · have hcell := u8s_cell HX.out.bytes m (by rw [← HN.out]; exact hlt)
      have HS := Lib.hid (layN_small b o s HZ.out m)
      have HE := Lib.hid (show layN b o s (m + 1) = (layN b o s m).set (o + m / 4) ((layN b o s m)[o + m / 4]?.getD 0 + (BitVec.ofNat 32 (b[m]?.getD 0).toNat) <<< (8 * (m % 4))) from rfl)
      obtain ⟨ch, hch⟩ : ∃ ch, b[m]?.getD 0 = ch := ⟨_, rfl⟩
      rw [hch] at hcell HE
      rw [W32.of_byte] at hcell
      have HLO := Lib.hid (lay_or ((layN b o s m)[o + m / 4]?.getD 0) ch (m % 4) (by omega) HS.out)
      clear hch HS
      generalize BitVec.ofNat 32 ch.toNat = y at *
      go_wp2_with fail
      refine wp_region_still_tail 13 (by kernel_rfl) (by kernel_rfl) ?_
      simp only [List.take_succ_cons, List.take_zero, List.drop_succ_cons, List.drop_zero]
      show wpStill _ _ wr.drew (fun a' => wpList _ _ _ _ a' wr.drew) _ _
      have HD := Lib.hid HX.out.drew
      clear HX hcell
      generalize wr.drew = wd at *
      have d0 := HD.out.row.cell (o + m / 4) (by omega)
      have f0 := HD.out.row.free (o + m / 4)
      generalize (layN b o s m)[o + m / 4]?.getD 0 = x at *
      have hx0 : (m : Int).tdiv 4 = ((m / 4 : Nat) : Int) := by rw [Int.tdiv_eq_ediv_of_nonneg (by omega)]; omega
      have hx1 : (m : Int).tmod 4 = ((m % 4 : Nat) : Int) := by rw [Int.tmod_eq_emod_of_nonneg (by omega)]; omega
      have hq : m / 4 < n := by omega
      have hr : m % 4 < 4 := by omega
      generalize m / 4 = q4 at *
      generalize m % 4 = r4 at *
      have hw := IntWalk.i64_in (8 * (r4 : Int)) (by omega)
      have hwq := IntWalk.i64_in (q4 : Int) (by omega)
      have hwr := IntWalk.i64_in (r4 : Int) (by omega)
      have iq : (q4 : Int) < n := by omega
      have ir : ¬ 8 * (r4 : Int) < 0 := by omega
      have n4 : IntKind.u32.wrap (nv y) = nv y := by rw [IntKind.wrap_u32', W32.mod_]
      have hsh : IntKind.u32.wrap (nv y * 2 ^ (8 * (r4 : Int)).toNat) = nv (y <<< (8 * r4)) := by
        rw [show (8 * (r4 : Int)).toNat = 8 * r4 by omega, IntKind.wrap_u32', shl_le]
      generalize y <<< (8 * r4) = v at *
      have hor := W32.or_ x v
      iterate 13 still_step
      refine wpStill_nil ?_
      clear hsh hor
      go_wp2_with fail
      go_roundw
      case rel =>
        refine ⟨m + 1, by omega, by go_num, ?_⟩
        rw [HLO.out, HE.out]
        exact HD.out.set hg _ _
      case measure => simp [intOf]; omega
    · obtain rfl : m = N := by omega
      go_wp2_with fail
      go_end0
      exact ⟨rfl, HX.out.row, HX.out.turned⟩
end Go.Proofs.YtmgglcllfpikcaaDoor
