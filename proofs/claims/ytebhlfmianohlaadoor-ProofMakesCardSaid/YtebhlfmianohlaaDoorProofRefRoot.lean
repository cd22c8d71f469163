/-
  The reference's Root.
-/
import Derived.Test.YtebhlfmianohlaaDoorProofRefAbove
namespace Go.Proofs.YtebhlfmianohlaaDoor
open Go.RowKit

def slLn : Value → Nat
  | .slice _ n _ => n
  | _ => 0
theorem digs_32 (b : List UInt8) : ∀ x ∈ digs b, x.length = 32 := fun x hx => by
  obtain ⟨y, _, rfl⟩ := List.mem_map.1 hx
  exact leafD_length y
def RRt (w0 : World) (N : Nat) (T : List UInt8) (v : Value) (wr : World) : Prop :=
  ∃ A n c l, v = .slice A n c ∧ Ids wr (w0.heap.size ≤ ·) A n c l ∧ 0 < n ∧ n ≤ N ∧ topL l = T ∧ Below w0.heap.size w0 wr

set_option maxHeartbeats 4000000 in
set_option maxRecDepth 100000 in
theorem rroot_any (b : List UInt8) (hb : b.length ≤ 1000000) (w : World) :
    Calls Tryd.prog 13 #[.string (st b)] w fun e w' => e = .returned (.agg (row8 (rootL b))) ∧ Below w.heap.size w w' := by
  have hz := zero_id
  have hpos := splitL_pos b
  have hcnt := splitL_count b
  have hN6 : (splitL b).length ≤ 1000000 := by split at hcnt <;> omega
  have hro := rrow_any b hb (w.alloc (.cells zerosId 31))
  obtain ⟨N, hN⟩ : ∃ N, N = (splitL b).length := ⟨_, rfl⟩
  rw [← hN] at hro hpos hN6
  obtain ⟨RS, hRS⟩ : ∃ RS, RS = row8 (rootL b) := ⟨_, rfl⟩
  rw [← hRS]
  have HRS : Hid (RS = row8 (rootL b) ∧ RS.size = 32 ∧ RS.all (·.oneCell') = true ∧ rootL b = crownD N (topL (digs b))) := Lib.hid ⟨hRS, by rw [hRS, row8_size]; exact crownD_length _ _, by rw [hRS]; exact row8_one _, by rw [hN]; rfl⟩
  have HN := Lib.hid (And.intro hpos hN6)
  have H0 : Hid (Below w.heap.size w (w.alloc (.cells zerosId 31)) ∧ (w.alloc (.cells zerosId 31)).heap[w.heap.size]? = some (.cells zerosId 31 (0, 0)) ∧ (w.alloc (.cells zerosId 31)).heap.size = w.heap.size + 1) := Lib.hid ⟨(Below.refl _ _).alloc (Nat.le_refl _) _, heap_alloc_new w _, World.size_alloc _ _⟩
  clear hRS hN hcnt
  go_enter Tryd.func13, Tryd.ntmps13
  go_wp2_with fail
  refine hro.mono ?_
  clear hro hz
  generalize w.alloc (.cells zerosId 31) = w0 at *
  rintro _ w1 ⟨v, rfl, hown, hb1⟩
  obtain ⟨A1, c1, rfl, hi1⟩ := own_ids hown (digs_32 b)
  have HR1 : Hid (RRt w0 N (topL (digs b)) (.slice A1 N c1) w1) := Lib.hid ⟨A1, N, c1, _, rfl, hi1, hpos, Nat.le_refl _, rfl, hb1⟩
  clear hown hi1 hb1 hpos hN6
  go_wp2_with fail
  go_loopw [3] (fun v wr => RRt w0 N (topL (digs b)) v wr) (fun v _ => slLn v)
  case atStart => exact HR1.out
  case round =>
    obtain ⟨A, n, c, l, rfl, hids, hn0, hnN, htop, hbr⟩ := hrel
    have HX := Lib.hid (And.intro hids (And.intro hbr htop))
    have hNb := HN.out.2
    clear hids hbr htop
    by_cases h1 : 1 < n
    · have h1' : (1 : Int) < (n : Int) := by omega
      go_wp2_with fail
      refine (rabove_any HX.out.1 hn0 (by omega)).mono ?_
      rintro _ w2 ⟨v, rfl, hown, hb2⟩
      obtain ⟨A2, c2, rfl, hi2⟩ := own_ids hown (aboveL_32 HX.out.1.each)
      have HR2 : Hid (RRt w0 N (topL (digs b)) (.slice A2 ((n + 1) / 2) c2) w2) := Lib.hid ⟨A2, _, c2, _, rfl, hi2.mono (fun b _ h => Nat.le_trans HX.out.2.1.size h), by omega, by omega, (topL_more (by rw [HX.out.1.len]; exact h1)).symm.trans HX.out.2.2, HX.out.2.1.trans (hb2.mono HX.out.2.1.size)⟩
      clear hown hi2 hb2
      go_wp2_with fail
      go_roundw
      case rel => exact HR2.out
      case measure => simp only [slLn]; omega
    · have h1' : ¬ (1 : Int) < (n : Int) := by omega
      have htop := HX.out.2.2
      rw [topL_one (by rw [HX.out.1.len]; exact h1)] at htop
      obtain ⟨t, ht⟩ : ∃ t, t = topL (digs b) := ⟨_, rfl⟩
      obtain ⟨TS, hTS⟩ : ∃ TS, TS = row8 t := ⟨_, rfl⟩
      have HT : Hid (TS = row8 t ∧ t.length = 32 ∧ t = l[0]?.getD [] ∧ crownD N t = rootL b) := Lib.hid ⟨hTS, by rw [ht, ← htop]; exact get32 HX.out.1.each (by rw [HX.out.1.len]; exact hn0), ht.trans htop.symm, by rw [ht, HRS.out.2.2.2]⟩
      obtain ⟨ba, off, rfl, _⟩ := HX.out.1.row hn0
      have hcr := rcrown_any N (by omega) t HT.out.2.1 wr
      rw [HT.out.2.2.2, ← HRS.out.1, ← HT.out.1] at hcr
      have hn0' : (0 : Int) < (n : Int) := by omega
      clear ht hTS htop
      go_wp2_with (first
        | refine wpList_load_id (by rfl) (.tmp 16) (by rfl) HX.out.1 0 hn0 TS (by rw [← HT.out.2.2.1]; exact HT.out.1) off (by simp) (by rfl) ?_
        | (go_at_call 30; refine hcr.mono ?_; clear hcr; rintro _ w2 ⟨rfl, hb2⟩
           have H2 : Hid (Below w0.heap.size w0 w2 ∧ w2.heap[w.heap.size]? = some (.cells zerosId 31 (0, 0))) := Lib.hid (by
             have hb := HX.out.2.1.trans (hb2.mono HX.out.2.1.size)
             exact ⟨hb, (hb.block _ (by have := H0.out.2.2; omega)).trans H0.out.2.1⟩)
           clear hb2)
        | refine wpList_store_row (by rfl) 31 (.tmp 2) (.tmp 18) (by rfl) w.heap.size RS (by rfl) (by rfl) 31 zerosId H2.out.2 (by rw [HRS.out.2.1]; exact id_info) (by rw [HRS.out.2.1]; rfl) HRS.out.2.2.1 ?_)
      have hfin : Below w.heap.size w (w2.setRow w.heap.size RS) := below_setRow (H0.out.1.trans (H2.out.1.mono (by have := H0.out.2.2; omega))) (Nat.le_refl _) _
      have HF := Lib.hid (And.intro hfin (setRow_at (new := RS) H2.out.2))
      clear hfin
      generalize w2.setRow w.heap.size RS = w3 at HF ⊢
      exact bodyPost_ret (results_cell_row rfl _ _ w.heap.size 31 RS (0, 0) _ rfl HF.out.2 Tryd.underlying31 rfl (by rw [HRS.out.2.1]; exact id_info)) rfl ⟨rfl, HF.out.1⟩
end Go.Proofs.YtebhlfmianohlaaDoor
