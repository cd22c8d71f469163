/-
  The statement MacSame: its walk.
-/
import Derived.Test.YtckgibeiikhaaaaDoorMacAwake
namespace Go.Proofs.YtckgibeiikhaaaaDoor
open Go.RowKit

/-- A load of a whole row by an operation whose guard says yes. -/
theorem wpList_load_row_on {P : Program} {ops : Array Oper} {rest : List Oper} {o : Oper} {a : Act} {w : World} {Q : Exit → Act → World → Prop} (hw : Region.wanted o (yielded ops a.tmps) = true) (ty : TypeId) (x : Operand) (ho : o.op = .load ty x)
    (g : Nat) (hx : a.eval x = .pointer (some ⟨g, 0, none⟩)) (t : TypeId) (cs : Array Value) (fr : Nat × Nat) (d : TypeDesc) (hg : w.heap[g]? = some (.cells cs t fr))
    (hu : P.underlying ty = some d) (hd : (match d with | .struct _ | .array _ _ => true | _ => false) = true) (hi : (P.info? ty).map (·.size) = some cs.size)
    (h : wpList P ops Q rest (a.put o.dst (.agg cs)) w) : wpList P ops Q (o :: rest) a w := by
  unfold wpList
  rw [if_pos hw]
  exact .inl (wp_load_row ty x ho g hx t cs fr d hg hu hd hi h)
theorem set_same {l : List UInt8} {i : Nat} (hi : i < l.length) (x : UInt8) : l = l.set i ((l[i]?.getD 0) ^^^ x) ↔ x = 0 := by
  constructor
  · intro h
    have h1 : l[i]? = (l.set i ((l[i]?.getD 0) ^^^ x))[i]? := congrArg (fun m => m[i]?) h
    rw [List.getElem?_set_self hi, List.getElem?_eq_getElem hi] at h1
    simp only [Option.getD_some, Option.some.injEq] at h1
    have h2 := congrArg (fun b => l[i] ^^^ b) h1
    simpa [← UInt8.xor_assoc] using h2.symm
  · rintro rfl
    rw [List.getElem?_eq_getElem hi]
    simp

set_option maxHeartbeats 8000000 in
set_option maxRecDepth 100000 in
theorem walk_same {w : World} (a : List UInt8) (ha : a.length = 32) {at_ x0 : Int} (hat : (Lit.int .u8 at_).wf = true) (hx0 : (Lit.int .u8 x0).wf = true) (ht : Tab w) :
    Calls Tryd.prog 5 #[.agg (row8 a), .int .u8 at_, .int .u8 x0] w fun e w' => e = .returned (.bool true) ∧ Below w.heap.size w w' := by
  have hb1 := bounds_u8 hat
  have hb2 := bounds_u8 hx0
  have hzi := zero_id
  obtain ⟨x, rfl⟩ : ∃ x : UInt8, (x.toNat : Int) = x0 := ⟨UInt8.ofNat x0.toNat, by simp; omega⟩
  obtain ⟨i, hi⟩ : ∃ i : Nat, at_ % 32 = (i : Int) := ⟨(at_ % 32).toNat, by omega⟩
  have hi32 : i < 32 := by omega
  obtain ⟨AS, hAS⟩ : ∃ AS, AS = row8 a := ⟨_, rfl⟩
  rw [← hAS]
  obtain ⟨v, hv⟩ : ∃ v, v = (a[i]?.getD 0) ^^^ x := ⟨_, rfl⟩
  obtain ⟨b, hb⟩ : ∃ b, b = a.set i v := ⟨_, rfl⟩
  have hbl : b.length = 32 := by rw [hb, List.length_set, ha]
  have hab : a = b ↔ x = 0 := by rw [hb, hv]; exact set_same (by omega) x
  have hxv := xor8 (a[i]?.getD 0) x
  rw [← hv] at hxv
  obtain ⟨y, hy⟩ : ∃ y, y = a[i]?.getD 0 := ⟨_, rfl⟩
  rw [← hy] at hxv
  have HAS : Hid (AS.size = 32 ∧ AS = row8 a ∧ a.length = 32 ∧ AS.all (·.oneCell') = true) := Lib.hid ⟨by rw [hAS, row8_size, ha], hAS, ha, by rw [hAS]; exact row8_one _⟩
  obtain ⟨BS, hBS⟩ : ∃ BS, BS = row8 b := ⟨_, rfl⟩
  have HBS : Hid (BS.size = 32 ∧ BS = row8 b ∧ b.length = 32) := Lib.hid ⟨by rw [hBS, row8_size, hbl], hBS, hbl⟩
  have HYB := Lib.hid (And.intro hy hb)
  obtain ⟨z, hz⟩ : ∃ z, z = decide (x = 0) := ⟨_, rfl⟩
  have HS1 : Hid (∀ W, Calls Tryd.prog 13 #[.agg AS, .agg BS] W fun e w' => e = .returned (.bool z) ∧ Below W.heap.size W w') := Lib.hid fun W => by
    rw [hAS, hBS, hz, show decide (x = 0) = decide (a = b) from decide_eq_decide.2 hab.symm]
    exact same_any a b ha hbl W
  have HS2 : Hid (∀ W, Calls Tryd.prog 13 #[.agg BS, .agg AS] W fun e w' => e = .returned (.bool z) ∧ Below W.heap.size W w') := Lib.hid fun W => by
    rw [hAS, hBS, hz, show decide (x = 0) = decide (b = a) from decide_eq_decide.2 (by rw [← hab]; exact eq_comm)]
    exact same_any b a hbl ha W
  have HS3 : Hid (∀ W, Calls Tryd.prog 13 #[.agg AS, .agg AS] W fun e w' => e = .returned (.bool true) ∧ Below W.heap.size W w') := Lib.hid fun W => by
    rw [hAS]
    refine (same_any a a ha ha W).mono ?_
    rintro _ w' ⟨rfl, hb⟩
    exact ⟨by simp, hb⟩
  have hxz : ((x.toNat : Int) == 0) = z := by
    rw [hz]
    by_cases h0 : x = 0
    · subst h0; rfl
    · have h1 : ¬ x.toNat = 0 := fun h => h0 (UInt8.toNat.inj h)
      have h2 : ((x.toNat : Int) == 0) = false := by simpa using (show ¬ ((x.toNat : Nat) : Int) = 0 by omega)
      rw [h2]; simp [h0]
  have HBX : Hid (Below w.heap.size w (w.alloc (.cells AS 27)) ∧ (w.alloc (.cells AS 27)).heap[w.heap.size]? = some (.cells AS 27 (0, 0))) := Lib.hid ⟨(Below.refl _ _).alloc (Nat.le_refl _) _, heap_alloc_new w _⟩
  clear hat hx0 hAS hv hb hbl hab hy hBS hz ha
  go_enter Tryd.func5, Tryd.ntmps5
  go_wp2_with fail
  refine (mawake_true (ht.below HBX.out.1)).mono ?_
  rintro _ w1 ⟨rfl, hb1⟩
  have HB1 : Hid (Below w.heap.size w w1 ∧ w1.heap[w.heap.size]? = some (.cells AS 27 (0, 0))) := Lib.hid ⟨HBX.out.1.trans (hb1.mono HBX.out.1.size), (hb1.block _ (lt_of_cells HBX.out.2)).trans HBX.out.2⟩
  have HG2 := Lib.hid (heap_alloc_new w1 (.cells zerosId 27))
  have hlt1 := lt_of_cells HB1.out.2
  have HA2 : Hid ((w1.alloc (.cells zerosId 27)).heap[w.heap.size]? = some (.cells AS 27 (0, 0))) := Lib.hid ((Below.heap_alloc _ _ _ hlt1).trans HB1.out.2)
  clear ht hb1 HBX
  go_upto_region 5 with (first | (refine wpList_load_row (by rfl) 27 (.tmp 3) (by rfl) w.heap.size (by rfl) 27 AS (0, 0) _ HB1.out.2 Tryd.underlying27 (by rfl) (by rw [HAS.out.1]; exact id_info) ?_) | (refine wpList_store_row (by rfl) 27 (.tmp 8) (.tmp 12) (by rfl) w1.heap.size AS (by rfl) (by rfl) 27 _ HG2.out (by rw [HAS.out.1]; exact id_info) (by rw [HAS.out.1]; rfl) HAS.out.2.2.2 ?_))
  have h8 := setRow_at (new := AS) HG2.out
  have h0 : ((w1.alloc (.cells zerosId 27)).setRow w1.heap.size AS).heap[w.heap.size]? = some (.cells AS 27 (0, 0)) := by
    simp only [World.setRow, Array.getElem?_modify]
    rw [if_neg (by omega)]
    exact HA2.out
  have hbl2 : Below w.heap.size w ((w1.alloc (.cells zerosId 27)).setRow w1.heap.size AS) := below_setRow (HB1.out.1.alloc HB1.out.1.size _) HB1.out.1.size _
  generalize (w1.alloc (.cells zerosId 27)).setRow w1.heap.size AS = w2 at *
  generalize w1.heap.size = g8 at *
  rw [HAS.out.2.1] at h8
  have hcell := u8s_cell h8 i (by rw [HAS.out.2.2.1]; exact hi32)
  rw [← HYB.out.1] at hcell
  have hfree := free_of_cells h8 i
  have h8' : (w2.setCell ⟨g8, i, none⟩ (.int .u8 (v.toNat : Int))).heap[g8]? = some (.cells BS 27 (0, 0)) := by
    rw [HBS.out.2.1, HYB.out.2]
    exact u8s_cells_set h8 i v
  have h0' : (w2.setCell ⟨g8, i, none⟩ (.int .u8 (v.toNat : Int))).heap[w.heap.size]? = some (.cells AS 27 (0, 0)) := (Below.heap_setCell _ _ _ _ (by dsimp only; omega)).trans h0
  have HW : Hid (Below w.heap.size w (w2.setCell ⟨g8, i, none⟩ (.int .u8 (v.toNat : Int))) ∧ (w2.setCell ⟨g8, i, none⟩ (.int .u8 (v.toNat : Int))).heap[w.heap.size]? = some (.cells AS 27 (0, 0)) ∧ (w2.setCell ⟨g8, i, none⟩ (.int .u8 (v.toNat : Int))).heap[g8]? = some (.cells BS 27 (0, 0))) := Lib.hid ⟨hbl2.setCell (by dsimp only; omega) _, h0', h8'⟩
  clear h8 h0 hbl2 h8' h0' HG2 HA2 hzi HB1
  go_upto_region 6 with fail
  generalize w2.setCell ⟨g8, i, none⟩ (.int .u8 (v.toNat : Int)) = w3 at *
  clear hcell hfree hxv
  obtain ⟨q0, hq0⟩ : ∃ q0, q0 = w.heap.size := ⟨_, rfl⟩
  have HW : Hid (Below w.heap.size w w3 ∧ w3.heap[q0]? = some (.cells AS 27 (0, 0)) ∧ w3.heap[g8]? = some (.cells BS 27 (0, 0))) := Lib.hid (by rw [hq0]; exact HW.out)
  rw [← hq0]
  clear hq0
  go_wp2_with (first | (refine wpList_load_row (by rfl) 27 (.tmp 3) (by rfl) q0 (by rfl) 27 AS (0, 0) _ HW.out.2.1 Tryd.underlying27 (by rfl) (by rw [HAS.out.1]; exact id_info) ?_) | (refine wpList_load_row (by rfl) 27 (.tmp 8) (by rfl) g8 (by rfl) 27 BS (0, 0) _ HW.out.2.2 Tryd.underlying27 (by rfl) (by rw [HBS.out.1]; exact id_info) ?_))
  refine (HS1.out _).mono ?_
  rintro _ w4 ⟨rfl, hb4⟩
  have HW4 : Hid (Below w.heap.size w w4 ∧ w4.heap[q0]? = some (.cells AS 27 (0, 0)) ∧ w4.heap[g8]? = some (.cells BS 27 (0, 0))) := Lib.hid ⟨HW.out.1.trans (hb4.mono HW.out.1.size), (hb4.block _ (lt_of_cells HW.out.2.1)).trans HW.out.2.1, (hb4.block _ (lt_of_cells HW.out.2.2)).trans HW.out.2.2⟩
  clear hb4
  go_wp2_with (first | (refine wpList_load_row_on (by rfl) 27 (.tmp 3) (by rfl) q0 (by rfl) 27 AS (0, 0) _ HW4.out.2.1 Tryd.underlying27 (by rfl) (by rw [HAS.out.1]; exact id_info) ?_) | (refine wpList_load_row_on (by rfl) 27 (.tmp 8) (by rfl) g8 (by rfl) 27 BS (0, 0) _ HW4.out.2.2 Tryd.underlying27 (by rfl) (by rw [HBS.out.1]; exact id_info) ?_))
  refine (HS2.out _).mono ?_
  rintro _ w5 ⟨rfl, hb5⟩
  have HW5 : Hid (Below w.heap.size w w5 ∧ w5.heap[q0]? = some (.cells AS 27 (0, 0))) := Lib.hid ⟨HW4.out.1.trans (hb5.mono HW4.out.1.size), (hb5.block _ (lt_of_cells HW4.out.2.1)).trans HW4.out.2.1⟩
  clear hb5
  go_wp2_with (refine wpList_load_row_on (by rfl) 27 (.tmp 3) (by rfl) q0 (by rfl) 27 AS (0, 0) _ HW5.out.2 Tryd.underlying27 (by rfl) (by rw [HAS.out.1]; exact id_info) ?_)
  refine (HS3.out _).mono ?_
  rintro _ w6 ⟨rfl, hb6⟩
  have HB6 := Lib.hid (HW5.out.1.trans (hb6.mono HW5.out.1.size))
  clear hb6
  go_wp2_with fail
  go_ret
  exact ⟨rfl, HB6.out⟩
end Go.Proofs.YtckgibeiikhaaaaDoor
