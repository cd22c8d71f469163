/-
  bytes.Equal, digest.Two, and the document's example at the head of each statement.
-/
import Derived.Test.YtjingbichgpfaaaDoorShaOf
import Derived.Test.YtjingbichgpfaaaDoorArrEq
import Derived.Lib.SlBytesConst
import Derived.Deep.DeepCutAuto
namespace Go.Proofs.YtjingbichgpfaaaDoor
open Go.RowKit

theorem str_of (l : List UInt8) : strOfNums (l.map fun c => (c.toNat : Int)) = ⟨l.toArray⟩ := by
  unfold strOfNums
  congr 2
  rw [List.map_map]
  conv => rhs; rw [← List.map_id l]
  apply List.map_congr_left
  intro c _
  simp

/-- string(b) -/
theorem byt_string {w : World} {S : Nat → Prop} {A : Option Addr} {n c : Nat} {l : List UInt8} (h : Byt w S A n c l) : (convert 24 9 (.slice A n c)).run Tryd.prog w = .ok (.string ⟨l.toArray⟩) w := by
  have hl := h.len
  by_cases h0 : 0 < n
  · obtain ⟨b, off, rfl, _, _, hc⟩ := h.row h0
    have := run_convert_bytes_arg (P := Tryd.prog) w 24 5 Tryd.underlying24 Tryd.underlying5 b off n c (l.map fun c => (c.toNat : Int)) (by simp [hl]) (fun i hi => by
      rw [hc i hi]
      simp [List.getD, List.getElem?_map, List.getElem?_eq_getElem (show i < l.length by omega)]) 9 Tryd.underlying9
    rw [this, str_of]
  · have : n = 0 := by omega
    subst this
    have : l = [] := List.eq_nil_of_length_eq_zero hl
    subst this
    rcases A with _ | ad
    · rw [run_convert_bytes_nil w 24 5 Tryd.underlying24 Tryd.underlying5 0 c 9 Tryd.underlying9]
      rfl
    · rw [run_convert_bytes_string w 24 9 5 (some ad) 0 c Tryd.underlying24 Tryd.underlying5 Tryd.underlying9, run_bytesToString w ad 0 c [] (by simp [loadCells, loadCellsFrom])]
      rfl

theorem equal_any {w : World} {S T : Nat → Prop} {A B : Option Addr} {n c k d : Nat} {l m : List UInt8} (h1 : Byt w S A n c l) (h2 : Byt w T B k d m) :
    Calls Tryd.prog 19 #[.slice A n c, .slice B k d] w fun e w' => e = .returned (.bool (l == m)) ∧ w = w' := by
  have s1 := byt_string h1
  have s2 := byt_string h2
  clear h1 h2
  go_enter Tryd.func19, Tryd.ntmps19
  go_wp2
  go_ret
  exact ⟨rfl, rfl⟩

theorem byt_new {w : World} (l : List UInt8) (t : TypeId) (f : Nat × Nat) (hl : l.length ≤ 1000000) : Byt (w.alloc (.cells (u8s l).toArray t f)) (fun _ => True) (some ⟨w.heap.size, 0, none⟩) l.length l.length l :=
  ⟨rfl, Nat.le_refl _, by unfold maxLen; omega, fun _ => ⟨w.heap.size, 0, rfl, trivial, by simp, fun i hi => by
    rw [cell_of_cells (heap_alloc_new w _), Nat.zero_add, List.getElem?_toArray]
    simp [u8s, List.getElem?_map, List.getElem?_eq_getElem hi]⟩⟩

/-- A variadic call's rows. -/
theorem rws_new {w : World} {S : Nat → Prop} (rs : List (Option Addr × Nat × Nat)) (ls : List (List UInt8)) (hl : ls.length = rs.length) (hm : rs.length ≤ 1000)
    (h : ∀ (i : Nat) (r : Option Addr × Nat × Nat), rs[i]? = some r → Byt w S r.1 r.2.1 r.2.2 (ls[i]?.getD [])) : Rws (w.alloc (.cells (rs.map fun r => Value.slice r.1 r.2.1 r.2.2).toArray 24)) (fun _ => True) (some ⟨w.heap.size, 0, none⟩) rs.length rs.length ls := by
  refine ⟨hl, Nat.le_refl _, by unfold maxLen; omega, fun _ => ⟨w.heap.size, 0, rfl, trivial, by simp, fun i hi => ?_⟩⟩
  refine ⟨rs[i].1, rs[i].2.1, rs[i].2.2, ?_, ((h i rs[i] (List.getElem?_eq_getElem hi)).mono fun _ _ _ => trivial).below ((Below.refl _ _).alloc (Nat.le_refl _) _)⟩
  rw [cell_of_cells (heap_alloc_new w _)]
  simp [List.getElem?_eq_getElem hi]
theorem rws_one {w : World} {S : Nat → Prop} {A : Option Addr} {n c : Nat} {l : List UInt8} (h : Byt w S A n c l) :
    Rws (w.alloc (.cells #[.slice A n c] 24)) (fun _ => True) (some ⟨w.heap.size, 0, none⟩) 1 1 [l] :=
  rws_new [(A, n, c)] [l] rfl (by simp) fun i r hr => by
    match i, hr with
    | 0, hr => simp at hr; subst hr; exact h
theorem rws_two {w : World} {S : Nat → Prop} {A B : Option Addr} {n c k d : Nat} {l m : List UInt8} (h : Byt w S A n c l) (h2 : Byt w S B k d m) :
    Rws (w.alloc (.cells #[.slice A n c, .slice B k d] 24)) (fun _ => True) (some ⟨w.heap.size, 0, none⟩) 2 2 [l, m] :=
  rws_new [(A, n, c), (B, k, d)] [l, m] rfl (by simp) fun i r hr => by
    match i, hr with
    | 0, hr => simp at hr; subst hr; exact h
    | 1, hr => simp at hr; subst hr; exact h2

def twoB (l m : List UInt8) : Bool := decide (l ≠ m ∧ shaL l = shaL m)

theorem id_eql (l m : List UInt8) (hl : l.length = 32) (hm : m.length = 32) (w : World) : (Op.equalIn 10000 26 (.agg (u8s l).toArray) (.agg (u8s m).toArray)).run Tryd.prog w = .ok (decide (l = m)) w := by
  obtain ⟨i0, hi, hz0, hz1, hz2⟩ := info_parts u8_info
  exact run_equalIn_bytes w Tryd.underlying26 Tryd.underlying5 hi (by kernel_rfl) 9998 l m hl hm

set_option maxHeartbeats 1000000 in
set_option maxRecDepth 100000 in
theorem two_any {w : World} {S : Nat → Prop} {A B : Option Addr} {n c k d : Nat} {l m : List UInt8} (h1 : Byt w S A n c l) (h2 : Byt w S B k d m) (ht : Tab w) (hl1 : l.length < 1000000) (hl2 : m.length < 1000000) :
    Calls Tryd.prog 12 #[.slice A n c, .slice B k d] w fun e w' => e = .returned (.bool (twoB l m)) ∧ Below w.heap.size w w' := by
  by_cases hlm : l = m
  · have he : (l == m) = true := by simpa using hlm
    have HT : Hid (twoB l m = false) := Lib.hid (by unfold twoB; simp [hlm])
    clear hlm
    go_enter Tryd.func12, Tryd.ntmps12
    go_wp2_with (go_at_call 19; refine (equal_any h1 h2).mono ?_; rintro _ _ ⟨rfl, rfl⟩)
    go_ret
    exact ⟨by rw [HT.out]; rfl, Below.refl _ _⟩
  · have he : (l == m) = false := by simpa using hlm
    have hq := fun w => id_eql (shaL l) (shaL m) (shaL_length l) (shaL_length m) w
    have HT : Hid (twoB l m = decide (shaL l = shaL m)) := Lib.hid (by unfold twoB; simp [hlm])
    obtain ⟨X, hX⟩ : ∃ X, X = (u8s (shaL l)).toArray := ⟨_, rfl⟩
    obtain ⟨Y, hY⟩ : ∃ Y, Y = (u8s (shaL m)).toArray := ⟨_, rfl⟩
    rw [← hX, ← hY] at hq
    have HX := Lib.hid (And.intro hX hY)
    have hb0 : Below w.heap.size w (w.alloc (.cells #[.slice A n c] 24)) := (Below.refl _ _).alloc (Nat.le_refl _) _
    have hf1 := of_any (rws_one h1) (ht.below hb0) (by simp; omega)
    have hc1 := cell_one_new w (Value.slice A n c) 24
    simp only [List.flatten_cons, List.flatten_nil, List.append_nil] at hf1
    rw [← hX] at hf1
    have HB0 := Lib.hid hb0
    clear hlm hX hY hb0 hc1
    go_enter Tryd.func12, Tryd.ntmps12
    go_wp2_with (go_at_call 19; refine (equal_any h1 h2).mono ?_; rintro _ _ ⟨rfl, rfl⟩)
    refine hf1.mono ?_
    rintro _ w1 ⟨rfl, hb1⟩
    have hb1 := HB0.out.trans (hb1.mono HB0.out.size)
    have hb2 : Below w1.heap.size w1 (w1.alloc (.cells #[.slice B k d] 24)) := (Below.refl _ _).alloc (Nat.le_refl _) _
    have hb3 := hb1.trans (hb2.mono hb1.size)
    have hf2 := of_any (rws_one (h2.below hb1)) (ht.below hb3) (by simp; omega)
    simp only [List.flatten_cons, List.flatten_nil, List.append_nil] at hf2
    rw [← HX.out.2] at hf2
    have HB3 := Lib.hid hb3
    clear hb2 hb3 hb1 hf1
    go_wp2_with fail
    refine hf2.mono ?_
    rintro _ w2 ⟨rfl, hb4⟩
    have HB4 := Lib.hid (HB3.out.trans (hb4.mono HB3.out.size))
    clear hb4 hf2
    go_wp2_with fail
    go_ret
    exact ⟨by rw [HT.out]; rfl, HB4.out⟩

theorem abc_at : (shaL [97, 98, 99])[0]?.getD 0 = 186 ∧ (shaL [97, 98, 99])[1]?.getD 0 = 120 ∧ (shaL [97, 98, 99])[30]?.getD 0 = 21 ∧ (shaL [97, 98, 99])[31]?.getD 0 = 173 := by decide +kernel
theorem two_ab : twoB [97] [98] = false := by
  have h : shaL [97] ≠ shaL [98] := by decide +kernel
  simp [twoB, h]

set_option maxHeartbeats 2000000 in
set_option maxRecDepth 100000 in
theorem awake_true {w : World} (ht : Tab w) : Calls Tryd.prog 9 #[] w fun e w' => e = .returned (.bool true) ∧ Below w.heap.size w w' := by
  have kc := fun (w : World) (C : Array Value) (n c : Nat) => Lib.run_convert_bytes_const (P := Tryd.prog) w 24 5 C n c Tryd.underlying24 Tryd.underlying5
  have kc2 := fun (w : World) (o : Obj) (C : Array Value) (n c : Nat) => kc (w.alloc o) C n c
  simp only [World.size_alloc] at kc2
  have ha := byt_new (w := w) [97] 5 (1, 2) (by simp)
  have ha1 := ha.alloc (.cells (u8s [98, 99]).toArray 5 (2, 3))
  have hbc := byt_new (w := w.alloc (.cells (u8s [97]).toArray 5 (1, 2))) [98, 99] 5 (2, 3) (by simp)
  have hbl : Below w.heap.size w (((w.alloc (.cells (u8s [97]).toArray 5 (1, 2))).alloc (.cells (u8s [98, 99]).toArray 5 (2, 3))).alloc (.cells #[.slice (some ⟨w.heap.size, 0, none⟩) 1 1, .slice (some ⟨w.heap.size + 1, 0, none⟩) 2 2] 24)) :=
    (((Below.refl _ _).alloc (Nat.le_refl _) _).alloc (by simp) _).alloc (by simp; omega) _
  simp only [World.size_alloc] at hbc
  have hof := rws_two ha1 hbc
  have hof := of_any hof (ht.below hbl) (by simp)
  simp only [World.size_alloc] at hof
  rw [show ([[97], [98, 99]] : List (List UInt8)).flatten = [97, 98, 99] from rfl] at hof
  have hls := shaL_length [97, 98, 99]
  obtain ⟨c0, c1, c2, c3⟩ := abc_at
  generalize shaL [97, 98, 99] = L at *
  obtain ⟨RS, hRS⟩ : ∃ RS, RS = (u8s L).toArray := ⟨_, rfl⟩
  rw [← hRS] at hof
  have hsz : RS.size = 32 := by rw [hRS]; simp [u8s_length, hls]
  have HR := Lib.hid (And.intro hRS (And.intro hsz (And.intro (show (Tryd.prog.info? 26).map (·.size) = some RS.size by rw [hsz]; exact id_info) (show RS.all (·.oneCell') = true by rw [hRS]; exact all_oneCell_toArray (u8s_one _)))))
  have HBL := Lib.hid hbl
  have HC := Lib.hid (And.intro hls (And.intro c0 (And.intro c1 (And.intro c2 c3))))
  clear hbl ha ha1 hbc hRS hsz hls c0 c1 c2 c3
  go_enter Tryd.func9, Tryd.ntmps9
  go_wp2_with fail
  refine hof.mono ?_
  rintro _ w1 ⟨rfl, hb1⟩
  have hb1 := HBL.out.trans (hb1.mono (by have := HBL.out.size; simpa using this))
  have HG := Lib.hid (heap_alloc_new w1 (.cells (u8s (List.replicate 32 0)).toArray 26))
  rw [← zeros32] at HG
  have HB1 := Lib.hid hb1
  clear hof hb1
  go_upto_region 2 with (refine wpList_store_row (by rfl) 26 (.tmp 1) (.tmp 7) (by rfl) w1.heap.size RS (by rfl) (by rfl) 26 _ HG.out HR.out.2.2.1 (by rw [HR.out.2.1]; rfl) HR.out.2.2.2 ?_)
  have hrow := setRow_at (new := RS) HG.out
  have hb2 := below_setRow (HB1.out.alloc HB1.out.size (.cells (u8s (List.replicate 32 0)).toArray 26)) HB1.out.size RS
  rw [zeros32] at hrow ⊢
  generalize (w1.alloc (.cells (u8s (List.replicate 32 0)).toArray 26)).setRow w1.heap.size RS = w2 at *
  generalize w1.heap.size = q at *
  rw [HR.out.1] at hrow
  have c0 := u8s_cell hrow 0 (by rw [HC.out.1]; omega)
  have c1 := u8s_cell hrow 1 (by rw [HC.out.1]; omega)
  have c30 := u8s_cell hrow 30 (by rw [HC.out.1]; omega)
  have c31 := u8s_cell hrow 31 (by rw [HC.out.1]; omega)
  rw [HC.out.2.1] at c0
  rw [HC.out.2.2.1] at c1
  rw [HC.out.2.2.2.1] at c30
  rw [HC.out.2.2.2.2] at c31
  have ha := byt_new (w := w2) [97] 5 (1, 2) (by simp)
  have ha1 := ha.alloc (.cells (u8s [98]).toArray 5 (1, 2))
  have hb := byt_new (w := w2.alloc (.cells (u8s [97]).toArray 5 (1, 2))) [98] 5 (1, 2) (by simp)
  have hbl : Below w2.heap.size w2 ((w2.alloc (.cells (u8s [97]).toArray 5 (1, 2))).alloc (.cells (u8s [98]).toArray 5 (1, 2))) := ((Below.refl _ _).alloc (Nat.le_refl _) _).alloc (by simp) _
  have hbl2 := hb2.trans (hbl.mono hb2.size)
  have htwo := two_any ha1 hb (ht.below hbl2) (by simp) (by simp)
  rw [two_ab] at htwo
  simp only [World.size_alloc] at htwo
  have HB2 := Lib.hid hbl2
  clear ha ha1 hb hbl hbl2 hrow hb2
  go_wp2_with fail
  refine htwo.mono ?_
  rintro _ w3 ⟨rfl, hb3⟩
  have HB3 := Lib.hid (HB2.out.trans (hb3.mono (by have := HB2.out.size; simpa using this)))
  clear hb3 htwo
  go_wp2_with fail
  go_ret
  exact ⟨rfl, HB3.out⟩
end Go.Proofs.YtjingbichgpfaaaDoor
