/-
  The reference: Open, where it may be.
-/
import Derived.Test.YtkhbmgmppoepjaaWalRefOpen
namespace Go.Proofs.Ytkhbmgmppoepjaa
open Go.RowKit

/-- What stands in the call: the disk, the answer's cell, the log. -/
structure OpW (w0 : World) (DV ZV LV : Array Value) (w : World) : Prop where
  dv : w.heap[w0.heap.size]? = some (.cells DV 31 (0, 0))
  zv : w.heap[w0.heap.size + 1]? = some (.cells ZV 38 (0, 0))
  lv : w.heap[w0.heap.size + 2]? = some (.cells LV 38 (0, 0))
  bel : Below w0.heap.size w0 w
theorem OpW.set {w0 w : World} {DV ZV LV : Array Value} (h : OpW w0 DV ZV LV w) (i : Nat) (u : Value) : OpW w0 DV ZV (LV.setIfInBounds i u) (w.setCell ⟨w0.heap.size + 2, i, none⟩ u) :=
  ⟨(Below.heap_setCell _ _ _ _ (by simp)).trans h.dv, (Below.heap_setCell _ _ _ _ (by simp)).trans h.zv, set_of_cells h.lv i u, h.bel.setCell (by simp) u⟩
def RO1 (bs : List (List UInt8)) (from_ n : Nat) (w3 : World) (most i : Value) (wr : World) : Prop := ∃ j : Nat, j ≤ n ∧ i = .int .i64 ((from_ + j : Nat) : Int) ∧ most = .int .u64 (mostL (bs.take j) : Int) ∧ wr = w3
theorem take_one {l : List (List UInt8)} {from_ n j : Nat} (h : from_ + n ≤ l.length) (hj : j < n) : ((l.drop from_).take n).take (j + 1) = ((l.drop from_).take n).take j ++ [l[from_ + j]?.getD []] := by
  have hl : j < ((l.drop from_).take n).length := by rw [List.length_take, List.length_drop]; omega
  rw [List.take_succ_eq_append_getElem hl]
  congr 2
  rw [List.getElem_take, List.getElem_drop, List.getElem?_eq_getElem (by omega)]
  rfl
def lvA (from_ n : Int) (first NX have_ : Nat) (v : Value) : Array Value := #[.int .i64 from_, .int .i64 n, .int .u64 (first : Int), .int .u64 (NX : Int), .int .i64 (have_ : Int), v, .int .i64 0]
structure RO2 (w0 : World) (DV ZV : Array Value) (bs : List (List UInt8)) (from_ n : Int) (NX : Nat) (j : Nat) (s : WS) (v : Value) (wr : World) : Prop where
  scan : scanW bs 0 ws0 = scanW (bs.drop j) j s
  op : OpW w0 DV ZV (lvA from_ n s.first NX s.have_ v) wr
  own : wr.ownsRow (w0.heap.size + 3) 9 1 v s.recs.length (strs s.recs)
  now : s.now.length ≤ 110 * j
  few : s.recs.length ≤ j
  ahd : s.ahead < 18446744073709551616
theorem scan_at {bs : List (List UInt8)} {j : Nat} (h : j < bs.length) (s : WS) : scanW (bs.drop j) j s = if badW s (readL (bs[j]?.getD [])).1 = true then s else scanW (bs.drop (j + 1)) (j + 1) (nextW j s (readL (bs[j]?.getD [])).1 (readL (bs[j]?.getD [])).2.1 (readL (bs[j]?.getD [])).2.2) := by
  rw [List.drop_eq_getElem_cons h, scanW, List.getElem?_eq_getElem h]
  rfl
theorem OpW.below {w0 w w' : World} {DV ZV LV : Array Value} (h : OpW w0 DV ZV LV w) (hb : Below w.heap.size w w') : OpW w0 DV ZV LV w' :=
  ⟨(hb.block _ (lt_of_cells h.dv)).trans h.dv, (hb.block _ (lt_of_cells h.zv)).trans h.zv, (hb.block _ (lt_of_cells h.lv)).trans h.lv, h.bel.trans (hb.mono h.bel.size)⟩
theorem own_set {w : World} {B : Nat} {e : TypeId} {v : Value} {k : Nat} {xs : List Value} (h : w.ownsRow B e 1 v k xs) {p : Nat} (hp : p < B) (i : Nat) (u : Value) : (w.setCell ⟨p, i, none⟩ u).ownsRow B e 1 v k xs := by
  refine h.kept (gr_set (gr_refl w (some p)) i u) ?_
  rcases hv : v.ownBlock with _ | g
  · exact .inl rfl
  · refine .inr fun e => ?_
    injection e with e
    have := (h.lt g hv).1
    omega
theorem open_post {w w' : World} {DV ZV : Array Value} {bs : List (List UInt8)} {from_ n : Int} {NX : Nat} {j : Nat} {s : WS} {v : Value} (h : RO2 w DV ZV bs from_ n NX j s v w') (hs : scanW (bs.drop j) j s = s) (hn : NX = (mostL bs + 1) % 18446744073709551616) :
    OpenPost w bs from_ n 0 (.returned (.tuple #[.agg (lvA from_ n s.first NX s.have_ v), .int .i64 0])) (w'.setRow (w.heap.size + 1) (lvA from_ n s.first NX s.have_ v)) := by
  have hm : openM bs from_ n = ⟨from_, n, s.first, NX, s.have_, s.recs, 0⟩ := by
    unfold openM
    rw [h.scan, hs, ← hn]
  obtain ⟨A, c, rfl, hst⟩ := own_strs h.own
  unfold OpenPost
  rw [if_pos rfl, hm]
  exact ⟨A, _, c, rfl, (hst.turned (turned_setRow (w := w') (g := w.heap.size + 1) _) fun b _ h1 h2 => by omega).mono fun b _ hb => by omega, below_setRow h.op.bel (by omega) _⟩
def RO3 (w0 : World) (DV ZV : Array Value) (bs : List (List UInt8)) (from_ n : Int) (NX N : Nat) (nw wi ah fs i : Value) (wr : World) : Prop :=
  ∃ (j : Nat) (s : WS) (v : Value), j ≤ N ∧ nw = .string (st s.now) ∧ wi = .bool s.within ∧ ah = .int .u64 (s.ahead : Int) ∧ fs = .int .u64 (s.fst : Int) ∧ i = .int .i64 (j : Int) ∧ RO2 w0 DV ZV bs from_ n NX j s v wr
theorem lvA_one (from_ n : Int) (a b c : Nat) {v : Value} (h : v.oneCell' = true) : (lvA from_ n a b c v).all (·.oneCell') = true := by
  have hi : ∀ k m, (Value.int k m).oneCell' = true := fun _ _ => rfl
  simp [lvA, h, hi]
theorem own_one {w : World} {B : Nat} {e : TypeId} {v : Value} {k : Nat} {xs : List Value} (h : w.ownsRow B e 1 v k xs) : v.oneCell' = true := by
  rcases h.2 with ⟨rfl, _⟩ | ⟨g, cap, cur, rfl, _⟩ <;> rfl
theorem op_grown {w0 w w' : World} {o : Obj} {DV ZV LV : Array Value} {e : TypeId} {v : Value} {k : Nat} {xs : List Value} (h : OpW w0 DV ZV LV w) (ho : w.ownsRow (w0.heap.size + 3) e 1 v k xs) (hg : (w.alloc o).grownBy w' v.ownBlock) : OpW w0 DV ZV LV w' := by
  have hl := ho.lt
  have keep : ∀ i, i < w0.heap.size + 3 → i < w.heap.size → w'.heap[i]? = w.heap[i]? := fun i hi hi2 => (hg.block i (by simp; omega) (fun e => by have := (hl i e.symm).1; omega)).trans (heap_alloc_old _ _ hi2)
  exact ⟨(keep _ (by omega) (lt_of_cells h.dv)).trans h.dv, (keep _ (by omega) (lt_of_cells h.zv)).trans h.zv, (keep _ (by omega) (lt_of_cells h.lv)).trans h.lv, (h.bel.alloc h.bel.size o).grown hg (by simp; have := h.bel.size; omega) fun i hi => by have := (hl i hi).1; omega⟩
theorem str_info3 : (Try.prog.info? 9).map (fun i => (i.zero, i.size, i.bytes)) = some (some (.string ByteArray.empty), 1, 16) := by kernel_rfl
set_option maxHeartbeats 8000000 in
set_option maxRecDepth 100000 in
theorem rwopen_run {w : World} {T : Nat → Prop} {A : Option Addr} {nl c : Nat} {d : DM} (h : Strs w T A nl c d.l) (ok : d.Ok) (hn : nl ≤ 1000000) (from_ n : Nat) (h1 : 1 ≤ n) (h3 : from_ + n ≤ nl) (h5 : d.down = false) :
    Calls Try.prog 13 #[.agg (dmV d A nl c), .int .i64 (from_ : Int), .int .i64 (n : Int)] w fun e w' => OpenPost w ((d.l.drop from_).take n) (from_ : Int) (n : Int) 0 e w' := by
  obtain ⟨bs, hbs⟩ : ∃ bs, bs = (d.l.drop from_).take n := ⟨_, rfl⟩
  rw [← hbs]
  have HBS := Lib.hid hbs
  clear hbs
  have hz := zero_lm
  obtain ⟨ZV, hZV⟩ : ∃ ZV, ZV = lmV lm0 none 0 0 := ⟨_, rfl⟩
  rw [← hZV] at hz
  obtain ⟨DV, hDV⟩ : ∃ DV, DV = dmV d A nl c := ⟨_, rfl⟩
  rw [← hDV]
  have hd0 := heap_alloc_new w (.cells DV 31)
  have hd1 := (heap_alloc_old (w.alloc (.cells DV 31)) (.cells ZV 38) (lt_of_cells hd0)).trans hd0
  have hz1 := heap_alloc_new (w.alloc (.cells DV 31)) (.cells ZV 38)
  rw [World.size_alloc] at hz1
  have hb1 := below_two w (.cells DV 31) (.cells ZV 38)
  have hsz2 : ((w.alloc (.cells DV 31)).alloc (.cells ZV 38)).heap.size = w.heap.size + 2 := by simp
  have HV := Lib.hid (And.intro hZV hDV)
  have HH := Lib.hid (And.intro h (And.intro ok (And.intro hn (And.intro h1 (And.intro h3 h.len)))))
  clear hZV hDV h ok
  go_enter Try.func13, Try.ntmps13
  go_upto_region 1 with fail
  generalize (w.alloc (.cells DV 31)).alloc (.cells ZV 38) = w2 at *
  have hc0 : w2.cell? ⟨w.heap.size, 0, none⟩ = some (.slice A nl c) := by rw [cell_of_cells hd1, HV.out.2]; rfl
  have hc3 : w2.cell? ⟨w.heap.size, 3, none⟩ = some (.bool false) := by rw [cell_of_cells hd1, HV.out.2, ← h5]; rfl
  have hk1 : ¬ (from_ : Int) < 0 := by omega
  have hk2 : ¬ (n : Int) < 1 := by omega
  have hk3 : ¬ (nl : Int) < (from_ : Int) := by omega
  have hk4 : ¬ (nl : Int) - (from_ : Int) < (n : Int) := by omega
  have hsub := IntWalk.i64_in ((nl : Int) - (from_ : Int)) (by omega)
  have H2 := Lib.hid (And.intro hd1 (And.intro hz1 (And.intro hb1 hsz2)))
  clear hd0 hd1 hz1 hb1 h1 h3 h5 hn hz
  go_upto_region 6 with fail
  have hO : OpW w DV ZV #[.int .i64 (from_ : Int), .int .i64 (n : Int), .int .u64 0, .int .u64 0, .int .i64 0, .slice none 0 0, .int .i64 0] (w2.alloc (.cells #[.int .i64 (from_ : Int), .int .i64 (n : Int), .int .u64 0, .int .u64 0, .int .i64 0, .slice none 0 0, .int .i64 0] 38)) := by
    have hn2 := heap_alloc_new w2 (.cells #[.int .i64 (from_ : Int), .int .i64 (n : Int), .int .u64 0, .int .u64 0, .int .i64 0, .slice none 0 0, .int .i64 0] 38)
    rw [H2.out.2.2.2] at hn2
    exact ⟨(heap_alloc_old _ _ (lt_of_cells H2.out.1)).trans H2.out.1, (heap_alloc_old _ _ (lt_of_cells H2.out.2.1)).trans H2.out.2.1, hn2, H2.out.2.2.1.alloc (by omega) _⟩
  have HO := Lib.hid hO
  clear hO hc0 hc3 hk1 hk2 hk3 hk4 hsub hsz2 H2
  generalize w2.alloc (.cells #[.int .i64 (from_ : Int), .int .i64 (n : Int), .int .u64 0, .int .u64 0, .int .i64 0, .slice none 0 0, .int .i64 0] 38) = w3 at *
  have hfn := IntWalk.i64_in ((from_ : Int) + (n : Int)) (by have h2 := HH.out.2.2.1; have h3 := HH.out.2.2.2.2.1; omega)
  have hc0 : w3.cell? ⟨w.heap.size, 0, none⟩ = some (.slice A nl c) := by rw [cell_of_cells HO.out.dv, HV.out.2]; rfl
  go_wp2_with fail
  go_loopw [9, 10] (fun m i wr => RO1 bs from_ n w3 m i wr) (fun _ i _ => from_ + n - (intOf i).toNat)
  case atStart => exact ⟨0, Nat.zero_le _, by simp, by simp [mostL], rfl⟩
  case round =>
    obtain ⟨j, hj, rfl, rfl, rfl⟩ := hrel
    by_cases hlt : j < n
    · have hlt' : ((from_ + j : Nat) : Int) < (from_ : Int) + (n : Int) := by omega
      obtain ⟨I, hI⟩ : ∃ I, I = from_ + j := ⟨_, rfl⟩
      obtain ⟨X, hX⟩ : ∃ X, X = d.l[I]?.getD [] := ⟨_, rfl⟩
      obtain ⟨q, o, hA, _, _, hcl⟩ := (HH.out.1.below (HO.out.bel)).row (by have h3 := HH.out.2.2.2.2.1; omega)
      subst hA
      have hsc := hcl I (by have h3 := HH.out.2.2.2.2.1; omega)
      rw [← hX] at hsc
      have hXl : X.length = 128 := by
        have h3 := HH.out.2.2.2.2.1
        have h4 := HH.out.2.2.2.2.2
        rw [hX, List.getElem?_eq_getElem (show I < d.l.length by omega)]
        exact HH.out.2.1.each _ (List.getElem_mem _)
      have hmo : mostL (bs.take (j + 1)) = mostS (mostL (bs.take j)) X := by
        rw [HBS.out, take_one (by rw [HH.out.2.2.2.2.2]; exact HH.out.2.2.2.2.1) hlt, most_snoc, hX, hI]
      rw [← hI] at hlt' ⊢
      obtain ⟨M, hM⟩ : ∃ M, M = mostL (bs.take j) := ⟨_, rfl⟩
      obtain ⟨a, ha⟩ : ∃ a, a = valL (X.take 8) := ⟨_, rfl⟩
      obtain ⟨b, hb⟩ : ∃ b, b = valL (X.drop 120) := ⟨_, rfl⟩
      unfold mostS at hmo
      rw [← hM, ← ha, ← hb] at hmo
      rw [← hM]
      have hto := st_to 9 Try.underlying9 X wr 8 8 rfl (by omega)
      have hfr := st_from 9 Try.underlying9 X wr 120 120 rfl (by omega)
      have hv1 := rwvalue_any (X.take 8) (by rw [List.length_take]; omega) wr
      have hv2 := rwvalue_any (X.drop 120) (by rw [List.length_drop]; omega) wr
      rw [← ha] at hv1
      rw [← hb] at hv2
      have hin : (I : Int) < (nl : Int) := by have h3 := HH.out.2.2.2.2.1; omega
      have hadd := IntWalk.i64_in ((I : Int) + 1) (by have h3 := HH.out.2.2.2.2.1; have h2 := HH.out.2.2.1; omega)
      have HX := Lib.hid (And.intro hlt (And.intro hI hmo))
      generalize st (X.take 8) = S8 at *
      generalize st (X.drop 120) = S120 at *
      generalize st X = SX at *
      clear hX hXl hM ha hb hmo hI hj hlt hcl
      go_upto_region 11 with (go_at_call 38; refine hv1.mono ?_; clear hv1; rintro _ _ ⟨rfl, rfl⟩)
      go_upto_region 12 with (go_at_call 38; refine hv2.mono ?_; clear hv2; rintro _ _ ⟨rfl, rfl⟩)
      clear hto hfr hsc
      by_cases h1 : M < a
      · have h1' : (M : Int) < (a : Int) := by omega
        by_cases h2 : a < b
        · have h2' : (a : Int) < (b : Int) := by omega
          go_wp2_with fail
          go_roundw
          case rel => unfold RO1; exact ⟨j + 1, by have := HX.out.1; omega, by simp; have := HX.out.2.1; omega, by rw [HX.out.2.2]; congr 1; omega, rfl⟩
          case measure => simp only [intOf]; have h5 := HX.out.1; have h6 := HX.out.2.1; omega
        · have h2' : ¬ (a : Int) < (b : Int) := by omega
          go_wp2_with fail
          go_roundw
          case rel => unfold RO1; exact ⟨j + 1, by have := HX.out.1; omega, by simp; have := HX.out.2.1; omega, by rw [HX.out.2.2]; congr 1; omega, rfl⟩
          case measure => simp only [intOf]; have h5 := HX.out.1; have h6 := HX.out.2.1; omega
      · have h1' : ¬ (M : Int) < (a : Int) := by omega
        by_cases h2 : M < b
        · have h2' : (M : Int) < (b : Int) := by omega
          go_wp2_with fail
          go_roundw
          case rel => unfold RO1; exact ⟨j + 1, by have := HX.out.1; omega, by simp; have := HX.out.2.1; omega, by rw [HX.out.2.2]; congr 1; omega, rfl⟩
          case measure => simp only [intOf]; have h5 := HX.out.1; have h6 := HX.out.2.1; omega
        · have h2' : ¬ (M : Int) < (b : Int) := by omega
          go_wp2_with fail
          go_roundw
          case rel => unfold RO1; exact ⟨j + 1, by have := HX.out.1; omega, by simp; have := HX.out.2.1; omega, by rw [HX.out.2.2]; congr 1; omega, rfl⟩
          case measure => simp only [intOf]; have h5 := HX.out.1; have h6 := HX.out.2.1; omega
    · have hlt' : ¬ ((from_ + j : Nat) : Int) < (from_ : Int) + (n : Int) := by omega
      obtain rfl : n = j := by omega
      have hbl : bs.length = n := by have h3 := HH.out.2.2.2.2.1; have h4 := HH.out.2.2.2.2.2; rw [HBS.out, List.length_take, List.length_drop]; omega
      have htk : bs.take n = bs := List.take_of_length_le (by omega)
      rw [htk]
      have hMl : mostL bs < 18446744073709551616 := most_lt bs (fun b hb => by
        rw [HBS.out] at hb
        exact HH.out.2.1.each b (List.mem_of_mem_drop (List.mem_of_mem_take hb))) 0 (by omega)
      obtain ⟨M, hM⟩ : ∃ M, M = mostL bs := ⟨_, rfl⟩
      obtain ⟨NX, hNX⟩ : ∃ NX, NX = (M + 1) % 18446744073709551616 := ⟨_, rfl⟩
      rw [← hM] at hMl ⊢
      have hw1 : IntKind.u64.wrap ((M : Int) + 1) = (NX : Int) := by rw [IntKind.wrap_u64, hNX]; omega
      have HNX := Lib.hid (show NX = (mostL bs + 1) % 18446744073709551616 by rw [← hM, hNX])
      have hc3 : wr.cell? ⟨w.heap.size + 2, 3, none⟩ = some (.int .u64 0) := cell_of_cells HO.out.lv 3
      have hf3 := free_of_cells HO.out.lv 3
      have HBL := Lib.hid hbl
      clear hM hNX hMl htk hbl hj hlt
      go_upto_region 17 with fail
      have hO4 := HO.out.set 3 (.int .u64 (NX : Int))
      clear hc3 hf3 hc0
      generalize wr.setCell ⟨w.heap.size + 2, 3, none⟩ (.int .u64 (NX : Int)) = w4 at *
      have H4 : Hid (OpW w DV ZV (lvA (from_ : Int) (n : Int) 0 NX 0 (.slice none 0 0)) w4) := Lib.hid hO4
      obtain ⟨i0, hi, hz0, hz1, hz2⟩ := info_parts str_info3
      have HI := Lib.hid (And.intro hi (And.intro hz0 (And.intro hz1 hz2)))
      clear hO4 hi hz0 hz1 hz2 hlt'
      go_wp2_with fail
      go_loopw [13, 14, 15, 16, 17] (fun nw wi ah fs i wr => RO3 w DV ZV bs (from_ : Int) (n : Int) NX n nw wi ah fs i wr) (fun _ _ _ _ i _ => n - (intOf i).toNat)
      case atStart => exact ⟨0, ws0, .slice none 0 0, Nat.zero_le _, rfl, rfl, rfl, rfl, rfl, by rw [List.drop_zero], H4.out, World.ownsRow_nil _ _ _ _, by simp [ws0], by simp [ws0], by simp [ws0]⟩
      case round =>
        obtain ⟨j, s, v, hj, rfl, rfl, rfl, rfl, rfl, hS⟩ := hrel
        by_cases hlt : j < n
        · have hlt2 : (j : Int) < (n : Int) := by omega
          obtain ⟨X, hX⟩ : ∃ X, X = bs[j]?.getD [] := ⟨_, rfl⟩
          obtain ⟨I, hI⟩ : ∃ I, I = from_ + j := ⟨_, rfl⟩
          have hXd : X = d.l[I]?.getD [] := by
            have hlb : j < bs.length := by rw [HBL.out]; exact hlt
            rw [hX, hI, List.getElem?_eq_getElem hlb, Option.getD_some]
            have h3 := HH.out.2.2.2.2.1
            have h4 := HH.out.2.2.2.2.2
            rw [List.getElem?_eq_getElem (show from_ + j < d.l.length by omega), Option.getD_some]
            have hB := HBS.out
            subst hB
            rw [List.getElem_take, List.getElem_drop]
          obtain ⟨K, PT, E, hR⟩ : ∃ K PT E, readL X = (K, PT, E) := ⟨_, _, _, rfl⟩
          have hsm := readL_small X
          have hrw := rwread_any X wr
          rw [hR] at hsm hrw
          simp only at hsm hrw
          obtain ⟨q, o, hA, _, _, hcl⟩ := (HH.out.1.below hS.op.bel).row (by have h3 := HH.out.2.2.2.2.1; omega)
          subst hA
          have hsc := hcl I (by have h3 := HH.out.2.2.2.2.1; omega)
          rw [← hXd] at hsc
          have hc0 : wr.cell? ⟨w.heap.size, 0, none⟩ = some (.slice (some ⟨q, o, none⟩) nl c) := by rw [cell_of_cells hS.op.dv, HV.out.2]; rfl
          have hfj := IntWalk.i64_in ((from_ : Int) + (j : Int)) (by have h2 := HH.out.2.2.1; have h3 := HH.out.2.2.2.2.1; omega)
          have hfi : (from_ : Int) + (j : Int) = (I : Int) := by omega
          have hin : (I : Int) < (nl : Int) := by have h3 := HH.out.2.2.2.2.1; omega
          have hadd := IntWalk.i64_in ((j : Int) + 1) (by have h2 := HH.out.2.2.1; have h3 := HH.out.2.2.2.2.1; omega)
          rw [hfi] at hfj
          obtain ⟨SN, hSN⟩ : ∃ SN, SN = st s.now := ⟨_, rfl⟩
          obtain ⟨SP, hSP⟩ : ∃ SP, SP = st PT := ⟨_, rfl⟩
          have hss : ¬ 9223372036854775807 < SN.size + SP.size := by
            have h1 := hS.now
            have h2 := HH.out.2.2.1
            have h3 := HH.out.2.2.2.2.1
            rw [hSN, hSP, st_size, st_size]
            omega
          have HAP := Lib.hid (show SN ++ SP = st (s.now ++ PT) by rw [hSN, hSP, st_app])
          have HSN := Lib.hid hSN
          rw [← hSP] at hrw
          rw [← hSN]
          have HKL := Lib.hid hsm.1
          have HJ := Lib.hid (And.intro (show j + 1 ≤ n by omega) (And.intro (show j < bs.length by rw [HBL.out]; exact hlt) (And.intro (show readL (bs[j]?.getD []) = (K, PT, E) by rw [← hX, hR]) hsm.2)))
          have hA := Lib.hid hS.ahd
          have HSq := Lib.hid hS
          generalize st X = SX at *
          clear hX hI hXd hR hsm hcl hSN hSP hS hj hlt
          go_upto_region 25 with (go_at_call 32; refine hrw.mono ?_; clear hrw; rintro _ w5 ⟨rfl, hb5⟩)
          have HS : Hid (RO2 w DV ZV bs (from_ : Int) (n : Int) NX j s v w5) := Lib.hid ⟨HSq.out.scan, HSq.out.op.below hb5, own_below HSq.out.own hb5, HSq.out.now, HSq.out.few, HSq.out.ahd⟩
          clear hb5 hsc hc0 hfj HSq
          obtain ⟨AH, hAH⟩ : ∃ AH, AH = s.ahead := ⟨_, rfl⟩
          obtain ⟨WI, hWI⟩ : ∃ WI, WI = s.within := ⟨_, rfl⟩
          obtain ⟨FS, hFS⟩ : ∃ FS, FS = s.fst := ⟨_, rfl⟩
          rw [← hAH, ← hWI, ← hFS]
          have HQ := Lib.hid (And.intro hAH (And.intro hWI hFS))
          have hAl : AH < 18446744073709551616 := by rw [hAH]; exact hA.out
          have hbw : badW s K = (decide (K = 0) || decide (K ≤ AH) || (WI && decide (K - AH ≠ 1))) := by rw [badW, hAH, hWI]
          clear hAH hWI hFS hA
          by_cases hk0 : K = 0
          · have hK0 : ((K : Int) == 0) = true := by simp; omega
            have hbad : badW s K = true := by rw [hbw, hk0]; simp
            clear hbw hk0 hAl
            have hvo := Lib.hid (own_one HS.out.own)
            obtain ⟨LV, hLV⟩ : ∃ LV, LV = lvA (from_ : Int) (n : Int) s.first NX s.have_ v := ⟨_, rfl⟩
            have HLV := Lib.hid (And.intro (hLV ▸ HS.out.op) hLV)
            have HBD := Lib.hid hbad
            clear hLV hbad
            go_wp2_with (first
              | (refine wpList_load_row (by rfl) 38 (.tmp 8) (by rfl) (w.heap.size + 2) (by rfl) 38 LV (0, 0) _ HLV.out.1.lv Try.underlying38 (by rfl) (by rw [HLV.out.2]; exact lm_info) ?_)
              | (refine wpList_store_row (by rfl) 38 (.tmp 6) (.tmp 116) (by rfl) (w.heap.size + 1) LV (by rfl) (by rfl) 38 ZV HLV.out.1.zv (by rw [HLV.out.2]; exact lm_info) (by rw [HV.out.1, HLV.out.2]; rfl) (by rw [HLV.out.2]; exact lvA_one _ _ _ _ _ hvo.out) ?_))
            (try simp only [Exit.inBlock, Exit.then])
            refine bodyPost_ret (lm_result (p := 6) (u := 7) rfl _ _ (w.heap.size + 1) LV rfl (setRow_at HLV.out.1.zv) (by rw [HLV.out.2]; rfl)) rfl ?_
            rw [HLV.out.2]
            exact open_post HS.out (by rw [scan_at HJ.out.2.1, HJ.out.2.2.1, if_pos HBD.out]) HNX.out
          · have hK0 : ((K : Int) == 0) = false := by simp; omega
            by_cases hka : K ≤ AH
            · have hKA : (K : Int) ≤ (AH : Int) := by omega
              have hbad : badW s K = true := by rw [hbw]; simp [hka]
              clear hbw hk0 hAl hka
              have hvo := Lib.hid (own_one HS.out.own)
              obtain ⟨LV, hLV⟩ : ∃ LV, LV = lvA (from_ : Int) (n : Int) s.first NX s.have_ v := ⟨_, rfl⟩
              have HLV := Lib.hid (And.intro (hLV ▸ HS.out.op) hLV)
              have HBD := Lib.hid hbad
              clear hLV hbad
              go_wp2_with (first
                | (refine wpList_load_row (by rfl) 38 (.tmp 8) (by rfl) (w.heap.size + 2) (by rfl) 38 LV (0, 0) _ HLV.out.1.lv Try.underlying38 (by rfl) (by rw [HLV.out.2]; exact lm_info) ?_)
                | (refine wpList_store_row (by rfl) 38 (.tmp 6) (.tmp 116) (by rfl) (w.heap.size + 1) LV (by rfl) (by rfl) 38 ZV HLV.out.1.zv (by rw [HLV.out.2]; exact lm_info) (by rw [HV.out.1, HLV.out.2]; rfl) (by rw [HLV.out.2]; exact lvA_one _ _ _ _ _ hvo.out) ?_))
              (try simp only [Exit.inBlock, Exit.then])
              refine bodyPost_ret (lm_result (p := 6) (u := 7) rfl _ _ (w.heap.size + 1) LV rfl (setRow_at HLV.out.1.zv) (by rw [HLV.out.2]; rfl)) rfl ?_
              rw [HLV.out.2]
              exact open_post HS.out (by rw [scan_at HJ.out.2.1, HJ.out.2.2.1, if_pos HBD.out]) HNX.out
            · have hKA : ¬ (K : Int) ≤ (AH : Int) := by omega
              have hKs : IntKind.u64.wrap ((K : Int) - (AH : Int)) = ((K - AH : Nat) : Int) := by rw [IntWalk.u64_in _ (by have := HKL.out; omega)]; omega
              obtain ⟨DD, hDD⟩ : ∃ DD, DD = K - AH := ⟨_, rfl⟩
              rw [← hDD] at hKs
              have hbw2 : badW s K = (WI && decide (DD ≠ 1)) := by rw [hbw, hDD]; simp [hk0]; omega
              have hkk := hk0
              clear hbw hDD hka hAl hK0
              cases WI
              · have hbad : badW s K = false := by rw [hbw2]; rfl
                clear hbw2
                have HKK := Lib.hid hkk
                clear hkk hk0
                cases E
                · by_cases hj00 : j = 0
                  · have hK0 : ((K : Int) == 0) = false := by have := HKK.out; simp; omega
                    have hj0 : ((j : Int) == 0) = true := by simp; omega
                    have HNS := Lib.hid (show scanW (bs.drop j) j s = scanW (bs.drop (j + 1)) (j + 1) (nextW j s K PT false) by rw [scan_at HJ.out.2.1, HJ.out.2.2.1, if_neg (by rw [hbad]; simp)])
                    have HJ0 := Lib.hid (show (if j = 0 then K else s.fst) = K by rw [if_pos hj00])
                    clear hbad hj00
                    go_wp2_with fail
                    go_roundw
                    case rel =>
                      refine ⟨_, _, _, _, _, _, ?_, rfl, rfl, rfl, rfl, rfl, rfl⟩
                      unfold RO3
                      refine ⟨j + 1, nextW j s K PT false, v, HJ.out.1, by rw [HAP.out]; rfl, rfl, rfl, ?_, by simp, ?_⟩
                      · show _ = Value.int .u64 (((if j = 0 then K else s.fst : Nat)) : Int)
                        rw [HJ0.out]
                      · exact ⟨HS.out.scan.trans HNS.out, HS.out.op, HS.out.own, by have h1 := HS.out.now; have h2 := HJ.out.2.2.2; simp only [nextW, Bool.false_eq_true, if_false, List.length_append]; omega, by have := HS.out.few; simp only [nextW, Bool.false_eq_true, if_false]; omega, HKL.out⟩
                    case measure => simp only [intOf]; have := HJ.out.1; omega
                  · have hK0 : ((K : Int) == 0) = false := by have := HKK.out; simp; omega
                    have hj0 : ((j : Int) == 0) = false := by simp; omega
                    have HNS := Lib.hid (show scanW (bs.drop j) j s = scanW (bs.drop (j + 1)) (j + 1) (nextW j s K PT false) by rw [scan_at HJ.out.2.1, HJ.out.2.2.1, if_neg (by rw [hbad]; simp)])
                    have HJ0 := Lib.hid (show (if j = 0 then K else s.fst) = FS by rw [if_neg hj00]; exact HQ.out.2.2.symm)
                    clear hbad hj00
                    go_wp2_with fail
                    go_roundw
                    case rel =>
                      refine ⟨_, _, _, _, _, _, ?_, rfl, rfl, rfl, rfl, rfl, rfl⟩
                      unfold RO3
                      refine ⟨j + 1, nextW j s K PT false, v, HJ.out.1, by rw [HAP.out]; rfl, rfl, rfl, ?_, by simp, ?_⟩
                      · show _ = Value.int .u64 (((if j = 0 then K else s.fst : Nat)) : Int)
                        rw [HJ0.out]
                      · exact ⟨HS.out.scan.trans HNS.out, HS.out.op, HS.out.own, by have h1 := HS.out.now; have h2 := HJ.out.2.2.2; simp only [nextW, Bool.false_eq_true, if_false, List.length_append]; omega, by have := HS.out.few; simp only [nextW, Bool.false_eq_true, if_false]; omega, HKL.out⟩
                    case measure => simp only [intOf]; have := HJ.out.1; omega
                · by_cases hj00 : j = 0
                  · have hK0 : ((K : Int) == 0) = false := by have := HKK.out; simp; omega
                    have hj0 : ((j : Int) == 0) = true := by simp; omega
                    have HNS := Lib.hid (show scanW (bs.drop j) j s = scanW (bs.drop (j + 1)) (j + 1) (nextW j s K PT true) by rw [scan_at HJ.out.2.1, HJ.out.2.2.1, if_neg (by rw [hbad]; simp)])
                    have HJ0 := Lib.hid (show (if j = 0 then K else s.fst) = K by rw [if_pos hj00])
                    clear hbad hj00
                    have hc5 : w5.cell? ⟨w.heap.size + 2, 5, none⟩ = some v := cell_of_cells HS.out.op.lv 5
                    go_upto_region 33 with fail
                    go_wp2_with (at_builtin; refine wpList_append_own_at _ rfl _ _ 29 rfl (w.heap.size + 3) 9 i0 (.string ByteArray.empty) 1 16 Try.underlying29 HI.out.1 HI.out.2.1 HI.out.2.2.1 HI.out.2.2.2 rfl (by decide) _ s.recs.length (strs s.recs) rfl (HS.out.own.alloc _) ⟨w5.heap.size, 0, none⟩ 1 1 [.string (SN ++ SP)] rfl rfl (cell_one_new _ _ _) (one_of rfl) (by have h1 := HS.out.few; have h2 := HJ.out.1; have h3 := HH.out.2.2.1; have h4 := HH.out.2.2.2.2.1; unfold maxLen; omega) (by have h1 := HS.out.few; have h2 := HJ.out.1; have h3 := HH.out.2.2.1; have h4 := HH.out.2.2.2.2.1; omega) (by have := lt_of_cells HS.out.op.lv; simp; omega) ?_)
                    intro V6 w6 hown6 hgrow _ _
                    obtain ⟨g6, cap6, hv6, _, _⟩ := hown6.form (by omega)
                    subst hv6
                    have HG6 := Lib.hid (And.intro hown6 hgrow)
                    have HO6 : Hid (OpW w DV ZV (lvA (from_ : Int) (n : Int) s.first NX s.have_ v) w6) := Lib.hid (op_grown HS.out.op HS.out.own hgrow)
                    have hc56 : w6.cell? ⟨w.heap.size + 2, 5, none⟩ = some v := cell_of_cells HO6.out.lv 5
                    have hf56 := free_of_cells HO6.out.lv 5
                    clear hown6 hgrow hc5
                    go_upto_region 34 with fail
                    have hO7 := HO6.out.set 5 (.slice (some ⟨g6, 0, none⟩) (s.recs.length + 1) cap6)
                    have hw7 := own_set (p := w.heap.size + 2) HG6.out.1 (by omega) 5 (.slice (some ⟨g6, 0, none⟩) (s.recs.length + 1) cap6)
                    clear hc56 hf56
                    generalize w6.setCell ⟨w.heap.size + 2, 5, none⟩ (.slice (some ⟨g6, 0, none⟩) (s.recs.length + 1) cap6) = w7 at *
                    have HO7 := Lib.hid (And.intro hO7 hw7)
                    have hc4 : w7.cell? ⟨w.heap.size + 2, 4, none⟩ = some (.int .i64 (s.have_ : Int)) := cell_of_cells HO7.out.1.lv 4
                    have hf4 := free_of_cells HO7.out.1.lv 4
                    clear hO7 hw7
                    go_upto_region 35 with fail
                    have hO8 := HO7.out.1.set 4 (.int .i64 ((j : Int) + 1))
                    have hw8 := own_set (p := w.heap.size + 2) HO7.out.2 (by omega) 4 (.int .i64 ((j : Int) + 1))
                    clear hc4 hf4
                    generalize w7.setCell ⟨w.heap.size + 2, 4, none⟩ (.int .i64 ((j : Int) + 1)) = w8 at *
                    have HO8 := Lib.hid (And.intro hO8 hw8)
                    have hc2 : w8.cell? ⟨w.heap.size + 2, 2, none⟩ = some (.int .u64 (s.first : Int)) := cell_of_cells HO8.out.1.lv 2
                    have hf2 := free_of_cells HO8.out.1.lv 2
                    clear hO8 hw8
                    go_upto_region 36 with fail
                    have hO9 := HO8.out.1.set 2 (.int .u64 (K : Int))
                    have hw9 := own_set (p := w.heap.size + 2) HO8.out.2 (by omega) 2 (.int .u64 (K : Int))
                    clear hc2 hf2
                    generalize w8.setCell ⟨w.heap.size + 2, 2, none⟩ (.int .u64 (K : Int)) = w9 at *
                    have HO9 := Lib.hid (And.intro hO9 hw9)
                    clear hO9 hw9
                    go_wp2_with fail
                    go_roundw
                    case rel =>
                      repeat (apply Exists.intro)
                      refine And.intro ?hrl3 ?heq3
                      case' heq3 => (repeat' (first | rfl | apply And.intro))
                      unfold RO3
                      refine ⟨j + 1, nextW j s K PT true, (.slice (some ⟨g6, 0, none⟩) (s.recs.length + 1) cap6), HJ.out.1, rfl, rfl, rfl, ?_, by simp, ?_⟩
                      · show _ = Value.int .u64 (((if j = 0 then K else s.fst : Nat)) : Int)
                        rw [HJ0.out]
                      · refine ⟨HS.out.scan.trans HNS.out, ?_, ?_, by simp [nextW], by have := HS.out.few; simp only [nextW, if_true, List.length_append, List.length_singleton]; omega, HKL.out⟩
                        · show OpW w DV ZV (lvA (from_ : Int) (n : Int) (if j = 0 then K else s.fst) NX (j + 1) (.slice (some ⟨g6, 0, none⟩) (s.recs.length + 1) cap6)) w9
                          rw [HJ0.out]
                          exact HO9.out.1
                        · show w9.ownsRow (w.heap.size + 3) 9 1 (.slice (some ⟨g6, 0, none⟩) (s.recs.length + 1) cap6) (s.recs ++ [s.now ++ PT]).length (strs (s.recs ++ [s.now ++ PT]))
                          have h9 := HO9.out.2
                          rw [HAP.out] at h9
                          rw [List.length_append, strs, List.map_append]
                          exact h9
                    case measure =>
                      show n - (intOf (.int .i64 ((j : Int) + 1))).toNat < n - (intOf (.int .i64 (j : Int))).toNat
                      simp only [intOf]
                      have := HJ.out.1
                      omega
                  · have hK0 : ((K : Int) == 0) = false := by have := HKK.out; simp; omega
                    have hj0 : ((j : Int) == 0) = false := by simp; omega
                    have HNS := Lib.hid (show scanW (bs.drop j) j s = scanW (bs.drop (j + 1)) (j + 1) (nextW j s K PT true) by rw [scan_at HJ.out.2.1, HJ.out.2.2.1, if_neg (by rw [hbad]; simp)])
                    have HJ0 := Lib.hid (show (if j = 0 then K else s.fst) = FS by rw [if_neg hj00]; exact HQ.out.2.2.symm)
                    clear hbad hj00
                    have hc5 : w5.cell? ⟨w.heap.size + 2, 5, none⟩ = some v := cell_of_cells HS.out.op.lv 5
                    go_upto_region 33 with fail
                    go_wp2_with (at_builtin; refine wpList_append_own_at _ rfl _ _ 29 rfl (w.heap.size + 3) 9 i0 (.string ByteArray.empty) 1 16 Try.underlying29 HI.out.1 HI.out.2.1 HI.out.2.2.1 HI.out.2.2.2 rfl (by decide) _ s.recs.length (strs s.recs) rfl (HS.out.own.alloc _) ⟨w5.heap.size, 0, none⟩ 1 1 [.string (SN ++ SP)] rfl rfl (cell_one_new _ _ _) (one_of rfl) (by have h1 := HS.out.few; have h2 := HJ.out.1; have h3 := HH.out.2.2.1; have h4 := HH.out.2.2.2.2.1; unfold maxLen; omega) (by have h1 := HS.out.few; have h2 := HJ.out.1; have h3 := HH.out.2.2.1; have h4 := HH.out.2.2.2.2.1; omega) (by have := lt_of_cells HS.out.op.lv; simp; omega) ?_)
                    intro V6 w6 hown6 hgrow _ _
                    obtain ⟨g6, cap6, hv6, _, _⟩ := hown6.form (by omega)
                    subst hv6
                    have HG6 := Lib.hid (And.intro hown6 hgrow)
                    have HO6 : Hid (OpW w DV ZV (lvA (from_ : Int) (n : Int) s.first NX s.have_ v) w6) := Lib.hid (op_grown HS.out.op HS.out.own hgrow)
                    have hc56 : w6.cell? ⟨w.heap.size + 2, 5, none⟩ = some v := cell_of_cells HO6.out.lv 5
                    have hf56 := free_of_cells HO6.out.lv 5
                    clear hown6 hgrow hc5
                    go_upto_region 34 with fail
                    have hO7 := HO6.out.set 5 (.slice (some ⟨g6, 0, none⟩) (s.recs.length + 1) cap6)
                    have hw7 := own_set (p := w.heap.size + 2) HG6.out.1 (by omega) 5 (.slice (some ⟨g6, 0, none⟩) (s.recs.length + 1) cap6)
                    clear hc56 hf56
                    generalize w6.setCell ⟨w.heap.size + 2, 5, none⟩ (.slice (some ⟨g6, 0, none⟩) (s.recs.length + 1) cap6) = w7 at *
                    have HO7 := Lib.hid (And.intro hO7 hw7)
                    have hc4 : w7.cell? ⟨w.heap.size + 2, 4, none⟩ = some (.int .i64 (s.have_ : Int)) := cell_of_cells HO7.out.1.lv 4
                    have hf4 := free_of_cells HO7.out.1.lv 4
                    clear hO7 hw7
                    go_upto_region 35 with fail
                    have hO8 := HO7.out.1.set 4 (.int .i64 ((j : Int) + 1))
                    have hw8 := own_set (p := w.heap.size + 2) HO7.out.2 (by omega) 4 (.int .i64 ((j : Int) + 1))
                    clear hc4 hf4
                    generalize w7.setCell ⟨w.heap.size + 2, 4, none⟩ (.int .i64 ((j : Int) + 1)) = w8 at *
                    have HO8 := Lib.hid (And.intro hO8 hw8)
                    have hc2 : w8.cell? ⟨w.heap.size + 2, 2, none⟩ = some (.int .u64 (s.first : Int)) := cell_of_cells HO8.out.1.lv 2
                    have hf2 := free_of_cells HO8.out.1.lv 2
                    clear hO8 hw8
                    go_upto_region 36 with fail
                    have hO9 := HO8.out.1.set 2 (.int .u64 (FS : Int))
                    have hw9 := own_set (p := w.heap.size + 2) HO8.out.2 (by omega) 2 (.int .u64 (FS : Int))
                    clear hc2 hf2
                    generalize w8.setCell ⟨w.heap.size + 2, 2, none⟩ (.int .u64 (FS : Int)) = w9 at *
                    have HO9 := Lib.hid (And.intro hO9 hw9)
                    clear hO9 hw9
                    go_wp2_with fail
                    go_roundw
                    case rel =>
                      repeat (apply Exists.intro)
                      refine And.intro ?hrl4 ?heq4
                      case' heq4 => (repeat' (first | rfl | apply And.intro))
                      unfold RO3
                      refine ⟨j + 1, nextW j s K PT true, (.slice (some ⟨g6, 0, none⟩) (s.recs.length + 1) cap6), HJ.out.1, rfl, rfl, rfl, ?_, by simp, ?_⟩
                      · show _ = Value.int .u64 (((if j = 0 then K else s.fst : Nat)) : Int)
                        rw [HJ0.out]
                      · refine ⟨HS.out.scan.trans HNS.out, ?_, ?_, by simp [nextW], by have := HS.out.few; simp only [nextW, if_true, List.length_append, List.length_singleton]; omega, HKL.out⟩
                        · show OpW w DV ZV (lvA (from_ : Int) (n : Int) (if j = 0 then K else s.fst) NX (j + 1) (.slice (some ⟨g6, 0, none⟩) (s.recs.length + 1) cap6)) w9
                          rw [HJ0.out]
                          exact HO9.out.1
                        · show w9.ownsRow (w.heap.size + 3) 9 1 (.slice (some ⟨g6, 0, none⟩) (s.recs.length + 1) cap6) (s.recs ++ [s.now ++ PT]).length (strs (s.recs ++ [s.now ++ PT]))
                          have h9 := HO9.out.2
                          rw [HAP.out] at h9
                          rw [List.length_append, strs, List.map_append]
                          exact h9
                    case measure =>
                      show n - (intOf (.int .i64 ((j : Int) + 1))).toNat < n - (intOf (.int .i64 (j : Int))).toNat
                      simp only [intOf]
                      have := HJ.out.1
                      omega
              · by_cases hd1 : DD = 1
                · have hD1 : ((DD : Int) != 1) = false := by simp; omega
                  have hbad : badW s K = false := by rw [hbw2, hd1]; rfl
                  clear hbw2 hd1
                  have HKK := Lib.hid hkk
                  clear hkk hk0
                  cases E
                  · by_cases hj00 : j = 0
                    · have hK0 : ((K : Int) == 0) = false := by have := HKK.out; simp; omega
                      have hj0 : ((j : Int) == 0) = true := by simp; omega
                      have HNS := Lib.hid (show scanW (bs.drop j) j s = scanW (bs.drop (j + 1)) (j + 1) (nextW j s K PT false) by rw [scan_at HJ.out.2.1, HJ.out.2.2.1, if_neg (by rw [hbad]; simp)])
                      have HJ0 := Lib.hid (show (if j = 0 then K else s.fst) = K by rw [if_pos hj00])
                      clear hbad hj00
                      go_wp2_with fail
                      go_roundw
                      case rel =>
                        refine ⟨_, _, _, _, _, _, ?_, rfl, rfl, rfl, rfl, rfl, rfl⟩
                        unfold RO3
                        refine ⟨j + 1, nextW j s K PT false, v, HJ.out.1, by rw [HAP.out]; rfl, rfl, rfl, ?_, by simp, ?_⟩
                        · show _ = Value.int .u64 (((if j = 0 then K else s.fst : Nat)) : Int)
                          rw [HJ0.out]
                        · exact ⟨HS.out.scan.trans HNS.out, HS.out.op, HS.out.own, by have h1 := HS.out.now; have h2 := HJ.out.2.2.2; simp only [nextW, Bool.false_eq_true, if_false, List.length_append]; omega, by have := HS.out.few; simp only [nextW, Bool.false_eq_true, if_false]; omega, HKL.out⟩
                      case measure => simp only [intOf]; have := HJ.out.1; omega
                    · have hK0 : ((K : Int) == 0) = false := by have := HKK.out; simp; omega
                      have hj0 : ((j : Int) == 0) = false := by simp; omega
                      have HNS := Lib.hid (show scanW (bs.drop j) j s = scanW (bs.drop (j + 1)) (j + 1) (nextW j s K PT false) by rw [scan_at HJ.out.2.1, HJ.out.2.2.1, if_neg (by rw [hbad]; simp)])
                      have HJ0 := Lib.hid (show (if j = 0 then K else s.fst) = FS by rw [if_neg hj00]; exact HQ.out.2.2.symm)
                      clear hbad hj00
                      go_wp2_with fail
                      go_roundw
                      case rel =>
                        refine ⟨_, _, _, _, _, _, ?_, rfl, rfl, rfl, rfl, rfl, rfl⟩
                        unfold RO3
                        refine ⟨j + 1, nextW j s K PT false, v, HJ.out.1, by rw [HAP.out]; rfl, rfl, rfl, ?_, by simp, ?_⟩
                        · show _ = Value.int .u64 (((if j = 0 then K else s.fst : Nat)) : Int)
                          rw [HJ0.out]
                        · exact ⟨HS.out.scan.trans HNS.out, HS.out.op, HS.out.own, by have h1 := HS.out.now; have h2 := HJ.out.2.2.2; simp only [nextW, Bool.false_eq_true, if_false, List.length_append]; omega, by have := HS.out.few; simp only [nextW, Bool.false_eq_true, if_false]; omega, HKL.out⟩
                      case measure => simp only [intOf]; have := HJ.out.1; omega
                  · by_cases hj00 : j = 0
                    · have hK0 : ((K : Int) == 0) = false := by have := HKK.out; simp; omega
                      have hj0 : ((j : Int) == 0) = true := by simp; omega
                      have HNS := Lib.hid (show scanW (bs.drop j) j s = scanW (bs.drop (j + 1)) (j + 1) (nextW j s K PT true) by rw [scan_at HJ.out.2.1, HJ.out.2.2.1, if_neg (by rw [hbad]; simp)])
                      have HJ0 := Lib.hid (show (if j = 0 then K else s.fst) = K by rw [if_pos hj00])
                      clear hbad hj00
                      have hc5 : w5.cell? ⟨w.heap.size + 2, 5, none⟩ = some v := cell_of_cells HS.out.op.lv 5
                      go_upto_region 33 with fail
                      go_wp2_with (at_builtin; refine wpList_append_own_at _ rfl _ _ 29 rfl (w.heap.size + 3) 9 i0 (.string ByteArray.empty) 1 16 Try.underlying29 HI.out.1 HI.out.2.1 HI.out.2.2.1 HI.out.2.2.2 rfl (by decide) _ s.recs.length (strs s.recs) rfl (HS.out.own.alloc _) ⟨w5.heap.size, 0, none⟩ 1 1 [.string (SN ++ SP)] rfl rfl (cell_one_new _ _ _) (one_of rfl) (by have h1 := HS.out.few; have h2 := HJ.out.1; have h3 := HH.out.2.2.1; have h4 := HH.out.2.2.2.2.1; unfold maxLen; omega) (by have h1 := HS.out.few; have h2 := HJ.out.1; have h3 := HH.out.2.2.1; have h4 := HH.out.2.2.2.2.1; omega) (by have := lt_of_cells HS.out.op.lv; simp; omega) ?_)
                      intro V6 w6 hown6 hgrow _ _
                      obtain ⟨g6, cap6, hv6, _, _⟩ := hown6.form (by omega)
                      subst hv6
                      have HG6 := Lib.hid (And.intro hown6 hgrow)
                      have HO6 : Hid (OpW w DV ZV (lvA (from_ : Int) (n : Int) s.first NX s.have_ v) w6) := Lib.hid (op_grown HS.out.op HS.out.own hgrow)
                      have hc56 : w6.cell? ⟨w.heap.size + 2, 5, none⟩ = some v := cell_of_cells HO6.out.lv 5
                      have hf56 := free_of_cells HO6.out.lv 5
                      clear hown6 hgrow hc5
                      go_upto_region 34 with fail
                      have hO7 := HO6.out.set 5 (.slice (some ⟨g6, 0, none⟩) (s.recs.length + 1) cap6)
                      have hw7 := own_set (p := w.heap.size + 2) HG6.out.1 (by omega) 5 (.slice (some ⟨g6, 0, none⟩) (s.recs.length + 1) cap6)
                      clear hc56 hf56
                      generalize w6.setCell ⟨w.heap.size + 2, 5, none⟩ (.slice (some ⟨g6, 0, none⟩) (s.recs.length + 1) cap6) = w7 at *
                      have HO7 := Lib.hid (And.intro hO7 hw7)
                      have hc4 : w7.cell? ⟨w.heap.size + 2, 4, none⟩ = some (.int .i64 (s.have_ : Int)) := cell_of_cells HO7.out.1.lv 4
                      have hf4 := free_of_cells HO7.out.1.lv 4
                      clear hO7 hw7
                      go_upto_region 35 with fail
                      have hO8 := HO7.out.1.set 4 (.int .i64 ((j : Int) + 1))
                      have hw8 := own_set (p := w.heap.size + 2) HO7.out.2 (by omega) 4 (.int .i64 ((j : Int) + 1))
                      clear hc4 hf4
                      generalize w7.setCell ⟨w.heap.size + 2, 4, none⟩ (.int .i64 ((j : Int) + 1)) = w8 at *
                      have HO8 := Lib.hid (And.intro hO8 hw8)
                      have hc2 : w8.cell? ⟨w.heap.size + 2, 2, none⟩ = some (.int .u64 (s.first : Int)) := cell_of_cells HO8.out.1.lv 2
                      have hf2 := free_of_cells HO8.out.1.lv 2
                      clear hO8 hw8
                      go_upto_region 36 with fail
                      have hO9 := HO8.out.1.set 2 (.int .u64 (K : Int))
                      have hw9 := own_set (p := w.heap.size + 2) HO8.out.2 (by omega) 2 (.int .u64 (K : Int))
                      clear hc2 hf2
                      generalize w8.setCell ⟨w.heap.size + 2, 2, none⟩ (.int .u64 (K : Int)) = w9 at *
                      have HO9 := Lib.hid (And.intro hO9 hw9)
                      clear hO9 hw9
                      go_wp2_with fail
                      go_roundw
                      case rel =>
                        repeat (apply Exists.intro)
                        refine And.intro ?hrl7 ?heq7
                        case' heq7 => (repeat' (first | rfl | apply And.intro))
                        unfold RO3
                        refine ⟨j + 1, nextW j s K PT true, (.slice (some ⟨g6, 0, none⟩) (s.recs.length + 1) cap6), HJ.out.1, rfl, rfl, rfl, ?_, by simp, ?_⟩
                        · show _ = Value.int .u64 (((if j = 0 then K else s.fst : Nat)) : Int)
                          rw [HJ0.out]
                        · refine ⟨HS.out.scan.trans HNS.out, ?_, ?_, by simp [nextW], by have := HS.out.few; simp only [nextW, if_true, List.length_append, List.length_singleton]; omega, HKL.out⟩
                          · show OpW w DV ZV (lvA (from_ : Int) (n : Int) (if j = 0 then K else s.fst) NX (j + 1) (.slice (some ⟨g6, 0, none⟩) (s.recs.length + 1) cap6)) w9
                            rw [HJ0.out]
                            exact HO9.out.1
                          · show w9.ownsRow (w.heap.size + 3) 9 1 (.slice (some ⟨g6, 0, none⟩) (s.recs.length + 1) cap6) (s.recs ++ [s.now ++ PT]).length (strs (s.recs ++ [s.now ++ PT]))
                            have h9 := HO9.out.2
                            rw [HAP.out] at h9
                            rw [List.length_append, strs, List.map_append]
                            exact h9
                      case measure =>
                        show n - (intOf (.int .i64 ((j : Int) + 1))).toNat < n - (intOf (.int .i64 (j : Int))).toNat
                        simp only [intOf]
                        have := HJ.out.1
                        omega
                    · have hK0 : ((K : Int) == 0) = false := by have := HKK.out; simp; omega
                      have hj0 : ((j : Int) == 0) = false := by simp; omega
                      have HNS := Lib.hid (show scanW (bs.drop j) j s = scanW (bs.drop (j + 1)) (j + 1) (nextW j s K PT true) by rw [scan_at HJ.out.2.1, HJ.out.2.2.1, if_neg (by rw [hbad]; simp)])
                      have HJ0 := Lib.hid (show (if j = 0 then K else s.fst) = FS by rw [if_neg hj00]; exact HQ.out.2.2.symm)
                      clear hbad hj00
                      have hc5 : w5.cell? ⟨w.heap.size + 2, 5, none⟩ = some v := cell_of_cells HS.out.op.lv 5
                      go_upto_region 33 with fail
                      go_wp2_with (at_builtin; refine wpList_append_own_at _ rfl _ _ 29 rfl (w.heap.size + 3) 9 i0 (.string ByteArray.empty) 1 16 Try.underlying29 HI.out.1 HI.out.2.1 HI.out.2.2.1 HI.out.2.2.2 rfl (by decide) _ s.recs.length (strs s.recs) rfl (HS.out.own.alloc _) ⟨w5.heap.size, 0, none⟩ 1 1 [.string (SN ++ SP)] rfl rfl (cell_one_new _ _ _) (one_of rfl) (by have h1 := HS.out.few; have h2 := HJ.out.1; have h3 := HH.out.2.2.1; have h4 := HH.out.2.2.2.2.1; unfold maxLen; omega) (by have h1 := HS.out.few; have h2 := HJ.out.1; have h3 := HH.out.2.2.1; have h4 := HH.out.2.2.2.2.1; omega) (by have := lt_of_cells HS.out.op.lv; simp; omega) ?_)
                      intro V6 w6 hown6 hgrow _ _
                      obtain ⟨g6, cap6, hv6, _, _⟩ := hown6.form (by omega)
                      subst hv6
                      have HG6 := Lib.hid (And.intro hown6 hgrow)
                      have HO6 : Hid (OpW w DV ZV (lvA (from_ : Int) (n : Int) s.first NX s.have_ v) w6) := Lib.hid (op_grown HS.out.op HS.out.own hgrow)
                      have hc56 : w6.cell? ⟨w.heap.size + 2, 5, none⟩ = some v := cell_of_cells HO6.out.lv 5
                      have hf56 := free_of_cells HO6.out.lv 5
                      clear hown6 hgrow hc5
                      go_upto_region 34 with fail
                      have hO7 := HO6.out.set 5 (.slice (some ⟨g6, 0, none⟩) (s.recs.length + 1) cap6)
                      have hw7 := own_set (p := w.heap.size + 2) HG6.out.1 (by omega) 5 (.slice (some ⟨g6, 0, none⟩) (s.recs.length + 1) cap6)
                      clear hc56 hf56
                      generalize w6.setCell ⟨w.heap.size + 2, 5, none⟩ (.slice (some ⟨g6, 0, none⟩) (s.recs.length + 1) cap6) = w7 at *
                      have HO7 := Lib.hid (And.intro hO7 hw7)
                      have hc4 : w7.cell? ⟨w.heap.size + 2, 4, none⟩ = some (.int .i64 (s.have_ : Int)) := cell_of_cells HO7.out.1.lv 4
                      have hf4 := free_of_cells HO7.out.1.lv 4
                      clear hO7 hw7
                      go_upto_region 35 with fail
                      have hO8 := HO7.out.1.set 4 (.int .i64 ((j : Int) + 1))
                      have hw8 := own_set (p := w.heap.size + 2) HO7.out.2 (by omega) 4 (.int .i64 ((j : Int) + 1))
                      clear hc4 hf4
                      generalize w7.setCell ⟨w.heap.size + 2, 4, none⟩ (.int .i64 ((j : Int) + 1)) = w8 at *
                      have HO8 := Lib.hid (And.intro hO8 hw8)
                      have hc2 : w8.cell? ⟨w.heap.size + 2, 2, none⟩ = some (.int .u64 (s.first : Int)) := cell_of_cells HO8.out.1.lv 2
                      have hf2 := free_of_cells HO8.out.1.lv 2
                      clear hO8 hw8
                      go_upto_region 36 with fail
                      have hO9 := HO8.out.1.set 2 (.int .u64 (FS : Int))
                      have hw9 := own_set (p := w.heap.size + 2) HO8.out.2 (by omega) 2 (.int .u64 (FS : Int))
                      clear hc2 hf2
                      generalize w8.setCell ⟨w.heap.size + 2, 2, none⟩ (.int .u64 (FS : Int)) = w9 at *
                      have HO9 := Lib.hid (And.intro hO9 hw9)
                      clear hO9 hw9
                      go_wp2_with fail
                      go_roundw
                      case rel =>
                        repeat (apply Exists.intro)
                        refine And.intro ?hrl8 ?heq8
                        case' heq8 => (repeat' (first | rfl | apply And.intro))
                        unfold RO3
                        refine ⟨j + 1, nextW j s K PT true, (.slice (some ⟨g6, 0, none⟩) (s.recs.length + 1) cap6), HJ.out.1, rfl, rfl, rfl, ?_, by simp, ?_⟩
                        · show _ = Value.int .u64 (((if j = 0 then K else s.fst : Nat)) : Int)
                          rw [HJ0.out]
                        · refine ⟨HS.out.scan.trans HNS.out, ?_, ?_, by simp [nextW], by have := HS.out.few; simp only [nextW, if_true, List.length_append, List.length_singleton]; omega, HKL.out⟩
                          · show OpW w DV ZV (lvA (from_ : Int) (n : Int) (if j = 0 then K else s.fst) NX (j + 1) (.slice (some ⟨g6, 0, none⟩) (s.recs.length + 1) cap6)) w9
                            rw [HJ0.out]
                            exact HO9.out.1
                          · show w9.ownsRow (w.heap.size + 3) 9 1 (.slice (some ⟨g6, 0, none⟩) (s.recs.length + 1) cap6) (s.recs ++ [s.now ++ PT]).length (strs (s.recs ++ [s.now ++ PT]))
                            have h9 := HO9.out.2
                            rw [HAP.out] at h9
                            rw [List.length_append, strs, List.map_append]
                            exact h9
                      case measure =>
                        show n - (intOf (.int .i64 ((j : Int) + 1))).toNat < n - (intOf (.int .i64 (j : Int))).toNat
                        simp only [intOf]
                        have := HJ.out.1
                        omega
                · have hD1 : ((DD : Int) != 1) = true := by simp; omega
                  have hK0 : ((K : Int) == 0) = false := by simp; omega
                  have hbad : badW s K = true := by rw [hbw2]; simp [hd1]
                  clear hbw2 hd1 hkk hk0
                  have hvo := Lib.hid (own_one HS.out.own)
                  obtain ⟨LV, hLV⟩ : ∃ LV, LV = lvA (from_ : Int) (n : Int) s.first NX s.have_ v := ⟨_, rfl⟩
                  have HLV := Lib.hid (And.intro (hLV ▸ HS.out.op) hLV)
                  have HBD := Lib.hid hbad
                  clear hLV hbad
                  go_wp2_with (first
                    | (refine wpList_load_row (by rfl) 38 (.tmp 8) (by rfl) (w.heap.size + 2) (by rfl) 38 LV (0, 0) _ HLV.out.1.lv Try.underlying38 (by rfl) (by rw [HLV.out.2]; exact lm_info) ?_)
                    | (refine wpList_store_row (by rfl) 38 (.tmp 6) (.tmp 116) (by rfl) (w.heap.size + 1) LV (by rfl) (by rfl) 38 ZV HLV.out.1.zv (by rw [HLV.out.2]; exact lm_info) (by rw [HV.out.1, HLV.out.2]; rfl) (by rw [HLV.out.2]; exact lvA_one _ _ _ _ _ hvo.out) ?_))
                  (try simp only [Exit.inBlock, Exit.then])
                  refine bodyPost_ret (lm_result (p := 6) (u := 7) rfl _ _ (w.heap.size + 1) LV rfl (setRow_at HLV.out.1.zv) (by rw [HLV.out.2]; rfl)) rfl ?_
                  rw [HLV.out.2]
                  exact open_post HS.out (by rw [scan_at HJ.out.2.1, HJ.out.2.2.1, if_pos HBD.out]) HNX.out
        · have hlt2 : ¬ (j : Int) < (n : Int) := by omega
          obtain rfl : n = j := by omega
          have HS := Lib.hid hS
          have hvo := Lib.hid (own_one hS.own)
          obtain ⟨LV, hLV⟩ : ∃ LV, LV = lvA (from_ : Int) (n : Int) s.first NX s.have_ v := ⟨_, rfl⟩
          have HLV := Lib.hid (And.intro (hLV ▸ hS.op) hLV)
          clear hLV hS hj hlt
          go_wp2_with (first
            | (refine wpList_load_row (by rfl) 38 (.tmp 8) (by rfl) (w.heap.size + 2) (by rfl) 38 LV (0, 0) _ HLV.out.1.lv Try.underlying38 (by rfl) (by rw [HLV.out.2]; exact lm_info) ?_)
            | (refine wpList_store_row (by rfl) 38 (.tmp 6) (.tmp 138) (by rfl) (w.heap.size + 1) LV (by rfl) (by rfl) 38 ZV HLV.out.1.zv (by rw [HLV.out.2]; exact lm_info) (by rw [HV.out.1, HLV.out.2]; rfl) (by rw [HLV.out.2]; exact lvA_one _ _ _ _ _ hvo.out) ?_))
          (try simp only [Exit.inBlock, Exit.then])
          refine bodyPost_ret (lm_result (p := 6) (u := 7) rfl _ _ (w.heap.size + 1) LV rfl (setRow_at HLV.out.1.zv) (by rw [HLV.out.2]; rfl)) rfl ?_
          rw [HLV.out.2]
          exact open_post HS.out (by rw [show bs.drop n = [] from List.drop_of_length_le (by rw [HBL.out]; exact Nat.le_refl _), scanW]) HNX.out
end Go.Proofs.Ytkhbmgmppoepjaa
