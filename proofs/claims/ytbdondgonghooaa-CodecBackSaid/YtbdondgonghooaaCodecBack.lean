/-
  The statement CodecBack: its walk.
-/
import Derived.Test.YtbdondgonghooaaRef
import Derived.Test.YtbdondgonghooaaParts
import Derived.Test.YtbdondgonghooaaBackPure
import Derived.Test.YtbdondgonghooaaCodecOwn
namespace Go.Proofs.Ytbdondgonghooaa
open Go.RowKit Codec

theorem low_bit (x : Nat) (hx : x < 18446744073709551616) : (if (bits .and .u64 (x : Int) 1 == 1) = true then (1 : UInt8) else 0) = (if x % 2 = 1 then 1 else 0) ∧
    IntKind.u8.wrap (bits .and .u64 (x : Int) 1) = (((if x % 2 = 1 then 1 else 0 : UInt8).toNat : Nat) : Int) ∧ (bits .and .u64 (x : Int) 1 == 1) = (x % 2 == 1) := by
  have e : bits .and .u64 (x : Int) 1 = ((x % 2 : Nat) : Int) := by
    rw [show (1 : Int) = ((1 : Nat) : Int) from rfl, u64_and_nat x 1 hx (by omega), Nat.and_one_is_mod]
  rw [e]
  rcases Nat.mod_two_eq_zero_or_one x with h | h <;> rw [h] <;> decide

/-- What the first loop keeps: k parts are put. -/
structure Half (w wr : World) (p : Nat) (l : List Pt) (k : Nat) : Prop where
  below : Below w.heap.size w wr
  wr : Wr wr (w.heap.size ≤ ·) p (pcs (l.take k))
  small : ∀ q ∈ l.take k, q.b.length ≤ 200

set_option maxHeartbeats 4000000 in
set_option maxRecDepth 100000 in
theorem walk_back {w : World} {A : Option Addr} {n c : Nat} {l : List Pt} (h : Parts w A n c l) :
    Calls Try.prog 4 #[.slice A n c] w fun e w' => e = .returned (.bool true) ∧ Below w.heap.size w w' := by
  by_cases hn : n ≤ 30
  · have HLEN := Lib.hid h.len
    have HP := Lib.hid h
    clear h
    go_enter Try.func4, Try.ntmps4
    go_wp2_with fail
    refine (awake_true _).mono ?_
    rintro _ w1 ⟨rfl, hb1⟩
    go_wp2_with fail
    refine (newWriter _).mono ?_
    rintro _ w2 ⟨p, rfl, hW2, hb2⟩
    have hb2 := hb1.trans (hb2.mono hb1.size)
    have hsz1 := hb1.size
    clear hb1
    go_wp2_with fail
    go_loopw [5, 6] (fun s i wr => ∃ k : Nat, k ≤ n ∧ i = .int .i64 k ∧ s = .string (strB (pcs (l.take k))) ∧ Half w wr p l k)
      (fun _ i _ => n - (intOf i).toNat)
    case atStart => exact ⟨0, Nat.zero_le _, rfl, rfl, hb2, hW2.mono fun b _ hs => Nat.le_trans hsz1 hs, by simp⟩
    case round =>
      obtain ⟨k, hk, rfl, hs, hbr, hWr, hsm⟩ := hrel
      have hlen6 : (pcs (l.take k)).length ≤ 6300 := by
        have := pcs_len (l.take k) (fun q hq => ⟨(HP.out.byt q (List.mem_of_mem_take hq)).1, hsm q hq⟩)
        rw [List.length_take] at this; omega
      by_cases hlt : k < n
      · subst hs
        obtain ⟨b, off, hA, hblt, hc⟩ := HP.out.row (by omega)
        subst hA
        obtain ⟨q, hq⟩ : ∃ q, l[k]? = some q := ⟨_, List.getElem?_eq_getElem (by rw [HLEN.out]; exact hlt)⟩
        obtain ⟨c0, c1, c2⟩ := hc k q hq
        have d1 := fun W (h : Below w.heap.size w W) => (h.cell (p := ⟨_, _, none⟩) hblt).trans c1
        have d2 := fun W (h : Below w.heap.size w W) => (h.cell (p := ⟨_, _, none⟩) hblt).trans c2
        have D1 := Lib.hid d1
        have D2 := Lib.hid d2
        have c0 := (hbr.cell (p := ⟨_, _, none⟩) hblt).trans c0
        have c1 := d1 _ hbr
        have c2 := d2 _ hbr
        have hmem : q ∈ l := List.mem_of_getElem? hq
        obtain ⟨hx, hY⟩ := HP.out.byt q hmem
        have HYL := Lib.hid hY.len
        have hYs := (hY.mono (T := (· < w.heap.size)) fun b hb _ => hb)
        have HY := Lib.hid hYs
        have HT := Lib.hid (pcs_take l k q hq)
        by_cases h200 : 200 < q.n
        · clear d1 d2 hc hq hsm hmem hY hYs
          go_wp2_with fail
          go_ret
          exact ⟨rfl, hbr⟩
        · have HSM : Hid (∀ q' ∈ l.take (k + 1), q'.b.length ≤ 200) := Lib.hid (by
            intro q' hq'
            obtain ⟨hk', rfl⟩ := List.getElem?_eq_some_iff.1 hq
            rw [List.take_succ_eq_append_getElem hk', List.mem_append] at hq'
            rcases hq' with hq' | hq'
            · exact hsm q' hq'
            · rw [List.mem_singleton.1 hq', HYL.out]; omega)
          clear d1 d2 hc hq hsm hmem hY hYs
          have HK := Lib.hid (Nat.succ_le_of_lt hlt)
          by_cases hz2 : bits .and .i64 q.k 3 = 2
          · have hpc : pc q = put q.b.length ++ q.b := by unfold pc; rw [hz2]; simp
            rw [hpc] at HT
            have HADD := Lib.hid (strB_append (pcs (l.take k)) (put q.b.length ++ q.b))
            have hwb := wbytes hWr (HY.out.below hbr) (fun b _ ht hs => by omega) (by omega)
            clear hpc
            go_wp2_with fail
            refine hwb.mono ?_
            rintro _ wa hput
            obtain ⟨rfl, _⟩ := hput.1
            obtain ⟨hWa, hba⟩ := hput.from hbr.size
            have hba := hbr.trans hba
            have c2 := D2.out _ hba
            have hcv := byt_string (HY.out.below hba)
            rw [show (⟨q.b.toArray⟩ : ByteArray) = strB q.b from rfl] at hcv
            clear hput hwb hWr
            go_wp2_with fail
            refine (ref_with q.b _ (by rw [HYL.out]; omega)).mono ?_
            rintro _ wb ⟨rfl, hbb⟩
            have hsz : ¬ 9223372036854775807 < (strB (pcs (l.take k))).size + (strB (put q.b.length ++ q.b)).size := by
              have := HYL.out
              have := put_length_64 (x := q.b.length) (by omega)
              rw [strB_size, strB_size, List.length_append]; omega
            have hbw := hba.trans (hbb.mono hba.size)
            have hWb := hWa.turned (Turned.of_below (S := fun _ => False) hbb) (fun _ _ _ hf => hf)
            clear hbb hba hWa hcv
            go_wp2_with fail
            go_roundw
            case rel => exact ⟨k + 1, HK.out, by go_num, by rw [HT.out, HADD.out], hbw, by rw [HT.out]; exact hWb, HSM.out⟩
            case measure => simp [intOf]; omega
          · by_cases hz01 : bits .and .i64 q.k 3 = 0 ∨ bits .and .i64 q.k 3 = 1
            · have hpc : pc q = put q.x := by unfold pc; rw [if_pos hz01]
              rw [hpc] at HT
              have HADD := Lib.hid (strB_append (pcs (l.take k)) (put q.x))
              have hwb := wuint hWr hx (by omega)
              have hsz : ¬ 9223372036854775807 < (strB (pcs (l.take k))).size + (strB (put q.x)).size := by
                have := put_length_64 hx
                rw [strB_size, strB_size]; omega
              have HZ := Lib.hid hsz
              clear hpc hsz
              rcases hz01 with hz | hz
              · go_wp2_with fail
                refine hwb.mono ?_
                rintro _ wa hput
                obtain ⟨rfl, _⟩ := hput.1
                obtain ⟨hWa, hba⟩ := hput.from hbr.size
                have hba := hbr.trans hba
                have c1 := D1.out _ hba
                clear hput hwb hWr
                go_wp2_with fail
                refine (ref_put 10 q.x _ (by omega) hx).mono ?_
                rintro _ wb ⟨rfl, hbb⟩
                have hsz := HZ.out
                have hbw := hba.trans (hbb.mono hba.size)
                have hWb := hWa.turned (Turned.of_below (S := fun _ => False) hbb) (fun _ _ _ hf => hf)
                clear hbb hba hWa
                go_wp2_with fail
                go_roundw
                case rel => exact ⟨k + 1, HK.out, by go_num, by rw [HT.out, HADD.out], hbw, by rw [HT.out]; exact hWb, HSM.out⟩
                case measure => simp [intOf]; omega
              · go_wp2_with fail
                refine hwb.mono ?_
                rintro _ wa hput
                obtain ⟨rfl, _⟩ := hput.1
                obtain ⟨hWa, hba⟩ := hput.from hbr.size
                have hba := hbr.trans hba
                have c1 := D1.out _ hba
                clear hput hwb hWr
                go_wp2_with fail
                refine (ref_put 10 q.x _ (by omega) hx).mono ?_
                rintro _ wb ⟨rfl, hbb⟩
                have hsz := HZ.out
                have hbw := hba.trans (hbb.mono hba.size)
                have hWb := hWa.turned (Turned.of_below (S := fun _ => False) hbb) (fun _ _ _ hf => hf)
                clear hbb hba hWa
                go_wp2_with fail
                go_roundw
                case rel => exact ⟨k + 1, HK.out, by go_num, by rw [HT.out, HADD.out], hbw, by rw [HT.out]; exact hWb, HSM.out⟩
                case measure => simp [intOf]; omega
            · have hz0 : ¬ bits .and .i64 q.k 3 = 0 := fun e => hz01 (.inl e)
              have hz1 : ¬ bits .and .i64 q.k 3 = 1 := fun e => hz01 (.inr e)
              obtain ⟨lb1, lb2, lb3⟩ := low_bit q.x hx
              obtain ⟨v, hv⟩ : ∃ v : UInt8, (if q.x % 2 = 1 then 1 else 0) = v := ⟨_, rfl⟩
              have hpc : pc q = v :: q.b := by unfold pc; rw [if_neg hz01, if_neg hz2, hv]
              rw [hpc] at HT
              have hwb := wbool hWr (bits .and .u64 (q.x : Int) 1 == 1) (by omega)
              rw [lb1, hv] at hwb
              rw [hv] at lb2
              have LB := Lib.hid lb2
              clear hpc hz01 lb1 lb2 lb3 hv
              go_wp2_with fail
              refine hwb.mono ?_
              rintro _ wa hput
              obtain ⟨rfl, _⟩ := hput.1
              obtain ⟨hWa, hba⟩ := hput.from hbr.size
              have hba := hbr.trans hba
              have c2 := D2.out _ hba
              have hwf := wfixed hWa (HY.out.below hba) (by simp; omega)
              clear hput hwb hWr
              go_wp2_with fail
              refine hwf.mono ?_
              rintro _ wb hput
              obtain ⟨rfl, _⟩ := hput.1
              obtain ⟨hWb, hbb⟩ := hput.from hba.size
              have hbb := hba.trans hbb
              have HB := Lib.hid hbb
              have HWB := Lib.hid hWb
              clear hput hwf hWa hba hbb hWb c0 c1 c2
              go_wp2_with fail
              refine wp_region_plan (fun W => Below w.heap.size w W) [([0, 1, 2, 3, 4, 5, 6, 7, 10, 11, 12, 13, 14, 15], 8)] [9, 16, 17, 18] (by kernel_rfl) (by kernel_rfl) (fun _ _ d _ _ h => by cases d <;> exact h) HB.out.drew ?_
              refine plan_eff ?_
              refine seg_read ?v1 (by rfl) (by rfl) ?h1 ?_
              case h1 => intro W hW; go_simp; with_reducible rfl
              try simp only [Act.put, List.setIfInBounds_toArray, List.set_cons_zero, List.set_cons_succ]
              refine seg_read ?v2 (by rfl) (by rfl) ?h2 ?_
              case h2 => intro W hW; go_simp; with_reducible rfl
              try simp only [Act.put, List.setIfInBounds_toArray, List.set_cons_zero, List.set_cons_succ]
              refine seg_read ?v3 (by rfl) (by rfl) ?h3 ?_
              case h3 => intro W hW; go_simp; with_reducible rfl
              try simp only [Act.put, List.setIfInBounds_toArray, List.set_cons_zero, List.set_cons_succ]
              refine seg_read ?v4 (by rfl) (by rfl) ?h4 ?_
              case h4 => intro W hW; go_simp; with_reducible rfl
              try simp only [Act.put, List.setIfInBounds_toArray, List.set_cons_zero, List.set_cons_succ]
              refine seg_read ?v5 (by rfl) (by rfl) ?h5 ?_
              case h5 => intro W hW; go_simp; with_reducible rfl
              try simp only [Act.put, List.setIfInBounds_toArray, List.set_cons_zero, List.set_cons_succ]
              refine seg_read ?v6 (by rfl) (by rfl) ?h6 ?_
              case h6 => intro W hW; have c1W := D1.out W hW; go_simp; with_reducible rfl
              try simp only [Act.put, List.setIfInBounds_toArray, List.set_cons_zero, List.set_cons_succ]
              refine seg_read ?v7 (by rfl) (by rfl) ?h7 ?_
              case h7 => intro W hW; go_simp; with_reducible rfl
              try simp only [Act.put, List.setIfInBounds_toArray, List.set_cons_zero, List.set_cons_succ]
              refine seg_read ?v8 (by rfl) (by rfl) ?h8 ?_
              case h8 => intro W hW; go_simp; with_reducible rfl
              try simp only [Act.put, List.setIfInBounds_toArray, List.set_cons_zero, List.set_cons_succ]
              refine seg_read ?v9 (by rfl) (by rfl) ?h9 ?_
              case h9 => intro W hW; go_simp; with_reducible rfl
              try simp only [Act.put, List.setIfInBounds_toArray, List.set_cons_zero, List.set_cons_succ]
              refine seg_read ?v10 (by rfl) (by rfl) ?h10 ?_
              case h10 => intro W hW; go_simp; with_reducible rfl
              try simp only [Act.put, List.setIfInBounds_toArray, List.set_cons_zero, List.set_cons_succ]
              refine seg_read ?v11 (by rfl) (by rfl) ?h11 ?_
              case h11 => intro W hW; go_simp; with_reducible rfl
              try simp only [Act.put, List.setIfInBounds_toArray, List.set_cons_zero, List.set_cons_succ]
              refine seg_read ?v12 (by rfl) (by rfl) ?h12 ?_
              case h12 => intro W hW; go_simp; with_reducible rfl
              try simp only [Act.put, List.setIfInBounds_toArray, List.set_cons_zero, List.set_cons_succ]
              refine seg_read ?v13 (by rfl) (by rfl) ?h13 ?_
              case h13 => intro W hW; have c2W := D2.out W hW; go_simp; with_reducible rfl
              try simp only [Act.put, List.setIfInBounds_toArray, List.set_cons_zero, List.set_cons_succ]
              refine seg_read ?v14 (by rfl) (by rfl) ?h14 ?_
              case h14 => intro W hW; have hcvW := byt_string (HY.out.below hW); rw [show (⟨q.b.toArray⟩ : ByteArray) = strB q.b from rfl] at hcvW; go_simp; with_reducible rfl
              try simp only [Act.put, List.setIfInBounds_toArray, List.set_cons_zero, List.set_cons_succ]
              rw [LB.out]
              refine seg_nil ?_
              refine eff_step (by rfl) (fun K hK => ?_)
              go_simp
              obtain ⟨wc, hwc⟩ : ∃ wc, wc = (wb.alloc (.cells #[.int .u8 (v.toNat : Int)] 5)).drew := ⟨_, rfl⟩
              have hbc : Below w.heap.size w wc := by rw [hwc]; exact (HB.out.alloc HB.out.size _).drew
              have hWc : Wr wc (w.heap.size ≤ ·) p ((pcs (l.take k) ++ [v]) ++ q.b) := by
                rw [hwc]; exact HWB.out.turned (T := fun _ => False) (((Turned.refl _ _).alloc _).drew) (fun _ _ _ hf => hf)
              have hcv : (convert 22 9 (.slice (some ⟨wb.heap.size, 0, none⟩) 1 1)).run Try.prog wc = .ok (.string (strB [v])) wc := by
                rw [hwc]; exact byt_string ((byt_one wb v).below ((Below.refl _ _).drew))
              rw [← hwc]
              have hs1 : ¬ 9223372036854775807 < (strB [v]).size + (strB q.b).size := by
                have := HYL.out
                rw [strB_size, strB_size]; simp; omega
              have hs2 : ¬ 9223372036854775807 < (strB (pcs (l.take k))).size + ((strB [v]).size + (strB q.b).size) := by
                have := HYL.out
                rw [strB_size, strB_size, strB_size]; simp; omega
              have HF := Lib.hid (show strB (pcs (l.take k)) ++ (strB [v] ++ strB q.b) = strB (pcs (l.take (k + 1))) by rw [strB_append, strB_append, HT.out]; rfl)
              have hWc : Wr wc (w.heap.size ≤ ·) p (pcs (l.take (k + 1))) := by
                rw [HT.out]; rw [List.append_assoc] at hWc; exact hWc
              clear hwc HB HWB
              refine hK _ _ ⟨fun W => W = wc, rfl, fun W e => e ▸ hbc, ?_⟩
              clear hK K
              refine plan_last ?_
              refine seg_step (by rfl) (fun K hK => ?_)
              go_simp
              refine hK _ ?_
              clear hK K
              refine seg_step (by rfl) (fun K hK => ?_)
              go_simp
              try refine ⟨_, if_neg hs1, ?_⟩
              refine hK _ ?_
              clear hK K
              refine seg_step (by rfl) (fun K hK => ?_)
              go_simp
              try refine ⟨_, if_neg hs2, ?_⟩
              refine hK _ ?_
              clear hK K
              refine seg_step (by rfl) (fun K hK => ?_)
              go_simp
              refine hK _ ?_
              clear hK K
              refine seg_nil ?_
              go_wp2_with fail
              go_roundw
              case rel => exact ⟨k + 1, HK.out, by go_num, by first | rw [HF.out] | rfl, hbc, hWc, HSM.out⟩
              case measure => simp [intOf]; omega
      · have hkn : k = n := by omega
        subst hkn
        have hall : l.take k = l := List.take_of_length_le (by rw [HLEN.out]; omega)
        rw [hall] at hs hWr hsm hlen6
        subst hs
        have HSM := Lib.hid hsm
        obtain ⟨wq, rfl⟩ : ∃ wq, wq = wr := ⟨_, rfl⟩
        have hto := wout hWr (by omega)
        clear hall hsm hWr
        go_wp2_with fail
        refine hto.mono ?_
        rintro _ w3 ⟨A3, c3, rfl, hY3, hb3, _⟩
        have hcv := byt_string hY3
        rw [show (⟨(pcs l).toArray⟩ : ByteArray) = strB (pcs l) from rfl] at hcv
        have hb3 := hbr.trans (hb3.mono hbr.size)
        obtain ⟨w4, c4, hcv4, hY4, hb4, _⟩ := str_bytes w3 (pcs l) (by omega)
        rw [show (⟨(pcs l).toArray⟩ : ByteArray) = strB (pcs l) from rfl] at hcv4
        have hb4 := hb3.trans (hb4.mono hb3.size)
        clear hto hY3
        go_wp2_with fail
        refine (newReader hY4 (by omega)).mono ?_
        rintro _ w5 ⟨r, rfl, hR5, hb5⟩
        have hr : w.heap.size ≤ r := Nat.le_trans hb4.size hR5.1
        have hb5 := hb4.trans (hb5.mono hb4.size)
        clear hcv hcv4 hY4 hb4 hb3
        go_wp2_with fail
        go_loopw [8] (fun i wr => ∃ j : Nat, j ≤ k ∧ i = .int .i64 j ∧ Below w.heap.size w wr ∧ Rd wr (w4.heap.size ≤ ·) r (pcs (l.drop j)) 0) (fun i _ => k - (intOf i).toNat)
        case atStart => exact ⟨0, Nat.zero_le _, rfl, hb5, hR5⟩
        case round =>
          obtain ⟨j, hj, rfl, hbx, hR⟩ := hrel
          by_cases hlt : j < k
          · obtain ⟨b, off, hA, hblt, hc⟩ := HP.out.row (by omega)
            subst hA
            obtain ⟨q, hq⟩ : ∃ q, l[j]? = some q := ⟨_, List.getElem?_eq_getElem (by rw [HLEN.out]; exact hlt)⟩
            obtain ⟨c0, c1, c2⟩ := hc j q hq
            have D1 := Lib.hid (fun W (h : Below w.heap.size w W) => (h.cell (p := ⟨_, _, none⟩) hblt).trans c1)
            have D2 := Lib.hid (fun W (h : Below w.heap.size w W) => (h.cell (p := ⟨_, _, none⟩) hblt).trans c2)
            have c0 := (hbx.cell (p := ⟨_, _, none⟩) hblt).trans c0
            have hmem : q ∈ l := List.mem_of_getElem? hq
            obtain ⟨hx, hY⟩ := HP.out.byt q hmem
            have HYL := Lib.hid hY.len
            have HY := Lib.hid hY
            have HX := Lib.hid hx
            have HT := Lib.hid (pcs_drop l j q hq)
            have HQ := Lib.hid (HSM.out q hmem)
            have HLL := Lib.hid (show (pcs (l.drop j)).length ≤ 6300 by
              have := congrArg List.length (pcs_append (l.take j) (l.drop j))
              rw [List.take_append_drop, List.length_append] at this; omega)
            clear hc hq hmem hY c1 c2 hx
            by_cases hz2 : bits .and .i64 q.k 3 = 2
            · have hpc : pc q = put q.b.length ++ q.b := by unfold pc; rw [hz2]; simp
              obtain ⟨e1, e2, e3⟩ := bytes_back q.b (pcs (l.drop (j + 1))) HQ.out
              rw [← hpc, ← HT.out] at e1 e2 e3
              have hcl := bytes_any (most := 200) hR.drew (by have := HLL.out; omega) (by omega)
              rw [e1, e2, e3] at hcl
              clear hpc e1 e2 e3 hR
              go_wp2_with fail
              refine wp_region_plan (fun W => Below w.heap.size w W) [([0, 3, 4, 5, 6, 7, 8], 1)] [2, 9] (by kernel_rfl) (by kernel_rfl) (fun _ _ d _ _ h => by cases d <;> exact h) hbx.drew ?_
              refine plan_eff ?_
              refine seg_read ?v15 (by rfl) (by rfl) ?h15 ?_
              case h15 => intro W hW; go_simp; with_reducible rfl
              try simp only [Act.put, List.setIfInBounds_toArray, List.set_cons_zero, List.set_cons_succ]
              refine seg_read ?v16 (by rfl) (by rfl) ?h16 ?_
              case h16 => intro W hW; go_simp; with_reducible rfl
              try simp only [Act.put, List.setIfInBounds_toArray, List.set_cons_zero, List.set_cons_succ]
              refine seg_read ?v17 (by rfl) (by rfl) ?h17 ?_
              case h17 => intro W hW; go_simp; with_reducible rfl
              try simp only [Act.put, List.setIfInBounds_toArray, List.set_cons_zero, List.set_cons_succ]
              refine seg_read ?v18 (by rfl) (by rfl) ?h18 ?_
              case h18 => intro W hW; go_simp; with_reducible rfl
              try simp only [Act.put, List.setIfInBounds_toArray, List.set_cons_zero, List.set_cons_succ]
              refine seg_read ?v19 (by rfl) (by rfl) ?h19 ?_
              case h19 => intro W hW; go_simp; with_reducible rfl
              try simp only [Act.put, List.setIfInBounds_toArray, List.set_cons_zero, List.set_cons_succ]
              refine seg_read ?v20 (by rfl) (by rfl) ?h20 ?_
              case h20 => intro W hW; have c2W := D2.out W hW; go_simp; with_reducible rfl
              try simp only [Act.put, List.setIfInBounds_toArray, List.set_cons_zero, List.set_cons_succ]
              refine seg_read ?v21 (by rfl) (by rfl) ?h21 ?_
              case h21 => intro W hW; have hcvW := byt_string (HY.out.below hW); rw [show (⟨q.b.toArray⟩ : ByteArray) = strB q.b from rfl] at hcvW; go_simp; with_reducible rfl
              try simp only [Act.put, List.setIfInBounds_toArray, List.set_cons_zero, List.set_cons_succ]
              refine seg_nil ?_
              refine eff_step (by rfl) (fun K hK => ?_)
              go_simp
              refine hcl.mono ?_
              rintro _ wy ⟨Ay, ny, cy, rfl, hYy, hRy, hgy, _⟩
              have hby := hbx.drew.trans (below_gr hgy hr hbx.drew.size)
              have hcv := byt_string hYy
              rw [show (⟨q.b.toArray⟩ : ByteArray) = strB q.b from rfl] at hcv
              clear hcl hYy
              refine hK _ _ ⟨fun W => W = wy, rfl, fun W e => e ▸ hby, ?_⟩
              clear hK K
              refine plan_last ?_
              repeat (refine seg_step (by rfl) (fun K hK => ?_); go_simp; refine hK _ ?_; clear hK K)
              refine seg_nil ?_
              go_wp2_with fail
              go_roundw
              case rel => exact ⟨j + 1, by omega, by go_num, hby, hRy⟩
              case measure => simp [intOf]; omega
            · by_cases hz01 : bits .and .i64 q.k 3 = 0 ∨ bits .and .i64 q.k 3 = 1
              · have hpc : pc q = put q.x := by unfold pc; rw [if_pos hz01]
                obtain ⟨e1, e2, e3⟩ := uint_back q.x (pcs (l.drop (j + 1))) HX.out
                rw [← hpc, ← HT.out] at e1 e2 e3
                have hcl := uint_ok hR.drew
                rw [e1, e2, e3] at hcl
                clear hpc e1 e2 e3 hR
                rcases hz01 with hz | hz
                · go_wp2_with fail
                  refine wp_region_plan (fun W => Below w.heap.size w W) [([0, 2, 3, 4, 5, 6], 1)] [7] (by kernel_rfl) (by kernel_rfl) (fun _ _ d _ _ h => by cases d <;> exact h) hbx.drew ?_
                  refine plan_eff ?_
                  refine seg_read ?v22 (by rfl) (by rfl) ?h22 ?_
                  case h22 => intro W hW; go_simp; with_reducible rfl
                  try simp only [Act.put, List.setIfInBounds_toArray, List.set_cons_zero, List.set_cons_succ]
                  refine seg_read ?v23 (by rfl) (by rfl) ?h23 ?_
                  case h23 => intro W hW; go_simp; with_reducible rfl
                  try simp only [Act.put, List.setIfInBounds_toArray, List.set_cons_zero, List.set_cons_succ]
                  refine seg_read ?v24 (by rfl) (by rfl) ?h24 ?_
                  case h24 => intro W hW; go_simp; with_reducible rfl
                  try simp only [Act.put, List.setIfInBounds_toArray, List.set_cons_zero, List.set_cons_succ]
                  refine seg_read ?v25 (by rfl) (by rfl) ?h25 ?_
                  case h25 => intro W hW; go_simp; with_reducible rfl
                  try simp only [Act.put, List.setIfInBounds_toArray, List.set_cons_zero, List.set_cons_succ]
                  refine seg_read ?v26 (by rfl) (by rfl) ?h26 ?_
                  case h26 => intro W hW; go_simp; with_reducible rfl
                  try simp only [Act.put, List.setIfInBounds_toArray, List.set_cons_zero, List.set_cons_succ]
                  refine seg_read ?v27 (by rfl) (by rfl) ?h27 ?_
                  case h27 => intro W hW; have c1W := D1.out W hW; go_simp; with_reducible rfl
                  try simp only [Act.put, List.setIfInBounds_toArray, List.set_cons_zero, List.set_cons_succ]
                  refine seg_nil ?_
                  refine eff_step (by rfl) (fun K hK => ?_)
                  go_simp
                  refine hcl.mono ?_
                  rintro _ wy ⟨rfl, hRy, hgy⟩
                  have hby := hbx.drew.trans (below_gr hgy hr hbx.drew.size)
                  clear hcl
                  refine hK _ _ ⟨fun W => W = wy, rfl, fun W e => e ▸ hby, ?_⟩
                  clear hK K
                  refine plan_last ?_
                  repeat (refine seg_step (by rfl) (fun K hK => ?_); go_simp; refine hK _ ?_; clear hK K)
                  refine seg_nil ?_
                  go_wp2_with fail
                  go_roundw
                  case rel => exact ⟨j + 1, by omega, by go_num, hby, hRy⟩
                  case measure => simp [intOf]; omega
                · go_wp2_with fail
                  refine wp_region_plan (fun W => Below w.heap.size w W) [([0, 2, 3, 4, 5, 6], 1)] [7] (by kernel_rfl) (by kernel_rfl) (fun _ _ d _ _ h => by cases d <;> exact h) hbx.drew ?_
                  refine plan_eff ?_
                  refine seg_read ?v28 (by rfl) (by rfl) ?h28 ?_
                  case h28 => intro W hW; go_simp; with_reducible rfl
                  try simp only [Act.put, List.setIfInBounds_toArray, List.set_cons_zero, List.set_cons_succ]
                  refine seg_read ?v29 (by rfl) (by rfl) ?h29 ?_
                  case h29 => intro W hW; go_simp; with_reducible rfl
                  try simp only [Act.put, List.setIfInBounds_toArray, List.set_cons_zero, List.set_cons_succ]
                  refine seg_read ?v30 (by rfl) (by rfl) ?h30 ?_
                  case h30 => intro W hW; go_simp; with_reducible rfl
                  try simp only [Act.put, List.setIfInBounds_toArray, List.set_cons_zero, List.set_cons_succ]
                  refine seg_read ?v31 (by rfl) (by rfl) ?h31 ?_
                  case h31 => intro W hW; go_simp; with_reducible rfl
                  try simp only [Act.put, List.setIfInBounds_toArray, List.set_cons_zero, List.set_cons_succ]
                  refine seg_read ?v32 (by rfl) (by rfl) ?h32 ?_
                  case h32 => intro W hW; go_simp; with_reducible rfl
                  try simp only [Act.put, List.setIfInBounds_toArray, List.set_cons_zero, List.set_cons_succ]
                  refine seg_read ?v33 (by rfl) (by rfl) ?h33 ?_
                  case h33 => intro W hW; have c1W := D1.out W hW; go_simp; with_reducible rfl
                  try simp only [Act.put, List.setIfInBounds_toArray, List.set_cons_zero, List.set_cons_succ]
                  refine seg_nil ?_
                  refine eff_step (by rfl) (fun K hK => ?_)
                  go_simp
                  refine hcl.mono ?_
                  rintro _ wy ⟨rfl, hRy, hgy⟩
                  have hby := hbx.drew.trans (below_gr hgy hr hbx.drew.size)
                  clear hcl
                  refine hK _ _ ⟨fun W => W = wy, rfl, fun W e => e ▸ hby, ?_⟩
                  clear hK K
                  refine plan_last ?_
                  repeat (refine seg_step (by rfl) (fun K hK => ?_); go_simp; refine hK _ ?_; clear hK K)
                  refine seg_nil ?_
                  go_wp2_with fail
                  go_roundw
                  case rel => exact ⟨j + 1, by omega, by go_num, hby, hRy⟩
                  case measure => simp [intOf]; omega
              · have hz0 : ¬ bits .and .i64 q.k 3 = 0 := fun e => hz01 (.inl e)
                have hz1 : ¬ bits .and .i64 q.k 3 = 1 := fun e => hz01 (.inr e)
                obtain ⟨_, _, lb3⟩ := low_bit q.x HX.out
                obtain ⟨v, hv⟩ : ∃ v : UInt8, (if q.x % 2 = 1 then 1 else 0) = v := ⟨_, rfl⟩
                have hpc : pc q = v :: q.b := by unfold pc; rw [if_neg hz01, if_neg hz2, hv]
                have hv1 : v.toNat ≤ 1 ∧ (v.toNat == 1) = (q.x % 2 == 1) := by
                  rw [← hv]
                  rcases Nat.mod_two_eq_zero_or_one q.x with h | h <;> rw [h] <;> decide
                obtain ⟨e1, e2, e3⟩ := bool_back v (q.b ++ pcs (l.drop (j + 1))) hv1.1
                obtain ⟨f1, f2, f3⟩ := fixed_back q.b (pcs (l.drop (j + 1))) q.n HYL.out
                rw [show v :: (q.b ++ pcs (l.drop (j + 1))) = pcs (l.drop j) by rw [HT.out, hpc]; rfl] at e1 e2 e3
                rw [hv1.2, ← lb3] at e3
                have hcl := bool_any hR.drew
                rw [e1, e2, e3] at hcl
                have HFX := Lib.hid (And.intro f1 (And.intro f2 f3))
                have HLM := Lib.hid (show (q.b ++ pcs (l.drop (j + 1))).length ≤ 6300 by
                  have h1 := HLL.out
                  rw [HT.out, hpc] at h1; simp at h1 ⊢; omega)
                clear hpc e1 e2 e3 hR f1 f2 f3 hz01 lb3 hv1 hv
                go_wp2_with fail
                refine wp_region_plan (fun W => Below w.heap.size w W) [([0, 2, 3, 4, 5, 6, 7, 8], 1), ([9, 10, 11, 12, 13, 14, 15, 16, 17, 20, 21, 22, 23, 24, 25], 18)] [19, 26, 27] (by kernel_rfl) (by kernel_rfl) (fun _ _ d _ _ h => by cases d <;> exact h) hbx.drew ?_
                refine plan_eff ?_
                refine seg_read ?v34 (by rfl) (by rfl) ?h34 ?_
                case h34 => intro W hW; go_simp; with_reducible rfl
                try simp only [Act.put, List.setIfInBounds_toArray, List.set_cons_zero, List.set_cons_succ]
                refine seg_read ?v35 (by rfl) (by rfl) ?h35 ?_
                case h35 => intro W hW; go_simp; with_reducible rfl
                try simp only [Act.put, List.setIfInBounds_toArray, List.set_cons_zero, List.set_cons_succ]
                refine seg_read ?v36 (by rfl) (by rfl) ?h36 ?_
                case h36 => intro W hW; go_simp; with_reducible rfl
                try simp only [Act.put, List.setIfInBounds_toArray, List.set_cons_zero, List.set_cons_succ]
                refine seg_read ?v37 (by rfl) (by rfl) ?h37 ?_
                case h37 => intro W hW; go_simp; with_reducible rfl
                try simp only [Act.put, List.setIfInBounds_toArray, List.set_cons_zero, List.set_cons_succ]
                refine seg_read ?v38 (by rfl) (by rfl) ?h38 ?_
                case h38 => intro W hW; go_simp; with_reducible rfl
                try simp only [Act.put, List.setIfInBounds_toArray, List.set_cons_zero, List.set_cons_succ]
                refine seg_read ?v39 (by rfl) (by rfl) ?h39 ?_
                case h39 => intro W hW; have c1W := D1.out W hW; go_simp; with_reducible rfl
                try simp only [Act.put, List.setIfInBounds_toArray, List.set_cons_zero, List.set_cons_succ]
                refine seg_read ?v40 (by rfl) (by rfl) ?h40 ?_
                case h40 => intro W hW; go_simp; with_reducible rfl
                try simp only [Act.put, List.setIfInBounds_toArray, List.set_cons_zero, List.set_cons_succ]
                refine seg_read ?v41 (by rfl) (by rfl) ?h41 ?_
                case h41 => intro W hW; go_simp; with_reducible rfl
                try simp only [Act.put, List.setIfInBounds_toArray, List.set_cons_zero, List.set_cons_succ]
                refine seg_nil ?_
                refine eff_step (by rfl) (fun K hK => ?_)
                go_simp
                refine hcl.mono ?_
                rintro _ wy ⟨rfl, hRy, hgy⟩
                have hby := hbx.drew.trans (below_gr hgy hr hbx.drew.size)
                have hfx := fixed_any (k := (q.n : Int)) hRy (by have := HLM.out; omega)
                rw [HFX.out.1, HFX.out.2.1, HFX.out.2.2] at hfx
                clear hcl
                refine hK _ _ ⟨fun W => Below w.heap.size w W, hby, fun W e => e, ?_⟩
                clear hK K
                refine plan_eff ?_
                refine seg_read ?v42 (by rfl) (by rfl) ?h42 ?_
                case h42 => intro W hW; go_simp; with_reducible rfl
                try simp only [Act.put, List.setIfInBounds_toArray, List.set_cons_zero, List.set_cons_succ]
                refine seg_read ?v43 (by rfl) (by rfl) ?h43 ?_
                case h43 => intro W hW; go_simp; with_reducible rfl
                try simp only [Act.put, List.setIfInBounds_toArray, List.set_cons_zero, List.set_cons_succ]
                refine seg_read ?v44 (by rfl) (by rfl) ?h44 ?_
                case h44 => intro W hW; go_simp; with_reducible rfl
                try simp only [Act.put, List.setIfInBounds_toArray, List.set_cons_zero, List.set_cons_succ]
                refine seg_read ?v45 (by rfl) (by rfl) ?h45 ?_
                case h45 => intro W hW; go_simp; with_reducible rfl
                try simp only [Act.put, List.setIfInBounds_toArray, List.set_cons_zero, List.set_cons_succ]
                refine seg_read ?v46 (by rfl) (by rfl) ?h46 ?_
                case h46 => intro W hW; go_simp; with_reducible rfl
                try simp only [Act.put, List.setIfInBounds_toArray, List.set_cons_zero, List.set_cons_succ]
                refine seg_read ?v47 (by rfl) (by rfl) ?h47 ?_
                case h47 => intro W hW; go_simp; with_reducible rfl
                try simp only [Act.put, List.setIfInBounds_toArray, List.set_cons_zero, List.set_cons_succ]
                refine seg_read ?v48 (by rfl) (by rfl) ?h48 ?_
                case h48 => intro W hW; go_simp; with_reducible rfl
                try simp only [Act.put, List.setIfInBounds_toArray, List.set_cons_zero, List.set_cons_succ]
                refine seg_read ?v49 (by rfl) (by rfl) ?h49 ?_
                case h49 => intro W hW; have c2W := D2.out W hW; go_simp; with_reducible rfl
                try simp only [Act.put, List.setIfInBounds_toArray, List.set_cons_zero, List.set_cons_succ]
                refine seg_read ?v50 (by rfl) (by rfl) ?h50 ?_
                case h50 => intro W hW; go_simp; with_reducible rfl
                try simp only [Act.put, List.setIfInBounds_toArray, List.set_cons_zero, List.set_cons_succ]
                refine seg_read ?v51 (by rfl) (by rfl) ?h51 ?_
                case h51 => intro W hW; go_simp; with_reducible rfl
                try simp only [Act.put, List.setIfInBounds_toArray, List.set_cons_zero, List.set_cons_succ]
                refine seg_read ?v52 (by rfl) (by rfl) ?h52 ?_
                case h52 => intro W hW; go_simp; with_reducible rfl
                try simp only [Act.put, List.setIfInBounds_toArray, List.set_cons_zero, List.set_cons_succ]
                refine seg_read ?v53 (by rfl) (by rfl) ?h53 ?_
                case h53 => intro W hW; go_simp; with_reducible rfl
                try simp only [Act.put, List.setIfInBounds_toArray, List.set_cons_zero, List.set_cons_succ]
                refine seg_read ?v54 (by rfl) (by rfl) ?h54 ?_
                case h54 => intro W hW; go_simp; with_reducible rfl
                try simp only [Act.put, List.setIfInBounds_toArray, List.set_cons_zero, List.set_cons_succ]
                refine seg_read ?v55 (by rfl) (by rfl) ?h55 ?_
                case h55 => intro W hW; have c2W := D2.out W hW; go_simp; with_reducible rfl
                try simp only [Act.put, List.setIfInBounds_toArray, List.set_cons_zero, List.set_cons_succ]
                refine seg_read ?v56 (by rfl) (by rfl) ?h56 ?_
                case h56 => intro W hW; have hcvW := byt_string (HY.out.below hW); rw [show (⟨q.b.toArray⟩ : ByteArray) = strB q.b from rfl] at hcvW; go_simp; with_reducible rfl
                try simp only [Act.put, List.setIfInBounds_toArray, List.set_cons_zero, List.set_cons_succ]
                refine seg_nil ?_
                refine eff_step (by rfl) (fun K hK => ?_)
                go_simp
                refine hfx.mono ?_
                rintro _ wz ⟨Az, nz, cz, rfl, hYz, hRz, hgz, _⟩
                have hbz := hby.trans (below_gr hgz hr hby.size)
                have hcv := byt_string hYz
                rw [show (⟨q.b.toArray⟩ : ByteArray) = strB q.b from rfl] at hcv
                clear hfx hYz
                refine hK _ _ ⟨fun W => W = wz, rfl, fun W e => e ▸ hbz, ?_⟩
                clear hK K
                refine plan_last ?_
                repeat (refine seg_step (by rfl) (fun K hK => ?_); go_simp; refine hK _ ?_; clear hK K)
                refine seg_nil ?_
                go_wp2_with fail
                go_roundw
                case rel => exact ⟨j + 1, by omega, by go_num, hbz, hRz⟩
                case measure => simp [intOf]; omega
          · have hjn : j = k := by omega
            subst hjn
            have hR2 : Rd wr (w4.heap.size ≤ ·) r [] 0 := by
              rw [List.drop_eq_nil_of_le (by rw [HLEN.out]; omega)] at hR; exact hR
            have hend := end_rd hR2
            simp [endE] at hend
            clear hR hR2
            go_wp2_with (go_at_call 22; refine hend.mono ?_; rintro _ _ ⟨rfl, rfl⟩)
            go_ret
            exact ⟨rfl, hbx⟩
  · go_enter Try.func4, Try.ntmps4
    go_wp2_with (go_at_call 9; refine (awake_true _).mono ?_; rintro _ w1 ⟨rfl, hb1⟩)
    go_ret
    exact ⟨rfl, hb1⟩
end Go.Proofs.Ytbdondgonghooaa
