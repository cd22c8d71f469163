/-
  mac.Derive.
-/
import Derived.Test.YtckgibeiikhaaaaDoorMacOf
import Derived.Laws.IdiomStrings
namespace Go.Proofs.YtckgibeiikhaaaaDoor
open Go.RowKit

/-- []byte(s) -/
theorem conv_bytes (l : List UInt8) (hl : l.length ≤ 1000000) (W : World) : ∃ c' W', (convert 9 26 (.string (st l))).run Tryd.prog W = .ok (.slice (some ⟨W.heap.size, 0, none⟩) l.length c') W' ∧ Below W.heap.size W W' ∧ Byt W' (fun b => b = W.heap.size) (some ⟨W.heap.size, 0, none⟩) l.length c' l := by
  have h := run_bytes_of_string (P := Tryd.prog) W 9 26 5 (st l) Tryd.underlying9 Tryd.underlying26 Tryd.underlying5
  rw [st_size] at h
  have hge := grownCap_ge W l.length 0 5
  have hle := grownCap_le_maxLen W l.length 0 5 (by unfold maxLen; omega)
  generalize grownCap W l.length 0 5 = C at *
  refine ⟨C, _, h, (below_drew (Below.refl _ _)).alloc (Nat.le_refl _) _, rfl, hge, hle, fun h0 => ⟨_, 0, rfl, rfl, by simp, fun i hi => ?_⟩⟩
  have hnew : (W.drew.alloc (.cells (bytesRow (st l) C) 5 ((bytesRow (st l) C).size, (bytesRow (st l) C).size + 1))).heap[W.heap.size]? = some _ := heap_alloc_new W.drew _
  rw [cell_of_cells hnew]
  simp [bytesRow, st, Array.getElem?_append, hi]
theorem three_on {w : World} {S : Nat → Prop} {r1 r2 r3 : Option Addr × Nat × Nat} {l1 l2 l3 : List UInt8} (h1 : Byt w S r1.1 r1.2.1 r1.2.2 l1) (h2 : Byt w S r2.1 r2.2.1 r2.2.2 l2) (h3 : Byt w S r3.1 r3.2.1 r3.2.2 l3) :
    ∀ (i : Nat) (r : Option Addr × Nat × Nat), [r1, r2, r3][i]? = some r → Byt w S r.1 r.2.1 r.2.2 ([l1, l2, l3][i]?.getD []) := fun i r hr => by
  match i, hr with
  | 0, hr => simp at hr; subst hr; exact h1
  | 1, hr => simp at hr; subst hr; exact h2
  | 2, hr => simp at hr; subst hr; exact h3

set_option maxHeartbeats 4000000 in
set_option maxRecDepth 100000 in
theorem mderive_any {w : World} (ht : Tab w) (k : List UInt8) (hk : k.length = 32) (l : List UInt8) (hl : l.length ≤ 1000000) (N : Nat) :
    Calls Tryd.prog 11 #[.agg (row8 k), .string (st l), .int .u64 (N : Int)] w fun e w' => e = .returned (.agg (row8 (macL k (l ++ [0] ++ le8 N 8)))) ∧ Below w.heap.size w w' := by
  have h2 := ht.lt2
  have hz := zero_key
  obtain ⟨KS, hKS⟩ : ∃ KS, KS = row8 k := ⟨_, rfl⟩
  rw [← hKS]
  have HKS : Hid (KS.size = 32) := Lib.hid (by rw [hKS, row8_size, hk])
  obtain ⟨RS, hRS⟩ : ∃ RS, RS = row8 (macL k (l ++ [0] ++ le8 N 8)) := ⟨_, rfl⟩
  rw [← hRS]
  have HS : Hid (RS.size = 32 ∧ RS.all (·.oneCell') = true) := Lib.hid (by rw [hRS]; exact ⟨(row8_size _).trans (macL_length _ _), row8_one _⟩)
  have HRS := Lib.hid hRS
  have HKK := Lib.hid (And.intro hKS hk)
  have HT := Lib.hid ht
  have HL := Lib.hid hl
  obtain ⟨IS, hIS⟩ : ∃ IS, IS = row8 (le8 N 8) := ⟨_, rfl⟩
  have hlo := mlow_any N
  rw [← hIS] at hlo
  have HIS : Hid (IS = row8 (le8 N 8) ∧ IS.size = 8 ∧ IS.all (·.oneCell') = true) := Lib.hid ⟨hIS, by rw [hIS, row8_size, le8_length], by rw [hIS]; exact row8_one _⟩
  clear hKS hRS hIS ht hl hk
  have HK0 : Hid (((w.alloc (.cells KS 23)).alloc (.cells zerosId 23)).heap[w.heap.size]? = some (.cells KS 23 (0, 0))) := Lib.hid (by
    refine (Below.heap_alloc _ _ _ (by simp)).trans (heap_alloc_new w _))
  have HK1 : Hid (((w.alloc (.cells KS 23)).alloc (.cells zerosId 23)).heap[w.heap.size + 1]? = some (.cells zerosId 23 (0, 0))) := Lib.hid (by
    have := heap_alloc_new (w.alloc (.cells KS 23)) (.cells zerosId 23)
    simpa using this)
  have HB0 : Hid (Below w.heap.size w ((w.alloc (.cells KS 23)).alloc (.cells zerosId 23))) := Lib.hid (((Below.refl _ _).alloc (Nat.le_refl _) _).alloc (by simp) _)
  go_enter Tryd.func11, Tryd.ntmps11
  go_wp2_with fail
  refine (hlo _).mono ?_
  rintro _ w2 ⟨rfl, hb2⟩
  have HB2 : Hid (Below w.heap.size w w2) := Lib.hid (HB0.out.trans (hb2.mono HB0.out.size))
  have HR2 : Hid (w2.heap[w.heap.size]? = some (.cells KS 23 (0, 0)) ∧ w2.heap[w.heap.size + 1]? = some (.cells zerosId 23 (0, 0))) := Lib.hid ⟨(hb2.block _ (lt_of_cells HK0.out)).trans HK0.out, (hb2.block _ (lt_of_cells HK1.out)).trans HK1.out⟩
  clear hb2 hlo hz
  have hz8 := zero_b8
  have HG3 := Lib.hid (heap_alloc_new w2 (.cells zeros8b 43))
  go_wp2_with (refine wpList_store_row (by rfl) 43 (.tmp 7) (.tmp 9) (by rfl) w2.heap.size IS (by rfl) (by rfl) 43 _ HG3.out (by rw [HIS.out.2.1]; exact b8_info) (by rw [HIS.out.2.1]; rfl) HIS.out.2.2 ?_)
  have e3 : ∀ b, b < w2.heap.size → ((w2.alloc (.cells zeros8b 43)).setRow w2.heap.size IS).heap[b]? = w2.heap[b]? := fun b hb => by
    simp only [World.setRow, Array.getElem?_modify]
    rw [if_neg (by omega)]
    exact Below.heap_alloc _ _ _ hb
  have e4 := setRow_at (new := IS) HG3.out
  have HB3 : Hid (Below w.heap.size w ((w2.alloc (.cells zeros8b 43)).setRow w2.heap.size IS)) := Lib.hid (below_setRow (HB2.out.alloc HB2.out.size _) HB2.out.size _)
  have h01 := (e3 _ (lt_of_cells HR2.out.1)).trans HR2.out.1
  have h02 := (e3 _ (lt_of_cells HR2.out.2)).trans HR2.out.2
  have hq5 : w.heap.size + 1 < w2.heap.size := lt_of_cells HR2.out.2
  clear e3 HG3 HR2 HB2 hz8
  generalize (w2.alloc (.cells zeros8b 43)).setRow w2.heap.size IS = w3 at *
  generalize w2.heap.size = q5 at *
  rw [HIS.out.1] at e4
  have hy := byt_not (q := w.heap.size + 1) e4 (by rw [le8_length]; omega) (by omega)
  rw [le8_length] at hy
  have HY : Hid (w.heap.size + 1 < w3.drew.heap.size ∧ w3.drew.heap[w.heap.size]? = some (.cells KS 23 (0, 0)) ∧ Byt w3.drew (fun b => b ≠ w.heap.size + 1) (some ⟨q5, 0, none⟩) 8 8 (le8 N 8) ∧ Tab w3.drew) := Lib.hid ⟨lt_of_cells h02, h01, hy.drew, (HT.out.below HB3.out).drew⟩
  have HY1 : Hid (w3.drew.heap[w.heap.size + 1]? = some (.cells zerosId 23 (0, 0))) := Lib.hid h02
  clear e4 h01 h02 hy
  refine wp_region_grow (Sto (w.heap.size + 1) (.cells RS 23 (0, 0))) (Grow.nth [fun v _ => v = .agg KS, fun v _ => v = .string (st l), fun v W => ∃ A c, v = .slice A l.length c ∧ Byt W (fun b => b ≠ w.heap.size + 1) A l.length c l, fun v W => ∃ q, v = .slice (some ⟨q, 0, none⟩) 1 1 ∧ Byt W (fun b => b ≠ w.heap.size + 1) (some ⟨q, 0, none⟩) 1 1 [0], fun v _ => v = .slice (some ⟨q5, 0, none⟩) 8 8, fun v W => ∃ q, v = .slice (some ⟨q, 0, none⟩) 3 3 ∧ Rws W (fun b => b ≠ w.heap.size + 1) (some ⟨q, 0, none⟩) 3 3 [l, [0], le8 N 8], fun v _ => v = .agg RS, fun _ W => W.heap[w.heap.size + 1]? = some (.cells RS 23 (0, 0))]) 17 (by kernel_rfl) (by kernel_rfl) (by rfl) (Sto.refl _ _) (fun _ _ _ h1 h2 => h1.trans h2) (Grow.mono_nth ?gmono) ?gsteps ?gfin
  case gmono => exact ⟨fun _ _ _ h _ => h, fun _ _ _ h _ => h, fun _ _ _ ⟨A, c, h1, h2⟩ hg => ⟨A, c, h1, h2.turned hg.turned fun _ _ h => h⟩, fun _ _ _ ⟨q, h1, h2⟩ hg => ⟨q, h1, h2.turned hg.turned fun _ _ h => h⟩, fun _ _ _ h _ => h, fun _ _ _ ⟨q, h1, h2⟩ hg => ⟨q, h1, h2.turned hg.turned fun _ _ h => h⟩, fun _ _ _ h _ => h, fun _ _ _ h g => g.keeps h, trivial⟩
  case gsteps =>
    show Grow.allBelow _ 8
    refine And.intro ?_ ?s7
    refine And.intro ?_ ?s6
    refine And.intro ?_ ?s5
    refine And.intro ?_ ?s4
    refine And.intro ?_ ?s3
    refine And.intro ?_ ?s2
    refine And.intro ?_ ?s1
    refine And.intro ?_ ?s0
    exact trivial
    case s0 =>
      refine Grow.step_in (by rfl) (by rfl) ?_
      intro E W ec eg ef hG hd hu R HR
      have e3 : E (.tmp 3) = .pointer (some ⟨w.heap.size, 0, none⟩) := hu 3 (by kernel_rfl)
      clear hd hu
      exact runs_load 23 (.tmp 3) rfl (w.heap.size) e3 KS (0, 0) ((hG.turned.block _ (Nat.lt_of_succ_lt HY.out.1) (by omega)).trans HY.out.2.1) Tryd.underlying23 (by rw [HKS.out]; exact key_info) (HR.out _ _ (Sto.refl _ _ _) rfl)
    case s1 =>
      refine Grow.step_in (by rfl) (by rfl) ?_
      intro E W ec eg ef hG hd hu R HR
      have e1 : E (.tmp 1) = .string (st l) := hu 1 (by kernel_rfl)
      clear hd hu
      go_simp
      exact HR.out _ _ (Sto.refl _ _ _) rfl
    case s2 =>
      refine Grow.step_in (by rfl) (by rfl) ?_
      intro E W ec eg ef hG hd hu R HR
      have e11 : E (.tmp 11) = .string (st l) := hd 1 11 (by kernel_rfl)
      clear hd hu
      obtain ⟨c', W', hcv, hbl, hby⟩ := conv_bytes l HL.out W
      go_simp
      have hlt := hG.lt HY.out.1
      exact HR.out _ _ (Sto.of_below hbl hlt) ⟨_, _, rfl, hby.mono fun b _ hb => by omega⟩
    case s3 =>
      refine Grow.step_in (by rfl) (by rfl) ?_
      intro E W ec eg ef hG hd hu R HR
      clear hd hu
      go_simp
      have hlt := hG.lt HY.out.1
      exact HR.out _ _ (Sto.of_below ((Below.refl _ _).alloc (Nat.le_refl _) _) hlt) ⟨W.heap.size, rfl, byt_not (l := [0]) (heap_alloc_new W _) (by simp) (by omega)⟩
    case s4 =>
      refine Grow.step_in (by rfl) (by rfl) ?_
      intro E W ec eg ef hG hd hu R HR
      have e7 : E (.tmp 7) = .pointer (some ⟨q5, 0, none⟩) := hu 7 (by kernel_rfl)
      clear hd hu
      go_simp
      exact HR.out _ _ (Sto.refl _ _ _) rfl
    case s5 =>
      refine Grow.step_in (by rfl) (by rfl) ?_
      intro E W ec eg ef hG hd hu R HR
      have h12 := hd 2 12 (by kernel_rfl)
      have h13 := hd 3 13 (by kernel_rfl)
      have e14 : E (.tmp 14) = .slice (some ⟨q5, 0, none⟩) 8 8 := hd 4 14 (by kernel_rfl)
      clear hd hu
      obtain ⟨A2, c2, e12, hY2⟩ := h12
      obtain ⟨q3, e13, hY3⟩ := h13
      go_simp
      have hlt := hG.lt HY.out.1
      exact HR.out _ _ (Sto.of_below ((Below.refl _ _).alloc (Nat.le_refl _) _) hlt) ⟨W.heap.size, rfl, rws_new_on [(A2, l.length, c2), (some ⟨q3, 0, none⟩, 1, 1), (some ⟨q5, 0, none⟩, 8, 8)] [l, [0], le8 N 8] rfl (by simp) (three_on hY2 hY3 (HY.out.2.2.1.turned hG.turned fun _ _ h => h)) (fun _ h => h) (show W.heap.size ≠ _ by omega)⟩
    case s6 =>
      refine Grow.step_in (by rfl) (by rfl) ?_
      intro E W ec eg ef hG hd hu R HR
      have e10 : E (.tmp 10) = .agg KS := hd 0 10 (by kernel_rfl)
      have h15 := hd 5 15 (by kernel_rfl)
      clear hd hu
      obtain ⟨q, eq, hR⟩ := h15
      go_simp
      rw [HKK.out.1]
      refine (mof_any hR (HY.out.2.2.2.sto hG (by omega) (by omega)) (by omega) (by have := HL.out; simp [le8_length]; omega) k HKK.out.2).mono ?_
      rintro _ w' ⟨rfl, hb⟩
      exact ⟨_, rfl, HR.out _ _ (Sto.of_below hb (hG.lt HY.out.1)) (show _ = _ by rw [HRS.out]; simp)⟩
    case s7 =>
      refine Grow.step_in (by rfl) (by rfl) ?_
      intro E W ec eg ef hG hd hu R HR
      have e6 : E (.tmp 6) = .pointer (some ⟨w.heap.size + 1, 0, none⟩) := hu 6 (by kernel_rfl)
      have e16 : E (.tmp 16) = .agg RS := hd 6 16 (by kernel_rfl)
      clear hd hu
      obtain ⟨ds, hds, hdo⟩ := hG.old HY1.out
      exact runs_store 23 (.tmp 6) (.tmp 16) rfl (w.heap.size + 1) RS e6 e16 23 ds hds (by rw [HS.out.1]; exact key_info) (by rcases hdo with rfl | rfl; exact HS.out.1.symm; rfl) HS.out.2 (HR.out _ _ (Sto.store hds) (setRow_at hds))
  case gfin =>
    intro W hG
    refine Grow.fin_dst (by rfl) ?_
    rintro _ rfl
    refine Grow.fin_dst (by rfl) ?_
    rintro _ rfl
    refine Grow.fin_dst (by rfl) ?_
    rintro _ ⟨_, _, rfl, _⟩
    refine Grow.fin_dst (by rfl) ?_
    rintro _ ⟨_, rfl, _⟩
    refine Grow.fin_dst (by rfl) ?_
    rintro _ rfl
    refine Grow.fin_dst (by rfl) ?_
    rintro _ ⟨_, rfl, _⟩
    refine Grow.fin_dst (by rfl) ?_
    rintro _ rfl
    refine Grow.fin_told (by rfl) ?_
    rintro ⟨_, hK⟩
    simp only [Act.put, List.setIfInBounds_toArray, List.set_cons_zero, List.set_cons_succ]
    refine Grow.fin_end ?_
    have HG : Hid (Below w.heap.size w W) := Lib.hid (HB3.out.trans ((hG.of_drew.turned.mono (T := (w.heap.size ≤ ·)) fun b _ hb => by omega).below HB3.out.size))
    have HK := Lib.hid hK
    clear hG hK
    go_wp2_with fail
    exact bodyPost_ret (results_cell_row rfl _ _ (w.heap.size + 1) 23 RS (0, 0) _ rfl HK.out Tryd.underlying23 rfl (by rw [HS.out.1]; exact key_info)) rfl ⟨rfl, HG.out⟩
end Go.Proofs.YtckgibeiikhaaaaDoor
