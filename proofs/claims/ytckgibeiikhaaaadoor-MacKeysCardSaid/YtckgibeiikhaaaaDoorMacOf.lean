/-
  mac.Of and mac.Derive.
-/
import Derived.Test.YtckgibeiikhaaaaDoorMacBehind
namespace Go.Proofs.YtckgibeiikhaaaaDoor
open Go.RowKit

theorem rws_new_on {w : World} {S T : Nat → Prop} (rs : List (Option Addr × Nat × Nat)) (ls : List (List UInt8)) (hl : ls.length = rs.length) (hm : rs.length ≤ 1000)
    (h : ∀ (i : Nat) (r : Option Addr × Nat × Nat), rs[i]? = some r → Byt w S r.1 r.2.1 r.2.2 (ls[i]?.getD [])) (hST : ∀ b, S b → T b) (hT : T w.heap.size) : Rws (w.alloc (.cells (rs.map fun r => Value.slice r.1 r.2.1 r.2.2).toArray 26)) T (some ⟨w.heap.size, 0, none⟩) rs.length rs.length ls := by
  refine ⟨hl, Nat.le_refl _, by unfold maxLen; omega, fun _ => ⟨w.heap.size, 0, rfl, hT, by simp, fun i hi => ?_⟩⟩
  refine ⟨rs[i].1, rs[i].2.1, rs[i].2.2, ?_, ((h i rs[i] (List.getElem?_eq_getElem hi)).mono fun b _ hb => hST b hb).below ((Below.refl _ _).alloc (Nat.le_refl _) _)⟩
  rw [cell_of_cells (heap_alloc_new w _)]
  simp [List.getElem?_eq_getElem hi]
theorem rws_on {w : World} {S T : Nat → Prop} {A : Option Addr} {n c : Nat} {l : List UInt8} (h : Byt w S A n c l) (hST : ∀ b, S b → T b) (hT : T w.heap.size) :
    Rws (w.alloc (.cells #[.slice A n c] 26)) T (some ⟨w.heap.size, 0, none⟩) 1 1 [l] :=
  rws_new_on [(A, n, c)] [l] rfl (by simp) (fun i r hr => by
    match i, hr with
    | 0, hr => simp at hr; subst hr; exact h) hST hT
/-- A block of bytes known whole, of which one block is not. -/
theorem byt_not {w : World} {g q : Nat} {l : List UInt8} {t : TypeId} {f : Nat × Nat} (h : w.heap[g]? = some (.cells (row8 l) t f)) (hl : l.length ≤ 1000000) (hq : g ≠ q) : Byt w (fun b => b ≠ q) (some ⟨g, 0, none⟩) l.length l.length l := by
  obtain ⟨a1, a2, a3, a4⟩ := byt_whole h hl
  exact ⟨a1, a2, a3, fun h => by
    obtain ⟨b, off, hA, _, hb, hc⟩ := a4 h
    injection hA with hA
    injection hA with hA1 hA2
    exact ⟨b, off, by rw [← hA1, ← hA2], by rw [← hA1]; exact hq, hb, hc⟩⟩

set_option maxHeartbeats 4000000 in
set_option maxRecDepth 100000 in
theorem mof_any {w : World} {S : Nat → Prop} {A : Option Addr} {n c : Nat} {ls : List (List UInt8)} (h : Rws w S A n c ls) (ht : Tab w) (hn : n ≤ 1000000) (hl : ls.flatten.length < 288230376151711744) (k : List UInt8) (hk : k.length = 32) :
    Calls Tryd.prog 9 #[.agg (row8 k), .slice A n c] w fun e w' => e = .returned (.agg (row8 (macL k ls.flatten))) ∧ Below w.heap.size w w' := by
  have h2 := ht.lt2
  have hz := zero_id
  obtain ⟨IN, hIN⟩ : ∃ IN, IN = shaL (ovr k 54 ++ ls.flatten) := ⟨_, rfl⟩
  have hbe := fun (w1 : World) (hb : Below w.heap.size w w1) => behind_any (h.below hb) (ht.below hb) hn hl k hk 54
  rw [← hIN] at hbe
  rw [show ((54 : UInt8).toNat : Int) = 54 from rfl] at hbe
  obtain ⟨KS, hKS⟩ : ∃ KS, KS = row8 k := ⟨_, rfl⟩
  rw [← hKS] at hbe ⊢
  have hks : KS.size = 32 := by rw [hKS, row8_size, hk]
  obtain ⟨RS, hRS⟩ : ∃ RS, RS = row8 (macL k ls.flatten) := ⟨_, rfl⟩
  rw [← hRS]
  have HS : Hid (RS.size = 32 ∧ RS.all (·.oneCell') = true) := Lib.hid (by rw [hRS]; exact ⟨(row8_size _).trans (macL_length _ _), row8_one _⟩)
  have HRS := Lib.hid hRS
  have HKS := Lib.hid hks
  have hil : IN.length = 32 := by rw [hIN]; exact shaL_length _
  have HKK := Lib.hid (And.intro hKS (And.intro hk (And.intro hIN hil)))
  obtain ⟨IS, hIS⟩ : ∃ IS, IS = row8 IN := ⟨_, rfl⟩
  rw [← hIS] at hbe
  have HIS : Hid (IS = row8 IN ∧ IS.size = 32 ∧ IS.all (·.oneCell') = true) := Lib.hid ⟨hIS, by rw [hIS, row8_size, hil], by rw [hIS]; exact row8_one _⟩
  have HT := Lib.hid ht
  clear hIN hKS hks hRS hIS hil h ht hn hl hk
  have HK0 : Hid (((w.alloc (.cells KS 23)).alloc (.cells zerosId 27)).heap[w.heap.size]? = some (.cells KS 23 (0, 0))) := Lib.hid (by
    refine (Below.heap_alloc _ _ _ (by simp)).trans (heap_alloc_new w _))
  have HK1 : Hid (((w.alloc (.cells KS 23)).alloc (.cells zerosId 27)).heap[w.heap.size + 1]? = some (.cells zerosId 27 (0, 0))) := Lib.hid (by
    have := heap_alloc_new (w.alloc (.cells KS 23)) (.cells zerosId 27)
    simpa using this)
  have HB0 : Hid (Below w.heap.size w ((w.alloc (.cells KS 23)).alloc (.cells zerosId 27))) := Lib.hid (((Below.refl _ _).alloc (Nat.le_refl _) _).alloc (by simp) _)
  have hbe := hbe _ HB0.out
  go_enter Tryd.func9, Tryd.ntmps9
  go_wp2_with (refine wpList_load_row (by rfl) 23 (.tmp 2) (by rfl) w.heap.size (by rfl) 23 KS (0, 0) _ HK0.out Tryd.underlying23 (by rfl) (by rw [HKS.out]; exact key_info) ?_)
  refine hbe.mono ?_
  rintro _ w2 ⟨rfl, hb2⟩
  have HB2 : Hid (Below w.heap.size w w2) := Lib.hid (HB0.out.trans (hb2.mono HB0.out.size))
  have HR2 : Hid (w2.heap[w.heap.size]? = some (.cells KS 23 (0, 0)) ∧ w2.heap[w.heap.size + 1]? = some (.cells zerosId 27 (0, 0))) := Lib.hid ⟨(hb2.block _ (lt_of_cells HK0.out)).trans HK0.out, (hb2.block _ (lt_of_cells HK1.out)).trans HK1.out⟩
  clear hb2 hbe
  have HG3 := Lib.hid (heap_alloc_new w2 (.cells zerosId 27))
  go_wp2_with (refine wpList_store_row (by rfl) 27 (.tmp 5) (.tmp 8) (by rfl) w2.heap.size IS (by rfl) (by rfl) 27 _ HG3.out (by rw [HIS.out.2.1]; exact id_info) (by rw [HIS.out.2.1]; rfl) HIS.out.2.2 ?_)
  have e3 : ∀ b, b < w2.heap.size → ((w2.alloc (.cells zerosId 27)).setRow w2.heap.size IS).heap[b]? = w2.heap[b]? := fun b hb => by
    simp only [World.setRow, Array.getElem?_modify]
    rw [if_neg (by omega)]
    exact Below.heap_alloc _ _ _ hb
  have e4 := setRow_at (new := IS) HG3.out
  have HB3 : Hid (Below w.heap.size w ((w2.alloc (.cells zerosId 27)).setRow w2.heap.size IS)) := Lib.hid (below_setRow (HB2.out.alloc HB2.out.size _) HB2.out.size _)
  have h01 := (e3 _ (lt_of_cells HR2.out.1)).trans HR2.out.1
  have h02 := (e3 _ (lt_of_cells HR2.out.2)).trans HR2.out.2
  have hq5 : w.heap.size + 1 < w2.heap.size := lt_of_cells HR2.out.2
  clear e3 HG3 HR2 HB2
  generalize (w2.alloc (.cells zerosId 27)).setRow w2.heap.size IS = w3 at *
  generalize w2.heap.size = q5 at *
  rw [HIS.out.1] at e4
  have hy := byt_not (q := w.heap.size + 1) e4 (by rw [HKK.out.2.2.2]; omega) (by omega)
  rw [HKK.out.2.2.2] at hy
  have HY : Hid (w.heap.size + 1 < w3.drew.heap.size ∧ w3.drew.heap[w.heap.size]? = some (.cells KS 23 (0, 0)) ∧ Byt w3.drew (fun b => b ≠ w.heap.size + 1) (some ⟨q5, 0, none⟩) 32 32 IN ∧ Tab w3.drew) := Lib.hid ⟨lt_of_cells h02, h01, hy.drew, (HT.out.below HB3.out).drew⟩
  have HY1 : Hid (w3.drew.heap[w.heap.size + 1]? = some (.cells zerosId 27 (0, 0))) := Lib.hid h02
  clear e4 h01 h02 hy hz
  refine wp_region_grow (Sto (w.heap.size + 1) (.cells RS 27 (0, 0))) (Grow.nth [fun v _ => v = .agg KS, fun v _ => v = .slice (some ⟨q5, 0, none⟩) 32 32, fun v W => ∃ q, v = .slice (some ⟨q, 0, none⟩) 1 1 ∧ Rws W (fun b => b ≠ w.heap.size + 1) (some ⟨q, 0, none⟩) 1 1 [IN], fun v _ => v = .agg RS, fun _ W => W.heap[w.heap.size + 1]? = some (.cells RS 27 (0, 0))]) 13 (by kernel_rfl) (by kernel_rfl) (by rfl) (Sto.refl _ _) (fun _ _ _ h1 h2 => h1.trans h2) (Grow.mono_nth ?gmono) ?gsteps ?gfin
  case gmono => exact ⟨fun _ _ _ h _ => h, fun _ _ _ h _ => h, fun _ _ _ ⟨q, h1, h2⟩ hg => ⟨q, h1, h2.turned hg.turned fun _ _ h => h⟩, fun _ _ _ h _ => h, fun _ _ _ h g => g.keeps h, trivial⟩
  case gsteps =>
    show Grow.allBelow _ 5
    refine And.intro ?_ ?s4
    refine And.intro ?_ ?s3
    refine And.intro ?_ ?s2
    refine And.intro ?_ ?s1
    refine And.intro ?_ ?s0
    exact trivial
    case s0 =>
      refine Grow.step_in (by rfl) (by rfl) ?_
      intro E W ec eg ef hG hd hu R HR
      have e2 : E (.tmp 2) = .pointer (some ⟨w.heap.size, 0, none⟩) := hu 2 (by kernel_rfl)
      clear hd hu
      exact runs_load 23 (.tmp 2) rfl (w.heap.size) e2 KS (0, 0) ((hG.turned.block _ (Nat.lt_of_succ_lt HY.out.1) (by omega)).trans HY.out.2.1) Tryd.underlying23 (by rw [HKS.out]; exact key_info) (HR.out _ _ (Sto.refl _ _ _) rfl)
    case s1 =>
      refine Grow.step_in (by rfl) (by rfl) ?_
      intro E W ec eg ef hG hd hu R HR
      have e5 : E (.tmp 5) = .pointer (some ⟨q5, 0, none⟩) := hu 5 (by kernel_rfl)
      clear hd hu
      go_simp
      exact HR.out _ _ (Sto.refl _ _ _) rfl
    case s2 =>
      refine Grow.step_in (by rfl) (by rfl) ?_
      intro E W ec eg ef hG hd hu R HR
      have e10 : E (.tmp 10) = .slice (some ⟨q5, 0, none⟩) 32 32 := hd 1 10 (by kernel_rfl)
      clear hd hu
      go_simp
      have hlt := hG.lt HY.out.1
      exact HR.out _ _ (Sto.of_below ((Below.refl _ _).alloc (Nat.le_refl _) _) hlt) ⟨W.heap.size, rfl, rws_on (HY.out.2.2.1.turned hG.turned fun _ _ h => h) (fun _ h => h) (show W.heap.size ≠ _ by omega)⟩
    case s3 =>
      refine Grow.step_in (by rfl) (by rfl) ?_
      intro E W ec eg ef hG hd hu R HR
      have e9 : E (.tmp 9) = .agg KS := hd 0 9 (by kernel_rfl)
      have h11 := hd 2 11 (by kernel_rfl)
      clear hd hu
      obtain ⟨q, eq, hR⟩ := h11
      have hb92 : ((92 : UInt8).toNat : Int) = 92 := rfl
      go_simp
      rw [HKK.out.1, ← hb92]
      refine (behind_any hR (HY.out.2.2.2.sto hG (by omega) (by omega)) (by omega) (by rw [List.flatten_cons, List.length_append, HKK.out.2.2.2]; simp) k HKK.out.2.1 92).mono ?_
      rintro _ w' ⟨rfl, hb⟩
      exact ⟨_, rfl, HR.out _ _ (Sto.of_below hb (hG.lt HY.out.1)) (show _ = _ by rw [HRS.out, HKK.out.2.2.1]; simp [macL])⟩
    case s4 =>
      refine Grow.step_in (by rfl) (by rfl) ?_
      intro E W ec eg ef hG hd hu R HR
      have e4 : E (.tmp 4) = .pointer (some ⟨w.heap.size + 1, 0, none⟩) := hu 4 (by kernel_rfl)
      have e12 : E (.tmp 12) = .agg RS := hd 3 12 (by kernel_rfl)
      clear hd hu
      obtain ⟨ds, hds, hdo⟩ := hG.old HY1.out
      exact runs_store 27 (.tmp 4) (.tmp 12) rfl (w.heap.size + 1) RS e4 e12 27 ds hds (by rw [HS.out.1]; exact id_info) (by rcases hdo with rfl | rfl; exact HS.out.1.symm; rfl) HS.out.2 (HR.out _ _ (Sto.store hds) (setRow_at hds))
  case gfin =>
    intro W hG
    refine Grow.fin_dst (by rfl) ?_
    rintro _ rfl
    refine Grow.fin_dst (by rfl) ?_
    rintro _ rfl
    refine Grow.fin_dst (by rfl) ?_
    rintro _ ⟨_, rfl, _⟩
    refine Grow.fin_dst (by rfl) ?_
    rintro _ rfl
    refine Grow.fin_told (by rfl) ?_
    rintro ⟨_, hK⟩
    simp only [Act.put, List.setIfInBounds_toArray, List.set_cons_zero, List.set_cons_succ]
    refine Grow.fin_end ?_
    have HG : Hid (Below w.heap.size w W) := Lib.hid (HB3.out.trans ((hG.of_drew.turned.mono (T := (w.heap.size ≤ ·)) fun b _ hb => by omega).below HB3.out.size))
    have HK := Lib.hid hK
    clear hG hK
    go_wp2_with fail
    exact bodyPost_ret (results_cell_row rfl _ _ (w.heap.size + 1) 27 RS (0, 0) _ rfl HK.out Tryd.underlying27 rfl (by rw [HS.out.1]; exact id_info)) rfl ⟨rfl, HG.out⟩
end Go.Proofs.YtckgibeiikhaaaaDoor
