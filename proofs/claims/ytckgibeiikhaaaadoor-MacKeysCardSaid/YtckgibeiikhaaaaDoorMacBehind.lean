/-
  mac.behind: the digest of rows behind a key that is laid over.
-/
import Derived.Test.YtckgibeiikhaaaaDoorMacSameFn
import Derived.Test.YtckgibeiikhaaaaDoorRefOf
namespace Go.Proofs.YtckgibeiikhaaaaDoor
open Go.RowKit

theorem zero_key : ∀ W, (zeroValue 23).run Tryd.prog W = .ok (.agg zerosId) W := fun W => by unfold zerosId; kernel_rfl

/-- append([][]byte{l0}, ls...) -/
theorem wpList_append_rows {ops : Array Oper} {rest : List Oper} {o : Oper} {a : Act} {Q : Exit → Act → World → Prop} {w W : World} (hgd : o.guard = none) (s x : Operand)
    (ho : o.op = .call { callee := .builtin .append, args := #[s, x], argTypes := #[24, 24] }) {g : Nat} {S : Nat → Prop} {A A0 : Option Addr} {n c n0 c0 : Nat} {l0 : List UInt8} {ls : List (List UInt8)}
    (hs : a.eval s = .slice (some ⟨g, 0, none⟩) 1 1) (hx : a.eval x = .slice A n c) (hg : W.heap[g]? = some (.cells #[.slice A0 n0 c0] 26 (0, 0))) (h0 : Byt W S A0 n0 c0 l0) (h : Rws W S A n c ls) (hn : n ≤ 1000000)
    (hb : Below w.heap.size w W) (hgw : w.heap.size ≤ g) (hS : ∀ b, b < W.heap.size → S b → b ≠ g)
    (K : ∀ A' c' w', Hid (Rws w' (fun _ => True) A' (1 + n) c' (l0 :: ls)) → Below w.heap.size w w' → wpList Tryd.prog ops Q rest (a.put o.dst (.slice A' (1 + n) c')) w') : wpList Tryd.prog ops Q (o :: rest) a W := by
  obtain ⟨i0, hi, hz0, hz1, hz2⟩ := info_parts sl_info
  rcases A with _ | ad
  · obtain rfl : n = 0 := by
      rcases Nat.eq_zero_or_pos n with h1 | h1
      · exact h1
      · obtain ⟨b, off, hA, _⟩ := h.row h1
        cases hA
    obtain rfl : ls = [] := List.eq_nil_of_length_eq_zero h.len
    refine wpList_append_zero hgd s x 24 ho 26 i0 Tryd.underlying24 hi (some ⟨g, 0, none⟩) 1 1 c (Nat.le_refl _) hs hx ?_
    refine K _ 1 W (Lib.hid ⟨rfl, Nat.le_refl _, by unfold maxLen; omega, fun _ => ⟨g, 0, rfl, trivial, lt_of_cells hg, fun i hi => ?_⟩⟩) hb
    obtain rfl : i = 0 := by omega
    exact ⟨A0, n0, c0, by rw [cell_of_cells hg]; rfl, h0.mono fun _ _ _ => trivial⟩
  · obtain ⟨rs, hrl, hrb, hrc⟩ := h.rows
    have hown : W.ownsRow w.heap.size 26 1 (.slice (some ⟨g, 0, none⟩) 1 1) 1 [.slice A0 n0 c0] :=
      ⟨rfl, .inr ⟨g, 1, _, rfl, hgw, hg, Nat.le_refl _, by unfold maxLen; omega, rfl, rfl⟩⟩
    refine wpList_append_own_at W hgd s x 24 ho w.heap.size 26 i0 (.slice none 0 0) 1 24 Tryd.underlying24 hi hz0 hz1 hz2 rfl (by decide) _ 1 _ hs hown ad n c (rs.map fun r => Value.slice r.1 r.2.1 r.2.2) hx (by simp [hrl]) (hrc ad rfl) (fun u hu => by
      obtain ⟨r, _, rfl⟩ := List.mem_map.1 hu
      rfl) (by unfold maxLen; omega) (by omega) hb.size ?_
    intro v' w' hown' hgrow _ _
    have hgr : Turned (· = g) W w' := Turned.of_gr hgrow (fun b hb => by simp [Value.ownBlock] at hb; exact hb.symm)
    obtain ⟨A', c', rfl, hR⟩ := own_rws (rs := (A0, n0, c0) :: rs) (ls := l0 :: ls) (S := S) hown' (by simp [h.len, hrl]) (fun i r hr => by
      cases i with
      | zero => simp at hr; subst hr; exact h0.turned hgr (fun b hb hs => hS b hb hs)
      | succ i => simp at hr ⊢; exact (hrb i r hr).turned hgr (fun b hb hs => hS b hb hs))
    exact K _ _ _ (Lib.hid hR) (hb.trans ((hgr.mono (T := (w.heap.size ≤ ·)) fun b _ hb => by rw [hb]; exact hgw).below hb.size))

set_option maxHeartbeats 4000000 in
set_option maxRecDepth 100000 in
theorem behind_any {w : World} {S : Nat → Prop} {A : Option Addr} {n c : Nat} {ls : List (List UInt8)} (h : Rws w S A n c ls) (ht : Tab w) (hn : n ≤ 1000000) (hl : ls.flatten.length < 288230376151711744) (k : List UInt8) (hk : k.length = 32) (x : UInt8) :
    Calls Tryd.prog 14 #[.agg (row8 k), .int .u8 (x.toNat : Int), .slice A n c] w fun e w' => e = .returned (.agg (row8 (shaL (ovr k x ++ ls.flatten)))) ∧ Below w.heap.size w w' := by
  have h2 := ht.lt2
  have hz := zero_id
  have hz6 := zero_b64
  obtain ⟨KS, hKS⟩ : ∃ KS, KS = row8 k := ⟨_, rfl⟩
  have hov := over_any k hk x
  rw [← hKS] at hov ⊢
  have hks : KS.size = 32 := by rw [hKS, row8_size, hk]
  have HKS := Lib.hid hks
  have HOL := Lib.hid (ovr_length hk x)
  obtain ⟨KO, hKO⟩ : ∃ KO, KO = ovr k x := ⟨_, rfl⟩
  rw [← hKO] at hov HOL ⊢
  have HH := Lib.hid (And.intro (h.mono (T := fun b => b < w.heap.size) fun b hb _ => hb) ht)
  have HN := Lib.hid (And.intro h.len (And.intro hn hl))
  obtain ⟨i0, hi, hz0, hz1, hz2⟩ := info_parts sl_info
  have HI := Lib.hid (And.intro hi (And.intro hz0 (And.intro hz1 hz2)))
  clear hi hz0 hz1 hz2 h ht hn hl hks hKO hk hKS
  have HK0 : Hid (((w.alloc (.cells KS 23)).alloc (.cells zerosId 27)).heap[w.heap.size]? = some (.cells KS 23 (0, 0))) := Lib.hid (by
    refine (Below.heap_alloc _ _ _ (by simp)).trans (heap_alloc_new w _))
  have HK1 : Hid (((w.alloc (.cells KS 23)).alloc (.cells zerosId 27)).heap[w.heap.size + 1]? = some (.cells zerosId 27 (0, 0))) := Lib.hid (by
    have := heap_alloc_new (w.alloc (.cells KS 23)) (.cells zerosId 27)
    simpa using this)
  have HB0 : Hid (Below w.heap.size w ((w.alloc (.cells KS 23)).alloc (.cells zerosId 27))) := Lib.hid (((Below.refl _ _).alloc (Nat.le_refl _) _).alloc (by simp) _)
  go_enter Tryd.func14, Tryd.ntmps14
  go_wp2_with (refine wpList_load_row (by rfl) 23 (.tmp 3) (by rfl) w.heap.size (by rfl) 23 KS (0, 0) _ HK0.out Tryd.underlying23 (by rfl) (by rw [HKS.out]; exact key_info) ?_)
  refine (hov _).mono ?_
  rintro _ w2 ⟨rfl, hb2⟩
  have HB2 : Hid (Below w.heap.size w w2) := Lib.hid (HB0.out.trans (hb2.mono HB0.out.size))
  have HR2 : Hid (w2.heap[w.heap.size + 1]? = some (.cells zerosId 27 (0, 0))) := Lib.hid ((hb2.block _ (lt_of_cells HK1.out)).trans HK1.out)
  clear hb2 hov
  obtain ⟨OS, hOS⟩ : ∃ OS, OS = row8 KO := ⟨_, rfl⟩
  rw [← hOS]
  have HOS : Hid (OS.size = 64 ∧ OS.all (·.oneCell') = true) := Lib.hid (by rw [hOS]; exact ⟨(row8_size _).trans HOL.out, row8_one _⟩)
  have HOO := Lib.hid hOS
  clear hOS
  have HG3 := Lib.hid (heap_alloc_new w2 (.cells zeros64b 46))
  have HB3 : Hid (Below w.heap.size w ((w2.alloc (.cells zeros64b 46)).setRow w2.heap.size OS)) := Lib.hid (below_setRow (HB2.out.alloc HB2.out.size _) HB2.out.size _)
  have HR3 : Hid (((w2.alloc (.cells zeros64b 46)).setRow w2.heap.size OS).heap[w.heap.size + 1]? = some (.cells zerosId 27 (0, 0)) ∧ ((w2.alloc (.cells zeros64b 46)).setRow w2.heap.size OS).heap[w2.heap.size]? = some (.cells OS 46 (0, 0)) ∧ ((w2.alloc (.cells zeros64b 46)).setRow w2.heap.size OS).heap.size = w2.heap.size + 1 ∧ w.heap.size + 1 < w2.heap.size) := Lib.hid (by
    have hlt := lt_of_cells HR2.out
    refine ⟨?_, setRow_at HG3.out, by simp [World.setRow], hlt⟩
    simp only [World.setRow, Array.getElem?_modify]
    rw [if_neg (by omega)]
    exact (Below.heap_alloc _ _ _ hlt).trans HR2.out)
  have hap : ∀ {ops : Array Oper} {rest : List Oper} {o : Oper} {a : Act} {Q : Exit → Act → World → Prop} (hgd : o.guard = none) (s x : Operand) (ho : o.op = .call { callee := .builtin .append, args := #[s, x], argTypes := #[24, 24] }) (hs : a.eval s = .slice (some ⟨w2.heap.size + 1, 0, none⟩) 1 1) (hx : a.eval x = .slice A n c)
      (K : ∀ A' c' w', Hid (Rws w' (fun _ => True) A' (1 + n) c' (KO :: ls)) → Below (w2.heap.size + 1) ((w2.alloc (.cells zeros64b 46)).setRow w2.heap.size OS) w' → wpList Tryd.prog ops Q rest (a.put o.dst (.slice A' (1 + n) c')) w'),
      wpList Tryd.prog ops Q (o :: rest) a (((w2.alloc (.cells zeros64b 46)).setRow w2.heap.size OS).alloc (.cells #[.slice (some ⟨w2.heap.size, 0, none⟩) 64 64] 26)) := fun hgd s x ho hs hx K => by
    have h3 := HR3.out
    have hb3 := HB3.out
    generalize (w2.alloc (.cells zeros64b 46)).setRow w2.heap.size OS = w3 at *
    have hy0 : Byt w3 (fun b => b < w.heap.size ∨ b = w2.heap.size) (some ⟨w2.heap.size, 0, none⟩) 64 64 KO := by
      have e := h3.2.1
      rw [HOO.out] at e
      have hbw := byt_whole e (by rw [HOL.out]; omega)
      rw [HOL.out] at hbw
      obtain ⟨a1, a2, a3, a4⟩ := hbw
      exact ⟨a1, a2, a3, fun h => by
        obtain ⟨b, off, hA, _, hb, hc⟩ := a4 h
        injection hA with hA
        injection hA with hA1 hA2
        exact ⟨b, off, by rw [← hA1, ← hA2], .inr hA1.symm, hb, hc⟩⟩
    have hr0 := ((HH.out.1.below hb3).mono (T := fun b => b < w.heap.size ∨ b = w2.heap.size) fun b _ hb => .inl hb)
    have hbw : Below w3.heap.size w3 (w3.alloc (.cells #[.slice (some ⟨w2.heap.size, 0, none⟩) 64 64] 26)) := (Below.refl _ _).alloc (Nat.le_refl _) _
    refine wpList_append_rows (w := w3) hgd s x ho (g := w2.heap.size + 1) hs hx (by rw [← h3.2.2.1]; exact heap_alloc_new w3 _) (hy0.below hbw) (hr0.below hbw) HN.out.2.1 hbw (by omega) (fun b _ hb => by rcases hb with hb | hb <;> omega) (fun A' c' w' hR hB => K A' c' w' hR (by rw [← h3.2.2.1]; exact hB))
  go_wp2_with (first | (refine wpList_store_row (by rfl) 46 (.tmp 7) (.tmp 11) (by rfl) w2.heap.size OS (by rfl) (by rfl) 46 _ HG3.out (by rw [HOS.out.1]; exact b64_info) (by rw [HOS.out.1]; rfl) HOS.out.2 ?_) | (at_builtin; refine hap (by rfl) _ _ (by rfl) (by rfl) (by rfl) ?_))
  intro A4 c4 w4 hR4 hB4
  have HB4 : Hid (Below w.heap.size w w4) := Lib.hid (HB3.out.trans (hB4.mono (by have := HR3.out.2.2.2; omega)))
  have HR4 : Hid (w4.heap[w.heap.size + 1]? = some (.cells zerosId 27 (0, 0))) := Lib.hid ((hB4.block _ (by have := HR3.out.2.2.2; omega)).trans HR3.out.1)
  have hof := of_any hR4.out (HH.out.2.below HB4.out) (by rw [List.flatten_cons, List.length_append, HOL.out]; have := HN.out.2.2; omega)
  rw [List.flatten_cons] at hof
  obtain ⟨RS, hRS⟩ : ∃ RS, RS = (u8s (shaL (KO ++ ls.flatten))).toArray := ⟨_, rfl⟩
  rw [← hRS] at hof
  have HRS := Lib.hid hRS
  have HS : Hid (RS.size = 32 ∧ RS.all (·.oneCell') = true) := Lib.hid (by rw [hRS]; exact ⟨(row8_size _).trans (shaL_length _), row8_one _⟩)
  clear hap hB4 hR4 hRS
  go_wp2_with fail
  refine hof.mono ?_
  rintro _ w5 ⟨rfl, hb5⟩
  have HR5 : Hid (w5.heap[w.heap.size + 1]? = some (.cells zerosId 27 (0, 0))) := Lib.hid ((hb5.block _ (lt_of_cells HR4.out)).trans HR4.out)
  have HB5 : Hid (Below w.heap.size w w5) := Lib.hid (HB4.out.trans (hb5.mono HB4.out.size))
  clear hof hb5
  go_wp2_with (refine wpList_store_row (by rfl) 27 (.tmp 6) (.tmp 17) (by rfl) (w.heap.size + 1) RS (by rfl) (by rfl) 27 _ HR5.out (by rw [HS.out.1]; exact id_info) (by rw [HS.out.1]; rfl) HS.out.2 ?_)
  exact bodyPost_ret (results_cell_row rfl _ _ (w.heap.size + 1) 27 RS (0, 0) _ rfl (setRow_at HR5.out) Tryd.underlying27 rfl (by rw [HS.out.1]; exact id_info)) rfl ⟨by rw [HRS.out]; rfl, below_setRow HB5.out (by omega) _⟩
end Go.Proofs.YtckgibeiikhaaaaDoor
