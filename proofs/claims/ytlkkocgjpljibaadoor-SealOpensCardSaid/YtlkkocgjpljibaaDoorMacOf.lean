/-
  mac.behind: the digest of rows behind a key that is laid over.
  mac.Of and mac.Derive.
  mac.Derive.
-/
import Derived.Test.YtlkkocgjpljibaaDoorMacPure
import Derived.Test.YtlkkocgjpljibaaDoorRefOf
import Derived.Laws.IdiomStrings
/-! mac.behind: the digest of rows behind a key that is laid over. -/
namespace Go.Proofs.YtlkkocgjpljibaaDoor
open Go.RowKit

theorem zero_key : ∀ W, (zeroValue 23).run Tryd.prog W = .ok (.agg zerosId) W := fun W => by unfold zerosId; kernel_rfl

/-- append([][]byte{l0}, ls...) -/
theorem wpList_append_rows {ops : Array Oper} {rest : List Oper} {o : Oper} {a : Act} {Q : Exit → Act → World → Prop} {w W : World} (hgd : o.guard = none) (s x : Operand)
    (ho : o.op = .call { callee := .builtin .append, args := #[s, x], argTypes := #[65, 65] }) {g : Nat} {S : Nat → Prop} {A A0 : Option Addr} {n c n0 c0 : Nat} {l0 : List UInt8} {ls : List (List UInt8)}
    (hs : a.eval s = .slice (some ⟨g, 0, none⟩) 1 1) (hx : a.eval x = .slice A n c) (hg : W.heap[g]? = some (.cells #[.slice A0 n0 c0] 25 (0, 0))) (h0 : Byt W S A0 n0 c0 l0) (h : Rws W S A n c ls) (hn : n ≤ 1000000)
    (hb : Below w.heap.size w W) (hgw : w.heap.size ≤ g) (hS : ∀ b, b < W.heap.size → S b → b ≠ g)
    (K : ∀ A' c' w', Hid (Rws w' (fun _ => True) A' (1 + n) c' (l0 :: ls)) → Below w.heap.size w w' → wpList Tryd.prog ops Q rest (a.put o.dst (.slice A' (1 + n) c')) w') : wpList Tryd.prog ops Q (o :: rest) a W := by
  obtain ⟨i0, hi, hz0, hz1, hz2⟩ := info_parts sl_info
  rcases A with _ | ad
  · obtain rfl : n = 0 := by
      rcases Nat.eq_zero_or_pos n with h1 | h1
      · exact h1
      · obtain ⟨b, off, hA, _⟩ := h.row h1
        cases hA
    obtain rfl : ls = [] := List.eq_nil_of_length_eq_zero h.len
    refine wpList_append_zero hgd s x 65 ho 25 i0 Tryd.underlying65 hi (some ⟨g, 0, none⟩) 1 1 c (Nat.le_refl _) hs hx ?_
    refine K _ 1 W (Lib.hid ⟨rfl, Nat.le_refl _, by unfold maxLen; omega, fun _ => ⟨g, 0, rfl, trivial, lt_of_cells hg, fun i hi => ?_⟩⟩) hb
    obtain rfl : i = 0 := by omega
    exact ⟨A0, n0, c0, by rw [cell_of_cells hg]; rfl, h0.mono fun _ _ _ => trivial⟩
  · obtain ⟨rs, hrl, hrb, hrc⟩ := h.rows
    have hown : W.ownsRow w.heap.size 25 1 (.slice (some ⟨g, 0, none⟩) 1 1) 1 [.slice A0 n0 c0] :=
      ⟨rfl, .inr ⟨g, 1, _, rfl, hgw, hg, Nat.le_refl _, by unfold maxLen; omega, rfl, rfl⟩⟩
    refine wpList_append_own_at W hgd s x 65 ho w.heap.size 25 i0 (.slice none 0 0) 1 24 Tryd.underlying65 hi hz0 hz1 hz2 rfl (by decide) _ 1 _ hs hown ad n c (rs.map fun r => Value.slice r.1 r.2.1 r.2.2) hx (by simp [hrl]) (hrc ad rfl) (fun u hu => by
      obtain ⟨r, _, rfl⟩ := List.mem_map.1 hu
      rfl) (by unfold maxLen; omega) (by omega) hb.size ?_
    intro v' w' hown' hgrow _ _
    have hgr : Turned (· = g) W w' := Turned.of_gr hgrow (fun b hb => by simp [Value.ownBlock] at hb; exact hb.symm)
    obtain ⟨A', c', rfl, hR⟩ := own_rws (rs := (A0, n0, c0) :: rs) (ls := l0 :: ls) (S := S) hown' (by simp [h.len, hrl]) (fun i r hr => by
      cases i with
      | zero => simp at hr; subst hr; exact h0.turned hgr (fun b hb hs => hS b hb hs)
      | succ i => simp at hr ⊢; exact (hrb i r hr).turned hgr (fun b hb hs => hS b hb hs))
    exact K _ _ _ (Lib.hid hR) (hb.trans ((hgr.mono (T := (w.heap.size ≤ ·)) fun b _ hb => by rw [hb]; exact hgw).below hb.size))

set_option maxHeartbeats 4000000 in
set_option maxRecDepth 100000 in
theorem behind_any {w : World} {S : Nat → Prop} {A : Option Addr} {n c : Nat} {ls : List (List UInt8)} (h : Rws w S A n c ls) (ht : Tab w) (hn : n ≤ 1000000) (hl : ls.flatten.length < 288230376151711744) (k : List UInt8) (hk : k.length = 32) (x : UInt8) :
    Calls Tryd.prog 30 #[.agg (row8 k), .int .u8 (x.toNat : Int), .slice A n c] w fun e w' => e = .returned (.agg (row8 (shaL (ovr k x ++ ls.flatten)))) ∧ Below w.heap.size w w' := by
  have h2 := ht.lt2
  have hz := zero_id
  have hz6 := zero_b64
  obtain ⟨KS, hKS⟩ : ∃ KS, KS = row8 k := ⟨_, rfl⟩
  have hov := over_any k hk x
  rw [← hKS] at hov ⊢
  have hks : KS.size = 32 := by rw [hKS, row8_size, hk]
  have HKS := Lib.hid hks
  have HOL := Lib.hid (ovr_length hk x)
  obtain ⟨KO, hKO⟩ : ∃ KO, KO = ovr k x := ⟨_, rfl⟩
  rw [← hKO] at hov HOL ⊢
  have HH := Lib.hid (And.intro (h.mono (T := fun b => b < w.heap.size) fun b hb _ => hb) ht)
  have HN := Lib.hid (And.intro h.len (And.intro hn hl))
  obtain ⟨i0, hi, hz0, hz1, hz2⟩ := info_parts sl_info
  have HI := Lib.hid (And.intro hi (And.intro hz0 (And.intro hz1 hz2)))
  clear hi hz0 hz1 hz2 h ht hn hl hks hKO hk hKS
  have HK0 : Hid (((w.alloc (.cells KS 23)).alloc (.cells zerosId 34)).heap[w.heap.size]? = some (.cells KS 23 (0, 0))) := Lib.hid (by
    refine (Below.heap_alloc _ _ _ (by simp)).trans (heap_alloc_new w _))
  have HK1 : Hid (((w.alloc (.cells KS 23)).alloc (.cells zerosId 34)).heap[w.heap.size + 1]? = some (.cells zerosId 34 (0, 0))) := Lib.hid (by
    have := heap_alloc_new (w.alloc (.cells KS 23)) (.cells zerosId 34)
    simpa using this)
  have HB0 : Hid (Below w.heap.size w ((w.alloc (.cells KS 23)).alloc (.cells zerosId 34))) := Lib.hid (((Below.refl _ _).alloc (Nat.le_refl _) _).alloc (by simp) _)
  go_enter Tryd.func30, Tryd.ntmps30
  go_wp2_with (refine wpList_load_row (by rfl) 23 (.tmp 3) (by rfl) w.heap.size (by rfl) 23 KS (0, 0) _ HK0.out Tryd.underlying23 (by rfl) (by rw [HKS.out]; exact key_info) ?_)
  refine (hov _).mono ?_
  rintro _ w2 ⟨rfl, hb2⟩
  have HB2 : Hid (Below w.heap.size w w2) := Lib.hid (HB0.out.trans (hb2.mono HB0.out.size))
  have HR2 : Hid (w2.heap[w.heap.size + 1]? = some (.cells zerosId 34 (0, 0))) := Lib.hid ((hb2.block _ (lt_of_cells HK1.out)).trans HK1.out)
  clear hb2 hov
  obtain ⟨OS, hOS⟩ : ∃ OS, OS = row8 KO := ⟨_, rfl⟩
  rw [← hOS]
  have HOS : Hid (OS.size = 64 ∧ OS.all (·.oneCell') = true) := Lib.hid (by rw [hOS]; exact ⟨(row8_size _).trans HOL.out, row8_one _⟩)
  have HOO := Lib.hid hOS
  clear hOS
  have HG3 := Lib.hid (heap_alloc_new w2 (.cells zeros64b 63))
  have HB3 : Hid (Below w.heap.size w ((w2.alloc (.cells zeros64b 63)).setRow w2.heap.size OS)) := Lib.hid (below_setRow (HB2.out.alloc HB2.out.size _) HB2.out.size _)
  have HR3 : Hid (((w2.alloc (.cells zeros64b 63)).setRow w2.heap.size OS).heap[w.heap.size + 1]? = some (.cells zerosId 34 (0, 0)) ∧ ((w2.alloc (.cells zeros64b 63)).setRow w2.heap.size OS).heap[w2.heap.size]? = some (.cells OS 63 (0, 0)) ∧ ((w2.alloc (.cells zeros64b 63)).setRow w2.heap.size OS).heap.size = w2.heap.size + 1 ∧ w.heap.size + 1 < w2.heap.size) := Lib.hid (by
    have hlt := lt_of_cells HR2.out
    refine ⟨?_, setRow_at HG3.out, by simp [World.setRow], hlt⟩
    simp only [World.setRow, Array.getElem?_modify]
    rw [if_neg (by omega)]
    exact (Below.heap_alloc _ _ _ hlt).trans HR2.out)
  have hap : ∀ {ops : Array Oper} {rest : List Oper} {o : Oper} {a : Act} {Q : Exit → Act → World → Prop} (hgd : o.guard = none) (s x : Operand) (ho : o.op = .call { callee := .builtin .append, args := #[s, x], argTypes := #[65, 65] }) (hs : a.eval s = .slice (some ⟨w2.heap.size + 1, 0, none⟩) 1 1) (hx : a.eval x = .slice A n c)
      (K : ∀ A' c' w', Hid (Rws w' (fun _ => True) A' (1 + n) c' (KO :: ls)) → Below (w2.heap.size + 1) ((w2.alloc (.cells zeros64b 63)).setRow w2.heap.size OS) w' → wpList Tryd.prog ops Q rest (a.put o.dst (.slice A' (1 + n) c')) w'),
      wpList Tryd.prog ops Q (o :: rest) a (((w2.alloc (.cells zeros64b 63)).setRow w2.heap.size OS).alloc (.cells #[.slice (some ⟨w2.heap.size, 0, none⟩) 64 64] 25)) := fun hgd s x ho hs hx K => by
    have h3 := HR3.out
    have hb3 := HB3.out
    generalize (w2.alloc (.cells zeros64b 63)).setRow w2.heap.size OS = w3 at *
    have hy0 : Byt w3 (fun b => b < w.heap.size ∨ b = w2.heap.size) (some ⟨w2.heap.size, 0, none⟩) 64 64 KO := by
      have e := h3.2.1
      rw [HOO.out] at e
      have hbw := byt_whole e (by rw [HOL.out]; omega)
      rw [HOL.out] at hbw
      obtain ⟨a1, a2, a3, a4⟩ := hbw
      exact ⟨a1, a2, a3, fun h => by
        obtain ⟨b, off, hA, _, hb, hc⟩ := a4 h
        injection hA with hA
        injection hA with hA1 hA2
        exact ⟨b, off, by rw [← hA1, ← hA2], .inr hA1.symm, hb, hc⟩⟩
    have hr0 := ((HH.out.1.below hb3).mono (T := fun b => b < w.heap.size ∨ b = w2.heap.size) fun b _ hb => .inl hb)
    have hbw : Below w3.heap.size w3 (w3.alloc (.cells #[.slice (some ⟨w2.heap.size, 0, none⟩) 64 64] 25)) := (Below.refl _ _).alloc (Nat.le_refl _) _
    refine wpList_append_rows (w := w3) hgd s x ho (g := w2.heap.size + 1) hs hx (by rw [← h3.2.2.1]; exact heap_alloc_new w3 _) (hy0.below hbw) (hr0.below hbw) HN.out.2.1 hbw (by omega) (fun b _ hb => by rcases hb with hb | hb <;> omega) (fun A' c' w' hR hB => K A' c' w' hR (by rw [← h3.2.2.1]; exact hB))
  go_wp2_with (first | (refine wpList_store_row (by rfl) 63 (.tmp 7) (.tmp 11) (by rfl) w2.heap.size OS (by rfl) (by rfl) 63 _ HG3.out (by rw [HOS.out.1]; exact b64_info) (by rw [HOS.out.1]; rfl) HOS.out.2 ?_) | (at_builtin; refine hap (by rfl) _ _ (by rfl) (by rfl) (by rfl) ?_))
  intro A4 c4 w4 hR4 hB4
  have HB4 : Hid (Below w.heap.size w w4) := Lib.hid (HB3.out.trans (hB4.mono (by have := HR3.out.2.2.2; omega)))
  have HR4 : Hid (w4.heap[w.heap.size + 1]? = some (.cells zerosId 34 (0, 0))) := Lib.hid ((hB4.block _ (by have := HR3.out.2.2.2; omega)).trans HR3.out.1)
  have hof := of_any hR4.out (HH.out.2.below HB4.out) (by rw [List.flatten_cons, List.length_append, HOL.out]; have := HN.out.2.2; omega)
  rw [List.flatten_cons] at hof
  obtain ⟨RS, hRS⟩ : ∃ RS, RS = (u8s (shaL (KO ++ ls.flatten))).toArray := ⟨_, rfl⟩
  rw [← hRS] at hof
  have HRS := Lib.hid hRS
  have HS : Hid (RS.size = 32 ∧ RS.all (·.oneCell') = true) := Lib.hid (by rw [hRS]; exact ⟨(row8_size _).trans (shaL_length _), row8_one _⟩)
  clear hap hB4 hR4 hRS
  go_wp2_with fail
  refine hof.mono ?_
  rintro _ w5 ⟨rfl, hb5⟩
  have HR5 : Hid (w5.heap[w.heap.size + 1]? = some (.cells zerosId 34 (0, 0))) := Lib.hid ((hb5.block _ (lt_of_cells HR4.out)).trans HR4.out)
  have HB5 : Hid (Below w.heap.size w w5) := Lib.hid (HB4.out.trans (hb5.mono HB4.out.size))
  clear hof hb5
  go_wp2_with (refine wpList_store_row (by rfl) 34 (.tmp 6) (.tmp 17) (by rfl) (w.heap.size + 1) RS (by rfl) (by rfl) 34 _ HR5.out (by rw [HS.out.1]; exact id_info) (by rw [HS.out.1]; rfl) HS.out.2 ?_)
  exact bodyPost_ret (results_cell_row rfl _ _ (w.heap.size + 1) 34 RS (0, 0) _ rfl (setRow_at HR5.out) Tryd.underlying34 rfl (by rw [HS.out.1]; exact id_info)) rfl ⟨by rw [HRS.out]; rfl, below_setRow HB5.out (by omega) _⟩
end Go.Proofs.YtlkkocgjpljibaaDoor

/-! mac.Of and mac.Derive. -/
namespace Go.Proofs.YtlkkocgjpljibaaDoor
open Go.RowKit

theorem rws_new_on {w : World} {S T : Nat → Prop} (rs : List (Option Addr × Nat × Nat)) (ls : List (List UInt8)) (hl : ls.length = rs.length) (hm : rs.length ≤ 1000)
    (h : ∀ (i : Nat) (r : Option Addr × Nat × Nat), rs[i]? = some r → Byt w S r.1 r.2.1 r.2.2 (ls[i]?.getD [])) (hST : ∀ b, S b → T b) (hT : T w.heap.size) : Rws (w.alloc (.cells (rs.map fun r => Value.slice r.1 r.2.1 r.2.2).toArray 25)) T (some ⟨w.heap.size, 0, none⟩) rs.length rs.length ls := by
  refine ⟨hl, Nat.le_refl _, by unfold maxLen; omega, fun _ => ⟨w.heap.size, 0, rfl, hT, by simp, fun i hi => ?_⟩⟩
  refine ⟨rs[i].1, rs[i].2.1, rs[i].2.2, ?_, ((h i rs[i] (List.getElem?_eq_getElem hi)).mono fun b _ hb => hST b hb).below ((Below.refl _ _).alloc (Nat.le_refl _) _)⟩
  rw [cell_of_cells (heap_alloc_new w _)]
  simp [List.getElem?_eq_getElem hi]
theorem rws_on {w : World} {S T : Nat → Prop} {A : Option Addr} {n c : Nat} {l : List UInt8} (h : Byt w S A n c l) (hST : ∀ b, S b → T b) (hT : T w.heap.size) :
    Rws (w.alloc (.cells #[.slice A n c] 25)) T (some ⟨w.heap.size, 0, none⟩) 1 1 [l] :=
  rws_new_on [(A, n, c)] [l] rfl (by simp) (fun i r hr => by
    match i, hr with
    | 0, hr => simp at hr; subst hr; exact h) hST hT
/-- A block of bytes known whole, of which one block is not. -/
theorem byt_not {w : World} {g q : Nat} {l : List UInt8} {t : TypeId} {f : Nat × Nat} (h : w.heap[g]? = some (.cells (row8 l) t f)) (hl : l.length ≤ 1000000) (hq : g ≠ q) : Byt w (fun b => b ≠ q) (some ⟨g, 0, none⟩) l.length l.length l := by
  obtain ⟨a1, a2, a3, a4⟩ := byt_whole h hl
  exact ⟨a1, a2, a3, fun h => by
    obtain ⟨b, off, hA, _, hb, hc⟩ := a4 h
    injection hA with hA
    injection hA with hA1 hA2
    exact ⟨b, off, by rw [← hA1, ← hA2], by rw [← hA1]; exact hq, hb, hc⟩⟩

set_option maxHeartbeats 4000000 in
set_option maxRecDepth 100000 in
theorem mof_any {w : World} {S : Nat → Prop} {A : Option Addr} {n c : Nat} {ls : List (List UInt8)} (h : Rws w S A n c ls) (ht : Tab w) (hn : n ≤ 1000000) (hl : ls.flatten.length < 288230376151711744) (k : List UInt8) (hk : k.length = 32) :
    Calls Tryd.prog 18 #[.agg (row8 k), .slice A n c] w fun e w' => e = .returned (.agg (row8 (macL k ls.flatten))) ∧ Below w.heap.size w w' := by
  have h2 := ht.lt2
  have hz := zero_id
  obtain ⟨IN, hIN⟩ : ∃ IN, IN = shaL (ovr k 54 ++ ls.flatten) := ⟨_, rfl⟩
  have hbe := fun (w1 : World) (hb : Below w.heap.size w w1) => behind_any (h.below hb) (ht.below hb) hn hl k hk 54
  rw [← hIN] at hbe
  rw [show ((54 : UInt8).toNat : Int) = 54 from rfl] at hbe
  obtain ⟨KS, hKS⟩ : ∃ KS, KS = row8 k := ⟨_, rfl⟩
  rw [← hKS] at hbe ⊢
  have hks : KS.size = 32 := by rw [hKS, row8_size, hk]
  obtain ⟨RS, hRS⟩ : ∃ RS, RS = row8 (macL k ls.flatten) := ⟨_, rfl⟩
  rw [← hRS]
  have HS : Hid (RS.size = 32 ∧ RS.all (·.oneCell') = true) := Lib.hid (by rw [hRS]; exact ⟨(row8_size _).trans (macL_length _ _), row8_one _⟩)
  have HRS := Lib.hid hRS
  have HKS := Lib.hid hks
  have hil : IN.length = 32 := by rw [hIN]; exact shaL_length _
  have HKK := Lib.hid (And.intro hKS (And.intro hk (And.intro hIN hil)))
  obtain ⟨IS, hIS⟩ : ∃ IS, IS = row8 IN := ⟨_, rfl⟩
  rw [← hIS] at hbe
  have HIS : Hid (IS = row8 IN ∧ IS.size = 32 ∧ IS.all (·.oneCell') = true) := Lib.hid ⟨hIS, by rw [hIS, row8_size, hil], by rw [hIS]; exact row8_one _⟩
  have HT := Lib.hid ht
  clear hIN hKS hks hRS hIS hil h ht hn hl hk
  have HK0 : Hid (((w.alloc (.cells KS 23)).alloc (.cells zerosId 34)).heap[w.heap.size]? = some (.cells KS 23 (0, 0))) := Lib.hid (by
    refine (Below.heap_alloc _ _ _ (by simp)).trans (heap_alloc_new w _))
  have HK1 : Hid (((w.alloc (.cells KS 23)).alloc (.cells zerosId 34)).heap[w.heap.size + 1]? = some (.cells zerosId 34 (0, 0))) := Lib.hid (by
    have := heap_alloc_new (w.alloc (.cells KS 23)) (.cells zerosId 34)
    simpa using this)
  have HB0 : Hid (Below w.heap.size w ((w.alloc (.cells KS 23)).alloc (.cells zerosId 34))) := Lib.hid (((Below.refl _ _).alloc (Nat.le_refl _) _).alloc (by simp) _)
  have hbe := hbe _ HB0.out
  go_enter Tryd.func18, Tryd.ntmps18
  go_wp2_with (refine wpList_load_row (by rfl) 23 (.tmp 2) (by rfl) w.heap.size (by rfl) 23 KS (0, 0) _ HK0.out Tryd.underlying23 (by rfl) (by rw [HKS.out]; exact key_info) ?_)
  refine hbe.mono ?_
  rintro _ w2 ⟨rfl, hb2⟩
  have HB2 : Hid (Below w.heap.size w w2) := Lib.hid (HB0.out.trans (hb2.mono HB0.out.size))
  have HR2 : Hid (w2.heap[w.heap.size]? = some (.cells KS 23 (0, 0)) ∧ w2.heap[w.heap.size + 1]? = some (.cells zerosId 34 (0, 0))) := Lib.hid ⟨(hb2.block _ (lt_of_cells HK0.out)).trans HK0.out, (hb2.block _ (lt_of_cells HK1.out)).trans HK1.out⟩
  clear hb2 hbe
  have HG3 := Lib.hid (heap_alloc_new w2 (.cells zerosId 34))
  go_wp2_with (refine wpList_store_row (by rfl) 34 (.tmp 5) (.tmp 8) (by rfl) w2.heap.size IS (by rfl) (by rfl) 34 _ HG3.out (by rw [HIS.out.2.1]; exact id_info) (by rw [HIS.out.2.1]; rfl) HIS.out.2.2 ?_)
  have e3 : ∀ b, b < w2.heap.size → ((w2.alloc (.cells zerosId 34)).setRow w2.heap.size IS).heap[b]? = w2.heap[b]? := fun b hb => by
    simp only [World.setRow, Array.getElem?_modify]
    rw [if_neg (by omega)]
    exact Below.heap_alloc _ _ _ hb
  have e4 := setRow_at (new := IS) HG3.out
  have HB3 : Hid (Below w.heap.size w ((w2.alloc (.cells zerosId 34)).setRow w2.heap.size IS)) := Lib.hid (below_setRow (HB2.out.alloc HB2.out.size _) HB2.out.size _)
  have h01 := (e3 _ (lt_of_cells HR2.out.1)).trans HR2.out.1
  have h02 := (e3 _ (lt_of_cells HR2.out.2)).trans HR2.out.2
  have hq5 : w.heap.size + 1 < w2.heap.size := lt_of_cells HR2.out.2
  clear e3 HG3 HR2 HB2
  generalize (w2.alloc (.cells zerosId 34)).setRow w2.heap.size IS = w3 at *
  generalize w2.heap.size = q5 at *
  rw [HIS.out.1] at e4
  have hy := byt_not (q := w.heap.size + 1) e4 (by rw [HKK.out.2.2.2]; omega) (by omega)
  rw [HKK.out.2.2.2] at hy
  have HY : Hid (w.heap.size + 1 < w3.drew.heap.size ∧ w3.drew.heap[w.heap.size]? = some (.cells KS 23 (0, 0)) ∧ Byt w3.drew (fun b => b ≠ w.heap.size + 1) (some ⟨q5, 0, none⟩) 32 32 IN ∧ Tab w3.drew) := Lib.hid ⟨lt_of_cells h02, h01, hy.drew, (HT.out.below HB3.out).drew⟩
  have HY1 : Hid (w3.drew.heap[w.heap.size + 1]? = some (.cells zerosId 34 (0, 0))) := Lib.hid h02
  clear e4 h01 h02 hy hz
  refine wp_region_grow (Sto (w.heap.size + 1) (.cells RS 34 (0, 0))) (Grow.nth [fun v _ => v = .agg KS, fun v _ => v = .slice (some ⟨q5, 0, none⟩) 32 32, fun v W => ∃ q, v = .slice (some ⟨q, 0, none⟩) 1 1 ∧ Rws W (fun b => b ≠ w.heap.size + 1) (some ⟨q, 0, none⟩) 1 1 [IN], fun v _ => v = .agg RS, fun _ W => W.heap[w.heap.size + 1]? = some (.cells RS 34 (0, 0))]) 13 (by kernel_rfl) (by kernel_rfl) (by rfl) (Sto.refl _ _) (fun _ _ _ h1 h2 => h1.trans h2) (Grow.mono_nth ?gmono) ?gsteps ?gfin
  case gmono => exact ⟨fun _ _ _ h _ => h, fun _ _ _ h _ => h, fun _ _ _ ⟨q, h1, h2⟩ hg => ⟨q, h1, h2.turned hg.turned fun _ _ h => h⟩, fun _ _ _ h _ => h, fun _ _ _ h g => g.keeps h, trivial⟩
  case gsteps =>
    show Grow.allBelow _ 5
    refine And.intro ?_ ?s4
    refine And.intro ?_ ?s3
    refine And.intro ?_ ?s2
    refine And.intro ?_ ?s1
    refine And.intro ?_ ?s0
    exact trivial
    case s0 =>
      refine Grow.step_in (by rfl) (by rfl) ?_
      intro E W ec eg ef hG hd hu R HR
      have e2 : E (.tmp 2) = .pointer (some ⟨w.heap.size, 0, none⟩) := hu 2 (by kernel_rfl)
      clear hd hu
      exact runs_load 23 (.tmp 2) rfl (w.heap.size) e2 KS (0, 0) ((hG.turned.block _ (Nat.lt_of_succ_lt HY.out.1) (by omega)).trans HY.out.2.1) Tryd.underlying23 (by rw [HKS.out]; exact key_info) (HR.out _ _ (Sto.refl _ _ _) rfl)
    case s1 =>
      refine Grow.step_in (by rfl) (by rfl) ?_
      intro E W ec eg ef hG hd hu R HR
      have e5 : E (.tmp 5) = .pointer (some ⟨q5, 0, none⟩) := hu 5 (by kernel_rfl)
      clear hd hu
      go_simp
      exact HR.out _ _ (Sto.refl _ _ _) rfl
    case s2 =>
      refine Grow.step_in (by rfl) (by rfl) ?_
      intro E W ec eg ef hG hd hu R HR
      have e10 : E (.tmp 10) = .slice (some ⟨q5, 0, none⟩) 32 32 := hd 1 10 (by kernel_rfl)
      clear hd hu
      go_simp
      have hlt := hG.lt HY.out.1
      exact HR.out _ _ (Sto.of_below ((Below.refl _ _).alloc (Nat.le_refl _) _) hlt) ⟨W.heap.size, rfl, rws_on (HY.out.2.2.1.turned hG.turned fun _ _ h => h) (fun _ h => h) (show W.heap.size ≠ _ by omega)⟩
    case s3 =>
      refine Grow.step_in (by rfl) (by rfl) ?_
      intro E W ec eg ef hG hd hu R HR
      have e9 : E (.tmp 9) = .agg KS := hd 0 9 (by kernel_rfl)
      have h11 := hd 2 11 (by kernel_rfl)
      clear hd hu
      obtain ⟨q, eq, hR⟩ := h11
      have hb92 : ((92 : UInt8).toNat : Int) = 92 := rfl
      go_simp
      rw [HKK.out.1, ← hb92]
      refine (behind_any hR (HY.out.2.2.2.sto hG (by omega) (by omega)) (by omega) (by rw [List.flatten_cons, List.length_append, HKK.out.2.2.2]; simp) k HKK.out.2.1 92).mono ?_
      rintro _ w' ⟨rfl, hb⟩
      exact ⟨_, rfl, HR.out _ _ (Sto.of_below hb (hG.lt HY.out.1)) (show _ = _ by rw [HRS.out, HKK.out.2.2.1]; simp [macL])⟩
    case s4 =>
      refine Grow.step_in (by rfl) (by rfl) ?_
      intro E W ec eg ef hG hd hu R HR
      have e4 : E (.tmp 4) = .pointer (some ⟨w.heap.size + 1, 0, none⟩) := hu 4 (by kernel_rfl)
      have e12 : E (.tmp 12) = .agg RS := hd 3 12 (by kernel_rfl)
      clear hd hu
      obtain ⟨ds, hds, hdo⟩ := hG.old HY1.out
      exact runs_store 34 (.tmp 4) (.tmp 12) rfl (w.heap.size + 1) RS e4 e12 34 ds hds (by rw [HS.out.1]; exact id_info) (by rcases hdo with rfl | rfl; exact HS.out.1.symm; rfl) HS.out.2 (HR.out _ _ (Sto.store hds) (setRow_at hds))
  case gfin =>
    intro W hG
    refine Grow.fin_dst (by rfl) ?_
    rintro _ rfl
    refine Grow.fin_dst (by rfl) ?_
    rintro _ rfl
    refine Grow.fin_dst (by rfl) ?_
    rintro _ ⟨_, rfl, _⟩
    refine Grow.fin_dst (by rfl) ?_
    rintro _ rfl
    refine Grow.fin_told (by rfl) ?_
    rintro ⟨_, hK⟩
    simp only [Act.put, List.setIfInBounds_toArray, List.set_cons_zero, List.set_cons_succ]
    refine Grow.fin_end ?_
    have HG : Hid (Below w.heap.size w W) := Lib.hid (HB3.out.trans ((hG.of_drew.turned.mono (T := (w.heap.size ≤ ·)) fun b _ hb => by omega).below HB3.out.size))
    have HK := Lib.hid hK
    clear hG hK
    go_wp2_with fail
    exact bodyPost_ret (results_cell_row rfl _ _ (w.heap.size + 1) 34 RS (0, 0) _ rfl HK.out Tryd.underlying34 rfl (by rw [HS.out.1]; exact id_info)) rfl ⟨rfl, HG.out⟩
end Go.Proofs.YtlkkocgjpljibaaDoor

/-! mac.Derive. -/
namespace Go.Proofs.YtlkkocgjpljibaaDoor
open Go.RowKit

/-- []byte(s) -/
theorem conv_bytes (l : List UInt8) (hl : l.length ≤ 1000000) (W : World) : ∃ c' W', (convert 9 25 (.string (st l))).run Tryd.prog W = .ok (.slice (some ⟨W.heap.size, 0, none⟩) l.length c') W' ∧ Below W.heap.size W W' ∧ Byt W' (fun b => b = W.heap.size) (some ⟨W.heap.size, 0, none⟩) l.length c' l := by
  have h := run_bytes_of_string (P := Tryd.prog) W 9 25 5 (st l) Tryd.underlying9 Tryd.underlying25 Tryd.underlying5
  rw [st_size] at h
  have hge := grownCap_ge W l.length 0 5
  have hle := grownCap_le_maxLen W l.length 0 5 (by unfold maxLen; omega)
  generalize grownCap W l.length 0 5 = C at *
  refine ⟨C, _, h, (below_drew (Below.refl _ _)).alloc (Nat.le_refl _) _, rfl, hge, hle, fun h0 => ⟨_, 0, rfl, rfl, by simp, fun i hi => ?_⟩⟩
  have hnew : (W.drew.alloc (.cells (bytesRow (st l) C) 5 ((bytesRow (st l) C).size, (bytesRow (st l) C).size + 1))).heap[W.heap.size]? = some _ := heap_alloc_new W.drew _
  rw [cell_of_cells hnew]
  simp [bytesRow, st, Array.getElem?_append, hi]
theorem three_on {w : World} {S : Nat → Prop} {r1 r2 r3 : Option Addr × Nat × Nat} {l1 l2 l3 : List UInt8} (h1 : Byt w S r1.1 r1.2.1 r1.2.2 l1) (h2 : Byt w S r2.1 r2.2.1 r2.2.2 l2) (h3 : Byt w S r3.1 r3.2.1 r3.2.2 l3) :
    ∀ (i : Nat) (r : Option Addr × Nat × Nat), [r1, r2, r3][i]? = some r → Byt w S r.1 r.2.1 r.2.2 ([l1, l2, l3][i]?.getD []) := fun i r hr => by
  match i, hr with
  | 0, hr => simp at hr; subst hr; exact h1
  | 1, hr => simp at hr; subst hr; exact h2
  | 2, hr => simp at hr; subst hr; exact h3

set_option maxHeartbeats 4000000 in
set_option maxRecDepth 100000 in
theorem mderive_any {w : World} (ht : Tab w) (k : List UInt8) (hk : k.length = 32) (l : List UInt8) (hl : l.length ≤ 1000000) (N : Nat) :
    Calls Tryd.prog 26 #[.agg (row8 k), .string (st l), .int .u64 (N : Int)] w fun e w' => e = .returned (.agg (row8 (macL k (l ++ [0] ++ le8 N 8)))) ∧ Below w.heap.size w w' := by
  have h2 := ht.lt2
  have hz := zero_key
  obtain ⟨KS, hKS⟩ : ∃ KS, KS = row8 k := ⟨_, rfl⟩
  rw [← hKS]
  have HKS : Hid (KS.size = 32) := Lib.hid (by rw [hKS, row8_size, hk])
  obtain ⟨RS, hRS⟩ : ∃ RS, RS = row8 (macL k (l ++ [0] ++ le8 N 8)) := ⟨_, rfl⟩
  rw [← hRS]
  have HS : Hid (RS.size = 32 ∧ RS.all (·.oneCell') = true) := Lib.hid (by rw [hRS]; exact ⟨(row8_size _).trans (macL_length _ _), row8_one _⟩)
  have HRS := Lib.hid hRS
  have HKK := Lib.hid (And.intro hKS hk)
  have HT := Lib.hid ht
  have HL := Lib.hid hl
  obtain ⟨IS, hIS⟩ : ∃ IS, IS = row8 (le8 N 8) := ⟨_, rfl⟩
  have hlo := mlow_any N
  rw [← hIS] at hlo
  have HIS : Hid (IS = row8 (le8 N 8) ∧ IS.size = 8 ∧ IS.all (·.oneCell') = true) := Lib.hid ⟨hIS, by rw [hIS, row8_size, le8_length], by rw [hIS]; exact row8_one _⟩
  clear hKS hRS hIS ht hl hk
  have HK0 : Hid (((w.alloc (.cells KS 23)).alloc (.cells zerosId 23)).heap[w.heap.size]? = some (.cells KS 23 (0, 0))) := Lib.hid (by
    refine (Below.heap_alloc _ _ _ (by simp)).trans (heap_alloc_new w _))
  have HK1 : Hid (((w.alloc (.cells KS 23)).alloc (.cells zerosId 23)).heap[w.heap.size + 1]? = some (.cells zerosId 23 (0, 0))) := Lib.hid (by
    have := heap_alloc_new (w.alloc (.cells KS 23)) (.cells zerosId 23)
    simpa using this)
  have HB0 : Hid (Below w.heap.size w ((w.alloc (.cells KS 23)).alloc (.cells zerosId 23))) := Lib.hid (((Below.refl _ _).alloc (Nat.le_refl _) _).alloc (by simp) _)
  go_enter Tryd.func26, Tryd.ntmps26
  go_wp2_with fail
  refine (hlo _).mono ?_
  rintro _ w2 ⟨rfl, hb2⟩
  have HB2 : Hid (Below w.heap.size w w2) := Lib.hid (HB0.out.trans (hb2.mono HB0.out.size))
  have HR2 : Hid (w2.heap[w.heap.size]? = some (.cells KS 23 (0, 0)) ∧ w2.heap[w.heap.size + 1]? = some (.cells zerosId 23 (0, 0))) := Lib.hid ⟨(hb2.block _ (lt_of_cells HK0.out)).trans HK0.out, (hb2.block _ (lt_of_cells HK1.out)).trans HK1.out⟩
  clear hb2 hlo hz
  have hz8 := zero_b8
  have HG3 := Lib.hid (heap_alloc_new w2 (.cells zeros8b 70))
  go_wp2_with (refine wpList_store_row (by rfl) 70 (.tmp 7) (.tmp 9) (by rfl) w2.heap.size IS (by rfl) (by rfl) 70 _ HG3.out (by rw [HIS.out.2.1]; exact b8_info) (by rw [HIS.out.2.1]; rfl) HIS.out.2.2 ?_)
  have e3 : ∀ b, b < w2.heap.size → ((w2.alloc (.cells zeros8b 70)).setRow w2.heap.size IS).heap[b]? = w2.heap[b]? := fun b hb => by
    simp only [World.setRow, Array.getElem?_modify]
    rw [if_neg (by omega)]
    exact Below.heap_alloc _ _ _ hb
  have e4 := setRow_at (new := IS) HG3.out
  have HB3 : Hid (Below w.heap.size w ((w2.alloc (.cells zeros8b 70)).setRow w2.heap.size IS)) := Lib.hid (below_setRow (HB2.out.alloc HB2.out.size _) HB2.out.size _)
  have h01 := (e3 _ (lt_of_cells HR2.out.1)).trans HR2.out.1
  have h02 := (e3 _ (lt_of_cells HR2.out.2)).trans HR2.out.2
  have hq5 : w.heap.size + 1 < w2.heap.size := lt_of_cells HR2.out.2
  clear e3 HG3 HR2 HB2 hz8
  generalize (w2.alloc (.cells zeros8b 70)).setRow w2.heap.size IS = w3 at *
  generalize w2.heap.size = q5 at *
  rw [HIS.out.1] at e4
  have hy := byt_not (q := w.heap.size + 1) e4 (by rw [le8_length]; omega) (by omega)
  rw [le8_length] at hy
  have HY : Hid (w.heap.size + 1 < w3.drew.heap.size ∧ w3.drew.heap[w.heap.size]? = some (.cells KS 23 (0, 0)) ∧ Byt w3.drew (fun b => b ≠ w.heap.size + 1) (some ⟨q5, 0, none⟩) 8 8 (le8 N 8) ∧ Tab w3.drew) := Lib.hid ⟨lt_of_cells h02, h01, hy.drew, (HT.out.below HB3.out).drew⟩
  have HY1 : Hid (w3.drew.heap[w.heap.size + 1]? = some (.cells zerosId 23 (0, 0))) := Lib.hid h02
  clear e4 h01 h02 hy
  refine wp_region_grow (Sto (w.heap.size + 1) (.cells RS 23 (0, 0))) (Grow.nth [fun v _ => v = .agg KS, fun v _ => v = .string (st l), fun v W => ∃ A c, v = .slice A l.length c ∧ Byt W (fun b => b ≠ w.heap.size + 1) A l.length c l, fun v W => ∃ q, v = .slice (some ⟨q, 0, none⟩) 1 1 ∧ Byt W (fun b => b ≠ w.heap.size + 1) (some ⟨q, 0, none⟩) 1 1 [0], fun v _ => v = .slice (some ⟨q5, 0, none⟩) 8 8, fun v W => ∃ q, v = .slice (some ⟨q, 0, none⟩) 3 3 ∧ Rws W (fun b => b ≠ w.heap.size + 1) (some ⟨q, 0, none⟩) 3 3 [l, [0], le8 N 8], fun v _ => v = .agg RS, fun _ W => W.heap[w.heap.size + 1]? = some (.cells RS 23 (0, 0))]) 17 (by kernel_rfl) (by kernel_rfl) (by rfl) (Sto.refl _ _) (fun _ _ _ h1 h2 => h1.trans h2) (Grow.mono_nth ?gmono) ?gsteps ?gfin
  case gmono => exact ⟨fun _ _ _ h _ => h, fun _ _ _ h _ => h, fun _ _ _ ⟨A, c, h1, h2⟩ hg => ⟨A, c, h1, h2.turned hg.turned fun _ _ h => h⟩, fun _ _ _ ⟨q, h1, h2⟩ hg => ⟨q, h1, h2.turned hg.turned fun _ _ h => h⟩, fun _ _ _ h _ => h, fun _ _ _ ⟨q, h1, h2⟩ hg => ⟨q, h1, h2.turned hg.turned fun _ _ h => h⟩, fun _ _ _ h _ => h, fun _ _ _ h g => g.keeps h, trivial⟩
  case gsteps =>
    show Grow.allBelow _ 8
    refine And.intro ?_ ?s7
    refine And.intro ?_ ?s6
    refine And.intro ?_ ?s5
    refine And.intro ?_ ?s4
    refine And.intro ?_ ?s3
    refine And.intro ?_ ?s2
    refine And.intro ?_ ?s1
    refine And.intro ?_ ?s0
    exact trivial
    case s0 =>
      refine Grow.step_in (by rfl) (by rfl) ?_
      intro E W ec eg ef hG hd hu R HR
      have e3 : E (.tmp 3) = .pointer (some ⟨w.heap.size, 0, none⟩) := hu 3 (by kernel_rfl)
      clear hd hu
      exact runs_load 23 (.tmp 3) rfl (w.heap.size) e3 KS (0, 0) ((hG.turned.block _ (Nat.lt_of_succ_lt HY.out.1) (by omega)).trans HY.out.2.1) Tryd.underlying23 (by rw [HKS.out]; exact key_info) (HR.out _ _ (Sto.refl _ _ _) rfl)
    case s1 =>
      refine Grow.step_in (by rfl) (by rfl) ?_
      intro E W ec eg ef hG hd hu R HR
      have e1 : E (.tmp 1) = .string (st l) := hu 1 (by kernel_rfl)
      clear hd hu
      go_simp
      exact HR.out _ _ (Sto.refl _ _ _) rfl
    case s2 =>
      refine Grow.step_in (by rfl) (by rfl) ?_
      intro E W ec eg ef hG hd hu R HR
      have e11 : E (.tmp 11) = .string (st l) := hd 1 11 (by kernel_rfl)
      clear hd hu
      obtain ⟨c', W', hcv, hbl, hby⟩ := conv_bytes l HL.out W
      go_simp
      have hlt := hG.lt HY.out.1
      exact HR.out _ _ (Sto.of_below hbl hlt) ⟨_, _, rfl, hby.mono fun b _ hb => by omega⟩
    case s3 =>
      refine Grow.step_in (by rfl) (by rfl) ?_
      intro E W ec eg ef hG hd hu R HR
      clear hd hu
      go_simp
      have hlt := hG.lt HY.out.1
      exact HR.out _ _ (Sto.of_below ((Below.refl _ _).alloc (Nat.le_refl _) _) hlt) ⟨W.heap.size, rfl, byt_not (l := [0]) (heap_alloc_new W _) (by simp) (by omega)⟩
    case s4 =>
      refine Grow.step_in (by rfl) (by rfl) ?_
      intro E W ec eg ef hG hd hu R HR
      have e7 : E (.tmp 7) = .pointer (some ⟨q5, 0, none⟩) := hu 7 (by kernel_rfl)
      clear hd hu
      go_simp
      exact HR.out _ _ (Sto.refl _ _ _) rfl
    case s5 =>
      refine Grow.step_in (by rfl) (by rfl) ?_
      intro E W ec eg ef hG hd hu R HR
      have h12 := hd 2 12 (by kernel_rfl)
      have h13 := hd 3 13 (by kernel_rfl)
      have e14 : E (.tmp 14) = .slice (some ⟨q5, 0, none⟩) 8 8 := hd 4 14 (by kernel_rfl)
      clear hd hu
      obtain ⟨A2, c2, e12, hY2⟩ := h12
      obtain ⟨q3, e13, hY3⟩ := h13
      go_simp
      have hlt := hG.lt HY.out.1
      exact HR.out _ _ (Sto.of_below ((Below.refl _ _).alloc (Nat.le_refl _) _) hlt) ⟨W.heap.size, rfl, rws_new_on [(A2, l.length, c2), (some ⟨q3, 0, none⟩, 1, 1), (some ⟨q5, 0, none⟩, 8, 8)] [l, [0], le8 N 8] rfl (by simp) (three_on hY2 hY3 (HY.out.2.2.1.turned hG.turned fun _ _ h => h)) (fun _ h => h) (show W.heap.size ≠ _ by omega)⟩
    case s6 =>
      refine Grow.step_in (by rfl) (by rfl) ?_
      intro E W ec eg ef hG hd hu R HR
      have e10 : E (.tmp 10) = .agg KS := hd 0 10 (by kernel_rfl)
      have h15 := hd 5 15 (by kernel_rfl)
      clear hd hu
      obtain ⟨q, eq, hR⟩ := h15
      go_simp
      rw [HKK.out.1]
      refine (mof_any hR (HY.out.2.2.2.sto hG (by omega) (by omega)) (by omega) (by have := HL.out; simp [le8_length]; omega) k HKK.out.2).mono ?_
      rintro _ w' ⟨rfl, hb⟩
      exact ⟨_, rfl, HR.out _ _ (Sto.of_below hb (hG.lt HY.out.1)) (show _ = _ by rw [HRS.out]; simp)⟩
    case s7 =>
      refine Grow.step_in (by rfl) (by rfl) ?_
      intro E W ec eg ef hG hd hu R HR
      have e6 : E (.tmp 6) = .pointer (some ⟨w.heap.size + 1, 0, none⟩) := hu 6 (by kernel_rfl)
      have e16 : E (.tmp 16) = .agg RS := hd 6 16 (by kernel_rfl)
      clear hd hu
      obtain ⟨ds, hds, hdo⟩ := hG.old HY1.out
      exact runs_store 23 (.tmp 6) (.tmp 16) rfl (w.heap.size + 1) RS e6 e16 23 ds hds (by rw [HS.out.1]; exact key_info) (by rcases hdo with rfl | rfl; exact HS.out.1.symm; rfl) HS.out.2 (HR.out _ _ (Sto.store hds) (setRow_at hds))
  case gfin =>
    intro W hG
    refine Grow.fin_dst (by rfl) ?_
    rintro _ rfl
    refine Grow.fin_dst (by rfl) ?_
    rintro _ rfl
    refine Grow.fin_dst (by rfl) ?_
    rintro _ ⟨_, _, rfl, _⟩
    refine Grow.fin_dst (by rfl) ?_
    rintro _ ⟨_, rfl, _⟩
    refine Grow.fin_dst (by rfl) ?_
    rintro _ rfl
    refine Grow.fin_dst (by rfl) ?_
    rintro _ ⟨_, rfl, _⟩
    refine Grow.fin_dst (by rfl) ?_
    rintro _ rfl
    refine Grow.fin_told (by rfl) ?_
    rintro ⟨_, hK⟩
    simp only [Act.put, List.setIfInBounds_toArray, List.set_cons_zero, List.set_cons_succ]
    refine Grow.fin_end ?_
    have HG : Hid (Below w.heap.size w W) := Lib.hid (HB3.out.trans ((hG.of_drew.turned.mono (T := (w.heap.size ≤ ·)) fun b _ hb => by omega).below HB3.out.size))
    have HK := Lib.hid hK
    clear hG hK
    go_wp2_with fail
    exact bodyPost_ret (results_cell_row rfl _ _ (w.heap.size + 1) 23 RS (0, 0) _ rfl HK.out Tryd.underlying23 rfl (by rw [HS.out.1]; exact key_info)) rfl ⟨rfl, HG.out⟩
end Go.Proofs.YtlkkocgjpljibaaDoor
