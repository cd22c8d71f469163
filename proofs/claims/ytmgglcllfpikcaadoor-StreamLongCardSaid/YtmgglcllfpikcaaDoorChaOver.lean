/-
  stream.Over.
-/
import Derived.Test.YtmgglcllfpikcaaDoorChaOut
import Derived.Test.YtmgglcllfpikcaaDoorGrowIn
namespace Go.Proofs.YtmgglcllfpikcaaDoor
open Go.RowKit Go.Shelf
attribute [local go_sem] Oper.semAt_some

theorem keeps_below {W W' : World} (h : Below W.heap.size W W') : KeepsOthers W W' := ⟨h.size, fun k _ hk _ => (h.block k (Array.getElem?_eq_some_iff.1 hk).1).trans hk⟩
/-- What an append to a row of the call's own comes to. -/
theorem runs_append {P : Program} {R : Value → World → Prop} {E : Operand → Value} {o : Oper} (w : World) (s x : Operand) (t : TypeId) (hop : o.op = Op.call { callee := Callee.builtin Builtin.append, args := #[s, x], argTypes := #[t, t] })
    (base : Nat) (e : TypeId) (i : TypeInfo) (z : Value) (size bytes : Nat) (h1 : P.underlying t = some (.slice e)) (h2 : P.info? e = some i) (h3 : i.zero = some z) (h4 : i.size = size) (h5 : i.bytes = bytes) (h6 : z.cells.size = size) (h7 : 0 < size)
    (v : Value) (k : Nat) (xs : List Value) (hs : E s = v) (hown : w.ownsRow base e size v k xs) (ad : Addr) (m c : Nat) (news : List Value) (hx : E x = .slice (some ad) m c) (hn : news.length = m * size)
    (hc : ∀ j u, news[j]? = some u → w.cell? (ad.add j) = some u) (h1c : ∀ u ∈ news, u.oneCell' = true) (b1 : k + m ≤ maxLen) (b2 : (k + m) * bytes ≤ 140737488355328) (b3 : base ≤ w.heap.size)
    (hK : ∀ v' w', w'.ownsRow base e size v' (k + m) (xs ++ news) → w.grownBy w' v.ownBlock → R v' w') : Grow.runsTo P R ((execOp E o).run P w) := by
  obtain ⟨v', w', hrun, r1, r2, _⟩ := run_append_own (P := P) w base t o.type e i z size bytes h1 h2 h3 h4 h5 h6 h7 v k xs hown ad m c news hn hc h1c b1 b2 b3
  simp [execOp, hop, resolve, invoke, builtin, hs, hx, hrun, Result.andThen, Grow.runsTo]
  exact hK v' w' r1 r2

set_option maxHeartbeats 4000000 in
set_option maxRecDepth 100000 in
theorem over_any {w : World} {S : Nat → Prop} {A : Option Addr} {n c : Nat} {b : List UInt8} (h : Byt w S A n c b) (k no : List UInt8) (hk : k.length = 32) (hno : no.length = 12) (htab : QTab w) (hn : n ≤ 100000000000000) :
    Calls Tryd.prog 11 #[.agg (row8 k), .agg (row8 no), .slice A n c] w fun e w' => ∃ A' c', e = .returned (.slice A' n c') ∧ Byt w' (w.heap.size ≤ ·) A' n c' (overL k no b) ∧ Below w.heap.size w w' := by
  have hz6 := zero64q
  obtain ⟨i0, hi, hz0, hz1, hz2⟩ := info_parts u8_info
  obtain ⟨KS, hKS⟩ : ∃ KS, KS = row8 k := ⟨_, rfl⟩
  obtain ⟨NS, hNS⟩ : ∃ NS, NS = row8 no := ⟨_, rfl⟩
  rw [← hKS, ← hNS]
  have hks : KS.size = 32 := by rw [hKS, row8_size, hk]
  have hns : NS.size = 12 := by rw [hNS, row8_size, hno]
  obtain ⟨W0, hW0⟩ : ∃ W0, ((w.alloc (.cells KS 23)).alloc (.cells NS 24)) = W0 := ⟨_, rfl⟩
  have hg0 := heap_alloc_new w (.cells KS 23)
  have hg1 := heap_alloc_new (w.alloc (.cells KS 23)) (.cells NS 24)
  have hb0 : Below w.heap.size w W0 := by rw [← hW0]; exact ((Below.refl _ _).alloc (Nat.le_refl _) _).alloc (by simp) _
  simp only [World.size_alloc] at hg1
  have HG : Hid (W0.heap[w.heap.size]? = some (.cells KS 23 (0, 0)) ∧ W0.heap[w.heap.size + 1]? = some (.cells NS 24 (0, 0)) ∧ Below w.heap.size w W0) := Lib.hid (by
    refine ⟨?_, ?_, hb0⟩
    · rw [← hW0]; exact (Below.heap_alloc _ _ _ (by simp)).trans hg0
    · rw [← hW0]; exact hg1)
  have HH := Lib.hid (And.intro h (And.intro htab hn))
  have HK := Lib.hid (And.intro hKS (And.intro hNS (And.intro hk hno)))
  have HKS := Lib.hid (And.intro hks hns)
  have HI := Lib.hid (And.intro hi (And.intro hz0 (And.intro hz1 hz2)))
  clear hg0 hg1 hb0 hKS hNS hk hno hks hns h htab hi hz0 hz1 hz2
  refine (callsIn_wide (n := 3)).1 ?_
  refine callsIn_of_wp_marks Tryd.func11 rfl trivial ?_ rfl
  simp only [Tryd.ntmps11, List.size_toArray, List.length_cons, List.length_nil, Nat.reduceAdd, Nat.reduceSub, Array.replicate_succ, Array.replicate_zero, List.push_toArray, List.append_toArray, List.nil_append, List.cons_append]
  gi_wp2_with (gi_at_make; refine wpListIn_make_own _ (by rfl) _ _ 30 (by rfl) w.heap.size 5 i0 (.int .u8 0) 1 Tryd.underlying30 HI.out.1 HI.out.2.1 HI.out.2.2.1 .i64 .i64 (n : Int) n (by rfl) (by rfl) rfl (by rw [HI.out.2.2.2]; omega) (by unfold maxLen; omega) HG.out.2.2.size ?_)
  intro W1 hown1 hgr1
  have H1 : Hid (W1.heap[w.heap.size]? = some (.cells KS 23 (0, 0)) ∧ W1.heap[w.heap.size + 1]? = some (.cells NS 24 (0, 0)) ∧ Below w.heap.size w W1) := Lib.hid ⟨(hgr1.block _ (lt_of_cells HG.out.1) (by simp)).trans HG.out.1, (hgr1.block _ (lt_of_cells HG.out.2.1) (by simp)).trans HG.out.2.1, HG.out.2.2.grown hgr1 HG.out.2.2.size (fun _ e => by cases e)⟩
  have HO1 := Lib.hid hown1
  have hq : w.heap.size + 1 < W1.heap.size := lt_of_cells H1.out.2.1
  clear hown1 hgr1 HG hW0
  generalize W0.heap.size = g0 at *
  gi_wp2_with (refine ⟨trivial, ?_⟩; gi_at_call 17; refine (chunk_in _ _ _ _ _).mono ?_; rintro e w' ⟨rfl, rfl⟩)
  try simp only [World.size_alloc]
  obtain ⟨B7, hB7⟩ : ∃ B7, W1.heap.size = B7 := ⟨_, rfl⟩
  have HB7 := Lib.hid hB7
  rw [hB7] at hq
  have hbx := Boxed.new W1 30 (.slice (some ⟨g0, 0, none⟩) 0 n)
  have hnx := Boxed.new (W1.alloc (.cells #[.slice (some ⟨g0, 0, none⟩) 0 n] 30)) 25 (.int .u32 0)
  have hsx := heap_alloc_new ((W1.alloc (.cells #[.slice (some ⟨g0, 0, none⟩) 0 n] 30)).alloc (.cells #[.int .u32 0] 25)) (.cells #[.slice A n c] 30)
  have hcx := heap_alloc_new (((W1.alloc (.cells #[.slice (some ⟨g0, 0, none⟩) 0 n] 30)).alloc (.cells #[.int .u32 0] 25)).alloc (.cells #[.slice A n c] 30)) (.cells #[.int .i64 64] 3)
  simp only [World.size_alloc, hB7] at hbx hnx hsx hcx ⊢
  have hbelow : Below W1.heap.size W1 ((((W1.alloc (.cells #[.slice (some ⟨g0, 0, none⟩) 0 n] 30)).alloc (.cells #[.int .u32 0] 25)).alloc (.cells #[.slice A n c] 30)).alloc (.cells #[.int .i64 64] 3)) := ((((Below.refl _ _).alloc (Nat.le_refl _) _).alloc (by simp) _).alloc (by simp; omega) _).alloc (by simp; omega) _
  obtain ⟨W2, hW2⟩ : ∃ W2, ((((W1.alloc (.cells #[.slice (some ⟨g0, 0, none⟩) 0 n] 30)).alloc (.cells #[.int .u32 0] 25)).alloc (.cells #[.slice A n c] 30)).alloc (.cells #[.int .i64 64] 3)) = W2 := ⟨_, rfl⟩
  have hsz2 : W2.heap.size = B7 + 4 := by rw [← hW2]; simp [hB7]
  have HBase : Hid (OBase w B7 KS NS A n c b 0 W2) := Lib.hid (by
    rw [hW2] at hbelow
    refine ⟨H1.out.2.2.trans (hbelow.mono H1.out.2.2.size), (hbelow.block _ (lt_of_cells H1.out.1)).trans H1.out.1, (hbelow.block _ (lt_of_cells H1.out.2.1)).trans H1.out.2.1, (HH.out.2.1.below H1.out.2.2).below hbelow, ((HH.out.1.mono (T := fun x => x < w.heap.size) fun x hx _ => hx).below H1.out.2.2).below hbelow, ?_, ?_, ?_⟩
    · rw [← hW2]; exact ((hnx.alloc _).alloc _)
    · rw [← hW2]; exact (Below.heap_alloc _ _ _ (by simp [hB7])).trans hsx
    · rw [← hW2]; exact hcx)
  have HRow : Hid (ORow w B7 [] (.slice (some ⟨g0, 0, none⟩) 0 n) W2) := Lib.hid (by
    rw [hW2] at hbelow
    refine ⟨by rw [← hW2]; exact ((hbx.alloc _).alloc _).alloc _, ?_, ⟨_, _, _, rfl⟩⟩
    exact HO1.out.kept (w' := W2) (row := none) ⟨hbelow.os, hbelow.tape, hbelow.output, hbelow.size, fun k hk _ => hbelow.block k hk⟩ (.inr (by simp [Value.ownBlock])))
  rw [hW2]
  clear hbx hnx hsx hcx hbelow hW2 H1 HO1
  obtain ⟨bb, off, hA⟩ : ∃ bb off, 0 < n → A = some ⟨bb, off, none⟩ := by
    by_cases h0 : 0 < n
    · obtain ⟨x, o, hA, _⟩ := HH.out.1.row h0
      exact ⟨x, o, fun _ => hA⟩
    · exact ⟨0, 0, fun h => absurd h h0⟩
  have HA := Lib.hid hA
  clear hA hB7
  refine wpIn_rangeFunc_ownG rfl (by omega) (gf := 21) (lb := #[.pointer (some ⟨B7 + 2, 0, none⟩), .pointer (some ⟨B7 + 3, 0, none⟩)]) rfl trivial (enters_of Tryd.func21 (by kernel_rfl) rfl)
    (chunk_stops 2 (by omega) (B7 + 2) (B7 + 3) bb off n c A HA.out HH.out.1.cap HH.out.1.max (by omega) W2 HBase.out.bs HBase.out.bn)
    (fun h1 h2 => ⟨h2.1.trans h1.1, h2.2.trans h1.2⟩)
    (fun W l o o' hl _ _ _ => ⟨World.putObj_heap_other (by omega), World.putObj_heap_other (by omega)⟩) (Below.refl _ _) (fun _ => rfl)
    (fun pre W => OBase w B7 KS NS A n c b pre.length W ∧ ∃ v, ORow w B7 (outp k no b pre) v W)
    (fun _ _ _ => False)
    (fun pre X Y row hs hg hr => ⟨hs.1.kept hg (fun r e => ⟨by have := (hr r e).1; omega, (hr r e).2⟩), by
      obtain ⟨v, hv⟩ := hs.2
      exact ⟨v, hv.kept hg (fun r e => (hr r e).2)⟩⟩)
    (fun _ _ _ _ _ hs _ _ => hs)
    ⟨HBase.out, ⟨_, HRow.out⟩⟩
    (fun x => { tmps := #[.agg KS, .agg NS, .slice A n c, .pointer (some ⟨w.heap.size, 0, none⟩), .pointer (some ⟨w.heap.size + 1, 0, none⟩), undef, .slice none 0 0, .pointer (some ⟨B7, 0, none⟩), .pointer (some ⟨B7 + 1, 0, none⟩), .slice (some ⟨bb, off + 64 * x, none⟩) (min 64 (n - 64 * x)) (min 64 (n - 64 * x)), undef, undef, undef, .slice A n c, .int .i64 n, .slice (some ⟨g0, 0, none⟩) 0 n, .slice A n c, .func (.func 21) #[] #[.pointer (some ⟨B7 + 2, 0, none⟩), .pointer (some ⟨B7 + 3, 0, none⟩)], .slice (some ⟨bb, off + 64 * x, none⟩) (min 64 (n - 64 * x)) (min 64 (n - 64 * x)), undef, undef, undef, undef, undef, undef, undef, undef, undef, undef, undef, undef, undef, undef, undef, undef, undef, undef, undef, undef, undef, undef, undef], defers := [] }) ?assign ?body ?done ?stop
  case assign =>
    intro l x W K hK
    unfold chunkV
    gi_wp2
    exact hK
  case body =>
    rintro l pre x W ⟨hbase, v, hrow⟩ hlen
    have HB := Lib.hid hbase
    have HR := Lib.hid hrow
    clear hbase hrow HBase HRow
    obtain ⟨M, hM⟩ : ∃ M, M = min 64 (n - 64 * x) := ⟨_, rfl⟩
    obtain ⟨O, hO⟩ : ∃ O, O = off + 64 * x := ⟨_, rfl⟩
    rw [← hM, ← hO]
    have hbl := HH.out.1.len
    have HS : Hid (∀ W', OBase w B7 KS NS A n c b pre.length W' → ∀ i, i < M → W'.cell? ⟨bb, O + i, none⟩ = some (.int .u8 ((b[64 * x + i]?.getD 0).toNat : Int))) := Lib.hid fun W' h i hi => by
      obtain ⟨y, o, hA1, _, _, hc⟩ := h.src.row (by omega)
      have := (HA.out (by omega)).symm.trans hA1
      injection this with this
      injection this with e1 e2
      rw [e1, hO, e2, Nat.add_assoc]
      exact hc (64 * x + i) (by omega)
    have HML : Hid (M ≤ 64 ∧ (chunkO k no b pre.length x).length = M) := Lib.hid ⟨by omega, by rw [chunkO_length, hM, hbl]⟩
    have HCO : Hid (∀ i, i < M → (chunkO k no b pre.length x)[i]? = some ((b[64 * x + i]?.getD 0) ^^^ ((partL k no (BitVec.ofNat 32 pre.length))[i]?.getD 0))) := Lib.hid fun i hi => chunkO_at k no b pre.length x i (by rw [hbl, ← hM]; exact hi)
    have HOS := Lib.hid (outp_snoc k no b pre x)
    have HOL := Lib.hid (outp_length k no b pre)
    have HPL := Lib.hid (partL_length k no (BitVec.ofNat 32 pre.length))
    have HPC : Hid (∀ W', QTab W' → Calls Tryd.prog 9 #[.agg KS, .agg NS, .int .u32 (nv (BitVec.ofNat 32 pre.length))] W' fun e w' => e = .returned (.agg (row8 (partL k no (BitVec.ofNat 32 pre.length)))) ∧ Below W'.heap.size W' w') := Lib.hid fun W' h => by
      rw [HK.out.1, HK.out.2.1]
      exact part_any k no HK.out.2.2.1 HK.out.2.2.2 _ h
    have HLN := Lib.hid hlen
    have HMO := Lib.hid (And.intro hM hO)
    clear hM hO hbl hlen
    have HNUM : Hid (nv (BitVec.ofNat 32 pre.length + 1#32) = nv (BitVec.ofNat 32 (pre.length + 1))) := Lib.hid (by rw [BitVec.ofNat_add])
    generalize chunkO k no b pre.length x = CO at *
    generalize outp k no b pre = OU at *
    obtain ⟨OU2, hOU2⟩ : ∃ OU2, OU2 = outp k no b (pre ++ [x]) := ⟨_, rfl⟩
    rw [← hOU2] at HOS
    have HU2 := Lib.hid hOU2
    clear hOU2
    generalize partL k no (BitVec.ofNat 32 pre.length) = PL at *
    generalize hY : BitVec.ofNat 32 pre.length = Y at *
    have HYE := Lib.hid hY
    clear hY
    obtain ⟨PS, hPS⟩ : ∃ PS, PS = row8 PL := ⟨_, rfl⟩
    rw [← hPS] at HPC
    have HPS : Hid (PS.size = 64 ∧ PS.all (·.oneCell') = true ∧ PS = row8 PL) := Lib.hid ⟨by rw [hPS, row8_size, HPL.out], by rw [hPS]; exact row8_one _, hPS⟩
    clear hPS
    have hn8 := HB.out.num
    rw [HYE.out] at hn8
    have hc8 := hn8.cell
    clear hn8
    gi_wp2_with (first | (refine wpListIn_load_row (by rfl) 23 (.tmp 3) (by rfl) w.heap.size (by rfl) 23 KS (0, 0) _ HB.out.key Tryd.underlying23 (by rfl) (by rw [HKS.out.1]; exact info32s) ?_) | (refine wpListIn_load_row (by rfl) 24 (.tmp 4) (by rfl) (w.heap.size + 1) (by rfl) 24 NS (0, 0) _ HB.out.non Tryd.underlying24 (by rfl) (by rw [HKS.out.2]; exact info12s) ?_))
    refine ⟨trivial, (CallsIn.inRound l (callsIn_wide.2 (HPC.out _ HB.out.tab))).mono ?_⟩
    rintro _ W5 ⟨rfl, hb5⟩
    have HG5 := Lib.hid (heap_alloc_new W5 (.cells zeros64q 27))
    gi_wp2_with (refine wpListIn_store_row (by rfl) 27 (.tmp 10) (.tmp 22) (by rfl) W5.heap.size PS (by rfl) (by rfl) 27 _ HG5.out (by rw [HPS.out.1]; exact info64q) (by rw [HPS.out.1]; rfl) HPS.out.2.1 ?_)
    have hb6 : Below W.heap.size W ((W5.alloc (.cells zeros64q 27)).setRow W5.heap.size PS) := hb5.trans ((below_setRow ((Below.refl _ _).alloc (Nat.le_refl _) _) (Nat.le_refl _) _ : Below W5.heap.size W5 _).mono hb5.size)
    have H6 : Hid (OBase w B7 KS NS A n c b pre.length ((W5.alloc (.cells zeros64q 27)).setRow W5.heap.size PS) ∧ (∃ v, ORow w B7 (OU ++ CO.take 0) v ((W5.alloc (.cells zeros64q 27)).setRow W5.heap.size PS)) ∧ ((W5.alloc (.cells zeros64q 27)).setRow W5.heap.size PS).heap[W5.heap.size]? = some (.cells PS 27 (0, 0)) ∧ KeepsOthers W ((W5.alloc (.cells zeros64q 27)).setRow W5.heap.size PS) ∧ B7 + 3 < W5.heap.size) := Lib.hid ⟨HB.out.belo hb6, ⟨v, by rw [List.take_zero, List.append_nil]; exact HR.out.belo hb6⟩, setRow_at HG5.out, keeps_below hb6, Nat.lt_of_lt_of_le (lt_of_cells HB.out.bn) hb5.size⟩
    clear HG5 hb5 hb6 HPC hc8
    generalize (W5.alloc (.cells zeros64q 27)).setRow W5.heap.size PS = W6 at *
    generalize W5.heap.size = PB at *
    gi_loopw [25] (fun i wr => ∃ m : Nat, m ≤ M ∧ i = .int .i64 m ∧ OBase w B7 KS NS A n c b pre.length wr ∧ (∃ v, ORow w B7 (OU ++ CO.take m) v wr) ∧ wr.heap[PB]? = some (.cells PS 27 (0, 0)) ∧ KeepsOthers W wr) (fun i _ => M - (intOf i).toNat)
    case atStart => exact ⟨0, Nat.zero_le _, rfl, H6.out.1, H6.out.2.1, H6.out.2.2.1, H6.out.2.2.2.1⟩
    case round =>
      obtain ⟨m, hm, rfl, hbs, ⟨v2, hrw⟩, hpb, hko⟩ := hrel
      have HX := Lib.hid (And.intro hbs (And.intro hrw (And.intro hpb hko)))
      have HPB := Lib.hid H6.out.2.2.2.2
      clear hbs hrw hpb hko H6 HR v
      by_cases hml : m < M
      · have hcell := HS.out _ HX.out.1 m hml
        obtain ⟨ch, hch⟩ : ∃ ch, b[64 * x + m]?.getD 0 = ch := ⟨_, rfl⟩
        rw [hch] at hcell
        have HCH := Lib.hid hch
        clear hch
        gi_wp2
        obtain ⟨a2, l2, c2, hv2⟩ := HX.out.2.1.isl
        subst hv2
        have HTH : Hid (OBase w B7 KS NS A n c b pre.length wr.drew ∧ wr.drew.heap[PB]? = some (.cells PS 27 (0, 0)) ∧ KeepsOthers W wr.drew) := Lib.hid ⟨HX.out.1.drew, HX.out.2.2.1, HX.out.2.2.2.trans (KeepsOthers.drew _)⟩
        have HRW : Hid (ORow w B7 (OU ++ CO.take m) (.slice a2 l2 c2) wr.drew) := Lib.hid HX.out.2.1.drew
        obtain ⟨pl, hpl⟩ : ∃ pl, PL[m]?.getD 0 = pl := ⟨_, rfl⟩
        have HPC : Hid (∀ V : World, V.heap[PB]? = some (.cells PS 27 (0, 0)) → V.cell? ⟨PB, m, none⟩ = some (.int .u8 (pl.toNat : Int))) := Lib.hid fun V hV => by
          have h1 := HML.out.1
          have h2 := u8s_cell (w := V) (p := PB) (l := PL) (t := 27) (by rw [hV, HPS.out.2.2]; rfl) m (by rw [HPL.out]; omega)
          rw [h2, hpl]
        have HCT : Hid (CO.take (m + 1) = CO.take m ++ [ch ^^^ pl]) := Lib.hid (by
          have h1 := HCO.out m hml
          rw [hpl, HCH.out] at h1
          rw [List.take_add_one, h1]
          rfl)
        have hx8 := xor8 ch pl
        have i64 : (m : Int) < 64 := by have := HML.out.1; omega
        have HLE : Hid ((OU ++ CO.take m).length < 100000000000200) := Lib.hid (by
          have h1 := HOL.out
          have h2 := HLN.out
          have h3 := HML.out.1
          have h4 := HH.out.2.2
          unfold chunkN at h2
          rw [List.length_append, List.length_take]
          omega)
        have HZ : Hid (w.heap.size ≤ B7) := Lib.hid (by omega)
        clear hpl HX hcell
        refine wpIn_region_grow (fun V => OBase w B7 KS NS A n c b pre.length V ∧ V.heap[PB]? = some (.cells PS 27 (0, 0)) ∧ KeepsOthers W V) (fun j V => (j = 7 → V.ownsRow w.heap.size 5 1 (.slice a2 l2 c2) (OU ++ CO.take m).length (u8s (OU ++ CO.take m))) ∧ (j = 8 → Boxed V B7 30 (.slice a2 l2 c2)))
          (Grow.nth [fun u _ => u = .slice a2 l2 c2, fun u _ => u = .int .u8 (ch.toNat : Int), fun u _ => u = .int .i64 (m : Int), fun u _ => u = .pointer (some ⟨PB, m, none⟩), fun u _ => u = .int .u8 (pl.toNat : Int), fun u _ => u = .int .u8 ((ch ^^^ pl).toNat : Int), fun u V => ∃ q, u = .slice (some ⟨q, 0, none⟩) 1 1 ∧ V.heap[q]? = some (.cells #[.int .u8 ((ch ^^^ pl).toNat : Int)] 5 (0, 0)) ∧ q ≠ B7 ∧ some q ≠ (Value.slice a2 l2 c2).ownBlock, fun u V => ∃ g l c, u = .slice (some ⟨g, 0, none⟩) l c ∧ V.ownsRow w.heap.size 5 1 u ((OU ++ CO.take m).length + 1) (u8s (OU ++ CO.take m) ++ [.int .u8 ((ch ^^^ pl).toNat : Int)]) ∧ some B7 ≠ u.ownBlock, fun _ V => ∃ u, ORow w B7 (OU ++ CO.take (m + 1)) u V]) 42 (by kernel_rfl) (by kernel_rfl) (by kernel_rfl) (by rfl) HTH.out (fun j hj => ⟨fun _ => HRW.out.own, fun _ => HRW.out.box⟩) ?gsteps ?gfin
        case gsteps =>
          show Grow.allBelow _ 9
          refine And.intro ?_ ?s8
          refine And.intro ?_ ?s7
          refine And.intro ?_ ?s6
          refine And.intro ?_ ?s5
          refine And.intro ?_ ?s4
          refine And.intro ?_ ?s3
          refine And.intro ?_ ?s2
          refine And.intro ?_ ?s1
          refine And.intro ?_ ?s0
          exact trivial
          case s0 =>
            refine Grow.stepY_in (by rfl) (by rfl) ?_
            intro E V ec eg ef hT hd hu hy R HR
            have e7 : E (.tmp 7) = .pointer (some ⟨B7, 0, none⟩) := hu 7 (by kernel_rfl)
            clear hd hu
            have hb := (hy 8 (by decide) (.inr (by kernel_rfl))).2 rfl
            have hc := hb.cell
            go_simp
            exact HR.out _ _ hT rfl (fun _ _ _ _ _ h => h) (fun _ _ _ h => h)
          case s1 =>
            refine Grow.stepY_in (by rfl) (by rfl) ?_
            intro E V ec eg ef hT hd hu hy R HR
            have e12 : E (.tmp 12) = .int .u8 (ch.toNat : Int) := hu 12 (by kernel_rfl)
            clear hd hu
            go_simp
            exact HR.out _ _ hT rfl (fun _ _ _ _ _ h => h) (fun _ _ _ h => h)
          case s2 =>
            refine Grow.stepY_in (by rfl) (by rfl) ?_
            intro E V ec eg ef hT hd hu hy R HR
            have e11 : E (.tmp 11) = .int .i64 (m : Int) := hu 11 (by kernel_rfl)
            clear hd hu
            go_simp
            exact HR.out _ _ hT rfl (fun _ _ _ _ _ h => h) (fun _ _ _ h => h)
          case s3 =>
            refine Grow.stepY_in (by rfl) (by rfl) ?_
            intro E V ec eg ef hT hd hu hy R HR
            have e10 : E (.tmp 10) = .pointer (some ⟨PB, 0, none⟩) := hu 10 (by kernel_rfl)
            have e32 : E (.tmp 32) = .int .i64 (m : Int) := hd 2 32 (by kernel_rfl)
            clear hd hu
            go_simp
            exact HR.out _ _ hT rfl (fun _ _ _ _ _ h => h) (fun _ _ _ h => h)
          case s4 =>
            refine Grow.stepY_in (by rfl) (by rfl) ?_
            intro E V ec eg ef hT hd hu hy R HR
            have e33 : E (.tmp 33) = .pointer (some ⟨PB, m, none⟩) := hd 3 33 (by kernel_rfl)
            clear hd hu
            have hc := HPC.out V hT.2.1
            go_simp
            exact HR.out _ _ hT rfl (fun _ _ _ _ _ h => h) (fun _ _ _ h => h)
          case s5 =>
            refine Grow.stepY_in (by rfl) (by rfl) ?_
            intro E V ec eg ef hT hd hu hy R HR
            have e31 : E (.tmp 31) = .int .u8 (ch.toNat : Int) := hd 1 31 (by kernel_rfl)
            have e34 : E (.tmp 34) = .int .u8 (pl.toNat : Int) := hd 4 34 (by kernel_rfl)
            clear hd hu
            go_simp
            exact HR.out _ _ hT rfl (fun _ _ _ _ _ h => h) (fun _ _ _ h => h)
          case s6 =>
            refine Grow.stepY_in (by rfl) (by rfl) ?_
            intro E V ec eg ef hT hd hu hy R HR
            have e35 : E (.tmp 35) = .int .u8 ((ch ^^^ pl).toNat : Int) := hd 5 35 (by kernel_rfl)
            have hown := (hy 7 (by decide) (.inr (by kernel_rfl))).1 rfl
            have hb7 := hT.1.num.lt
            have HT := Lib.hid hT
            clear hd hu hy hT
            generalize ch ^^^ pl = xo at *
            go_simp
            have hbl := (Below.refl V.heap.size V).alloc (Nat.le_refl _) (.cells #[.int .u8 (xo.toNat : Int)] 5)
            refine HR.out _ _ ⟨HT.out.1.belo hbl, (hbl.block _ (lt_of_cells HT.out.2.1)).trans HT.out.2.1, HT.out.2.2.trans (keeps_below hbl)⟩ ⟨V.heap.size, rfl, heap_alloc_new V _, by omega, fun e => ?_⟩ (fun j hj hne hw u hu => ?_) (fun j _ _ h => ⟨fun e => ?_, fun e => (h.2 e).alloc _⟩)
            · obtain ⟨_, cs, f, hc⟩ := own_row hown _ e.symm
              have := lt_of_cells hc
              omega
            · have h9 : j < 9 := hj
              rcases (show j = 0 ∨ j = 1 ∨ j = 2 ∨ j = 3 ∨ j = 4 ∨ j = 5 ∨ j = 6 ∨ j = 7 ∨ j = 8 by omega) with rfl | rfl | rfl | rfl | rfl | rfl | rfl | rfl | rfl
              · exact hu
              · exact hu
              · exact hu
              · exact hu
              · exact hu
              · exact hu
              · exact absurd rfl hne
              · cases hw.symm.trans (show Grow.waitsB _ 7 6 = true by kernel_rfl)
              · cases hw.symm.trans (show Grow.waitsB _ 8 6 = true by kernel_rfl)
            · have h1 := h.1 e
              refine h1.kept (World.grownBy_alloc V _ none) ?_
              rcases h1.2 with ⟨h2, _⟩ | ⟨g, cap, cur, h2, _⟩
              · exact .inl (by rw [h2]; rfl)
              · exact .inr (by rw [h2]; simp [Value.ownBlock])
          case s7 =>
            refine Grow.stepY_in (by rfl) (by rfl) ?_
            intro E V ec eg ef hT hd hu hy R HR
            have e30 : E (.tmp 30) = .slice a2 l2 c2 := hd 0 30 (by kernel_rfl)
            obtain ⟨q, e36, hq0, hqb, hqr⟩ := hd 6 36 (by kernel_rfl)
            have hown := (hy 7 (by decide) (.inl rfl)).1 rfl
            have hbox := (hy 8 (by decide) (.inr (by kernel_rfl))).2 rfl
            clear hd hu hy
            have hor := own_row hown
            refine runs_append (P := Tryd.prog) V (.tmp 30) (.tmp 36) 30 (by rfl) w.heap.size 5 i0 (.int .u8 0) 1 1 Tryd.underlying30 HI.out.1 HI.out.2.1 HI.out.2.2.1 HI.out.2.2.2 rfl (by decide) (.slice a2 l2 c2) _ _ e30 hown ⟨q, 0, none⟩ 1 1 [.int .u8 ((ch ^^^ pl).toNat : Int)] e36 rfl ?_ (by simp [Value.oneCell']) (by have := HLE.out; unfold maxLen; omega) (by have := HLE.out; omega) hT.1.below.size ?_
            · intro j u hj
              have hj0 : j = 0 := by
                have := (List.getElem?_eq_some_iff.1 hj).1
                simpa using this
              subst hj0
              rw [add_plain, cell_of_cells hq0]
              simpa using hj
            · intro v' W' hown' hgr
              obtain ⟨g', cap', rfl⟩ := ownsRow_succ hown'
              have hr2 : ∀ r, (Value.slice a2 l2 c2).ownBlock = some r → ∃ cs f, V.heap[r]? = some (.cells cs 5 f) := fun r e => (hor r e).2
              have hbox' : Boxed W' B7 30 (.slice a2 l2 c2) := cells_other hgr (by decide) hr2 hbox
              refine HR.out _ _ ⟨hT.1.rowed HH.out.2.1 hgr hor, cells_other hgr (by decide) hr2 hT.2.1, hT.2.2.trans (keeps_grown hgr hr2)⟩ ⟨_, _, _, rfl, hown', hbox'.not_row (by decide) hown'⟩ (fun j hj hne hw u hu => ?_) (fun j _ hne h => ⟨fun e => absurd e hne, fun _ => hbox'⟩)
              have h9 : j < 9 := hj
              rcases (show j = 0 ∨ j = 1 ∨ j = 2 ∨ j = 3 ∨ j = 4 ∨ j = 5 ∨ j = 6 ∨ j = 7 ∨ j = 8 by omega) with rfl | rfl | rfl | rfl | rfl | rfl | rfl | rfl | rfl
              · exact hu
              · exact hu
              · exact hu
              · exact hu
              · exact hu
              · exact hu
              · obtain ⟨q2, h1, h2, h3, h4⟩ := hu
                exact ⟨q2, h1, (hgr.block _ (lt_of_cells h2) h4).trans h2, h3, h4⟩
              · exact absurd rfl hne
              · cases hw.symm.trans (show Grow.waitsB _ 8 7 = true by kernel_rfl)
          case s8 =>
            refine Grow.stepY_in (by rfl) (by rfl) ?_
            intro E V ec eg ef hT hd hu hy R HR
            have e7 : E (.tmp 7) = .pointer (some ⟨B7, 0, none⟩) := hu 7 (by kernel_rfl)
            obtain ⟨g', l', c', e37, hown, hbr⟩ := hd 7 37 (by kernel_rfl)
            have hbox := (hy 8 (by decide) (.inl rfl)).2 rfl
            have hc := hbox.cell
            have hf := hbox.frozen
            rw [e37] at hown hbr
            have HT := Lib.hid hT
            have HO := Lib.hid (And.intro hown (And.intro hbr hbox))
            clear hd hu hy hT hown hbr hbox
            go_simp
            have hgb := grownBy_setCell' V B7 (.slice (some ⟨g', 0, none⟩) l' c')
            have htu : Turned (· = B7) V (V.setCell ⟨B7, 0, none⟩ (.slice (some ⟨g', 0, none⟩) l' c')) := (Turned.refl (· = B7) V).set (p := B7) rfl _ _
            refine HR.out _ _ ⟨HT.out.1.turned htu HH.out.2.1 (fun y e => by omega), (htu.block _ (lt_of_cells HT.out.2.1) (by have := HPB.out; omega)).trans HT.out.2.1, HT.out.2.2.trans (KeepsOthers.setCell _ _ _)⟩ ⟨_, HO.out.2.2.set _, ?_, ⟨_, _, _, rfl⟩⟩ (fun j hj hne hw u hu => ?_) (fun j _ hne h => ⟨fun e => ?_, fun e => absurd e hne⟩)
            · rw [HCT.out, ← List.append_assoc, List.length_append, List.length_singleton, u8s_append]
              exact HO.out.1.kept hgb (.inr HO.out.2.1.symm)
            · have h9 : j < 9 := hj
              rcases (show j = 0 ∨ j = 1 ∨ j = 2 ∨ j = 3 ∨ j = 4 ∨ j = 5 ∨ j = 6 ∨ j = 7 ∨ j = 8 by omega) with rfl | rfl | rfl | rfl | rfl | rfl | rfl | rfl | rfl
              · exact hu
              · exact hu
              · exact hu
              · exact hu
              · exact hu
              · exact hu
              · obtain ⟨q2, h1, h2, h3, h4⟩ := hu
                exact ⟨q2, h1, (hgb.block _ (lt_of_cells h2) (fun e => by injection e with e; exact h3 e)).trans h2, h3, h4⟩
              · obtain ⟨g2, l2', c2', h1, h2, h3⟩ := hu
                exact ⟨g2, l2', c2', h1, h2.kept hgb (.inr h3.symm), h3⟩
              · exact absurd rfl hne
            · exact (h.1 e).kept hgb (.inr (HO.out.2.2.not_row (by decide) (h.1 e)).symm)
        case gfin =>
          intro V hT
          refine Grow.fin_dst (by rfl) ?_
          rintro _ rfl
          refine Grow.fin_dst (by rfl) ?_
          rintro _ rfl
          refine Grow.fin_dst (by rfl) ?_
          rintro _ rfl
          refine Grow.fin_dst (by rfl) ?_
          rintro _ rfl
          refine Grow.fin_dst (by rfl) ?_
          rintro _ rfl
          refine Grow.fin_dst (by rfl) ?_
          rintro _ rfl
          refine Grow.fin_dst (by rfl) ?_
          rintro _ ⟨q, rfl, _⟩
          refine Grow.fin_dst (by rfl) ?_
          rintro _ ⟨g', l', c', rfl, _⟩
          refine Grow.fin_told (by rfl) ?_
          rintro ⟨_, u, hO⟩
          simp only [Act.put, List.setIfInBounds_toArray, List.set_cons_zero, List.set_cons_succ]
          refine Grow.fin_end ?_
          have HF := Lib.hid (And.intro hT hO)
          clear hT hO
          gi_wp2
          go_roundw
          case rel => exact ⟨m + 1, by omega, by go_num, HF.out.1.1, ⟨u, HF.out.2⟩, HF.out.1.2.1, HF.out.1.2.2⟩
          case measure => simp [intOf]; omega
      · obtain rfl : m = M := by omega
        have hco : CO.take CO.length = CO := List.take_length
        rw [HML.out.2] at hco
        have HX2 : Hid (OBase w B7 KS NS A n c b pre.length wr ∧ ORow w B7 OU2 v2 wr ∧ KeepsOthers W wr) := Lib.hid ⟨HX.out.1, by rw [HOS.out]; have := HX.out.2.1; rw [hco] at this; exact this, HX.out.2.2.2⟩
        have hnb : Boxed wr (B7 + 1) 25 (.int .u32 (nv Y)) := by rw [← HYE.out]; exact HX.out.1.num
        have hc := hnb.cell
        have hf := hnb.frozen
        have hadd : (nv Y + 1) % 4294967296 = nv (Y + 1#32) := W32.add_ Y 1#32
        have HNB := Lib.hid hnb
        clear HX hco hnb
        gi_wp2
        rw [HNUM.out]
        have hnx := HX2.out.1.next HH.out.2.1 (by omega)
        refine ⟨(HX2.out.2.2.trans (KeepsOthers.setCell _ _ _)).from _, ⟨hnx.bs.trans HB.out.bs.symm, hnx.bn.trans HB.out.bn.symm⟩, by rw [List.length_append]; exact hnx, ⟨v2, by rw [← HU2.out]; exact HX2.out.2.1.other (by omega) HNB.out (by decide) _⟩⟩
  case done =>
    rintro D xs W hD rfl ⟨hbs, v, hrw⟩ hK
    have hall := outp_all k no b
    rw [HH.out.1.len] at hall
    rw [hall] at hrw
    obtain ⟨a', l', c', rfl⟩ := hrw.isl
    have hc := hrw.box.cell
    have HF := Lib.hid (And.intro hbs hrw)
    clear hbs hrw hall
    gi_wp2
    refine ⟨by simp, .inl ⟨_, _, rfl, run_takeDeferred hK, ?_⟩⟩
    have hown := ownsRow_putObj HF.out.2.own (.deferred none) hK rfl
    rw [overL_length, HH.out.1.len] at hown
    obtain ⟨A', c2, e1, hby⟩ := own_byt hown
    exact ⟨_, results_tmp rfl _ _ _, A', c2, by rw [e1]; rfl, hby, HF.out.1.below.trans (belowK_b (w := w) (Nat.le_refl _) W D _ _ (by omega) hK rfl rfl)⟩
  case stop =>
    rintro D c pre W _ _ h _
    exact h.elim
end Go.Proofs.YtmgglcllfpikcaaDoor
