/-
  The law DedupDrops.
  The statement DedupDrops, proved: for every row of ids, every row of bytes and every byte the law returns true. No condition.
-/
import Derived.Test.YtefhdeipeflfdaaPkDrops01
import Derived.Test.YtefhdeipeflfdaaPk11
import Derived.Test.YtefhdeipeflfdaaPk03
import Derived.Test.YtefhdeipeflfdaaPk02
/-! The law DedupDrops. -/
namespace Go.Proofs.Ytefhdeipeflfdaa
open Go.RowKit Go.Maps Codec

set_option maxHeartbeats 16000000 in
set_option maxRecDepth 100000 in
theorem law_ddrops {w : World} {S : Nat → Prop} {A : Option Addr} {n c : Nat} {l : List (List UInt8)} (hl : Ids w S A n c l) {SB : Nat → Prop} {Ab : Option Addr} {nbs cb : Nat} {bs : List UInt8} (hbs : Byt w SB Ab nbs cb bs) {d0 : Int} (hd0 : (Lit.int .u8 d0).wf = true) :
    Calls Try.prog 6 #[.slice A n c, .slice Ab nbs cb, .int .u8 d0] w fun e w' => e = .returned (.bool true) ∧ Below w.heap.size w w' := by
  have haw := dawake_true w
  obtain ⟨dd, rfl⟩ : ∃ dd : UInt8, d0 = (dd.toNat : Int) := by
    have hm' : (decide (IntKind.u8.min ≤ d0) && decide (d0 ≤ IntKind.u8.max)) = true := hd0
    rw [show IntKind.u8.min = 0 by decide, show IntKind.u8.max = 255 by decide] at hm'
    simp at hm'
    refine ⟨UInt8.ofNat d0.toNat, ?_⟩
    rw [UInt8.toNat_ofNat']
    omega
  have hdl := dd.toNat_lt
  obtain ⟨d, hd⟩ : ∃ d, d = dd.toNat % 4 := ⟨_, rfl⟩
  have hand := and3 dd
  rw [← hd] at hand
  obtain ⟨DX, hDX⟩ : ∃ DX, DX = dd.toNat := ⟨_, rfl⟩
  rw [← hDX] at hand ⊢
  have HL := Lib.hid (And.intro hl (And.intro hl.len (And.intro hbs (And.intro hbs.len (And.intro (show d < 4 by omega) hand)))))
  clear hl hbs hd0 hd hdl hand hDX
  by_cases hbig : n > 30
  · have hb' : (n : Int) > 30 := by omega
    clear hbig
    go_enter Try.func6, Try.ntmps6
    go_wp2_with (go_at_call 8; refine haw.mono ?_; clear haw; rintro _ w1 ⟨rfl, hb1⟩)
    go_ret
    exact ⟨rfl, hb1⟩
  by_cases hsh : nbs < n
  · have hb' : ¬ (n : Int) > 30 := by omega
    have hs' : (nbs : Int) < (n : Int) := by omega
    clear hbig hsh
    go_enter Try.func6, Try.ntmps6
    go_wp2_with (go_at_call 8; refine haw.mono ?_; clear haw; rintro _ w1 ⟨rfl, hb1⟩)
    go_ret
    exact ⟨rfl, hb1⟩
  have hb' : ¬ (n : Int) > 30 := by omega
  have hs' : ¬ (nbs : Int) < (n : Int) := by omega
  have HN : Hid (n ≤ 30 ∧ n ≤ nbs) := Lib.hid (by omega)
  clear hbig hsh
  obtain ⟨id, hid⟩ : ∃ id : Nat → List UInt8, id = fun i => l[i]?.getD [] := ⟨_, rfl⟩
  obtain ⟨kk, hkk⟩ : ∃ kk : Nat → Nat, kk = fun i => (bs[i]?.getD 0).toNat % 4 := ⟨_, rfl⟩
  have HF : Hid ((∀ i, i < n → (id i).length = 32) ∧ ∀ i, kk i < 4) := Lib.hid ⟨fun i hi => by
      have hil : i < l.length := by rw [HL.out.2.1]; exact hi
      rw [hid]
      show (l[i]?.getD []).length = 32
      rw [List.getElem?_eq_getElem hil]
      exact HL.out.1.each _ (List.getElem_mem hil), fun i => by rw [hkk]; exact Nat.mod_lt _ (by omega)⟩
  have HI := Lib.hid (And.intro hid hkk)
  clear hid hkk
  have hm4 := make_4
  go_enter Try.func6, Try.ntmps6
  go_upto_region 10 with (first
    | (go_at_call 8; refine haw.mono ?_; clear haw; rintro _ w1 ⟨rfl, hb1⟩; have H1 := Lib.hid hb1; have hnw := ixnew_any w1; clear hb1)
    | (go_at_call 9; refine hnw.mono ?_; clear hnw; rintro _ w2 ⟨p, b, rfl, hi2, hlp, hlb, hb2⟩; have hm5 := hm4 w2))
  obtain ⟨nb, hnb⟩ : ∃ nb, nb = w2.heap.size := ⟨_, rfl⟩
  obtain ⟨B, hB⟩ : ∃ B, B = w2.heap.size + 1 := ⟨_, rfl⟩
  have H3 : Hid (DlS w id kk B p b nb 0 (.slice none 0 0) (w2.alloc (.cells (ddV [0, 0, 0, 0]).toArray 3))) := by
    have h1 := H1.out.size
    have h2 := hb2.size
    have h3 := hi2.map.lt
    have h4 := lt_of_cells hi2.box
    have hbA : Below w2.heap.size w2 (w2.alloc (.cells (ddV [0, 0, 0, 0]).toArray 3)) := (Below.refl _ _).alloc (Nat.le_refl _) _
    have hbW : Below w.heap.size w (w2.alloc (.cells (ddV [0, 0, 0, 0]).toArray 3)) := (H1.out.trans (hb2.mono h1)).alloc (by omega) _
    exact Lib.hid ⟨hi2.below hbA, by rw [hnb]; exact heap_alloc_new _ _, World.ownsRow_nil _ _ _ _, ⟨by omega, by omega, by omega, by omega, by omega, by omega, by omega, by simp; omega⟩, hbW⟩
  clear hi2 hlp hlb hb2 H1 hb' hs' hm4 hm5 hB
  rw [← hnb]
  generalize w2.alloc (.cells (ddV [0, 0, 0, 0]).toArray 3) = w3 at H3 ⊢
  clear hnb
  go_loopw [10, 11, 12] (fun v i _ wr => DlR w l id kk B p b nb v i wr) (fun _ i _ _ => n - (intOf i).toNat)
  case atStart => exact ⟨0, Nat.zero_le _, rfl, H3.out⟩
  case round =>
    obtain ⟨j, hj, rfl, hds⟩ := hrel
    obtain ⟨Av, cv, rfl⟩ := ddslice hds.ow
    by_cases hlt : j < n
    · have hlt' : (j : Int) < (n : Int) := by omega
      have hjl : j < l.length := by rw [HL.out.2.1]; exact hlt
      obtain ⟨q, off, rfl, hql, h32, hc⟩ := HL.out.1.at_ hlt
      obtain ⟨q2, off2, rfl, _, hql2, hc2⟩ := HL.out.2.2.1.row (by have := HN.out; omega)
      have hjb : (j : Int) < (nbs : Int) := by have := HN.out; omega
      obtain ⟨k, hk⟩ : ∃ k, k = id j := ⟨_, rfl⟩
      have hkl : l[j]?.getD [] = k := by rw [hk, HI.out.1]
      rw [hkl] at h32 hc
      have hand := and3 (bs[j]?.getD 0)
      have hx8 := (bs[j]?.getD 0).toNat_lt
      have hxk : kk j = (bs[j]?.getD 0).toNat % 4 := by rw [HI.out.2]
      have hcx := (hds.bl.cell (p := ⟨q2, off2 + j, none⟩) hql2).trans (hc2 j (by have := HN.out; omega))
      obtain ⟨X, hX⟩ : ∃ X, X = (bs[j]?.getD 0).toNat := ⟨_, rfl⟩
      rw [← hxk, ← hX] at hand
      rw [← hX] at hcx hx8
      have hm4 := HF.out.2 j
      obtain ⟨m, hm⟩ : ∃ m, m = kk j := ⟨_, rfl⟩
      rw [← hm] at hand hm4
      have hmw := IntWalk.i64_in (m : Int) (by omega)
      have hmw8 : IntKind.u8.wrap (m : Int) = (m : Int) := by unfold IntKind.wrap; simp [IntKind.signed, IntKind.bits]; omega
      obtain ⟨KS, hKS⟩ : ∃ KS, KS = row8 k := ⟨_, rfl⟩
      obtain ⟨KP, hKP⟩ : ∃ KP, KP = row8 (pkI m) := ⟨_, rfl⟩
      obtain ⟨PS, hPS⟩ : ∃ PS, PS = plC (pkI m, (j : Int)) := ⟨_, rfl⟩
      have HC1 : Hid (∀ u v, KS[u]? = some v → wr.cell? ((⟨q, off + j * 32, none⟩ : Addr).add u) = some v) := Lib.hid fun u v hu => by
        have h := hc u v (by rw [← hKS]; exact hu)
        rw [add_plain] at h ⊢
        exact (hds.bl.cell (p := ⟨q, _, none⟩) hql).trans h
      have HB : Hid (KS.size = 32 ∧ Try.prog.built 31 [(0, .int .u8 (m : Int))] = some KP ∧ Try.prog.built 37 [(0, .agg KP), (1, .int .i64 (j : Int))] = some PS) := Lib.hid
        ⟨by rw [hKS, row8_size, h32], by rw [hKP]; exact built_kD hm4, by rw [hKP, hPS]; exact build_pl (pkI_len m) _⟩
      have hle : (dS id kk j).1.length ≤ 30 := by
        have h1 := dS_len (id := id) (kk := kk) j
        have h2 := (dS_inv (id := id) (kk := kk) j).2.2.2
        have := HN.out
        omega
      have had := ixadd_any hds.ix (by omega) (k := k) h32 (v := (pkI m, (j : Int))) (pkI_len m)
      rw [← hKS, show encP (pkI m, (j : Int)) = .agg PS by rw [hPS]; rfl] at had
      have hjj := IntWalk.i64_in ((j : Int) + 1) (by have := HN.out; omega)
      have HJ : Hid (j < n ∧ j + 1 ≤ l.length ∧ m < 4 ∧ m = kk j ∧ k = id j ∧ (dS id kk j).2.length ≤ 30) := Lib.hid ⟨hlt, hjl, hm4, hm, hk, by rw [← dS_len]; exact hle⟩
      have HDS := Lib.hid hds
      rcases hZ : addB (dS id kk j).1 k (pkI m, (j : Int)) with _ | _
      · rw [hZ] at had
        have HZ := Lib.hid (dS_no (id := id) (kk := kk) (j := j) (by rw [← hk, ← hm]; exact hZ))
        clear hZ hPS hKP hKS hm hX hx8 hxk hkl hk hc hc2 h32 hql hql2 hjl hlt hj hds hle hm4
        go_wp2_with (first
          | (refine wpList_load_at (by rfl) 31 (.tmp 50) (by rfl) ⟨q, off + j * 32, none⟩ (by rfl) KS _ HC1.out Try.underlying31 (by rfl) (by rw [HB.out.1]; exact id_info) ?_)
          | (refine wpList_built_on (by rfl) 31 #[(0, .tmp 53)] (by rfl) [(0, .int .u8 (m : Int))] (by simp [Act.eval]) KP HB.out.2.1 ?_)
          | (refine wpList_built_on (by rfl) 37 #[(0, .tmp 54), (1, .tmp 55)] (by rfl) [(0, .agg KP), (1, .int .i64 (j : Int))] (two_parts _ _ _ _ _ rfl rfl) PS HB.out.2.2 ?_)
          | (go_at_call 13; refine had.mono ?_; clear had; rintro _ w7 ⟨rfl, hi7, ht7⟩
             have H7 := Lib.hid (dl_add HDS.out hi7 ht7)
             clear hi7 ht7))
        go_roundw
        case rel =>
          refine ⟨j + 1, HJ.out.2.1, by simp, ?_⟩
          have h7 := H7.out
          rw [HJ.out.2.2.2.1, HJ.out.2.2.2.2.1] at h7
          exact h7.no HZ.out
        case measure => have := HJ.out.1; simp only [intOf]; omega
      · rw [hZ] at had
        have HZ := Lib.hid (dS_yes (id := id) (kk := kk) (j := j) (by rw [← hk, ← hm]; exact hZ))
        have hmlt : (m : Int) < 4 := by omega
        have hCw := IntWalk.i64_in ((cK kk (dS id kk j).2 m : Int) + 1) (by have h1 : cK kk (dS id kk j).2 m ≤ (dS id kk j).2.length := List.countP_le_length; have := HJ.out.2.2.2.2.2; omega)
        clear hZ hPS hKP hKS hm hX hx8 hxk hkl hk hc hc2 h32 hql hql2 hjl hlt hj hds hle hm4
        go_wp2_with (first
          | (refine wpList_load_at (by rfl) 31 (.tmp 50) (by rfl) ⟨q, off + j * 32, none⟩ (by rfl) KS _ HC1.out Try.underlying31 (by rfl) (by rw [HB.out.1]; exact id_info) ?_)
          | (refine wpList_built_on (by rfl) 31 #[(0, .tmp 53)] (by rfl) [(0, .int .u8 (m : Int))] (by simp [Act.eval]) KP HB.out.2.1 ?_)
          | (refine wpList_built_on (by rfl) 37 #[(0, .tmp 54), (1, .tmp 55)] (by rfl) [(0, .agg KP), (1, .int .i64 (j : Int))] (two_parts _ _ _ _ _ rfl rfl) PS HB.out.2.2 ?_)
          | (go_at_call 13; refine had.mono ?_; clear had; rintro _ w7 ⟨rfl, hi7, ht7⟩
             have H7 := Lib.hid (dl_add HDS.out hi7 ht7)
             have hc7 := c4_cell H7.out.nr HJ.out.2.2.1
             have hf7 := free_of_cells H7.out.nr m
             obtain ⟨A8, c8, w8, hap, H8⟩ := dl_push H7.out HJ.out.2.2.1 j HJ.out.2.2.2.2.2
             have H8 := Lib.hid H8
             clear hi7 ht7)
          | (at_builtin; refine wpList_app (by rfl) _ _ 57 (by rfl) (by rfl) (by rfl) hap ?_))
        go_roundw
        case rel => exact ⟨j + 1, HJ.out.2.1, by simp, by
          have h8 := H8.out HJ.out.2.2.2.1
          rw [HJ.out.2.2.2.1, HJ.out.2.2.2.2.1] at h8
          have h9 := h8.yes HZ.out
          exact h9⟩
        case measure => have := HJ.out.1; simp only [intOf]; omega
    · obtain rfl : j = n := by have := HL.out.2.1; omega
      have hlt' : ¬ (j : Int) < (j : Int) := by omega
      have hok : OkT (dS id kk j).1 := dS_ok (fun i hi => HF.out.1 i hi) (by have := HN.out; omega)
      have hln : (dS id kk j).2.length ≤ 30 := by have h1 := (dS_inv (id := id) (kk := kk) j).2.2.2; have := HN.out; omega
      have hpk := ixpacks_any hds.ix (by rw [dS_len]; omega)
      obtain ⟨M, hM⟩ : ∃ M, M = (packT (dS id kk j).1).length := ⟨_, rfl⟩
      have hMl : M ≤ 30 := by rw [hM]; have h1 := packT_len (dS id kk j).1; rw [dS_len] at h1; omega
      obtain ⟨K, hK⟩ : ∃ K, K = (dS id kk j).2.length := ⟨_, rfl⟩
      rw [← hM] at hpk
      rw [← hK] at hln ⊢
      have HX := Lib.hid (And.intro hds (And.intro hok (And.intro hln (And.intro hMl (And.intro hM hK)))))
      have hMM : ((M : Int) != (M : Int)) = false := by simp
      clear hds hok hln hMl hM hK hj hlt
      go_upto_region 20 with (go_at_call 21; refine hpk.mono ?_; clear hpk; rintro _ w6 ⟨A6, c6, A7, c7, rfl, hid6, hin6, hb6⟩)
      have H6 : Hid (Ids w6 (wr.heap.size ≤ ·) A6 M c6 ((packT (dS id kk j).1).map (·.1)) ∧ Ints .i64 w6 (wr.heap.size ≤ ·) A7 M c7 (cntI (packT (dS id kk j).1)) ∧ Below wr.heap.size wr w6) := Lib.hid ⟨hid6, hin6, hb6⟩
      clear hid6 hin6 hb6 hMM
      go_loopw [15] (fun u wv => ∃ i k : Nat, i ≤ M ∧ u = .int .i64 (i : Int) ∧ wv = w6.drewN k) (fun u _ => M - (intOf u).toNat)
      case atStart => exact ⟨0, 0, Nat.zero_le _, rfl, rfl⟩
      case round =>
        obtain ⟨i, k, hi, rfl, rfl⟩ := hrel
        by_cases hlt2 : i < M
        · have hlt2' : (i : Int) < (M : Int) := by omega
          obtain ⟨pp, hpp⟩ : ∃ pp, (packT (dS id kk j).1)[i]? = some pp := ⟨_, List.getElem?_eq_getElem (by have := HX.out.2.2.2.2.1; omega)⟩
          obtain ⟨κ, h4, e1, e2, e3⟩ := dS_pack (id := id) HF.out.2 j (List.mem_of_getElem? hpp)
          obtain ⟨b8, off8, rfl, -, -, hc8⟩ := H6.out.1.at_ hlt2
          obtain ⟨b9, off9, rfl, -, -, hc9⟩ := H6.out.2.1.row (by omega)
          have hk8 : ((packT (dS id kk j).1).map (·.1))[i]?.getD [] = pkI κ := by rw [List.getElem?_map, hpp]; exact e1
          rw [hk8] at hc8
          have hκ : (pkI κ)[0]? = some (UInt8.ofNat κ) := rfl
          have hc80 : w6.cell? ⟨b8, off8 + i * 32, none⟩ = some (.int .u8 (κ : Int)) := by
            have h := hc8 0 (.int .u8 (κ : Int)) (by
              unfold row8 u8s
              rw [List.getElem?_toArray, List.getElem?_map, hκ]
              simp [Nat.mod_eq_of_lt (show κ < 256 by omega)])
            rwa [add_plain, Nat.add_zero] at h
          have hc90 : w6.cell? ⟨b9, off9 + i, none⟩ = some (.int .i64 (cK kk (dS id kk j).2 κ : Int)) := by
            rw [hc9 i hlt2, cntI, List.getElem?_map, hpp, Option.map_some, Option.getD_some, e2]
          have hcn := (H6.out.2.2.cell (p := ⟨nb, κ, none⟩) (lt_of_cells HX.out.1.nr)).trans (c4_cell HX.out.1.nr h4)
          have hand : bits BinOp.and IntKind.u8 (κ : Int) 3 = (κ : Int) := by
            have h := and3 (UInt8.ofNat κ)
            rw [UInt8.toNat_ofNat', Nat.mod_eq_of_lt (show κ < 2 ^ 8 by omega), Nat.mod_eq_of_lt h4] at h
            exact h
          obtain ⟨C, hC⟩ : ∃ C, C = cK kk (dS id kk j).2 κ := ⟨_, rfl⟩
          rw [← hC] at hc90 hcn e2
          have hκw := IntWalk.i64_in (κ : Int) (by omega)
          have hκ4 : (κ : Int) < 4 := by omega
          have hd1 : ∀ k, (w6.drewN k).cell? ⟨b8, off8 + i * 32, none⟩ = some (.int .u8 (κ : Int)) := fun _ => hc80
          have hd2 : ∀ k, (w6.drewN k).cell? ⟨b9, off9 + i, none⟩ = some (.int .i64 (C : Int)) := fun _ => hc90
          have hd3 : ∀ k, (w6.drewN k).cell? ⟨nb, κ, none⟩ = some (.int .i64 (C : Int)) := fun _ => hcn
          have hnn : ((C : Int) != (C : Int)) = false := by simp
          have hn0 : ((C : Int) == 0) = false := by simp; omega
          have hii := IntWalk.i64_in ((i : Int) + 1) (by have := HX.out.2.2.2.1; omega)
          have HI := Lib.hid hlt2
          clear hi hpp h4 e1 e2 e3 hc8 hc9 hk8 hκ hc80 hc90 hcn hC hlt2
          go_upto_region 22 with fail
          go_quiet (fail)
          go_wp2_with fail
          exact ⟨⟨i + 1, _, by have := HI.out; omega, by simp, rfl⟩, by have := HI.out; simp only [intOf]; omega⟩
        · obtain rfl : i = M := by omega
          have hlt2' : ¬ (i : Int) < (i : Int) := by omega
          have hdand := HL.out.2.2.2.2.2
          have hdw := IntWalk.i64_in (d : Int) (by have := HL.out.2.2.2.2.1; omega)
          have hdw8 : IntKind.u8.wrap (d : Int) = (d : Int) := by have := HL.out.2.2.2.2.1; unfold IntKind.wrap; simp [IntKind.signed, IntKind.bits]; omega
          go_upto_region 25 with fail
          clear hdand hdw
          obtain ⟨C, hC⟩ : ∃ C, C = cK kk (dS id kk j).2 d := ⟨_, rfl⟩
          have hd4 := HL.out.2.2.2.2.1
          have hdi : (d : Int) < 4 := by omega
          have hcnt := dS_cnt (id := id) HF.out.2 j hd4
          rw [← hC] at hcnt
          have hdt := dropT_cnt (dS id kk j).1 (pkI d)
          rw [hcnt] at hdt
          obtain ⟨t', ht'⟩ : ∃ t', t' = dropT (dS id kk j).1 (pkI d) := ⟨_, rfl⟩
          rw [← ht'] at hdt
          have hlt1 : (dS id kk j).1.length = K := by rw [dS_len]; exact HX.out.2.2.2.2.2.symm
          obtain ⟨KP, hKP⟩ : ∃ KP, KP = row8 (pkI d) := ⟨_, rfl⟩
          have hCK : C ≤ K := by rw [hC, HX.out.2.2.2.2.2]; exact List.countP_le_length
          have hix6 : Ix (w6.drewN k).drew p b (dS id kk j).1 := HX.out.1.ix.below (below_drew (below_drewN H6.out.2.2 k))
          have hdr := ixdrop_any hix6 (by rw [hlt1]; have := HX.out.2.2.1; omega) (pk := pkI d) (pkI_len d)
          rw [← ht', ← hKP, hdt.1] at hdr
          have hdr2 : ∀ W, Ix W p b t' → Calls Try.prog 10 #[.pointer (some ⟨p, 0, none⟩), .agg KP] W (IxP W p b t' (.int .i64 0)) := fun W h => by
            have h2 := ixdrop_any h (by rw [hdt.2, hlt1]; have := HX.out.2.2.1; omega) (pk := pkI d) (pkI_len d)
            rw [show dropT t' (pkI d) = t' by rw [ht', dropT_two], ← hKP, Nat.sub_self] at h2
            exact h2
          have HB : Hid (Try.prog.built 31 [(0, .int .u8 (d : Int))] = some KP) := Lib.hid (by rw [hKP]; exact built_kD hd4)
          have hlt2 : t'.length = K - C := by rw [hdt.2, hlt1]
          have hids : ∀ W, Ix W p b t' → Calls Try.prog 22 #[.pointer (some ⟨p, 0, none⟩)] W fun e w' => ∃ A c, e = .returned (.slice A (K - C) c) ∧ Below W.heap.size W w' := fun W h => by
            refine (ixids_any h (by rw [hlt2]; have := HX.out.2.2.1; omega)).mono ?_
            rintro _ w' ⟨A, c, rfl, -, hb⟩
            exact ⟨A, c, by rw [hlt2], hb⟩
          have HDR := Lib.hid (And.intro hdr2 hids)
          have hcc : ((w6.drewN k).drew).cell? ⟨nb, d, none⟩ = some (.int .i64 (C : Int)) := by
            rw [hC]
            exact (H6.out.2.2.cell (p := ⟨nb, d, none⟩) (lt_of_cells HX.out.1.nr)).trans (c4_cell HX.out.1.nr hd4)
          have HT : Hid (t' = dropT (dS id kk j).1 (pkI d) ∧ C ≤ K ∧ Below wr.heap.size wr (w6.drewN k).drew) := Lib.hid ⟨ht', hCK, below_drew (below_drewN H6.out.2.2 k)⟩
          have hsub := IntWalk.i64_in ((K : Int) - (C : Int)) (by have := HX.out.2.2.1; omega)
          have hsn : ((K - C : Nat) : Int) = (K : Int) - (C : Int) := by omega
          have hnC : ((C : Int) != (C : Int)) = false := by simp
          have hnD : (((K : Int) - (C : Int)) != ((K : Int) - (C : Int))) = false := by simp
          have HCW := Lib.hid (And.intro hsub hsn)
          clear ht' hC hcnt hdt hlt1 hKP hCK hix6 hdr2 hids hlt2 hd4 hi hsub hsn
          refine wp_region_plan (fun W : World => W.cell? ⟨nb, d, none⟩ = some (.int .i64 (C : Int))) [([0, 1, 2, 3, 5, 6, 7, 8], 4), ([9, 10, 11, 12, 13, 14], 15), ([16, 17, 18, 19, 22, 23, 24, 25, 26, 27, 28], 20)] [21, 29, 30] (by kernel_rfl) (by kernel_rfl) (fun _ _ d _ _ h => by cases d <;> exact h) hcc ?_
          refine plan_eff ?_
          refine seg_read ?v1 (by rfl) (by rfl) ?h1 ?_
          case h1 => intro W hW; go_simp; with_reducible rfl
          try simp only [Act.put, List.setIfInBounds_toArray, List.set_cons_zero, List.set_cons_succ]
          refine seg_read ?v2 (by rfl) (by rfl) ?h2 ?_
          case h2 => intro W hW; go_simp; with_reducible rfl
          try simp only [Act.put, List.setIfInBounds_toArray, List.set_cons_zero, List.set_cons_succ]
          refine seg_read ?v3 (by rfl) (by rfl) ?h3 ?_
          case h3 => intro W hW; go_simp; with_reducible rfl
          try simp only [Act.put, List.setIfInBounds_toArray, List.set_cons_zero, List.set_cons_succ]
          refine seg_read (.agg KP) (by rfl) (by rfl) (fun W hW => exec_build1 31 (.tmp 111) (by rfl) (.int .u8 (d : Int)) (by rfl) KP HB.out) ?_
          try simp only [Act.put, List.setIfInBounds_toArray, List.set_cons_zero, List.set_cons_succ]
          refine seg_read ?v4 (by rfl) (by rfl) ?h4 ?_
          case h4 => intro W hW; go_simp; with_reducible rfl
          try simp only [Act.put, List.setIfInBounds_toArray, List.set_cons_zero, List.set_cons_succ]
          refine seg_read ?v5 (by rfl) (by rfl) ?h5 ?_
          case h5 => intro W hW; go_simp; with_reducible rfl
          try simp only [Act.put, List.setIfInBounds_toArray, List.set_cons_zero, List.set_cons_succ]
          refine seg_read ?v6 (by rfl) (by rfl) ?h6 ?_
          case h6 => intro W hW; go_simp; with_reducible rfl
          try simp only [Act.put, List.setIfInBounds_toArray, List.set_cons_zero, List.set_cons_succ]
          refine seg_read ?v7 (by rfl) (by rfl) ?h7 ?_
          case h7 => intro W hW; have hcw := hW; go_simp; with_reducible rfl
          try simp only [Act.put, List.setIfInBounds_toArray, List.set_cons_zero, List.set_cons_succ]
          refine seg_nil ?_
          refine eff_step (by rfl) (fun K hK => ?_)
          go_simp
          refine hdr.mono ?_
          clear hdr
          rintro _ w7 ⟨rfl, hi7, ht7⟩
          have hlo := HX.out.1.lo
          have hc7 : w7.cell? ⟨nb, d, none⟩ = some (.int .i64 (C : Int)) := by
            rw [← hcc]
            exact World.cell?_of_block (ht7.block nb (lt_of_cells ((HT.out.2.2.block _ (lt_of_cells HX.out.1.nr)).trans HX.out.1.nr)) (by show ¬ nb = b; omega))
          have hdr2 := HDR.out.1 w7 hi7
          have H7 := Lib.hid (And.intro hi7 ht7)
          clear hi7 ht7 hlo
          refine hK _ _ ⟨fun W : World => W.cell? ⟨nb, d, none⟩ = some (.int .i64 (C : Int)), hc7, fun _ h => h, ?_⟩
          clear hK K
          refine plan_eff ?_
          refine seg_read ?v8 (by rfl) (by rfl) ?h8 ?_
          case h8 => intro W hW; go_simp; with_reducible rfl
          try simp only [Act.put, List.setIfInBounds_toArray, List.set_cons_zero, List.set_cons_succ]
          refine seg_read ?v9 (by rfl) (by rfl) ?h9 ?_
          case h9 => intro W hW; go_simp; with_reducible rfl
          try simp only [Act.put, List.setIfInBounds_toArray, List.set_cons_zero, List.set_cons_succ]
          refine seg_read ?v10 (by rfl) (by rfl) ?h10 ?_
          case h10 => intro W hW; go_simp; with_reducible rfl
          try simp only [Act.put, List.setIfInBounds_toArray, List.set_cons_zero, List.set_cons_succ]
          refine seg_read ?v11 (by rfl) (by rfl) ?h11 ?_
          case h11 => intro W hW; go_simp; with_reducible rfl
          try simp only [Act.put, List.setIfInBounds_toArray, List.set_cons_zero, List.set_cons_succ]
          refine seg_read ?v12 (by rfl) (by rfl) ?h12 ?_
          case h12 => intro W hW; go_simp; with_reducible rfl
          try simp only [Act.put, List.setIfInBounds_toArray, List.set_cons_zero, List.set_cons_succ]
          refine seg_read (.agg KP) (by rfl) (by rfl) (fun W hW => exec_build1 31 (.tmp 122) (by rfl) (.int .u8 (d : Int)) (by rfl) KP HB.out) ?_
          try simp only [Act.put, List.setIfInBounds_toArray, List.set_cons_zero, List.set_cons_succ]
          refine seg_nil ?_
          refine eff_step (by rfl) (fun K hK => ?_)
          go_simp
          refine hdr2.mono ?_
          clear hdr2
          rintro _ w8 ⟨rfl, hi8, ht8⟩
          have hlo := HX.out.1.lo
          have hc8 : w8.cell? ⟨nb, d, none⟩ = some (.int .i64 (C : Int)) := by
            rw [← hc7]
            exact World.cell?_of_block (ht8.block nb (by have h1 := lt_of_cells ((HT.out.2.2.block _ (lt_of_cells HX.out.1.nr)).trans HX.out.1.nr); have h2 := H7.out.2.size; omega) (by show ¬ nb = b; omega))
          have hids := HDR.out.2 w8 hi8
          have H8 := Lib.hid (And.intro hi8 ht8)
          clear hi8 ht8 hlo
          refine hK _ _ ⟨fun W : World => W.cell? ⟨nb, d, none⟩ = some (.int .i64 (C : Int)), hc8, fun _ h => h, ?_⟩
          clear hK K
          refine plan_eff ?_
          refine seg_read ?v13 (by rfl) (by rfl) ?h13 ?_
          case h13 => intro W hW; go_simp; with_reducible rfl
          try simp only [Act.put, List.setIfInBounds_toArray, List.set_cons_zero, List.set_cons_succ]
          refine seg_read ?v14 (by rfl) (by rfl) ?h14 ?_
          case h14 => intro W hW; go_simp; with_reducible rfl
          try simp only [Act.put, List.setIfInBounds_toArray, List.set_cons_zero, List.set_cons_succ]
          refine seg_read ?v15 (by rfl) (by rfl) ?h15 ?_
          case h15 => intro W hW; go_simp; with_reducible rfl
          try simp only [Act.put, List.setIfInBounds_toArray, List.set_cons_zero, List.set_cons_succ]
          refine seg_read ?v16 (by rfl) (by rfl) ?h16 ?_
          case h16 => intro W hW; go_simp; with_reducible rfl
          try simp only [Act.put, List.setIfInBounds_toArray, List.set_cons_zero, List.set_cons_succ]
          refine seg_read ?v17 (by rfl) (by rfl) ?h17 ?_
          case h17 => intro W hW; go_simp; with_reducible rfl
          try simp only [Act.put, List.setIfInBounds_toArray, List.set_cons_zero, List.set_cons_succ]
          refine seg_read ?v18 (by rfl) (by rfl) ?h18 ?_
          case h18 => intro W hW; go_simp; with_reducible rfl
          try simp only [Act.put, List.setIfInBounds_toArray, List.set_cons_zero, List.set_cons_succ]
          refine seg_read ?v19 (by rfl) (by rfl) ?h19 ?_
          case h19 => intro W hW; go_simp; with_reducible rfl
          try simp only [Act.put, List.setIfInBounds_toArray, List.set_cons_zero, List.set_cons_succ]
          refine seg_read ?v20 (by rfl) (by rfl) ?h20 ?_
          case h20 => intro W hW; go_simp; with_reducible rfl
          try simp only [Act.put, List.setIfInBounds_toArray, List.set_cons_zero, List.set_cons_succ]
          refine seg_read ?v21 (by rfl) (by rfl) ?h21 ?_
          case h21 => intro W hW; go_simp; with_reducible rfl
          try simp only [Act.put, List.setIfInBounds_toArray, List.set_cons_zero, List.set_cons_succ]
          refine seg_read ?v22 (by rfl) (by rfl) ?h22 ?_
          case h22 => intro W hW; have hcw := hW; go_simp; with_reducible rfl
          try simp only [Act.put, List.setIfInBounds_toArray, List.set_cons_zero, List.set_cons_succ]
          refine seg_read ?v23 (by rfl) (by rfl) ?h23 ?_
          case h23 => intro W hW; have hsub := HCW.out.1; go_simp; with_reducible rfl
          try simp only [Act.put, List.setIfInBounds_toArray, List.set_cons_zero, List.set_cons_succ]
          refine seg_nil ?_
          refine eff_step (by rfl) (fun K hK => ?_)
          go_simp
          refine hids.mono ?_
          clear hids
          rintro _ w9 ⟨A9, c9, rfl, hb9⟩
          have hc9 : w9.cell? ⟨nb, d, none⟩ = some (.int .i64 (C : Int)) := (hb9.cell (p := ⟨nb, d, none⟩) (World.block_lt_of_cell? _ _ hc8)).trans hc8
          have H9 := Lib.hid hb9
          clear hb9
          refine hK _ _ ⟨fun W : World => W.cell? ⟨nb, d, none⟩ = some (.int .i64 (C : Int)), hc9, fun _ h => h, ?_⟩
          clear hK K
          refine plan_last ?_
          refine seg_read ?v24 (by rfl) (by rfl) ?h24 ?_
          case h24 => intro W hW; go_simp; with_reducible rfl
          try simp only [Act.put, List.setIfInBounds_toArray, List.set_cons_zero, List.set_cons_succ]
          refine seg_read ?v25 (by rfl) (by rfl) ?h25 ?_
          case h25 => intro W hW; have hsn := HCW.out.2; rw [hsn]; go_simp; with_reducible rfl
          try simp only [Act.put, List.setIfInBounds_toArray, List.set_cons_zero, List.set_cons_succ]
          refine seg_read ?v26 (by rfl) (by rfl) ?h26 ?_
          case h26 => intro W hW; go_simp; with_reducible rfl
          try simp only [Act.put, List.setIfInBounds_toArray, List.set_cons_zero, List.set_cons_succ]
          refine seg_nil ?_
          clear hcc hc7 hc8 hc9 hnC hnD hdi hdw8 hlt2'
          have hlo := HX.out.1.lo
          have hbw : Below w.heap.size w w9 := (below_turn (below_turn (HX.out.1.bl.trans (HT.out.2.2.mono HX.out.1.bl.size)) (Nat.le_refl _) H7.out.2 fun k hk => by rw [hk]; exact hlo.1) (Nat.le_refl _) H8.out.2 fun k hk => by rw [hk]; exact hlo.1).trans (H9.out.mono (below_turn (below_turn (HX.out.1.bl.trans (HT.out.2.2.mono HX.out.1.bl.size)) (Nat.le_refl _) H7.out.2 fun k hk => by rw [hk]; exact hlo.1) (Nat.le_refl _) H8.out.2 fun k hk => by rw [hk]; exact hlo.1).size)
          have how9 : w9.ownsRow B 3 1 (.slice Av K cv) K (ddV (dS id kk j).2) := by
            have how := HX.out.1.ow
            rw [← HX.out.2.2.2.2.2] at how
            refine ddkeep how fun g hg => ?_
            have h1 := how.lt g hg
            have h2 := HT.out.2.2.size
            have h3 := H7.out.2.size
            have h4 := H8.out.2.size
            have hgb : g ≠ b := by omega
            exact (H9.out.block g (by omega)).trans ((H8.out.2.block g (by omega) hgb).trans ((H7.out.2.block g (by omega) hgb).trans (HT.out.2.2.block g h1.2)))
          have H10 : Hid (Ix w9 p b (dropT (dS id kk j).1 (pkI d)) ∧ w9.ownsRow B 3 1 (.slice Av K cv) K (ddV (dS id kk j).2) ∧ Below w.heap.size w w9) := Lib.hid ⟨by rw [← HT.out.1]; exact H8.out.1.below H9.out, how9, hbw⟩
          obtain ⟨P0, hP0⟩ : ∃ P0, P0 = plC zPl := ⟨_, rfl⟩
          have hzp : ∀ W, (zeroValue 37).run Try.prog W = .ok (.agg P0) W := fun W => by rw [hP0]; exact zero_pl W
          have HP0 : Hid (P0 = plC zPl ∧ P0.size = 33) := Lib.hid ⟨hP0, by rw [hP0, plC_size zPl_len]⟩
          clear hP0 hbw how9 hlo HT HDR HCW H7 H8 H9
          go_upto_region 28 with fail
          go_loopw [17, 18, 19] (fun u _ _ wv => ∃ i : Nat, i ≤ K ∧ u = .int .i64 (i : Int) ∧ Below w9.heap.size w9 wv) (fun u _ _ _ => K - (intOf u).toNat)
          case atStart => exact ⟨0, Nat.zero_le _, rfl, Below.refl _ _⟩
          case round =>
            obtain ⟨y, hy, rfl, hbv⟩ := hrel
            by_cases hlt3 : y < K
            · have hlt3' : (y : Int) < (K : Int) := by omega
              obtain ⟨x, hx⟩ : ∃ x, (dS id kk j).2[y]? = some x := ⟨_, List.getElem?_eq_getElem (by have := HX.out.2.2.2.2.2; omega)⟩
              have hxm := List.mem_of_getElem? hx
              have hxj := (dS_inv (id := id) (kk := kk) j).2.2.1 x hxm
              have hgx := dS_drop (id := id) HF.out.2 j HL.out.2.2.2.2.1 hxm
              have hix : Ix wr p b (dropT (dS id kk j).1 (pkI d)) := H10.out.1.below hbv
              have how : wr.ownsRow B 3 1 (.slice Av K cv) K (ddV (dS id kk j).2) := ddkeep H10.out.2.1 fun g hg => hbv.block g (H10.out.2.1.lt g hg).2
              obtain ⟨gi, rfl, hBg, hgl, _, hci⟩ := own_dd how hx
              obtain ⟨q, off, rfl, hql, h32, hc⟩ := HL.out.1.at_ hxj
              obtain ⟨q2, off2, rfl, _, hql2, hcb⟩ := HL.out.2.2.1.row (by have := HN.out; omega)
              have hjb : (x : Int) < (nbs : Int) := by have := HN.out; omega
              have hxj' : (x : Int) < (j : Int) := by omega
              have hkl : l[x]?.getD [] = id x := by rw [HI.out.1]
              rw [hkl] at h32 hc
              have hfd := ixfind_any hix h32
              obtain ⟨KX, hKX⟩ : ∃ KX, KX = row8 (id x) := ⟨_, rfl⟩
              have hbwv : Below w.heap.size w wr := H10.out.2.2.trans (hbv.mono H10.out.2.2.size)
              have HC1 : Hid ((∀ u v, KX[u]? = some v → wr.cell? ((⟨q, off + x * 32, none⟩ : Addr).add u) = some v) ∧ KX.size = 32) := Lib.hid ⟨fun u v hu => by
                have h := hc u v (by rw [← hKX]; exact hu)
                rw [add_plain] at h ⊢
                exact (hbwv.cell (p := ⟨q, _, none⟩) hql).trans h, by rw [hKX, row8_size, h32]⟩
              have hand := and3 (bs[x]?.getD 0)
              have hx8 := (bs[x]?.getD 0).toNat_lt
              have hxk : kk x = (bs[x]?.getD 0).toNat % 4 := by rw [HI.out.2]
              have hcx := (hbwv.cell (p := ⟨q2, off2 + x, none⟩) hql2).trans (hcb x (by have := HN.out; omega))
              obtain ⟨X, hX⟩ : ∃ X, X = (bs[x]?.getD 0).toNat := ⟨_, rfl⟩
              rw [← hxk, ← hX] at hand
              rw [← hX] at hcx
              obtain ⟨m, hm⟩ : ∃ m, m = kk x := ⟨_, rfl⟩
              have hm4 := HF.out.2 x
              rw [← hm] at hand hm4 hgx
              have hmw := IntWalk.i64_in (m : Int) (by omega)
              have hyy := IntWalk.i64_in ((y : Int) + 1) (by have := HX.out.2.2.1; omega)
              have HY : Hid (y < K ∧ Below w9.heap.size w9 wr ∧ gi < wr.heap.size ∧ q2 < wr.heap.size) := Lib.hid ⟨hlt3, hbv, hgl, Nat.lt_of_lt_of_le hql2 hbwv.size⟩
              have HCI := Lib.hid (And.intro hci hcx)
              rw [← hKX] at hfd
              clear hKX hX hm hxk hx8 hcb hc hkl h32 hql hql2 hix how hxm hxj hx hlt3 hy hbv hbwv hBg hgl hcx
              by_cases hmd : m = d
              · rw [if_pos hmd] at hgx
                rw [hgx] at hfd
                have hmdd : ((m : Int) != (d : Int)) = false := by simp; omega
                obtain ⟨FS, hFS⟩ : ∃ FS, FS = plC zPl := ⟨_, rfl⟩
                have hfd2 : Calls Try.prog 15 #[.pointer (some ⟨p, 0, none⟩), .agg KX] wr fun e w' => e = .returned (.tuple #[.agg FS, .bool false]) ∧ Below wr.heap.size wr w' := by rw [hFS]; exact hfd
                have HFS : Hid (FS.size = 33 ∧ FS.all (·.oneCell') = true) := Lib.hid ⟨by rw [hFS, plC_size zPl_len], by rw [hFS]; exact plC_one _⟩
                clear hfd hgx hFS hmd
                go_upto_region 31 with (first
                  | (refine wpList_load_at (by rfl) 31 (.tmp 153) (by rfl) ⟨q, off + x * 32, none⟩ (by rfl) KX _ HC1.out.1 Try.underlying31 (by rfl) (by rw [HC1.out.2]; exact id_info) ?_)
                  | (go_at_call 15; refine hfd2.mono ?_; clear hfd2; rintro _ w10 ⟨rfl, hb10⟩; have H11 := Lib.hid hb10; clear hb10)
                  | (refine wpList_store_row (by rfl) 37 (.tmp 18) (.tmp 156) (by rfl) w10.heap.size FS (by rfl) (by rfl) 37 P0 (heap_alloc_new _ _) (by rw [HFS.out.1]; exact pl_info) (by rw [HP0.out.2, HFS.out.1]) HFS.out.2 ?_))
                clear hci
                have H12 : Hid (((w10.alloc (.cells P0 37)).setRow w10.heap.size FS).heap[w10.heap.size]? = some (.cells FS 37 (0, 0)) ∧ Below wr.heap.size wr ((w10.alloc (.cells P0 37)).setRow w10.heap.size FS)) := Lib.hid ⟨setRow_at (heap_alloc_new _ _), below_setRow (H11.out.alloc H11.out.size _) H11.out.size _⟩
                generalize (w10.alloc (.cells P0 37)).setRow w10.heap.size FS = w11 at H12 ⊢
                generalize w10.heap.size = g18 at H12 ⊢
                have hd1 : ∀ k, (w11.drewN k).cell? ⟨gi, y, none⟩ = some (.int .i64 (x : Int)) := fun _ => (H12.out.2.cell (p := ⟨gi, y, none⟩) HY.out.2.2.1).trans HCI.out.1
                have hd2 : ∀ k, (w11.drewN k).cell? ⟨q2, off2 + x, none⟩ = some (.int .u8 (X : Int)) := fun _ => (H12.out.2.cell (p := ⟨q2, off2 + x, none⟩) HY.out.2.2.2).trans HCI.out.2
                go_quiet (fail)
                go_wp2_with fail
                exact ⟨⟨y + 1, by have := HY.out.1; omega, by simp, by have h1 := HY.out.2.1; exact below_drewN (h1.trans (H12.out.2.mono h1.size)) _⟩, by have := HY.out.1; simp only [intOf]; omega⟩
              · rw [if_neg hmd] at hgx
                rw [hgx] at hfd
                have hmdd : ((m : Int) != (d : Int)) = true := by simp; omega
                obtain ⟨FS, hFS⟩ : ∃ FS, FS = plC (pkI m, (x : Int)) := ⟨_, rfl⟩
                have hfd2 : Calls Try.prog 15 #[.pointer (some ⟨p, 0, none⟩), .agg KX] wr fun e w' => e = .returned (.tuple #[.agg FS, .bool true]) ∧ Below wr.heap.size wr w' := by rw [hFS]; exact hfd
                have HFS : Hid (FS.size = 33 ∧ FS.all (·.oneCell') = true) := Lib.hid ⟨by rw [hFS, plC_size (pkI_len m)], by rw [hFS]; exact plC_one _⟩
                have HFX : Hid (FS[32]? = some (.int .i64 (x : Int))) := Lib.hid (by rw [hFS]; rfl)
                have hxx : ((x : Int) != (x : Int)) = false := by simp
                clear hfd hgx hFS hmd
                go_upto_region 31 with (first
                  | (refine wpList_load_at (by rfl) 31 (.tmp 153) (by rfl) ⟨q, off + x * 32, none⟩ (by rfl) KX _ HC1.out.1 Try.underlying31 (by rfl) (by rw [HC1.out.2]; exact id_info) ?_)
                  | (go_at_call 15; refine hfd2.mono ?_; clear hfd2; rintro _ w10 ⟨rfl, hb10⟩; have H11 := Lib.hid hb10; clear hb10)
                  | (refine wpList_store_row (by rfl) 37 (.tmp 18) (.tmp 156) (by rfl) w10.heap.size FS (by rfl) (by rfl) 37 P0 (heap_alloc_new _ _) (by rw [HFS.out.1]; exact pl_info) (by rw [HP0.out.2, HFS.out.1]) HFS.out.2 ?_))
                clear hci
                have H12 : Hid (((w10.alloc (.cells P0 37)).setRow w10.heap.size FS).heap[w10.heap.size]? = some (.cells FS 37 (0, 0)) ∧ Below wr.heap.size wr ((w10.alloc (.cells P0 37)).setRow w10.heap.size FS)) := Lib.hid ⟨setRow_at (heap_alloc_new _ _), below_setRow (H11.out.alloc H11.out.size _) H11.out.size _⟩
                generalize (w10.alloc (.cells P0 37)).setRow w10.heap.size FS = w11 at H12 ⊢
                generalize w10.heap.size = g18 at H12 ⊢
                have hd1 : ∀ k, (w11.drewN k).cell? ⟨gi, y, none⟩ = some (.int .i64 (x : Int)) := fun _ => (H12.out.2.cell (p := ⟨gi, y, none⟩) HY.out.2.2.1).trans HCI.out.1
                have hd2 : ∀ k, (w11.drewN k).cell? ⟨q2, off2 + x, none⟩ = some (.int .u8 (X : Int)) := fun _ => (H12.out.2.cell (p := ⟨q2, off2 + x, none⟩) HY.out.2.2.2).trans HCI.out.2
                have hd3 : ∀ k, (w11.drewN k).cell? ⟨g18, 32, none⟩ = some (.int .i64 (x : Int)) := fun _ => (cell_of_cells H12.out.1 32).trans HFX.out
                go_quiet (fail)
                go_wp2_with fail
                exact ⟨⟨y + 1, by have := HY.out.1; omega, by simp, by have h1 := HY.out.2.1; exact below_drewN (h1.trans (H12.out.2.mono h1.size)) _⟩, by have := HY.out.1; simp only [intOf]; omega⟩
            · have hlt3' : ¬ (y : Int) < (K : Int) := by omega
              have hbwv : Below w.heap.size w wr := H10.out.2.2.trans (hbv.mono H10.out.2.2.size)
              have HBW := Lib.hid hbwv
              clear hbwv hbv hy hlt3
              go_wp2
              go_ret
              exact ⟨rfl, HBW.out⟩
end Go.Proofs.Ytefhdeipeflfdaa

/-! The statement DedupDrops, proved: for every row of ids, every row of bytes and every byte the law returns true. No condition. -/
namespace Go.Proofs.Ytefhdeipeflfdaa.dedupDrops
open Go.ChangeShapes Go.WideShapes Go.ChangeAt Go.RowKit
set_option linter.unusedVariables false

set_option maxRecDepth 100000 in
theorem lifted (os : Os) (started : os.Started) (H : Type) (enc : TypeId × Value → H) :
    ReturnsInHanded {} Try.checked os 6 .any (Rows.dedupDropsSpec.pre6 enc Try.prog Try.f6 Rows.dedupDropsRow.domain false) (Rows.dedupDropsSpec.post enc Try.prog Try.f6 false true false false) := by
  refine returnsInHanded_of_change (C := Try.checked) own_knob started (by kernel_rfl) Try.func6
    (ChangeSpec.witness6 (enc := enc) (C := Try.checked) false ⟨#[], #[.slice none 0 0, .slice none 0 0, .int .u8 0], []⟩ 8 (by kernel_rfl) (by kernel_rfl) (by kernel_rfl) (by kernel_rfl)) ?_
  intro W base args ds gs before hval0 hW hcnd _
  have hval : ∀ (j : Nat) t v, Try.f6.params[j]? = some t → args[j]? = some v → Value.okWide Try.prog W .any base t v := hval0
  have hW' := hW
  obtain ⟨p, q, hA0, hV, rfl, hfz, hnd⟩ := hW
  have hA : DataW.TrodAll enc Try.prog W 0 (fun _ => true) true Try.f6.params.toList args.toList ds p := hA0
  rw [Try.params6] at hA hval
  obtain ⟨v0, vs0, d0, ds0, p0, q0, hargs, rfl, rfl, h0, r0⟩ := trodAll_cons hA
  obtain ⟨v1, vs1, d1, ds1, p1, q1, rfl, rfl, rfl, h1, r1⟩ := trodAll_cons r0
  obtain ⟨v2, vs2, d2, ds2, p2, q2, rfl, rfl, rfl, h2, r2⟩ := trodAll_cons r1
  obtain ⟨rfl, rfl, rfl⟩ := trodAll_nil r2
  obtain rfl : args = #[v0, v1, v2] := by cases args; simp_all
  obtain ⟨rfl, rfl⟩ := trodVars_none hV
  obtain ⟨a0, len0, cap0, rfl⟩ := okWide_slice Try.underlying55 (hval 0 55 v0 rfl rfl)
  obtain ⟨l0, w0⟩ := (ids_in Try.underlying55 Try.underlying31 Try.underlying5 (by kernel_rfl) (by kernel_rfl)) rfl h0
  obtain ⟨a1, len1, cap1, rfl⟩ := okWide_slice Try.underlying49 (hval 1 49 v1 rfl rfl)
  obtain ⟨l1, w1⟩ := bytes_in rfl h1
  obtain ⟨a2, rfl, rfl, rfl, w2⟩ := open_int Try.underlying5 (hval 2 5 v2 rfl rfl) h2
  clear hA0 hval0
  refine (law_ddrops w0 w1 w2).mono fun e W' ⟨he, bel⟩ => ?_
  subst he
  exact ⟨_, rfl, _, _, _, [], _, [], hW', trodAll_mk1 (shut_bool Try.underlying4 _), (trodAll_cons_mk (Below.trod laid_out (by kernel_rfl) (of_decide_eq_true (by kernel_rfl)) h0 bel (trod_lt h0)) (trodAll_cons_mk (Below.trod laid_out (by kernel_rfl) (of_decide_eq_true (by kernel_rfl)) h1 bel (trod_lt h1)) (trodAll_cons_mk (shut_int Try.underlying5 w2) trodAll_mk0))), rfl, bel.frame _, fun h => by cases h⟩

theorem proved : Rows.DedupDropsSaid :=
  OpenClaim.holds_of_wide 6 Try.f6 rfl rfl rfl rfl rfl rfl rfl ⟨rfl, rfl, rfl, rfl, rfl⟩ rfl rfl rfl rfl rfl (by kernel_rfl) Try.func6 (by kernel_rfl)
    (of_decide_eq_true (by kernel_rfl)) (by unfold Func.isWrapper; first | (rw [if_pos (by decide +kernel)]; kernel_rfl) | (rw [if_neg (by decide +kernel)]; exact ⟨rfl, rfl⟩))
    (fun os started H enc _ => lifted os started H enc)
#print axioms proved
end Go.Proofs.Ytefhdeipeflfdaa.dedupDrops
