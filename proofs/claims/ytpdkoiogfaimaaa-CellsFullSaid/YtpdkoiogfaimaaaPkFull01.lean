/-
  The statement CellsFull: its walk.
  The statement CellsFull, proved: for every two numbers and every names the law returns true. No condition.
-/
import Derived.Test.YtpdkoiogfaimaaaPk20
import Derived.Test.YtpdkoiogfaimaaaPk21
/-! The statement CellsFull: its walk. -/
namespace Go.Proofs.Ytpdkoiogfaimaaa
open Go.RowKit Codec

def smK : List UInt8 := [115, 109, 97, 108, 108]
def smL : List Ch := [⟨smK, [120], false⟩]
def abK (k : Nat) : List UInt8 := [UInt8.ofNat (97 + k)]
theorem and7 (b : UInt8) : bits BinOp.and IntKind.u8 (b.toNat : Int) 7 = ((b.toNat % 8 : Nat) : Int) := by
  have h : ∀ z : Fin 256, bits BinOp.and IntKind.u8 ((z.val : Nat) : Int) 7 = ((z.val % 8 : Nat) : Int) := by decide +kernel
  exact h ⟨b.toNat, b.toNat_lt⟩
theorem ab_slice0 : ∀ W, (Instr.slice 9 (.string ⟨#[97, 98, 99, 100, 101, 102, 103, 104]⟩) (some (.int .u8 0)) (some (.int .u8 1)) none).run Try.prog W = .ok (.string (st (abK 0))) W := fun W => by kernel_rfl
theorem ab_slice1 : ∀ W, (Instr.slice 9 (.string ⟨#[97, 98, 99, 100, 101, 102, 103, 104]⟩) (some (.int .u8 1)) (some (.int .u8 2)) none).run Try.prog W = .ok (.string (st (abK 1))) W := fun W => by kernel_rfl
theorem ab_slice2 : ∀ W, (Instr.slice 9 (.string ⟨#[97, 98, 99, 100, 101, 102, 103, 104]⟩) (some (.int .u8 2)) (some (.int .u8 3)) none).run Try.prog W = .ok (.string (st (abK 2))) W := fun W => by kernel_rfl
theorem ab_slice3 : ∀ W, (Instr.slice 9 (.string ⟨#[97, 98, 99, 100, 101, 102, 103, 104]⟩) (some (.int .u8 3)) (some (.int .u8 4)) none).run Try.prog W = .ok (.string (st (abK 3))) W := fun W => by kernel_rfl
theorem ab_slice4 : ∀ W, (Instr.slice 9 (.string ⟨#[97, 98, 99, 100, 101, 102, 103, 104]⟩) (some (.int .u8 4)) (some (.int .u8 5)) none).run Try.prog W = .ok (.string (st (abK 4))) W := fun W => by kernel_rfl
theorem ab_slice5 : ∀ W, (Instr.slice 9 (.string ⟨#[97, 98, 99, 100, 101, 102, 103, 104]⟩) (some (.int .u8 5)) (some (.int .u8 6)) none).run Try.prog W = .ok (.string (st (abK 5))) W := fun W => by kernel_rfl
theorem ab_slice6 : ∀ W, (Instr.slice 9 (.string ⟨#[97, 98, 99, 100, 101, 102, 103, 104]⟩) (some (.int .u8 6)) (some (.int .u8 7)) none).run Try.prog W = .ok (.string (st (abK 6))) W := fun W => by kernel_rfl
theorem ab_slice7 : ∀ W, (Instr.slice 9 (.string ⟨#[97, 98, 99, 100, 101, 102, 103, 104]⟩) (some (.int .u8 7)) (some (.int .u8 8)) none).run Try.prog W = .ok (.string (st (abK 7))) W := fun W => by kernel_rfl
theorem ab_slice (k : Nat) (hk : k < 8) (W : World) : (Instr.slice 9 (.string ⟨#[97, 98, 99, 100, 101, 102, 103, 104]⟩) (some (.int .u8 (k : Int))) (some (.int .u8 ((k : Int) + 1))) none).run Try.prog W = .ok (.string (st (abK k))) W := by
  have h : k = 0 ∨ k = 1 ∨ k = 2 ∨ k = 3 ∨ k = 4 ∨ k = 5 ∨ k = 6 ∨ k = 7 := by omega
  rcases h with rfl | rfl | rfl | rfl | rfl | rfl | rfl | rfl
  · exact ab_slice0 W
  · exact ab_slice1 W
  · exact ab_slice2 W
  · exact ab_slice3 W
  · exact ab_slice4 W
  · exact ab_slice5 W
  · exact ab_slice6 W
  · exact ab_slice7 W
theorem sm_facts : smL.all mayC = true ∧ wtC smL ≤ 40 ∧ wtT (doL [] smL) ≤ 40 ∧ getT (doL [] smL) smK = some [120] := by decide +kernel
/-- The law's loop. -/
def RCF (w : World) (m g p N : Nat) (i : Value) (wr : World) : Prop :=
  ∃ (j : Nat) (d : DM) (s : SM), j ≤ N ∧ i = .int .i64 (j : Int) ∧ Dsk w m wr g d ∧ Cs wr (fun k => m ≤ k ∧ k < wr.heap.size) p g s ∧ PS d s (2 + 65536 * (j + 1)) ∧ getT s.t smK = some [120] ∧ s.turns ≤ j + 1 ∧ wtT s.t ≤ 100 + 1600 * j
/-- A change that may have room. -/
theorem full_step {d : DM} {s : SM} {j k V : Nat} (hj : j < 20) (hV : V < 1500) (hps : PS d s (2 + 65536 * (j + 1))) (hg : getT s.t smK = some [120]) (ht : s.turns ≤ j + 1) (hw : wtT s.t ≤ 100 + 1600 * j) :
    ((applyC d s [⟨abK k, List.replicate V 0, false⟩]).2.2 = 31 ∧ (applyC d s [⟨abK k, List.replicate V 0, false⟩]).1 = d ∧ (applyC d s [⟨abK k, List.replicate V 0, false⟩]).2.1 = s) ∨
    ((applyC d s [⟨abK k, List.replicate V 0, false⟩]).2.2 = 0 ∧ PS (applyC d s [⟨abK k, List.replicate V 0, false⟩]).1 (applyC d s [⟨abK k, List.replicate V 0, false⟩]).2.1 (2 + 65536 * (j + 1 + 1)) ∧ getT (applyC d s [⟨abK k, List.replicate V 0, false⟩]).2.1.t smK = some [120] ∧
      (applyC d s [⟨abK k, List.replicate V 0, false⟩]).2.1.turns ≤ j + 1 + 1 ∧ wtT (applyC d s [⟨abK k, List.replicate V 0, false⟩]).2.1.t ≤ 100 + 1600 * (j + 1)) := by
  have hlt := wtT_len s.t
  have ha := hps.apply_ [⟨abK k, List.replicate V 0, false⟩] (by simp) (by simp; omega) (by omega)
  have hm : [(⟨abK k, List.replicate V 0, false⟩ : Ch)].all mayC = true := by simp [mayC, abK]; omega
  have hhn : hn d ≤ 65536 := by have h1 : hn d = d.l.length / 2 := rfl; have := hps.few; omega
  rcases ha.err with h1 | h1 | h1
  · have := ha.one.1 h1
    rw [hm] at this
    cases this
  · exact .inl ⟨h1, (ha.no (by rw [h1]; decide)).1, (ha.no (by rw [h1]; decide)).2⟩
  · obtain ⟨h2, h3, h4, h5, _⟩ := ha.yes h1
    refine .inr ⟨h1, h2.more (by omega), ?_, by omega, ?_⟩
    · rw [h3]
      show getT (doC s.t _) smK = _
      rw [getT_doC, if_neg (by simp [smK, abK]), hg]
    · rw [h3]
      have h6 := wtT_doL [⟨abK k, List.replicate V 0, false⟩] s.t
      have h7 : wtC [(⟨abK k, List.replicate V 0, false⟩ : Ch)] = 1 + V + 21 := by simp [wtC, abK]
      omega
set_option maxHeartbeats 8000000 in
set_option maxRecDepth 100000 in
theorem walk_cfull {w : World} {S : Nat → Prop} {A : Option Addr} {n c : Nat} {ks : List UInt8} (h : Byt w S A n c ks) (x y : Nat) (hy : y < 65536) :
    Calls Try.prog 5 #[.int .u8 (x : Int), .int .u16 (y : Int), .slice A n c] w fun e w' => e = .returned (.bool true) ∧ Below w.heap.size w w' := by
  have haw := celawake_true w
  by_cases hn : 20 < n
  · have hn' : (20 : Int) < (n : Int) := by omega
    clear h hn
    go_enter Try.func5, Try.ntmps5
    go_wp2_with (go_at_call 6; refine haw.mono ?_; clear haw; rintro _ w1 ⟨rfl, hb1⟩)
    go_ret
    exact ⟨rfl, hb1⟩
  · have hn' : ¬ (20 : Int) < (n : Int) := by omega
    obtain ⟨f, hf⟩ : ∃ f, f = x % 8 := ⟨_, rfl⟩
    have hxm : (x : Int) % 8 = (f : Int) := by omega
    have hf8 : f < 8 := by omega
    have hadd0 : IntKind.i64.wrap ((f : Int) + 4) = ((f + 4 : Nat) : Int) := by rw [IntWalk.i64_in _ (by omega)]; simp
    have hwf : IntKind.i64.wrap (f : Int) = (f : Int) := IntWalk.i64_in _ (by omega)
    have HF := Lib.hid hf8
    have HS := Lib.hid (And.intro h (And.intro h.len hn))
    obtain ⟨V, hV⟩ : ∃ V, V = y % 1500 := ⟨_, rfl⟩
    have HV : Hid (V < 1500 ∧ (y : Int).tmod 1500 = (V : Int) ∧ IntKind.i64.wrap (V : Int) = (V : Int)) := Lib.hid ⟨by omega, by rw [Int.tmod_eq_emod_of_nonneg (by omega)]; omega, IntWalk.i64_in _ (by omega)⟩
    clear h hn hf hf8 hV hy
    go_enter Try.func5, Try.ntmps5
    go_upto_region 6 with (go_at_call 6; refine haw.mono ?_; clear haw; rintro _ w1 ⟨rfl, hb1⟩)
    have hnew := Dsk.new hb1 (f + 4) (by omega) (by have := HF.out; omega)
    obtain ⟨s0, _, hps0, ht0, hu0, hl0⟩ := PS.new (f + 4) (by omega) (by have := HF.out; omega)
    have hlen := newM_len (f + 4) (by omega) (by have := HF.out; omega)
    obtain ⟨d0, hd0⟩ : ∃ d0, d0 = (newM ((f + 4 : Nat) : Int)).1 := ⟨_, rfl⟩
    rw [← hd0] at hps0 hnew hlen
    have HPS := Lib.hid (And.intro hps0 (And.intro ht0 (And.intro hu0 (And.intro hl0 hlen))))
    clear hps0 ht0 hu0 hl0 hd0 hlen hb1
    go_upto_region 7 with (go_at_call 10; refine hnew.mono ?_; clear hnew; rintro _ w1 ⟨g, rfl, hd1⟩)
    obtain ⟨m, hm⟩ : ∃ m, m = w1.heap.size := ⟨_, rfl⟩
    rw [← hm] at hd1
    have HM := Lib.hid (show m ≤ w1.heap.size by omega)
    have hop := hd1.copen HPS.out.1 (by omega)
    clear hd1 hm hxm hadd0 hwf
    go_upto_region 8 with (go_at_call 9; refine hop.mono ?_; clear hop; rintro _ w2 ⟨p, s1, rfl, hc2, hd2, hb2, hps1, ht1, hu1, hl1⟩)
    have H2 := Lib.hid (And.intro (hc2.mono (T := fun k => m ≤ k ∧ k < w2.heap.size) fun k hk h => ⟨by have := HM.out; omega, hk⟩) (And.intro hd2 (And.intro hps1 (And.intro ht1 (And.intro hu1 (And.intro hl1 hd2.top))))))
    clear hc2 hd2 hb2 hps1 ht1 hu1 hl1
    obtain ⟨w3, hcv, hce⟩ := conv_mark (P := Try.prog) (B := w2.heap.size) (w2.alloc (.cells #[.int .u8 120] 5)) 23 5 Try.underlying23 Try.underlying5 w2.heap.size 1 1 (Nat.le_refl _)
    have hb3 : Below w2.heap.size w2 w3 := ⟨hce.os, hce.tape, hce.output, by have := hce.size; simp at this; omega, fun k hk => (hce.block k (by simp; omega) hk).trans (heap_alloc_old _ _ _ hk)⟩
    have hy3 : Byt w3 (w2.heap.size ≤ ·) (some ⟨w2.heap.size, 0, none⟩) 1 1 [120] := (byt_filled' (w' := w2.alloc (.cells #[.int .u8 120] 5)) (l := [120]) (n := 1) (heap_alloc_new w2 _) rfl (by omega) (Nat.le_refl _)).cel hce
    obtain ⟨w4, hw4⟩ : ∃ w4, w4 = w3.alloc (Obj.cells #[.string ⟨#[115, 109, 97, 108, 108]⟩, .slice (some ⟨w2.heap.size, 0, none⟩) 1 1, .bool false] 25) := ⟨_, rfl⟩
    have hb4 : Below w2.heap.size w2 w4 := hb3.trans (by rw [hw4]; exact (Below.refl _ _).alloc hb3.size _)
    have hch : Chs w4 (w2.heap.size ≤ ·) (some ⟨w3.heap.size, 0, none⟩) 1 1 smL := by
      refine chs_block (L := [((some ⟨w2.heap.size, 0, none⟩, 1, 1), ⟨smK, [120], false⟩)]) (by rw [hw4]; exact heap_alloc_new w3 _) hb3.size (fun y hy => ?_) (by simp)
      obtain rfl := List.mem_singleton.1 hy
      rw [hw4]; exact hy3.alloc _
    have hT1 : s1.t = [] := by rw [H2.out.2.2.2.1, HPS.out.2.1]
    have hap := (H2.out.2.1.below hb4).capply (H2.out.1.below hb4) (fun k h => h.1) H2.out.2.2.1 (by omega) (by rw [H2.out.2.2.2.2.1]; omega) hch (fun k hk => ⟨fun h => by omega, .inr (by have := H2.out.2.2.2.2.2.2; omega)⟩) (by rw [hT1]; have := sm_facts; simp [wtT]; omega)
    have hhn0 : 2 ≤ hn d0 ∧ hn d0 ≤ 65536 := by have h1 : hn d0 = d0.l.length / 2 := rfl; have h2 := HPS.out.2.2.2.2; have := HF.out; omega
    have hz := H2.out.2.2.1.room (l := smL) (by simp [smL]) (by rw [hT1]; simp [smL]) (by omega) sm_facts.1 (by rw [hT1]; have := sm_facts; omega)
    have hay := H2.out.2.2.1.apply_ smL (by simp [smL]) (by rw [hT1]; simp [smL]) (by omega)
    obtain ⟨hp6, ht6, _, hu6, _, _⟩ := hay.yes hz
    rw [hT1] at ht6
    rw [H2.out.2.2.2.2.1] at hu6
    rw [hz] at hap
    obtain ⟨d6, hd6⟩ : ∃ d6, d6 = (applyC d0 s1 smL).1 := ⟨_, rfl⟩
    obtain ⟨s6, hs6⟩ : ∃ s6, s6 = (applyC d0 s1 smL).2.1 := ⟨_, rfl⟩
    rw [← hd6, ← hs6] at hap hp6
    rw [← hs6] at ht6 hu6
    have H6 := Lib.hid (And.intro (hp6.more (K' := 2 + 65536 * (0 + 1)) (by omega)) (And.intro ht6 hu6))
    have HS4 := Lib.hid hb4.size
    clear hp6 ht6 hu6 hay hz hhn0 hT1 hd6 hs6 hch hb4 hb3 hce hy3
    rw [hw4] at hap
    go_upto_region 10 with (go_at_call 11; refine hap.mono ?_; clear hap; rintro _ w7 ⟨rfl, hd7, hc7, hr7⟩)
    clear hcv
    rw [← hw4] at hc7 hr7
    have H7 : Hid (RCF w m g p n (.int .i64 0) w7) := Lib.hid ⟨0, d6, s6, Nat.zero_le _, rfl, hd7, hc7.mono (T := fun k => m ≤ k ∧ k < w7.heap.size) fun k hk h => by have := H2.out.2.2.2.2.2.2; have := HS4.out; rcases h with h | h <;> exact ⟨by omega, hk⟩, H6.out.1, by rw [H6.out.2.1]; exact sm_facts.2.2.2, by have := H6.out.2.2; omega, by rw [H6.out.2.1]; have := sm_facts; omega⟩
    clear hc7 hr7 hw4 HS4 H6 H2 HPS HM hd7
    go_wp2_with fail
    go_loopw [12] (fun i wr => RCF w m g p n i wr) (fun i _ => n - (intOf i).toNat)
    case atStart => exact H7.out
    case round =>
      obtain ⟨j, d, s, hj, rfl, hdk, hcs, hps, hg, htu, hwt⟩ := hrel
      clear H7
      have hls := wtT_len s.t
      have hn20 := HS.out.2.2
      by_cases hlt : j < n
      · have hlt' : (j : Int) < (n : Int) := by omega
        have hadd1 := IntWalk.i64_in ((j : Int) + 1) (by omega)
        obtain ⟨q, o, rfl, _, hq, hcell⟩ := HS.out.1.row (by omega)
        have hci := hcell j hlt
        obtain ⟨b, hb⟩ : ∃ b, b = ks[j]?.getD 0 := ⟨_, rfl⟩
        rw [← hb] at hci
        obtain ⟨k, hk⟩ : ∃ k, k = b.toNat % 8 := ⟨_, rfl⟩
        have hkeys := ckeys_any hcs (by omega)
        have HK : Hid (k < 8 ∧ bits BinOp.and IntKind.u8 (b.toNat : Int) 7 = (k : Int) ∧ IntKind.u8.wrap ((k : Int) + 1) = (k : Int) + 1) := Lib.hid ⟨by omega, by rw [hk]; exact and7 b, IntWalk.u8_in _ (by omega)⟩
        have HCI := Lib.hid (And.intro hq hci)
        have HR := Lib.hid (And.intro hdk (And.intro hcs (And.intro hps (And.intro hg (And.intro htu (And.intro hwt (And.intro hls (And.intro hlt hn20))))))))
        clear hdk hcs hps hg htu hwt hls hq hci hcell hb hk hj hlt hn20
        go_upto_region 14 with (go_at_call 12; refine hkeys.mono ?_; clear hkeys; rintro _ w3 ⟨A3, n3, c3, rfl, hs3, hb3⟩)
        obtain rfl : n3 = s.t.length := by rw [← hs3.len]; simp
        have hdk3 := HR.out.1.below hb3
        have hcs3 := HR.out.2.1.below hb3
        have HC : Hid (q < w3.drew.heap.size ∧ w3.drew.cell? ⟨q, o + j, none⟩ = some (.int .u8 (b.toNat : Int))) := Lib.hid ⟨Nat.lt_of_lt_of_le HCI.out.1 hdk3.bel.size, (hdk3.bel.cell (p := ⟨_, _, none⟩) HCI.out.1).trans HCI.out.2⟩
        have H3 := Lib.hid (And.intro (hdk3.below (below_drew (Below.refl _ _))) (And.intro (hcs3.below (below_drew (Below.refl _ _))) (And.intro hb3.size hdk3.top)))
        clear hs3 hb3 hdk3 hcs3
        refine (wpIn_wide (n := 3)).1 ?_
        refine wpIn_region_growP (Grow.open_wide _ _) (fun W W' => Below W.heap.size W W') (Grow.nth [fun v _ => v = .pointer (some ⟨p, 0, none⟩), fun v _ => v = .slice (some ⟨q, o, none⟩) n c, fun v _ => v = .int .i64 (j : Int), fun v _ => v = .pointer (some ⟨q, o + j, none⟩), fun v _ => v = .int .u8 (b.toNat : Int), fun v _ => v = .int .u8 (k : Int), fun v _ => v = .slice (some ⟨q, o, none⟩) n c, fun v _ => v = .int .i64 (j : Int), fun v _ => v = .pointer (some ⟨q, o + j, none⟩), fun v _ => v = .int .u8 (b.toNat : Int), fun v _ => v = .int .u8 (k : Int), fun v _ => v = .int .u8 ((k : Int) + 1), fun v _ => v = .string (st (abK k)), fun v _ => v = .int .u16 (y : Int), fun v _ => v = .int .u16 (V : Int), fun v _ => v = .int .i64 (V : Int), fun v W => ∃ A, v = .slice A V V ∧ Byt W (w3.heap.size ≤ ·) A V V (List.replicate V 0), fun v W => ∃ A, v = .agg #[.string (st (abK k)), .slice A V V, .bool false] ∧ Byt W (w3.heap.size ≤ ·) A V V (List.replicate V 0), fun v W => ∃ q2, v = .slice (some ⟨q2, 0, none⟩) 1 1 ∧ Chs W (w3.heap.size ≤ ·) (some ⟨q2, 0, none⟩) 1 1 [⟨abK k, List.replicate V 0, false⟩]]) 126 (by kernel_rfl) (by kernel_rfl) (by kernel_rfl) (by kernel_rfl) (by rfl) (fun W => Below.refl _ W) (fun _ _ _ h1 h2 => h1.trans (h2.mono h1.size)) (Grow.mono_nth ?gmono) 19 (by rfl) (by rfl) (by rfl) (by rfl) (by rfl) ?gsteps ?gfin
        case gmono => exact ⟨fun _ _ _ h _ => h, fun _ _ _ h _ => h, fun _ _ _ h _ => h, fun _ _ _ h _ => h, fun _ _ _ h _ => h, fun _ _ _ h _ => h, fun _ _ _ h _ => h, fun _ _ _ h _ => h, fun _ _ _ h _ => h, fun _ _ _ h _ => h, fun _ _ _ h _ => h, fun _ _ _ h _ => h, fun _ _ _ h _ => h, fun _ _ _ h _ => h, fun _ _ _ h _ => h, fun _ _ _ h _ => h, fun _ _ _ ⟨A, h1, h2⟩ hg => ⟨A, h1, h2.below (hg.mono (Nat.le_refl _))⟩, fun _ _ _ ⟨A, h1, h2⟩ hg => ⟨A, h1, h2.below (hg.mono (Nat.le_refl _))⟩, fun _ _ _ ⟨A, h1, h2⟩ hg => ⟨A, h1, h2.below hg⟩, trivial⟩
        case gsteps =>
          show Grow.allBelow _ 19
          refine And.intro ?_ ?s18
          refine And.intro ?_ ?s17
          refine And.intro ?_ ?s16
          refine And.intro ?_ ?s15
          refine And.intro ?_ ?s14
          refine And.intro ?_ ?s13
          refine And.intro ?_ ?s12
          refine And.intro ?_ ?s11
          refine And.intro ?_ ?s10
          refine And.intro ?_ ?s9
          refine And.intro ?_ ?s8
          refine And.intro ?_ ?s7
          refine And.intro ?_ ?s6
          refine And.intro ?_ ?s5
          refine And.intro ?_ ?s4
          refine And.intro ?_ ?s3
          refine And.intro ?_ ?s2
          refine And.intro ?_ ?s1
          refine And.intro ?_ ?s0
          exact trivial
          case s0 =>
            refine Grow.step_in (by rfl) (by rfl) ?_
            intro E W ec eg ef hG hd hu R HR1
            have e10 : E (.tmp 10) = .pointer (some ⟨p, 0, none⟩) := hu 10 (by kernel_rfl)
            clear hd hu
            go_simp
            exact HR1.out _ _ (Below.refl _ _) rfl
          case s1 =>
            refine Grow.step_in (by rfl) (by rfl) ?_
            intro E W ec eg ef hG hd hu R HR1
            have e2 : E (.tmp 2) = .slice (some ⟨q, o, none⟩) n c := hu 2 (by kernel_rfl)
            clear hd hu
            go_simp
            exact HR1.out _ _ (Below.refl _ _) rfl
          case s2 =>
            refine Grow.step_in (by rfl) (by rfl) ?_
            intro E W ec eg ef hG hd hu R HR1
            have e12 : E (.tmp 12) = .int .i64 (j : Int) := hu 12 (by kernel_rfl)
            clear hd hu
            go_simp
            exact HR1.out _ _ (Below.refl _ _) rfl
          case s3 =>
            refine Grow.step_in (by rfl) (by rfl) ?_
            intro E W ec eg ef hG hd hu R HR1
            have e58 : E (.tmp 58) = .slice (some ⟨q, o, none⟩) n c := hd 1 58 (by kernel_rfl)
            have e59 : E (.tmp 59) = .int .i64 (j : Int) := hd 2 59 (by kernel_rfl)
            clear hd hu
            have hjl := HR.out.2.2.2.2.2.2.2.1
            go_simp
            first | exact HR1.out _ _ (Below.refl _ _) rfl | (rw [if_pos ⟨by omega, by omega⟩]; exact HR1.out _ _ (Below.refl _ _) rfl)
          case s4 =>
            refine Grow.step_in (by rfl) (by rfl) ?_
            intro E W ec eg ef hG hd hu R HR1
            have e60 : E (.tmp 60) = .pointer (some ⟨q, o + j, none⟩) := hd 3 60 (by kernel_rfl)
            clear hd hu
            have hcl := (hG.cell (p := ⟨q, o + j, none⟩) HC.out.1).trans HC.out.2
            go_simp
            exact HR1.out _ _ (Below.refl _ _) rfl
          case s5 =>
            refine Grow.step_in (by rfl) (by rfl) ?_
            intro E W ec eg ef hG hd hu R HR1
            have e61 : E (.tmp 61) = .int .u8 (b.toNat : Int) := hd 4 61 (by kernel_rfl)
            clear hd hu
            have hk1 := HK.out.2.1
            go_simp
            exact HR1.out _ _ (Below.refl _ _) rfl
          case s6 =>
            refine Grow.step_in (by rfl) (by rfl) ?_
            intro E W ec eg ef hG hd hu R HR1
            have e2 : E (.tmp 2) = .slice (some ⟨q, o, none⟩) n c := hu 2 (by kernel_rfl)
            clear hd hu
            go_simp
            exact HR1.out _ _ (Below.refl _ _) rfl
          case s7 =>
            refine Grow.step_in (by rfl) (by rfl) ?_
            intro E W ec eg ef hG hd hu R HR1
            have e12 : E (.tmp 12) = .int .i64 (j : Int) := hu 12 (by kernel_rfl)
            clear hd hu
            go_simp
            exact HR1.out _ _ (Below.refl _ _) rfl
          case s8 =>
            refine Grow.step_in (by rfl) (by rfl) ?_
            intro E W ec eg ef hG hd hu R HR1
            have e63 : E (.tmp 63) = .slice (some ⟨q, o, none⟩) n c := hd 6 63 (by kernel_rfl)
            have e64 : E (.tmp 64) = .int .i64 (j : Int) := hd 7 64 (by kernel_rfl)
            clear hd hu
            have hjl := HR.out.2.2.2.2.2.2.2.1
            go_simp
            first | exact HR1.out _ _ (Below.refl _ _) rfl | (rw [if_pos ⟨by omega, by omega⟩]; exact HR1.out _ _ (Below.refl _ _) rfl)
          case s9 =>
            refine Grow.step_in (by rfl) (by rfl) ?_
            intro E W ec eg ef hG hd hu R HR1
            have e65 : E (.tmp 65) = .pointer (some ⟨q, o + j, none⟩) := hd 8 65 (by kernel_rfl)
            clear hd hu
            have hcl := (hG.cell (p := ⟨q, o + j, none⟩) HC.out.1).trans HC.out.2
            go_simp
            exact HR1.out _ _ (Below.refl _ _) rfl
          case s10 =>
            refine Grow.step_in (by rfl) (by rfl) ?_
            intro E W ec eg ef hG hd hu R HR1
            have e66 : E (.tmp 66) = .int .u8 (b.toNat : Int) := hd 9 66 (by kernel_rfl)
            clear hd hu
            have hk1 := HK.out.2.1
            go_simp
            exact HR1.out _ _ (Below.refl _ _) rfl
          case s11 =>
            refine Grow.step_in (by rfl) (by rfl) ?_
            intro E W ec eg ef hG hd hu R HR1
            have e67 : E (.tmp 67) = .int .u8 (k : Int) := hd 10 67 (by kernel_rfl)
            clear hd hu
            have hk2 := HK.out.2.2
            go_simp
            exact HR1.out _ _ (Below.refl _ _) rfl
          case s12 =>
            refine Grow.step_in (by rfl) (by rfl) ?_
            intro E W ec eg ef hG hd hu R HR1
            have e62 : E (.tmp 62) = .int .u8 (k : Int) := hd 5 62 (by kernel_rfl)
            have e68 : E (.tmp 68) = .int .u8 ((k : Int) + 1) := hd 11 68 (by kernel_rfl)
            clear hd hu
            have hsl := ab_slice k HK.out.1 W
            go_simp
            exact HR1.out _ _ (Below.refl _ _) rfl
          case s13 =>
            refine Grow.step_in (by rfl) (by rfl) ?_
            intro E W ec eg ef hG hd hu R HR1
            have e1 : E (.tmp 1) = .int .u16 (y : Int) := hu 1 (by kernel_rfl)
            clear hd hu
            go_simp
            exact HR1.out _ _ (Below.refl _ _) rfl
          case s14 =>
            refine Grow.step_in (by rfl) (by rfl) ?_
            intro E W ec eg ef hG hd hu R HR1
            have e70 : E (.tmp 70) = .int .u16 (y : Int) := hd 13 70 (by kernel_rfl)
            clear hd hu
            have hv1 := HV.out.2.1
            go_simp
            exact HR1.out _ _ (Below.refl _ _) rfl
          case s15 =>
            refine Grow.step_in (by rfl) (by rfl) ?_
            intro E W ec eg ef hG hd hu R HR1
            have e71 : E (.tmp 71) = .int .u16 (V : Int) := hd 14 71 (by kernel_rfl)
            clear hd hu
            have hv2 := HV.out.2.2
            go_simp
            exact HR1.out _ _ (Below.refl _ _) rfl
          case s16 =>
            refine Grow.step_in (by rfl) (by rfl) ?_
            intro E W ec eg ef hG hd hu R HR1
            have e72 : E (.tmp 72) = .int .i64 (V : Int) := hd 15 72 (by kernel_rfl)
            clear hd hu
            have hmk := make_bytes W V (by have := HV.out.1; omega)
            go_simp
            exact HR1.out _ _ ((Below.refl _ _).alloc (Nat.le_refl _) _) ⟨_, rfl, byt_filled' (heap_alloc_new W _) (by simp) (by have := HV.out.1; omega) (by have h1 := hG.size; have h2 : w3.drew.heap.size = w3.heap.size := rfl; omega)⟩
          case s17 =>
            refine Grow.step_in (by rfl) (by rfl) ?_
            intro E W ec eg ef hG hd hu R HR1
            have e69 : E (.tmp 69) = .string (st (abK k)) := hd 12 69 (by kernel_rfl)
            have h73 := hd 16 73 (by kernel_rfl)
            clear hd hu
            obtain ⟨A, e73, hA⟩ := h73
            go_simp
            exact HR1.out _ _ (Below.refl _ _) ⟨A, rfl, hA⟩
          case s18 =>
            refine Grow.step_in (by rfl) (by rfl) ?_
            intro E W ec eg ef hG hd hu R HR1
            have h74 := hd 17 74 (by kernel_rfl)
            clear hd hu
            obtain ⟨A, e74, hA⟩ := h74
            go_simp
            exact HR1.out _ _ ((Below.refl _ _).alloc (Nat.le_refl _) _) ⟨_, rfl, chs_block (L := [((A, V, V), ⟨abK k, List.replicate V 0, false⟩)]) (heap_alloc_new W _) (by have h1 := hG.size; have h2 : w3.drew.heap.size = w3.heap.size := rfl; show w3.heap.size ≤ W.heap.size; omega) (fun y hy => by obtain rfl := List.mem_singleton.1 hy; exact hA.alloc _) (by simp)⟩
        case gfin =>
          intro W hG
          refine Grow.fin_dst (by rfl) ?_
          rintro _ rfl
          refine Grow.fin_dst (by rfl) ?_
          rintro _ rfl
          refine Grow.fin_dst (by rfl) ?_
          rintro _ rfl
          refine Grow.fin_dst (by rfl) ?_
          rintro _ rfl
          refine Grow.fin_dst (by rfl) ?_
          rintro _ rfl
          refine Grow.fin_dst (by rfl) ?_
          rintro _ rfl
          refine Grow.fin_dst (by rfl) ?_
          rintro _ rfl
          refine Grow.fin_dst (by rfl) ?_
          rintro _ rfl
          refine Grow.fin_dst (by rfl) ?_
          rintro _ rfl
          refine Grow.fin_dst (by rfl) ?_
          rintro _ rfl
          refine Grow.fin_dst (by rfl) ?_
          rintro _ rfl
          refine Grow.fin_dst (by rfl) ?_
          rintro _ rfl
          refine Grow.fin_dst (by rfl) ?_
          rintro _ rfl
          refine Grow.fin_dst (by rfl) ?_
          rintro _ rfl
          refine Grow.fin_dst (by rfl) ?_
          rintro _ rfl
          refine Grow.fin_dst (by rfl) ?_
          rintro _ rfl
          refine Grow.fin_dst (by rfl) ?_
          rintro _ ⟨A6, rfl, hy6⟩
          refine Grow.fin_dst (by rfl) ?_
          rintro _ ⟨A7, rfl, hy7⟩
          refine Grow.fin_dst (by rfl) ?_
          rintro _ ⟨q8, rfl, hch⟩
          simp only [Act.put, List.setIfInBounds_toArray, List.set_cons_zero, List.set_cons_succ]
          refine Grow.fin_end ?_
          have HW := Lib.hid hG
          clear hG
          have hap := (H3.out.1.below HW.out).capply (H3.out.2.1.below HW.out) (fun k h => h.1) HR.out.2.2.1 (by have := HR.out.2.2.2.2.2.2.2; omega) (by have := HR.out.2.2.2.2; omega) hch (fun k hk => ⟨fun h => by have := H3.out.2.2; omega, .inr (by have := H3.out.2.2; omega)⟩) (by
            have h7 : wtC [(⟨abK k, List.replicate V 0, false⟩ : Ch)] = 1 + V + 21 := by simp [wtC, abK]
            have := HR.out.2.2.2.2.2
            have := HV.out.1
            omega)
          have hst := full_step (d := d) (s := s) (k := k) (V := V) (by have := HR.out.2.2.2.2.2.2.2; omega) HV.out.1 HR.out.2.2.1 HR.out.2.2.2.1 HR.out.2.2.2.2.1 HR.out.2.2.2.2.2.1
          obtain ⟨⟨d2, s2, E⟩, hAM⟩ : ∃ r, applyC d s [⟨abK k, List.replicate V 0, false⟩] = r := ⟨_, rfl⟩
          rw [hAM] at hap hst
          simp only at hap hst
          have HST := Lib.hid hst
          clear hAM hst hch hy6 hy7
          gi_wp2_with (refine ⟨trivial, ?_⟩; gi_at_call 11; refine (callsIn_wide.2 hap).mono ?_; clear hap; rintro _ w7 ⟨rfl, hd7, hc7, _⟩)
          have H7 := Lib.hid (And.intro hd7 (hc7.mono (T := fun k => m ≤ k ∧ k < w7.heap.size) fun k hk h => by have := H3.out.2.2; have := HW.out.size; have h2 : w3.drew.heap.size = w3.heap.size := rfl; rcases h with h | h <;> exact ⟨by omega, hk⟩))
          clear hd7 hc7
          rcases HST.out with ⟨rfl, rfl, rfl⟩ | ⟨rfl, hps2, hg2, htu2, hwt2⟩
          · have hkeys := ckeys_any H7.out.2 (by have := HR.out.2.2.2.2.2; omega)
            clear HST
            go_wp2_with (first
              | (go_at_call 12; refine hkeys.mono ?_; clear hkeys; rintro _ w8 ⟨A8, n8, c8, rfl, hs8, hb8⟩
                 obtain rfl : n8 = s2.t.length := by rw [← hs8.len]; simp
                 have hcs8 := H7.out.2.below hb8
                 have herr := cerr_any hcs8
                 have herr2 := cerr_any hcs8.drew
                 have hget := cget_any hcs8 smK (by simp [smK]) (by rw [HR.out.2.2.2.1]; simp)
                 have hget2 := cget_any hcs8.drew smK (by simp [smK]) (by rw [HR.out.2.2.2.1]; simp)
                 rw [HR.out.2.2.1.e] at herr herr2
                 rw [HR.out.2.2.2.1] at hget hget2
                 have H8 := Lib.hid hb8
                 clear hs8 hb8 hcs8)
              | (go_at_call 13; first | (refine herr.mono ?_; rintro _ _ ⟨rfl, rfl⟩) | (refine herr2.mono ?_; rintro _ _ ⟨rfl, rfl⟩))
              | (go_at_call 8; first | (refine hget.mono ?_; rintro _ w9 ⟨A9, n9, c9, rfl, hy9, hb9⟩) | (refine hget2.mono ?_; rintro _ w9 ⟨A9, n9, c9, rfl, hy9, hb9⟩)
                 have hcv9 := byt_string hy9
                 have H9 := Lib.hid hb9
                 clear hy9 hb9))
            go_roundw
            case rel =>
              have hb := H8.out.trans (H9.out.mono H8.out.size)
              have hr := HR.out
              have hs := HS.out.2
              have hsz := hb.size
              unfold RCF
              exact ⟨j + 1, d2, s2, by omega, by simp, H7.out.1.below hb, (H7.out.2.below hb).mono fun k _ hk => ⟨hk.1, Nat.lt_of_lt_of_le hk.2 hsz⟩, hr.2.2.1.more (by omega), hr.2.2.2.1, by omega, by omega⟩
            case measure => simp only [intOf]; have h1 := HR.out.2.2.2.2.2.2.2; omega
          · have hget := cget_any H7.out.2 smK (by simp [smK]) (by rw [hg2]; simp)
            rw [hg2] at hget
            have HP2 := Lib.hid (And.intro hps2 (And.intro hg2 (And.intro htu2 hwt2)))
            clear HST hps2 hg2 htu2 hwt2
            go_wp2_with (go_at_call 8; refine hget.mono ?_; clear hget; rintro _ w9 ⟨A9, n9, c9, rfl, hy9, hb9⟩; have hcv9 := byt_string hy9; have H9 := Lib.hid hb9; clear hy9 hb9)
            go_roundw
            case rel =>
              have hb := H9.out
              have hr := HR.out
              have hs := HS.out.2
              have hsz := hb.size
              unfold RCF
              exact ⟨j + 1, d2, s2, by omega, by simp, H7.out.1.below hb, (H7.out.2.below hb).mono fun k _ hk => ⟨hk.1, Nat.lt_of_lt_of_le hk.2 hsz⟩, HP2.out.1, HP2.out.2.1, HP2.out.2.2.1, HP2.out.2.2.2⟩
            case measure => simp only [intOf]; have h1 := HR.out.2.2.2.2.2.2.2; omega
      · have hlt' : ¬ (j : Int) < (n : Int) := by omega
        have hop := hdk.copen hps (by omega)
        have hks := ckeys_any hcs (by omega)
        have HR := Lib.hid (And.intro hcs (show s.t.length ≤ 100000 by omega))
        clear hps hg htu hwt hj hlt hn20 hls hcs
        go_upto_region 23 with (go_at_call 9; refine hop.mono ?_; clear hop; rintro _ w4 ⟨p4, s4, rfl, hc4, hd4, hb4, _, ht4, _, _⟩)
        have hk4 := ckeys_any hc4 (by rw [ht4]; have := HR.out.2; omega)
        have H4 := Lib.hid (And.intro (HR.out.1.below hb4) (And.intro hd4.bel ht4))
        clear hks hc4 hd4 hb4 ht4 hdk
        go_wp2_with (first
          | (go_at_call 12; refine hk4.mono ?_; clear hk4; rintro _ w5 ⟨A5, n5, c5, rfl, hs5, hb5⟩
             obtain rfl : n5 = s.t.length := by rw [← hs5.len, H4.out.2.2]; simp
             have hks := ckeys_any (H4.out.1.below hb5) (by have := HR.out.2; omega)
             have H5 := Lib.hid (H4.out.2.1.trans (hb5.mono H4.out.2.1.size))
             clear hs5 hb5)
          | (go_at_call 12; refine hks.mono ?_; clear hks; rintro _ w6 ⟨A6, n6, c6, rfl, hs6, hb6⟩
             obtain rfl : n6 = s.t.length := by rw [← hs6.len]; simp
             have H6 := Lib.hid (H5.out.trans (hb6.mono H5.out.size))
             clear hs6 hb6))
        go_ret
        exact ⟨rfl, H6.out⟩
theorem law_cfull {w : World} {x : Int} (hx : (Lit.int .u8 x).wf = true) {y : Int} (hy : (Lit.int .u16 y).wf = true) {S : Nat → Prop} {A : Option Addr} {n c : Nat} {ks : List UInt8} (h : Byt w S A n c ks) :
    Calls Try.prog 5 #[.int .u8 x, .int .u16 y, .slice A n c] w fun e w' => e = .returned (.bool true) ∧ Below w.heap.size w w' := by
  have bx := bounds_u8 hx
  have b16 := bounds_u16 hy
  obtain ⟨x, rfl⟩ := Int.eq_ofNat_of_zero_le bx.1
  obtain ⟨y, rfl⟩ := Int.eq_ofNat_of_zero_le b16.1
  exact walk_cfull h x y (by omega)
end Go.Proofs.Ytpdkoiogfaimaaa

/-! The statement CellsFull, proved: for every two numbers and every names the law returns true. No condition. -/
namespace Go.Proofs.Ytpdkoiogfaimaaa.cellsFull
open Go.ChangeShapes Go.WideShapes Go.ChangeAt Go.RowKit
set_option linter.unusedVariables false

set_option maxRecDepth 100000 in
theorem lifted (os : Os) (started : os.Started) (H : Type) (enc : TypeId × Value → H) :
    ReturnsInHanded {} Try.checked os 5 .any (Rows.cellsFullSpec.pre6 enc Try.prog Try.f5 Rows.cellsFullRow.domain false) (Rows.cellsFullSpec.post enc Try.prog Try.f5 false true false false) := by
  refine returnsInHanded_of_change (C := Try.checked) own_knob started (by kernel_rfl) Try.func5
    (ChangeSpec.witness6 (enc := enc) (C := Try.checked) false ⟨#[], #[.int .u8 0, .int .u16 0, .slice none 0 0], []⟩ 8 (by kernel_rfl) (by kernel_rfl) (by kernel_rfl) (by kernel_rfl)) ?_
  intro W base args ds gs before hval0 hW hcnd _
  have hval : ∀ (j : Nat) t v, Try.f5.params[j]? = some t → args[j]? = some v → Value.okWide Try.prog W .any base t v := hval0
  have hW' := hW
  obtain ⟨p, q, hA0, hV, rfl, hfz, hnd⟩ := hW
  have hA : DataW.TrodAll enc Try.prog W 0 (fun _ => true) true Try.f5.params.toList args.toList ds p := hA0
  rw [Try.params5] at hA hval
  obtain ⟨v0, vs0, d0, ds0, p0, q0, hargs, rfl, rfl, h0, r0⟩ := trodAll_cons hA
  obtain ⟨v1, vs1, d1, ds1, p1, q1, rfl, rfl, rfl, h1, r1⟩ := trodAll_cons r0
  obtain ⟨v2, vs2, d2, ds2, p2, q2, rfl, rfl, rfl, h2, r2⟩ := trodAll_cons r1
  obtain ⟨rfl, rfl, rfl⟩ := trodAll_nil r2
  obtain rfl : args = #[v0, v1, v2] := by cases args; simp_all
  obtain ⟨rfl, rfl⟩ := trodVars_none hV
  obtain ⟨a0, rfl, rfl, rfl, w0⟩ := open_int Try.underlying5 (hval 0 5 v0 rfl rfl) h0
  obtain ⟨a1, rfl, rfl, rfl, w1⟩ := open_int Try.underlying48 (hval 1 48 v1 rfl rfl) h1
  obtain ⟨a2, len2, cap2, rfl⟩ := okWide_slice Try.underlying23 (hval 2 23 v2 rfl rfl)
  obtain ⟨l2, w2⟩ := bytes_in rfl h2
  clear hA0 hval0
  refine (law_cfull w0 w1 w2).mono fun e W' ⟨he, bel⟩ => ?_
  subst he
  exact ⟨_, rfl, _, _, _, [], _, [], hW', trodAll_mk1 (shut_bool Try.underlying4 _), (trodAll_cons_mk (shut_int Try.underlying5 w0) (trodAll_cons_mk (shut_int Try.underlying48 w1) (trodAll_cons_mk (Below.trod laid_out (by kernel_rfl) (of_decide_eq_true (by kernel_rfl)) h2 bel (trod_lt h2)) trodAll_mk0))), rfl, bel.frame _, fun h => by cases h⟩

theorem proved : Rows.CellsFullSaid :=
  OpenClaim.holds_of_wide 5 Try.f5 rfl rfl rfl rfl rfl rfl rfl ⟨rfl, rfl, rfl, rfl, rfl⟩ rfl rfl rfl rfl rfl (by kernel_rfl) Try.func5 (by kernel_rfl)
    (of_decide_eq_true (by kernel_rfl)) (by unfold Func.isWrapper; first | (rw [if_pos (by decide +kernel)]; kernel_rfl) | (rw [if_neg (by decide +kernel)]; exact ⟨rfl, rfl⟩))
    (fun os started H enc _ => lifted os started H enc)
#print axioms proved
end Go.Proofs.Ytpdkoiogfaimaaa.cellsFull
