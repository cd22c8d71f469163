/-
  The statement CellsTurns: its walk.
  The statement CellsTurns, proved: for every number, every names and every byte the law returns true. No condition.
-/
import Derived.Test.YtpdkoiogfaimaaaPkTurns02
import Derived.Test.YtpdkoiogfaimaaaPkTurns03
import Derived.Test.YtpdkoiogfaimaaaPk20
import Derived.Test.YtpdkoiogfaimaaaPk21
/-! The statement CellsTurns: its walk. -/
namespace Go.Proofs.Ytpdkoiogfaimaaa
open Go.RowKit Codec

def tuK (k : Nat) : List UInt8 := [UInt8.ofNat (97 + k)]
theorem and3 (b : UInt8) : bits BinOp.and IntKind.u8 (b.toNat : Int) 3 = ((b.toNat % 4 : Nat) : Int) := by
  have h : ∀ z : Fin 256, bits BinOp.and IntKind.u8 ((z.val : Nat) : Int) 3 = ((z.val % 4 : Nat) : Int) := by decide +kernel
  exact h ⟨b.toNat, b.toNat_lt⟩
theorem tu_slice0 : ∀ W, (Instr.slice 9 (.string ⟨#[97, 98, 99, 100]⟩) (some (.int .u8 0)) (some (.int .u8 1)) none).run Try.prog W = .ok (.string (st (tuK 0))) W := fun W => by kernel_rfl
theorem tu_slice1 : ∀ W, (Instr.slice 9 (.string ⟨#[97, 98, 99, 100]⟩) (some (.int .u8 1)) (some (.int .u8 2)) none).run Try.prog W = .ok (.string (st (tuK 1))) W := fun W => by kernel_rfl
theorem tu_slice2 : ∀ W, (Instr.slice 9 (.string ⟨#[97, 98, 99, 100]⟩) (some (.int .u8 2)) (some (.int .u8 3)) none).run Try.prog W = .ok (.string (st (tuK 2))) W := fun W => by kernel_rfl
theorem tu_slice3 : ∀ W, (Instr.slice 9 (.string ⟨#[97, 98, 99, 100]⟩) (some (.int .u8 3)) (some (.int .u8 4)) none).run Try.prog W = .ok (.string (st (tuK 3))) W := fun W => by kernel_rfl
theorem tu_slice (k : Nat) (hk : k < 4) (W : World) : (Instr.slice 9 (.string ⟨#[97, 98, 99, 100]⟩) (some (.int .u8 (k : Int))) (some (.int .u8 ((k : Int) + 1))) none).run Try.prog W = .ok (.string (st (tuK k))) W := by
  have h : k = 0 ∨ k = 1 ∨ k = 2 ∨ k = 3 := by omega
  rcases h with rfl | rfl | rfl | rfl
  · exact tu_slice0 W
  · exact tu_slice1 W
  · exact tu_slice2 W
  · exact tu_slice3 W
/-- One of four names, two bytes each. -/
def Kp (t : Tb) : Prop := ∀ p ∈ t, ∃ k, k < 4 ∧ p.1 = tuK k ∧ p.2.length = 2
theorem tuK_lt : ∀ a b : Fin 4, tuK a.val < tuK b.val → a.val < b.val := by decide +kernel
theorem kp_few : ∀ (t : Tb) (lo : Nat), Srt t → (∀ p ∈ t, ∃ k, lo ≤ k ∧ k < 4 ∧ p.1 = tuK k) → t.length ≤ 4 - lo
  | [], _, _, _ => Nat.zero_le _
  | p :: t, lo, hs, h => by
    obtain ⟨hs1, hs2⟩ := List.pairwise_cons.1 hs
    obtain ⟨k, hk1, hk2, hk3⟩ := h p (by simp)
    have ih := kp_few t (k + 1) hs2 fun q hq => by
      obtain ⟨k2, _, h2, h3⟩ := h q (by simp [hq])
      have hlt := hs1 q hq
      rw [hk3, h3] at hlt
      exact ⟨k2, tuK_lt ⟨k, hk2⟩ ⟨k2, h2⟩ hlt, h2, h3⟩
    rw [List.length_cons]
    omega
theorem kp_wt : ∀ t : Tb, Kp t → wtT t ≤ 23 * t.length
  | [], _ => by simp [wtT]
  | p :: t, h => by
    have ih := kp_wt t fun q hq => h q (by simp [hq])
    obtain ⟨k, _, h2, h3⟩ := h p (by simp)
    have e : wtT (p :: t) = wtT [p] + wtT t := by rw [← wtT_app]; rfl
    have e2 : wtT [p] = p.1.length + p.2.length + 20 := by simp [wtT]
    have e3 : p.1.length = 1 := by rw [h2]; rfl
    rw [e, e2, List.length_cons]
    omega
theorem Kp.step {t : Tb} (h : Kp t) {k : Nat} (hk : k < 4) {v : List UInt8} (hv : v.length = 2) : Kp (doL t [⟨tuK k, v, false⟩]) := by
  intro p hp
  have hp : p ∈ doC t ⟨tuK k, v, false⟩ := hp
  unfold doC at hp
  rcases List.mem_append.1 hp with hp | hp
  · rcases List.mem_append.1 hp with hp | hp
    · exact h p (List.mem_filter.1 hp).1
    · simp only [Bool.false_eq_true, if_false, List.mem_singleton] at hp
      rw [hp]
      exact ⟨k, hk, rfl, hv⟩
  · exact h p (List.mem_filter.1 hp).1
theorem Kp.wt {t : Tb} (h : Kp t) (hs : Srt t) : wtT t ≤ 92 ∧ t.length ≤ 4 := by
  have h1 := kp_few t 0 hs fun p hp => by obtain ⟨k, h1, h2, _⟩ := h p hp; exact ⟨k, Nat.zero_le _, h1, h2⟩
  have h2 := kp_wt t h
  omega
theorem tabOf_tb2 (t : Tb) : tabOf (tb2 t) = t := by
  unfold tabOf tb2
  rw [List.map_map]
  exact List.map_id t
/-- The law's loop. -/
def RTu (w : World) (m g p N : Nat) (tv i : Value) (wr : World) : Prop :=
  ∃ (j : Nat) (d : DM) (s : SM) (At : Option Addr) (nt ct : Nat) (T M : Nat → Prop), j ≤ N ∧ i = .int .i64 (j : Int) ∧ tv = .slice At nt ct ∧ Dsk w m wr g d ∧ Cs wr T p g s ∧ Cms wr M At nt ct (tb2 s.t) ∧ (∀ k, T k → m ≤ k ∧ k < wr.heap.size ∧ ¬ M k) ∧ (∀ k, M k → m ≤ k) ∧
    PS d s (2 + 65536 * j) ∧ s.turns ≤ j ∧ (0 < j → 0 < s.turns) ∧ (j = 0 → s.log.l = []) ∧ Kp s.t ∧ 4 ≤ hn d
theorem turns_step {d : DM} {s : SM} {j k : Nat} {v : List UInt8} (hj : j < 60) (hk : k < 4) (hv : v.length = 2) (hps : PS d s (2 + 65536 * j)) (ht : s.turns ≤ j) (ht0 : 0 < j → 0 < s.turns) (hl0 : j = 0 → s.log.l = []) (hkp : Kp s.t) (hh : 4 ≤ hn d) :
    (applyC d s [⟨tuK k, v, false⟩]).2.2 = 0 ∧ (applyC d s [⟨tuK k, v, false⟩]).2.1.t = doL s.t [⟨tuK k, v, false⟩] ∧ PS (applyC d s [⟨tuK k, v, false⟩]).1 (applyC d s [⟨tuK k, v, false⟩]).2.1 (2 + 65536 * (j + 1)) ∧ (applyC d s [⟨tuK k, v, false⟩]).2.1.turns ≤ j + 1 ∧ 0 < (applyC d s [⟨tuK k, v, false⟩]).2.1.turns ∧ 4 ≤ hn (applyC d s [⟨tuK k, v, false⟩]).1 := by
  have hw := hkp.wt hps.srt
  have hw2 := (hkp.step hk hv).wt (hps.srt.chs _)
  have hm : [(⟨tuK k, v, false⟩ : Ch)].all mayC = true := by simp [mayC, tuK]; omega
  have hz := hps.room (l := [⟨tuK k, v, false⟩]) (by simp) (by simp; omega) (by omega) hm (by omega)
  have ha := hps.apply_ [⟨tuK k, v, false⟩] (by simp) (by simp; omega) (by omega)
  obtain ⟨h1, h2, h3, h4, h5, _⟩ := ha.yes hz
  have hhn : hn d ≤ 65536 := by have h1 : hn d = d.l.length / 2 := rfl; have := hps.few; omega
  refine ⟨hz, h2, h1.more (by omega), by omega, ?_, by rw [hn_len ha.len]; exact hh⟩
  rcases Nat.eq_zero_or_pos j with h0 | h0
  · have := h5 (by simp) (hl0 h0)
    omega
  · have := ht0 h0
    omega
set_option maxHeartbeats 8000000 in
set_option maxRecDepth 100000 in
theorem walk_cturns {w : World} {S : Nat → Prop} {A : Option Addr} {n c : Nat} {ks : List UInt8} (h : Byt w S A n c ks) (x : Nat) (SD : UInt8) :
    Calls Try.prog 4 #[.int .u8 (x : Int), .slice A n c, .int .u8 (SD.toNat : Int)] w fun e w' => e = .returned (.bool true) ∧ Below w.heap.size w w' := by
  have haw := celawake_true w
  by_cases hn : 60 < n
  · have hn' : (60 : Int) < (n : Int) := by omega
    clear h hn
    go_enter Try.func4, Try.ntmps4
    go_wp2_with (go_at_call 6; refine haw.mono ?_; clear haw; rintro _ w1 ⟨rfl, hb1⟩)
    go_ret
    exact ⟨rfl, hb1⟩
  · have hn' : ¬ (60 : Int) < (n : Int) := by omega
    obtain ⟨f, hf⟩ : ∃ f, f = x % 8 := ⟨_, rfl⟩
    have hxm : (x : Int) % 8 = (f : Int) := by omega
    have hf8 : f < 8 := by omega
    have hadd0 : IntKind.i64.wrap ((f : Int) + 8) = ((f + 8 : Nat) : Int) := by rw [IntWalk.i64_in _ (by omega)]; simp
    have hwf : IntKind.i64.wrap (f : Int) = (f : Int) := IntWalk.i64_in _ (by omega)
    have HF := Lib.hid hf8
    have HS := Lib.hid (And.intro h (And.intro h.len hn))
    clear h hn hf hf8
    go_enter Try.func4, Try.ntmps4
    go_upto_region 6 with (go_at_call 6; refine haw.mono ?_; clear haw; rintro _ w1 ⟨rfl, hb1⟩)
    have hnew := Dsk.new hb1 (f + 8) (by omega) (by have := HF.out; omega)
    obtain ⟨s0, _, hps0, ht0, hu0, hl0⟩ := PS.new (f + 8) (by omega) (by have := HF.out; omega)
    have hlen := newM_len (f + 8) (by omega) (by have := HF.out; omega)
    obtain ⟨d0, hd0⟩ : ∃ d0, d0 = (newM ((f + 8 : Nat) : Int)).1 := ⟨_, rfl⟩
    rw [← hd0] at hps0 hnew hlen
    have HPS := Lib.hid (And.intro hps0 (And.intro ht0 (And.intro hu0 (And.intro hl0 hlen))))
    clear hps0 ht0 hu0 hl0 hd0 hlen hb1
    go_upto_region 7 with (go_at_call 10; refine hnew.mono ?_; clear hnew; rintro _ w1 ⟨g, rfl, hd1⟩)
    obtain ⟨m, hm⟩ : ∃ m, m = w1.heap.size := ⟨_, rfl⟩
    rw [← hm] at hd1
    have HM := Lib.hid (show m ≤ w1.heap.size by omega)
    have hop := hd1.copen HPS.out.1 (by omega)
    clear hd1 hm hxm hadd0 hwf
    go_upto_region 8 with (go_at_call 9; refine hop.mono ?_; clear hop; rintro _ w2 ⟨p, s1, rfl, hc2, hd2, hb2, hps1, ht1, hu1, hl1⟩)
    have H2 : Hid (RTu w m g p n (.slice none 0 0) (.int .i64 0) w2) := Lib.hid (by
      have hT1 : s1.t = [] := by rw [ht1, HPS.out.2.1]
      refine ⟨0, d0, s1, none, 0, 0, fun k => m ≤ k ∧ k < w2.heap.size, fun _ => False, Nat.zero_le _, rfl, rfl, hd2, hc2.mono (T := fun k => m ≤ k ∧ k < w2.heap.size) fun k hk h => ⟨by have := HM.out; omega, hk⟩, by rw [hT1]; exact Cms.nil _ _ _ _ (Nat.zero_le _), fun k hk => ⟨hk.1, hk.2, id⟩, fun _ h => h.elim, hps1, by omega, fun h => absurd h (by omega), fun _ => hl1 HPS.out.2.2.2.1, by rw [hT1]; exact (fun _ h => by cases h), ?_⟩
      have h1 : hn d0 = d0.l.length / 2 := rfl
      have h2 := HPS.out.2.2.2.2
      omega)
    clear hc2 hd2 hb2 hps1 ht1 hu1 hl1 HPS HM
    go_wp2_with fail
    go_loopw [12, 13] (fun t i wr => RTu w m g p n t i wr) (fun _ i _ => n - (intOf i).toNat)
    case atStart => exact H2.out
    case round =>
      obtain ⟨j, d, s, At, nt, ct, T, M, hj, rfl, rfl, hdk, hcs, hcm, hTM, hMm, hps, htu, htu0, hl0, hkp, hh⟩ := hrel
      clear H2
      have hn60 := HS.out.2.2
      have hwk := hkp.wt hps.srt
      by_cases hlt : j < n
      · have hlt' : (j : Int) < (n : Int) := by omega
        have hadd1 := IntWalk.i64_in ((j : Int) + 1) (by omega)
        obtain ⟨q, o, rfl, _, hq, hcell⟩ := HS.out.1.row (by omega)
        have hci := hcell j hlt
        obtain ⟨b, hb⟩ : ∃ b, b = ks[j]?.getD 0 := ⟨_, rfl⟩
        rw [← hb] at hci
        obtain ⟨k, hk⟩ : ∃ k, k = b.toNat % 4 := ⟨_, rfl⟩
        obtain ⟨JB, hJB⟩ : ∃ JB, JB = UInt8.ofNat j := ⟨_, rfl⟩
        have hJn : JB.toNat = j := by rw [hJB]; simp; omega
        have HK : Hid (k < 4 ∧ bits BinOp.and IntKind.u8 (b.toNat : Int) 3 = (k : Int) ∧ IntKind.u8.wrap ((k : Int) + 1) = (k : Int) + 1 ∧ IntKind.u8.wrap (j : Int) = (JB.toNat : Int)) := Lib.hid ⟨by omega, by rw [hk]; exact and3 b, IntWalk.u8_in _ (by omega), by rw [hJn]; exact IntWalk.u8_in _ (by omega)⟩
        have HC : Hid (q < wr.drew.heap.size ∧ wr.drew.cell? ⟨q, o + j, none⟩ = some (.int .u8 (b.toNat : Int))) := Lib.hid ⟨Nat.lt_of_lt_of_le hq hdk.bel.size, (hdk.bel.cell (p := ⟨_, _, none⟩) hq).trans hci⟩
        have hst := fun (k : Nat) (hk : k < 4) => turns_step (d := d) (s := s) (k := k) (v := [SD, JB]) (by omega : j < 60) hk rfl hps htu htu0 hl0 hkp hh
        have HST := Lib.hid hst
        have HR := Lib.hid (And.intro hdk (And.intro hcs (And.intro hcm (And.intro hTM (And.intro hMm (And.intro hps (And.intro hkp (And.intro hwk (And.intro hlt (And.intro hn60 htu))))))))))
        clear hdk hcs hcm hTM hMm hps htu htu0 hl0 hkp hh hwk hlt hn60 hst hq hci hcell hb hk hj hJB hJn
        go_upto_region 14 with fail
        refine wp_region_grow (fun W W' => Below W.heap.size W W') (Grow.nth [fun v _ => v = .slice (some ⟨q, o, none⟩) n c, fun v _ => v = .int .i64 (j : Int), fun v _ => v = .pointer (some ⟨q, o + j, none⟩), fun v _ => v = .int .u8 (b.toNat : Int), fun v _ => v = .int .u8 (k : Int), fun v _ => v = .slice (some ⟨q, o, none⟩) n c, fun v _ => v = .int .i64 (j : Int), fun v _ => v = .pointer (some ⟨q, o + j, none⟩), fun v _ => v = .int .u8 (b.toNat : Int), fun v _ => v = .int .u8 (k : Int), fun v _ => v = .int .u8 ((k : Int) + 1), fun v _ => v = .string (st (tuK k)), fun v _ => v = .int .u8 (SD.toNat : Int), fun v _ => v = .int .i64 (j : Int), fun v _ => v = .int .u8 (JB.toNat : Int), fun v W => ∃ A, v = .slice A 2 2 ∧ Byt W (wr.heap.size ≤ ·) A 2 2 [SD, JB], fun v W => ∃ A, v = .agg #[.string (st (tuK k)), .slice A 2 2, .bool false] ∧ Byt W (wr.heap.size ≤ ·) A 2 2 [SD, JB], fun v W => ∃ q2, v = .slice (some ⟨q2, 0, none⟩) 1 1 ∧ Chs W (wr.heap.size ≤ ·) (some ⟨q2, 0, none⟩) 1 1 [⟨tuK k, [SD, JB], false⟩], fun v W => ∃ q2, v = .slice (some ⟨q2, 0, none⟩) 1 1 ∧ Chs W (wr.heap.size ≤ ·) (some ⟨q2, 0, none⟩) 1 1 [⟨tuK k, [SD, JB], false⟩]]) 107 (by kernel_rfl) (by kernel_rfl) (by rfl) (fun W => Below.refl _ W) (fun _ _ _ h1 h2 => h1.trans (h2.mono h1.size)) (Grow.mono_nth ?gmono) ?gsteps ?gfin
        case gmono => exact ⟨fun _ _ _ h _ => h, fun _ _ _ h _ => h, fun _ _ _ h _ => h, fun _ _ _ h _ => h, fun _ _ _ h _ => h, fun _ _ _ h _ => h, fun _ _ _ h _ => h, fun _ _ _ h _ => h, fun _ _ _ h _ => h, fun _ _ _ h _ => h, fun _ _ _ h _ => h, fun _ _ _ h _ => h, fun _ _ _ h _ => h, fun _ _ _ h _ => h, fun _ _ _ h _ => h, fun _ _ _ ⟨A, h1, h2⟩ hg => ⟨A, h1, h2.below (hg.mono (Nat.le_refl _))⟩, fun _ _ _ ⟨A, h1, h2⟩ hg => ⟨A, h1, h2.below (hg.mono (Nat.le_refl _))⟩, fun _ _ _ ⟨A, h1, h2⟩ hg => ⟨A, h1, h2.below hg⟩, fun _ _ _ ⟨A, h1, h2⟩ hg => ⟨A, h1, h2.below hg⟩, trivial⟩
        case gsteps =>
          show Grow.allBelow _ 19
          refine And.intro ?_ ?s18
          refine And.intro ?_ ?s17
          refine And.intro ?_ ?s16
          refine And.intro ?_ ?s15
          refine And.intro ?_ ?s14
          refine And.intro ?_ ?s13
          refine And.intro ?_ ?s12
          refine And.intro ?_ ?s11
          refine And.intro ?_ ?s10
          refine And.intro ?_ ?s9
          refine And.intro ?_ ?s8
          refine And.intro ?_ ?s7
          refine And.intro ?_ ?s6
          refine And.intro ?_ ?s5
          refine And.intro ?_ ?s4
          refine And.intro ?_ ?s3
          refine And.intro ?_ ?s2
          refine And.intro ?_ ?s1
          refine And.intro ?_ ?s0
          exact trivial
          case s0 =>
            refine Grow.step_in (by rfl) (by rfl) ?_
            intro E W ec eg ef hG hd hu R HR1
            have e1 : E (.tmp 1) = .slice (some ⟨q, o, none⟩) n c := hu 1 (by kernel_rfl)
            clear hd hu
            go_simp
            exact HR1.out _ _ (Below.refl _ _) rfl
          case s1 =>
            refine Grow.step_in (by rfl) (by rfl) ?_
            intro E W ec eg ef hG hd hu R HR1
            have e13 : E (.tmp 13) = .int .i64 (j : Int) := hu 13 (by kernel_rfl)
            clear hd hu
            go_simp
            exact HR1.out _ _ (Below.refl _ _) rfl
          case s2 =>
            refine Grow.step_in (by rfl) (by rfl) ?_
            intro E W ec eg ef hG hd hu R HR1
            have e44 : E (.tmp 44) = .slice (some ⟨q, o, none⟩) n c := hd 0 44 (by kernel_rfl)
            have e45 : E (.tmp 45) = .int .i64 (j : Int) := hd 1 45 (by kernel_rfl)
            clear hd hu
            have hjl := HR.out.2.2.2.2.2.2.2.2.1
            go_simp
            first | exact HR1.out _ _ (Below.refl _ _) rfl | (rw [if_pos ⟨by omega, by omega⟩]; exact HR1.out _ _ (Below.refl _ _) rfl)
          case s3 =>
            refine Grow.step_in (by rfl) (by rfl) ?_
            intro E W ec eg ef hG hd hu R HR1
            have e46 : E (.tmp 46) = .pointer (some ⟨q, o + j, none⟩) := hd 2 46 (by kernel_rfl)
            clear hd hu
            have hcl := (hG.cell (p := ⟨q, o + j, none⟩) HC.out.1).trans HC.out.2
            go_simp
            exact HR1.out _ _ (Below.refl _ _) rfl
          case s4 =>
            refine Grow.step_in (by rfl) (by rfl) ?_
            intro E W ec eg ef hG hd hu R HR1
            have e47 : E (.tmp 47) = .int .u8 (b.toNat : Int) := hd 3 47 (by kernel_rfl)
            clear hd hu
            have hk1 := HK.out.2.1
            go_simp
            exact HR1.out _ _ (Below.refl _ _) rfl
          case s5 =>
            refine Grow.step_in (by rfl) (by rfl) ?_
            intro E W ec eg ef hG hd hu R HR1
            have e1 : E (.tmp 1) = .slice (some ⟨q, o, none⟩) n c := hu 1 (by kernel_rfl)
            clear hd hu
            go_simp
            exact HR1.out _ _ (Below.refl _ _) rfl
          case s6 =>
            refine Grow.step_in (by rfl) (by rfl) ?_
            intro E W ec eg ef hG hd hu R HR1
            have e13 : E (.tmp 13) = .int .i64 (j : Int) := hu 13 (by kernel_rfl)
            clear hd hu
            go_simp
            exact HR1.out _ _ (Below.refl _ _) rfl
          case s7 =>
            refine Grow.step_in (by rfl) (by rfl) ?_
            intro E W ec eg ef hG hd hu R HR1
            have e49 : E (.tmp 49) = .slice (some ⟨q, o, none⟩) n c := hd 5 49 (by kernel_rfl)
            have e50 : E (.tmp 50) = .int .i64 (j : Int) := hd 6 50 (by kernel_rfl)
            clear hd hu
            have hjl := HR.out.2.2.2.2.2.2.2.2.1
            go_simp
            first | exact HR1.out _ _ (Below.refl _ _) rfl | (rw [if_pos ⟨by omega, by omega⟩]; exact HR1.out _ _ (Below.refl _ _) rfl)
          case s8 =>
            refine Grow.step_in (by rfl) (by rfl) ?_
            intro E W ec eg ef hG hd hu R HR1
            have e51 : E (.tmp 51) = .pointer (some ⟨q, o + j, none⟩) := hd 7 51 (by kernel_rfl)
            clear hd hu
            have hcl := (hG.cell (p := ⟨q, o + j, none⟩) HC.out.1).trans HC.out.2
            go_simp
            exact HR1.out _ _ (Below.refl _ _) rfl
          case s9 =>
            refine Grow.step_in (by rfl) (by rfl) ?_
            intro E W ec eg ef hG hd hu R HR1
            have e52 : E (.tmp 52) = .int .u8 (b.toNat : Int) := hd 8 52 (by kernel_rfl)
            clear hd hu
            have hk1 := HK.out.2.1
            go_simp
            exact HR1.out _ _ (Below.refl _ _) rfl
          case s10 =>
            refine Grow.step_in (by rfl) (by rfl) ?_
            intro E W ec eg ef hG hd hu R HR1
            have e53 : E (.tmp 53) = .int .u8 (k : Int) := hd 9 53 (by kernel_rfl)
            clear hd hu
            have hk2 := HK.out.2.2.1
            go_simp
            exact HR1.out _ _ (Below.refl _ _) rfl
          case s11 =>
            refine Grow.step_in (by rfl) (by rfl) ?_
            intro E W ec eg ef hG hd hu R HR1
            have e48 : E (.tmp 48) = .int .u8 (k : Int) := hd 4 48 (by kernel_rfl)
            have e54 : E (.tmp 54) = .int .u8 ((k : Int) + 1) := hd 10 54 (by kernel_rfl)
            clear hd hu
            have hsl := tu_slice k HK.out.1 W
            go_simp
            exact HR1.out _ _ (Below.refl _ _) rfl
          case s12 =>
            refine Grow.step_in (by rfl) (by rfl) ?_
            intro E W ec eg ef hG hd hu R HR1
            have e2 : E (.tmp 2) = .int .u8 (SD.toNat : Int) := hu 2 (by kernel_rfl)
            clear hd hu
            go_simp
            exact HR1.out _ _ (Below.refl _ _) rfl
          case s13 =>
            refine Grow.step_in (by rfl) (by rfl) ?_
            intro E W ec eg ef hG hd hu R HR1
            have e13 : E (.tmp 13) = .int .i64 (j : Int) := hu 13 (by kernel_rfl)
            clear hd hu
            go_simp
            exact HR1.out _ _ (Below.refl _ _) rfl
          case s14 =>
            refine Grow.step_in (by rfl) (by rfl) ?_
            intro E W ec eg ef hG hd hu R HR1
            have e57 : E (.tmp 57) = .int .i64 (j : Int) := hd 13 57 (by kernel_rfl)
            clear hd hu
            have hk3 := HK.out.2.2.2
            go_simp
            exact HR1.out _ _ (Below.refl _ _) rfl
          case s15 =>
            refine Grow.step_in (by rfl) (by rfl) ?_
            intro E W ec eg ef hG hd hu R HR1
            have e56 : E (.tmp 56) = .int .u8 (SD.toNat : Int) := hd 12 56 (by kernel_rfl)
            have e58 : E (.tmp 58) = .int .u8 (JB.toNat : Int) := hd 14 58 (by kernel_rfl)
            clear hd hu
            go_simp
            exact HR1.out _ _ ((Below.refl _ _).alloc (Nat.le_refl _) _) ⟨_, rfl, byt_filled' (l := [SD, JB]) (heap_alloc_new W _) rfl (by omega) (by have h1 := hG.size; have h2 : wr.drew.heap.size = wr.heap.size := rfl; show wr.heap.size ≤ W.heap.size; omega)⟩
          case s16 =>
            refine Grow.step_in (by rfl) (by rfl) ?_
            intro E W ec eg ef hG hd hu R HR1
            have e55 : E (.tmp 55) = .string (st (tuK k)) := hd 11 55 (by kernel_rfl)
            have h59 := hd 15 59 (by kernel_rfl)
            clear hd hu
            obtain ⟨A, e59, hA⟩ := h59
            go_simp
            exact HR1.out _ _ (Below.refl _ _) ⟨A, rfl, hA⟩
          case s17 =>
            refine Grow.step_in (by rfl) (by rfl) ?_
            intro E W ec eg ef hG hd hu R HR1
            have h60 := hd 16 60 (by kernel_rfl)
            clear hd hu
            obtain ⟨A, e60, hA⟩ := h60
            go_simp
            exact HR1.out _ _ ((Below.refl _ _).alloc (Nat.le_refl _) _) ⟨_, rfl, chs_block (L := [((A, 2, 2), ⟨tuK k, [SD, JB], false⟩)]) (heap_alloc_new W _) (by have h1 := hG.size; have h2 : wr.drew.heap.size = wr.heap.size := rfl; show wr.heap.size ≤ W.heap.size; omega) (fun y hy => by obtain rfl := List.mem_singleton.1 hy; exact hA.alloc _) (by simp)⟩
          case s18 =>
            refine Grow.step_in (by rfl) (by rfl) ?_
            intro E W ec eg ef hG hd hu R HR1
            have h61 := hd 17 61 (by kernel_rfl)
            clear hd hu
            obtain ⟨q2, e61, hA⟩ := h61
            go_simp
            exact HR1.out _ _ (Below.refl _ _) ⟨q2, rfl, hA⟩
        case gfin =>
          intro W hG
          refine Grow.fin_dst (by rfl) ?_
          rintro _ rfl
          refine Grow.fin_dst (by rfl) ?_
          rintro _ rfl
          refine Grow.fin_dst (by rfl) ?_
          rintro _ rfl
          refine Grow.fin_dst (by rfl) ?_
          rintro _ rfl
          refine Grow.fin_dst (by rfl) ?_
          rintro _ rfl
          refine Grow.fin_dst (by rfl) ?_
          rintro _ rfl
          refine Grow.fin_dst (by rfl) ?_
          rintro _ rfl
          refine Grow.fin_dst (by rfl) ?_
          rintro _ rfl
          refine Grow.fin_dst (by rfl) ?_
          rintro _ rfl
          refine Grow.fin_dst (by rfl) ?_
          rintro _ rfl
          refine Grow.fin_dst (by rfl) ?_
          rintro _ rfl
          refine Grow.fin_dst (by rfl) ?_
          rintro _ rfl
          refine Grow.fin_dst (by rfl) ?_
          rintro _ rfl
          refine Grow.fin_dst (by rfl) ?_
          rintro _ rfl
          refine Grow.fin_dst (by rfl) ?_
          rintro _ rfl
          refine Grow.fin_dst (by rfl) ?_
          rintro _ ⟨A6, rfl, hy6⟩
          refine Grow.fin_dst (by rfl) ?_
          rintro _ ⟨A7, rfl, hy7⟩
          refine Grow.fin_dst (by rfl) ?_
          rintro _ ⟨q7, rfl, _⟩
          refine Grow.fin_dst (by rfl) ?_
          rintro _ ⟨q8, rfl, hch⟩
          simp only [Act.put, List.setIfInBounds_toArray, List.set_cons_zero, List.set_cons_succ]
          refine Grow.fin_end ?_
          have HW := Lib.hid (Grow.below_of_drew hG)
          clear hG
          have hst := HST.out k HK.out.1
          obtain ⟨X, hX⟩ : ∃ X : Ch, X = ⟨tuK k, [SD, JB], false⟩ := ⟨_, rfl⟩
          rw [← hX] at hst hch
          have hwX : wtC [X] ≤ 30 := by rw [hX]; simp [wtC, tuK]
          have hcsW := (HR.out.2.1.mono (T := fun k => T k ∧ k < wr.heap.size) fun k hk h => ⟨h, hk⟩).below HW.out
          have hap := (HR.out.1.below HW.out).capply hcsW (fun k h => (HR.out.2.2.2.1 k h.1).1) HR.out.2.2.2.2.2.1 (by have := HR.out.2.2.2.2.2.2.2.2.2; omega) (by have := HR.out.2.2.2.2.2.2.2.2.2; omega) hch (fun k hk => ⟨fun h => by omega, .inr (by have := HR.out.1.top; omega)⟩) (by have := HR.out.2.2.2.2.2.2.2.1; omega)
          have HX := Lib.hid (And.intro hX (And.intro hch (And.intro hst hwX)))
          rw [hst.1] at hap
          obtain ⟨d2, hd2⟩ : ∃ d2, d2 = (applyC d s [X]).1 := ⟨_, rfl⟩
          obtain ⟨s2, hs2⟩ : ∃ s2, s2 = (applyC d s [X]).2.1 := ⟨_, rfl⟩
          rw [← hd2, ← hs2] at hap
          have HE := Lib.hid (And.intro hd2 hs2)
          clear hst hX hwX hcsW hch hd2 hs2
          go_upto_region 17 with (go_at_call 11; refine hap.mono ?_; clear hap; rintro _ w5 ⟨rfl, hd5, hc5, hr5⟩)
          have hch5 := (HX.out.2.1.mono (T := fun k => wr.heap.size ≤ k ∧ k < W.heap.size) fun k hk h => ⟨h, hk⟩).turned hr5 (fun k _ hk ht => by
            have hm := HR.out.1.top
            rcases ht with ht | ht
            · omega
            · have := ht.2; omega)
          have hcm5 := ((HR.out.2.2.1.mono (T := fun k => M k ∧ k < wr.heap.size) fun k hk h => ⟨h, hk⟩).below HW.out).turned hr5 (fun k _ hk ht => by
            rcases ht with ht | ht
            · have := HR.out.2.2.2.2.1 k hk.1; omega
            · exact (HR.out.2.2.2.1 k ht.1).2.2 hk.1)
          have hmo := modelof_any hch5 (by omega) (fun x hx => by obtain rfl := List.mem_singleton.1 hx; rw [HX.out.1]; simp)
          have hc5' := hc5.mono (T := fun k => (T k ∧ k < wr.heap.size) ∨ (W.heap.size ≤ k ∧ k < w5.heap.size)) fun k hk h => by
            rcases h with h | h
            · exact .inl h
            · exact .inr ⟨h, hk⟩
          have hszW5 := hr5.size
          have H5 := Lib.hid (And.intro hd5 (And.intro hc5' (And.intro hcm5 hszW5)))
          clear hd5 hc5 hc5' hr5 hch5 hcm5 hszW5
          go_wp2_with (first
            | (go_at_call 17; refine hmo.mono ?_; clear hmo; rintro _ w6 ⟨A6, c6, rfl, hm6, hb6⟩
               have hdo := rdo_any (H5.out.2.2.1.below hb6) HR.out.2.2.2.2.2.1.srt hm6 (by
                 have h1 := HR.out.2.2.1.len
                 have h2 := HR.out.2.2.2.2.2.2.2.1.2
                 have h3 : (tb2 s.t).length = s.t.length := by simp [tb2]
                 omega)
               have H6 := Lib.hid hb6
               clear hm6 hb6)
            | (go_at_call 16; refine hdo.mono ?_; clear hdo; rintro _ w7 ⟨A7, n7, c7, rfl, hm7, hb7⟩
               have H7 := Lib.hid (And.intro hm7 hb7)
               clear hm7 hb7))
          go_roundw
          case rel =>
            have hb57 := H6.out.trans (H7.out.2.mono H6.out.size)
            have hst := HX.out.2.2.1
            rw [← HE.out.1, ← HE.out.2] at hst
            have hs5 := H5.out.2.2.2
            have hs6 := H6.out.size
            have hsW := HW.out.size
            have hs7 := H7.out.2.size
            have hm := HR.out.1.top
            unfold RTu
            refine ⟨j + 1, d2, s2, A7, n7, c7, fun k => (T k ∧ k < wr.heap.size) ∨ (W.heap.size ≤ k ∧ k < w5.heap.size), fun k => (M k ∧ k < wr.heap.size) ∨ w6.heap.size ≤ k, by have := HR.out.2.2.2.2.2.2.2.2.1; omega, by simp, rfl, H5.out.1.below hb57, H5.out.2.1.below hb57, by rw [hst.2.1]; exact H7.out.1, fun k hk => ?_, fun k hk => ?_, hst.2.2.1, hst.2.2.2.1, fun _ => hst.2.2.2.2.1, fun h => absurd h (by omega), by rw [hst.2.1, HX.out.1]; exact HR.out.2.2.2.2.2.2.1.step HK.out.1 rfl, hst.2.2.2.2.2⟩
            · rcases hk with hk | hk
              · have h1 := HR.out.2.2.2.1 k hk.1
                exact ⟨h1.1, by omega, fun h => by
                  rcases h with h | h
                  · exact h1.2.2 h.1
                  · omega⟩
              · exact ⟨by omega, by omega, fun h => by
                  rcases h with h | h
                  · have := h.2; omega
                  · omega⟩
            · rcases hk with hk | hk
              · exact HR.out.2.2.2.2.1 k hk.1
              · omega
          case measure => simp only [intOf]; have h1 := HR.out.2.2.2.2.2.2.2.2.1; omega
      · have hlt' : ¬ (j : Int) < (n : Int) := by omega
        have hop := hdk.copen hps (by omega)
        have hnt : nt = s.t.length := by rw [← hcm.len]; simp [tb2]
        have hvk : (∀ x ∈ tb2 s.t, x.k.length ≤ 1000000) ∧ (∀ q ∈ s.t, q.2.length ≤ 1000000) := ⟨fun x hx => by
          unfold tb2 at hx
          obtain ⟨y, hy, rfl⟩ := List.mem_map.1 hx
          obtain ⟨k, _, h2, _⟩ := hkp y hy
          show y.1.length ≤ 1000000
          rw [h2]
          simp [tuK], fun y hy => by obtain ⟨k, _, _, h3⟩ := hkp y hy; omega⟩
        have hjn : j = n := by omega
        have hdt : decide (s.t = tabOf (tb2 s.t)) = true := decide_eq_true (tabOf_tb2 s.t).symm
        have HR := Lib.hid (And.intro hcs (And.intro hcm (And.intro hvk (And.intro (show nt ≤ 1000000 by omega) (And.intro (show s.t.length ≤ 100000000 by omega) (And.intro hdt (And.intro htu0 hjn)))))))
        clear hps htu htu0 hj hlt hn60 hcs hcm hTM hMm hl0 hkp hh hwk hnt hvk hdt hjn
        go_upto_region 19 with (go_at_call 9; refine hop.mono ?_; clear hop; rintro _ w4 ⟨p4, s4, rfl, hc4, hd4, hb4, _, ht4, hu4, _⟩)
        have H4 := Lib.hid (And.intro (HR.out.1.below hb4) (And.intro hc4 (And.intro (HR.out.2.1.below hb4) (And.intro hd4.bel (And.intro ht4 hu4)))))
        have hh1 := has_any H4.out.1 H4.out.2.2.1 HR.out.2.2.2.1 HR.out.2.2.2.2.1 HR.out.2.2.1.1 HR.out.2.2.1.2
        rw [HR.out.2.2.2.2.2.1] at hh1
        clear hc4 hd4 hb4 ht4 hu4 hdk
        have hnn : (0 : Int) ≤ (s.turns : Int) := by omega
        rcases Nat.eq_zero_or_pos n with hn0 | hn0
        · have he : ((n : Int) == 0) = true := by simp; omega
          go_wp2_with (first
            | (go_at_call 15; refine hh1.mono ?_; clear hh1; rintro _ w5 ⟨rfl, hb5⟩
               have hh2 := has_any (H4.out.2.1.below hb5) (H4.out.2.2.1.below hb5) HR.out.2.2.2.1 (by rw [H4.out.2.2.2.2.1]; exact HR.out.2.2.2.2.1) HR.out.2.2.1.1 (by rw [H4.out.2.2.2.2.1]; exact HR.out.2.2.1.2)
               rw [H4.out.2.2.2.2.1, HR.out.2.2.2.2.2.1] at hh2
               have HB5 := Lib.hid hb5
               clear hb5)
            | (go_at_call 15; refine hh2.mono ?_; clear hh2; rintro _ w6 ⟨rfl, hb6⟩
               have hb46 := HB5.out.trans (hb6.mono HB5.out.size)
               have htr := cturns_any (H4.out.1.below hb46)
               have htr4 := cturns_any (H4.out.2.1.below hb46)
               rw [H4.out.2.2.2.2.2] at htr4
               have HB6 := Lib.hid (H4.out.2.2.2.1.trans (hb46.mono H4.out.2.2.2.1.size))
               clear hb6 hb46)
            | (go_at_call 14; first | (refine htr.mono ?_; rintro _ _ ⟨rfl, rfl⟩) | (refine htr4.mono ?_; rintro _ _ ⟨rfl, rfl⟩)))
          go_ret
          exact ⟨rfl, HB6.out⟩
        · have he : ((n : Int) == 0) = false := by simp; omega
          have hpos : 0 < s.turns := HR.out.2.2.2.2.2.2.1 (by have := HR.out.2.2.2.2.2.2.2; omega)
          have hpos2 : (0 : Int) < (s.turns : Int) := by omega
          go_wp2_with (first
            | (go_at_call 15; refine hh1.mono ?_; clear hh1; rintro _ w5 ⟨rfl, hb5⟩
               have hh2 := has_any (H4.out.2.1.below hb5) (H4.out.2.2.1.below hb5) HR.out.2.2.2.1 (by rw [H4.out.2.2.2.2.1]; exact HR.out.2.2.2.2.1) HR.out.2.2.1.1 (by rw [H4.out.2.2.2.2.1]; exact HR.out.2.2.1.2)
               rw [H4.out.2.2.2.2.1, HR.out.2.2.2.2.2.1] at hh2
               have HB5 := Lib.hid hb5
               clear hb5)
            | (go_at_call 15; refine hh2.mono ?_; clear hh2; rintro _ w6 ⟨rfl, hb6⟩
               have hb46 := HB5.out.trans (hb6.mono HB5.out.size)
               have htr := cturns_any (H4.out.1.below hb46)
               have htr4 := cturns_any (H4.out.2.1.below hb46)
               rw [H4.out.2.2.2.2.2] at htr4
               have HB6 := Lib.hid (H4.out.2.2.2.1.trans (hb46.mono H4.out.2.2.2.1.size))
               clear hb6 hb46)
            | (go_at_call 14; first | (refine htr.mono ?_; rintro _ _ ⟨rfl, rfl⟩) | (refine htr4.mono ?_; rintro _ _ ⟨rfl, rfl⟩)))
          go_ret
          exact ⟨rfl, HB6.out⟩
theorem law_cturns {w : World} {x : Int} (hx : (Lit.int .u8 x).wf = true) {S : Nat → Prop} {A : Option Addr} {n c : Nat} {ks : List UInt8} (h : Byt w S A n c ks) {y : Int} (hy : (Lit.int .u8 y).wf = true) :
    Calls Try.prog 4 #[.int .u8 x, .slice A n c, .int .u8 y] w fun e w' => e = .returned (.bool true) ∧ Below w.heap.size w w' := by
  have bx := bounds_u8 hx
  have b8 := bounds_u8 hy
  obtain ⟨x, rfl⟩ := Int.eq_ofNat_of_zero_le bx.1
  obtain ⟨y, rfl⟩ := Int.eq_ofNat_of_zero_le b8.1
  have hy8 : (y : Int) = ((UInt8.ofNat y).toNat : Int) := by simp; omega
  rw [hy8]
  exact walk_cturns h x (UInt8.ofNat y)
end Go.Proofs.Ytpdkoiogfaimaaa

/-! The statement CellsTurns, proved: for every number, every names and every byte the law returns true. No condition. -/
namespace Go.Proofs.Ytpdkoiogfaimaaa.cellsTurns
open Go.ChangeShapes Go.WideShapes Go.ChangeAt Go.RowKit
set_option linter.unusedVariables false

set_option maxRecDepth 100000 in
theorem lifted (os : Os) (started : os.Started) (H : Type) (enc : TypeId × Value → H) :
    ReturnsInHanded {} Try.checked os 4 .any (Rows.cellsTurnsSpec.pre6 enc Try.prog Try.f4 Rows.cellsTurnsRow.domain false) (Rows.cellsTurnsSpec.post enc Try.prog Try.f4 false true false false) := by
  refine returnsInHanded_of_change (C := Try.checked) own_knob started (by kernel_rfl) Try.func4
    (ChangeSpec.witness6 (enc := enc) (C := Try.checked) false ⟨#[], #[.int .u8 0, .slice none 0 0, .int .u8 0], []⟩ 8 (by kernel_rfl) (by kernel_rfl) (by kernel_rfl) (by kernel_rfl)) ?_
  intro W base args ds gs before hval0 hW hcnd _
  have hval : ∀ (j : Nat) t v, Try.f4.params[j]? = some t → args[j]? = some v → Value.okWide Try.prog W .any base t v := hval0
  have hW' := hW
  obtain ⟨p, q, hA0, hV, rfl, hfz, hnd⟩ := hW
  have hA : DataW.TrodAll enc Try.prog W 0 (fun _ => true) true Try.f4.params.toList args.toList ds p := hA0
  rw [Try.params4] at hA hval
  obtain ⟨v0, vs0, d0, ds0, p0, q0, hargs, rfl, rfl, h0, r0⟩ := trodAll_cons hA
  obtain ⟨v1, vs1, d1, ds1, p1, q1, rfl, rfl, rfl, h1, r1⟩ := trodAll_cons r0
  obtain ⟨v2, vs2, d2, ds2, p2, q2, rfl, rfl, rfl, h2, r2⟩ := trodAll_cons r1
  obtain ⟨rfl, rfl, rfl⟩ := trodAll_nil r2
  obtain rfl : args = #[v0, v1, v2] := by cases args; simp_all
  obtain ⟨rfl, rfl⟩ := trodVars_none hV
  obtain ⟨a0, rfl, rfl, rfl, w0⟩ := open_int Try.underlying5 (hval 0 5 v0 rfl rfl) h0
  obtain ⟨a1, len1, cap1, rfl⟩ := okWide_slice Try.underlying23 (hval 1 23 v1 rfl rfl)
  obtain ⟨l1, w1⟩ := bytes_in rfl h1
  obtain ⟨a2, rfl, rfl, rfl, w2⟩ := open_int Try.underlying5 (hval 2 5 v2 rfl rfl) h2
  clear hA0 hval0
  refine (law_cturns w0 w1 w2).mono fun e W' ⟨he, bel⟩ => ?_
  subst he
  exact ⟨_, rfl, _, _, _, [], _, [], hW', trodAll_mk1 (shut_bool Try.underlying4 _), (trodAll_cons_mk (shut_int Try.underlying5 w0) (trodAll_cons_mk (Below.trod laid_out (by kernel_rfl) (of_decide_eq_true (by kernel_rfl)) h1 bel (trod_lt h1)) (trodAll_cons_mk (shut_int Try.underlying5 w2) trodAll_mk0))), rfl, bel.frame _, fun h => by cases h⟩

theorem proved : Rows.CellsTurnsSaid :=
  OpenClaim.holds_of_wide 4 Try.f4 rfl rfl rfl rfl rfl rfl rfl ⟨rfl, rfl, rfl, rfl, rfl⟩ rfl rfl rfl rfl rfl (by kernel_rfl) Try.func4 (by kernel_rfl)
    (of_decide_eq_true (by kernel_rfl)) (by unfold Func.isWrapper; first | (rw [if_pos (by decide +kernel)]; kernel_rfl) | (rw [if_neg (by decide +kernel)]; exact ⟨rfl, rfl⟩))
    (fun os started H enc _ => lifted os started H enc)
#print axioms proved
end Go.Proofs.Ytpdkoiogfaimaaa.cellsTurns
