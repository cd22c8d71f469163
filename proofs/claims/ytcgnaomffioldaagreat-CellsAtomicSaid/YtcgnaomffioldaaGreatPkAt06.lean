/-
  The statement CellsAtomic: its walk.
  The statement CellsAtomic, proved: for every number, every rows of changes and every two rows of bytes the law returns true. No condition.
-/
import Derived.Test.YtcgnaomffioldaaGreatPkAt01
import Derived.Test.YtcgnaomffioldaaGreatPkAt04
import Derived.Test.YtcgnaomffioldaaGreatPkAt02
import Derived.Test.YtcgnaomffioldaaGreatPkAt05
import Derived.Test.YtcgnaomffioldaaGreatPkAt03
import Derived.Test.YtcgnaomffioldaaGreatPk21
import Derived.Test.YtcgnaomffioldaaGreatPk14
/-! The statement CellsAtomic: its walk. -/
namespace Go.Proofs.YtcgnaomffioldaaGreat
open Go.RowKit Codec

theorem at_and7 (b : UInt8) : bits BinOp.and IntKind.u8 (b.toNat : Int) 7 = ((b.toNat % 8 : Nat) : Int) := by
  have h : ∀ z : Fin 256, bits BinOp.and IntKind.u8 ((z.val : Nat) : Int) 7 = ((z.val % 8 : Nat) : Int) := by decide +kernel
  exact h ⟨b.toNat, b.toNat_lt⟩
theorem at_wt (l : List Ch) : wtC l = sumC l + 21 * l.length := by
  induction l with
  | nil => rfl
  | cons x l ih =>
    have e1 : wtC (x :: l) = x.k.length + x.v.length + 21 + wtC l := rfl
    have e3 : sumC (x :: l) = (x.k.length + x.v.length) + sumC l := by simp [sumC]
    rw [e1, e3, ih, List.length_cons]
    omega
theorem at_tab (t : Tb) : tabOf (tb2 t) = t := by
  unfold tabOf tb2
  rw [List.map_map]
  exact List.map_id t
theorem applyC_len (d : DM) (s : SM) (l : List Ch) : (applyC d s l).1.l.length = d.l.length := by
  have h : (writeC d s l).1.l.length = d.l.length := by
    unfold writeC
    split
    · exact addM_len _ _ _
    · unfold turnC
      split
      · rfl
      · split
        · exact addM_len _ _ _
        · exact addM_len _ _ _
  unfold applyC
  split
  · rfl
  · split
    · exact h
    · exact h
/-- What Apply does in a round. -/
def AtR (d : DM) (s : SM) (l : List Ch) (j : Nat) (E : Int) (d2 : DM) (s2 : SM) : Prop :=
  ((E = 1 ∨ E = 31) ∧ d2 = d ∧ s2 = s) ∨ (E = 0 ∧ s2.t = doL s.t l ∧ PQ d2 s2 (2 + 300 * (j + 1)) ∧ s2.turns ≤ j + 1 ∧ wtT (doL s.t l) ≤ 800 * (j + 1)) ∨
    (E = 30 ∧ TMay (doL s.t l) ∧ wtT (doL s.t l) ≤ 800 * (j + 1) ∧ ∃ s', openC (restartM d2) = (s', 0) ∧ PQ (restartM d2) s' (2 + 300 * (j + 1)) ∧ (s'.t = s.t ∨ s'.t = doL s.t l) ∧ s'.turns = 0)
section
variable {w W : World} {m g p : Nat} {d : DM} {s : SM} {T : Nat → Prop}
theorem at_apply {A : Option Addr} {n c j : Nat} {l : List Ch} (h : Dsk w m W g d) (hc : Cs W T p g s) (hT : ∀ k, T k → m ≤ k) (hq : PQ d s (2 + 300 * j)) (hj : j ≤ 20) (ht : s.turns ≤ j) (hh : hn d ≤ 10) (hw : wtT s.t ≤ 800 * j) (hl : Chs W (· < w.heap.size) A n c l) (hn8 : n ≤ 8) (hs : (∀ x ∈ l, mayC x = true) → sumC l ≤ 600) :
    Calls Tryz.prog 11 #[.pointer (some ⟨p, 0, none⟩), .slice A n c] W fun e w' => ∃ (E : Int) (d2 : DM) (s2 : SM), e = .returned (.int .i64 E) ∧ Dsk w m w' g d2 ∧ Cs w' (fun k => T k ∨ W.heap.size ≤ k) p g s2 ∧ Turned (fun k => (w.heap.size ≤ k ∧ k < m) ∨ T k) W w' ∧ hn d2 ≤ 10 ∧ AtR d s l j E d2 s2 := by
  have hlen := hl.len
  by_cases hm : l.all mayC = true
  · have hm' := List.all_eq_true.1 hm
    have hwl : wtC l ≤ 768 := by rw [at_wt]; have := hs hm'; omega
    have hA := hq.apply_ l (by omega) (by have := wtT_len s.t; omega) (by omega)
    have hwd := wtT_doL l s.t
    refine (h.qapply hc hT hq (by omega) (by omega) hl (fun k hk => ⟨fun h1 => by have := hT k h1; have := h.le; omega, .inl hk⟩) (by omega)).mono ?_
    rintro _ w' ⟨rfl, h1, h2, h3⟩
    have hhn := hn_len (applyC_len d s l)
    refine ⟨_, _, _, rfl, h1, h2, h3, by omega, ?_⟩
    rcases hA.err with e | e | e | e
    · obtain ⟨a, b⟩ := hA.no (.inl e)
      exact .inl ⟨.inl e, a, b⟩
    · obtain ⟨a, b⟩ := hA.no (.inr e)
      exact .inl ⟨.inr e, a, b⟩
    · obtain ⟨a, b, c⟩ := hA.yes e
      exact .inr (.inl ⟨e, b, a.more (by omega), by omega, by omega⟩)
    · obtain ⟨s', a, b, c, e2⟩ := hA.down e
      exact .inr (.inr ⟨e, hq.ps.may.chs hm', by omega, s', a, b.more (by omega), c, e2⟩)
  · have hr : refC s l = 1 := by unfold refC; rw [if_neg (by simp [hq.ps.e]), if_neg hm]
    refine (capply_no hc hl (by omega) (by omega)).mono ?_
    rintro _ w' ⟨rfl, hb⟩
    exact ⟨_, d, s, rfl, h.below hb, (hc.below hb).mono fun k _ hk => .inl hk, Turned.of_below hb, hh, .inl ⟨.inl hr, rfl, rfl⟩⟩
theorem at_has {M : Nat → Prop} {A : Option Addr} {n c : Nat} {t' : Tb} (hc : Cs W T p g s) (ht : Cms W M A n c (tb2 t')) (hm : TMay t') (hw : wtT t' ≤ 100000) (hm2 : TMay s.t) (hw2 : wtT s.t ≤ 100000) :
    Calls Tryz.prog 21 #[.pointer (some ⟨p, 0, none⟩), .slice A n c] W fun e w' => e = .returned (.bool (decide (s.t = t'))) ∧ Below W.heap.size W w' := by
  have h1 := has_any hc ht (by
    have h1 := ht.len
    have h2 := wtT_len t'
    have h3 : (tb2 t').length = t'.length := by simp [tb2]
    omega) (by have := wtT_len s.t; omega) (fun x hx => by
    unfold tb2 at hx
    obtain ⟨y, hy, rfl⟩ := List.mem_map.1 hx
    have := (hm y hy).2.1
    show y.1.length ≤ 1000000
    omega) (fun q hq => by have := (hm2 q hq).2.2; omega)
  rw [at_tab] at h1
  exact h1
theorem at_open {s' : SM} (h : Dsk w m W g d) (ho : openC d = (s', 0)) :
    Calls Tryz.prog 8 #[.pointer (some ⟨g, 0, none⟩)] W fun e w' => ∃ p, e = .returned (.tuple #[.pointer (some ⟨p, 0, none⟩), .int .i64 0]) ∧ Cs w' (W.heap.size ≤ ·) p g s' ∧ Dsk w m w' g d ∧ Below W.heap.size W w' := by
  refine (copen_any h.dk).mono ?_
  rintro e w' ⟨h1, h2⟩
  rw [ho, if_pos rfl] at h1
  obtain ⟨p, rfl, h8⟩ := h1
  exact ⟨p, rfl, h8, h.below h2, h2⟩
end
/-- The law's loop. -/
def RAt (w : World) (m g N : Nat) (sv tv i : Value) (wr : World) : Prop :=
  ∃ (j : Nat) (d : DM) (s : SM) (p : Nat) (At : Option Addr) (nt ct : Nat) (T M : Nat → Prop), j ≤ N ∧ i = .int .i64 (j : Int) ∧ sv = .pointer (some ⟨p, 0, none⟩) ∧ tv = .slice At nt ct ∧ Dsk w m wr g d ∧ Cs wr T p g s ∧ Cms wr M At nt ct (tb2 s.t) ∧ (∀ k, T k → m ≤ k ∧ k < wr.heap.size ∧ ¬ M k) ∧ (∀ k, M k → m ≤ k) ∧
    PQ d s (2 + 300 * j) ∧ s.turns ≤ j ∧ wtT s.t ≤ 800 * j ∧ hn d ≤ 10
/-- The disk may have been told to stop. -/
def RSt (w : World) (m g j p : Nat) (s : SM) (T M : Nat → Prop) (At : Option Addr) (nt ct : Nat) (wr : World) : Prop :=
  ∃ d, Dsk w m wr g d ∧ Cs wr T p g s ∧ Cms wr M At nt ct (tb2 s.t) ∧ PQ d s (2 + 300 * j) ∧ hn d ≤ 10 ∧ (∀ k, T k → k < wr.heap.size)
set_option maxHeartbeats 16000000 in
set_option maxRecDepth 100000 in
theorem walk_catomic {w : World} {A : Option Addr} {n c : Nat} {LS : List (List Ch)} (h : Chss w (· < w.heap.size) A n c LS) {S2 S3 : Nat → Prop} {A2 A3 : Option Addr} {n2 c2 n3 c3 : Nat} {sb tb : List UInt8} (h2 : Byt w S2 A2 n2 c2 sb) (h3 : Byt w S3 A3 n3 c3 tb) (x : Nat) :
    Calls Tryz.prog 4 #[.int .u8 (x : Int), .slice A n c, .slice A2 n2 c2, .slice A3 n3 c3] w fun e w' => e = .returned (.bool true) ∧ Below w.heap.size w w' := by
  have haw := celawake_true w
  by_cases hn : 20 < n
  · have hn' : (20 : Int) < (n : Int) := by omega
    clear h h2 h3 hn
    go_enter Tryz.func4, Tryz.ntmps4
    go_wp2_with (go_at_call 5; refine haw.mono ?_; clear haw; rintro _ w1 ⟨rfl, hb1⟩)
    go_ret
    exact ⟨rfl, hb1⟩
  by_cases hns : 20 < n2
  · have hn' : ¬ (20 : Int) < (n : Int) := by omega
    have hns' : (20 : Int) < (n2 : Int) := by omega
    clear h h2 h3 hn hns
    go_enter Tryz.func4, Tryz.ntmps4
    go_wp2_with (go_at_call 5; refine haw.mono ?_; clear haw; rintro _ w1 ⟨rfl, hb1⟩)
    go_ret
    exact ⟨rfl, hb1⟩
  by_cases hnt : n3 < n2
  · have hn' : ¬ (20 : Int) < (n : Int) := by omega
    have hns' : ¬ (20 : Int) < (n2 : Int) := by omega
    have hnt' : (n3 : Int) < (n2 : Int) := by omega
    clear h h2 h3 hn hns hnt
    go_enter Tryz.func4, Tryz.ntmps4
    go_wp2_with (go_at_call 5; refine haw.mono ?_; clear haw; rintro _ w1 ⟨rfl, hb1⟩)
    go_ret
    exact ⟨rfl, hb1⟩
  have hn' : ¬ (20 : Int) < (n : Int) := by omega
  have hns' : ¬ (20 : Int) < (n2 : Int) := by omega
  have hnt' : ¬ (n3 : Int) < (n2 : Int) := by omega
  obtain ⟨f, hf⟩ : ∃ f, f = x % 20 := ⟨_, rfl⟩
  have hxm : (x : Int) % 20 = (f : Int) := by omega
  have hf8 : f < 20 := by omega
  have hadd0 : IntKind.i64.wrap ((f : Int) + 2) = ((f + 2 : Nat) : Int) := by rw [IntWalk.i64_in _ (by omega)]; simp
  have hwf : IntKind.i64.wrap (f : Int) = (f : Int) := IntWalk.i64_in _ (by omega)
  have HF := Lib.hid hf8
  have HS := Lib.hid (And.intro h (And.intro h2 (And.intro h3 (And.intro (show n ≤ 20 by omega) (And.intro (show n2 ≤ 20 by omega) (show n2 ≤ n3 by omega))))))
  clear h h2 h3 hn hns hnt hf hf8
  go_enter Tryz.func4, Tryz.ntmps4
  go_upto_region 6 with (go_at_call 5; refine haw.mono ?_; clear haw; rintro _ w1 ⟨rfl, hb1⟩)
  have hnew := Dsk.new hb1 (f + 2) (by omega) (by have := HF.out; omega)
  obtain ⟨s0, ho0, hq0, ht0, hu0⟩ := PQ.new (f + 2) (by omega) (by have := HF.out; omega)
  have hlen := newM_len (f + 2) (by omega) (by have := HF.out; omega)
  obtain ⟨d0, hd0⟩ : ∃ d0, d0 = (newM ((f + 2 : Nat) : Int)).1 := ⟨_, rfl⟩
  rw [← hd0] at hq0 ho0 hnew hlen
  have HPS := Lib.hid (And.intro hq0 (And.intro ht0 (And.intro hu0 hlen)))
  clear hq0 ht0 hu0 hd0 hlen hb1
  go_upto_region 7 with (go_at_call 6; refine hnew.mono ?_; clear hnew; rintro _ w1 ⟨g, rfl, hd1⟩)
  obtain ⟨m, hm⟩ : ∃ m, m = w1.heap.size := ⟨_, rfl⟩
  rw [← hm] at hd1
  have HM := Lib.hid (show m ≤ w1.heap.size by omega)
  have hop := at_open hd1 ho0
  clear hd1 hm hxm hadd0 hwf ho0
  go_upto_region 8 with (go_at_call 8; refine hop.mono ?_; clear hop; rintro _ w2 ⟨p, rfl, hc2, hd2, hb2⟩)
  have H2 : Hid (RAt w m g n (.pointer (some ⟨p, 0, none⟩)) (.slice none 0 0) (.int .i64 0) w2) := Lib.hid (by
    have hT1 : s0.t = [] := HPS.out.2.1
    refine ⟨0, d0, s0, p, none, 0, 0, fun k => m ≤ k ∧ k < w2.heap.size, fun _ => False, Nat.zero_le _, rfl, rfl, rfl, hd2, hc2.mono (T := fun k => m ≤ k ∧ k < w2.heap.size) fun k hk h => ⟨by have := HM.out; omega, hk⟩, by rw [hT1]; exact Cms.nil _ _ _ _ (Nat.zero_le _), fun k hk => ⟨hk.1, hk.2, id⟩, fun _ h => h.elim, HPS.out.1, by have := HPS.out.2.2.1; omega, by rw [hT1]; simp [wtT], ?_⟩
    have h1 : hn d0 = d0.l.length / 2 := rfl
    have h2 := HPS.out.2.2.2
    have h3 := HF.out
    omega)
  clear hc2 hd2 hb2 HPS HM
  go_wp2_with fail
  go_loopw [12, 14, 15] (fun sv tv i wr => RAt w m g n sv tv i wr) (fun _ _ i _ => n - (intOf i).toNat)
  case atStart => exact H2.out
  case round =>
    obtain ⟨j, d, s, p, At, nt, ct, T, M, hj, rfl, rfl, rfl, hdk, hcs, hcm, hTM, hMm, hps, htu, hwt, hh⟩ := hrel
    clear H2
    by_cases hlt : j < n
    · have hlt' : (j : Int) < (n : Int) := by omega
      have hadd1 := IntWalk.i64_in ((j : Int) + 1) (by have := HS.out.2.2.2.1; omega)
      obtain ⟨b, off, l, Ai, ni, ci, rfl, hSb, hb, hx, hcell0, hch0⟩ := HS.out.1.at_ hlt
      have hcell := (hdk.bel.cell (p := ⟨b, off + j, none⟩) hb).trans hcell0
      have hsm := small_any (hch0.below hdk.bel)
      have HCH := Lib.hid (And.intro hb (And.intro hcell0 hch0))
      have HR := Lib.hid (And.intro hdk (And.intro hcs (And.intro hcm (And.intro hTM (And.intro hMm (And.intro hps (And.intro htu (And.intro hwt (And.intro hh hlt)))))))))
      clear hdk hcs hcm hTM hMm hps htu hwt hh hSb hb hx hcell0 hch0 hj hlt
      go_upto_region 15 with (go_at_call 10; refine hsm.mono ?_; clear hsm; rintro _ w3 ⟨B, rfl, hB, hb3⟩; have H3 := Lib.hid (And.intro hB hb3); clear hB hb3)
      clear hcell
      cases B with
      | false =>
        have HB := Lib.hid (HR.out.1.bel.trans (H3.out.2.mono HR.out.1.bel.size))
        go_wp2_with fail
        go_ret
        exact ⟨rfl, HB.out⟩
      | true =>
        have HN8 := Lib.hid (H3.out.1 rfl)
        have H4 := Lib.hid (And.intro (HR.out.1.below H3.out.2) (And.intro (HR.out.2.1.below H3.out.2) (And.intro (HR.out.2.2.1.below H3.out.2) (show ∀ k, T k → k < w3.heap.size from fun k hk => by have h1 := HR.out.2.2.2.1 k hk; have h2 := H3.out.2.size; omega))))
        go_upto_if 73 with fail
        go_cut [] from 57 to 152 (fun wx => RSt w m g j p s T M At nt ct wx)
        case first =>
          by_cases hst : j < n2
          · have hst' : (j : Int) < (n2 : Int) := by omega
            obtain ⟨q, o, rfl, _, hq, hqc⟩ := HS.out.2.1.row (by omega)
            obtain ⟨q3, o3, rfl, _, hq3, hqc3⟩ := HS.out.2.2.1.row (by have := HS.out.2.2.2.2.2; omega)
            obtain ⟨sx, hsx⟩ : ∃ b, b = sb[j]?.getD 0 := ⟨_, rfl⟩
            obtain ⟨tx, htx⟩ : ∃ b, b = tb[j]?.getD 0 := ⟨_, rfl⟩
            have hci := hqc j hst
            have hci3 := hqc3 j (by have := HS.out.2.2.2.2.2; omega)
            rw [← hsx] at hci
            rw [← htx] at hci3
            obtain ⟨k, hk⟩ : ∃ k, k = sx.toNat % 8 := ⟨_, rfl⟩
            obtain ⟨t, ht⟩ : ∃ t, t = tx.toNat := ⟨_, rfl⟩
            have ht256 : t < 256 := by rw [ht]; exact tx.toNat_lt
            rw [← ht] at hci3
            have HK : Hid (k < 8 ∧ bits BinOp.and IntKind.u8 (sx.toNat : Int) 7 = (k : Int) ∧ IntKind.i64.wrap (k : Int) = (k : Int) ∧ IntKind.i64.wrap (t : Int) = (t : Int)) := Lib.hid ⟨by omega, by rw [hk]; exact at_and7 sx, IntWalk.i64_in _ (by omega), IntWalk.i64_in _ (by omega)⟩
            have HC : Hid (q < w3.drew.heap.size ∧ w3.drew.cell? ⟨q, o + j, none⟩ = some (.int .u8 (sx.toNat : Int))) := Lib.hid ⟨Nat.lt_of_lt_of_le hq H4.out.1.bel.size, (H4.out.1.bel.cell (p := ⟨_, _, none⟩) hq).trans hci⟩
            have HC3 : Hid (q3 < w3.drew.heap.size ∧ w3.drew.cell? ⟨q3, o3 + j, none⟩ = some (.int .u8 (t : Int))) := Lib.hid ⟨Nat.lt_of_lt_of_le hq3 H4.out.1.bel.size, (H4.out.1.bel.cell (p := ⟨_, _, none⟩) hq3).trans hci3⟩
            have HJ : Hid (j < n2 ∧ j < n3) := Lib.hid ⟨hst, by have := HS.out.2.2.2.2.2; omega⟩
            clear hst hq hqc hq3 hqc3 hsx htx hci hci3 hk ht ht256
            generalize sx.toNat = X at *
            go_upto_region 18 with fail
            refine (wpIn_wide (n := 3)).1 ?_
            refine wpIn_region_growL (Grow.open_wide _ _) (fun W W' => Below W.heap.size W W') (Grow.nth [fun v _ => v = .pointer (some ⟨g, 0, none⟩), fun v _ => v = .slice (some ⟨q, o, none⟩) n2 c2, fun v _ => v = .int .i64 (j : Int), fun v _ => v = .pointer (some ⟨q, o + j, none⟩), fun v _ => v = .int .u8 (X : Int), fun v _ => v = .int .u8 (k : Int), fun v _ => v = .int .i64 (k : Int), fun v _ => v = .slice (some ⟨q3, o3, none⟩) n3 c3, fun v _ => v = .int .i64 (j : Int), fun v _ => v = .pointer (some ⟨q3, o3 + j, none⟩), fun v _ => v = .int .u8 (t : Int), fun v _ => v = .int .i64 (t : Int)]) 153 (by kernel_rfl) (by kernel_rfl) (by kernel_rfl) (by kernel_rfl) (by rfl) (fun W => Below.refl _ W) (fun _ _ _ h1 h2 => h1.trans (h2.mono h1.size)) (Grow.mono_nth ?gmono) 12 (by rfl) (by rfl) (by rfl) ?gsteps ?gfin
            case gmono => exact ⟨fun _ _ _ h _ => h, fun _ _ _ h _ => h, fun _ _ _ h _ => h, fun _ _ _ h _ => h, fun _ _ _ h _ => h, fun _ _ _ h _ => h, fun _ _ _ h _ => h, fun _ _ _ h _ => h, fun _ _ _ h _ => h, fun _ _ _ h _ => h, fun _ _ _ h _ => h, fun _ _ _ h _ => h, trivial⟩
            case gsteps =>
              show Grow.allBelow _ 12
              refine And.intro ?_ ?s11
              refine And.intro ?_ ?s10
              refine And.intro ?_ ?s9
              refine And.intro ?_ ?s8
              refine And.intro ?_ ?s7
              refine And.intro ?_ ?s6
              refine And.intro ?_ ?s5
              refine And.intro ?_ ?s4
              refine And.intro ?_ ?s3
              refine And.intro ?_ ?s2
              refine And.intro ?_ ?s1
              refine And.intro ?_ ?s0
              exact trivial
              case s0 =>
                refine Grow.step_in (by rfl) (by rfl) ?_
                intro E W ec eg ef hG hd hu R HR1
                have e10 : E (.tmp 10) = .pointer (some ⟨g, 0, none⟩) := hu 10 (by kernel_rfl)
                clear hd hu
                go_simp
                exact HR1.out _ _ (Below.refl _ _) rfl
              case s1 =>
                refine Grow.step_in (by rfl) (by rfl) ?_
                intro E W ec eg ef hG hd hu R HR1
                have e2 : E (.tmp 2) = .slice (some ⟨q, o, none⟩) n2 c2 := hu 2 (by kernel_rfl)
                clear hd hu
                go_simp
                exact HR1.out _ _ (Below.refl _ _) rfl
              case s2 =>
                refine Grow.step_in (by rfl) (by rfl) ?_
                intro E W ec eg ef hG hd hu R HR1
                have e15 : E (.tmp 15) = .int .i64 (j : Int) := hu 15 (by kernel_rfl)
                clear hd hu
                go_simp
                exact HR1.out _ _ (Below.refl _ _) rfl
              case s3 =>
                refine Grow.step_in (by rfl) (by rfl) ?_
                intro E W ec eg ef hG hd hu R HR1
                have e75 : E (.tmp 75) = .slice (some ⟨q, o, none⟩) n2 c2 := hd 1 75 (by kernel_rfl)
                have e76 : E (.tmp 76) = .int .i64 (j : Int) := hd 2 76 (by kernel_rfl)
                clear hd hu
                have hjl := HJ.out.1
                go_simp
                first | exact HR1.out _ _ (Below.refl _ _) rfl | (rw [if_pos ⟨by omega, by omega⟩]; exact HR1.out _ _ (Below.refl _ _) rfl)
              case s4 =>
                refine Grow.step_in (by rfl) (by rfl) ?_
                intro E W ec eg ef hG hd hu R HR1
                have e77 : E (.tmp 77) = .pointer (some ⟨q, o + j, none⟩) := hd 3 77 (by kernel_rfl)
                clear hd hu
                have hcl := (hG.cell (p := ⟨q, o + j, none⟩) HC.out.1).trans HC.out.2
                go_simp
                exact HR1.out _ _ (Below.refl _ _) rfl
              case s5 =>
                refine Grow.step_in (by rfl) (by rfl) ?_
                intro E W ec eg ef hG hd hu R HR1
                have e78 : E (.tmp 78) = .int .u8 (X : Int) := hd 4 78 (by kernel_rfl)
                clear hd hu
                have hk1 := HK.out.2.1
                go_simp
                exact HR1.out _ _ (Below.refl _ _) rfl
              case s6 =>
                refine Grow.step_in (by rfl) (by rfl) ?_
                intro E W ec eg ef hG hd hu R HR1
                have e79 : E (.tmp 79) = .int .u8 (k : Int) := hd 5 79 (by kernel_rfl)
                clear hd hu
                have hk2 := HK.out.2.2.1
                go_simp
                exact HR1.out _ _ (Below.refl _ _) rfl
              case s7 =>
                refine Grow.step_in (by rfl) (by rfl) ?_
                intro E W ec eg ef hG hd hu R HR1
                have e3 : E (.tmp 3) = .slice (some ⟨q3, o3, none⟩) n3 c3 := hu 3 (by kernel_rfl)
                clear hd hu
                go_simp
                exact HR1.out _ _ (Below.refl _ _) rfl
              case s8 =>
                refine Grow.step_in (by rfl) (by rfl) ?_
                intro E W ec eg ef hG hd hu R HR1
                have e15 : E (.tmp 15) = .int .i64 (j : Int) := hu 15 (by kernel_rfl)
                clear hd hu
                go_simp
                exact HR1.out _ _ (Below.refl _ _) rfl
              case s9 =>
                refine Grow.step_in (by rfl) (by rfl) ?_
                intro E W ec eg ef hG hd hu R HR1
                have e81 : E (.tmp 81) = .slice (some ⟨q3, o3, none⟩) n3 c3 := hd 7 81 (by kernel_rfl)
                have e82 : E (.tmp 82) = .int .i64 (j : Int) := hd 8 82 (by kernel_rfl)
                clear hd hu
                have hjl := HJ.out.2
                go_simp
                first | exact HR1.out _ _ (Below.refl _ _) rfl | (rw [if_pos ⟨by omega, by omega⟩]; exact HR1.out _ _ (Below.refl _ _) rfl)
              case s10 =>
                refine Grow.step_in (by rfl) (by rfl) ?_
                intro E W ec eg ef hG hd hu R HR1
                have e83 : E (.tmp 83) = .pointer (some ⟨q3, o3 + j, none⟩) := hd 9 83 (by kernel_rfl)
                clear hd hu
                have hcl := (hG.cell (p := ⟨q3, o3 + j, none⟩) HC3.out.1).trans HC3.out.2
                go_simp
                exact HR1.out _ _ (Below.refl _ _) rfl
              case s11 =>
                refine Grow.step_in (by rfl) (by rfl) ?_
                intro E W ec eg ef hG hd hu R HR1
                have e84 : E (.tmp 84) = .int .u8 (t : Int) := hd 10 84 (by kernel_rfl)
                clear hd hu
                have hk3 := HK.out.2.2.2
                go_simp
                exact HR1.out _ _ (Below.refl _ _) rfl
            case gfin =>
              intro W hG
              refine Grow.fin_dst (by rfl) ?_
              rintro _ rfl
              refine Grow.fin_dst (by rfl) ?_
              rintro _ rfl
              refine Grow.fin_dst (by rfl) ?_
              rintro _ rfl
              refine Grow.fin_dst (by rfl) ?_
              rintro _ rfl
              refine Grow.fin_dst (by rfl) ?_
              rintro _ rfl
              refine Grow.fin_dst (by rfl) ?_
              rintro _ rfl
              refine Grow.fin_dst (by rfl) ?_
              rintro _ rfl
              refine Grow.fin_dst (by rfl) ?_
              rintro _ rfl
              refine Grow.fin_dst (by rfl) ?_
              rintro _ rfl
              refine Grow.fin_dst (by rfl) ?_
              rintro _ rfl
              refine Grow.fin_dst (by rfl) ?_
              rintro _ rfl
              refine Grow.fin_dst (by rfl) ?_
              rintro _ rfl
              simp only [Act.put, List.setIfInBounds_toArray, List.set_cons_zero, List.set_cons_succ]
              refine Grow.fin_end ?_
              have HW := Lib.hid (Grow.below_of_drew hG)
              clear hG
              have hsp := (H4.out.1.below HW.out).stop (k : Int) (t : Int) (by have := HK.out.1; omega)
              gi_wp2_with (refine ⟨trivial, ?_⟩; gi_at_call 14; refine (callsIn_wide.2 hsp).mono ?_; clear hsp; rintro _ w5 ⟨rfl, hd5, ht5⟩)
              have hsz := ht5.size
              have hszW := HW.out.size
              have H5 : Hid (RSt w m g j p s T M At nt ct w5) := Lib.hid ⟨_, hd5, ((H4.out.2.1.mono (T := fun k => T k ∧ k < w3.heap.size) fun k hk h => ⟨h, hk⟩).below HW.out |>.turned ht5 fun k _ hk h => by have := (HR.out.2.2.2.1 k hk.1).1; omega).mono fun k _ h => h.1, ((H4.out.2.2.1.below HW.out).turned ht5 fun k _ hk h => by have := HR.out.2.2.2.2.1 k hk; omega), HR.out.2.2.2.2.2.1.stop (by have := HK.out.1; omega), by rw [hn_len rfl]; exact HR.out.2.2.2.2.2.2.2.2.1, fun k hk => by have := H4.out.2.2.2 k hk; omega⟩
              clear hd5 ht5 hsz hszW
              go_wp2_with fail
              go_meet
              exact H5.out
          · have hst' : ¬ (j : Int) < (n2 : Int) := by omega
            clear hst
            go_wp2_with fail
            go_meet
            exact ⟨d, H4.out.1, H4.out.2.1, H4.out.2.2.1, HR.out.2.2.2.2.2.1, HR.out.2.2.2.2.2.2.2.2.1, H4.out.2.2.2⟩
        case rest =>
          obtain ⟨d1, hd1, hc1, hm1, hq1, hh1, hT1⟩ := hcut
          have hcell := (hd1.bel.cell (p := ⟨b, off + j, none⟩) HCH.out.1).trans HCH.out.2.1
          have hmo := modelof_long (HCH.out.2.2.below hd1.bel) (by have := HN8.out.1; omega)
          have H5 := Lib.hid (And.intro hd1 (And.intro hc1 (And.intro hm1 (And.intro hq1 (And.intro hh1 hT1)))))
          clear hd1 hc1 hm1 hq1 hh1 hT1 H4 H3
          go_upto_region 20 with (first
            | (go_at_call 13; refine hmo.mono ?_; clear hmo; rintro _ w6 ⟨A6, c6, rfl, hm6, hb6⟩
               have hdo := rdo_any (H5.out.2.2.1.below hb6) HR.out.2.2.2.2.2.1.ps.srt hm6 (by
                 have h1 := HR.out.2.2.1.len
                 have h2 := wtT_len s.t
                 have h3 : (tb2 s.t).length = s.t.length := by simp [tb2]
                 have h4 := HR.out.2.2.2.2.2.2.2.1
                 have h5 := HR.out.2.2.2.2.2.2.2.2.2
                 have h6 := HS.out.2.2.2.1
                 have h7 := HN8.out.1
                 omega)
               have H6 := Lib.hid hb6
               clear hm6 hb6)
            | (go_at_call 24; refine hdo.mono ?_; clear hdo; rintro _ w7 ⟨A7, n7, c7, rfl, hm7, hb7⟩
               have H7 := Lib.hid (And.intro hm7 hb7)
               clear hm7 hb7))
          clear hcell
          have hb57 := H6.out.trans (H7.out.2.mono H6.out.size)
          have hd7 := H5.out.1.below hb57
          have hcell7 := (hd7.bel.cell (p := ⟨b, off + j, none⟩) HCH.out.1).trans HCH.out.2.1
          have hap := at_apply hd7 (H5.out.2.1.below hb57) (fun k hk => (HR.out.2.2.2.1 k hk).1) H5.out.2.2.2.1 (by have := HS.out.2.2.2.1; have := HR.out.2.2.2.2.2.2.2.2.2; omega) HR.out.2.2.2.2.2.2.1 H5.out.2.2.2.2.1 HR.out.2.2.2.2.2.2.2.1 (HCH.out.2.2.below hd7.bel) HN8.out.1 HN8.out.2
          have HB57 := Lib.hid (And.intro hb57 hd7.top)
          clear hb57 hd7
          go_upto_region 21 with (go_at_call 11; refine hap.mono ?_; clear hap; rintro _ w8 ⟨E, d2, s2, rfl, hd8, hc8, ht8, hh8, hR8⟩)
          clear hcell7
          have hsz6 := H6.out.size
          have hsz7 := H7.out.2.size
          have hsz8 := ht8.size
          have hmc := H5.out.1.top
          have hmt8 : Cms w8 (fun k => M k ∧ k < wc.heap.size) At nt ct (tb2 s.t) := ((H5.out.2.2.1.mono (T := fun k => M k ∧ k < wc.heap.size) fun k hk h => ⟨h, hk⟩).below HB57.out.1).turned ht8 fun k _ hk h => by
            rcases h with h | h
            · have := HR.out.2.2.2.2.1 k hk.1; omega
            · exact (HR.out.2.2.2.1 k h).2.2 hk.1
          have hma8 : Cms w8 (fun k => (M k ∨ w6.heap.size ≤ k) ∧ k < w7.heap.size) A7 n7 c7 (tb2 (doL s.t l)) := ((H7.out.1.mono (T := fun k => (M k ∨ w6.heap.size ≤ k) ∧ k < w7.heap.size) fun k hk h => ⟨h, hk⟩).turned ht8 fun k _ hk h => by
            rcases h with h | h
            · rcases hk.1 with h1 | h1
              · have := HR.out.2.2.2.2.1 k h1; omega
              · omega
            · rcases hk.1 with h1 | h1
              · exact (HR.out.2.2.2.1 k h).2.2 h1
              · have := H5.out.2.2.2.2.2 k h; omega)
          have hT8 : ∀ k, ((T k ∨ w7.heap.size ≤ k) ∧ k < w8.heap.size) → m ≤ k ∧ k < w8.heap.size ∧ ¬ (M k ∧ k < wc.heap.size) ∧ ¬ ((M k ∨ w6.heap.size ≤ k) ∧ k < w7.heap.size) := fun k hk => by
            rcases hk.1 with h | h
            · have h1 := HR.out.2.2.2.1 k h
              have h2 := H5.out.2.2.2.2.2 k h
              refine ⟨h1.1, hk.2, fun h3 => h1.2.2 h3.1, fun h3 => ?_⟩
              rcases h3.1 with h4 | h4
              · exact h1.2.2 h4
              · omega
            · exact ⟨by omega, hk.2, fun h3 => by have := h3.2; omega, fun h3 => by have := h3.2; omega⟩
          have hMT : ∀ k, (M k ∧ k < wc.heap.size) → m ≤ k ∧ k < w8.heap.size := fun k hk => ⟨HR.out.2.2.2.2.1 k hk.1, by have := hk.2; omega⟩
          have hMA : ∀ k, ((M k ∨ w6.heap.size ≤ k) ∧ k < w7.heap.size) → m ≤ k ∧ k < w8.heap.size := fun k hk => ⟨by
            rcases hk.1 with h | h
            · exact HR.out.2.2.2.2.1 k h
            · omega, by have := hk.2; omega⟩
          have hc8' := hc8.mono (T := fun k => (T k ∨ w7.heap.size ≤ k) ∧ k < w8.heap.size) fun k hk h => ⟨h, hk⟩
          obtain ⟨TT, hTT⟩ : ∃ TT : Nat → Prop, TT = fun k => (T k ∨ w7.heap.size ≤ k) ∧ k < w8.heap.size := ⟨_, rfl⟩
          obtain ⟨MT, hMTe⟩ : ∃ MT : Nat → Prop, MT = fun k => M k ∧ k < wc.heap.size := ⟨_, rfl⟩
          obtain ⟨MA, hMAe⟩ : ∃ MA : Nat → Prop, MA = fun k => (M k ∨ w6.heap.size ≤ k) ∧ k < w7.heap.size := ⟨_, rfl⟩
          have hT8' : ∀ k, TT k → m ≤ k ∧ k < w8.heap.size ∧ ¬ MT k ∧ ¬ MA k := by rw [hTT, hMTe, hMAe]; exact hT8
          have hMT' : ∀ k, MT k → m ≤ k ∧ k < w8.heap.size := by rw [hMTe]; exact hMT
          have hMA' : ∀ k, MA k → m ≤ k ∧ k < w8.heap.size := by rw [hMAe]; exact hMA
          rw [← hTT] at hc8'
          rw [← hMTe] at hmt8
          rw [← hMAe] at hma8
          obtain ⟨ta, hta⟩ : ∃ ta, ta = doL s.t l := ⟨_, rfl⟩
          have hR8' := hR8
          unfold AtR at hR8'
          rw [← hta] at hma8 hR8'
          have HW1 := Lib.hid (And.intro HR.out.2.2.2.2.2.1.ps.may (And.intro (show wtT s.t ≤ 16000 by have := HR.out.2.2.2.2.2.2.2.1; have := HR.out.2.2.2.2.2.2.2.2.2; have := HS.out.2.2.2.1; omega) (And.intro (show j < n from HR.out.2.2.2.2.2.2.2.2.2) (And.intro (show s.turns ≤ j from HR.out.2.2.2.2.2.2.1) (And.intro (show wtT s.t ≤ 800 * j from HR.out.2.2.2.2.2.2.2.1) (show n ≤ 20 from HS.out.2.2.2.1))))))
          have H8 := Lib.hid (And.intro hd8 (And.intro hc8' (And.intro hmt8 (And.intro hma8 (And.intro hT8' (And.intro hMT' (And.intro hMA' hh8)))))))
          have HQ := Lib.hid H5.out.2.2.2.1
          have HH1 := Lib.hid H5.out.2.2.2.2.1
          clear hd8 hc8 hc8' hmt8 hma8 hT8 hMT hMA hT8' hMT' hMA' hh8 ht8 hsz6 hsz7 hsz8 hmc hTT hMTe hMAe hta hR8 H5 H6 H7 HB57 HR
          rcases hR8' with ⟨hE, rfl, rfl⟩ | ⟨rfl, hs2, hq2, hu2, hw2⟩ | ⟨rfl, hmay, hwta, s3, ho3, hq3, ht3, hu3⟩
          · rcases hE with rfl | rfl
            · have hhas := at_has H8.out.2.1 H8.out.2.2.1 HW1.out.1 (by have := HW1.out.2.1; omega) HW1.out.1 (by have := HW1.out.2.1; omega)
              rw [decide_eq_true rfl] at hhas
              go_wp2_with (go_at_call 21; refine hhas.mono ?_; clear hhas; rintro _ w9 ⟨rfl, hb9⟩; have H9 := Lib.hid hb9; clear hb9)
              go_roundw
              case rel =>
                have hsz := H9.out.size
                unfold RAt
                exact ⟨j + 1, _, _, p, At, nt, ct, TT, MT, by have := HW1.out.2.2.1; omega, by simp, rfl, rfl, H8.out.1.below H9.out, H8.out.2.1.below H9.out, H8.out.2.2.1.below H9.out, fun k hk => by have h1 := H8.out.2.2.2.2.1 k hk; exact ⟨h1.1, by omega, h1.2.2.1⟩, fun k hk => (H8.out.2.2.2.2.2.1 k hk).1, HQ.out.more (by omega), by have := HW1.out.2.2.2.1; omega, by have := HW1.out.2.2.2.2.1; omega, HH1.out⟩
              case measure => simp only [intOf]; have h1 := HW1.out.2.2.1; omega
            · have hhas := at_has H8.out.2.1 H8.out.2.2.1 HW1.out.1 (by have := HW1.out.2.1; omega) HW1.out.1 (by have := HW1.out.2.1; omega)
              rw [decide_eq_true rfl] at hhas
              go_wp2_with (go_at_call 21; refine hhas.mono ?_; clear hhas; rintro _ w9 ⟨rfl, hb9⟩; have H9 := Lib.hid hb9; clear hb9)
              go_roundw
              case rel =>
                have hsz := H9.out.size
                unfold RAt
                exact ⟨j + 1, _, _, p, At, nt, ct, TT, MT, by have := HW1.out.2.2.1; omega, by simp, rfl, rfl, H8.out.1.below H9.out, H8.out.2.1.below H9.out, H8.out.2.2.1.below H9.out, fun k hk => by have h1 := H8.out.2.2.2.2.1 k hk; exact ⟨h1.1, by omega, h1.2.2.1⟩, fun k hk => (H8.out.2.2.2.2.2.1 k hk).1, HQ.out.more (by omega), by have := HW1.out.2.2.2.1; omega, by have := HW1.out.2.2.2.2.1; omega, HH1.out⟩
              case measure => simp only [intOf]; have h1 := HW1.out.2.2.1; omega
          · have hhas := at_has H8.out.2.1 H8.out.2.2.2.1 (by rw [← hs2]; exact hq2.ps.may) (by have := HW1.out.2.2.2.2.2; have := HW1.out.2.2.1; omega) hq2.ps.may (by rw [hs2]; have := HW1.out.2.2.2.2.2; have := HW1.out.2.2.1; omega)
            rw [decide_eq_true hs2] at hhas
            have HX := Lib.hid (And.intro hs2 (And.intro hq2 (And.intro hu2 hw2)))
            clear hs2 hq2 hu2 hw2
            go_wp2_with (go_at_call 21; refine hhas.mono ?_; clear hhas; rintro _ w9 ⟨rfl, hb9⟩; have H9 := Lib.hid hb9; clear hb9)
            go_roundw
            case rel =>
              have hsz := H9.out.size
              unfold RAt
              exact ⟨j + 1, d2, s2, p, A7, n7, c7, TT, MA, by have := HW1.out.2.2.1; omega, by simp, rfl, rfl, H8.out.1.below H9.out, H8.out.2.1.below H9.out, by rw [HX.out.1]; exact H8.out.2.2.2.1.below H9.out, fun k hk => by have h1 := H8.out.2.2.2.2.1 k hk; exact ⟨h1.1, by omega, h1.2.2.2⟩, fun k hk => (H8.out.2.2.2.2.2.2.1 k hk).1, HX.out.2.1, HX.out.2.2.1, by rw [HX.out.1]; exact HX.out.2.2.2, H8.out.2.2.2.2.2.2.2⟩
            case measure => simp only [intOf]; have h1 := HW1.out.2.2.1; omega
          · have hre := H8.out.1.restart
            have HX := Lib.hid (And.intro hmay (And.intro hwta (And.intro ho3 (And.intro hq3 (And.intro ht3 hu3)))))
            clear hmay hwta ho3 hq3 ht3 hu3
            go_upto_region 31 with (go_at_call 18; refine hre.mono ?_; clear hre; rintro _ w9 ⟨rfl, hd9, ht9⟩)
            have hop := at_open hd9 HX.out.2.2.1
            have H9 := Lib.hid (And.intro hd9.top (And.intro (H8.out.2.2.1.turned ht9 fun k _ hk h => by have := (H8.out.2.2.2.2.2.1 k hk).1; omega) (And.intro (H8.out.2.2.2.1.turned ht9 fun k _ hk h => by have := (H8.out.2.2.2.2.2.2.1 k hk).1; omega) ht9.size)))
            clear hd9 ht9
            go_upto_region 32 with (go_at_call 8; refine hop.mono ?_; clear hop; rintro _ w10 ⟨p4, rfl, hc10, hd10, hb10⟩)
            have hop := at_open hd10 HX.out.2.2.1
            have H10 := Lib.hid (And.intro hd10 (And.intro (hc10.mono (T := fun k => w9.heap.size ≤ k ∧ k < w10.heap.size) fun k hk h => ⟨h, hk⟩) (And.intro (H9.out.2.1.below hb10) (H9.out.2.2.1.below hb10))))
            clear hd10 hc10 hb10
            go_upto_region 33 with (go_at_call 8; refine hop.mono ?_; clear hop; rintro _ w11 ⟨p5, rfl, hc11, hd11, hb11⟩)
            have H11 := Lib.hid (And.intro hd11 (And.intro (H10.out.2.1.below hb11) (And.intro hc11 (And.intro (H10.out.2.2.1.below hb11) (And.intro (H10.out.2.2.2.below hb11) hb11.size)))))
            clear hd11 hc11 hb11
            have hws : wtT s3.t ≤ 100000 := by
              have h1 := HW1.out.2.1
              have h2 := HX.out.2.1
              have h3 := HW1.out.2.2.1
              have h4 := HW1.out.2.2.2.2.2
              rcases HX.out.2.2.2.2.1 with h | h <;> rw [h] <;> omega
            have hwa : wtT ta ≤ 100000 := by
              have h2 := HX.out.2.1
              have h3 := HW1.out.2.2.1
              have h4 := HW1.out.2.2.2.2.2
              omega
            have HWA := Lib.hid (And.intro hws hwa)
            clear hws hwa
            have hh1 := at_has H11.out.2.1 H11.out.2.2.2.2.1 HX.out.1 HWA.out.2 HX.out.2.2.2.1.ps.may HWA.out.1
            by_cases he : s3.t = ta
            · rw [decide_eq_true he] at hh1
              have HE := Lib.hid he
              clear he
              go_wp2_with (first
                | (go_at_call 21; refine hh1.mono ?_; clear hh1; rintro _ w12 ⟨rfl, hb12⟩
                   have hh2 := at_has (H11.out.2.1.below hb12) (H11.out.2.2.2.2.1.below hb12) HX.out.1 HWA.out.2 HX.out.2.2.2.1.ps.may HWA.out.1
                   rw [decide_eq_true HE.out] at hh2
                   have H12 := Lib.hid hb12
                   clear hb12)
                | (go_at_call 21; refine hh2.mono ?_; clear hh2; rintro _ w13 ⟨rfl, hb13⟩
                   have hb1 := H12.out.trans (hb13.mono H12.out.size)
                   have hh3 := at_has (H11.out.2.2.1.below hb1) (H11.out.2.2.2.2.1.below hb1) HX.out.1 HWA.out.2 HX.out.2.2.2.1.ps.may HWA.out.1
                   rw [decide_eq_true HE.out] at hh3
                   have H13 := Lib.hid hb1
                   clear hb13 hb1)
                | (go_at_call 21; refine hh3.mono ?_; clear hh3; rintro _ w14 ⟨rfl, hb14⟩
                   have H14 := Lib.hid (H13.out.trans (hb14.mono H13.out.size))
                   clear hb14))
              go_roundw
              case rel =>
                have hsz := H14.out.size
                have hsz9 := H9.out.2.2.2
                have hm9 := H9.out.1
                have hsz11 := H11.out.2.2.2.2.2
                unfold RAt
                exact ⟨j + 1, restartM d2, s3, p4, A7, n7, c7, fun k => w9.heap.size ≤ k ∧ k < w10.heap.size, MA, by have := HW1.out.2.2.1; omega, by simp, rfl, rfl, H11.out.1.below H14.out, H11.out.2.1.below H14.out, by rw [HE.out]; exact H11.out.2.2.2.2.1.below H14.out, fun k hk => ⟨by omega, by omega, fun h => by have := (H8.out.2.2.2.2.2.2.1 k h).2; omega⟩, fun k hk => (H8.out.2.2.2.2.2.2.1 k hk).1, HX.out.2.2.2.1, by have := HX.out.2.2.2.2.2; omega, by rw [HE.out]; exact HX.out.2.1, H8.out.2.2.2.2.2.2.2⟩
              case measure => simp only [intOf]; have h1 := HW1.out.2.2.1; omega
            · rw [decide_eq_false he] at hh1
              have HE := Lib.hid he
              clear he
              go_wp2_with (first
                | (go_at_call 21; refine hh1.mono ?_; clear hh1; rintro _ w12 ⟨rfl, hb12⟩
                   have hh2 := at_has (H11.out.2.1.below hb12) (H11.out.2.2.2.1.below hb12) HW1.out.1 (by have := HW1.out.2.1; omega) HX.out.2.2.2.1.ps.may HWA.out.1
                   rw [decide_eq_true (HX.out.2.2.2.2.1.resolve_right HE.out)] at hh2
                   have H12 := Lib.hid hb12
                   clear hb12)
                | (go_at_call 21; refine hh2.mono ?_; clear hh2; rintro _ w13 ⟨rfl, hb13⟩
                   have hb1 := H12.out.trans (hb13.mono H12.out.size)
                   have hh3 := at_has (H11.out.2.2.1.below hb1) (H11.out.2.2.2.1.below hb1) HW1.out.1 (by have := HW1.out.2.1; omega) HX.out.2.2.2.1.ps.may HWA.out.1
                   rw [decide_eq_true (HX.out.2.2.2.2.1.resolve_right HE.out)] at hh3
                   have H13 := Lib.hid hb1
                   clear hb13 hb1)
                | (go_at_call 21; refine hh3.mono ?_; clear hh3; rintro _ w14 ⟨rfl, hb14⟩
                   have H14 := Lib.hid (H13.out.trans (hb14.mono H13.out.size))
                   clear hb14))
              go_roundw
              case rel =>
                have hsz := H14.out.size
                have hsz9 := H9.out.2.2.2
                have hm9 := H9.out.1
                have hsz11 := H11.out.2.2.2.2.2
                unfold RAt
                exact ⟨j + 1, restartM d2, s3, p4, At, nt, ct, fun k => w9.heap.size ≤ k ∧ k < w10.heap.size, MT, by have := HW1.out.2.2.1; omega, by simp, rfl, rfl, H11.out.1.below H14.out, H11.out.2.1.below H14.out, by rw [(HX.out.2.2.2.2.1.resolve_right HE.out)]; exact H11.out.2.2.2.1.below H14.out, fun k hk => ⟨by omega, by omega, fun h => by have := (H8.out.2.2.2.2.2.1 k h).2; omega⟩, fun k hk => (H8.out.2.2.2.2.2.1 k hk).1, HX.out.2.2.2.1, by have := HX.out.2.2.2.2.2; omega, by rw [(HX.out.2.2.2.2.1.resolve_right HE.out)]; have := HW1.out.2.2.2.2.1; omega, H8.out.2.2.2.2.2.2.2⟩
              case measure => simp only [intOf]; have h1 := HW1.out.2.2.1; omega
    · have hlt' : ¬ (j : Int) < (n : Int) := by omega
      have HB := Lib.hid hdk.bel
      clear hdk hcs hcm hTM hMm hps htu hwt hh hlt hj
      go_wp2_with fail
      go_ret
      exact ⟨rfl, HB.out⟩
theorem law_catomic {w : World} {x : Int} (hx : (Lit.int .u8 x).wf = true) {A : Option Addr} {n c : Nat} {LS : List (List Ch)} (h : Chss w (· < w.heap.size) A n c LS) {S2 S3 : Nat → Prop} {A2 A3 : Option Addr} {n2 c2 n3 c3 : Nat} {sb tb : List UInt8} (h2 : Byt w S2 A2 n2 c2 sb) (h3 : Byt w S3 A3 n3 c3 tb) :
    Calls Tryz.prog 4 #[.int .u8 x, .slice A n c, .slice A2 n2 c2, .slice A3 n3 c3] w fun e w' => e = .returned (.bool true) ∧ Below w.heap.size w w' := by
  have bx := bounds_u8 hx
  obtain ⟨x, rfl⟩ := Int.eq_ofNat_of_zero_le bx.1
  exact walk_catomic h h2 h3 x
end Go.Proofs.YtcgnaomffioldaaGreat

/-! The statement CellsAtomic, proved: for every number, every rows of changes and every two rows of bytes the law returns true. No condition. -/
namespace Go.Proofs.YtcgnaomffioldaaGreat.cellsAtomic
open Go.ChangeShapes Go.WideShapes Go.ChangeAt Go.RowKit
set_option linter.unusedVariables false

set_option maxRecDepth 100000 in
theorem lifted (os : Os) (started : os.Started) (H : Type) (enc : TypeId × Value → H) :
    ReturnsInHanded {} Tryz.checked os 4 .any (Rows.cellsAtomicSpec.pre6 enc Tryz.prog Tryz.f4 Rows.cellsAtomicRow.domain false) (Rows.cellsAtomicSpec.post enc Tryz.prog Tryz.f4 false true false false) := by
  refine returnsInHanded_of_change (C := Tryz.checked) own_knob started (by kernel_rfl) Tryz.func4
    (ChangeSpec.witness6 (enc := enc) (C := Tryz.checked) false ⟨#[], #[.int .u8 0, .slice none 0 0, .slice none 0 0, .slice none 0 0], []⟩ 8 (by kernel_rfl) (by kernel_rfl) (by kernel_rfl) (by kernel_rfl)) ?_
  intro W base args ds gs before hval0 hW hcnd _
  have hval : ∀ (j : Nat) t v, Tryz.f4.params[j]? = some t → args[j]? = some v → Value.okWide Tryz.prog W .any base t v := hval0
  have hW' := hW
  obtain ⟨p, q, hA0, hV, rfl, hfz, hnd⟩ := hW
  have hA : DataW.TrodAll enc Tryz.prog W 0 (fun _ => true) true Tryz.f4.params.toList args.toList ds p := hA0
  rw [Tryz.params4] at hA hval
  obtain ⟨v0, vs0, d0, ds0, p0, q0, hargs, rfl, rfl, h0, r0⟩ := trodAll_cons hA
  obtain ⟨v1, vs1, d1, ds1, p1, q1, rfl, rfl, rfl, h1, r1⟩ := trodAll_cons r0
  obtain ⟨v2, vs2, d2, ds2, p2, q2, rfl, rfl, rfl, h2, r2⟩ := trodAll_cons r1
  obtain ⟨v3, vs3, d3, ds3, p3, q3, rfl, rfl, rfl, h3, r3⟩ := trodAll_cons r2
  obtain ⟨rfl, rfl, rfl⟩ := trodAll_nil r3
  obtain rfl : args = #[v0, v1, v2, v3] := by cases args; simp_all
  obtain ⟨rfl, rfl⟩ := trodVars_none hV
  obtain ⟨a0, rfl, rfl, rfl, w0⟩ := open_int Tryz.underlying5 (hval 0 5 v0 rfl rfl) h0
  obtain ⟨a1, len1, cap1, rfl⟩ := okWide_slice Tryz.underlying63 (hval 1 63 v1 rfl rfl)
  obtain ⟨l1, w1⟩ := chgss_in rfl h1
  obtain ⟨a2, len2, cap2, rfl⟩ := okWide_slice Tryz.underlying54 (hval 2 54 v2 rfl rfl)
  obtain ⟨l2, w2⟩ := bytes_in rfl h2
  obtain ⟨a3, len3, cap3, rfl⟩ := okWide_slice Tryz.underlying54 (hval 3 54 v3 rfl rfl)
  obtain ⟨l3, w3⟩ := bytes_in rfl h3
  clear hA0 hval0
  refine (law_catomic w0 w1 w2 w3).mono fun e W' ⟨he, bel⟩ => ?_
  subst he
  exact ⟨_, rfl, _, _, _, [], _, [], hW', trodAll_mk1 (shut_bool Tryz.underlying4 _), (trodAll_cons_mk (shut_int Tryz.underlying5 w0) (trodAll_cons_mk (Below.trod laid_out (by kernel_rfl) (of_decide_eq_true (by kernel_rfl)) h1 bel (trod_lt h1)) (trodAll_cons_mk (Below.trod laid_out (by kernel_rfl) (of_decide_eq_true (by kernel_rfl)) h2 bel (trod_lt h2)) (trodAll_cons_mk (Below.trod laid_out (by kernel_rfl) (of_decide_eq_true (by kernel_rfl)) h3 bel (trod_lt h3)) trodAll_mk0)))), rfl, bel.frame _, fun h => by cases h⟩

theorem proved : Rows.CellsAtomicSaid :=
  OpenClaim.holds_of_wide 4 Tryz.f4 rfl rfl rfl rfl rfl rfl rfl ⟨rfl, rfl, rfl, rfl, rfl⟩ rfl rfl rfl rfl rfl (by kernel_rfl) Tryz.func4 (by kernel_rfl)
    (of_decide_eq_true (by kernel_rfl)) (by unfold Func.isWrapper; first | (rw [if_pos (by decide +kernel)]; kernel_rfl) | (rw [if_neg (by decide +kernel)]; exact ⟨rfl, rfl⟩))
    (fun os started H enc _ => lifted os started H enc)
#print axioms proved
end Go.Proofs.YtcgnaomffioldaaGreat.cellsAtomic
