/-
  Cells: all is written anew in the other half.
-/
import Derived.Test.YtcgnaomffioldaaGreatPk18
/-! Cells: all is written anew in the other half. -/
namespace Go.Proofs.YtcgnaomffioldaaGreat
open Go.RowKit Codec

/-- What stands behind changes that were written. -/
def WrP (w : World) (S T : Nat → Prop) (p g : Nat) (r : DM × SM × Int) (e : Ending) (w' : World) : Prop :=
  e = .returned (.int .i64 r.2.2) ∧ Dk w' S g r.1 ∧ Cs w' (fun k => T k ∨ w.heap.size ≤ k) p g r.2.1 ∧ Turned (fun k => S k ∨ T k) w w'
/-- The log that is begun in a half. -/
def otherM (d : DM) (s : SM) : LM := beginM (halfM d (1 - s.half)) (((1 - s.half) * hn d : Nat) : Int) ((hn d : Nat) : Int) s.log.next
set_option maxHeartbeats 8000000 in
set_option maxRecDepth 100000 in
theorem cturn_any {w : World} {S T U : Nat → Prop} {p g : Nat} {d : DM} {s : SM} (h : Cs w T p g s) (hd : Dk w S g d) (hST : ∀ k, k < w.heap.size → S k → ¬ T k) (ok : SOk s) (h1 : 1 ≤ hn d) {A : Option Addr} {n c : Nat} {l : List Ch} (hl : Chs w U A n c l) (hb : wtT s.t + wtC l ≤ 800000) (hk : ∀ x ∈ l, x.k.length ≤ 1000000 ∧ x.v.length ≤ 1000000) :
    Calls Tryz.prog 69 #[.pointer (some ⟨p, 0, none⟩), .slice A n c] w fun e w' => WrP w S T p g (turnC d s l) e w' := by
  obtain ⟨q, b, SL, SN, hTp, hrow, hlg, hnm, hSL, hSN⟩ := h
  have hc1 : w.cell? ⟨p, 1, none⟩ = some (.int .i64 (s.half : Int)) := cell_of_cells hrow 1
  have hsub : IntKind.i64.wrap (1 - (s.half : Int)) = ((1 - s.half : Nat) : Int) := by rw [IntWalk.i64_in _ (by have := ok.half; omega)]; have := ok.half; omega
  have hoth : 1 - s.half ≤ 1 := by omega
  have hbg := fun W (hb : Below w.heap.size w W) => hbegin_any (hd.below hb) (1 - s.half) hoth s.log.next ok.log.next
  have herr := hn_err h1 (1 - s.half) hoth
  obtain ⟨M, hM⟩ : ∃ M, M = otherM d s := ⟨_, rfl⟩
  have hok : M.Ok := by
    have h2 : hn d = d.l.length / 2 := rfl
    have h3 := hd.few
    have h4 : (1 - s.half) * hn d ≤ hn d := by rcases Nat.le_one_iff_eq_zero_or_eq_one.1 hoth with h | h <;> rw [h] <;> omega
    have h5 : (1 - s.half) * hn d + hn d ≤ d.l.length := by omega
    rw [hM]
    unfold otherM halfM
    exact beginM_ok (openM_ok (d := d) (by omega) h1 (by omega) h5) rfl rfl ok.log.next
  have hbg' : ∀ W, Below w.heap.size w W → Calls Tryz.prog 30 #[.pointer (some ⟨g, 0, none⟩), .int .i64 ((1 - s.half : Nat) : Int), .int .u64 (s.log.next : Int)] W fun e w' => MadeL W g M (if d.down then 30 else 0) e w' := fun W hb => by
    have h := hbg W hb
    unfold hn at herr
    rw [herr] at h
    rw [hM]
    exact h
  have hnx : ∀ W, Below w.heap.size w W → Calls Tryz.prog 31 #[.pointer (some ⟨q, 0, none⟩)] W fun e w' => e = .returned (.int .u64 (s.log.next : Int)) ∧ W = w' := fun W hb => wnext_any (hlg.below hb)
  have HBG := Lib.hid hbg'
  have HNX := Lib.hid hnx
  have HT : Hid (turnC d s l = if d.down then (d, s, 30) else if (addM d M (allB (doL s.t l))).2.2 = 0 then ((addM d M (allB (doL s.t l))).1, { s with half := 1 - s.half, log := (addM d M (allB (doL s.t l))).2.1, turns := s.turns + 1 }, 0) else ((addM d M (allB (doL s.t l))).1, s, (addM d M (allB (doL s.t l))).2.2)) := Lib.hid (by rw [hM]; rfl)
  have HL := Lib.hid (And.intro (hl.mono (T := fun k => k < w.heap.size) fun k hk _ => hk) (And.intro hb (And.intro hk (And.intro hd (And.intro hST (And.intro ok hok))))))
  have HS := Lib.hid (And.intro hTp (And.intro hrow (And.intro hlg (And.intro hnm (And.intro hSL hSN)))))
  obtain ⟨O, hO⟩ : ∃ O, O = 1 - s.half := ⟨_, rfl⟩
  rw [← hO] at hsub HBG
  have HO := Lib.hid hO
  have HP := Lib.hid (lt_of_cells hrow)
  clear hTp hrow hlg hnm hSL hSN hl hb hk hd hST ok hok h1 hbg herr hM hbg' hnx hO hoth
  go_enter Tryz.func69, Tryz.ntmps69
  go_upto_region 2 with fail
  have HC : Hid (p < w.drew.heap.size ∧ w.drew.cell? ⟨p, 0, none⟩ = some (.pointer (some ⟨g, 0, none⟩)) ∧ w.drew.cell? ⟨p, 2, none⟩ = some (.pointer (some ⟨q, 0, none⟩))) := Lib.hid ⟨HP.out, cell_of_cells (w := w.drew) HS.out.2.1 0, cell_of_cells (w := w.drew) HS.out.2.1 2⟩
  clear hc1
  cases hdn : d.down
  · rw [hdn] at HBG
    simp only [Bool.false_eq_true, if_false] at HBG
    have HDN := Lib.hid hdn
    clear hdn
    refine wp_region_grow (fun W W' => Below W.heap.size W W') (Grow.nth [fun v _ => v = .pointer (some ⟨p, 0, none⟩), fun v _ => v = .pointer (some ⟨p, 0, none⟩), fun v _ => v = .pointer (some ⟨p, 0, none⟩), fun v _ => v = .pointer (some ⟨g, 0, none⟩), fun v _ => v = .int .i64 (O : Int), fun v _ => v = .pointer (some ⟨p, 0, none⟩), fun v _ => v = .pointer (some ⟨p, 0, none⟩), fun v _ => v = .pointer (some ⟨p, 2, none⟩), fun v _ => v = .pointer (some ⟨q, 0, none⟩), fun v _ => v = .int .u64 (s.log.next : Int), fun v W => ∃ m, v = .tuple #[.pointer (some ⟨m, 0, none⟩), .int .i64 0] ∧ Lg W (fun k => w.heap.size ≤ k) m g M, fun v W => ∃ m, v = .tuple #[.pointer (some ⟨m, 0, none⟩), .int .i64 0] ∧ Lg W (fun k => w.heap.size ≤ k) m g M, fun v W => ∃ m, v = .pointer (some ⟨m, 0, none⟩) ∧ Lg W (fun k => w.heap.size ≤ k) m g M, fun v _ => v = .int .i64 0, fun v W => ∃ m, v = .pointer (some ⟨m, 0, none⟩) ∧ Lg W (fun k => w.heap.size ≤ k) m g M, fun v _ => v = .int .i64 0]) 62 (by kernel_rfl) (by kernel_rfl) (by rfl) (fun W => Below.refl _ W) (fun _ _ _ h1 h2 => h1.trans (h2.mono h1.size)) (Grow.mono_nth ?gmono) ?gsteps ?gfin
    case gmono => exact ⟨fun _ _ _ h _ => h, fun _ _ _ h _ => h, fun _ _ _ h _ => h, fun _ _ _ h _ => h, fun _ _ _ h _ => h, fun _ _ _ h _ => h, fun _ _ _ h _ => h, fun _ _ _ h _ => h, fun _ _ _ h _ => h, fun _ _ _ h _ => h, fun _ _ _ ⟨m, h1, h2⟩ hg => ⟨m, h1, h2.below hg⟩, fun _ _ _ ⟨m, h1, h2⟩ hg => ⟨m, h1, h2.below hg⟩, fun _ _ _ ⟨m, h1, h2⟩ hg => ⟨m, h1, h2.below hg⟩, fun _ _ _ h _ => h, fun _ _ _ ⟨m, h1, h2⟩ hg => ⟨m, h1, h2.below hg⟩, fun _ _ _ h _ => h, trivial⟩
    case gsteps =>
      show Grow.allBelow _ 16
      refine And.intro ?_ ?s15
      refine And.intro ?_ ?s14
      refine And.intro ?_ ?s13
      refine And.intro ?_ ?s12
      refine And.intro ?_ ?s11
      refine And.intro ?_ ?s10
      refine And.intro ?_ ?s9
      refine And.intro ?_ ?s8
      refine And.intro ?_ ?s7
      refine And.intro ?_ ?s6
      refine And.intro ?_ ?s5
      refine And.intro ?_ ?s4
      refine And.intro ?_ ?s3
      refine And.intro ?_ ?s2
      refine And.intro ?_ ?s1
      refine And.intro ?_ ?s0
      exact trivial
      case s0 =>
        refine Grow.step_in (by rfl) (by rfl) ?_
        intro E W ec eg ef hG hd hu R HR
        have e0 : E (.tmp 0) = .pointer (some ⟨p, 0, none⟩) := hu 0 (by kernel_rfl)
        clear hd hu
        go_simp
        exact HR.out _ _ (Below.refl _ _) rfl
      case s1 =>
        refine Grow.step_in (by rfl) (by rfl) ?_
        intro E W ec eg ef hG hd hu R HR
        have e16 : E (.tmp 16) = .pointer (some ⟨p, 0, none⟩) := hd 0 16 (by kernel_rfl)
        clear hd hu
        go_simp
        exact HR.out _ _ (Below.refl _ _) rfl
      case s2 =>
        refine Grow.step_in (by rfl) (by rfl) ?_
        intro E W ec eg ef hG hd hu R HR
        have e17 : E (.tmp 17) = .pointer (some ⟨p, 0, none⟩) := hd 1 17 (by kernel_rfl)
        clear hd hu
        go_simp
        exact HR.out _ _ (Below.refl _ _) rfl
      case s3 =>
        refine Grow.step_in (by rfl) (by rfl) ?_
        intro E W ec eg ef hG hd hu R HR
        have e18 : E (.tmp 18) = .pointer (some ⟨p, 0, none⟩) := hd 2 18 (by kernel_rfl)
        clear hd hu
        have hcl := (hG.cell (p := ⟨p, 0, none⟩) HC.out.1).trans HC.out.2.1
        go_simp
        exact HR.out _ _ (Below.refl _ _) rfl
      case s4 =>
        refine Grow.step_in (by rfl) (by rfl) ?_
        intro E W ec eg ef hG hd hu R HR
        have e5 : E (.tmp 5) = .int .i64 (O : Int) := hu 5 (by kernel_rfl)
        clear hd hu
        go_simp
        exact HR.out _ _ (Below.refl _ _) rfl
      case s5 =>
        refine Grow.step_in (by rfl) (by rfl) ?_
        intro E W ec eg ef hG hd hu R HR
        have e0 : E (.tmp 0) = .pointer (some ⟨p, 0, none⟩) := hu 0 (by kernel_rfl)
        clear hd hu
        go_simp
        exact HR.out _ _ (Below.refl _ _) rfl
      case s6 =>
        refine Grow.step_in (by rfl) (by rfl) ?_
        intro E W ec eg ef hG hd hu R HR
        have e21 : E (.tmp 21) = .pointer (some ⟨p, 0, none⟩) := hd 5 21 (by kernel_rfl)
        clear hd hu
        go_simp
        exact HR.out _ _ (Below.refl _ _) rfl
      case s7 =>
        refine Grow.step_in (by rfl) (by rfl) ?_
        intro E W ec eg ef hG hd hu R HR
        have e22 : E (.tmp 22) = .pointer (some ⟨p, 0, none⟩) := hd 6 22 (by kernel_rfl)
        clear hd hu
        go_simp
        exact HR.out _ _ (Below.refl _ _) rfl
      case s8 =>
        refine Grow.step_in (by rfl) (by rfl) ?_
        intro E W ec eg ef hG hd hu R HR
        have e23 : E (.tmp 23) = .pointer (some ⟨p, 2, none⟩) := hd 7 23 (by kernel_rfl)
        clear hd hu
        have hcl := (hG.cell (p := ⟨p, 2, none⟩) HC.out.1).trans HC.out.2.2
        go_simp
        exact HR.out _ _ (Below.refl _ _) rfl
      case s9 =>
        refine Grow.step_in (by rfl) (by rfl) ?_
        intro E W ec eg ef hG hd hu R HR
        have e24 : E (.tmp 24) = .pointer (some ⟨q, 0, none⟩) := hd 8 24 (by kernel_rfl)
        clear hd hu
        go_simp
        refine (HNX.out W ⟨hG.os, hG.tape, hG.output, hG.size, hG.block⟩).mono ?_
        rintro _ w' ⟨rfl, rfl⟩
        exact ⟨_, rfl, HR.out _ _ (Below.refl _ _) rfl⟩
      case s10 =>
        refine Grow.step_in (by rfl) (by rfl) ?_
        intro E W ec eg ef hG hd hu R HR
        have e19 : E (.tmp 19) = .pointer (some ⟨g, 0, none⟩) := hd 3 19 (by kernel_rfl)
        have e20 : E (.tmp 20) = .int .i64 (O : Int) := hd 4 20 (by kernel_rfl)
        have e25 : E (.tmp 25) = .int .u64 (s.log.next : Int) := hd 9 25 (by kernel_rfl)
        clear hd hu
        go_simp
        refine (HBG.out W ⟨hG.os, hG.tape, hG.output, hG.size, hG.block⟩).mono ?_
        rintro _ w' hml
        obtain ⟨hm1, hm2⟩ := hml
        rw [if_pos rfl] at hm1
        obtain ⟨m, rfl, hm3⟩ := hm1
        exact ⟨_, rfl, HR.out _ _ hm2 ⟨m, rfl, hm3.mono fun k _ hk => by have h1 := hG.size; have h2 : W.heap.size ≤ k := hk; show w.heap.size ≤ k; have h3 : w.drew.heap.size = w.heap.size := rfl; omega⟩⟩
      case s11 =>
        refine Grow.step_in (by rfl) (by rfl) ?_
        intro E W ec eg ef hG hd hu R HR
        have h26 := hd 10 26 (by kernel_rfl)
        clear hd hu
        obtain ⟨m, e26, hL⟩ := h26
        go_simp
        exact HR.out _ _ (Below.refl _ _) ⟨m, rfl, hL⟩
      case s12 =>
        refine Grow.step_in (by rfl) (by rfl) ?_
        intro E W ec eg ef hG hd hu R HR
        have h15 := hd 11 15 (by kernel_rfl)
        clear hd hu
        obtain ⟨m, e15, hL⟩ := h15
        go_simp
        exact HR.out _ _ (Below.refl _ _) ⟨m, rfl, hL⟩
      case s13 =>
        refine Grow.step_in (by rfl) (by rfl) ?_
        intro E W ec eg ef hG hd hu R HR
        have h15 := hd 11 15 (by kernel_rfl)
        clear hd hu
        obtain ⟨m, e15, hL⟩ := h15
        go_simp
        exact HR.out _ _ (Below.refl _ _) rfl
      case s14 =>
        refine Grow.step_in (by rfl) (by rfl) ?_
        intro E W ec eg ef hG hd hu R HR
        have h27 := hd 12 27 (by kernel_rfl)
        clear hd hu
        obtain ⟨m, e27, hL⟩ := h27
        go_simp
        exact HR.out _ _ (Below.refl _ _) ⟨m, rfl, hL⟩
      case s15 =>
        refine Grow.step_in (by rfl) (by rfl) ?_
        intro E W ec eg ef hG hd hu R HR
        have e28 : E (.tmp 28) = .int .i64 0 := hd 13 28 (by kernel_rfl)
        clear hd hu
        go_simp
        exact HR.out _ _ (Below.refl _ _) rfl
    case gfin =>
      intro W hG
      refine Grow.fin_dst (by rfl) ?_
      rintro _ rfl
      refine Grow.fin_dst (by rfl) ?_
      rintro _ rfl
      refine Grow.fin_dst (by rfl) ?_
      rintro _ rfl
      refine Grow.fin_dst (by rfl) ?_
      rintro _ rfl
      refine Grow.fin_dst (by rfl) ?_
      rintro _ rfl
      refine Grow.fin_dst (by rfl) ?_
      rintro _ rfl
      refine Grow.fin_dst (by rfl) ?_
      rintro _ rfl
      refine Grow.fin_dst (by rfl) ?_
      rintro _ rfl
      refine Grow.fin_dst (by rfl) ?_
      rintro _ rfl
      refine Grow.fin_dst (by rfl) ?_
      rintro _ rfl
      refine Grow.fin_dst (by rfl) ?_
      rintro _ ⟨ma, rfl, _⟩
      refine Grow.fin_dst (by rfl) ?_
      rintro _ ⟨mb, rfl, _⟩
      refine Grow.fin_dst (by rfl) ?_
      rintro _ ⟨mc, rfl, _⟩
      refine Grow.fin_dst (by rfl) ?_
      rintro _ rfl
      refine Grow.fin_dst (by rfl) ?_
      rintro _ ⟨m, rfl, hLm⟩
      refine Grow.fin_dst (by rfl) ?_
      rintro _ rfl
      simp only [Act.put, List.setIfInBounds_toArray, List.set_cons_zero, List.set_cons_succ]
      refine Grow.fin_end ?_
      have HW := Lib.hid (And.intro (show Below w.heap.size w W from ⟨hG.os, hG.tape, hG.output, hG.size, hG.block⟩) (hLm.mono (T := fun k => w.heap.size ≤ k ∧ k < W.heap.size) fun k hk h => ⟨h, hk⟩))
      clear hG hLm
      have hc3 : W.cell? ⟨p, 3, none⟩ = some (.map (some b)) := by rw [cell_of_cells ((HW.out.1.block _ HP.out).trans HS.out.2.1)]; rfl
      have hmc := mclone_any (HS.out.2.2.2.1.below HW.out.1)
      go_upto_region 6 with (go_at_call 96; refine hmc.mono ?_; clear hmc; rintro _ wA ⟨rfl, hnA, hbA⟩)
      have hbA' := HW.out.1.trans (hbA.mono HW.out.1.size)
      have hln := HL.out.1.len
      have hwc := wtC_len l
      have hwt := wtT_len s.t
      have hdo := do_any hnA (HL.out.1.below hbA') (fun k _ h e => by have := HW.out.1.size; omega) ⟨by have := HL.out.2.1; omega, by have := HL.out.2.1; omega⟩ HL.out.2.2.1
      have HA := Lib.hid (And.intro hbA' (And.intro HW.out.1.size (And.intro hbA.size hbA)))
      clear hnA hbA hbA' hc3 hln hwc hwt
      go_upto_region 7 with (go_at_call 38; refine hdo.mono ?_; clear hdo; rintro _ wB ⟨rfl, hnB, htB⟩)
      have hbB : Below w.heap.size w wB := HA.out.1.trans ((htB.mono (T := (w.heap.size ≤ ·)) fun k _ e => by rw [show k = W.heap.size from e]; exact HA.out.2.1).below (by have := HA.out.2.1; have := HA.out.2.2.1; omega))
      have hWB : W.heap.size ≤ wB.heap.size := by have := HA.out.2.2.1; have := htB.size; omega
      have har := allrec_any hnB (by have := wtT_doL l s.t; have := HL.out.2.1; omega)
      have HLB := Lib.hid (And.intro hbB (And.intro hWB (HW.out.2.turned ((Turned.of_below (S := fun k => k = W.heap.size) HA.out.2.2.2).trans htB fun _ _ h => h) fun k _ h1 h2 => by omega)))
      have hal := allB_len (doL s.t l) (by have := wtT_doL l s.t; have := HL.out.2.1; omega)
      have HAL := Lib.hid (show (allB (doL s.t l)).length ≤ 1000000 by have := wtT_doL l s.t; have := HL.out.2.1; omega)
      obtain ⟨AB, hAB⟩ : ∃ AB, AB = allB (doL s.t l) := ⟨_, rfl⟩
      rw [← hAB] at HAL har HT
      clear hnB htB hbB hWB hal hAB
      go_upto_region 8 with (first
        | (go_at_call 97; refine har.mono ?_; clear har; rintro _ wC ⟨A6, m6, c6, rfl, hyC, hbC⟩; have HBC := Lib.hid (HLB.out.1.trans (hbC.mono HLB.out.1.size)); have hadd := wadd_any (HLB.out.2.2.below hbC) ((HL.out.2.2.2.1.mono (T := fun k => S k ∧ k < w.heap.size) fun k hk h => ⟨h, hk⟩).below HBC.out) (fun k _ h1 h2 => by omega) HL.out.2.2.2.2.2.2 hyC (fun k _ h => ⟨fun h1 => by have h' : wB.heap.size ≤ k := h; have := HLB.out.1.size; omega, fun h1 => by have h' : wB.heap.size ≤ k := h; have := HLB.out.2.1; omega⟩) (by have := hyC.len; have := HAL.out; omega); clear hyC hbC)
        | (go_at_call 68; refine hadd.mono ?_; clear hadd; rintro _ wD ⟨rfl, hdD, hlD, htD⟩))
      obtain ⟨d', hd'⟩ : ∃ d', d' = (addM d M AB).1 := ⟨_, rfl⟩
      obtain ⟨M', hM'⟩ : ∃ M', M' = (addM d M AB).2.1 := ⟨_, rfl⟩
      obtain ⟨E2, hE2⟩ : ∃ E2, E2 = (addM d M AB).2.2 := ⟨_, rfl⟩
      rw [← hd'] at hdD
      rw [← hM'] at hlD
      rw [← hE2]
      rw [← hd', ← hM', ← hE2, HDN.out, if_neg (by decide)] at HT
      have hcs : Cs w T p g s := ⟨q, b, SL, SN, HS.out⟩
      have hcsD := (((hcs.mono (T := fun k => T k ∧ k < w.heap.size) fun k hk h => ⟨h, hk⟩).below HBC.out).turned htD fun k _ h1 h2 => by
        rcases h2 with h2 | h2
        · exact HL.out.2.2.2.2.1 k h1.2 h2.1 h1.1
        · omega)
      have htw : Turned (fun k => S k ∨ T k) w wD := (Turned.of_below (S := fun k => S k ∨ T k) HBC.out).trans htD fun k hk h => by
        rcases h with h | h
        · exact .inl h.1
        · omega
      have HD := Lib.hid (And.intro (hdD.mono (T := S) fun k _ h => h.1) (And.intro hcsD (And.intro htw (And.intro (hlD.mono (T := fun k => (w.heap.size ≤ k ∧ k < wD.heap.size)) fun k hk h => ⟨by rcases h with h | h; exact h.1; have := HBC.out.size; omega, hk⟩) (HBC.out.size)))))
      have hrowD := (htD.block p (Nat.lt_of_lt_of_le HP.out HBC.out.size) (fun h => by
        rcases h with h | h
        · exact HL.out.2.2.2.2.1 p h.2 h.1 HS.out.1
        · have := HP.out; omega)).trans ((HBC.out.block _ HP.out).trans HS.out.2.1)
      have HRD := Lib.hid hrowD
      have htD' := Lib.hid htD
      clear hdD hlD htD hcs hcsD htw hd' hM' hE2
      by_cases hz : E2 = 0
      · subst hz
        have hr1 := cell_of_cells hrowD 1
        have hr2 := cell_of_cells hrowD 2
        have hr4 : wD.cell? ⟨p, 4, none⟩ = some (.int .i64 (s.turns : Int)) := cell_of_cells hrowD 4
        have hf1 := free_of_cells hrowD 1
        have hf2 := free_of_cells hrowD 2
        have hf4 := free_of_cells hrowD 4
        have hadd1 := IntWalk.i64_in ((s.turns : Int) + 1) (by have := HL.out.2.2.2.2.2.1.turns; omega)
        clear hrowD
        go_wp2_with fail
        go_ret
        have hrowD := HRD.out
        rw [HT.out, if_pos trivial]
        have hrE := set_of_cells (set_of_cells (set_of_cells hrowD 1 (.int .i64 (O : Int))) 2 (.pointer (some ⟨m, 0, none⟩))) 4 (.int .i64 ((s.turns : Int) + 1))
        have hte : Turned (fun k => k = p) wD (((wD.setCell ⟨p, 1, none⟩ (.int .i64 (O : Int))).setCell ⟨p, 2, none⟩ (.pointer (some ⟨m, 0, none⟩))).setCell ⟨p, 4, none⟩ (.int .i64 ((s.turns : Int) + 1))) := ((((Turned.refl (fun k => k = p) wD).set rfl 1 _).set rfl 2 _).set rfl 4 _)
        have hpw := HP.out
        have hnmD : Nms wD (fun k => SN k ∧ k < w.heap.size) b s.t := ((HS.out.2.2.2.1.mono (T := fun k => SN k ∧ k < w.heap.size) fun k hk h => ⟨h, hk⟩).below HBC.out).turned htD'.out fun k _ h1 h2 => by
          rcases h2 with h2 | h2
          · exact HL.out.2.2.2.2.1 k h1.2 h2.1 (HS.out.2.2.2.2.2 k h1.2 h1.1).1
          · omega
        refine ⟨rfl, HD.out.1.turned hte (fun k _ h1 h2 => HL.out.2.2.2.2.1 p hpw (by rw [← show k = p from h2]; exact h1) HS.out.1), ?_, HD.out.2.2.1.trans hte fun k _ h => by rw [show k = p from h]; exact .inr HS.out.1⟩
        refine ⟨m, b, fun k => w.heap.size ≤ k ∧ k < wD.heap.size, fun k => SN k ∧ k < w.heap.size, .inl HS.out.1, ?_, HD.out.2.2.2.1.turned hte fun k _ h1 h2 => by (have h2' : k = p := h2); omega, hnmD.turned hte fun k _ h1 h2 => (HS.out.2.2.2.2.2 k h1.2 h1.1).2 h2, fun k _ h => ⟨.inr h.1, by omega, fun h2 => by omega⟩, fun k _ h => ⟨.inl (HS.out.2.2.2.2.2 k h.2 h.1).1, (HS.out.2.2.2.2.2 k h.2 h.1).2⟩⟩
        rw [hrE]
        unfold scV
        rw [← HO.out]
        rfl
      · have hz' : (E2 != 0) = true := by simpa using hz
        have HZ := Lib.hid hz
        clear hz hrowD
        go_wp2_with fail
        go_ret
        rw [HT.out, if_neg HZ.out]
        exact ⟨rfl, HD.out.1, HD.out.2.1.mono fun k _ h => .inl h.1, HD.out.2.2.1⟩
  · rw [hdn] at HBG
    simp only [if_true] at HBG
    have HDN := Lib.hid hdn
    clear hdn
    refine wp_region_grow (fun W W' => Below W.heap.size W W') (Grow.nth [fun v _ => v = .pointer (some ⟨p, 0, none⟩), fun v _ => v = .pointer (some ⟨p, 0, none⟩), fun v _ => v = .pointer (some ⟨p, 0, none⟩), fun v _ => v = .pointer (some ⟨g, 0, none⟩), fun v _ => v = .int .i64 (O : Int), fun v _ => v = .pointer (some ⟨p, 0, none⟩), fun v _ => v = .pointer (some ⟨p, 0, none⟩), fun v _ => v = .pointer (some ⟨p, 2, none⟩), fun v _ => v = .pointer (some ⟨q, 0, none⟩), fun v _ => v = .int .u64 (s.log.next : Int), fun v _ => v = .tuple #[.pointer none, .int .i64 30], fun v _ => v = .tuple #[.pointer none, .int .i64 30], fun v _ => v = .pointer none, fun v _ => v = .int .i64 30, fun v _ => v = .pointer none, fun v _ => v = .int .i64 30]) 62 (by kernel_rfl) (by kernel_rfl) (by rfl) (fun W => Below.refl _ W) (fun _ _ _ h1 h2 => h1.trans (h2.mono h1.size)) (Grow.mono_nth ?gmono) ?gsteps ?gfin
    case gmono => exact ⟨fun _ _ _ h _ => h, fun _ _ _ h _ => h, fun _ _ _ h _ => h, fun _ _ _ h _ => h, fun _ _ _ h _ => h, fun _ _ _ h _ => h, fun _ _ _ h _ => h, fun _ _ _ h _ => h, fun _ _ _ h _ => h, fun _ _ _ h _ => h, fun _ _ _ h _ => h, fun _ _ _ h _ => h, fun _ _ _ h _ => h, fun _ _ _ h _ => h, fun _ _ _ h _ => h, fun _ _ _ h _ => h, trivial⟩
    case gsteps =>
      show Grow.allBelow _ 16
      refine And.intro ?_ ?s15
      refine And.intro ?_ ?s14
      refine And.intro ?_ ?s13
      refine And.intro ?_ ?s12
      refine And.intro ?_ ?s11
      refine And.intro ?_ ?s10
      refine And.intro ?_ ?s9
      refine And.intro ?_ ?s8
      refine And.intro ?_ ?s7
      refine And.intro ?_ ?s6
      refine And.intro ?_ ?s5
      refine And.intro ?_ ?s4
      refine And.intro ?_ ?s3
      refine And.intro ?_ ?s2
      refine And.intro ?_ ?s1
      refine And.intro ?_ ?s0
      exact trivial
      case s0 =>
        refine Grow.step_in (by rfl) (by rfl) ?_
        intro E W ec eg ef hG hd hu R HR
        have e0 : E (.tmp 0) = .pointer (some ⟨p, 0, none⟩) := hu 0 (by kernel_rfl)
        clear hd hu
        go_simp
        exact HR.out _ _ (Below.refl _ _) rfl
      case s1 =>
        refine Grow.step_in (by rfl) (by rfl) ?_
        intro E W ec eg ef hG hd hu R HR
        have e16 : E (.tmp 16) = .pointer (some ⟨p, 0, none⟩) := hd 0 16 (by kernel_rfl)
        clear hd hu
        go_simp
        exact HR.out _ _ (Below.refl _ _) rfl
      case s2 =>
        refine Grow.step_in (by rfl) (by rfl) ?_
        intro E W ec eg ef hG hd hu R HR
        have e17 : E (.tmp 17) = .pointer (some ⟨p, 0, none⟩) := hd 1 17 (by kernel_rfl)
        clear hd hu
        go_simp
        exact HR.out _ _ (Below.refl _ _) rfl
      case s3 =>
        refine Grow.step_in (by rfl) (by rfl) ?_
        intro E W ec eg ef hG hd hu R HR
        have e18 : E (.tmp 18) = .pointer (some ⟨p, 0, none⟩) := hd 2 18 (by kernel_rfl)
        clear hd hu
        have hcl := (hG.cell (p := ⟨p, 0, none⟩) HC.out.1).trans HC.out.2.1
        go_simp
        exact HR.out _ _ (Below.refl _ _) rfl
      case s4 =>
        refine Grow.step_in (by rfl) (by rfl) ?_
        intro E W ec eg ef hG hd hu R HR
        have e5 : E (.tmp 5) = .int .i64 (O : Int) := hu 5 (by kernel_rfl)
        clear hd hu
        go_simp
        exact HR.out _ _ (Below.refl _ _) rfl
      case s5 =>
        refine Grow.step_in (by rfl) (by rfl) ?_
        intro E W ec eg ef hG hd hu R HR
        have e0 : E (.tmp 0) = .pointer (some ⟨p, 0, none⟩) := hu 0 (by kernel_rfl)
        clear hd hu
        go_simp
        exact HR.out _ _ (Below.refl _ _) rfl
      case s6 =>
        refine Grow.step_in (by rfl) (by rfl) ?_
        intro E W ec eg ef hG hd hu R HR
        have e21 : E (.tmp 21) = .pointer (some ⟨p, 0, none⟩) := hd 5 21 (by kernel_rfl)
        clear hd hu
        go_simp
        exact HR.out _ _ (Below.refl _ _) rfl
      case s7 =>
        refine Grow.step_in (by rfl) (by rfl) ?_
        intro E W ec eg ef hG hd hu R HR
        have e22 : E (.tmp 22) = .pointer (some ⟨p, 0, none⟩) := hd 6 22 (by kernel_rfl)
        clear hd hu
        go_simp
        exact HR.out _ _ (Below.refl _ _) rfl
      case s8 =>
        refine Grow.step_in (by rfl) (by rfl) ?_
        intro E W ec eg ef hG hd hu R HR
        have e23 : E (.tmp 23) = .pointer (some ⟨p, 2, none⟩) := hd 7 23 (by kernel_rfl)
        clear hd hu
        have hcl := (hG.cell (p := ⟨p, 2, none⟩) HC.out.1).trans HC.out.2.2
        go_simp
        exact HR.out _ _ (Below.refl _ _) rfl
      case s9 =>
        refine Grow.step_in (by rfl) (by rfl) ?_
        intro E W ec eg ef hG hd hu R HR
        have e24 : E (.tmp 24) = .pointer (some ⟨q, 0, none⟩) := hd 8 24 (by kernel_rfl)
        clear hd hu
        go_simp
        refine (HNX.out W ⟨hG.os, hG.tape, hG.output, hG.size, hG.block⟩).mono ?_
        rintro _ w' ⟨rfl, rfl⟩
        exact ⟨_, rfl, HR.out _ _ (Below.refl _ _) rfl⟩
      case s10 =>
        refine Grow.step_in (by rfl) (by rfl) ?_
        intro E W ec eg ef hG hd hu R HR
        have e19 : E (.tmp 19) = .pointer (some ⟨g, 0, none⟩) := hd 3 19 (by kernel_rfl)
        have e20 : E (.tmp 20) = .int .i64 (O : Int) := hd 4 20 (by kernel_rfl)
        have e25 : E (.tmp 25) = .int .u64 (s.log.next : Int) := hd 9 25 (by kernel_rfl)
        clear hd hu
        go_simp
        refine (HBG.out W ⟨hG.os, hG.tape, hG.output, hG.size, hG.block⟩).mono ?_
        rintro _ w' hml
        obtain ⟨hm1, hm2⟩ := hml
        rw [if_neg (by decide)] at hm1
        subst hm1
        exact ⟨_, rfl, HR.out _ _ hm2 rfl⟩
      case s11 =>
        refine Grow.step_in (by rfl) (by rfl) ?_
        intro E W ec eg ef hG hd hu R HR
        have e26 : E (.tmp 26) = .tuple #[.pointer none, .int .i64 30] := hd 10 26 (by kernel_rfl)
        clear hd hu
        go_simp
        exact HR.out _ _ (Below.refl _ _) rfl
      case s12 =>
        refine Grow.step_in (by rfl) (by rfl) ?_
        intro E W ec eg ef hG hd hu R HR
        have e15 : E (.tmp 15) = .tuple #[.pointer none, .int .i64 30] := hd 11 15 (by kernel_rfl)
        clear hd hu
        go_simp
        exact HR.out _ _ (Below.refl _ _) rfl
      case s13 =>
        refine Grow.step_in (by rfl) (by rfl) ?_
        intro E W ec eg ef hG hd hu R HR
        have e15 : E (.tmp 15) = .tuple #[.pointer none, .int .i64 30] := hd 11 15 (by kernel_rfl)
        clear hd hu
        go_simp
        exact HR.out _ _ (Below.refl _ _) rfl
      case s14 =>
        refine Grow.step_in (by rfl) (by rfl) ?_
        intro E W ec eg ef hG hd hu R HR
        have e27 : E (.tmp 27) = .pointer none := hd 12 27 (by kernel_rfl)
        clear hd hu
        go_simp
        exact HR.out _ _ (Below.refl _ _) rfl
      case s15 =>
        refine Grow.step_in (by rfl) (by rfl) ?_
        intro E W ec eg ef hG hd hu R HR
        have e28 : E (.tmp 28) = .int .i64 30 := hd 13 28 (by kernel_rfl)
        clear hd hu
        go_simp
        exact HR.out _ _ (Below.refl _ _) rfl
    case gfin =>
      intro W hG
      refine Grow.fin_dst (by rfl) ?_
      rintro _ rfl
      refine Grow.fin_dst (by rfl) ?_
      rintro _ rfl
      refine Grow.fin_dst (by rfl) ?_
      rintro _ rfl
      refine Grow.fin_dst (by rfl) ?_
      rintro _ rfl
      refine Grow.fin_dst (by rfl) ?_
      rintro _ rfl
      refine Grow.fin_dst (by rfl) ?_
      rintro _ rfl
      refine Grow.fin_dst (by rfl) ?_
      rintro _ rfl
      refine Grow.fin_dst (by rfl) ?_
      rintro _ rfl
      refine Grow.fin_dst (by rfl) ?_
      rintro _ rfl
      refine Grow.fin_dst (by rfl) ?_
      rintro _ rfl
      refine Grow.fin_dst (by rfl) ?_
      rintro _ rfl
      refine Grow.fin_dst (by rfl) ?_
      rintro _ rfl
      refine Grow.fin_dst (by rfl) ?_
      rintro _ rfl
      refine Grow.fin_dst (by rfl) ?_
      rintro _ rfl
      refine Grow.fin_dst (by rfl) ?_
      rintro _ rfl
      refine Grow.fin_dst (by rfl) ?_
      rintro _ rfl
      simp only [Act.put, List.setIfInBounds_toArray, List.set_cons_zero, List.set_cons_succ]
      refine Grow.fin_end ?_
      have HW := Lib.hid (show Below w.heap.size w W from ⟨hG.os, hG.tape, hG.output, hG.size, hG.block⟩)
      clear hG
      go_wp2_with fail
      go_ret
      rw [HT.out, HDN.out, if_pos rfl]
      have hcs : Cs w T p g s := ⟨q, b, SL, SN, HS.out⟩
      exact ⟨rfl, HL.out.2.2.2.1.below HW.out, (hcs.below HW.out).mono fun k _ h => .inl h, Turned.of_below HW.out⟩
end Go.Proofs.YtcgnaomffioldaaGreat
