/-
  The code: Pieces.
-/
import Derived.Test.YtcmdiclbbcdceaaCutEndsCode
import Derived.Test.YtcmdiclbbcdceaaRwsUp
import Derived.Test.YtcmdiclbbcdceaaClone
namespace Go.Proofs.Ytcmdiclbbcdceaa
open Go.RowKit

def RCp (w : World) (N : Nat) (ends : List Nat) (ps : List (List UInt8)) (v f i : Value) (wr : World) : Prop :=
  ∃ (i' : Nat) (rs : List (Option Addr × Nat × Nat)), i' ≤ N ∧ i = .int .i64 (i' : Int) ∧ f = .int .i64 (fromC ends i' : Int) ∧ RwsUp wr w.heap.size v i' rs (ps.take i') ∧ Below w.heap.size w wr
set_option maxHeartbeats 4000000 in
theorem cutpieces_any {w : World} {S : Nat → Prop} {A : Option Addr} {n c : Nat} {b : List UInt8} (h : Byt w S A n c b) (hn : n ≤ 1000000) (le mo bi : Int) :
    Calls Try.prog 10 #[.slice A n c, .agg #[.int .i64 le, .int .i64 mo, .int .i64 bi]] w fun e w' => ∃ A1 n1 c1, e = .returned (.tuple #[.slice A1 n1 c1, .int .i64 (cutErr le mo bi)]) ∧ Rws w' (w.heap.size ≤ ·) A1 n1 c1 (pieV le mo bi b) ∧ Below w.heap.size w w' := by
  have hb0 : Below w.heap.size w (w.alloc (.cells #[.int .i64 le, .int .i64 mo, .int .i64 bi] 24)) := (Below.refl _ _).alloc (Nat.le_refl _) _
  have hce := cutends_any (h.below hb0) hn le mo bi
  obtain ⟨V, hV⟩ : ∃ V, V = cutErr le mo bi := ⟨_, rfl⟩
  rw [← hV] at hce ⊢
  have HV := Lib.hid hV
  have H0 := Lib.hid (And.intro hb0 (And.intro h (And.intro hn (fun (_ : Unit) => h.len))))
  clear hb0 h hn hV
  obtain ⟨i1, hi, hz0, hz1, hz2⟩ := info_parts sl_info
  have HI := Lib.hid (And.intro hi (And.intro hz0 (And.intro hz1 hz2)))
  clear hi hz0 hz1 hz2
  by_cases hv : V = 0
  · subst hv
    go_enter Try.func10, Try.ntmps10
    go_wp2_with (go_at_call 9; refine hce.mono ?_; clear hce; rintro _ w1 ⟨A1, N, c1, rfl, hi1, hb1⟩; have H1 := Lib.hid (And.intro (H0.out.1.trans (hb1.mono H0.out.1.size)) hi1); clear hi1 hb1)
    have hNl := H1.out.2.len
    rw [endV_N, endI_length] at hNl
    have HN := Lib.hid hNl
    clear hNl
    go_loopw [8, 9, 23] (fun v f i wr => RCp w1 N (endN le mo bi b) (pieV le mo bi b) v f i wr) (fun _ _ i _ => N - (intOf i).toNat)
    case atStart => exact ⟨0, [], Nat.zero_le _, rfl, rfl, RwsUp.nil _ _, Below.refl _ _⟩
    case round =>
      obtain ⟨i', rs, hle, rfl, rfl, hup, hbr1⟩ := hrel
      have hbr := H1.out.1.trans (hbr1.mono H1.out.1.size)
      by_cases hlt : i' < N
      · have hlt' : (i' : Int) < (N : Int) := by omega
        have hat := pieV_at le mo bi b i' (by rw [HN.out]; exact hlt)
        have hcn := pieV_count le mo bi b
        rw [HN.out] at hcn
        obtain ⟨q1, o1, rfl, _, hlq, hl⟩ := H1.out.2.row (by omega)
        have hl0 := (hbr1.cell (p := ⟨_, _, none⟩) hlq).trans (hl i' hlt)
        rw [endV_N, endI_at _ _ (by rw [HN.out]; exact hlt)] at hl0
        obtain ⟨ee, hee⟩ : ∃ ee, ee = (endN le mo bi b)[i']?.getD 0 := ⟨_, rfl⟩
        obtain ⟨ff, hff⟩ : ∃ ff, ff = fromC (endN le mo bi b) i' := ⟨_, rfl⟩
        rw [← hee] at hl0 hat
        rw [← hff] at hat ⊢
        have hnl := H0.out.2.2.2 ()
        have hy := H0.out.2.1
        have hsl := fun W => run_lh (P := Try.prog) 22 5 Try.underlying22 u8_size A n c ff ee (ff : Int) (ee : Int) rfl rfl hat.1 (by have := hy.cap; omega) W
        have hcy := ((hy.below hbr).cut (k := ff) (by omega)).to (k := ee - ff) (by omega)
        rw [← hat.2.2] at hcy
        have hcl := clone_byt hcy (by have := H0.out.2.2.1; omega)
        have hii := IntWalk.i64_in ((i' : Int) + 1) (by have := endN_short le mo bi b; have := H0.out.2.2.1; have := HN.out; omega)
        have HU := Lib.hid (And.intro hup (And.intro hbr (And.intro hbr1 (And.intro hlt (And.intro (show ee = fromC (endN le mo bi b) (i' + 1) by rw [fromC_succ, hee]) hcn)))))
        have HL : Hid (i' + 1 ≤ 1000000) := Lib.hid (by have := endN_short le mo bi b; have := H0.out.2.2.1; have := HN.out; omega)
        have HSL := Lib.hid hsl
        clear hat hcn hl hlq hee hff hnl hy hcy hup hbr hbr1 hle hlt
        have hsl := HSL.out wr
        go_wp2_with (first
          | (go_at_call 14; refine hcl.mono ?_; clear hcl; rintro _ w2 ⟨A2, c2, rfl, hy2, hb2, _, _⟩; have HY2 := Lib.hid (And.intro hy2 hb2); clear hy2 hb2)
          | (at_builtin; refine wpList_append_own_at _ rfl _ _ 30 rfl w1.heap.size 22 i1 (.slice none 0 0) 1 24 Try.underlying30 HI.out.1 HI.out.2.1 HI.out.2.2.1 HI.out.2.2.2 rfl (by decide) _ i' (rs.map rowV) rfl ((HU.out.1.below HY2.out.2).own.alloc _) ⟨w2.heap.size, 0, none⟩ 1 1 [.slice A2 (ee - ff) c2] rfl rfl (cell_one_new _ _ _) (one_of rfl) (by have h1 := HL.out; unfold maxLen; omega) (by have h1 := HL.out; omega) (by have h1 := HU.out.2.2.1.size; have h2 := HY2.out.2.size; simp; omega) ?_))
        intro v' w3 hown hgrow _ hlie
        have hup2 := HU.out.1.below (HY2.out.2.trans ((Below.refl _ w2).alloc HY2.out.2.size (.cells #[.slice A2 (ee - ff) c2] 22)))
        have HU3 : Hid (RwsUp w3 w1.heap.size v' (i' + 1) (rs ++ [(A2, ee - ff, c2)]) ((pieV le mo bi b).take (i' + 1))) := Lib.hid (by
          rw [List.take_succ_eq_append_getElem (by rw [HU.out.2.2.2.2.2]; exact HU.out.2.2.2.1)]
          have hy3 := HY2.out.1
          rw [List.getElem?_eq_getElem (by rw [HU.out.2.2.2.2.2]; exact HU.out.2.2.2.1), Option.getD_some] at hy3
          exact hup2.push (hy3.alloc _) (fun b _ hb => ⟨by have := HU.out.2.2.1.size; omega, fun e => by have := (HU.out.1.own.lt _ e).2; omega⟩) hown hgrow (by simpa using hlie))
        have HB3 : Hid (Below w1.heap.size w1 w3) := Lib.hid (((HU.out.2.2.1.trans (HY2.out.2.mono HU.out.2.2.1.size)).alloc (by have h1 := HU.out.2.2.1.size; have h2 := HY2.out.2.size; omega) _).grown hgrow (by have h1 := HU.out.2.2.1.size; have h2 := HY2.out.2.size; simp; omega) fun k hk => (hup2.own.lt k hk).1)
        clear hown hgrow hlie hup2
        go_wp2_with fail
        go_roundw
        case rel => exact ⟨i' + 1, _, HU.out.2.2.2.1, by simp, by rw [HU.out.2.2.2.2.1], HU3.out, HB3.out⟩
        case measure => simp only [intOf]; have := HU.out.2.2.2.1; omega
      · have hlt' : ¬ (i' : Int) < (N : Int) := by omega
        obtain rfl : i' = N := by omega
        obtain ⟨A3, c3, rfl, hrw⟩ := hup.rws
        have hcn := pieV_count le mo bi b
        have hnn := HN.out
        rw [List.take_of_length_le (by omega)] at hrw
        have HF := Lib.hid (And.intro (hrw.mono (T := (w.heap.size ≤ ·)) fun b _ hb => Nat.le_trans H1.out.1.size hb) hbr)
        clear hbr1 hle hlt hup hbr hrw hcn hnn
        go_wp2_with fail
        go_ret2
        exact ⟨_, _, _, rfl, HF.out⟩
  · have hv' : (V != 0) = true := by simpa using hv
    have HE : Hid (pieV le mo bi b = []) := Lib.hid (pieV_no (by rw [← HV.out]; exact hv) b)
    clear hv
    go_enter Try.func10, Try.ntmps10
    go_wp2_with (go_at_call 9; refine hce.mono ?_; clear hce; rintro _ w1 ⟨A1, N, c1, rfl, hi1, hb1⟩; have H1 := Lib.hid (And.intro (H0.out.1.trans (hb1.mono H0.out.1.size)) hi1); clear hi1 hb1)
    go_ret2
    exact ⟨_, _, _, rfl, by rw [HE.out]; exact ⟨rfl, Nat.le_refl _, Nat.zero_le _, fun h => absurd h (by omega)⟩, H1.out.1⟩
end Go.Proofs.Ytcmdiclbbcdceaa
