/-
  The statement DigestOf: its walk.
-/
import Derived.Test.YtjingbichgpfaaaDoorRefOf
namespace Go.Proofs.YtjingbichgpfaaaDoor
open Go.RowKit

theorem flat_len : ∀ (ls : List (List UInt8)) (k : Nat), (∀ i, i < k → (ls[i]?.getD []).length ≤ 300) → (ls.take k).flatten.length ≤ 300 * k
  | [], k, _ => by simp
  | l :: ls, 0, _ => by simp
  | l :: ls, k + 1, h => by
    have h0 := h 0 (by omega)
    have h1 := flat_len ls k fun i hi => by have := h (i + 1) (by omega); simpa using this
    simp at h0 h1 ⊢
    omega

def Cat (n : Nat) (ls : List (List UInt8)) (s i : Value) : Prop := ∃ k : Nat, k ≤ n ∧ i = .int .i64 k ∧ s = .string (st (ls.take k).flatten) ∧ ∀ i, i < k → (ls[i]?.getD []).length ≤ 300

set_option maxHeartbeats 8000000 in
set_option maxRecDepth 100000 in
theorem walk_of {w : World} {S : Nat → Prop} {A : Option Addr} {n c : Nat} {ls : List (List UInt8)} (h : Rws w S A n c ls) (ht : Tab w) :
    Calls Tryd.prog 3 #[.slice A n c] w fun e w' => e = .returned (.bool true) ∧ Below w.heap.size w w' := by
  by_cases hn : n ≤ 10
  · go_enter Tryd.func3, Tryd.ntmps3
    go_wp2_with fail
    refine (awake_true ht).mono ?_
    rintro _ w1 ⟨rfl, hb1⟩
    have HB1 := Lib.hid hb1
    have HH := Lib.hid (And.intro (h.below hb1) (ht.below hb1))
    have HL := Lib.hid h.len
    clear hb1 h ht
    go_wp2_with fail
    go_loop [4, 5] (fun s i => Cat n ls s i) (fun _ i => n - (intOf i).toNat)
    case atStart => unfold Cat; exact ⟨0, Nat.zero_le _, rfl, rfl, fun i hi => by omega⟩
    case round =>
      obtain ⟨k, hk, rfl, rfl, hall⟩ := hrel
      have hfl := flat_len ls k hall
      have HALL := Lib.hid hall
      by_cases hlt : k < n
      · obtain ⟨b, off, rfl, _, _, hc⟩ := HH.out.1.row (by omega)
        obtain ⟨Ai, ni, ci, hci, hyi⟩ := hc k hlt
        have hft := flat_take ls k (by rw [HL.out]; exact hlt)
        have hli := hyi.len
        have hs : (convert 24 9 (.slice Ai ni ci)).run Tryd.prog w1 = .ok (.string (st (ls[k]?.getD []))) w1 := byt_string hyi
        have hap := (st_app (ls.take k).flatten (ls[k]?.getD [])).trans (by rw [← hft])
        have s1 := st_size (ls.take k).flatten
        have s2 := st_size (ls[k]?.getD [])
        generalize hLk : ls[k]?.getD [] = Lk at *
        have HLk := Lib.hid hLk
        have HFT := Lib.hid hft
        generalize hF1 : (ls.take (k + 1)).flatten = F1 at *
        have HF1 := Lib.hid hF1
        generalize (ls.take k).flatten = F at *
        clear hall hc hyi hft hLk hF1
        by_cases h3 : ni ≤ 300
        · have hsum : ¬ (9223372036854775807 : Int) < (F.length : Int) + (Lk.length : Int) := by omega
          go_wp2_with fail
          go_round
          case rel =>
            unfold Cat
            refine ⟨k + 1, by omega, by go_num, by rw [HF1.out], fun i hi => ?_⟩
            rcases Nat.lt_succ_iff_lt_or_eq.1 hi with h1 | rfl
            · exact HALL.out i h1
            · rw [HLk.out]; omega
          case measure => simp [intOf]; omega
        · go_wp2_with fail
          go_ret
          exact ⟨rfl, HB1.out⟩
      · obtain rfl : k = n := by omega
        have hall2 : ls.take k = ls := by rw [← HL.out, List.take_length]
        rw [hall2] at hfl ⊢
        obtain ⟨L, hL⟩ : ∃ L, L = ls.flatten := ⟨_, rfl⟩
        have hof := of_any HH.out.1 HH.out.2 (by omega)
        rw [← hL] at hof hfl ⊢
        obtain ⟨X, hX⟩ : ∃ X, X = (u8s (shaL L)).toArray := ⟨_, rfl⟩
        have hq : ∀ w, (Op.equalIn 10000 26 (.agg X) (.agg X)).run Tryd.prog w = .ok true w := fun w => by rw [hX, id_eql _ _ (shaL_length L) (shaL_length L)]; simp
        rw [← hX] at hof
        have HX := Lib.hid hX
        clear hX hL hall2 hall hlt
        go_wp2_with fail
        refine hof.mono ?_
        rintro _ w2 ⟨rfl, hb2⟩
        have HB2 := Lib.hid (HB1.out.trans (hb2.mono HB1.out.size))
        clear hb2 hof
        go_wp2_with fail
        refine (rof_any L (by omega) _).mono ?_
        rintro _ w3 ⟨rfl, hb3⟩
        rw [← HX.out]
        have HB3 := Lib.hid (HB2.out.trans (hb3.mono HB2.out.size))
        clear hb3
        go_wp2_with fail
        go_ret
        exact ⟨rfl, HB3.out⟩
  · go_enter Tryd.func3, Tryd.ntmps3
    go_wp2_with (go_at_call 9; refine (awake_true ht).mono ?_; rintro _ w1 ⟨rfl, hb1⟩)
    go_ret
    exact ⟨rfl, hb1⟩
end Go.Proofs.YtjingbichgpfaaaDoor
