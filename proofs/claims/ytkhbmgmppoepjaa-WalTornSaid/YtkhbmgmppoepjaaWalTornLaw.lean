/-
  The statement WalTorn, of any rows.
-/
import Derived.Test.YtkhbmgmppoepjaaWalTorn
namespace Go.Proofs.Ytkhbmgmppoepjaa
open Go.RowKit

set_option maxHeartbeats 8000000 in
set_option maxRecDepth 100000 in
theorem wtorn_long {w : World} (A As Ao : Option Addr) (n c ns cs no co : Nat) (hno : 12 < n ∨ 12 < ns ∨ no < ns) :
    Calls Try.prog 5 #[.slice A n c, .slice As ns cs, .slice Ao no co] w fun e w' => e = .returned (.bool true) ∧ Below w.heap.size w w' := by
  have haw := wawake_true w
  by_cases h1 : 12 < n
  · have hn' : (12 : Int) < (n : Int) := by omega
    clear hno h1
    go_enter Try.func5, Try.ntmps5
    go_wp2_with (go_at_call 9; refine haw.mono ?_; clear haw; rintro _ w1 ⟨rfl, hb1⟩)
    go_ret
    exact ⟨rfl, hb1⟩
  · have hn' : ¬ (12 : Int) < (n : Int) := by omega
    by_cases h2 : 12 < ns
    · have hs' : (12 : Int) < (ns : Int) := by omega
      clear hno h1 h2
      go_enter Try.func5, Try.ntmps5
      go_wp2_with (go_at_call 9; refine haw.mono ?_; clear haw; rintro _ w1 ⟨rfl, hb1⟩)
      go_ret
      exact ⟨rfl, hb1⟩
    · have hs' : ¬ (12 : Int) < (ns : Int) := by omega
      have ho' : (no : Int) < (ns : Int) := by omega
      clear hno h1 h2
      go_enter Try.func5, Try.ntmps5
      go_wp2_with (go_at_call 9; refine haw.mono ?_; clear haw; rintro _ w1 ⟨rfl, hb1⟩)
      go_ret
      exact ⟨rfl, hb1⟩
theorem walk_wtorn_any {w : World} {S SS ST : Nat → Prop} {A As Ao : Option Addr} {n c ns cs no co : Nat} {ls : List (List UInt8)} {ss ts : List UInt8} (h : Rws w S A n c ls) (h2 : Byt w SS As ns cs ss) (h3 : Byt w ST Ao no co ts) :
    Calls Try.prog 5 #[.slice A n c, .slice As ns cs, .slice Ao no co] w fun e w' => e = .returned (.bool true) ∧ Below w.heap.size w w' := by
  by_cases hno : 12 < n ∨ 12 < ns ∨ no < ns
  · exact wtorn_long A As Ao n c ns cs no co hno
  · exact walk_wtorn h h2 h3 (by omega) (by omega) (by omega)
theorem law_wtorn {w : World} {S SS ST : Nat → Prop} {A As Ao : Option Addr} {n c ns cs no co : Nat} {ls : List (List UInt8)} {ss ts : List UInt8} (h : Rws w S A n c ls) (h2 : Byt w SS As ns cs ss) (h3 : Byt w ST Ao no co ts) :
    Calls Try.prog 5 #[.slice A n c, .slice As ns cs, .slice Ao no co] w fun e w' => e = .returned (.bool true) ∧ Below w.heap.size w w' := walk_wtorn_any h h2 h3
end Go.Proofs.Ytkhbmgmppoepjaa
