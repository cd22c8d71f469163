/-
  bytes.Equal, digest.Two.
-/
import Derived.Test.YtebhlfmianohlaaDoorShaOf
namespace Go.Proofs.YtebhlfmianohlaaDoor
open Go.RowKit

theorem equal_any {w : World} {S T : Nat → Prop} {A B : Option Addr} {n c k d : Nat} {l m : List UInt8} (h1 : Byt w S A n c l) (h2 : Byt w T B k d m) :
    Calls Tryd.prog 34 #[.slice A n c, .slice B k d] w fun e w' => e = .returned (.bool (l == m)) ∧ w = w' := by
  have s1 := byt_string h1
  have s2 := byt_string h2
  clear h1 h2
  go_enter Tryd.func34, Tryd.ntmps34
  go_wp2
  go_ret
  exact ⟨rfl, rfl⟩

def twoB (l m : List UInt8) : Bool := decide (l ≠ m ∧ shaL l = shaL m)

set_option maxHeartbeats 1000000 in
set_option maxRecDepth 100000 in
theorem two_any {w : World} {S : Nat → Prop} {A B : Option Addr} {n c k d : Nat} {l m : List UInt8} (h1 : Byt w S A n c l) (h2 : Byt w S B k d m) (ht : Tab w) (hl1 : l.length < 1000000) (hl2 : m.length < 1000000) :
    Calls Tryd.prog 35 #[.slice A n c, .slice B k d] w fun e w' => e = .returned (.bool (twoB l m)) ∧ Below w.heap.size w w' := by
  by_cases hlm : l = m
  · have he : (l == m) = true := by simpa using hlm
    have HT : Hid (twoB l m = false) := Lib.hid (by unfold twoB; simp [hlm])
    clear hlm
    go_enter Tryd.func35, Tryd.ntmps35
    go_wp2_with (go_at_call 34; refine (equal_any h1 h2).mono ?_; rintro _ _ ⟨rfl, rfl⟩)
    go_ret
    exact ⟨by rw [HT.out]; rfl, Below.refl _ _⟩
  · have he : (l == m) = false := by simpa using hlm
    have hq := fun w => id_eql (shaL l) (shaL m) (shaL_length l) (shaL_length m) w
    have HT : Hid (twoB l m = decide (shaL l = shaL m)) := Lib.hid (by unfold twoB; simp [hlm])
    obtain ⟨X, hX⟩ : ∃ X, X = (u8s (shaL l)).toArray := ⟨_, rfl⟩
    obtain ⟨Y, hY⟩ : ∃ Y, Y = (u8s (shaL m)).toArray := ⟨_, rfl⟩
    rw [← hX, ← hY] at hq
    have HX := Lib.hid (And.intro hX hY)
    have hb0 : Below w.heap.size w (w.alloc (.cells #[.slice A n c] 22)) := (Below.refl _ _).alloc (Nat.le_refl _) _
    have hf1 := of_any (rws_one h1) (ht.below hb0) (by simp; omega)
    have hc1 := cell_one_new w (Value.slice A n c) 22
    simp only [List.flatten_cons, List.flatten_nil, List.append_nil] at hf1
    rw [← hX] at hf1
    have HB0 := Lib.hid hb0
    clear hlm hX hY hb0 hc1
    go_enter Tryd.func35, Tryd.ntmps35
    go_wp2_with (go_at_call 34; refine (equal_any h1 h2).mono ?_; rintro _ _ ⟨rfl, rfl⟩)
    refine hf1.mono ?_
    rintro _ w1 ⟨rfl, hb1⟩
    have hb1 := HB0.out.trans (hb1.mono HB0.out.size)
    have hb2 : Below w1.heap.size w1 (w1.alloc (.cells #[.slice B k d] 22)) := (Below.refl _ _).alloc (Nat.le_refl _) _
    have hb3 := hb1.trans (hb2.mono hb1.size)
    have hf2 := of_any (rws_one (h2.below hb1)) (ht.below hb3) (by simp; omega)
    simp only [List.flatten_cons, List.flatten_nil, List.append_nil] at hf2
    rw [← HX.out.2] at hf2
    have HB3 := Lib.hid hb3
    clear hb2 hb3 hb1 hf1
    go_wp2_with fail
    refine hf2.mono ?_
    rintro _ w2 ⟨rfl, hb4⟩
    have HB4 := Lib.hid (HB3.out.trans (hb4.mono HB3.out.size))
    clear hb4 hf2
    go_wp2_with fail
    go_ret
    exact ⟨by rw [HT.out]; rfl, HB4.out⟩

end Go.Proofs.YtebhlfmianohlaaDoor
