/-
  A log on a disk of a call's own.
-/
import Derived.Test.YtkhbmgmppoepjaaWalCode
namespace Go.Proofs.Ytkhbmgmppoepjaa
open Go.RowKit

theorem open_zero {l : Nat} {b : Bool} {f n : Nat} (hf : f + n ≤ l) (hn : 1 ≤ n) (hup : b = false) : openErr l b (f : Int) (n : Int) = 0 := by rw [openErr, if_neg (by omega), if_neg (by simp [hup])]
section
variable {w0 W W' : World} {m g p : Nat} {d : DM} {M : LM} {T : Nat → Prop}
theorem Dsk.add (h : Dsk w0 m W g d) (hl : Lg W T p g M) (hT : ∀ k, T k → m ≤ k) (ok : M.Ok) {U : Nat → Prop} {A : Option Addr} {n c : Nat} {b : List UInt8} (hb : Byt W U A n c b) (hU : ∀ k, U k → ¬ T k ∧ (k < w0.heap.size ∨ m ≤ k)) (hn : n ≤ 1000000) :
    Calls Try.prog 14 #[.pointer (some ⟨p, 0, none⟩), .slice A n c] W fun e w' => e = .returned (.int .i64 (addM d M b).2.2) ∧ Dsk w0 m w' g (addM d M b).1 ∧ Lg w' (fun k => T k ∨ W.heap.size ≤ k) p g (addM d M b).2.1 ∧ Turned (fun k => (w0.heap.size ≤ k ∧ k < m) ∨ T k) W w' := by
  have hle := h.le
  refine (wadd_any hl h.dk (fun k _ h1 h2 => by have := hT k h2; omega) ok hb (fun k _ hk => ?_) hn).mono ?_
  · have := hU k hk
    exact ⟨fun h1 => by omega, this.1⟩
  · rintro _ w' ⟨rfl, h2, h3, h4⟩
    refine ⟨rfl, ⟨h2, h.bel.trans ((h4.mono fun k _ hk => ?_).below h.bel.size), Nat.le_trans h.top h4.size⟩, h3, h4⟩
    rcases hk with hk | hk
    · exact hk.1
    · have := hT k hk; omega
theorem Dsk.open (h : Dsk w0 m W g d) (f n : Nat) (hf : f + n ≤ d.l.length) (hn : 1 ≤ n) (hup : d.down = false) (hl : d.l.length ≤ 65536) :
    Calls Try.prog 12 #[.pointer (some ⟨g, 0, none⟩), .int .i64 (f : Int), .int .i64 (n : Int)] W fun e w' => ∃ p, e = .returned (.tuple #[.pointer (some ⟨p, 0, none⟩), .int .i64 0]) ∧ Lg w' (W.heap.size ≤ ·) p g (openM (blocksOf d.l (f : Int) (n : Int)) (f : Int) (n : Int)) ∧ Dsk w0 m w' g d ∧ Below W.heap.size W w' := by
  refine (wopen_any h.dk (f : Int) (n : Int) (by omega) (by omega)).mono ?_
  rintro _ w' ⟨h1, h2⟩
  rw [open_zero hf hn hup, if_pos rfl] at h1
  obtain ⟨p, rfl, h3⟩ := h1
  exact ⟨p, rfl, h3, h.below h2, h2⟩
theorem Dsk.begin (h : Dsk w0 m W g d) (f n least : Nat) (hf : f + n ≤ d.l.length) (hn : 1 ≤ n) (hup : d.down = false) (hl : d.l.length ≤ 65536) (hls : least < 18446744073709551616) :
    Calls Try.prog 20 #[.pointer (some ⟨g, 0, none⟩), .int .i64 (f : Int), .int .i64 (n : Int), .int .u64 (least : Int)] W fun e w' => ∃ p, e = .returned (.tuple #[.pointer (some ⟨p, 0, none⟩), .int .i64 0]) ∧ Lg w' (W.heap.size ≤ ·) p g (beginM (openM (blocksOf d.l (f : Int) (n : Int)) (f : Int) (n : Int)) (f : Int) (n : Int) least) ∧ Dsk w0 m w' g d ∧ Below W.heap.size W w' := by
  refine (wbegin_any h.dk (f : Int) (n : Int) (by omega) (by omega) least hls).mono ?_
  rintro _ w' ⟨h1, h2⟩
  rw [open_zero hf hn hup, if_pos rfl] at h1
  obtain ⟨p, rfl, h3⟩ := h1
  exact ⟨p, rfl, h3, h.below h2, h2⟩
end
theorem OnD.lok {d : DM} {m : LM} {f n : Nat} (h : OnD d m f n) (hf : f ≤ 65536) (h1 : 1 ≤ n) (hn : n ≤ 65536) (hx : m.next < 18446744073709551616) (hfs : m.first < 18446744073709551616) (hfew : m.l.length ≤ m.have_) : m.Ok :=
  ⟨by rw [h.from_]; omega, by rw [h.n_]; omega, by have := h.have_; rw [h.n_]; omega, hx, hfs, hfew⟩
theorem runW_few : ∀ (bs : List (List UInt8)) (i : Nat) (s : WS), s.recs.length ≤ s.have_ → s.have_ ≤ i → (runW bs i s).recs.length ≤ (runW bs i s).have_ ∧ (runW bs i s).have_ ≤ i + bs.length
  | [], i, s, h1, h2 => ⟨h1, h2⟩
  | b :: bs, i, s, h1, h2 => by
    have hs : (stepW i s b).recs.length ≤ (stepW i s b).have_ ∧ (stepW i s b).have_ ≤ i + 1 := by
      unfold stepW nextW
      split
      · simp only [List.length_append, List.length_singleton]
        omega
      · simp only
        omega
    have := runW_few bs (i + 1) _ hs.1 hs.2
    rw [runW, List.length_cons]
    omega
theorem runW_first {x : Nat} : ∀ (bs : List (List UInt8)) (i : Nat) (s : WS), s.first ≤ x → s.fst ≤ x → (∀ b ∈ bs, fL b ≤ x) → (runW bs i s).first ≤ x
  | [], _, _, h, _, _ => h
  | b :: bs, i, s, h1, h2, hb => by
    have hr := Nat.le_trans readL_le (hb b (by simp))
    rw [runW]
    refine runW_first bs (i + 1) _ ?_ ?_ fun c hc => hb c (by simp [hc])
    · unfold stepW nextW
      split
      · simp only
        split <;> omega
      · exact h1
    · unfold stepW nextW
      split
      · simp only
        split <;> omega
      · simp only
        split <;> omega
/-- A log that stands on a disk may be. -/
theorem OnD.okL {d : DM} {m : LM} {f n : Nat} (h : OnD d m f n) (hf : f ≤ 65536) (h1 : 1 ≤ n) (hn : n ≤ 65536) (hx : m.next < 18446744073709551616) : m.Ok := by
  refine h.lok hf h1 hn hx ?_ ?_
  · rw [h.fit.first]
    have := runW_first (x := m.next) ((blocksOf d.l (f : Int) (n : Int)).take m.have_) 0 ws0 (Nat.zero_le _) (Nat.zero_le _) (fun b hb => by have := (h.fit.ends b (List.mem_of_mem_take hb)).1; omega)
    omega
  · rw [h.fit.recs]
    have h2 := runW_few ((blocksOf d.l (f : Int) (n : Int)).take m.have_) 0 ws0 (Nat.le_refl _) (Nat.le_refl _)
    have h3 := h.fit.clean.have_
    omega
end Go.Proofs.Ytkhbmgmppoepjaa
