/-
  A log, its disk, and the records that were told, in a call of their own.
-/
import Derived.Test.YtkhbmgmppoepjaaWalAwake
import Derived.Test.YtkhbmgmppoepjaaInts
namespace Go.Proofs.Ytkhbmgmppoepjaa
open Go.RowKit

theorem Dsk.turned {w0 W W' : World} {m g : Nat} {d : DM} {T : Nat → Prop} (h : Dsk w0 m W g d) (ht : Turned T W W') (hT : ∀ k, T k → m ≤ k) : Dsk w0 m W' g d := by
  have hle := h.le
  exact ⟨h.dk.turned ht fun k _ h1 h2 => by have := hT k h2; omega, h.bel.trans ((ht.mono fun k _ hk => by have := hT k hk; omega : Turned (fun k => w0.heap.size ≤ k) W W').below h.bel.size), Nat.le_trans h.top ht.size⟩
structure TL (w0 : World) (m : Nat) (W : World) (g p : Nat) (d : DM) (M : LM) (v : Value) (tl : List (List UInt8)) : Prop where
  dsk : Dsk w0 m W g d
  lg : Lg W (fun k => m ≤ k ∧ v.ownBlock ≠ some k) p g M
  own : W.ownsRow m 9 1 v tl.length (strs tl)
section
variable {w0 W W' : World} {m g p : Nat} {d : DM} {M : LM} {v : Value} {tl : List (List UInt8)}
theorem TL.below (h : TL w0 m W g p d M v tl) (hb : Below W.heap.size W W') : TL w0 m W' g p d M v tl :=
  ⟨h.dsk.below hb, h.lg.below hb, own_turned h.own (Turned.of_below hb : Turned (fun _ => False) W W') fun _ _ h => h⟩
theorem TL.drew (h : TL w0 m W g p d M v tl) : TL w0 m W.drew g p d M v tl := ⟨h.dsk.drew, h.lg.drew, h.own⟩
theorem TL.add (h : TL w0 m W g p d M v tl) (ok : M.Ok) {U : Nat → Prop} {A : Option Addr} {n c : Nat} {b : List UInt8} (hb : Byt W U A n c b) (hU : ∀ k, U k → k < w0.heap.size) (hn : n ≤ 1000000) :
    Calls Try.prog 14 #[.pointer (some ⟨p, 0, none⟩), .slice A n c] W fun e w' => e = .returned (.int .i64 (addM d M b).2.2) ∧ TL w0 m w' g p (addM d M b).1 (addM d M b).2.1 v tl := by
  have hle := h.dsk.le
  refine (h.dsk.add h.lg (fun k hk => hk.1) ok hb (fun k hk => ⟨fun h1 => by have := hU k hk; omega, .inl (hU k hk)⟩) hn).mono ?_
  rintro _ w' ⟨rfl, h2, h3, h4⟩
  refine ⟨rfl, h2, h3.mono fun k _ hk => ?_, own_turned h.own h4 fun k hk h5 => ?_⟩
  · rcases hk with hk | hk
    · exact hk
    · exact ⟨by have := h.dsk.top; omega, fun e => by have := (h.own.lt k e).2; omega⟩
  · have := (h.own.lt k hk).1
    rcases h5 with h5 | h5
    · omega
    · exact h5.2 hk
theorem TL.told (h : TL w0 m W g p d M v tl) {o : Obj} {v' : Value} {b : List UInt8} (hown : W'.ownsRow m 9 1 v' (tl.length + 1) (strs tl ++ [.string (st b)])) (hg : (W.alloc o).grownBy W' v.ownBlock) (hob : v'.ownBlock = v.ownBlock ∨ v'.ownBlock = some (W.alloc o).heap.size) : TL w0 m W' g p d M v' (tl ++ [b]) := by
  have ht : Turned (fun k => v.ownBlock = some k) W W' := by
    have h1 : Turned (fun k => v.ownBlock = some k) W (W.alloc o) := (Turned.refl _ _).alloc o
    exact h1.trans (Turned.of_gr hg fun k hk => hk) fun k _ hk => hk
  have hl : Lg W (fun k => (m ≤ k ∧ v.ownBlock ≠ some k) ∧ v'.ownBlock ≠ some k) p g M := h.lg.mono fun k hk h1 => ⟨h1, fun e => by
    rcases hob with hob | hob
    · exact h1.2 (hob ▸ e)
    · rw [hob] at e
      injection e with e
      simp at e
      omega⟩
  refine ⟨h.dsk.turned ht fun k hk => (h.own.lt k hk).1, (hl.turned ht fun k _ h1 h2 => h1.1.2 h2).mono fun k _ hk => ⟨hk.1.1, hk.2⟩, ?_⟩
  rw [List.length_append, List.length_singleton, strs, List.map_append]
  exact hown
theorem TL.restart (h : TL w0 m W g p d M v tl) :
    Calls Try.prog 22 #[.pointer (some ⟨g, 0, none⟩)] W fun e w' => e = .returned (.tuple #[]) ∧ TL w0 m w' g p (restartM d) M v tl := by
  refine h.dsk.restart.mono ?_
  rintro _ w' ⟨rfl, h1, h2⟩
  exact ⟨rfl, h1, h.lg.turned h2 fun k _ h3 h4 => by omega, own_turned h.own h2 fun k hk h4 => by have := (h.own.lt k hk).1; omega⟩
theorem TL.stop (h : TL w0 m W g p d M v tl) (after torn : Int) (ha : -9223372036854775808 ≤ after ∧ after ≤ 9223372036854775807) :
    Calls Try.prog 16 #[.pointer (some ⟨g, 0, none⟩), .int .i64 after, .int .i64 torn] W fun e w' => e = .returned (.tuple #[]) ∧ TL w0 m w' g p (stopM d after torn) M v tl := by
  refine (h.dsk.stop after torn ha).mono ?_
  rintro _ w' ⟨rfl, h1, h2⟩
  exact ⟨rfl, h1, h.lg.turned h2 fun k _ h3 h4 => by omega, own_turned h.own h2 fun k hk h4 => by have := (h.own.lt k hk).1; omega⟩
theorem TL.again (h : TL w0 m W g p d M v tl) {p' : Nat} {M' : LM} (hd : Dsk w0 m W' g d) (hl : Lg W' (W.heap.size ≤ ·) p' g M') (hb : Below W.heap.size W W') : TL w0 m W' g p' d M' v tl :=
  ⟨hd, hl.mono fun k _ hk => ⟨by have := h.dsk.top; omega, fun e => by have := (h.own.lt k e).2; omega⟩, own_turned h.own (Turned.of_below hb : Turned (fun _ => False) W W') fun _ _ h => h⟩
end
end Go.Proofs.Ytkhbmgmppoepjaa
