/-
  Arrays of bytes held against each other.
-/
import Derived.Test.YtmioifcbkhpdaaaGreatPkPl07
import Derived.Test.YtmioifcbkhpdaaaGreatPkPl01
import Derived.DeepKeys
namespace Go.Proofs.YtmioifcbkhpdaaaGreat
set_option maxHeartbeats 16000000
set_option maxRecDepth 100000
open Go.RowKit
structure Dsk (w0 : World) (m : Nat) (W : World) (g : Nat) (d : DM) : Prop where
 dk : Dk W (fun x => w0.heap.size ≤ x ∧ x < m) g d
 bel : Below w0.heap.size w0 W
 top : m ≤ W.heap.size
section
variable {w0 W W' : World} {m g : Nat} {d d' : DM}
theorem Dsk.below (h : Dsk w0 m W g d) (hb : Below W.heap.size W W') : Dsk w0 m W' g d := ⟨h.dk.below hb, h.bel.trans (hb.mono h.bel.size), Nat.le_trans h.top hb.size⟩
theorem Dsk.turn (h : Dsk w0 m W g d) (hd : Dk W' (fun x => w0.heap.size ≤ x ∧ x < m) g d') (ht : Turned (fun x => w0.heap.size ≤ x ∧ x < m) W W') : Dsk w0 m W' g d' :=
 ⟨hd, h.bel.trans ((ht.mono fun _ _ h => h.1).below h.bel.size), Nat.le_trans h.top ht.size⟩
theorem Dsk.write (h : Dsk w0 m W g d) {A : Option Addr} {n c : Nat} {b : List UInt8} (hy : Byt W (m ≤ ·) A n c b) (i : Int) :
    Calls Tryz.prog 15 #[.pointer (some ⟨g, 0, none⟩), .int .i64 i, .slice A n c] W fun e w' => e = .returned (.int .i64 (zm d i b).2) ∧ Dsk w0 m w' g (zm d i b).1 ∧ Turned (· < m) W w' := by
 refine (bwrite_any h.dk hy (fun x _ h1 h2 => by omega) i).mono ?_;rintro _ w' ⟨rfl, h2, h3⟩;exact ⟨rfl, h.turn h2 h3, h3.mono fun _ _ h => h.2⟩
theorem Dsk.stop (h : Dsk w0 m W g d) (after torn : Int) (ha : -9223372036854775808 ≤ after ∧ after ≤ 9223372036854775807) :
    Calls Tryz.prog 13 #[.pointer (some ⟨g, 0, none⟩), .int .i64 after, .int .i64 torn] W fun e w' => e = .returned (.tuple #[]) ∧ Dsk w0 m w' g (stopM d after torn) ∧ Turned (· < m) W w' := by
 refine (bstop_any h.dk after torn ha).mono ?_;rintro _ w' ⟨rfl, h2, h3⟩;exact ⟨rfl, h.turn h2 h3, h3.mono fun _ _ h => h.2⟩
theorem Dsk.restart (h : Dsk w0 m W g d) :
    Calls Tryz.prog 17 #[.pointer (some ⟨g, 0, none⟩)] W fun e w' => e = .returned (.tuple #[]) ∧ Dsk w0 m w' g (xP d) ∧ Turned (· < m) W w' := by
 refine (brestart_any h.dk).mono ?_;rintro _ w' ⟨rfl, h2, h3⟩;exact ⟨rfl, h.turn h2 h3, h3.mono fun _ _ h => h.2⟩
theorem Dsk.le (h : Dsk w0 m W g d) : w0.heap.size ≤ m := by
 obtain ⟨q, cap, h1, _⟩ := h.dk;omega
theorem Dsk.new {wa : World} (hb : Below w0.heap.size w0 wa) (k : Nat) (h1 : 1 ≤ k) (h2 : k ≤ 65536) :
    Calls Tryz.prog 5 #[.int .i64 (k : Int)] wa fun e w' => ∃ g, e = .returned (.tuple #[.pointer (some ⟨g, 0, none⟩), .int .i64 0]) ∧ Dsk w0 w'.heap.size w' g (newM k).1 := by
 refine (bnew_ok k h1 h2 wa).mono ?_;rintro _ w' ⟨g, rfl, h3, h4⟩;exact ⟨g, rfl, h3.mono fun x hx h => ⟨by have := hb.size; omega, hx⟩, hb.trans (h4.mono hb.size), Nat.le_refl _⟩
end
theorem byt_filled' {w' : World} {q m n : Nat} {l : List UInt8} (h : w'.heap[q]? = some (.cells (u8s l).toArray 5 (0, 0))) (hl : l.length = n) (hn : n ≤ 1000000) (hm : m ≤ q) : Byt w' (m ≤ ·) (some ⟨q, 0, none⟩) n n l := by
 subst hl;have h1 := byt_whole h hn;refine ⟨h1.len, h1.cap, h1.max, fun h0 => ?_⟩;obtain ⟨b, off, e, _, h3, h4⟩ := h1.row h0;injection e with e
 injection e with e1 e2
 subst e1 e2;exact ⟨q, 0, rfl, hm, h3, h4⟩
/-! The model's steps. -/
section
variable {P : Program} (w : World)
theorem run_part_byte {e : TypeId} (he : P.underlying e = some (.int .u8)) (l : List UInt8) (k : Nat) (hk : k < l.length) :
    (part e (u8s l).toArray (k * 1)).run P w = .ok (.int .u8 ((l[k]).toNat : Int)) w := by
 have hag : (isAgg e).run P w = .ok false w := by
  unfold isAgg;rw [Sem.run_bind, run_underlying he w];simp
 have hc : (u8s l)[k]? = some (.int .u8 ((l[k]).toNat : Int)) := by simp [u8s, List.getElem?_eq_getElem hk]
 simp [part, Sem.run_bind, hag, hc]
theorem run_eqItems_bytes (d : Nat) {e : TypeId} (he : P.underlying e = some (.int .u8)) (l m : List UInt8) (hlm : l.length = m.length) :
    ∀ (j k : Nat), k + j = l.length → (Op.eqItems (d + 1) e 1 (u8s l).toArray (u8s m).toArray (List.range' k j)).run P w = .ok (decide (l.drop k = m.drop k)) w
 | 0, k, h => by
   have h1 : l.drop k = [] := List.drop_eq_nil_of_le (by omega);have h2 : m.drop k = [] := List.drop_eq_nil_of_le (by omega);simp [Op.eqItems, h1, h2]
 | j + 1, k, h => by
   (have hk : k < l.length := by omega);(have hk2 : k < m.length := by omega);rw [List.range'_succ];simp only [Op.eqItems, Sem.run_bind, run_part_byte w he l k hk, run_part_byte w he m k hk2, Result.andThen_ok, run_equalIn_int w d e .u8 .u8 _ _ he];have e1 : l.drop k = l[k] :: l.drop (k + 1) := List.drop_eq_getElem_cons hk;have e2 : m.drop k = m[k] :: m.drop (k + 1) := List.drop_eq_getElem_cons hk2;have ih := run_eqItems_bytes d he l m hlm j (k + 1) (by omega);rw [e1, e2];clear e1 e2
   generalize l.drop (k + 1) = a at *
   generalize m.drop (k + 1) = b at *
   by_cases hx : l[k] = m[k]
   ·rw [hx];simp [ih]
   ·have hne : ¬ ((l[k]).toNat : Int) = ((m[k]).toNat : Int) := by
      intro e1;exact hx (UInt8.toNat.inj (by omega))
    simp [hx, hne]
theorem run_equalIn_bytes {t e : TypeId} {n : Nat} {i : TypeInfo} (ht : P.underlying t = some (.array n e)) (he : P.underlying e = some (.int .u8)) (hi : P.info? e = some i) (hs : P.cellsOf e = 1) (d : Nat) (l m : List UInt8) (hl : l.length = n) (hm : m.length = n) :
    (Op.equalIn (d + 2) t (.agg (u8s l).toArray) (.agg (u8s m).toArray)).run P w = .ok (decide (l = m)) w := by
 rw [show d + 2 = (d + 1) + 1 from rfl, run_equalIn_array w (d + 1) _ _ ht hi, hs, List.range_eq_range', run_eqItems_bytes w d he l m (by omega) n 0 (by omega)];simp
end
end Go.Proofs.YtmioifcbkhpdaaaGreat
