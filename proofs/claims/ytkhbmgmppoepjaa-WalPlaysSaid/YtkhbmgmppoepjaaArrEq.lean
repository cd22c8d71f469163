/-
  Arrays of bytes held against each other.
-/
import Derived.Test.YtkhbmgmppoepjaaMem
import Derived.DeepKeys
namespace Go.Proofs.Ytkhbmgmppoepjaa
open Go.RowKit

section
variable {P : Program} (w : World)
theorem run_part_byte {e : TypeId} (he : P.underlying e = some (.int .u8)) (l : List UInt8) (k : Nat) (hk : k < l.length) :
    (part e (u8s l).toArray (k * 1)).run P w = .ok (.int .u8 ((l[k]).toNat : Int)) w := by
  have hag : (isAgg e).run P w = .ok false w := by
    unfold isAgg
    rw [Sem.run_bind, run_underlying he w]
    simp
  have hc : (u8s l)[k]? = some (.int .u8 ((l[k]).toNat : Int)) := by simp [u8s, List.getElem?_eq_getElem hk]
  simp [part, Sem.run_bind, hag, hc]

theorem run_eqItems_bytes (d : Nat) {e : TypeId} (he : P.underlying e = some (.int .u8)) (l m : List UInt8) (hlm : l.length = m.length) :
    ∀ (j k : Nat), k + j = l.length → (Op.eqItems (d + 1) e 1 (u8s l).toArray (u8s m).toArray (List.range' k j)).run P w = .ok (decide (l.drop k = m.drop k)) w
  | 0, k, h => by
    have h1 : l.drop k = [] := List.drop_eq_nil_of_le (by omega)
    have h2 : m.drop k = [] := List.drop_eq_nil_of_le (by omega)
    simp [Op.eqItems, h1, h2]
  | j + 1, k, h => by
    have hk : k < l.length := by omega
    have hk2 : k < m.length := by omega
    rw [List.range'_succ]
    simp only [Op.eqItems, Sem.run_bind, run_part_byte w he l k hk, run_part_byte w he m k hk2, Result.andThen_ok, run_equalIn_int w d e .u8 .u8 _ _ he]
    have e1 : l.drop k = l[k] :: l.drop (k + 1) := List.drop_eq_getElem_cons hk
    have e2 : m.drop k = m[k] :: m.drop (k + 1) := List.drop_eq_getElem_cons hk2
    have ih := run_eqItems_bytes d he l m hlm j (k + 1) (by omega)
    rw [e1, e2]
    clear e1 e2
    generalize l.drop (k + 1) = a at *
    generalize m.drop (k + 1) = b at *
    by_cases hx : l[k] = m[k]
    · rw [hx]
      simp [ih]
    · have hne : ¬ ((l[k]).toNat : Int) = ((m[k]).toNat : Int) := by
        intro e1
        exact hx (UInt8.toNat.inj (by omega))
      simp [hx, hne]

theorem run_equalIn_bytes {t e : TypeId} {n : Nat} {i : TypeInfo} (ht : P.underlying t = some (.array n e)) (he : P.underlying e = some (.int .u8)) (hi : P.info? e = some i) (hs : P.cellsOf e = 1) (d : Nat) (l m : List UInt8) (hl : l.length = n) (hm : m.length = n) :
    (Op.equalIn (d + 2) t (.agg (u8s l).toArray) (.agg (u8s m).toArray)).run P w = .ok (decide (l = m)) w := by
  rw [show d + 2 = (d + 1) + 1 from rfl, run_equalIn_array w (d + 1) _ _ ht hi, hs, List.range_eq_range', run_eqItems_bytes w d he l m (by omega) n 0 (by omega)]
  simp
end
end Go.Proofs.Ytkhbmgmppoepjaa
