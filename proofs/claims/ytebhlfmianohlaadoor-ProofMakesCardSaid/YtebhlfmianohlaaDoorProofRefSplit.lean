/-
  The reference's Split.
-/
import Derived.Test.YtebhlfmianohlaaDoorProofPure
import Derived.Test.YtebhlfmianohlaaDoorRefNum
import Derived.Test.YtebhlfmianohlaaDoorStr
namespace Go.Proofs.YtebhlfmianohlaaDoor
open Go.RowKit

theorem str_info : (Tryd.prog.info? 9).map (fun i => (i.zero, i.size, i.bytes)) = some (some (.string ByteArray.empty), 1, 16) := by kernel_rfl
/-- Rows of bytes, as cells of strings. -/
def strs (l : List (List UInt8)) : List Value := l.map fun x => .string (st x)
def RSp (w : World) (b : List UInt8) (x v : Value) (wr : World) : Prop :=
  ∃ (m : List UInt8) (ls : List (List UInt8)), splitL b = ls ++ splitL m ∧ m.length + 64 * ls.length = b.length ∧ x = .string (st m) ∧ wr.ownsRow w.heap.size 9 1 v ls.length (strs ls) ∧ Below w.heap.size w wr
theorem RSp.same (w : World) (b : List UInt8) : RSp w b (.string (st b)) (.slice none 0 0) w := ⟨b, [], rfl, by simp, rfl, World.ownsRow_nil _ _ _ _, Below.refl _ _⟩

set_option maxHeartbeats 4000000 in
set_option maxRecDepth 100000 in
theorem rsplit_any (b : List UInt8) (hb : b.length ≤ 1000000) (w : World) :
    Calls Tryd.prog 15 #[.string (st b)] w fun e w' => ∃ v, e = .returned v ∧ w'.ownsRow w.heap.size 9 1 v (splitL b).length (strs (splitL b)) ∧ Below w.heap.size w w' := by
  obtain ⟨i0, hi, hz0, hz1, hz2⟩ := info_parts str_info
  have HI := Lib.hid (And.intro hi (And.intro hz0 (And.intro hz1 hz2)))
  have HBL := Lib.hid hb
  clear hi hz0 hz1 hz2 hb
  go_enter Tryd.func15, Tryd.ntmps15
  go_wp2_with fail
  go_loopw [0, 3] (fun x v wr => RSp w b x v wr) (fun x _ _ => stLen x)
  case atStart => exact RSp.same w b
  case round =>
    obtain ⟨m, ls, hsp, hml, rfl, hown, hbr⟩ := hrel
    have HO := Lib.hid hown
    have HBR := Lib.hid hbr
    have hszr := hbr.size
    have hsz := st_size m
    have hlb := HBL.out
    by_cases hlt : 64 < m.length
    · have hlt' : (64 : Int) < (m.length : Int) := by omega
      have htk : ∀ W, (Instr.slice 9 (.string (st m)) none (some (.int .i64 64)) none).run Tryd.prog W = .ok (.string (st (m.take 64))) W := fun W => st_to _ Tryd.underlying9 m W 64 64 rfl (by omega)
      have hdr : ∀ W, (Instr.slice 9 (.string (st m)) (some (.int .i64 64)) none none).run Tryd.prog W = .ok (.string (st (m.drop 64))) W := fun W => st_from _ Tryd.underlying9 m W 64 64 rfl (by omega)
      have HSP : Hid (splitL b = (ls ++ [m.take 64]) ++ splitL (m.drop 64)) := Lib.hid (by rw [hsp, splitL_long hlt]; simp)
      clear hown hbr hsp
      go_wp2_with (at_builtin; refine wpList_append_own_at _ rfl _ _ 35 rfl w.heap.size 9 i0 (.string ByteArray.empty) 1 16 Tryd.underlying35 HI.out.1 HI.out.2.1 HI.out.2.2.1 HI.out.2.2.2 rfl (by decide) _ ls.length (strs ls) rfl (HO.out.alloc _) ⟨wr.heap.size, 0, none⟩ 1 1 _ rfl rfl (cell_one_new _ _ _) (one_of rfl) (by unfold maxLen; omega) (by omega) (by simp; omega) ?_)
      intro v' w2 hown2 hgrow _ _
      have hlt2 := HO.out.lt
      have HB2 : Hid (Below w.heap.size w w2) := Lib.hid ((HBR.out.alloc hszr _).grown hgrow (by simp; omega) (fun b hb => (hlt2 b hb).1))
      have HO2 : Hid (w2.ownsRow w.heap.size 9 1 v' (ls ++ [m.take 64]).length (strs (ls ++ [m.take 64]))) := Lib.hid (by
        rw [strs, List.map_append, List.length_append]
        exact hown2)
      clear hown2 hgrow hlt2
      go_wp2_with fail
      go_roundw
      case rel => unfold RSp; exact ⟨m.drop 64, ls ++ [m.take 64], HSP.out, by simp; omega, rfl, HO2.out, HB2.out⟩
      case measure => simp only [stLen, st_size, List.length_drop]; omega
    · have hlt' : ¬ (64 : Int) < (m.length : Int) := by omega
      have HSP : Hid (splitL b = ls ++ [m]) := Lib.hid (by rw [hsp, splitL_short hlt])
      clear hown hbr hsp
      go_wp2_with (at_builtin; refine wpList_append_own_at _ rfl _ _ 35 rfl w.heap.size 9 i0 (.string ByteArray.empty) 1 16 Tryd.underlying35 HI.out.1 HI.out.2.1 HI.out.2.2.1 HI.out.2.2.2 rfl (by decide) _ ls.length (strs ls) rfl (HO.out.alloc _) ⟨wr.heap.size, 0, none⟩ 1 1 _ rfl rfl (cell_one_new _ _ _) (one_of rfl) (by unfold maxLen; omega) (by omega) (by simp; omega) ?_)
      intro v' w2 hown2 hgrow _ _
      have hlt2 := HO.out.lt
      have HB2 : Hid (Below w.heap.size w w2) := Lib.hid ((HBR.out.alloc hszr _).grown hgrow (by simp; omega) (fun b hb => (hlt2 b hb).1))
      have HO2 : Hid (w2.ownsRow w.heap.size 9 1 v' (splitL b).length (strs (splitL b))) := Lib.hid (by
        rw [HSP.out, strs, List.map_append, List.length_append]
        exact hown2)
      clear hown2 hgrow hlt2
      go_wp2_with fail
      go_ret
      exact ⟨_, rfl, HO2.out, HB2.out⟩
end Go.Proofs.YtebhlfmianohlaaDoor
