/-
  codec.Reader.Id.
-/
import Derived.Test.YtbdondgonghooaaCodecRead2
import Derived.Deep.MidRow
namespace Go.Proofs.Ytbdondgonghooaa
open Go.RowKit Codec

/-- The cells of the digest that is told. -/
def idL (l : List UInt8) (e : Int) : List UInt8 := if tkE l e 32 = 0 then l.take 32 else List.replicate 32 0
def idC (l : List UInt8) (e : Int) : Array Value := (u8s (idL l e)).toArray
theorem idL_length (l : List UInt8) (e : Int) : (idL l e).length = 32 := by
  unfold idL
  split
  · rename_i h
    obtain ⟨_, _, h1⟩ := tkE_zero h
    rw [List.length_take]
    have : (32 : Int).toNat = 32 := rfl
    omega
  · simp

theorem id_info : (Try.prog.info? 42).map (·.size) = some 32 := by kernel_rfl
theorem u8s_all (l : List UInt8) : (u8s l).toArray.all (·.oneCell') = true := all_oneCell_toArray (u8s_one l)
theorem zeros32 : (u8s (List.replicate 32 0)).toArray = #[.int .u8 0, .int .u8 0, .int .u8 0, .int .u8 0, .int .u8 0, .int .u8 0, .int .u8 0, .int .u8 0, .int .u8 0, .int .u8 0, .int .u8 0, .int .u8 0, .int .u8 0, .int .u8 0, .int .u8 0, .int .u8 0,
    .int .u8 0, .int .u8 0, .int .u8 0, .int .u8 0, .int .u8 0, .int .u8 0, .int .u8 0, .int .u8 0, .int .u8 0, .int .u8 0, .int .u8 0, .int .u8 0, .int .u8 0, .int .u8 0, .int .u8 0, .int .u8 0] := by rfl
theorem gr_setRow {a w : World} {row : Option Nat} (h : a.grownBy w row) {g : Nat} (hg : a.heap.size ≤ g) (cs : Array Value) : a.grownBy (w.setRow g cs) row :=
  ⟨h.os, h.tape, h.output, by simpa [World.setRow] using h.size, fun i hi hne => by
    rw [← h.block i hi hne]
    simp only [World.setRow, Array.getElem?_modify]
    rw [if_neg (by omega)]⟩
theorem gr_of_alloc {w w1 : World} {o : Obj} {row : Option Nat} (h : (w.alloc o).grownBy w1 row) : w.grownBy w1 row := gr_trans (gr_alloc (gr_refl w row) o) h
theorem gr_row (w : World) (g : Nat) (cs : Array Value) : w.grownBy (w.setRow g cs) (some g) :=
  ⟨rfl, rfl, rfl, by simp [World.setRow], fun i hi hne => by
    simp only [World.setRow, Array.getElem?_modify]
    rw [if_neg (fun e => hne (by rw [e]))]⟩
theorem setRow_at {w : World} {g : Nat} {cs new : Array Value} {t : TypeId} (h : w.heap[g]? = some (.cells cs t (0, 0))) : (w.setRow g new).heap[g]? = some (.cells new t (0, 0)) := by
  simp [World.setRow, Array.getElem?_modify, h]

theorem run_storeAt_row {P : Program} (w : World) (g : Nat) (ty : TypeId) (cells : List Value) (old : Array Value) {t : TypeId} (hg : w.heap[g]? = some (.cells old t (0, 0))) (hi : (P.info? ty).map (·.size) = some cells.toArray.size)
    (ho : old.size = cells.toArray.size) (h1 : cells.toArray.all (·.oneCell') = true) :
    (Instr.storeAt ty (.pointer (some ⟨g, 0, none⟩)) (.agg cells.toArray)).run P w = .ok () (w.setRow g cells.toArray) := by
  simp only [Instr.storeAt, Instr.sureAddr, Sem.run_bind, Sem.run_pure, Result.andThen_ok]
  exact run_storeVar_row w g t ty old cells.toArray hg hi ho h1

theorem run_arrayAt {P : Program} (w : World) (t : TypeId) (n : Nat) (e : TypeId) (hu : P.underlying t = some (.array n e)) (A : Option Addr) (len c : Nat) (hn : n ≤ len) :
    (Instr.arrayAt t (.slice A len c)).run P w = .ok (.pointer A) w := by
  simp [Instr.arrayAt, Sem.run_bind, run_underlying hu]
  omega

def Z32 : Array Value := (u8s (List.replicate 32 0)).toArray
theorem build_id : ∀ w, (Instr.build 42 #[]).run Try.prog w = .ok (.agg Z32) w := by
  intro w
  unfold Z32
  rw [zeros32]
  kernel_rfl

/-- An operation 'T{}' of a struct or an array, its value by a closed fact. -/
theorem wpList_build0 {P : Program} {ops : Array Oper} {rest : List Oper} {op : Oper} {a : Act} {w : World} {Q : Exit → Act → World → Prop} (hgd : op.guard = none) (t : TypeId) (ho : op.op = .build t #[]) (v : Value)
    (hb : ∀ w, (Instr.build t #[]).run P w = .ok v w) (h : wpList P ops Q rest (a.put op.dst v) w) : wpList P ops Q (op :: rest) a w :=
  wpList_plain hgd fun _ hK => by
    unfold Oper.wp execOp
    simp only [ho, List.map_toArray, List.map_nil, hb, Sem.run_bind, Sem.run_pure, Result.andThen_ok]
    exact hK _ _ h

set_option maxHeartbeats 1000000 in
theorem id_any {w : World} {S : Nat → Prop} {p : Nat} {l : List UInt8} {e : Int} (h : Rd w S p l e) :
    Calls Try.prog 19 #[.pointer (some ⟨p, 0, none⟩)] w fun r w' => r = .returned (.agg (idC l e)) ∧ Rd w' S p (fxL l e 32) (tkE l e 32) ∧ w.grownBy w' (some p) := by
  have hnil := fun (w : World) (a : Option Addr) (n c : Nat) => Lib.run_eql_slice_nil (P := Try.prog) w 22 5 a n c 0 0 Try.underlying22
  have hlt := h.lt
  have h := h.mono (T := fun b => S b ∧ b < w.heap.size) fun b hb hs => ⟨hs, hb⟩
  unfold idC idL fxL
  by_cases hk : tkE l e 32 = 0
  · obtain ⟨rfl, _, h1⟩ := tkE_zero hk
    simp only [hk, if_true]
    clear hk
    go_enter Try.func19, Try.ntmps19
    go_wp2_with fail
    refine (take_ok (m := 32) (h.below ((Below.refl _ _).alloc (Nat.le_refl _) _)) (by simpa using h1)).mono ?_
    rintro _ w1 ⟨A, rfl, hR, hY, hb⟩
    obtain ⟨bb, off, rfl, _, _, hcell⟩ := hY.row (by omega)
    have hg1 := (hb.block w.heap.size (by simp) (by intro e; injection e; omega)).trans (heap_alloc_new w _)
    have hl32 : (l.take 32).length = 32 := hY.len
    have hrange : w1.rangeAt bb off (u8s (l.take 32)) := fun j v hj => by
      have := byt_news hY j v hj
      rwa [add_plain] at this
    have hi32 : (Try.prog.info? 42).map (·.size) = some (u8s (l.take 32)).length := by rw [u8s_length, hl32]; exact id_info
    have hsz : (u8s (l.take 32)).toArray.size = 32 := by simp [u8s_length, hl32]
    have hsa := run_arrayAt (P := Try.prog) w1 42 32 5 Try.underlying42 (some ⟨bb, off, none⟩) 32 32 (by omega)
    have hi33 : (Try.prog.info? 42).map (·.size) = some (u8s (l.take 32)).toArray.size := by rw [hsz]; exact id_info
    have HI := Lib.hid (And.intro hi32 hi33)
    have HR := Lib.hid hrange
    have HS := Lib.hid hsz
    have HY := Lib.hid hY
    clear hrange hcell hl32 hsz hY hi32 hi33
    go_wp2_with (first | (refine wpList_load_mid (by rfl) 42 (.tmp 10) (by rfl) bb off (by rfl) (u8s (l.take 32)) _ HR.out Try.underlying42 (by rfl) HI.out.1 ?_) | (refine wpList_store_row (by rfl) 42 (.tmp 2) (.tmp 11) (by rfl) w.heap.size (u8s (l.take 32)).toArray (by rfl) (by rfl) 42 _ hg1 HI.out.2 (by rw [HS.out]; rfl) (u8s_all _) ?_))
    refine bodyPost_ret (results_cell_row rfl _ _ w.heap.size 42 (u8s (l.take 32)).toArray (0, 0) _ rfl (setRow_at hg1) Try.underlying42 rfl HI.out.2) rfl ⟨rfl, ?_, ?_⟩
    · exact (hR.grown (gr_row w1 w.heap.size _) (fun g hg hs => by injection hg with hg; have := hs.2; omega)).mono fun _ _ hs => hs.1
    · exact gr_setRow (gr_of_alloc hb) (Nat.le_refl _) _
  · simp only [hk, if_false]
    go_enter Try.func19, Try.ntmps19
    go_wp2_with fail
    refine (take_bad (h.below ((Below.refl _ _).alloc (Nat.le_refl _) _)) hk).mono ?_
    rintro _ w1 ⟨rfl, hR, hb⟩
    have hg1 := (hb.block w.heap.size (by simp) (by intro e; injection e; omega)).trans (heap_alloc_new w _)
    go_wp2_with (first | (refine wpList_build0 (by rfl) 42 (by rfl) (.agg Z32) build_id ?_) | (refine wpList_store_row (by rfl) 42 (.tmp 2) (.tmp 8) (by rfl) w.heap.size Z32 (by rfl) (by rfl) 42 _ hg1 (by unfold Z32; rw [zeros32]; exact id_info) (by unfold Z32; rw [zeros32]) (u8s_all _) ?_))
    refine bodyPost_ret (results_cell_row rfl _ _ w.heap.size 42 Z32 (0, 0) _ rfl (setRow_at hg1) Try.underlying42 rfl (by unfold Z32; rw [zeros32]; exact id_info)) rfl ⟨rfl, ?_, ?_⟩
    · exact (hR.grown (gr_row w1 w.heap.size _) (fun g hg hs => by injection hg with hg; have := hs.2; omega)).mono fun _ _ hs => hs.1
    · exact gr_setRow (gr_of_alloc hb) (Nat.le_refl _) _
end Go.Proofs.Ytbdondgonghooaa
