/-
  digest.sum.add: bytes behind those that were there.
-/
import Derived.Test.YtckgibeiikhaaaaDoorShaMix
import Derived.Test.YtckgibeiikhaaaaDoorShaMsg
import Derived.Laws.CopyOwn
namespace Go.Proofs.YtckgibeiikhaaaaDoor
open Go.RowKit

theorem Turned.setRow {S : Nat → Prop} {a w : World} (h : Turned S a w) {g : Nat} (hg : S g) (cs : Array Value) : Turned S a (w.setRow g cs) :=
  ⟨h.os, h.tape, h.output, by simpa [World.setRow] using h.size, fun i hi hs => by
    rw [← h.block i hi hs]
    simp only [World.setRow, Array.getElem?_modify]
    rw [if_neg (by rintro rfl; exact hs hg)]⟩
def slLen : Value → Nat
  | .slice _ n _ => n
  | _ => 0

/-- THE STRUCT AT BLOCK p IS A DIGEST UNDER WAY, behind the bytes m; 'al' is what it says of how many there were. -/
def Msg (w : World) (p : Nat) (m : List UInt8) (al : Nat) : Prop := ∃ b, Sum w p (hashN m (m.length / 64)) b (m.length % 64) al ∧ PartOf m b
section
variable {w w' : World} {p : Nat} {m : List UInt8} {al : Nat}
theorem Msg.lt (h : Msg w p m al) : p < w.heap.size := by obtain ⟨b, hs, _⟩ := h; exact hs.lt
theorem Msg.below (h : Msg w p m al) (hb : Below w.heap.size w w') : Msg w' p m al := by obtain ⟨b, hs, ho⟩ := h; exact ⟨b, hs.below hb, ho⟩
theorem Msg.turned {S : Nat → Prop} (h : Msg w p m al) (ht : Turned S w w') (hS : ¬ S p) : Msg w' p m al := by obtain ⟨b, hs, ho⟩ := h; exact ⟨b, hs.turned ht hS, ho⟩
end

theorem Sum.lay {w : World} {p d k al : Nat} {H : List (BitVec 32)} {m b l : List UInt8} (h : Sum w p H b d al) (hd : d = m.length % 64) (hk : k ≤ l.length) (hkd : d + k ≤ 64) :
    Sum (w.setRow p (List.take (8 + d) (u32s H ++ (u8s b ++ [Value.int .i64 (d : Int), Value.int .u64 (al : Int)])) ++ (u8s (List.take k l) ++ List.drop (8 + d + k) (u32s H ++ (u8s b ++ [Value.int .i64 (d : Int), Value.int .u64 (al : Int)])))).toArray) p H (laid m b l k) d al := by
  refine ⟨?_, h.eight, laid_length h.part hk (by rw [← hd]; exact hkd)⟩
  rw [setRow_at h.cells]
  have hlc := laid_cells H h.eight m b l k h.part (by omega) [Value.int .i64 (d : Int), Value.int .u64 (al : Int)]
  rw [← hd] at hlc
  rw [hlc]

theorem run_part_from {P : Program} (t e : TypeId) (N : Nat) (ht : P.underlying t = some (.array N e)) (hz : ∀ w, (Go.sizeOf e).run P w = .ok 1 w) (b o d : Nat) (hd : d < N) (W : World) :
    (Instr.sliceAt t (.pointer (some ⟨b, o, none⟩)) (some (.int .i64 (d : Int))) none none).run P W = .ok (.slice (some ⟨b, o + d, none⟩) (N - d) (N - d)) W := by
  have h1 : ¬ N = d := by omega
  have ha : P.arrayLen t = N := by simp [Program.arrayLen, ht]
  have he : P.elem t = e := by simp [Program.elem, ht]
  rw [run_sliceAt_array_l (P := P) W t _ (by rw [ha, he]; exact ht) .i64 (d : Int) (by omega) (by omega), he, hz]
  simp [Result.andThen, slicedAt, ha, h1, add_plain]

set_option maxHeartbeats 4000000 in
set_option maxRecDepth 100000 in
theorem add_any {w : World} {S : Nat → Prop} {p : Nat} {m l : List UInt8} {A : Option Addr} {n c : Nat} (hm : Msg w p m m.length) (ht : Tab w) (hy : Byt w S A n c l) (hS : ¬ S p) (hp : 2 ≤ p) (hl : m.length + l.length < 1152921504606846976) :
    Calls Tryd.prog 24 #[.pointer (some ⟨p, 0, none⟩), .slice A n c] w fun e w' => e = .returned (.tuple #[]) ∧ Msg w' p (m ++ l) (m ++ l).length ∧ Turned (· = p) w w' := by
  obtain ⟨b, hs, ho⟩ := hm
  have c73 := hs.all_
  have f73 := hs.free 73
  have hn := hy.len
  have hal : IntKind.u64.wrap ((m.length : Int) + (n : Int)) = ((m.length + n : Nat) : Int) := by simp [IntKind.wrap, IntKind.bits, IntKind.signed]; omega
  go_enter Tryd.func24, Tryd.ntmps24
  go_wp2_with fail
  have hS0 := hs.setAll (m.length + n)
  have hT0 : Turned (· = p) w (w.setCell ⟨p, 73, none⟩ (.int .u64 ((m.length : Int) + (n : Int)))) := (Turned.refl (· = p) w).set (p := p) rfl _ _
  rw [show ((m.length + n : Nat) : Int) = (m.length : Int) + (n : Int) by omega] at hS0
  have hY0 := hy.turned hT0 (fun b _ h1 h2 => hS (h2 ▸ h1))
  have hB0 := ht.turned hT0 (by omega) (by omega)
  have HN := Lib.hid hn
  clear c73 f73 hal hn hy hs ht
  generalize w.setCell ⟨p, 73, none⟩ (.int .u64 ((m.length : Int) + (n : Int))) = w0 at *
  go_loopw [1, 4] (fun v _ wr => ∃ (l0 l1 : List UInt8) (A1 : Option Addr) (n1 c1 : Nat) (b1 : List UInt8), v = .slice A1 n1 c1 ∧ l = l0 ++ l1 ∧ Byt wr S A1 n1 c1 l1 ∧ Sum wr p (hashN (m ++ l0) ((m ++ l0).length / 64)) b1 ((m ++ l0).length % 64) (m.length + n) ∧ PartOf (m ++ l0) b1 ∧ Tab wr ∧ Turned (· = p) w wr)
    (fun v _ _ => slLen v)
  case atStart => exact ⟨[], l, A, n, c, b, rfl, rfl, hY0, by simpa using hS0, by simpa using ho, hB0, hT0⟩
  case round =>
    obtain ⟨l0, l1, A1, n1, c1, b1, rfl, hll, hY, hSm, hPo, hTb, hTu⟩ := hrel
    generalize hm1 : m ++ l0 = m1 at *
    have hn1 := hY.len
    have hst := Lib.hid (And.intro hSm (And.intro hPo (And.intro hTb (And.intro hTu hY))))
    by_cases h0 : 0 < n1
    · obtain ⟨bb, off, rfl, hSb, hbl, _⟩ := hY.row h0
      have hnews := byt_news hY
      obtain ⟨d, hd⟩ : ∃ d, d = m1.length % 64 := ⟨_, rfl⟩
      have hd64 : d < 64 := by omega
      obtain ⟨k, hk⟩ : ∃ k, k = Nat.min n1 (64 - d) := ⟨_, rfl⟩
      have hk0 : 0 < k := by rw [hk]; exact (Nat.lt_min).2 ⟨h0, by omega⟩
      have hkn : k ≤ n1 := by rw [hk]; exact Nat.min_le_left _ _
      have hkd : d + k ≤ 64 := by have : k ≤ 64 - d := by (rw [hk]; exact Nat.min_le_right _ _)
                                  omega
      have hcl : (u8s (l1.take k)).length = k := by rw [u8s_length, List.length_take]; omega
      have hnews' : ∀ j v, (u8s (l1.take k))[j]? = some v → wr.cell? ((⟨bb, off, none⟩ : Addr).add j) = some v := by
        intro j v hj
        have hjk : j < k := by have := (List.getElem?_eq_some_iff.1 hj).1; rw [hcl] at this; exact this
        refine hnews j v ?_
        rw [← hj]
        simp [u8s, List.getElem?_take_of_lt hjk]
      have hsz : (Tryd.prog.info? 5).map (·.size) = some 1 := by kernel_rfl
      rw [← hd] at hSm
      have hfit : 8 + d + (u8s (l1.take k)).length ≤ (u32s (hashN m1 (m1.length / 64)) ++ (u8s b1 ++ [Value.int .i64 (d : Int), Value.int .u64 ((m.length + n : Nat) : Int)])).length := by
        rw [hcl, List.length_append, List.length_append, u32s_length, u8s_length, hSm.eight, hSm.part]; simp; omega
      have HCP := Lib.hid (And.intro hSm.cells (And.intro hnews' (And.intro hsz hfit)))
      have HKK := Lib.hid (And.intro hk (And.intro hcl hkn))
      have hc3 := run_cut (P := Tryd.prog) 26 5 Tryd.underlying26 u8_size (some ⟨bb, off, none⟩) n1 c1 k hkn
      have HDD := Lib.hid hd
      have HLL := Lib.hid (And.intro hll (And.intro hm1 hn1))
      have c72 := hSm.have_
      have f72 := hSm.free 72
      have hcut := run_part_from (P := Tryd.prog) 46 5 64 Tryd.underlying46 u8_size p 8 d hd64
      have hS2 := (hSm.drew).lay (l := l1) (k := k) hd (by omega) hkd
      have hT2 : Turned (· = p) w (wr.drew.setRow p (List.take (8 + d) (u32s (hashN m1 (m1.length / 64)) ++ (u8s b1 ++ [Value.int .i64 (d : Int), Value.int .u64 ((m.length + n : Nat) : Int)])) ++ (u8s (List.take k l1) ++ List.drop (8 + d + k) (u32s (hashN m1 (m1.length / 64)) ++ (u8s b1 ++ [Value.int .i64 (d : Int), Value.int .u64 ((m.length + n : Nat) : Int)])))).toArray) := hTu.drew.setRow rfl _
      have hT3 : Turned (· = p) wr (wr.drew.setRow p (List.take (8 + d) (u32s (hashN m1 (m1.length / 64)) ++ (u8s b1 ++ [Value.int .i64 (d : Int), Value.int .u64 ((m.length + n : Nat) : Int)])) ++ (u8s (List.take k l1) ++ List.drop (8 + d + k) (u32s (hashN m1 (m1.length / 64)) ++ (u8s b1 ++ [Value.int .i64 (d : Int), Value.int .u64 ((m.length + n : Nat) : Int)])))).toArray) := (Turned.refl (· = p) wr).drew.setRow (g := p) rfl _
      have HST := Lib.hid (And.intro hS2 (And.intro hT2 hT3))
      clear hS2 hT2 hT3
      clear hSm hPo hTb hTu hY hd hll hm1 hn1 hk hcl hnews hnews' hsz hfit
      go_wp2_with fail
      refine wp_region_still_tail 9 (by kernel_rfl) (by kernel_rfl) ?_
      simp only [List.take_succ_cons, List.take_zero, List.drop_succ_cons, List.drop_zero]
      show wpStill _ _ wr.drew (fun a' => wpList _ _ _ _ a' wr.drew) _ _
      have c72 : wr.drew.cell? ⟨p, 72, none⟩ = _ := c72
      have f72 : wr.drew.frozen? ⟨p, 72, none⟩ = _ := f72
      iterate 9 still_step
      refine wpStill_nil ?_
      refine wpList_copy_own (by rfl) (.tmp 25) (.tmp 26) 26 26 (by rfl) 5 Tryd.underlying26 HCP.out.2.2.1 p (8 + d) (64 - d) (64 - d) ⟨bb, off, none⟩ n1 c1 (by rfl) (by rfl) _ _ HCP.out.1 (u8s (l1.take k)) (by rw [HKK.out.2.1]; exact HKK.out.1) HCP.out.2.1 HCP.out.2.2.2 (u8s_one _) ?_
      rw [HKK.out.2.1]
      generalize hw2 : World.setRow wr.drew p _ = w2
      have HST2 : Hid (Sum w2 p (hashN m1 (m1.length / 64)) (laid m1 b1 l1 k) d (m.length + n) ∧ Turned (· = p) w w2 ∧ Turned (· = p) wr w2) := Lib.hid (hw2 ▸ HST.out)
      clear HST hw2 c72 f72 HCP
      have c72 := HST2.out.1.have_
      have f72 := HST2.out.1.free 72
      have hS3 := HST2.out.1.setHave (d + k)
      rw [show ((d + k : Nat) : Int) = (d : Int) + (k : Int) by omega] at hS3
      have hT3 := HST2.out.2.1.set (p := p) rfl 72 (.int .i64 ((d : Int) + (k : Int)))
      have hR3 := HST2.out.2.2.set (p := p) rfl 72 (.int .i64 ((d : Int) + (k : Int)))
      have HFN : Hid (∀ w5 Hx dx, Sum w5 p Hx (laid m1 b1 l1 k) dx (m.length + n) → Turned (· = p) w w5 → Turned (· = p) wr w5 → hashN (m1 ++ l1.take k) ((m1 ++ l1.take k).length / 64) = Hx → (m1 ++ l1.take k).length % 64 = dx → PartOf (m1 ++ l1.take k) (laid m1 b1 l1 k) →
          l = (l0 ++ l1.take k) ++ l1.drop k ∧ Byt w5 S (cutA (some ⟨bb, off, none⟩) c1 k) (n1 - k) (c1 - k) (l1.drop k) ∧ Sum w5 p (hashN (m ++ (l0 ++ l1.take k)) ((m ++ (l0 ++ l1.take k)).length / 64)) (laid m1 b1 l1 k) ((m ++ (l0 ++ l1.take k)).length % 64) (m.length + n) ∧ PartOf (m ++ (l0 ++ l1.take k)) (laid m1 b1 l1 k) ∧ Tab w5 ∧ Turned (· = p) w w5) := Lib.hid (by
        intro w5 Hx dx h1 h2 h3 h4 h5 h6
        rw [← List.append_assoc m, HLL.out.2.1, h4, h5]
        exact ⟨by rw [List.append_assoc, List.take_append_drop]; exact HLL.out.1, (hst.out.2.2.2.2.turned h3 (fun b hb1 hb2 hb3 => hS (hb3 ▸ hb2))).cut hkn, h1, h6, hst.out.2.2.1.turned h3 (by omega) (by omega), h2⟩)
      by_cases hful : d + k = 64
      · have he : ((d : Int) + (k : Int) == 64) = true := by simp; omega
        have HFU := Lib.hid hful
        have HS3 := Lib.hid (And.intro hS3 (And.intro hT3 hR3))
        clear hful hS3 hT3 hR3
        go_wp2_with fail
        refine (mix_any HS3.out.1 (hst.out.2.2.1.turned HS3.out.2.2 (by omega) (by omega))).mono ?_
        rintro _ w4 ⟨rfl, hS4, hT4⟩
        clear c72 f72
        have f72 := hS4.free 72
        have c72 := hS4.have_
        have hT5 := (HS3.out.2.1.trans hT4 fun _ _ h => h).set (p := p) rfl 72 (.int .i64 0)
        have hR5 := (HS3.out.2.2.trans hT4 fun _ _ h => h).set (p := p) rfl 72 (.int .i64 0)
        have hS5 := hS4.setHave 0
        rw [show ((0 : Nat) : Int) = (0 : Int) from rfl] at hS5
        have HS5 := Lib.hid (And.intro hS5 (And.intro hT5 hR5))
        obtain ⟨q1, q2, q3⟩ := part_full (l := l1) (n := k) hst.out.2.1 (by rw [HLL.out.2.2]; exact hkn) (by rw [← HDD.out]; exact HFU.out)
        have HQ := Lib.hid (HFN.out _ _ _ HS5.out.1 HS5.out.2.1 HS5.out.2.2 q3 q2 q1)
        clear hS4 hT4 hS5 hT5 hR5 q1 q2 q3
        go_wp2_with fail
        go_roundw
        case rel => exact ⟨_, _, _, _, _, _, rfl, HQ.out⟩
        case measure => simp [slLen]; omega
      · have he : ((d : Int) + (k : Int) == 64) = false := by simp; omega
        have HFU := Lib.hid hful
        obtain ⟨q1, q2, q3⟩ := part_short (l := l1) (n := k) hst.out.2.1 (by rw [HLL.out.2.2]; exact hkn) (by rw [← HDD.out]; omega)
        rw [← HDD.out] at q2
        have HQ := Lib.hid (HFN.out _ _ _ hS3 hT3 hR3 q3 q2 q1)
        clear hful hS3 hT3 hR3 q1 q2 q3
        go_wp2_with fail
        go_roundw
        case rel => exact ⟨_, _, _, _, _, _, rfl, HQ.out⟩
        case measure => simp [slLen]; omega
    · obtain rfl : n1 = 0 := by omega
      have hl1 : l1 = [] := List.eq_nil_of_length_eq_zero hn1
      have he : m ++ l = m1 := by rw [hll, hl1, List.append_nil, hm1]
      have HF : Hid (Msg wr p (m ++ l) (m ++ l).length ∧ Turned (· = p) w wr) := Lib.hid ⟨by rw [he, show m1.length = m.length + n by rw [← he, List.length_append, HN.out]]; exact ⟨b1, hSm, hPo⟩, hTu⟩
      clear hSm hPo hTb hTu hY hll hm1 hn1 h0 hl1 he hst
      go_wp2_with fail
      go_end0
      exact ⟨rfl, HF.out⟩
end Go.Proofs.YtckgibeiikhaaaaDoor
