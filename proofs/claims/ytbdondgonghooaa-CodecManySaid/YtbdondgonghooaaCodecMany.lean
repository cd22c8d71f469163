/-
  The statement CodecMany: its walk.
-/
import Derived.Test.YtbdondgonghooaaCodecAwake
import Derived.Test.YtbdondgonghooaaInts
namespace Go.Proofs.Ytbdondgonghooaa
open Go.RowKit Codec

/-! The mathematics -/
def putAll : List Int → List UInt8
  | [] => []
  | x :: l => put x.toNat ++ putAll l
theorem putAll_append : ∀ (l m : List Int), putAll (l ++ m) = putAll l ++ putAll m
  | [], _ => rfl
  | x :: l, m => by simp [putAll, putAll_append l m]
theorem putAll_len : ∀ (l : List Int), (∀ x ∈ l, 0 ≤ x ∧ x < 18446744073709551616) → (putAll l).length ≤ 10 * l.length
  | [], _ => by simp [putAll]
  | x :: l, h => by
    have h1 := put_length_64 (x := x.toNat) (by have := h x (by simp); omega)
    have h2 := putAll_len l (fun y hy => h y (by simp [hy]))
    simp [putAll]; omega
theorem take_succ' (l : List Int) (k : Nat) (h : k < l.length) : l.take (k + 1) = l.take k ++ [l[k]?.getD 0] := by
  rw [List.take_succ_eq_append_getElem h]; simp [List.getElem?_eq_getElem h]
/-- Where each number ends. -/
def endsOf (l : List Int) (k : Nat) : List Int := (List.range k).map fun j => ((putAll (l.take (j + 1))).length : Int)
theorem endsOf_succ (l : List Int) (k : Nat) : endsOf l (k + 1) = endsOf l k ++ [((putAll (l.take (k + 1))).length : Int)] := by simp [endsOf, List.range_succ]
theorem endsOf_length (l : List Int) (k : Nat) : (endsOf l k).length = k := by simp [endsOf]
theorem endsOf_at (l : List Int) (k i : Nat) (h : i < k) : (endsOf l k)[i]?.getD 0 = ((putAll (l.take (i + 1))).length : Int) := by simp [endsOf, h]

/-- What is left of the cut bytes when i numbers are read. -/
def left (l : List Int) (K i : Nat) : List UInt8 := ((putAll l).take K).drop (putAll (l.take i)).length
theorem putAll_split (l : List Int) (i : Nat) (h : i < l.length) : putAll l = putAll (l.take i) ++ (put (l[i]?.getD 0).toNat ++ putAll (l.drop (i + 1))) := by
  conv => lhs; rw [← List.take_append_drop i l, putAll_append]
  rw [List.drop_eq_getElem_cons h]
  simp [putAll, List.getElem?_eq_getElem h]
theorem putAll_take_succ (l : List Int) (i : Nat) (h : i < l.length) : (putAll (l.take (i + 1))).length = (putAll (l.take i)).length + (put (l[i]?.getD 0).toNat).length := by
  rw [take_succ' l i h, putAll_append]; simp [putAll]
theorem cut_at {α : Type} (P q R : List α) (K : Nat) (h : P.length + q.length ≤ K) :
    ((P ++ (q ++ R)).take K).drop P.length = q ++ R.take (K - (P.length + q.length)) ∧ ((P ++ (q ++ R)).take K).drop (P.length + q.length) = R.take (K - (P.length + q.length)) := by
  refine ⟨?_, ?_⟩
  · rw [List.drop_take, List.drop_left, List.take_append, List.take_of_length_le (by omega), Nat.sub_sub]
  · rw [List.drop_take, ← List.drop_drop, List.drop_left, List.drop_left]
theorem left_whole (l : List Int) (K i : Nat) (h : i < l.length) (hx : (l[i]?.getD 0).toNat < 18446744073709551616) (hK : (putAll (l.take (i + 1))).length ≤ K) :
    rd 0 (left l K i) = ((l[i]?.getD 0).toNat, (put (l[i]?.getD 0).toNat).length, 0) ∧ (left l K i).drop (put (l[i]?.getD 0).toNat).length = left l K (i + 1) := by
  have hs := putAll_take_succ l i h
  obtain ⟨h1, h2⟩ := cut_at (putAll (l.take i)) (put (l[i]?.getD 0).toNat) (putAll (l.drop (i + 1))) K (by omega)
  rw [← putAll_split l i h] at h1 h2
  unfold left
  rw [hs, h2, h1]
  exact ⟨rd_put0 hx _, List.drop_left⟩
theorem left_cut (l : List Int) (K i : Nat) (h : i < l.length) (hx : (l[i]?.getD 0).toNat < 18446744073709551616) (h1 : (putAll (l.take i)).length ≤ K) (hK : K < (putAll (l.take (i + 1))).length) : rd 0 (left l K i) = (0, 0, 10) := by
  have hs := putAll_take_succ l i h
  have hj : K - (putAll (l.take i)).length < (put (l[i]?.getD 0).toNat).length := by omega
  have e : left l K i = (put (l[i]?.getD 0).toNat).take (K - (putAll (l.take i)).length) := by
    unfold left
    rw [putAll_split l i h, List.drop_take, List.drop_left, List.take_append, Nat.sub_eq_zero_of_le (Nat.le_of_lt hj), List.take_zero, List.append_nil]
  rw [e]
  exact rd_cut _ 0 _ hj (by omega) (by simpa using hx) (by omega)
theorem left_end (l : List Int) (K : Nat) (hK : K ≤ (putAll l).length) (h : (putAll (l.take l.length)).length ≤ K) : left l K l.length = [] := by
  unfold left
  rw [List.take_length] at h ⊢
  exact List.drop_eq_nil_of_le (by simp; omega)

/-- s[:k] -/
theorem run_to {P : Program} (t e : TypeId) (ht : P.underlying t = some (.slice e)) (hz : ∀ w, (Go.sizeOf e).run P w = .ok 1 w) (A : Option Addr) (n c k : Nat) (hk : k ≤ c) (W : World) :
    (Instr.slice t (.slice A n c) none (some (.int .i64 (k : Int))) none).run P W = .ok (.slice A k c) W := by
  have ht' : P.underlying t = some (.slice (P.elem t)) := by simp [Program.elem, ht]
  have he : P.elem t = e := by simp [Program.elem, ht]
  rw [run_slice_h W t A n c ht' .i64 (k : Int) (by omega) (by omega), he, hz]
  have h0 : ∀ a : Addr, a.add 0 = a := fun a => by simp [Addr.add]
  cases A <;> simp [Result.andThen, sliced, h0]
theorem Byt.to {w : World} {S : Nat → Prop} {A : Option Addr} {n c k : Nat} {l : List UInt8} (h : Byt w S A n c l) (hk : k ≤ n) : Byt w S A k c (l.take k) :=
  ⟨by rw [List.length_take, h.len]; omega, by have := h.cap; omega, h.max, fun h0 => by
    obtain ⟨b, off, rfl, hB, hb, hc⟩ := h.row (by omega)
    refine ⟨b, off, rfl, hB, hb, fun i hi => ?_⟩
    rw [hc i (by omega), List.getElem?_take_of_lt hi]⟩

theorem int_info : (Try.prog.info? 3).map (fun i => (i.zero, i.size, i.bytes)) = some (some (.int .i64 0), 1, 8) := by kernel_rfl

set_option maxHeartbeats 4000000 in
set_option maxRecDepth 100000 in
theorem walk_many {w : World} {S : Nat → Prop} {A : Option Addr} {n c : Nat} {l : List Int} (h : Ints .u64 w S A n c l) {at_ : Int} (hat : (Lit.int .u16 at_).wf = true) :
    Calls Try.prog 7 #[.slice A n c, .int .u16 at_] w fun e w' => e = .returned (.bool true) ∧ Below w.heap.size w w' := by
  obtain ⟨i0, hi, hz0, hz1, hz2⟩ := info_parts int_info
  have hb16 := bounds_u16 hat
  have hwf : ∀ x ∈ l, 0 ≤ x ∧ x < 18446744073709551616 := fun x hx => by have := bounds_u64 (h.wf x hx); omega
  by_cases hn : n ≤ 40
  · have hll := putAll_len l hwf
    rw [h.len] at hll
    go_enter Try.func7, Try.ntmps7
    go_wp2_with fail
    refine (awake_true _).mono ?_
    rintro _ w1 ⟨rfl, hb1⟩
    go_wp2_with fail
    refine (newWriter _).mono ?_
    rintro _ w2 ⟨p, rfl, hW2, hb2⟩
    have hb2 := hb1.trans (hb2.mono hb1.size)
    have hsz1 := hb1.size
    have HWF := Lib.hid hwf
    have HLEN := Lib.hid h.len
    have HI := Lib.hid h
    clear hwf h hb1
    go_wp2_with fail
    go_loopw [7, 8] (fun v i wr => ∃ k : Nat, k ≤ n ∧ i = .int .i64 k ∧ Below w.heap.size w wr ∧ Wr wr (fun b => w.heap.size ≤ b ∧ v.ownBlock ≠ some b) p (putAll (l.take k)) ∧ wr.ownsRow w.heap.size 3 1 v k (nums .i64 (endsOf l k)))
      (fun _ i _ => n - (intOf i).toNat)
    case atStart => exact ⟨0, Nat.zero_le _, rfl, hb2, hW2.mono fun b _ hs => ⟨Nat.le_trans hsz1 hs, by simp [Value.ownBlock]⟩, World.ownsRow_nil _ _ _ _⟩
    case round =>
      obtain ⟨k, hk, rfl, hbr, hWr, hown⟩ := hrel
      by_cases hlt : k < n
      · obtain ⟨b, off, hA, _, _, hc⟩ := (HI.out.below (hbr.mono (by omega))).row (by omega)
        subst hA
        have hck := hc k hlt
        have hkl : k < l.length := by rw [HLEN.out]; exact hlt
        have hxb := HWF.out l[k] (List.getElem_mem hkl)
        have hxe : l[k]?.getD 0 = l[k] := by simp [List.getElem?_eq_getElem hkl]
        obtain ⟨x, hx⟩ := Int.eq_ofNat_of_zero_le hxb.1
        rw [hxe, hx] at hck
        have hsucc : putAll (l.take (k + 1)) = putAll (l.take k) ++ put x := by
          rw [take_succ' l k hkl, putAll_append, hxe, hx]; simp [putAll]
        have hsl : (putAll (l.take (k + 1))).length ≤ 400 := by
          have := putAll_len (l.take (k + 1)) (fun y hy => HWF.out y (List.mem_of_mem_take hy))
          rw [List.length_take] at this; omega
        have HS := Lib.hid hsucc
        have hxn : x < 18446744073709551616 := by omega
        clear hc hxe hxb hsucc
        have hwu := wuint (x := x) hWr hxn (by have := congrArg List.length HS.out; simp at this; omega)
        rw [← HS.out] at hwu
        have HX := Lib.hid hx
        clear hx
        obtain ⟨Av, cv, rfl⟩ := own_slice hown
        go_wp2_with fail
        refine hwu.mono ?_
        rintro _ wa ⟨rfl, hWa, hTa⟩
        have hva := hown.lt
        have hWa := hWa.mono (T := fun b => w.heap.size ≤ b ∧ (Value.slice Av k cv).ownBlock ≠ some b) fun b _ hs => by
          rcases hs with hs | hs
          · exact hs
          · exact ⟨Nat.le_trans hbr.size hs, fun e => by have := (hva b e).2; omega⟩
        have hoa := own_turned hown hTa (fun g hg hT => hT.2 hg)
        have hba := hbr.trans ((hTa.mono (T := (w.heap.size ≤ ·)) fun _ _ hs => hs.1).below hbr.size)
        go_wp2_with fail
        refine (wout hWa (by omega)).mono ?_
        rintro _ wb ⟨Ab, cb, rfl, _, hbb, _⟩
        have hob := own_turned hoa (Turned.of_below (S := fun _ => False) hbb) (fun _ _ hf => hf)
        have hWb := hWa.turned (Turned.of_below (S := fun _ => False) hbb) (fun _ _ _ hf => hf)
        have hbb := hba.trans (hbb.mono hba.size)
        have hL : (putAll (l.take (k + 1))).length ≤ 9223372036854775807 := by omega
        generalize hLL : (putAll (l.take (k + 1))).length = L at *
        have HLL := Lib.hid hLL
        clear hLL hWr hown hoa hba hwu hTa hWa
        go_wp2_with (at_builtin; refine wpList_append_own_at _ rfl _ _ 65 rfl w.heap.size 3 i0 (.int .i64 0) 1 8 Try.underlying65 hi hz0 hz1 hz2 rfl (by decide) _ k (nums .i64 (endsOf l k)) rfl (hob.alloc _) ⟨wb.heap.size, 0, none⟩ 1 1 [.int .i64 (L : Int)] rfl rfl (cell_one_new _ _ _) (one_of rfl) ?q4 ?q5 ?q6 ?_)
        case q4 => unfold maxLen; omega
        case q5 => omega
        case q6 => have := hbb.size; simp; omega
        intro v' w1 hown1 hgrow _ hat1
        have hlt1 := hown1.lt
        have hva := hob.lt
        have hWc := (hWb.mono (T := fun b => w.heap.size ≤ b ∧ (Value.slice Av k cv).ownBlock ≠ some b ∧ v'.ownBlock ≠ some b) fun b hb hs => ⟨hs.1, hs.2, fun e => by
            rcases hat1 with e1 | e1
            · rw [e1] at e; exact hs.2 e
            · rw [e1] at e; injection e; omega⟩).turned (T := fun _ => False) ((Turned.refl _ wb).alloc (.cells #[.int .i64 (L : Int)] 3)) (fun _ _ _ hf => hf)
        have hWd := (hWc.turned (Turned.of_gr (S := fun b => (Value.slice Av k cv).ownBlock = some b) hgrow fun g hg => hg) (fun b _ hs e => hs.2.1 e)).mono (T := fun b => w.heap.size ≤ b ∧ v'.ownBlock ≠ some b) fun b _ hs => ⟨hs.1, hs.2.2⟩
        have hbd := (hbb.alloc hbb.size _).grown hgrow (by have := hbb.size; simp; omega) (fun g hg => (hva g hg).1)
        have e2 : nums .i64 (endsOf l k) ++ [.int .i64 (L : Int)] = nums .i64 (endsOf l (k + 1)) := by
          rw [endsOf_succ, nums_append, HLL.out]; rfl
        rw [e2] at hown1
        clear hWb hWc hob hgrow hat1 hva hlt1 e2 hbb
        go_wp2
        go_roundw
        case rel => exact ⟨k + 1, by omega, by go_num, hbd, hWd, hown1⟩
        case measure => simp [intOf]; omega
      · have hkn : k = n := by omega
        subst hkn
        rw [List.take_of_length_le (by rw [HLEN.out]; omega)] at hWr
        obtain ⟨wq, rfl⟩ : ∃ wq, wq = wr := ⟨_, rfl⟩
        obtain ⟨Av, cv, rfl⟩ := own_slice hown
        have hends : 0 < k → ∃ g, Av = some ⟨g, 0, none⟩ ∧ g < wq.heap.size ∧ ∀ i, i < k → wq.cell? ⟨g, i, none⟩ = some (.int .i64 ((putAll (l.take (i + 1))).length : Int)) := fun h0 => by
          obtain ⟨g, c', hv, hc⟩ := own_row hown h0
          injection hv with hA _ hc'
          subst hA
          refine ⟨g, rfl, (hown.lt g rfl).2, fun i hi => ?_⟩
          rw [hc i hi, endsOf_at l k i hi]
        have HE := Lib.hid hends
        have HALL := Lib.hid (Eq.refl (putAll l))
        have hNb : (putAll l).length ≤ 400 := by omega
        have hto0 := wout hWr (by omega)
        obtain ⟨N, hN⟩ : ∃ N, (putAll l).length = N := ⟨_, rfl⟩
        rw [hN] at hto0 hNb
        obtain ⟨K, hK⟩ := Int.eq_ofNat_of_zero_le (Int.emod_nonneg at_ (show ((N : Int) + 1) ≠ 0 by omega))
        have hKN : K ≤ N := by have := Int.emod_lt_of_pos at_ (show (0 : Int) < (N : Int) + 1 by omega); omega
        have HN := Lib.hid hN
        have HK := Lib.hid hK
        have hat0 : 0 ≤ at_ := hb16.1
        clear hends hN hll hown hWr
        go_wp2_with fail
        refine hto0.mono ?_
        rintro _ w3 ⟨A3, c3, rfl, hY3, hb3, _⟩
        have hto := run_to (P := Try.prog) 22 5 Try.underlying22 u8_size A3 N c3 K (by have := hY3.cap; omega)
        go_wp2_with fail
        refine (newReader (hY3.to hKN) (by omega)).mono ?_
        rintro _ w4 ⟨q, rfl, hR4, hb4⟩
        have hbq : Below wq.heap.size wq w4 := hb3.trans (hb4.mono hb3.size)
        have hq : wq.heap.size ≤ q := Nat.le_trans hb3.size hR4.1
        have hl0 : left l K 0 = (putAll l).take K := by unfold left; simp [putAll]
        rw [← hl0] at hR4
        clear hto hto0 hK hY3 hl0
        go_wp2_with fail
        go_loopw [12] (fun i wr => ∃ j : Nat, j ≤ k ∧ i = .int .i64 j ∧ Below wq.heap.size wq wr ∧ Rd wr (w3.heap.size ≤ ·) q (left l K j) 0 ∧ (putAll (l.take j)).length ≤ K) (fun i _ => k - (intOf i).toNat)
        case atStart => exact ⟨0, Nat.zero_le _, rfl, hbq, hR4, by simp [putAll]⟩
        case round =>
          obtain ⟨j, hj, rfl, hbx, hR, hpos⟩ := hrel
          by_cases hjk : j < k
          · obtain ⟨g, hAv, hg, hce⟩ := HE.out (by omega)
            subst hAv
            have hjl : j < l.length := by rw [HLEN.out]; exact hjk
            have hxb := HWF.out l[j] (List.getElem_mem hjl)
            have hxe : l[j]?.getD 0 = l[j] := by simp [List.getElem?_eq_getElem hjl]
            obtain ⟨x, hx⟩ := Int.eq_ofNat_of_zero_le hxb.1
            have hxt : (l[j]?.getD 0).toNat = x := by rw [hxe, hx]; rfl
            have hcj := hce j hjk
            have hxn : (l[j]?.getD 0).toNat < 18446744073709551616 := by omega
            by_cases hw : (putAll (l.take (j + 1))).length ≤ K
            · obtain ⟨r1, r2⟩ := left_whole l K j hjl hxn hw
              have hu := uint_ok hR
              rw [r1, r2] at hu
              simp only [hxt] at hu
              obtain ⟨E, hE⟩ : ∃ E, (putAll (l.take (j + 1))).length = E := ⟨_, rfl⟩
              rw [hE] at hcj hw
              have HEE := Lib.hid hE
              have HXE := Lib.hid (And.intro hxe hx)
              have hwi : (E : Int) ≤ at_ % ((N : Int) + 1) := by rw [HK.out]; omega
              clear hce hE hxe hx hxt hxn r1 r2 hxb
              go_wp2_with fail
              refine hu.mono ?_
              rintro _ wy ⟨rfl, hRy, hgy⟩
              have hby := hbx.trans (below_gr hgy hq hbx.size)
              have hcj2 := (hby.cell (p := ⟨g, j, none⟩) hg).trans hcj
              have hbwy := hbr.trans (hby.mono hbr.size)
              obtain ⟨b, off, hA, _, _, hc⟩ := (HI.out.below hbwy).row (by omega)
              subst hA
              have hcx := hc j hjk
              rw [HXE.out.1, HXE.out.2] at hcx
              clear hc hcj hu
              go_wp2_with (go_at_call 21; refine (err_rd hRy).mono ?_; rintro _ _ ⟨rfl, rfl⟩)
              go_roundw
              case rel => exact ⟨j + 1, by omega, by go_num, hby, hRy, by rw [HEE.out]; exact hw⟩
              case measure => simp [intOf]; omega
            · have r1 := left_cut l K j hjl hxn hpos (by omega)
              have hu := uint_ok hR
              rw [r1] at hu
              simp only [List.drop_zero] at hu
              obtain ⟨E, hE⟩ : ∃ E, (putAll (l.take (j + 1))).length = E := ⟨_, rfl⟩
              rw [hE] at hcj hw
              have hwi : ¬ (E : Int) ≤ at_ % ((N : Int) + 1) := by rw [HK.out]; omega
              clear hce hE hxe hx hxt hxn r1 hxb
              go_wp2_with fail
              refine hu.mono ?_
              rintro _ wy ⟨rfl, hRy, hgy⟩
              have hby := hbx.trans (below_gr hgy hq hbx.size)
              have hcj2 := (hby.cell (p := ⟨g, j, none⟩) hg).trans hcj
              have hend := end_rd hRy
              have e10 : endE (left l K j) ((10 : Nat) : Int) = 10 := by unfold endE; rfl
              rw [e10] at hend
              have hbwy := hbr.trans (hby.mono hbr.size)
              clear hcj hu e10
              go_wp2_with (first | (go_at_call 21; refine (err_rd hRy).mono ?_; rintro _ _ ⟨rfl, rfl⟩) | (go_at_call 22; refine hend.mono ?_; rintro _ _ ⟨rfl, rfl⟩))
              go_ret
              exact ⟨rfl, hbwy⟩
          · have hjn : j = k := by omega
            subst hjn
            have hR2 : Rd wr (w3.heap.size ≤ ·) q [] 0 := by
              have := left_end l K (by rw [HN.out]; omega) (by rw [HLEN.out]; exact hpos)
              rw [HLEN.out] at this
              rw [← this]; exact hR
            have hend := end_rd hR2
            simp [endE] at hend
            have hbwx := hbr.trans (hbx.mono hbr.size)
            clear hR hR2
            go_wp2_with (go_at_call 22; refine hend.mono ?_; rintro _ _ ⟨rfl, rfl⟩)
            go_ret
            exact ⟨rfl, hbwx⟩
  · go_enter Try.func7, Try.ntmps7
    go_wp2_with (go_at_call 9; refine (awake_true _).mono ?_; rintro _ w1 ⟨rfl, hb1⟩)
    go_ret
    exact ⟨rfl, hb1⟩
end Go.Proofs.Ytbdondgonghooaa
