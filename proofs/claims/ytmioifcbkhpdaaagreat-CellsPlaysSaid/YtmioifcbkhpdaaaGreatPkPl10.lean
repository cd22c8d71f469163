/-
  The code's: the blocks of a log, read; the number behind all that stand there.
  The code's log: what stands in memory; what only reads it.
  The code's log: whether a record may be added; its records, handed out; a record kept.
-/
import Derived.Test.YtmioifcbkhpdaaaGreatPkPl02
import Derived.Test.YtmioifcbkhpdaaaGreatPkPl09
import Derived.Deep.AppendLies
import Derived.Maps.AppendAt
import Derived.Test.YtmioifcbkhpdaaaGreatPkPl01
namespace Go.Proofs.YtmioifcbkhpdaaaGreat
set_option maxHeartbeats 16000000
set_option maxRecDepth 100000
open Go.RowKit
def rowV (r : Option Addr × Nat × Nat) : Value := .slice r.1 r.2.1 r.2.2
section
variable {w w' : World} {B : Nat} {v : Value} {k : Nat} {rs : List (Option Addr × Nat × Nat)} {ls : List (List UInt8)}
end
end Go.Proofs.YtmioifcbkhpdaaaGreat
set_option maxHeartbeats 16000000
set_option maxRecDepth 100000
/-! The code's: the blocks of a log, read; the number behind all that stand there. -/
namespace Go.Proofs.YtmioifcbkhpdaaaGreat
open Go.RowKit
def Bks (w : World) (q : Nat) (bs : List (List UInt8)) : Prop := w.heap[q]? = some (.cells (u8s bs.flatten).toArray 159 (0, 0)) ∧ ∀ x ∈ bs, x.length = 128
theorem Bks.below {w w' : World} {q : Nat} {bs : List (List UInt8)} (h : Bks w q bs) (hb : Below w.heap.size w w') : Bks w' q bs := ⟨(hb.block _ (zB h.1)).trans h.1, h.2⟩
def rdL (bs : List (List UInt8)) (N j : Nat) : List (List UInt8) := bs.take j ++ List.replicate (N - j) yQ
theorem rdL_len {bs : List (List UInt8)} {N j : Nat} (h : bs.length = N) (hj : j ≤ N) : (rdL bs N j).length = N := by
 simp [rdL];omega
theorem rdL_each {bs : List (List UInt8)} (h : ∀ x ∈ bs, x.length = 128) (N j : Nat) : ∀ x ∈ rdL bs N j, x.length = 128 := by
 intro x hx;rcases List.mem_append.1 hx with hx | hx
 ·exact h x (List.mem_of_mem_take hx)
 ·rw [List.eq_of_mem_replicate hx];rfl
theorem rdL_set {bs : List (List UInt8)} {N j : Nat} (h : bs.length = N) (hj : j < N) : (rdL bs N j).set j (bs[j]?.getD []) = rdL bs N (j + 1) := by
 have h1 : (bs.take j).length = j := by rw [List.length_take]; omega
 unfold rdL;rw [List.set_append_right _ _ (by omega), h1, Nat.sub_self, show N - j = (N - (j + 1)) + 1 by omega, List.replicate_succ, List.set_cons_zero, List.take_succ_eq_append_getElem (by omega), List.getElem?_eq_getElem (by omega)];simp only [List.append_assoc, List.singleton_append, Option.getD_some]
theorem wblk_info : (Tryz.prog.info? 159).map (fun i => (i.zero, i.size, i.bytes)) = some (some (.agg (Array.replicate 128 (.int .u8 0))), 128, 128) := by kernel_rfl
theorem make_wblks (w : World) (k : Nat) (h : k ≤ 65536) : (Instr.makeSlice 141 (.int .i64 (k : Int)) (.int .i64 (k : Int))).run Tryz.prog w = .ok (.slice (some ⟨w.heap.size, 0, none⟩) k k) (w.alloc (.cells (u8s (List.replicate k yQ).flatten).toArray 159)) := by
 obtain ⟨i0, hi, hz0, hz1, hz2⟩ := info_parts wblk_info;have hmk := run_make (P := Tryz.prog) (t := 141) (e := 159) w i0 (.agg (Array.replicate 128 (.int .u8 0))) Tryz.underlying141 hi hz0 .i64 .i64 (k : Int) (k : Int) (by omega) (by omega) (by rw [hz2]; omega) (by omega);rw [hmk, hz1, Int.toNat_natCast, made_blk]
theorem wblk_copy {w : World} {q : Nat} {l : List (List UInt8)} (hr : w.heap[q]? = some (.cells (u8s l.flatten).toArray 159 (0, 0))) (he : ∀ x ∈ l, x.length = 128) {i : Nat} (hi : i < l.length) {T : Nat → Prop} {A : Option Addr} {c : Nat} {x : List UInt8} (hy : Byt w T A 128 c x) :
    (Builtin.copy_ #[54, 54] 3 #[.slice (some ⟨q, i * 128, none⟩) 128 128, .slice A 128 c]).run Tryz.prog w = .ok (goInt (128 : Nat)) (w.setRow q (u8s (l.set i x).flatten).toArray) := by
 have hl := hy.len;have h := copy_bytes hr (o := i * 128) (m := 128) (m' := 128) hy (Nat.le_refl _) (by rw [flat_len he]; omega);have hf := flat_put he i hi x (by omega)
 have hx : (l[i]?.getD []).drop x.length = [] := by
  rw [List.getElem?_eq_getElem hi];exact List.drop_of_length_le (by rw [Option.getD_some, he _ (List.getElem_mem hi)]; omega)
 rw [hx, List.append_nil] at hf;rw [h, hf];rfl
theorem blocksOf_len {l : List (List UInt8)} {f n : Nat} (h : f + n ≤ l.length) : (zW l (f : Int) (n : Int)).length = n := by
 unfold zW;rw [List.length_take, List.length_drop];simp only [Int.toNat_natCast];omega
theorem blocksOf_at {l : List (List UInt8)} {f n j : Nat} (hj : j < n) : (zW l (f : Int) (n : Int))[j]? = l[f + j]? := by
 unfold zW;simp only [Int.toNat_natCast];rw [List.getElem?_take_of_lt hj, List.getElem?_drop]
theorem blocksOf_each {l : List (List UInt8)} (h : ∀ x ∈ l, x.length = 128) (f n : Int) : ∀ x ∈ zW l f n, x.length = 128 := fun x hx => h x (List.mem_of_mem_drop (List.mem_of_mem_take hx))
def RdPost (w : World) (bs : List (List UInt8)) (E : Int) (e : Ending) (w' : World) : Prop :=
 (if E = 0 then ∃ q, w.heap.size ≤ q ∧ e = .returned (.tuple #[.slice (some ⟨q, 0, none⟩) bs.length bs.length, .int .i64 0]) ∧ Bks w' q bs else e = .returned (.tuple #[.slice none 0 0, .int .i64 E])) ∧ Below w.heap.size w w'
theorem openErr_one {len : Nat} {down : Bool} {f n : Int} (h : f < 0 ∨ n < 1 ∨ (len : Int) - f < n) : zo len down f n = 1 := by
 unfold zo;rw [if_pos (by omega)]
theorem openErr_ok {len : Nat} {down : Bool} {f n : Int} (h : ¬ (f < 0 ∨ n < 1 ∨ (len : Int) - f < n)) : zo len down f n = if down then 30 else 0 := by
 unfold zo;rw [if_neg (by omega)]
theorem wread_no {w : World} {S : Nat → Prop} {g : Nat} {d : DM} (hd : Dk w S g d) (f n : Int) (hf : -9223372036854775808 ≤ f ∧ f ≤ 9223372036854775807) (h : f < 0 ∨ n < 1 ∨ (d.l.length : Int) - f < n) :
    Calls Tryz.prog 76 #[.pointer (some ⟨g, 0, none⟩), .int .i64 f, .int .i64 n] w fun e w' => e = .returned (.tuple #[.slice none 0 0, .int .i64 1]) ∧ w = w' := by
 by_cases h1 : f < 0
 ·clear h hf hd
  go_enter Tryz.func76, Tryz.ntmps76
  go_wp2_with fail
  go_ret2
  exact ⟨rfl, rfl⟩
 ·by_cases h2 : n < 1
  ·clear h hf hd
   go_enter Tryz.func76, Tryz.ntmps76
   go_wp2_with fail
   go_ret2
   exact ⟨rfl, rfl⟩
  ·(have h3 : (d.l.length : Int) - f < n := by omega);have hl := blen_any hd;have hs := IntWalk.i64_in ((d.l.length : Int) - f) (by have := hd.few; omega)
   (generalize d.l.length = N at *);clear h hf hd
   go_enter Tryz.func76, Tryz.ntmps76
   go_wp2_with (go_at_call 45; refine hl.mono ?_; clear hl; rintro _ _ ⟨rfl, rfl⟩)
   go_ret2
   exact ⟨rfl, rfl⟩
def WRd (w1 : World) (bs : List (List UInt8)) (N : Nat) (i : Value) (wr : World) : Prop := ∃ j : Nat, j ≤ N ∧ i = .int .i64 (j : Int) ∧ Bks wr w1.heap.size (rdL bs N j) ∧ Below w1.heap.size w1 wr
theorem wread_down {w : World} {S : Nat → Prop} {g : Nat} {d : DM} (hd : Dk w S g d) (f n : Nat) (h1 : 1 ≤ n) (h2 : f + n ≤ d.l.length) (hdn : d.down = true) :
    Calls Tryz.prog 76 #[.pointer (some ⟨g, 0, none⟩), .int .i64 (f : Int), .int .i64 (n : Int)] w fun e w' => e = .returned (.tuple #[.slice none 0 0, .int .i64 30]) ∧ Below w.heap.size w w' := by
 have hfew := hd.few;have hl := blen_any hd;have hs := IntWalk.i64_in ((d.l.length : Int) - (f : Int)) (by omega);have h3 : (n : Int) ≤ (d.l.length : Int) - (f : Int) := by omega
 have hmk := make_wblks w n (by omega);have hb1 : Below w.heap.size w (w.alloc (.cells (u8s (List.replicate n yQ).flatten).toArray 159)) := (Below.refl _ _).alloc (Nat.le_refl _) _;have H0 : Hid (WRd w [] n (.int .i64 0) (w.alloc (.cells (u8s (List.replicate n yQ).flatten).toArray 159))) := Lib.hid ⟨0, Nat.zero_le _, rfl, ⟨heap_alloc_new w _, rdL_each (by simp) n 0⟩, hb1⟩;have hrd := bread_any (hd.below hb1) (f : Int)
 have hrm : zz d (f : Int) = ([], 30) := by
  unfold zz;rw [if_pos hdn]
 rw [hrm] at hrd;have HRD := Lib.hid hrd;have HB1 := Lib.hid hb1;have h1' : (0 : Int) < (n : Int) := by omega
 have h1'' : ¬ (n : Int) < 1 := by omega
 have hF := IntWalk.i64_in (f : Int) (by omega)
 generalize d.l.length = N at *
 clear hd hfew h2 hdn hrm hrd hb1 h1
 generalize (w.alloc (.cells (u8s (List.replicate n yQ).flatten).toArray 159)) = w1 at *
 go_enter Tryz.func76, Tryz.ntmps76
 go_wp2_with (go_at_call 45; refine hl.mono ?_; clear hl; rintro _ _ ⟨rfl, rfl⟩)
 go_loopw [34] (fun i wr => i = .int .i64 0 ∧ wr = w1) (fun i _ => 0)
 case atStart => exact ⟨rfl, rfl⟩
 case round =>
  obtain ⟨rfl, rfl⟩ := hrel
  go_wp2_with (go_at_call 47; refine HRD.out.mono ?_; rintro _ w2 ⟨A, n2, c2, rfl, hy2, hb2, _⟩; have HB2 := Lib.hid (HB1.out.trans (hb2.mono HB1.out.size)); clear hb2 hy2)
  go_ret2
  exact ⟨rfl, HB2.out⟩
theorem wread_ok {w : World} {S : Nat → Prop} {g : Nat} {d : DM} (hd : Dk w S g d) (f n : Nat) (h1 : 1 ≤ n) (h2 : f + n ≤ d.l.length) (hdn : d.down = false) :
    Calls Tryz.prog 76 #[.pointer (some ⟨g, 0, none⟩), .int .i64 (f : Int), .int .i64 (n : Int)] w fun e w' => e = .returned (.tuple #[.slice (some ⟨w.heap.size, 0, none⟩) n n, .int .i64 0]) ∧ Bks w' w.heap.size (zW d.l (f : Int) (n : Int)) ∧ Below w.heap.size w w' := by
 have hfew := hd.few;have hl := blen_any hd;have hs := IntWalk.i64_in ((d.l.length : Int) - (f : Int)) (by omega);have h3 : (n : Int) ≤ (d.l.length : Int) - (f : Int) := by omega
 have hmk := make_wblks w n (by omega);have hb1 : Below w.heap.size w (w.alloc (.cells (u8s (List.replicate n yQ).flatten).toArray 159)) := (Below.refl _ _).alloc (Nat.le_refl _) _;obtain ⟨bs, hbs⟩ : ∃ bs, bs = zW d.l (f : Int) (n : Int) := ⟨_, rfl⟩
 rw [← hbs];have hbl : bs.length = n := by rw [hbs]; exact blocksOf_len h2
 have hbe : ∀ x ∈ bs, x.length = 128 := by rw [hbs]; exact blocksOf_each hd.ok.each _ _
 have H0 : Hid (WRd w bs n (.int .i64 0) (w.alloc (.cells (u8s (List.replicate n yQ).flatten).toArray 159))) := Lib.hid ⟨0, Nat.zero_le _, rfl, ⟨heap_alloc_new w _, rdL_each hbe n 0⟩, hb1⟩
 have HRD : Hid (∀ j W, j < n → Below w.heap.size w W → Calls Tryz.prog 47 #[.pointer (some ⟨g, 0, none⟩), .int .i64 ((f : Int) + (j : Int))] W fun e w' => ∃ A c, e = .returned (.tuple #[.slice A 128 c, .int .i64 0]) ∧ Byt w' (fun _ => True) A 128 c (bs[j]?.getD []) ∧ Below W.heap.size W w') := Lib.hid (fun j W hj hb => by
  have hrd := bread_any (hd.below hb) (((f + j : Nat) : Int))
  have hrm : zz d ((f + j : Nat) : Int) = (bs[j]?.getD [], 0) := by
   unfold zz;rw [if_neg (by simp [hdn]), if_neg (by omega), hbs, blocksOf_at hj];rfl
  rw [hrm, show ((f + j : Nat) : Int) = (f : Int) + (j : Int) by omega] at hrd;refine hrd.mono ?_;rintro _ w' ⟨A, k, c, rfl, h4, h5, _⟩
  have hk : k = 128 := by
   rw [← h4.len, List.getElem?_eq_getElem (by omega)];exact hbe _ (List.getElem_mem (by omega))
  subst hk;exact ⟨A, c, rfl, h4.mono fun _ _ _ => trivial, h5⟩)
 have HB := sq4 hbl hbe hfew h2;have h1'' : ¬ (n : Int) < 1 := by omega
 generalize d.l.length = N at *
 clear hd hfew h2 hdn hb1 h1 hbs hbl hbe
 generalize (w.alloc (.cells (u8s (List.replicate n yQ).flatten).toArray 159)) = w1 at *
 go_enter Tryz.func76, Tryz.ntmps76
 go_wp2_with (go_at_call 45; refine hl.mono ?_; clear hl; rintro _ _ ⟨rfl, rfl⟩)
 go_loopw [34] (fun i wr => WRd w bs n i wr) (fun i _ => n - (intOf i).toNat)
 case atStart => exact H0.out
 case round =>
  obtain ⟨j, hj, rfl, hbk, hbb⟩ := hrel;clear H0 hmk;have HK := sq2 hbk hbb;clear hbk hbb
  by_cases hlt : j < n
  ·(have hlt' : (j : Int) < (n : Int) := by omega);have hrd := HRD.out j wr hlt HK.out.2;have hadd := IntWalk.i64_in ((j : Int) + 1) (by have := HB.out.2.2; omega);have hadd2 := IntWalk.i64_in ((f : Int) + (j : Int)) (by have := HB.out.2.2; omega)
   go_upto_region 10 with (go_at_call 47; refine hrd.mono ?_; clear hrd; rintro _ w2 ⟨A, c2, rfl, hy2, hb2⟩)
   have hbk2 := HK.out.1.below hb2;have hcp := wblk_copy hbk2.1 hbk2.2 (i := j) (by rw [rdL_len HB.out.1 hj]; exact hlt) hy2;rw [rdL_set HB.out.1 hlt] at hcp
   have HT := Lib.hid (show Bks (w2.setRow w.heap.size (u8s (rdL bs n (j + 1)).flatten).toArray) w.heap.size (rdL bs n (j + 1)) ∧ Below w.heap.size w (w2.setRow w.heap.size (u8s (rdL bs n (j + 1)).flatten).toArray) from
    ⟨⟨zF hbk2.1, rdL_each HB.out.2.1 n (j + 1)⟩, zD (HK.out.2.trans (hb2.mono HK.out.2.size)) (Nat.le_refl _) _⟩)
   clear hbk2 hy2 hb2
   generalize w2.setRow w.heap.size (u8s (rdL bs n (j + 1)).flatten).toArray = w3 at *
   go_wp2_with fail
   go_roundw
   case rel => unfold WRd; exact ⟨j + 1, by omega, by simp, HT.out.1, HT.out.2⟩
   case measure => simp only [intOf]; omega
  ·(obtain rfl : j = n := by omega);have HE : Hid (rdL bs j j = bs) := Lib.hid (by unfold rdL; rw [List.take_of_length_le (by have := HB.out.1; omega), Nat.sub_self]; simp);clear hlt hj
   go_wp2_with fail
   go_ret2
   refine ⟨rfl, ?_, HK.out.2⟩;have := HK.out.1
   rwa [HE.out] at this
theorem wread_any {w : World} {S : Nat → Prop} {g : Nat} {d : DM} (hd : Dk w S g d) (f n : Int) (hf : -9223372036854775808 ≤ f ∧ f ≤ 9223372036854775807) :
    Calls Tryz.prog 76 #[.pointer (some ⟨g, 0, none⟩), .int .i64 f, .int .i64 n] w fun e w' => RdPost w (zW d.l f n) (zo d.l.length d.down f n) e w' := by
 by_cases h : f < 0 ∨ n < 1 ∨ (d.l.length : Int) - f < n
 ·rw [openErr_one h];refine (wread_no hd f n hf h).mono ?_;rintro _ w' ⟨rfl, rfl⟩;exact ⟨by rw [if_neg (by decide)], Below.refl _ _⟩
 ·rw [openErr_ok h];obtain ⟨f, rfl⟩ := Int.eq_ofNat_of_zero_le (show 0 ≤ f by omega);obtain ⟨n, rfl⟩ := Int.eq_ofNat_of_zero_le (show 0 ≤ n by omega)
  cases hdn : d.down with
  | true =>
    refine (wread_down hd f n (by omega) (by omega) hdn).mono ?_;rintro _ w' ⟨rfl, hb⟩;exact ⟨by rw [if_neg (by decide)]; rfl, hb⟩
  | false =>
    refine (wread_ok hd f n (by omega) (by omega) hdn).mono ?_;rintro _ w' ⟨rfl, hk, hb⟩;rw [show (if false = true then (30 : Int) else 0) = 0 from rfl];refine ⟨?_, hb⟩;rw [if_pos rfl, blocksOf_len (by omega)];exact ⟨_, Nat.le_refl _, rfl, hk⟩
/-! The number behind all that stand there. -/
theorem run_max3 {P : Program} (ts : Array TypeId) (t : TypeId) (k : IntKind) (x y z : Int) (w : World) : (Builtin.max_ ts t #[.int k x, .int k y, .int k z]).run P w = .ok (.int k (max (max x y) z)) w := by
 have h : (if z > (if y > x then y else x) then z else (if y > x then y else x)) = max (max x y) z := by split <;> split <;> omega
 simp only [gt_iff_lt] at h;simp [Builtin.max_, Builtin.max2, h]
def WAb (w1 : World) (bs : List (List UInt8)) (m i : Value) (wr : World) : Prop := ∃ j : Nat, j ≤ bs.length ∧ i = .int .i64 (j : Int) ∧ m = .int .u64 (xQ (bs.take j) : Int) ∧ Below w1.heap.size w1 wr
theorem wabove_any {w : World} {q : Nat} {bs : List (List UInt8)} (h : Bks w q bs) (hn : bs.length ≤ 65536) :
    Calls Tryz.prog 77 #[.slice (some ⟨q, 0, none⟩) bs.length bs.length] w fun e w' => e = .returned (.int .u64 (((xQ bs + 1) % 18446744073709551616 : Nat) : Int)) ∧ Below w.heap.size w w' := by
 have hz := yf;have HH := sq2 h hn;obtain ⟨n, hnn⟩ := sqz bs.length;rw [← hnn];have HN := Lib.hid hnn;clear h hn hnn
 go_enter Tryz.func77, Tryz.ntmps77
 go_wp2_with fail
 go_loopw [3, 8] (fun m i wr => WAb w bs m i wr) (fun _ i _ => n - (intOf i).toNat)
 case atStart => exact ⟨0, Nat.zero_le _, rfl, rfl, Below.refl _ _⟩
 case round =>
  obtain ⟨j, hj, rfl, rfl, hbb⟩ := hrel
  by_cases hlt : j < n
  ·(have hlt' : (j : Int) < (n : Int) := by omega);(have hjl : j < bs.length := by rw [← HN.out]; exact hlt);obtain ⟨b, hb⟩ := sqz (bs[j]?.getD [])
   have hb128 : b.length = 128 := by
    rw [hb, List.getElem?_eq_getElem hjl];exact HH.out.1.2 _ (List.getElem_mem hjl)
   have hnx : xQ (bs.take (j + 1)) = mostS (xQ (bs.take j)) b := by
    rw [List.take_succ_eq_append_getElem hjl, most_snoc, hb, List.getElem?_eq_getElem hjl];rfl
   obtain ⟨KS, hKS⟩ := sqz (zy b);have HKS := sq3 hKS hb128 hnx;have hr := (hbb.block _ (zB HH.out.1.1)).trans HH.out.1.1
   have HA : Hid (∀ (k : Nat) (v : Value), KS[k]? = some v → wr.cell? ((Addr.mk q (j * 128) none).add k) = some v) := Lib.hid fun k v hk => by
    rw [hKS, zy] at hk
    have hk2 : k < 128 := by
     have := (Array.getElem?_eq_some_iff.1 hk).1
     rwa [List.size_toArray, zn, hb128] at this
    rw [zK, zA hr, List.getElem?_toArray, u8s, List.getElem?_map, flat_at HH.out.1.2 j hjl k hk2, ← hb, ← hk, List.getElem?_toArray, u8s, List.getElem?_map]
   have HS : Hid (KS.size = 128 ∧ KS.all (·.oneCell') = true) := Lib.hid ⟨by rw [hKS, yh, hb128], by rw [hKS]; exact yx _⟩;have HG : Hid ((wr.alloc (.cells zS 159)).heap[wr.heap.size]? = some (.cells zS 159 (0, 0))) := Lib.hid (heap_alloc_new wr _);have HB := Lib.hid hbb;clear hKS hb128 hnx hr hbb hb
   go_upto_region 5 with (first
    | (refine sqwa 10 HA.out Tryz.underlying159 (by rw [HS.out.1]; exact zQ) ?_)
    | (refine zl 5 11 KS HG.out (by rw [HS.out.1]; exact zQ) (by rw [HS.out.1]; exact yE) HS.out.2 ?_))
   try simp only [Act.put]
   have e4 := zF (new := KS) HG.out;have HB4 := Lib.hid (zD (HB.out.alloc HB.out.size (.cells zS 159)) (show w.heap.size ≤ wr.heap.size from HB.out.size) KS);clear HG HA HB
   generalize (wr.alloc (.cells zS 159)).setRow wr.heap.size KS = w4 at *
   (generalize wr.heap.size = q5 at *);rw [HKS.out.1] at e4;obtain ⟨X, hX⟩ := sqz (yC (b.take 8));obtain ⟨Y, hY⟩ := sqz (yC (b.drop 120))
   have HNU : Hid (∀ W, Below w4.drew.heap.size w4.drew W → (Calls Tryz.prog 102 #[.slice (some ⟨q5, 0, none⟩) 128 128] W fun e w' => e = .returned (.int .u64 (X : Int)) ∧ W = w') ∧ (Calls Tryz.prog 102 #[.slice (some ⟨q5, 120, none⟩) 8 8] W fun e w' => e = .returned (.int .u64 (Y : Int)) ∧ W = w')) := Lib.hid (fun W hb => by
    have hr : W.heap[q5]? = some (.cells (u8s b).toArray 159 (0, 0)) := (hb.block q5 (zB e4)).trans e4;have h128 := HKS.out.2.1;have y1 := byt_sub hr (o := 0) (m := 128) (c := 128) (by omega) (by omega) (by decide) (S := fun _ => True) trivial;have y2 := byt_sub hr (o := 120) (m := 8) (c := 8) (by omega) (by omega) (by decide) (S := fun _ => True) trivial;have n1 := yo y1 (by omega);have n2 := yo y2 (by omega);rw [List.drop_zero, List.take_take, Nat.min_eq_left (by omega), ← hX] at n1;rw [List.take_take, Nat.min_self, List.take_of_length_le (by rw [List.length_drop]; omega), ← hY] at n2;exact ⟨n1, n2⟩)
   obtain ⟨M, hM⟩ := sqz (xQ (bs.take j));rw [← hM];(obtain ⟨Z, hZ⟩ : ∃ Z : Nat, Z = xQ (bs.take (j + 1)) := ⟨_, rfl⟩)
   have HZ : Hid (max (max (M : Int) (X : Int)) (Y : Int) = (Z : Int)) := Lib.hid (by
    rw [hZ, HKS.out.2.2, ← hM];unfold mostS;rw [← hX, ← hY];omega)
   have HZ2 := Lib.hid hZ;have hadd := IntWalk.i64_in ((j : Int) + 1) (by have := HH.out.2; omega);clear e4 hX hY hM hZ;refine sqg [sqv (.int .u64 (M : Int)), sqv (.slice (some ⟨q5, 0, none⟩) 128 128), sqv (.int .u64 (X : Int)), sqv (.slice (some ⟨q5, 120, none⟩) 8 8), sqv (.int .u64 (Y : Int)), sqv (.int .u64 (Z : Int)), sqv (.int .u64 (Z : Int))] 21 ?gmono ?gsteps ?gfin
   case gmono => exact ⟨sqm, sqm, sqm, sqm, sqm, sqm, sqm, trivial⟩
   case gsteps =>
    show Grow.allBelow _ 7
    iterate 7 refine And.intro ?_ ?_
    exact trivial
    ·exact squ 3
    ·refine sqi ?_;intro E W ec eg ef hG hd hu R HR;have e5 : E (.tmp 5) = .pointer (some ⟨q5, 0, none⟩) := hu 5;clear hd hu;go_simp;exact sqh HR
    ·refine sqi ?_;intro E W ec eg ef hG hd hu R HR;have e13 := sqe (hd 1 13);clear hd hu;have hy := HNU.out W hG;go_simp;refine hy.1.mono ?_;rintro _ w' ⟨rfl, rfl⟩;exact ⟨_, rfl, HR.out _ _ (Below.refl _ _) rfl⟩
    ·refine sqi ?_;intro E W ec eg ef hG hd hu R HR;have e5 : E (.tmp 5) = .pointer (some ⟨q5, 0, none⟩) := hu 5;clear hd hu;go_simp;exact sqh HR
    ·refine sqi ?_;intro E W ec eg ef hG hd hu R HR;have e15 := sqe (hd 3 15);clear hd hu;have hy := HNU.out W hG;go_simp;refine hy.2.mono ?_;rintro _ w' ⟨rfl, rfl⟩;exact ⟨_, rfl, HR.out _ _ (Below.refl _ _) rfl⟩
    ·refine sqi ?_;intro E W ec eg ef hG hd hu R HR;have e12 := sqe (hd 0 12);have e14 := sqe (hd 2 14);have e16 := sqe (hd 4 16);clear hd hu;have hmx := run_max3 (P := Tryz.prog) #[37, 37, 37] 37 .u64 (M : Int) (X : Int) (Y : Int) W;rw [HZ.out] at hmx;go_simp;exact sqh HR
    ·exact sqd 5 17
   case gfin =>
    intro W hG
    iterate 7 (refine Grow.fin_dst (by rfl) ?_; rintro _ rfl)
    simp only [Act.put, sqp];refine Grow.fin_end ?_;have HF := Lib.hid (HB4.out.drew.trans (hG.mono HB4.out.drew.size));clear hG
    go_wp2_with fail
    go_roundw
    case rel => unfold WAb; exact ⟨j + 1, by omega, by simp, by rw [← HZ2.out], HF.out⟩
    case measure => simp only [intOf]; omega
  ·(obtain rfl : j = n := by have := HN.out; omega);have HE : Hid (xQ (bs.take j) = xQ bs) := Lib.hid (by rw [List.take_of_length_le (by have := HN.out; omega)]);have HB := Lib.hid hbb;clear hlt hj hbb
   go_wp2_with fail
   go_ret
   exact ⟨by rw [HE.out]; rfl, HB.out⟩
end Go.Proofs.YtmioifcbkhpdaaaGreat
/-! The code's log: what stands in memory; what only reads it. -/
namespace Go.Proofs.YtmioifcbkhpdaaaGreat
open Go.RowKit
theorem own_turned' {w w' : World} {base : Nat} {e : TypeId} {size : Nat} {v : Value} {n : Nat} {xs : List Value} (h : w.ownsRow base e size v n xs) (hb : ∀ q, v.ownBlock = some q → w'.heap[q]? = w.heap[q]?) : w'.ownsRow base e size v n xs := by
 refine ⟨h.1, ?_⟩;rcases h.2 with hn | ⟨g, cap, cur, h1, h2, h3, rest⟩
 ·exact .inl hn
 ·exact .inr ⟨g, cap, cur, h1, h2, (hb g (by rw [h1]; rfl)).trans h3, rest⟩
def Recs (w : World) (S : Nat → Prop) (p : Nat) (v : Value) (l : List (List UInt8)) : Prop :=
 ∃ rs : List (Option Addr × Nat × Nat), rs.length = l.length ∧ w.ownsRow 0 54 1 v l.length (rs.map rowV) ∧ (∀ q, v.ownBlock = some q → S q ∧ q ≠ p) ∧
   ∀ (i : Nat) (r : Option Addr × Nat × Nat), rs[i]? = some r → Byt w (fun b => S b ∧ b ≠ p ∧ v.ownBlock ≠ some b) r.1 r.2.1 r.2.2 (l[i]?.getD [])
section
variable {w w' : World} {S T U : Nat → Prop} {p : Nat} {v : Value} {l : List (List UInt8)}
theorem Recs.nil (w : World) (S : Nat → Prop) (p : Nat) : Recs w S p (.slice none 0 0) [] := by
 refine ⟨[], rfl, World.ownsRow_nil _ _ _ _, fun q h => ?_, fun i r hr => ?_⟩
 ·simp [Value.ownBlock] at h
 ·simp at hr
theorem Recs.turned (h : Recs w S p v l) (ht : Turned T w w') (hd : ∀ b, b < w.heap.size → S b → b ≠ p → ¬ T b) : Recs w' S p v l := by
 obtain ⟨rs, h1, h2, h3, h4⟩ := h;exact ⟨rs, h1, own_turned' h2 fun q hq => ht.block q (h2.lt q hq).2 (hd q (h2.lt q hq).2 (h3 q hq).1 (h3 q hq).2), h3, fun i r hr => (h4 i r hr).turned ht fun b hb hs => hd b hb hs.1 hs.2.1⟩
theorem Recs.below (h : Recs w S p v l) (hb : Below w.heap.size w w') : Recs w' S p v l := h.turned (T := fun _ => False) ⟨hb.os, hb.tape, hb.output, hb.size, fun k hk _ => hb.block k hk⟩ fun _ _ _ _ h => h
theorem Recs.mono (h : Recs w S p v l) (hT : ∀ b, b < w.heap.size → S b → T b) : Recs w T p v l := by
 obtain ⟨rs, h1, h2, h3, h4⟩ := h;exact ⟨rs, h1, h2, fun q hq => ⟨hT q (h2.lt q hq).2 (h3 q hq).1, (h3 q hq).2⟩, fun i r hr => (h4 i r hr).mono fun b hb hs => ⟨hT b hb hs.1, hs.2⟩⟩
theorem Recs.slice (h : Recs w S p v l) : ∃ A c, v = .slice A l.length c ∧ l.length ≤ c ∧ c ≤ maxLen ∧ Rws w S A l.length c l := by
 obtain ⟨rs, h1, h2, h3, h4⟩ := h;rcases h2.2 with ⟨rfl, hn⟩ | ⟨g, cap, cur, rfl, hB, hg, hnc, hm, _, _⟩
 ·exact ⟨none, 0, by rw [hn], by omega, Nat.zero_le _, rfl, by omega, Nat.zero_le _, fun h => absurd h (by omega)⟩
 ·refine ⟨_, cap, rfl, hnc, hm, rfl, hnc, hm, fun _ => ⟨g, 0, rfl, (h3 g rfl).1, (Array.getElem?_eq_some_iff.1 hg).1, fun i hi => ?_⟩⟩;have hir : i < rs.length := by omega
  have := h2.cells (g := g) rfl i (rowV rs[i]) (by simp [List.getElem?_map, List.getElem?_eq_getElem hir]);rw [zK] at this;exact ⟨_, _, _, this, (h4 i rs[i] (List.getElem?_eq_getElem hir)).mono fun _ _ h => h.1⟩
theorem Recs.push (h : Recs w S p v l) {q : Nat} {A : Option Addr} {n c k : Nat} {b : List UInt8} (hq : w.cell? ⟨q, 0, none⟩ = some (.slice A n c)) (hy : Byt w U A n c b) (hU : ∀ k, k < w.heap.size → U k → k ≠ p ∧ ¬ S k) (hp : p < w.heap.size) (hl : l.length ≤ 1000000) (ty : TypeId) :
    ∃ v' W', (Builtin.append_ #[74, 74] ty #[v, .slice (some ⟨q, 0, none⟩) 1 k]).run Tryz.prog w = .ok v' W' ∧ Recs W' (fun b => S b ∨ U b ∨ (w.heap.size ≤ b ∧ b < W'.heap.size)) p v' (l ++ [b]) ∧ Turned (fun b => S b ∧ b ≠ p) w W' := by
 obtain ⟨i0, hi, hz0, hz1, hz2⟩ := info_parts sl_info;obtain ⟨rs, h1, h2, h3, h4⟩ := h
 obtain ⟨v', W', hr, g1, g2, _, g4⟩ := run_append_own_at (P := Tryz.prog) w 0 74 ty 54 i0 (.slice none 0 0) 1 24 Tryz.underlying74 hi hz0 hz1 hz2 rfl (by decide) v l.length (rs.map rowV) h2 ⟨q, 0, none⟩ 1 k [.slice A n c] rfl
  (fun j u hj => by
    match j, hj with
    | 0, hj => rw [zK]; simp at hj; subst hj; exact hq) (one_of rfl) (by unfold maxLen; omega) (by omega) (Nat.zero_le _)
 have ht : Turned (fun b => S b ∧ b ≠ p) w W' := Turned.of_gr g2 fun g hg => h3 g hg
 have keep : ∀ {A : Option Addr} {n c : Nat} {x : List UInt8} {V : Nat → Prop}, Byt w V A n c x → (∀ b, b < w.heap.size → V b → (S b ∨ U b) ∧ b ≠ p ∧ v.ownBlock ≠ some b) → Byt W' (fun b => (S b ∨ U b ∨ (w.heap.size ≤ b ∧ b < W'.heap.size)) ∧ b ≠ p ∧ v'.ownBlock ≠ some b) A n c x := fun {A n c x V} hx hV => by
  have hx1 : Byt w (fun b => V b ∧ b < w.heap.size) A n c x := hx.mono fun b hb h => ⟨h, hb⟩
  refine (hx1.grown g2 (fun g hg => .inl fun hh => (hV g hh.2 hh.1).2.2 hg)).mono fun b _ hb => ?_
  have hv := hV b hb.2 hb.1;refine ⟨hv.1.elim .inl (fun h => .inr (.inl h)), hv.2.1, ?_⟩;rcases g4 with hl | hl
  ·rw [hl]; exact hv.2.2
  ·rw [hl];intro e;(injection e with e);have := hb.2;omega
 refine ⟨v', W', hr, ⟨rs ++ [(A, n, c)], by simp [h1], ?_, ?_, fun i r hr => ?_⟩, ht⟩
 ·rw [List.length_append, List.length_singleton, List.map_append];exact g1
 ·intro g hg;rcases g4 with hl | hl
  ·rw [hl] at hg;exact ⟨.inl (h3 g hg).1, (h3 g hg).2⟩
  ·have hlt := (g1.lt g hg).2;rw [hl] at hg;(injection hg with hg);subst hg;exact ⟨.inr (.inr ⟨Nat.le_refl _, hlt⟩), by omega⟩
 ·rcases Nat.lt_or_ge i rs.length with hi | hi
  ·rw [List.getElem?_append_left hi] at hr;rw [List.getElem?_append_left (by omega)];exact keep (h4 i r hr) fun b _ hb => ⟨.inl hb.1, hb.2⟩
  ·have hi2 : i = rs.length := by
     have := (List.getElem?_eq_some_iff.1 hr).1;simp at this;omega
   subst hi2;rw [List.getElem?_append_right (Nat.le_refl _), Nat.sub_self] at hr;(injection hr with hr);subst hr;rw [List.getElem?_append_right (by omega), show rs.length - l.length = 0 by omega];refine keep hy fun b hb hu => ⟨.inr hu, (hU b hb hu).1, fun e => (hU b hb hu).2 (h3 b e).1⟩
end
def lcV (m : LM) (g : Nat) (v : Value) : Array Value := #[.pointer (some ⟨g, 0, none⟩), .int .i64 m.from_, .int .i64 m.n, v, .int .i64 (m.have_ : Int), .int .u64 (m.first : Int), .int .u64 (m.next : Int), .int .i64 m.e]
def Lg (w : World) (S : Nat → Prop) (p g : Nat) (m : LM) : Prop :=
 ∃ v, S p ∧ w.heap[p]? = some (.cells (lcV m g v) 118 (0, 0)) ∧ Recs w S p v m.l ∧ (m.l = [] → m.have_ = 0) ∧ ∀ x ∈ m.l, x.length ≤ 10000000
section
variable {w w' : World} {S T : Nat → Prop} {p g : Nat} {m : LM}
theorem Lg.turned (h : Lg w S p g m) (ht : Turned T w w') (hd : ∀ b, b < w.heap.size → S b → ¬ T b) : Lg w' S p g m := by
 obtain ⟨v, h1, h2, h3, h4⟩ := h;exact ⟨v, h1, (ht.block _ (zB h2) (hd _ (zB h2) h1)).trans h2, h3.turned ht fun b hb hs _ => hd b hb hs, h4⟩
theorem Lg.below (h : Lg w S p g m) (hb : Below w.heap.size w w') : Lg w' S p g m := by
 obtain ⟨v, h1, h2, h3, h4⟩ := h;exact ⟨v, h1, (hb.block _ (zB h2)).trans h2, h3.below hb, h4⟩
theorem Lg.mono (h : Lg w S p g m) (hT : ∀ b, b < w.heap.size → S b → T b) : Lg w T p g m := by
 obtain ⟨v, h1, h2, h3, h4⟩ := h;exact ⟨v, hT _ (zB h2) h1, h2, h3.mono hT, h4⟩
theorem Lg.drew (h : Lg w S p g m) : Lg w.drew S p g m := h.below ⟨rfl, rfl, rfl, Nat.le_refl _, fun _ _ => rfl⟩
end
/-! What only reads. -/
theorem wnext_any {w : World} {S : Nat → Prop} {p g : Nat} {m : LM} (h : Lg w S p g m) :
    Calls Tryz.prog 29 #[.pointer (some ⟨p, 0, none⟩)] w fun e w' => e = .returned (.int .u64 (m.next : Int)) ∧ w = w' := by
 obtain ⟨v, _, hb, _⟩ := h;have hc : w.cell? ⟨p, 6, none⟩ = some (.int .u64 (m.next : Int)) := zA hb 6;clear hb
 generalize m.next = x at *
 go_enter Tryz.func29, Tryz.ntmps29
 go_wp2_with fail
 go_ret
 exact ⟨rfl, rfl⟩
theorem yS {w : World} {S : Nat → Prop} {p g : Nat} {m : LM} (h : Lg w S p g m) :
    Calls Tryz.prog 54 #[.pointer (some ⟨p, 0, none⟩)] w fun e w' => e = .returned (.int .u64 (m.first : Int)) ∧ w = w' := by
 obtain ⟨v, _, hb, _⟩ := h;have hc : w.cell? ⟨p, 5, none⟩ = some (.int .u64 (m.first : Int)) := zA hb 5;clear hb
 generalize m.first = x at *
 go_enter Tryz.func54, Tryz.ntmps54
 go_wp2_with fail
 go_ret
 exact ⟨rfl, rfl⟩
theorem wfree_any {w : World} {S : Nat → Prop} {p g : Nat} {m : LM} (h : Lg w S p g m) (ok : m.Ok) :
    Calls Tryz.prog 66 #[.pointer (some ⟨p, 0, none⟩)] w fun e w' => e = .returned (.int .i64 (m.n - (m.have_ : Int))) ∧ w' = w.drew := by
 obtain ⟨v, _, hb, _⟩ := h;have hs := IntWalk.i64_in (m.n - (m.have_ : Int)) (by have := ok.n; have := ok.have_; omega);have hc : w.cell? ⟨p, 2, none⟩ = some (.int .i64 m.n) := zA hb 2;have hc2 : w.cell? ⟨p, 4, none⟩ = some (.int .i64 (m.have_ : Int)) := zA hb 4;clear hb ok
 generalize m.n = x at *
 generalize m.have_ = y at *
 go_enter Tryz.func66, Tryz.ntmps66
 go_wp2_with fail
 go_region
 go_wp2_with fail
 go_ret
 exact ⟨rfl, rfl⟩
/-! Of one that is none. -/
/-! How many blocks a record takes. -/
theorem wblocks_any (n : Nat) (hn : n ≤ 1000000) (w : World) :
    Calls Tryz.prog 65 #[.int .i64 (n : Int)] w fun e w' => e = .returned (.int .i64 (zP n : Int)) ∧ w = w' := by
 by_cases h0 : n = 0
 ·subst h0
  go_enter Tryz.func65, Tryz.ntmps65
  go_wp2_with fail
  go_ret
  exact ⟨rfl, rfl⟩
 ·have hle : ¬ (n : Int) ≤ 0 := by omega
  have h1 := IntWalk.i64_in ((n : Int) - 1) (by omega);obtain ⟨q, hq⟩ : ∃ q : Nat, q = (n - 1) / 110 := ⟨_, rfl⟩
  have h2 : ((n : Int) - 1).tdiv 110 = (q : Int) := by rw [Int.tdiv_eq_ediv_of_nonneg (by omega)]; omega
  have h3 := IntWalk.i64_in (q : Int) (by omega);have h4 := IntWalk.i64_in ((q : Int) + 1) (by omega);have HQ : Hid (((q : Int) + 1) = (zP n : Int)) := Lib.hid (by unfold zP; rw [if_neg h0]; omega);clear hq h0
  go_enter Tryz.func65, Tryz.ntmps65
  go_wp2_with fail
  go_ret
  exact ⟨by rw [← HQ.out]; rfl, rfl⟩
end Go.Proofs.YtmioifcbkhpdaaaGreat
/-! The code's log: whether a record may be added; its records, handed out; a record kept. -/
namespace Go.Proofs.YtmioifcbkhpdaaaGreat
open Go.RowKit
def refE (m : LM) (k : Nat) : Int := if m.e ≠ 0 then m.e else if m.n - (m.have_ : Int) < (k : Int) then 31 else if m.next = 0 ∨ 18446744073709551615 - m.next < k then 38 else 0
theorem wrefuse_any {w : World} {S : Nat → Prop} {p g : Nat} {m : LM} (h : Lg w S p g m) (ok : m.Ok) (k : Nat) (hk : k ≤ 1000000) :
    Calls Tryz.prog 90 #[.pointer (some ⟨p, 0, none⟩), .int .i64 (k : Int)] w fun e w' => e = .returned (.int .i64 (refE m k)) ∧ Below w.heap.size w w' := by
 have hfr := wfree_any h ok;obtain ⟨v, _, hb, _⟩ := h;have he : w.cell? ⟨p, 7, none⟩ = some (.int .i64 m.e) := zA hb 7;have hx : w.drew.cell? ⟨p, 6, none⟩ = some (.int .u64 (m.next : Int)) := zA (w := w.drew) hb 6;have hnx := ok.next
 have HD : Hid (Below w.heap.size w w.drew) := Lib.hid ⟨rfl, rfl, rfl, Nat.le_refl _, fun _ _ => rfl⟩;clear hb
 by_cases h1 : m.e = 0
 ·have h1' : (m.e != 0) = false := by simpa using h1
  by_cases h2 : m.n - (m.have_ : Int) < (k : Int)
  ·rw [show refE m k = 31 by unfold refE; rw [if_neg (by simpa using h1), if_pos h2]];clear h1 ok hnx hx
   generalize m.n - (m.have_ : Int) = x at *
   generalize m.e = y at *
   go_enter Tryz.func90, Tryz.ntmps90
   go_wp2_with (go_at_call 66; refine hfr.mono ?_; clear hfr; rintro _ _ ⟨rfl, rfl⟩)
   go_ret
   exact ⟨rfl, HD.out⟩
  ·by_cases h3 : m.next = 0
   ·rw [show refE m k = 38 by unfold refE; rw [if_neg (by simpa using h1), if_neg h2, if_pos (.inl h3)]];rw [h3] at hx;clear h1 ok hnx h3
    generalize m.n - (m.have_ : Int) = x at *
    generalize m.e = y at *
    go_enter Tryz.func90, Tryz.ntmps90
    go_wp2_with (go_at_call 66; refine hfr.mono ?_; clear hfr; rintro _ _ ⟨rfl, rfl⟩)
    go_ret
    exact ⟨rfl, HD.out⟩
   ·(have h3' : ((m.next : Int) == 0) = false := by simpa using h3);have hc := IntWalk.u64_in (k : Int) (by omega);have hs := IntWalk.u64_in (18446744073709551615 - (m.next : Int)) (by omega)
    by_cases h4 : 18446744073709551615 - m.next < k
    ·rw [show refE m k = 38 by unfold refE; rw [if_neg (by simpa using h1), if_neg h2, if_pos (.inr h4)]];have h4' : decide (18446744073709551615 - (m.next : Int) < (k : Int)) = true := decide_eq_true (by omega);clear h1 ok hnx h3 h4
     generalize m.n - (m.have_ : Int) = x at *
     generalize m.e = y at *
     generalize m.next = z at *
     go_enter Tryz.func90, Tryz.ntmps90
     go_wp2_with (go_at_call 66; refine hfr.mono ?_; clear hfr; rintro _ _ ⟨rfl, rfl⟩)
     go_ret
     exact ⟨rfl, HD.out⟩
    ·rw [show refE m k = 0 by unfold refE; rw [if_neg (by simpa using h1), if_neg h2, if_neg (by omega)]];have h4' : decide (18446744073709551615 - (m.next : Int) < (k : Int)) = false := decide_eq_false (by omega);clear h1 ok hnx h3 h4
     generalize m.n - (m.have_ : Int) = x at *
     generalize m.e = y at *
     generalize m.next = z at *
     go_enter Tryz.func90, Tryz.ntmps90
     go_wp2_with (go_at_call 66; refine hfr.mono ?_; clear hfr; rintro _ _ ⟨rfl, rfl⟩)
     go_ret
     exact ⟨rfl, HD.out⟩
 ·have h1' : (m.e != 0) = true := by simpa using h1
  rw [show refE m k = m.e by unfold refE; rw [if_pos (by simpa using h1)]];clear h1 ok hnx hfr hx
  generalize m.e = y at *
  go_enter Tryz.func90, Tryz.ntmps90
  go_wp2_with fail
  go_ret
  exact ⟨rfl, Below.refl _ _⟩
/-! The records, handed out. -/
def WRc (w1 : World) (l : List (List UInt8)) (i : Value) (wr : World) : Prop :=
 ∃ (j : Nat) (cs : Array Value), j ≤ l.length ∧ i = .int .i64 (j : Int) ∧ wr.heap[w1.heap.size]? = some (.cells cs 54 (0, 0)) ∧ cs.size = l.length ∧
   (∀ i, i < j → ∃ A n c, cs[i]? = some (.slice A n c) ∧ Byt wr (fun b => w1.heap.size < b) A n c (l[i]?.getD [])) ∧ Below w1.heap.size w1 wr
theorem made_sl (k : Nat) : (madeCells #[Value.slice none 0 0] k).size = k := by simp [madeCells]
theorem wrecords_any {w : World} {S : Nat → Prop} {p g : Nat} {m : LM} (h : Lg w S p g m) (ok : m.Ok) :
    Calls Tryz.prog 52 #[.pointer (some ⟨p, 0, none⟩)] w fun e w' => ∃ A n c, e = .returned (.slice A n c) ∧ Rws w' (w.heap.size ≤ ·) A n c m.l ∧ Below w.heap.size w w' := by
 obtain ⟨i0, hi, hz0, hz1, hz2⟩ := info_parts sl_info;obtain ⟨v, _, hb, hr, _, hlen⟩ := h;have hfew : m.l.length ≤ 65536 := by have := ok.few; have := ok.n; have := ok.have_; omega
 have hc : w.cell? ⟨p, 3, none⟩ = some v := zA hb 3;have hpl := zB hb;obtain ⟨A, c, rfl, hlc, hcm, hrw⟩ := hr.slice
 generalize m.l = l at *
 have hmk := run_make (P := Tryz.prog) (t := 74) (e := 54) w i0 (.slice none 0 0) Tryz.underlying74 hi hz0 .i64 .i64 (l.length : Int) (l.length : Int) (by omega) (by omega) (by rw [hz2]; omega) (by omega);rw [hz1, Int.toNat_natCast, Nat.mul_one] at hmk;obtain ⟨CS, hCS⟩ := sqz (madeCells (Value.slice none 0 0).cells l.length);rw [← hCS] at hmk;have H0 : Hid (WRc w l (.int .i64 0) (w.alloc (.cells CS 54))) := Lib.hid ⟨0, CS, Nat.zero_le _, rfl, heap_alloc_new w _, by rw [hCS]; exact made_sl _, fun i hi => absurd hi (by omega), (Below.refl _ _).alloc (Nat.le_refl _) _⟩;have HR := sq3 hrw hlen hfew;have hc1 : (w.alloc (.cells CS 54)).cell? ⟨p, 3, none⟩ = some (.slice A l.length c) := (((Below.refl w.heap.size w).alloc (Nat.le_refl _) (.cells CS 54)).cell (p := ⟨p, 3, none⟩) hpl).trans hc;clear hb hr hlen ok hlc hcm hrw hCS hpl
 generalize (w.alloc (.cells CS 54)) = w1 at *
 clear hfew hi hz0 hz1 hz2
 go_enter Tryz.func52, Tryz.ntmps52
 go_wp2_with fail
 go_loopw [19] (fun i wr => WRc w l i wr) (fun i _ => l.length - (intOf i).toNat)
 case atStart => exact H0.out
 case round =>
  obtain ⟨j, cs, hj, rfl, hrow, hcs, hall, hbb⟩ := hrel
  by_cases hlt : j < l.length
  ·(have hlt' : (j : Int) < (l.length : Int) := by omega);obtain ⟨bq, off, rfl, hS, hbl, hcell⟩ := HR.out.1.row (by omega);obtain ⟨A1, n1, c1, hc1, hy1⟩ := hcell j hlt;have hcj : wr.cell? ⟨bq, off + j, none⟩ = some (.slice A1 n1 c1) := (hbb.cell (p := ⟨bq, off + j, none⟩) hbl).trans hc1
   have hcl := clone_byt (hy1.below hbb) (by
    rw [← hy1.len, List.getElem?_eq_getElem hlt];have := HR.out.2.1 _ (List.getElem_mem hlt);simp only [Option.getD_some];omega)
   have hadd := IntWalk.i64_in ((j : Int) + 1) (by have := HR.out.2.2; omega);have HX := sq4 hrow hcs hall hbb;(obtain ⟨u, hu⟩ : ∃ u, cs[j]? = some u := ⟨_, Array.getElem?_eq_getElem (by omega)⟩);have HU := Lib.hid hu;clear hrow hcs hall hbb hc1 hy1 hcell hu
   go_upto_region 7 with fail
   go_wp2_with (go_at_call 48; refine hcl.mono ?_; clear hcl; rintro _ w2 ⟨A2, c2, rfl, hy2, hb2, _, _⟩; have HY2 := sq2 hy2 hb2; clear hy2 hb2; have hrow2 := (HY2.out.2.block _ (zB HX.out.1)).trans HX.out.1; have hcc : w2.cell? ⟨w.heap.size, j, none⟩ = some u := (zA hrow2 j).trans HU.out; have hff := zC hrow2 j)
   have HF := Lib.hid (show WRc w l (.int .i64 ((j : Int) + 1)) (w2.setCell ⟨w.heap.size, j, none⟩ (.slice A2 n1 c2)) from by
    have hlts := zB HX.out.1;refine ⟨j + 1, cs.setIfInBounds j (.slice A2 n1 c2), by omega, by simp, zG hrow2 j _, by simp [HX.out.2.1], fun i hi => ?_, (HX.out.2.2.2.trans (HY2.out.2.mono HX.out.2.2.2.size)).setCell (p := ⟨w.heap.size, j, none⟩) (Nat.le_refl _) _⟩
    have keep : ∀ {A : Option Addr} {n c : Nat} {x : List UInt8}, Byt w2 (fun b => w.heap.size < b) A n c x → Byt (w2.setCell ⟨w.heap.size, j, none⟩ (.slice A2 n1 c2)) (fun b => w.heap.size < b) A n c x := fun hy =>
     hy.turned (T := fun b => b = w.heap.size) ((Turned.refl (fun b => b = w.heap.size) _).set rfl j _) fun b _ h1 h2 => by omega
    by_cases hij : i = j
    ·subst hij;exact ⟨A2, n1, c2, by rw [Array.getElem?_setIfInBounds_self_of_lt (by rw [HX.out.2.1]; exact hlt)], keep (HY2.out.1.mono fun b _ hb => by omega)⟩
    ·obtain ⟨A3, n3, c3, h3, hy3⟩ := HX.out.2.2.1 i (by omega);exact ⟨A3, n3, c3, by rw [Array.getElem?_setIfInBounds_ne (by omega)]; exact h3, keep (hy3.below HY2.out.2)⟩)
   clear hrow2 hcc hff
   go_roundw
   case rel => exact HF.out
   case measure => simp only [intOf]; omega
  ·(obtain rfl : j = l.length := by omega);have HX := sq4 hrow hcs hall hbb;clear hlt hj hrow hcs hall hbb
   go_wp2_with fail
   go_ret
   refine ⟨_, _, _, rfl, ⟨rfl, Nat.le_refl _, by have := HR.out.2.2; unfold maxLen; omega, fun _ => ⟨w.heap.size, 0, rfl, Nat.le_refl _, zB HX.out.1, fun i hi => ?_⟩⟩, HX.out.2.2.2⟩;obtain ⟨A3, n3, c3, h3, hy3⟩ := HX.out.2.2.1 i hi;refine ⟨A3, n3, c3, ?_, hy3.mono fun b _ hb => by omega⟩;rw [Nat.zero_add, zA HX.out.1];exact h3
/-! A record kept. -/
def keepM (m : LM) (b : List UInt8) (last used : Nat) : LM := { m with first := if m.l = [] then last + 1 - used else m.first, have_ := used, l := m.l ++ [b] }
theorem keep_fin {w w1 : World} {S U : Nat → Prop} {p g : Nat} {m : LM} {v : Value} {A : Option Addr} {n c f used : Nat} {b : List UInt8} (hSp : S p) (hp1 : p < w1.heap.size) (hbl : w1.heap[p]? = some (.cells (lcV { m with first := f } g v) 118 (0, 0))) (hr : Recs w1 S p v m.l) (hfew : m.l.length ≤ 65536) (hy : Byt w1 U A n c b) (hU : ∀ k, k < w1.heap.size → U k → ¬ S k) (hlen : ∀ x ∈ m.l, x.length ≤ 10000000) (hb : b.length ≤ 10000000) (ht : Turned S w w1) :
    ∃ A' n' c' W', (Builtin.append_ #[74, 74] 74 #[v, .slice (some ⟨w1.heap.size, 0, none⟩) 1 1]).run Tryz.prog (w1.alloc (.cells #[.slice A n c] 54)) = .ok (.slice A' n' c') W' ∧
      W'.heap[p]? = some (.cells (lcV { m with first := f } g v) 118 (0, 0)) ∧ (W'.setCell ⟨p, 3, none⟩ (.slice A' n' c')).heap[p]? = some (.cells (lcV { m with first := f } g (.slice A' n' c')) 118 (0, 0)) ∧
      Lg ((W'.setCell ⟨p, 3, none⟩ (.slice A' n' c')).setCell ⟨p, 4, none⟩ (.int .i64 (used : Int))) (fun k => S k ∨ U k ∨ (w.heap.size ≤ k ∧ k < ((W'.setCell ⟨p, 3, none⟩ (.slice A' n' c')).setCell ⟨p, 4, none⟩ (.int .i64 (used : Int))).heap.size)) p g { m with first := f, have_ := used, l := m.l ++ [b] } ∧ Turned S w ((W'.setCell ⟨p, 3, none⟩ (.slice A' n' c')).setCell ⟨p, 4, none⟩ (.int .i64 (used : Int))) := by
 have hw2 := (Below.refl w1.heap.size w1).alloc (Nat.le_refl _) (.cells #[.slice A n c] 54);have hs2 : (w1.alloc (.cells #[.slice A n c] 54)).heap.size = w1.heap.size + 1 := by simp
 obtain ⟨v', w3, hrun, hrec, htn⟩ := (hr.below hw2).push (U := fun k => U k ∧ k < w1.heap.size) (q := w1.heap.size) (k := 1) (by rw [zA (heap_alloc_new w1 _)]; rfl) ((hy.mono fun b hb hu => ⟨hu, hb⟩).below hw2) (fun k _ hu => ⟨fun e => hU k hu.2 hu.1 (by rw [e]; exact hSp), hU k hu.2 hu.1⟩) (by rw [hs2]; omega) (by omega) 74;obtain ⟨A', c', rfl, _⟩ := hrec.slice;have hb3 : w3.heap[p]? = some (.cells (lcV { m with first := f } g v) 118 (0, 0)) := (htn.block p (by rw [hs2]; omega) (fun h => h.2 rfl)).trans ((hw2.block p hp1).trans hbl);have hb4 : (w3.setCell ⟨p, 3, none⟩ (.slice A' (m.l ++ [b]).length c')).heap[p]? = some (.cells (lcV { m with first := f } g (.slice A' (m.l ++ [b]).length c')) 118 (0, 0)) := zG hb3 3 _;have hb5 : ((w3.setCell ⟨p, 3, none⟩ (.slice A' (m.l ++ [b]).length c')).setCell ⟨p, 4, none⟩ (.int .i64 (used : Int))).heap[p]? = some (.cells (lcV { m with first := f, have_ := used, l := m.l ++ [b] } g (.slice A' (m.l ++ [b]).length c')) 118 (0, 0)) := zG hb4 4 _;have ht13 : Turned S w1 w3 := (Turned.of_below (S := S) hw2).trans htn fun k _ h => h.1
 have ht5 : Turned S w ((w3.setCell ⟨p, 3, none⟩ (.slice A' (m.l ++ [b]).length c')).setCell ⟨p, 4, none⟩ (.int .i64 (used : Int))) := ((ht.trans ht13 fun _ _ h => h).set hSp 3 _).set hSp 4 _;have hrec5 : Recs ((w3.setCell ⟨p, 3, none⟩ (.slice A' (m.l ++ [b]).length c')).setCell ⟨p, 4, none⟩ (.int .i64 (used : Int))) _ p (.slice A' (m.l ++ [b]).length c') (m.l ++ [b]) := hrec.turned (T := fun k => k = p) (((Turned.refl (fun k => k = p) w3).set rfl 3 _).set rfl 4 _) fun b _ _ hne h => hne h
 have hsz := ht.size;refine ⟨A', _, c', w3, hrun, hb3, hb4, ⟨_, .inl hSp, hb5, hrec5.mono fun k hk h => ?_, fun h => absurd (congrArg List.length h) (by simp), fun x hx => ?_⟩, ht5⟩
 ·rcases h with h | h | h
  ·exact .inl h
  ·exact .inr (.inl h.1)
  ·exact .inr (.inr ⟨by rw [hs2] at h; omega, hk⟩)
 ·rcases List.mem_append.1 hx with hx | hx
  ·exact hlen x hx
  ·rw [List.mem_singleton.1 hx];exact hb
theorem wkeep_any {w : World} {S U : Nat → Prop} {p g : Nat} {m : LM} (h : Lg w S p g m) (hfew : m.l.length ≤ 65536) {A : Option Addr} {n c : Nat} {b : List UInt8} (hy : Byt w U A n c b) (hU : ∀ k, k < w.heap.size → U k → ¬ S k) (hb : b.length ≤ 10000000) (last used : Nat) (hl : last < 18446744073709551616) (hu1 : 1 ≤ used) (hu2 : used ≤ 65536) (hlu : m.l = [] → used ≤ last) :
    Calls Tryz.prog 94 #[.pointer (some ⟨p, 0, none⟩), .slice A n c, .int .u64 (last : Int), .int .i64 (used : Int)] w fun e w' => e = .returned (.tuple #[]) ∧ Lg w' (fun k => S k ∨ U k ∨ (w.heap.size ≤ k ∧ k < w'.heap.size)) p g (keepM m b last used) ∧ Turned S w w' := by
 obtain ⟨v, hSp, hbl, hr, _, hlen⟩ := h;have hpl := zB hbl;obtain ⟨AV, cv, rfl, _, _, _⟩ := hr.slice;have hc3 : w.cell? ⟨p, 3, none⟩ = some (.slice AV m.l.length cv) := zA hbl 3
 by_cases h0 : m.l = []
 ·have hkm : keepM m b last used = { m with first := last + 1 - used, have_ := used, l := m.l ++ [b] } := by
    unfold keepM;rw [if_pos h0]
  rw [hkm];have hlu := hlu h0;obtain ⟨F, hF⟩ := sqz (last + 1 - used);rw [← hF];have hbl1 : (w.setCell ⟨p, 5, none⟩ (.int .u64 (F : Int))).heap[p]? = some (.cells (lcV { m with first := F } g (.slice AV m.l.length cv)) 118 (0, 0)) := zG hbl 5 _;have ht1 := (Turned.refl S w).set hSp 5 (.int .u64 (F : Int));obtain ⟨A', n', c', w3, hrun, hb3, hb4, hLg, hTn⟩ := keep_fin (w := w) (used := used) hSp (by simpa [World.setCell] using hpl) hbl1 (hr.turned (T := fun k => k = p) ((Turned.refl (fun k => k = p) w).set rfl 5 _) fun b _ _ hne h => hne h) hfew (hy.turned (T := fun k => k = p) ((Turned.refl (fun k => k = p) w).set rfl 5 _) fun k hk hu h => hU k hk hu (by rw [h]; exact hSp)) (by simpa [World.setCell] using hU) hlen hb ht1;have hc5 : w.cell? ⟨p, 5, none⟩ = some (.int .u64 (m.first : Int)) := zA hbl 5;have hf5 := zC hbl 5;have hc3b : (w.setCell ⟨p, 5, none⟩ (.int .u64 (F : Int))).cell? ⟨p, 3, none⟩ = some (.slice AV m.l.length cv) := zA hbl1 3;have hc3c : w3.cell? ⟨p, 3, none⟩ = some (.slice AV m.l.length cv) := zA hb3 3;have hf3c := zC hb3 3;have hc4 : (w3.setCell ⟨p, 3, none⟩ (.slice A' n' c')).cell? ⟨p, 4, none⟩ = some (.int .i64 (m.have_ : Int)) := zA hb4 4;have hf4 := zC hb4 4;have hs1 := IntWalk.u64_in ((last : Int) - (used : Int)) (by omega);have hs2 : IntKind.u64.wrap ((last : Int) - (used : Int) + 1) = (F : Int) := by rw [IntWalk.u64_in _ (by omega)]; omega
  have hs0 := IntWalk.u64_in (used : Int) (by omega);have hm0 : ((m.l.length : Int) == 0) = true := by simpa using h0
  have HL := sq2 hLg hTn;clear hLg hTn hb3 hb4 hbl1 hbl hr hy hU hlen hkm ht1 h0 hSp hb hpl hlu hfew hF hl hu1 hu2
  go_enter Tryz.func94, Tryz.ntmps94
  go_upto_region 2 with fail
  clear hc3 hc5 hf5
  generalize w.setCell ⟨p, 5, none⟩ (.int .u64 (F : Int)) = w1 at *
  go_wp2_with (at_builtin; refine zh (by rfl) _ _ 74 (by rfl) (by rfl) (by rfl) hrun ?_; clear hrun)
  refine bodyPost_end (results_none rfl _ _ _) rfl ?_;exact ⟨rfl, HL.out.1, HL.out.2⟩
 ·have hkm : keepM m b last used = { m with first := m.first, have_ := used, l := m.l ++ [b] } := by
    unfold keepM;rw [if_neg h0]
  rw [hkm];obtain ⟨A', n', c', w3, hrun, hb3, hb4, hLg, hTn⟩ := keep_fin (w := w) (f := m.first) (used := used) hSp hpl hbl hr hfew hy hU hlen hb (Turned.refl S w);have hc3c : w3.cell? ⟨p, 3, none⟩ = some (.slice AV m.l.length cv) := zA hb3 3;have hf3c := zC hb3 3;have hc4 : (w3.setCell ⟨p, 3, none⟩ (.slice A' n' c')).cell? ⟨p, 4, none⟩ = some (.int .i64 (m.have_ : Int)) := zA hb4 4;have hf4 := zC hb4 4;have hm0 : ((m.l.length : Int) == 0) = false := by simpa using h0
  have HL := sq2 hLg hTn;clear hLg hTn hb3 hb4 hbl hr hy hU hlen hkm h0 hSp hb hpl hlu hfew hl hu1 hu2
  go_enter Tryz.func94, Tryz.ntmps94
  go_wp2_with (at_builtin; refine zh (by rfl) _ _ 74 (by rfl) (by rfl) (by rfl) hrun ?_; clear hrun)
  refine bodyPost_end (results_none rfl _ _ _) rfl ?_;exact ⟨rfl, HL.out.1, HL.out.2⟩
end Go.Proofs.YtmioifcbkhpdaaaGreat
